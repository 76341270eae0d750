import PyProof.Rows.All
import Wide.All
import OpenK.AllK
import Wide.FinOn
import PyProof.EqAt
import PyProof.EqKinds
import PyProof.TupleCall
import HandS.ForMost
import HandS.Exc
import HandS.TryOnly
import HandS.ExcOwn
import HandS.WordsExc
import HandS.Zip
import HandS.IsInst
import HandS.Style
import HandS.Wide
import HandS.WideBits
import HandS.Gcd
import HandS.TupAny
import HandS.Deep
import HandS.ExcInit
import HandS.ExcField
import HandS.GenBody
import HandS.GenYield
import HandS.GenList
import HandS.List
import PyProof.Rows.SeqMore
import HandS.NamedTupSort
import HandS.TupSets
import HandS.Star
import HandS.Conv
import HandS.SortInts
import HandS.SetBool
import HandS.Ends
import PyProof.Rows.RegFStrParts
import HandS.ForSpec
import HandS.ExcIs
import PySem.Challenge.RW_closereckoned_k03_whole_partings_and_ato
set_option Elab.async false
set_option linter.all false
set_option autoImplicit false
set_option maxRecDepth 100000
set_option maxHeartbeats 4000000
/-! Dn: a reading of a def as a Lean function of plain data. -/
namespace Dn
open PySem PySem.Spec PyProof.Rows L2

/-- a value, by its data: d data that stays; l a new list that nobody else holds; b such a list, held by a name; h the resource -/
inductive SV where
  | d (x : PyData) | l (xs : List PyData) | b (xs : List PyData) | h
abbrev Env := List (Option SV)

/-- a resource: its objects, its state -/
structure Rs (γ : Type) where
  top : Addr
  fp : Addr → Prop
  R : γ → Hp → Prop
  loc : ∀ g H H', (∀ a, fp a → H' a = H a) → R g H → R g H'
  there : ∀ g H a, R g H → fp a → H a ≠ none
def rs0 : Rs Unit := ⟨0, fun _ => False, fun _ _ => True, fun _ _ _ _ h => h, fun _ _ _ _ h => h.elim⟩

inductive Out (γ : Type) where
  | ok (y : SV) (g : γ) | exc (C : Addr) (fs : List (Str × PyData)) (g : γ) | stuck

/-- the parameters of a def's reading: the written part, the resource, the heap and the data at the entry, the wish about exceptions -/
structure Pm (γ : Type) where
  K : PySem.W.Frag
  rs : Rs γ
  H0 : Hp
  D0 : Hp
  W : WX

abbrev Sub (D H : Hp) : Prop := ∀ a o, D a = some o → H a = some o

structure Grow (fp : Addr → Prop) (H D H' D' : Hp) : Prop where
  keep : ∀ a o, ¬ fp a → H a = some o → H' a = some o
  th : ∀ a, H a ≠ none → H' a ≠ none
  dk : Sub D D'
  dn : ∀ a, H a ≠ none → D a = none → D' a = none
/-- nothing that was there changes -/
structure LG (H D H' D' : Hp) : Prop where
  keep : Sub H H'
  dk : Sub D D'
  dn : ∀ a, H a ≠ none → D a = none → D' a = none
  sub : Sub D' H'

theorem ne_none {H : Hp} {a : Addr} {o : HO} (h : H a = some o) : H a ≠ none := by rw [h]; exact fun z => nomatch z
theorem of_ne {H : Hp} {a : Addr} (h : H a ≠ none) : ∃ o, H a = some o := by
  cases e : H a with
  | none => exact absurd e h
  | some o => exact ⟨o, rfl⟩
theorem Grow.refl {fp : Addr → Prop} {H D : Hp} : Grow fp H D H D := ⟨fun _ _ _ h => h, fun _ h => h, fun _ _ h => h, fun _ _ h => h⟩
theorem Grow.trans {fp : Addr → Prop} {H D H1 D1 H2 D2 : Hp} (a : Grow fp H D H1 D1) (b : Grow fp H1 D1 H2 D2) : Grow fp H D H2 D2 :=
  ⟨fun x o n h => b.keep x o n (a.keep x o n h), fun x h => b.th x (a.th x h), fun x o h => b.dk x o (a.dk x o h), fun x h n => b.dn x (a.th x h) (a.dn x h n)⟩
theorem LG.refl {H D : Hp} (s : Sub D H) : LG H D H D := ⟨fun _ _ h => h, fun _ _ h => h, fun _ _ h => h, s⟩
theorem LG.grow {fp : Addr → Prop} {H D H' D' : Hp} (a : LG H D H' D') : Grow fp H D H' D' :=
  ⟨fun x o _ h => a.keep x o h, fun x h => let ⟨o, e⟩ := of_ne h; ne_none (a.keep x o e), a.dk, a.dn⟩
theorem LG.trans {H D H1 D1 H2 D2 : Hp} (a : LG H D H1 D1) (b : LG H1 D1 H2 D2) : LG H D H2 D2 :=
  ⟨fun x o h => b.keep x o (a.keep x o h), fun x o h => b.dk x o (a.dk x o h), fun x h n => b.dn x (let ⟨o, e⟩ := of_ne h; ne_none (a.keep x o e)) (a.dn x h n), b.sub⟩
/-- an object laid; and laid as data -/
theorem LG.new {H D : Hp} {p : Addr} {o : HO} (s : Sub D H) (h : H p = none) : LG H D (upd H p o) D :=
  ⟨fun a u e => by rw [upd_ne (ne_of_none e h)]; exact e, fun _ _ e => e, fun _ _ e => e, fun a u e => by rw [upd_ne (ne_of_none (s a u e) h)]; exact s a u e⟩
theorem LG.newD {H D : Hp} {p : Addr} {o : HO} (s : Sub D H) (h : H p = none) : LG H D (upd H p o) (upd D p o) := by
  have hd : D p = none := by
    cases e : D p with
    | none => rfl
    | some u => rw [s p u e] at h; cases h
  refine ⟨fun a u e => by rw [upd_ne (ne_of_none e h)]; exact e, fun a u e => by rw [upd_ne (ne_of_none e hd)]; exact e, fun a n e => ?_, fun a u e => ?_⟩
  · have : a ≠ p := fun z => n (z ▸ h)
    rw [upd_ne this]; exact e
  · by_cases z : a = p
    · subst z; rw [upd_same] at e ⊢; exact e
    · rw [upd_ne z] at e ⊢; exact s a u e
/-- a new list becomes data -/
theorem LG.frz {H D : Hp} {p : Addr} {o : HO} (s : Sub D H) (h : H p = some o) (hd : D p = none) : Sub D (upd D p o) ∧ Sub (upd D p o) H :=
  ⟨fun a u e => by rw [upd_ne (ne_of_none e hd)]; exact e, fun a u e => by
    by_cases z : a = p
    · subst z; rw [upd_same] at e; cases e; exact h
    · rw [upd_ne z] at e; exact s a u e⟩

section
variable {K : PySem.W.Frag} {D D' : Hp}
theorem Sub.rd (s : Sub D D') {a : Addr} {u : HO} (h : Rd D a u) : Rd D' a u := by
  rcases h with h | ⟨o, h⟩
  · exact .inl (s _ _ h)
  · exact .inr ⟨o, s _ _ h⟩
theorem Sub.sl (s : Sub D D') {a : Addr} {xs : List V} (h : SqL K D a xs) : SqL K D' a xs := by
  rcases h with h | h
  · exact .inl (s.rd h)
  · exact .inr h
theorem Sub.st (s : Sub D D') {a : Addr} {xs : List V} (h : SqT K D a xs) : SqT K D' a xs := by
  rcases h with h | h
  · exact .inl (s.rd h)
  · exact .inr h
mutual
theorem Dp.up (s : Sub D D') : ∀ (d : PyData) (v : V), Dp K D v d → Dp K D' v d
  | .none, _, h => by cases h; exact .non
  | .bool _, _, h => by cases h; exact .bl _
  | .int _, _, h => by cases h; exact .int _
  | .str _, _, h => by cases h; exact .str _
  | .list ds, _, h => by
    cases h with
    | lst a b => exact .lst (Sub.sl s a) (DpAll.up s ds _ b)
  | .tuple ds, _, h => by
    cases h with
    | tup a b => exact .tup (Sub.st s a) (DpAll.up s ds _ b)
  | .dict _, _, h => by cases h
theorem DpAll.up (s : Sub D D') : ∀ (ds : List PyData) (vs : List V), DpAll K D vs ds → DpAll K D' vs ds
  | [], _, h => by cases h; exact .nil
  | d :: ds, _, h => by
    cases h with
    | cons a b => exact .cons (Dp.up s d _ a) (DpAll.up s ds _ b)
end
theorem DpAll.len : ∀ {vs : List V} {ds : List PyData}, DpAll K D vs ds → vs.length = ds.length
  | _, _, .nil => rfl
  | _, _, .cons _ t => by simp [DpAll.len t]
theorem DpAll.get : ∀ {vs : List V} {ds : List PyData} {i : Nat} {d : PyData}, DpAll K D vs ds → ds[i]? = some d → ∃ v, vs[i]? = some v ∧ Dp K D v d
  | _, _, _, _, .nil, e => by simp at e
  | _, _, 0, _, .cons a t, e => by simp at e; subst e; exact ⟨_, rfl, a⟩
  | _, _, i + 1, d, .cons _ t, e => by
    obtain ⟨v, h1, h2⟩ := DpAll.get (i := i) (d := d) t (by simpa using e)
    exact ⟨v, by simpa using h1, h2⟩
theorem DpAll.getV : ∀ {vs : List V} {ds : List PyData} {i : Nat} {v : V}, DpAll K D vs ds → vs[i]? = some v → ∃ d, ds[i]? = some d ∧ Dp K D v d
  | _, _, _, _, .nil, e => by simp at e
  | _, _, 0, _, .cons a t, e => by simp at e; subst e; exact ⟨_, rfl, a⟩
  | _, _, i + 1, d, .cons _ t, e => by
    obtain ⟨v, h1, h2⟩ := DpAll.getV (i := i) (v := d) t (by simpa using e)
    exact ⟨v, by simpa using h1, h2⟩
theorem DpAll.app : ∀ {vs us : List V} {ds es : List PyData}, DpAll K D vs ds → DpAll K D us es → DpAll K D (vs ++ us) (ds ++ es)
  | _, _, _, _, .nil, h => h
  | _, _, _, _, .cons a t, h => .cons a (DpAll.app t h)
theorem DpAll.take : ∀ {vs : List V} {ds : List PyData} (n : Nat), DpAll K D vs ds → DpAll K D (vs.take n) (ds.take n)
  | _, _, 0, _ => .nil
  | _, _, _ + 1, .nil => .nil
  | _, _, n + 1, .cons a t => .cons a (DpAll.take n t)
theorem DpAll.drop : ∀ {vs : List V} {ds : List PyData} (n : Nat), DpAll K D vs ds → DpAll K D (vs.drop n) (ds.drop n)
  | _, _, 0, h => h
  | _, _, _ + 1, .nil => .nil
  | _, _, n + 1, .cons _ t => DpAll.drop n t
theorem DpAll.rev : ∀ {vs : List V} {ds : List PyData}, DpAll K D vs ds → DpAll K D vs.reverse ds.reverse
  | _, _, .nil => .nil
  | _, _, .cons a t => by rw [List.reverse_cons, List.reverse_cons]; exact DpAll.app (DpAll.rev t) (.cons a .nil)
theorem DpAll.set {v : V} {d : PyData} (h : Dp K D v d) : ∀ {vs : List V} {ds : List PyData} (i : Nat), DpAll K D vs ds → DpAll K D (vs.set i v) (ds.set i d)
  | _, _, _, .nil => .nil
  | _, _, 0, .cons _ t => .cons h t
  | _, _, i + 1, .cons q t => .cons q (DpAll.set h i t)
/-- ints, bools as they lie -/
theorem DpAll.ints : ∀ {vs : List V} {ns : List Int}, DpAll K D vs (ns.map PyData.int) → vs = ns.map V.int
  | _, [], h => by cases h; rfl
  | _, n :: ns, h => by
    cases h with
    | cons a t => cases a; rw [DpAll.ints t]; rfl
theorem DpAll.bls : ∀ {vs : List V} {ns : List Bool}, DpAll K D vs (ns.map PyData.bool) → vs = ns.map V.bl
  | _, [], h => by cases h; rfl
  | _, n :: ns, h => by
    cases h with
    | cons a t => cases a; rw [DpAll.bls t]; rfl
theorem DpAll.of_ints : ∀ (ns : List Int), DpAll K D (ns.map V.int) (ns.map PyData.int)
  | [] => .nil
  | n :: ns => .cons (.int n) (DpAll.of_ints ns)
end

/-- a new list at v: its items are data -/
def LstAt {γ : Type} (K : PySem.W.Frag) (rs : Rs γ) (H D : Hp) (v : V) (xs : List PyData) : Prop := ∃ a vs, v = .ref a ∧ H a = some (.lst vs) ∧ D a = none ∧ ¬ rs.fp a ∧ DpAll K D vs xs
/-- a value as an operand -/
def AR {γ : Type} (K : PySem.W.Frag) (rs : Rs γ) (H D : Hp) (v : V) : SV → Prop
  | .d x => Dp K D v x
  | .l xs => LstAt K rs H D v xs
  | .b xs => LstAt K rs H D v xs
  | .h => v = .ref rs.top
/-- a value as a result: H0 the heap ahead -/
def VR {γ : Type} (K : PySem.W.Frag) (rs : Rs γ) (H0 H D : Hp) (v : V) : SV → Prop
  | .d x => Dp K D v x
  | .l xs => LstAt K rs H D v xs ∧ ∀ a, v = .ref a → H0 a = none
  | .b xs => LstAt K rs H D v xs
  | .h => v = .ref rs.top
section
variable {γ : Type} {K : PySem.W.Frag} {rs : Rs γ} {H0 H D H' D' : Hp} {v : V} {y : SV} {xs : List PyData}
theorem VR.ar (h : VR K rs H0 H D v y) : AR K rs H D v y := by
  cases y with
  | d x => exact h
  | l xs => exact h.1
  | b xs => exact h
  | h => exact h
theorem LstAt.up (g : Grow rs.fp H D H' D') (h : LstAt K rs H D v xs) : LstAt K rs H' D' v xs := by
  obtain ⟨a, vs, e, h1, h2, nf, h3⟩ := h
  exact ⟨a, vs, e, g.keep _ _ nf h1, g.dn _ (ne_none h1) h2, nf, DpAll.up g.dk _ _ h3⟩
/-- an operand stays while another expression runs -/
theorem AR.up (g : Grow rs.fp H D H' D') (h : AR K rs H D v y) : AR K rs H' D' v y := by
  cases y with
  | d x => exact Dp.up g.dk _ _ h
  | l xs => exact LstAt.up g h
  | b xs => exact LstAt.up g h
  | h => exact h
theorem VR.up (g : Grow rs.fp H D H' D') (h : VR K rs H0 H D v y) : VR K rs H0 H' D' v y := by
  cases y with
  | d x => exact Dp.up g.dk _ _ h
  | l xs => exact ⟨LstAt.up g h.1, h.2⟩
  | b xs => exact LstAt.up g h
  | h => exact h
/-- .. from a later heap ahead -/
theorem VR.back {H1 D0 D1 : Hp} (g : Grow rs.fp H0 D0 H1 D1) (h : VR K rs H1 H D v y) : VR K rs H0 H D v y := by
  cases y with
  | d x => exact h
  | l xs => exact ⟨h.1, fun a e => by
      cases q : H0 a with
      | none => rfl
      | some o => exact absurd (h.2 a e) (g.th a (ne_none q))⟩
  | b xs => exact h
  | h => exact h
end

/-- the state of a def's body, by data -/
structure Rep {γ : Type} (P : Pm γ) (σ : L2.St) (H D : Hp) (ρ : Env) (g : γ) : Prop where
  grow : Grow P.rs.fp P.H0 P.D0 H D
  sub : Sub D H
  f0 : ∀ a, P.rs.fp a → P.H0 a ≠ none
  len : ρ.length = σ.length
  slot : ∀ (i : Nat) (y : SV), ρ[i]? = some (some y) → ∃ v, σ[i]? = some (some v) ∧ AR P.K P.rs H D v y
  own : ∀ (i : Nat) (xs : List PyData) (a : Addr), ρ[i]? = some (some (.l xs)) → σ[i]? = some (some (.ref a)) → P.H0 a = none
  nob : ∀ (i : Nat) (xs : List PyData), ρ[i]? ≠ some (some (.b xs))
  apart : ∀ (i j : Nat) (a b : Addr) (xs ys : List PyData), i ≠ j → ρ[i]? = some (some (.l xs)) → ρ[j]? = some (some (.l ys)) → σ[i]? = some (some (.ref a)) → σ[j]? = some (some (.ref b)) → a ≠ b
  fd : ∀ a, P.rs.fp a → D a = none
  res : P.rs.R g H

section
variable {γ : Type} {P : Pm γ} {σ : L2.St} {H D H' D' : Hp} {ρ : Env} {g g' : γ}
theorem Rep.fpH (r : Rep P σ H D ρ g) {a : Addr} (h : P.rs.fp a) : H a ≠ none := P.rs.there g H a r.res h
theorem Rep.lg (r : Rep P σ H D ρ g) (l : LG H D H' D') : Rep P σ H' D' ρ g := by
  refine ⟨r.grow.trans l.grow, l.sub, r.f0, r.len, fun i y e => ?_, r.own, r.nob, r.apart, fun a h => l.dn a (r.fpH h) (r.fd a h), P.rs.loc g H H' (fun a h => ?_) r.res⟩
  · obtain ⟨v, e1, h⟩ := r.slot i y e
    exact ⟨v, e1, h.up l.grow⟩
  · obtain ⟨o, e⟩ := of_ne (r.fpH h)
    rw [e, l.keep a o e]
/-- behind a call that uses the resource -/
theorem Rep.step (r : Rep P σ H D ρ g) (l : Grow P.rs.fp H D H' D') (s : Sub D' H') (h : P.rs.R g' H') : Rep P σ H' D' ρ g' := by
  refine ⟨r.grow.trans l, s, r.f0, r.len, fun i y e => ?_, r.own, r.nob, r.apart, fun a h => l.dn a (r.fpH h) (r.fd a h), h⟩
  obtain ⟨v, e1, h⟩ := r.slot i y e
  exact ⟨v, e1, h.up l⟩
end
end Dn

set_option Elab.async false
set_option linter.all false
set_option autoImplicit false
set_option maxRecDepth 100000
set_option maxHeartbeats 4000000
namespace Dn
open PySem PySem.Spec PyProof.Rows L2

abbrev Fn (γ : Type) := Env → γ → Out γ
inductive OutA (γ : Type) where
  | ok (ys : List SV) (g : γ) | exc (C : Addr) (fs : List (Str × PyData)) (g : γ) | stuck
abbrev FnA (γ : Type) := Env → γ → OutA γ

abbrev FR (K : PySem.W.Frag) (D : Hp) : List (Str × V) → List (Str × PyData) → Prop := Paired fun p q => p.1 = q.1 ∧ Dp K D p.2 q.2
section
variable {γ : Type}
def ExcQ (P : Pm γ) (σ : L2.St) (H D : Hp) (ρ : Env) (C : Addr) (fs : List (Str × PyData)) (g' : γ) : Prop :=
  ∀ d vfs H' D', Rep P σ H' D' ρ g' → Grow P.rs.fp H D H' D' → H' d = some (.xd vfs) → FR P.K D' vfs fs → P.W (.ref C) (some d) σ H'
def Cont (P : Pm γ) (σ : L2.St) (H D : Hp) (ρ : Env) (o : Out γ) (Q : VK) : Prop :=
  match o with
  | .ok y g' => ∀ v H' D', Rep P σ H' D' ρ g' → Grow P.rs.fp H D H' D' → VR P.K P.rs H H' D' v y → Q v H'
  | .exc C fs g' => ExcQ P σ H D ρ C fs g'
  | .stuck => False
def tD (P : Pm γ) (φ : Fn γ) : TE := fun σ H Q => ∃ D ρ g, Rep P σ H D ρ g ∧ Cont P σ H D ρ (φ ρ g) Q
inductive ARs (K : PySem.W.Frag) (rs : Rs γ) (H D : Hp) : List V → List SV → Prop
  | nil : ARs K rs H D [] []
  | cons {v vs y ys} : AR K rs H D v y → ARs K rs H D vs ys → ARs K rs H D (v :: vs) (y :: ys)
def ContA (P : Pm γ) (σ : L2.St) (H D : Hp) (ρ : Env) (o : OutA γ) (Q : List V → Hp → Prop) : Prop :=
  match o with
  | .ok ys g' => ∀ vs H' D', Rep P σ H' D' ρ g' → Grow P.rs.fp H D H' D' → ARs P.K P.rs H' D' vs ys → Q vs H'
  | .exc C fs g' => ExcQ P σ H D ρ C fs g'
  | .stuck => False
def tDA (P : Pm γ) (φ : FnA γ) : TA := fun σ H Q => ∃ D ρ g, Rep P σ H D ρ g ∧ ContA P σ H D ρ (φ ρ g) Q
def ContT (P : Pm γ) (σ : L2.St) (H D : Hp) (ρ : Env) (o : Out γ) (Q : Bool → Hp → Prop) : Prop :=
  match o with
  | .ok (.d (.bool b)) g' => ∀ H' D', Rep P σ H' D' ρ g' → Grow P.rs.fp H D H' D' → Q b H'
  | .exc C fs g' => ExcQ P σ H D ρ C fs g'
  | _ => False
def tDT (P : Pm γ) (φ : Fn γ) : TT := fun σ H Q => ∃ D ρ g, Rep P σ H D ρ g ∧ ContT P σ H D ρ (φ ρ g) Q

abbrev DE (X : Cx) (P : Pm γ) (e : Expr) (φ : Fn γ) : Prop := PE X e (tD P φ)
abbrev DA (X : Cx) (P : Pm γ) (es : List Expr) (φ : FnA γ) : Prop := PA X es (tDA P φ)
abbrev DT (X : Cx) (P : Pm γ) (e : Expr) (φ : Fn γ) : Prop := PT X e (tDT P φ)

/-- run the rest behind a result -/
def Out.bind (o : Out γ) (k : SV → γ → Out γ) : Out γ := match o with
  | .ok y g => k y g
  | .exc C fs g => .exc C fs g
  | .stuck => .stuck
def Out.bindA (o : Out γ) (k : SV → γ → OutA γ) : OutA γ := match o with
  | .ok y g => k y g
  | .exc C fs g => .exc C fs g
  | .stuck => .stuck
def OutA.bind (o : OutA γ) (k : List SV → γ → Out γ) : Out γ := match o with
  | .ok y g => k y g
  | .exc C fs g => .exc C fs g
  | .stuck => .stuck
def OutA.bindA (o : OutA γ) (k : List SV → γ → OutA γ) : OutA γ := match o with
  | .ok y g => k y g
  | .exc C fs g => .exc C fs g
  | .stuck => .stuck
def Out.of (o : Option SV) (g : γ) : Out γ := match o with
  | some y => .ok y g
  | none => .stuck

variable {X : Cx} {P : Pm γ} {σ : L2.St} {H D H1 D1 H2 D2 : Hp} {ρ : Env} {g g1 g2 : γ} {e a b : Expr} {φ ψ : Fn γ} {Φ Ψ : FnA γ} {t : TE} {pos : Pos} {Q : VK}

theorem PE.imp {t t' : TE} (h : PE X e t) (i : ∀ σ H Q, t' σ H Q → t σ H Q) : PE X e t' := ⟨fun pins s σ H Q I q => h.run pins s σ H Q I (i σ H Q q)⟩
theorem PT.imp {t t' : TT} (h : PT X e t) (i : ∀ σ H Q, t' σ H Q → t σ H Q) : PT X e t' := ⟨fun pins s σ H Q I q => h.run pins s σ H Q I (i σ H Q q)⟩
theorem PA.imp {es : List Expr} {t t' : TA} (h : PA X es t) (i : ∀ σ H Q, t' σ H Q → t σ H Q) : PA X es t' := ⟨fun pos pins s σ H Q I q => h.run pos pins s σ H Q I (i σ H Q q)⟩

theorem ExcQ.back {C : Addr} {fs : List (Str × PyData)} (gr : Grow P.rs.fp H D H1 D1) (h : ExcQ P σ H D ρ C fs g) : ExcQ P σ H1 D1 ρ C fs g :=
  fun d vfs H' D' r g2 h1 h2 => h d vfs H' D' r (gr.trans g2) h1 h2
theorem Cont.back {o : Out γ} (gr : Grow P.rs.fp H D H1 D1) (h : Cont P σ H D ρ o Q) : Cont P σ H1 D1 ρ o Q := by
  cases o with
  | ok y g' => exact fun v H' D' r g2 vr => h v H' D' r (gr.trans g2) (vr.back gr)
  | exc C fs g' => exact ExcQ.back gr h
  | stuck => exact h
theorem ContA.back {o : OutA γ} {Q : List V → Hp → Prop} (gr : Grow P.rs.fp H D H1 D1) (h : ContA P σ H D ρ o Q) : ContA P σ H1 D1 ρ o Q := by
  cases o with
  | ok y g' => exact fun v H' D' r g2 vr => h v H' D' r (gr.trans g2) vr
  | exc C fs g' => exact ExcQ.back gr h
  | stuck => exact h
/-- THE bind: an expression, then what goes on with its value -/
theorem tD_bind {o : SV → γ → Out γ} (r : Rep P σ H D ρ g) (c : Cont P σ H D ρ ((φ ρ g).bind o) Q) {R : VK}
    (k : ∀ y g1 v H1 D1, φ ρ g = .ok y g1 → Rep P σ H1 D1 ρ g1 → Grow P.rs.fp H D H1 D1 → VR P.K P.rs H H1 D1 v y → Cont P σ H1 D1 ρ (o y g1) Q → R v H1) : tD P φ σ H R := by
  refine ⟨D, ρ, g, r, ?_⟩
  cases e : φ ρ g with
  | ok y g1 =>
    rw [e] at c
    exact fun v H1 D1 r1 gr vr => k y g1 v H1 D1 e r1 gr vr (Cont.back gr c)
  | exc C fs g1 =>
    rw [e] at c
    exact c
  | stuck =>
    rw [e] at c
    exact c
theorem tD_bindA {o : SV → γ → OutA γ} {Q : List V → Hp → Prop} (r : Rep P σ H D ρ g) (c : ContA P σ H D ρ ((φ ρ g).bindA o) Q) {R : VK}
    (k : ∀ y g1 v H1 D1, φ ρ g = .ok y g1 → Rep P σ H1 D1 ρ g1 → Grow P.rs.fp H D H1 D1 → VR P.K P.rs H H1 D1 v y → ContA P σ H1 D1 ρ (o y g1) Q → R v H1) : tD P φ σ H R := by
  refine ⟨D, ρ, g, r, ?_⟩
  cases e : φ ρ g with
  | ok y g1 =>
    rw [e] at c
    exact fun v H1 D1 r1 gr vr => k y g1 v H1 D1 e r1 gr vr (ContA.back gr c)
  | exc C fs g1 =>
    rw [e] at c
    exact c
  | stuck =>
    rw [e] at c
    exact c
theorem tDA_bind {o : List SV → γ → Out γ} (r : Rep P σ H D ρ g) (c : Cont P σ H D ρ ((Φ ρ g).bind o) Q) {R : List V → Hp → Prop}
    (k : ∀ ys g1 vs H1 D1, Φ ρ g = .ok ys g1 → Rep P σ H1 D1 ρ g1 → Grow P.rs.fp H D H1 D1 → ARs P.K P.rs H1 D1 vs ys → Cont P σ H1 D1 ρ (o ys g1) Q → R vs H1) : tDA P Φ σ H R := by
  refine ⟨D, ρ, g, r, ?_⟩
  cases e : Φ ρ g with
  | ok y g1 =>
    rw [e] at c
    exact fun v H1 D1 r1 gr vr => k y g1 v H1 D1 e r1 gr vr (Cont.back gr c)
  | exc C fs g1 =>
    rw [e] at c
    exact c
  | stuck =>
    rw [e] at c
    exact c
theorem tDA_bindA {o : List SV → γ → OutA γ} {Q : List V → Hp → Prop} (r : Rep P σ H D ρ g) (c : ContA P σ H D ρ ((Φ ρ g).bindA o) Q) {R : List V → Hp → Prop}
    (k : ∀ ys g1 vs H1 D1, Φ ρ g = .ok ys g1 → Rep P σ H1 D1 ρ g1 → Grow P.rs.fp H D H1 D1 → ARs P.K P.rs H1 D1 vs ys → ContA P σ H1 D1 ρ (o ys g1) Q → R vs H1) : tDA P Φ σ H R := by
  refine ⟨D, ρ, g, r, ?_⟩
  cases e : Φ ρ g with
  | ok y g1 =>
    rw [e] at c
    exact fun v H1 D1 r1 gr vr => k y g1 v H1 D1 e r1 gr vr (ContA.back gr c)
  | exc C fs g1 =>
    rw [e] at c
    exact c
  | stuck =>
    rw [e] at c
    exact c
/-- the end: a value, by a step that keeps all -/
theorem Cont.done {o : Option SV} {y : SV} (r : Rep P σ H D ρ g) (c : Cont P σ H D ρ (Out.of o g) Q) (e : o = some y) {v : V} {H' D' : Hp} (l : LG H D H' D') (vr : VR P.K P.rs H H' D' v y) : Q v H' := by
  subst e
  exact c v H' D' (r.lg l) l.grow vr
theorem Cont.of_some {o : Option SV} (c : Cont P σ H D ρ (Out.of o g) Q) : ∃ y, o = some y := by
  cases o with
  | none => exact False.elim c
  | some y => exact ⟨y, rfl⟩

/-! ### names, constants -/
def fVar (i : Nat) : Fn γ := fun ρ g => match ρ[i]? with
  | some (some (.d x)) => .ok (.d x) g
  | some (some (.l xs)) => .ok (.b xs) g
  | some (some .h) => .ok .h g
  | _ => .stuck
def fC (x : PyData) : Fn γ := fun _ g => .ok (.d x) g
theorem de_pe {i : Nat} (h : PE X e (tVar i)) : DE X P e (fVar i) := PE.imp h fun σ H Q ⟨D, ρ, g, r, c⟩ => by
  unfold fVar at c
  split at c
  · rename_i x e
    obtain ⟨v, e1, h⟩ := r.slot i _ e
    exact ⟨v, e1, c v H D r .refl h⟩
  · rename_i xs e
    obtain ⟨v, e1, h⟩ := r.slot i _ e
    exact ⟨v, e1, c v H D r .refl h⟩
  · rename_i e
    obtain ⟨v, e1, h⟩ := r.slot i _ e
    exact ⟨v, e1, c v H D r .refl h⟩
  · exact c.elim
theorem dvar (i : Nat) {x : Str} {pos : Pos} (hN : X.N[i]? = some x := by rfl) (hv : Vis X.env.scope x := by first | exact Or.inl rfl | exact Or.inr (Or.inl rfl) | exact Or.inr (Or.inr rfl)) (hd : (x == ("__debug__" : Str)) = false := by decide)
    (hcd : (x == ("__classdict__" : Str)) = false := by decide) : DE X P (.Name x pos) (fVar i) := de_pe (pe_var hN hv hd hcd)
theorem de_c {v : V} {x : PyData} (h : PE X e (tC v)) (d : ∀ D, Dp P.K D v x) : DE X P e (fC x) := PE.imp h fun σ H Q ⟨D, ρ, g, r, c⟩ => c v H D r .refl (d D)
theorem dint {i : Int} {j : Nat} : DE X P (.Constant (.int i) j pos) (fC (.int i)) := de_c pe_int fun _ => .int i
theorem dbl {i : Bool} {j : Nat} : DE X P (.Constant (.bool i) j pos) (fC (.bool i)) := de_c pe_bl fun _ => .bl i
theorem dnon {j : Nat} : DE X P (.Constant .none j pos) (fC .none) := de_c pe_non fun _ => .non
theorem dstr {i : Str} {j : Nat} : DE X P (.Constant (.str i) j pos) (fC (.str i)) := de_c pe_str fun _ => .str i

/-! ### operators -/
def OpOk (K : PySem.W.Frag) (r : R2) (F : SV → SV → Option SV) : Prop := ∀ {γ : Type} (rs : Rs γ) (H D : Hp) (vx vy : V) (x y z : SV) (Q : VK), Sub D H → (∀ a, rs.fp a → H a ≠ none) → AR K rs H D vx x → AR K rs H D vy y → F x y = some z →
  (∀ v H' D', LG H D H' D' → VR K rs H H' D' v z → Q v H') → r vx vy H Q
def UnOk (K : PySem.W.Frag) (r : V → Hp → VK → Prop) (F : SV → Option SV) : Prop := ∀ {γ : Type} (rs : Rs γ) (H D : Hp) (vx : V) (x z : SV) (Q : VK), Sub D H → (∀ a, rs.fp a → H a ≠ none) → AR K rs H D vx x → F x = some z →
  (∀ v H' D', LG H D H' D' → VR K rs H H' D' v z → Q v H') → r vx H Q
def CrOk (K : PySem.W.Frag) (r : List V → Hp → VK → Prop) (F : List SV → Option SV) : Prop := ∀ {γ : Type} (rs : Rs γ) (H D : Hp) (vs : List V) (ys : List SV) (z : SV) (Q : VK), Sub D H → (∀ a, rs.fp a → H a ≠ none) → ARs K rs H D vs ys → F ys = some z →
  (∀ v H' D', LG H D H' D' → VR K rs H H' D' v z → Q v H') → r vs H Q
def fOp (F : SV → SV → Option SV) (φ ψ : Fn γ) : Fn γ := fun ρ g => (φ ρ g).bind fun x g1 => (ψ ρ g1).bind fun y g2 => .of (F x y) g2
def fUn (F : SV → Option SV) (φ : Fn γ) : Fn γ := fun ρ g => (φ ρ g).bind fun x g1 => .of (F x) g1
def fCB (F : List SV → Option SV) (Φ : FnA γ) : Fn γ := fun ρ g => (Φ ρ g).bind fun x g1 => .of (F x) g1
theorem tOp_of {r : R2} {F : SV → SV → Option SV} (ok : OpOk P.K r F) {σ : L2.St} {H : Hp} {Q : VK} (h : tD P (fOp F φ ψ) σ H Q) : tOp r (tD P φ) (tD P ψ) σ H Q := by
  obtain ⟨D, ρ, g, r, c⟩ := h
  refine tD_bind r c fun x g1 vx H1 D1 _ r1 gr1 v1 c1 => ?_
  refine tD_bind r1 c1 fun y g2 vy H2 D2 _ r2 gr2 v2 c2 => ?_
  obtain ⟨z, hz⟩ := Cont.of_some c2
  exact ok P.rs H2 D2 vx vy x y z Q r2.sub (fun _ h => r2.fpH h) (v1.ar.up gr2) v2.ar hz fun v H' D' l vr => Cont.done r2 c2 hz l vr
theorem dop {op : Operator} {r : R2} {F : SV → SV → Option SV} (ho : OpR X (binaryOp op) r) (ok : OpOk P.K r F) (ha : DE X P a φ) (hb : DE X P b ψ) : DE X P (.BinOp a op b pos) (fOp F φ ψ) :=
  PE.imp (pe_op ho ha hb) fun _ _ _ => tOp_of ok
theorem dcmp {op : CmpOp} {r : R2} {F : SV → SV → Option SV} (ho : OpR X (compareOp op) r) (ok : OpOk P.K r F) (ha : DE X P a φ) (hb : DE X P b ψ) (hm : behindInMarks op b = false := by first | rfl | exact nomark _) : DE X P (.Compare a [op] [b] pos) (fOp F φ ψ) :=
  PE.imp (pe_cmpR ho ha hb hm) fun _ _ _ => tOp_of ok
theorem dix {r : R2} {F : SV → SV → Option SV} (ho : IxR X r) (ok : OpOk P.K r F) (ha : DE X P a φ) (hb : DE X P b ψ) (hs : PlainIx b := by exact fun _ _ => rfl) : DE X P (.Subscript a b pos) (fOp F φ ψ) :=
  PE.imp (pe_ix ho ha hb hs) fun _ _ _ => tOp_of ok
theorem dun {op : UnaryOp} {r : V → Hp → VK → Prop} {F : SV → Option SV} (ho : UnR X (unaryOp op) r) (ok : UnOk P.K r F) (ha : DE X P a φ) : DE X P (.UnaryOp op a pos) (fUn F φ) :=
  PE.imp (pe_un ho ha) fun σ H Q ⟨D, ρ, g, r, c⟩ => by
    refine tD_bind r c fun x g1 vx H1 D1 _ r1 gr1 v1 c1 => ?_
    obtain ⟨z, hz⟩ := Cont.of_some c1
    exact ok P.rs H1 D1 vx x z Q r1.sub (fun _ h => r1.fpH h) v1.ar hz fun v H' D' l vr => Cont.done r1 c1 hz l vr
theorem tCB_of {r : List V → Hp → VK → Prop} {F : List SV → Option SV} (ok : CrOk P.K r F) {σ : L2.St} {H : Hp} {Q : VK} (h : tD P (fCB F Φ) σ H Q) : tCB r (tDA P Φ) σ H Q := by
  obtain ⟨D, ρ, g, r, c⟩ := h
  refine tDA_bind r c fun x g1 vx H1 D1 _ r1 gr1 v1 c1 => ?_
  obtain ⟨z, hz⟩ := Cont.of_some c1
  exact ok P.rs H1 D1 vx x z Q r1.sub (fun _ h => r1.fpH h) v1 hz fun v H' D' l vr => Cont.done r1 c1 hz l vr

/-! ### argument lists -/
def aNil : FnA γ := fun _ g => .ok [] g
def aCons (φ : Fn γ) (Φ : FnA γ) : FnA γ := fun ρ g => (φ ρ g).bindA fun y g1 => (Φ ρ g1).bindA fun ys g2 => .ok (y :: ys) g2
theorem danil : DA X P [] aNil := PA.imp pa_nil fun σ H Q ⟨D, ρ, g, r, c⟩ => c [] H D r .refl .nil
theorem dacons {es : List Expr} (h : DE X P e φ) (t : DA X P es Φ) (hs : starEach (e :: es) X.env = (false, eval e X.env) :: starEach es X.env := by rfl) : DA X P (e :: es) (aCons φ Φ) :=
  PA.imp (pa_cons h t hs) fun σ H Q ⟨D, ρ, g, r, c⟩ => by
    refine tD_bindA r c fun x g1 vx H1 D1 _ r1 gr1 v1 c1 => ?_
    refine tDA_bindA r1 c1 fun xs g2 vs H2 D2 _ r2 gr2 v2 c2 => ?_
    exact c2 (vx :: vs) H2 D2 r2 .refl (.cons (v1.ar.up gr2) v2)
end
end Dn

set_option Elab.async false
set_option linter.all false
set_option autoImplicit false
set_option maxRecDepth 100000
set_option maxHeartbeats 4000000
namespace Dn
open PySem PySem.Spec PyProof.Rows L2
section
variable {γ : Type} {X : Cx} {P : Pm γ} {σ : L2.St} {H D H1 D1 H2 D2 H' D' : Hp} {ρ : Env} {g g1 g2 : γ} {e a b c : Expr} {φ ψ τ : Fn γ} {Φ Ψ : FnA γ} {t : TE} {pos : Pos} {Q : VK}

theorem Rep.in_ (r : Rep P σ H D ρ g) {i : Nat} (h : i < ρ.length) : i < σ.length := r.len ▸ h
/-- a slot gets a value -/
theorem Rep.put (r : Rep P σ H D ρ g) {i : Nat} {v : V} {y : SV} (hi : i < ρ.length) (h : AR P.K P.rs H D v y) (hb : ∀ xs, y ≠ .b xs)
    (hl : ∀ (xs : List PyData) (a : Addr), y = .l xs → v = .ref a → P.H0 a = none ∧ ∀ (j : Nat) (zs : List PyData), ρ[j]? = some (some (.l zs)) → σ[j]? ≠ some (some (.ref a))) : Rep P (σ.set i (some v)) H D (ρ.set i (some y)) g := by
  have hi' := r.in_ hi
  refine ⟨r.grow, r.sub, r.f0, by simpa using r.len, fun j z e => ?_, fun j xs a e1 e2 => ?_, fun j xs e => ?_, fun j k p q xs ys ne e1 e2 e3 e4 => ?_, r.fd, r.res⟩
  · by_cases hj : j = i
    · subst hj
      rw [List.getElem?_set_self hi] at e
      cases e
      exact ⟨v, List.getElem?_set_self hi', h⟩
    · rw [List.getElem?_set_ne (Ne.symm hj)] at e
      obtain ⟨w, e1, h1⟩ := r.slot j z e
      exact ⟨w, by rw [List.getElem?_set_ne (Ne.symm hj)]; exact e1, h1⟩
  · by_cases hj : j = i
    · subst hj
      rw [List.getElem?_set_self hi] at e1
      rw [List.getElem?_set_self hi'] at e2
      injection e1 with e1
      injection e1 with e1
      injection e2 with e2
      injection e2 with e2
      exact (hl xs a e1 e2).1
    · rw [List.getElem?_set_ne (Ne.symm hj)] at e1 e2
      exact r.own j xs a e1 e2
  · by_cases hj : j = i
    · subst hj
      rw [List.getElem?_set_self hi] at e
      injection e with e
      injection e with e
      exact hb xs e
    · rw [List.getElem?_set_ne (Ne.symm hj)] at e
      exact r.nob j xs e
  · by_cases hj : j = i
    · subst hj
      have hk : k ≠ j := Ne.symm ne
      rw [List.getElem?_set_self hi] at e1
      rw [List.getElem?_set_self hi'] at e3
      rw [List.getElem?_set_ne (Ne.symm hk)] at e2 e4
      injection e1 with e1
      injection e1 with e1
      injection e3 with e3
      injection e3 with e3
      intro z
      subst z
      exact (hl xs p e1 e3).2 k ys e2 e4
    · by_cases hk : k = i
      · subst hk
        rw [List.getElem?_set_self hi] at e2
        rw [List.getElem?_set_self hi'] at e4
        rw [List.getElem?_set_ne (Ne.symm hj)] at e1 e3
        injection e2 with e2
        injection e2 with e2
        injection e4 with e4
        injection e4 with e4
        intro z
        subst z
        exact (hl ys p e2 e4).2 j xs e1 e3
      · rw [List.getElem?_set_ne (Ne.symm hj)] at e1 e3
        rw [List.getElem?_set_ne (Ne.symm hk)] at e2 e4
        exact r.apart j k p q xs ys ne e1 e2 e3 e4
/-- from an expression's result -/
theorem Rep.store {v : V} {y : SV} {i : Nat} (r0 : Rep P σ H D ρ g) (r : Rep P σ H' D' ρ g1) (hi : i < ρ.length) (h : VR P.K P.rs H H' D' v y) (hb : ∀ xs, y ≠ .b xs) : Rep P (σ.set i (some v)) H' D' (ρ.set i (some y)) g1 := by
  refine r.put hi h.ar hb fun xs a e1 e2 => ?_
  subst e1
  have hn : H a = none := h.2 a e2
  refine ⟨?_, fun j zs e3 e4 => ?_⟩
  · cases q : P.H0 a with
    | none => rfl
    | some o => exact absurd hn (r0.grow.th a (ne_none q))
  · obtain ⟨w, e5, h5⟩ := r0.slot j _ e3
    rw [e4] at e5
    cases e5
    obtain ⟨a', vs, e6, h6, _⟩ := h5
    cases e6
    rw [hn] at h6
    cases h6
theorem Rep.forget (r : Rep P σ H D ρ g) (i : Nat) : Rep P (σ.set i none) H D (ρ.set i none) g := by
  have key : ∀ (l : Env) (j : Nat) y, (l.set i none)[j]? = some (some y) → j ≠ i ∧ l[j]? = some (some y) := fun l j y e => by
    by_cases hj : j = i
    · subst hj
      rw [List.getElem?_set] at e
      split at e <;> simp_all
    · exact ⟨hj, by rwa [List.getElem?_set_ne (Ne.symm hj)] at e⟩
  have key2 : ∀ (l : L2.St) (j : Nat) y, (l.set i none)[j]? = some (some y) → l[j]? = some (some y) := fun l j y e => by
    by_cases hj : j = i
    · subst hj
      rw [List.getElem?_set] at e
      split at e <;> simp_all
    · rwa [List.getElem?_set_ne (Ne.symm hj)] at e
  refine ⟨r.grow, r.sub, r.f0, by simpa using r.len, fun j z e => ?_, fun j xs a e1 e2 => r.own j xs a (key _ _ _ e1).2 (key2 _ _ _ e2), fun j xs e => r.nob j xs (key _ _ _ e).2,
    fun j k p q xs ys ne e1 e2 e3 e4 => r.apart j k p q xs ys ne (key _ _ _ e1).2 (key _ _ _ e2).2 (key2 _ _ _ e3) (key2 _ _ _ e4), r.fd, r.res⟩
  obtain ⟨hj, e'⟩ := key _ _ _ e
  obtain ⟨w, e1, h1⟩ := r.slot j z e'
  exact ⟨w, by rw [List.getElem?_set_ne (Ne.symm hj)]; exact e1, h1⟩
/-- an own list, held by a slot, becomes data -/
def frzAt (i : Nat) (ρ : Env) : Env := match ρ[i]? with
  | some (some (.l xs)) => ρ.set i (some (.d (.list xs)))
  | _ => ρ
theorem set_same {α : Type} : ∀ {l : List α} {i : Nat} {x : α}, l[i]? = some x → l.set i x = l
  | [], _, _, h => by simp at h
  | a :: l, 0, x, h => by simp at h; subst h; rfl
  | a :: l, i + 1, x, h => by
    have h' : l[i]? = some x := by simpa using h
    show a :: l.set i x = a :: l
    rw [set_same h']
theorem Rep.frz (r : Rep P σ H D ρ g) (i : Nat) : ∃ D', Rep P σ H D' (frzAt i ρ) g ∧ Sub D D' := by
  unfold frzAt
  split
  · rename_i xs e
    obtain ⟨v, e1, a, vs, rfl, h1, h2, nf, h3⟩ := r.slot i _ e
    have hi : i < ρ.length := (List.getElem?_eq_some_iff.mp e).1
    have h0 : P.H0 a = none := r.own i xs a e e1
    obtain ⟨s1, s2⟩ := LG.frz (o := .lst vs) r.sub h1 h2
    refine ⟨upd D a (.lst vs), ⟨⟨r.grow.keep, r.grow.th, fun x o hx => s1 _ _ (r.grow.dk x o hx), fun x hx hn => ?_⟩, s2, r.f0, by simpa using r.len, fun j z ej => ?_, fun j ys b e2 e3 => ?_, fun j ys ej => ?_, fun j k p q xs ys ne e1 e2 e3 e4 => ?_, fun x hx => ?_, r.res⟩, s1⟩
    · have hne : x ≠ a := fun z => hx (by rw [z]; exact h0)
      rw [upd_ne hne]
      exact r.grow.dn x hx hn
    · by_cases hj : j = i
      · subst hj
        rw [List.getElem?_set_self hi] at ej
        cases ej
        exact ⟨_, e1, Dp.lst (SqL.of upd_same) (DpAll.up s1 _ _ h3)⟩
      · rw [List.getElem?_set_ne (Ne.symm hj)] at ej
        obtain ⟨w, e5, h5⟩ := r.slot j z ej
        refine ⟨w, e5, ?_⟩
        have key : ∀ ys, LstAt P.K P.rs H D w ys → (z = .l ys ∨ z = .b ys) → LstAt P.K P.rs H (upd D a (.lst vs)) w ys := fun ys hl hz => by
          obtain ⟨b, us, rfl, k1, k2, k3, k4⟩ := hl
          have hb : b ≠ a := by
            rcases hz with hz | hz
            · subst hz
              exact r.apart j i b a ys xs hj ej e e5 e1
            · subst hz
              exact absurd ej (r.nob j ys)
          exact ⟨b, us, rfl, k1, by rw [upd_ne hb]; exact k2, k3, DpAll.up s1 _ _ k4⟩
        cases z with
        | d x => exact Dp.up s1 _ _ h5
        | l ys => exact key ys h5 (.inl rfl)
        | b ys => exact key ys h5 (.inr rfl)
        | h => exact h5
    · by_cases hj : j = i
      · subst hj
        rw [List.getElem?_set_self hi] at e2
        cases e2
      · rw [List.getElem?_set_ne (Ne.symm hj)] at e2
        exact r.own j ys b e2 e3
    · by_cases hj : j = i
      · subst hj
        rw [List.getElem?_set_self hi] at ej
        cases ej
      · rw [List.getElem?_set_ne (Ne.symm hj)] at ej
        exact r.nob j ys ej
    · by_cases hj : j = i
      · subst hj
        rw [List.getElem?_set_self hi] at e1
        cases e1
      · by_cases hk : k = i
        · subst hk
          rw [List.getElem?_set_self hi] at e2
          cases e2
        · rw [List.getElem?_set_ne (Ne.symm hj)] at e1
          rw [List.getElem?_set_ne (Ne.symm hk)] at e2
          exact r.apart j k p q xs ys ne e1 e2 e3 e4
    · have hne : x ≠ a := fun z => nf (by rw [← z]; exact hx)
      rw [upd_ne hne]
      exact r.fd x hx
  · exact ⟨D, r, fun _ _ h => h⟩
/-- the own list at a slot is written -/
theorem Rep.mut (r : Rep P σ H D ρ g) {i : Nat} {a : Addr} {xs ys : List PyData} {us : List V} (e : ρ[i]? = some (some (.l xs))) (es : σ[i]? = some (some (.ref a))) (h : DpAll P.K D us ys) :
    Rep P σ (upd H a (.lst us)) D (ρ.set i (some (.l ys))) g := by
  have hi : i < ρ.length := (List.getElem?_eq_some_iff.mp e).1
  have h0 : P.H0 a = none := r.own i xs a e es
  obtain ⟨v, e1, a', vs, q, h1, h2, nf, h3⟩ := r.slot i _ e
  rw [es] at e1
  cases e1
  cases q
  have nd : ∀ b o, D b = some o → b ≠ a := fun b o hb z => by rw [z, h2] at hb; cases hb
  refine ⟨⟨fun b o nb hb => ?_, fun b hb => ?_, r.grow.dk, r.grow.dn⟩, fun b o hb => ?_, r.f0, by simpa using r.len, fun j z ej => ?_, fun j ys b e2 e3 => ?_, fun j ys ej => ?_, fun j k p q xs ys ne e1 e2 e3 e4 => ?_, r.fd, P.rs.loc g H _ (fun b hb => upd_ne (fun z => nf (z ▸ hb))) r.res⟩
  · rw [upd_ne (fun z => by rw [z, h0] at hb; cases hb)]
    exact r.grow.keep b o nb hb
  · by_cases z : b = a
    · subst z; rw [upd_same]; exact fun z => nomatch z
    · rw [upd_ne z]; exact r.grow.th b hb
  · rw [upd_ne (nd b o hb)]
    exact r.sub b o hb
  · by_cases hj : j = i
    · subst hj
      rw [List.getElem?_set_self hi] at ej
      cases ej
      exact ⟨_, es, a, us, rfl, upd_same, h2, nf, h⟩
    · rw [List.getElem?_set_ne (Ne.symm hj)] at ej
      obtain ⟨w, e5, h5⟩ := r.slot j z ej
      refine ⟨w, e5, ?_⟩
      have key : ∀ zs, LstAt P.K P.rs H D w zs → (z = .l zs ∨ z = .b zs) → LstAt P.K P.rs (upd H a (.lst us)) D w zs := fun zs hl hz => by
        obtain ⟨b, ws, rfl, k1, k2, k3, k4⟩ := hl
        have hb : b ≠ a := by
          rcases hz with hz | hz
          · subst hz
            exact r.apart j i b a zs xs hj ej e e5 es
          · subst hz
            exact absurd ej (r.nob j zs)
        exact ⟨b, ws, rfl, by rw [upd_ne hb]; exact k1, k2, k3, k4⟩
      cases z with
      | d x => exact h5
      | l zs => exact key zs h5 (.inl rfl)
      | b zs => exact key zs h5 (.inr rfl)
      | h => exact h5
  · by_cases hj : j = i
    · subst hj
      rw [es] at e3
      cases e3
      exact h0
    · rw [List.getElem?_set_ne (Ne.symm hj)] at e2
      exact r.own j ys b e2 e3
  · by_cases hj : j = i
    · subst hj
      rw [List.getElem?_set_self hi] at ej
      cases ej
    · rw [List.getElem?_set_ne (Ne.symm hj)] at ej
      exact r.nob j ys ej
  · by_cases hj : j = i
    · subst hj
      have hk : k ≠ j := Ne.symm ne
      rw [List.getElem?_set_ne (Ne.symm hk)] at e2
      exact r.apart j k p q _ ys ne e e2 e3 e4
    · by_cases hk : k = i
      · subst hk
        rw [List.getElem?_set_ne (Ne.symm hj)] at e1
        exact r.apart j k p q xs _ ne e1 e e3 e4
      · rw [List.getElem?_set_ne (Ne.symm hj)] at e1
        rw [List.getElem?_set_ne (Ne.symm hk)] at e2
        exact r.apart j k p q xs ys ne e1 e2 e3 e4

/-! ### statements -/
inductive SOut (γ : Type) where
  | next (ρ : Env) (g : γ) | ret (y : SV) (g : γ) | brk (ρ : Env) (g : γ) | cont (ρ : Env) (g : γ) | exc (C : Addr) (fs : List (Str × PyData)) (ρ : Env) (g : γ) | stuck
abbrev SFn (γ : Type) := Env → γ → SOut γ
def RetQ (P : Pm γ) (y : SV) (g' : γ) (R : VK) : Prop := ∀ v H' D', Grow P.rs.fp P.H0 P.D0 H' D' → Sub D' H' → (∀ a, P.rs.fp a → D' a = none) → P.rs.R g' H' → VR P.K P.rs P.H0 H' D' v y → R v H'
def ExcS (P : Pm γ) (D : Hp) (C : Addr) (fs : List (Str × PyData)) (ρ' : Env) (g' : γ) : Prop :=
  ∀ σ' d vfs H' D', Rep P σ' H' D' ρ' g' → Sub D D' → H' d = some (.xd vfs) → FR P.K D' vfs fs → P.W (.ref C) (some d) σ' H'
def NxtQ (P : Pm γ) (D : Hp) (ρ' : Env) (g' : γ) (R : L2.St → Hp → Prop) : Prop := ∀ σ' H' D', Rep P σ' H' D' ρ' g' → Sub D D' → R σ' H'
def ContS (P : Pm γ) (D : Hp) (o : SOut γ) (E : Ends) : Prop :=
  match o with
  | .next ρ' g' => NxtQ P D ρ' g' E.nx
  | .ret y g' => RetQ P y g' E.rt
  | .brk ρ' g' => NxtQ P D ρ' g' E.bk
  | .cont ρ' g' => NxtQ P D ρ' g' E.ct
  | .exc C fs ρ' g' => ExcS P D C fs ρ' g'
  | .stuck => False
def tS (P : Pm γ) (ψ : SFn γ) : TS := fun E σ H => ∃ D ρ g, Rep P σ H D ρ g ∧ ContS P D (ψ ρ g) E
abbrev DS (X : Cx) (P : Pm γ) (st : Stmt) (ψ : SFn γ) : Prop := PS X st (tS P ψ)
abbrev DSs (X : Cx) (P : Pm γ) (st : List Stmt) (ψ : SFn γ) : Prop := PSs X st (tS P ψ)
theorem PS.imp {st : Stmt} {t t' : TS} (h : PS X st t) (i : ∀ E σ H, t' E σ H → t E σ H) : PS X st t' := ⟨fun pins s σ H E I q => h.run pins s σ H E I (i E σ H q)⟩
theorem PSs.imp {st : List Stmt} {t t' : TS} (h : PSs X st t) (i : ∀ E σ H, t' E σ H → t E σ H) : PSs X st t' := ⟨fun pins s σ H E I q => h.run pins s σ H E I (i E σ H q)⟩
theorem Sub.trans {D D1 D2 : Hp} (a : Sub D D1) (b : Sub D1 D2) : Sub D D2 := fun x o h => b x o (a x o h)
theorem Sub.refl (D : Hp) : Sub D D := fun _ _ h => h
theorem ContS.back {o : SOut γ} {E : Ends} (s : Sub D D1) (h : ContS P D o E) : ContS P D1 o E := by
  cases o with
  | next ρ' g' => exact fun σ' H' D' r s' => h σ' H' D' r (s.trans s')
  | ret y g' => exact h
  | brk ρ' g' => exact fun σ' H' D' r s' => h σ' H' D' r (s.trans s')
  | cont ρ' g' => exact fun σ' H' D' r s' => h σ' H' D' r (s.trans s')
  | exc C fs ρ' g' => exact fun σ' d vfs H' D' r s' => h σ' d vfs H' D' r (s.trans s')
  | stuck => exact h
def Out.bindS (o : Out γ) (ρ : Env) (k : SV → γ → SOut γ) : SOut γ := match o with
  | .ok y g => k y g
  | .exc C fs g => .exc C fs ρ g
  | .stuck => .stuck
def OutA.bindS (o : OutA γ) (ρ : Env) (k : List SV → γ → SOut γ) : SOut γ := match o with
  | .ok y g => k y g
  | .exc C fs g => .exc C fs ρ g
  | .stuck => .stuck
theorem tD_bindS {o : SV → γ → SOut γ} {E : Ends} (r : Rep P σ H D ρ g) (c : ContS P D ((φ ρ g).bindS ρ o) E) {R : VK}
    (k : ∀ y g1 v H1 D1, φ ρ g = .ok y g1 → Rep P σ H1 D1 ρ g1 → Grow P.rs.fp H D H1 D1 → VR P.K P.rs H H1 D1 v y → ContS P D1 (o y g1) E → R v H1) : tD P φ σ H R := by
  refine ⟨D, ρ, g, r, ?_⟩
  cases e : φ ρ g with
  | ok y g1 =>
    rw [e] at c
    exact fun v H1 D1 r1 gr vr => k y g1 v H1 D1 e r1 gr vr (ContS.back gr.dk c)
  | exc C fs g1 =>
    rw [e] at c
    exact fun d vfs H' D' r' gr h1 h2 => c σ d vfs H' D' r' gr.dk h1 h2
  | stuck =>
    rw [e] at c
    exact c
/-- a test -/
def Out.bindT (o : Out γ) (ρ : Env) (k : Bool → γ → SOut γ) : SOut γ := match o with
  | .ok (.d (.bool b)) g => k b g
  | .exc C fs g => .exc C fs ρ g
  | _ => .stuck
theorem tDT_bindS {o : Bool → γ → SOut γ} {E : Ends} (r : Rep P σ H D ρ g) (c : ContS P D ((φ ρ g).bindT ρ o) E) {R : Bool → Hp → Prop}
    (k : ∀ b g1 H1 D1, φ ρ g = .ok (.d (.bool b)) g1 → Rep P σ H1 D1 ρ g1 → Grow P.rs.fp H D H1 D1 → ContS P D1 (o b g1) E → R b H1) : tDT P φ σ H R := by
  refine ⟨D, ρ, g, r, ?_⟩
  unfold Out.bindT at c
  unfold ContT
  split at c
  · rename_i b g1 e
    try rw [e]
    exact fun H1 D1 r1 gr => k b g1 H1 D1 e r1 gr (ContS.back gr.dk c)
  · rename_i C fs g1 e
    try rw [e]
    exact fun d vfs H' D' r' gr h1 h2 => c σ d vfs H' D' r' gr.dk h1 h2
  · exact c.elim

def sNil : SFn γ := fun ρ g => .next ρ g
def sSeq (ψ1 ψ2 : SFn γ) : SFn γ := fun ρ g => match ψ1 ρ g with
  | .next ρ' g' => ψ2 ρ' g'
  | o => o
theorem dsnil : DSs X P [] sNil := PSs.imp pss_nil fun E σ H ⟨D, ρ, g, r, c⟩ => c σ H D r (Sub.refl D)
theorem dsone {st : Stmt} {ψ : SFn γ} (h : DS X P st ψ) : DSs X P [st] ψ := pss_one h
theorem dscons {st : Stmt} {rest : List Stmt} {ψ1 ψ2 : SFn γ} (h : DS X P st ψ1) (t : DSs X P rest ψ2) : DSs X P (st :: rest) (sSeq ψ1 ψ2) := PSs.imp (pss_cons h t) fun E σ H ⟨D, ρ, g, r, c⟩ => by
  refine ⟨D, ρ, g, r, ?_⟩
  unfold sSeq at c
  cases e : ψ1 ρ g with
  | next ρ' g' =>
    rw [e] at c
    exact fun σ' H' D' r' s' => ⟨D', ρ', g', r', ContS.back s' c⟩
  | ret y g' => rw [e] at c; exact c
  | brk ρ' g' => rw [e] at c; exact c
  | cont ρ' g' => rw [e] at c; exact c
  | exc C fs ρ' g' => rw [e] at c; exact c
  | stuck => rw [e] at c; exact c
/-- a list that a name holds is data from here on -/
def sFrz (i : Nat) (ψ : SFn γ) : SFn γ := fun ρ g => ψ (frzAt i ρ) g
theorem dsfrz {st : List Stmt} {ψ : SFn γ} (i : Nat) (h : DSs X P st ψ) : DSs X P st (sFrz i ψ) := PSs.imp h fun E σ H ⟨D, ρ, g, r, c⟩ => by
  obtain ⟨D', r', s⟩ := r.frz i
  exact ⟨D', _, g, r', ContS.back s c⟩
def sAsg (i : Nat) (φ : Fn γ) : SFn γ := fun ρ g => (φ ρ g).bindS ρ fun y g1 => match y with
  | .b _ => .stuck
  | y => if i < ρ.length then .next (ρ.set i (some y)) g1 else .stuck
theorem asg_of {i : Nat} {E : Ends} {σ : L2.St} {H : Hp} (h : tS P (sAsg i φ) E σ H) : tAsg (tD P φ) (gName i) E σ H := by
  obtain ⟨D, ρ, g, r, c⟩ := h
  refine tD_bindS r c fun y g1 v H1 D1 _ r1 gr vr c1 => ?_
  have key : (∀ xs, y ≠ .b xs) → ContS P D1 (if i < ρ.length then .next (ρ.set i (some y)) g1 else .stuck) E → E.nx (σ.set i (some v)) H1 := fun hb c2 => by
    by_cases hi : i < ρ.length
    · rw [if_pos hi] at c2
      exact c2 _ H1 D1 (r.store r1 hi vr hb) (Sub.refl _)
    · rw [if_neg hi] at c2
      exact c2.elim
  cases y with
  | d x => exact key (fun _ z => nomatch z) c1
  | l x => exact key (fun _ z => nomatch z) c1
  | b x => exact c1.elim
  | h => exact key (fun _ z => nomatch z) c1
theorem dset (i : Nat) {x : Str} {pos' : Pos} (nd : X.N.Nodup) (he : DE X P e φ) (hi : X.N[i]? = some x := by rfl) (hx : L2.Loc X.env.scope x := by first | exact Or.inl rfl | exact Or.inr rfl)
    (hs : swapsWith e (some (.Name x pos')) pos.line X.env = pure false := by rfl) (hf : X.fn x = true ∨ X.env.scope.names.lookup x = some .local := by first | exact .inl rfl | exact .inr rfl) : DS X P (.Assign [.Name x pos'] e pos) (sAsg i φ) :=
  PS.imp (ps_set nd hi hx he hs hf) fun _ _ _ => asg_of
def sDrop (φ : Fn γ) : SFn γ := fun ρ g => (φ ρ g).bindS ρ fun _ g1 => .next ρ g1
theorem dexpr (he : DE X P e φ) (hs : swapsWith e none pos.line X.env = pure false := by rfl) : DS X P (.Expr e pos) (sDrop φ) := PS.imp (ps_expr he hs) fun E σ H ⟨D, ρ, g, r, c⟩ =>
  tD_bindS r c fun y g1 v H1 D1 _ r1 gr vr c1 => c1 σ H1 D1 r1 (Sub.refl _)
theorem ddoc {x : Str} {j : Nat} {pos' : Pos} : DS X P (.Expr (.Constant (.str x) j pos) pos') sNil := PS.imp ps_doc fun E σ H ⟨D, ρ, g, r, c⟩ => c σ H D r (Sub.refl D)
theorem dpass : DS X P (.Pass pos) sNil := PS.imp ps_pass fun E σ H ⟨D, ρ, g, r, c⟩ => c σ H D r (Sub.refl D)
def sBrk : SFn γ := fun ρ g => .brk ρ g
def sCnt : SFn γ := fun ρ g => .cont ρ g
theorem dbreak : DS X P (.Break pos) sBrk := PS.imp ps_break fun E σ H ⟨D, ρ, g, r, c⟩ => c σ H D r (Sub.refl D)
theorem dcontinue : DS X P (.Continue pos) sCnt := PS.imp ps_continue fun E σ H ⟨D, ρ, g, r, c⟩ => c σ H D r (Sub.refl D)
/-- what is handed back: a list of the def's own is the caller's -/
def SV.out : SV → SV
  | .b xs => .l xs
  | y => y
def sRet (φ : Fn γ) : SFn γ := fun ρ g => (φ ρ g).bindS ρ fun y g1 => match y with
  | .b _ => .stuck
  | y => .ret y g1
theorem dret (he : DE X P e φ) : DS X P (.Return (some e) pos) (sRet φ) := PS.imp (ps_ret he) fun E σ H ⟨D, ρ, g, r, c⟩ =>
  tD_bindS r c fun y g1 v H1 D1 _ r1 gr vr c1 => by
    have key : (∀ xs, y ≠ .b xs) → RetQ P y g1 E.rt → E.rt v H1 := fun hb c2 => c2 v H1 D1 r1.grow r1.sub r1.fd r1.res (vr.back r.grow)
    cases y with
    | d x => exact key (fun _ z => nomatch z) c1
    | l x => exact key (fun _ z => nomatch z) c1
    | b x => exact c1.elim
    | h => exact key (fun _ z => nomatch z) c1
/-- return of a name that holds an own list -/
def sRetV (i : Nat) : SFn γ := fun ρ g => match ρ[i]? with
  | some (some (.b _)) => .stuck
  | some (some y) => .ret y g
  | _ => .stuck
theorem dretv (i : Nat) (he : PE X e (tVar i)) : DS X P (.Return (some e) pos) (sRetV i) := PS.imp (ps_ret he) fun E σ H ⟨D, ρ, g, r, c⟩ => by
  unfold sRetV at c
  split at c
  · exact c.elim
  · rename_i y hb e
    obtain ⟨v, e1, h⟩ := r.slot i _ e
    refine ⟨v, e1, c v H D r.grow r.sub r.fd r.res ?_⟩
    cases y with
    | d x => exact h
    | l xs => exact ⟨h, fun a ea => r.own i xs a e (by rw [e1, ea])⟩
    | b xs => exact absurd rfl (hb xs)
    | h => exact h
  · exact c.elim
theorem dretn : DS X P (.Return none pos) (fun _ g => .ret (.d .none) g) := PS.imp ps_retN fun E σ H ⟨D, ρ, g, r, c⟩ => c .non H D r.grow r.sub r.fd r.res Dp.non
def sIf (τ : Fn γ) (ψ1 ψ2 : SFn γ) : SFn γ := fun ρ g => (τ ρ g).bindT ρ fun b g1 => if b = true then ψ1 ρ g1 else ψ2 ρ g1
theorem dif_ {A B : List Stmt} {ψ1 ψ2 : SFn γ} (hc : DT X P c τ) (ha : DSs X P A ψ1) (hb : DSs X P B ψ2) : DS X P (.If c A B pos) (sIf τ ψ1 ψ2) := PS.imp (ps_if hc ha hb) fun E σ H ⟨D, ρ, g, r, c⟩ =>
  tDT_bindS r c fun b g1 H1 D1 _ r1 gr c1 => by
    cases b with
    | true => exact ⟨D1, ρ, g1, r1, c1⟩
    | false => exact ⟨D1, ρ, g1, r1, c1⟩
end
end Dn

set_option Elab.async false
set_option linter.all false
set_option autoImplicit false
set_option maxRecDepth 100000
set_option maxHeartbeats 4000000
namespace Dn
open PySem PySem.Spec PyProof.Rows L2
section
variable {γ : Type} {X : Cx} {P : Pm γ} {σ : L2.St} {H D H1 D1 H2 D2 H' D' : Hp} {ρ : Env} {g g1 g2 : γ} {e a b c : Expr} {φ ψ τ : Fn γ} {Φ Ψ : FnA γ} {t : TE} {pos : Pos} {Q : VK}

/-! ### tests -/
def Out.bindB (o : Out γ) (k : Bool → γ → Out γ) : Out γ := match o with
  | .ok (.d (.bool b)) g => k b g
  | .exc C fs g => .exc C fs g
  | _ => .stuck
theorem ContT.back {o : Out γ} {Q : Bool → Hp → Prop} (gr : Grow P.rs.fp H D H1 D1) (h : ContT P σ H D ρ o Q) : ContT P σ H1 D1 ρ o Q := by
  unfold ContT at *
  split at h
  · exact fun H' D' r g2 => h H' D' r (gr.trans g2)
  · exact ExcQ.back gr h
  · exact h.elim
/-- a test, then another one -/
theorem tDT_bindT {o : Bool → γ → Out γ} {Q : Bool → Hp → Prop} (r : Rep P σ H D ρ g) (c : ContT P σ H D ρ ((φ ρ g).bindB o) Q) {R : Bool → Hp → Prop}
    (k : ∀ b g1 H1 D1, φ ρ g = .ok (.d (.bool b)) g1 → Rep P σ H1 D1 ρ g1 → Grow P.rs.fp H D H1 D1 → ContT P σ H1 D1 ρ (o b g1) Q → R b H1) : tDT P φ σ H R := by
  refine ⟨D, ρ, g, r, ?_⟩
  unfold Out.bindB at c
  split at c
  · rename_i b g1 e
    rw [e]
    exact fun H1 D1 r1 gr => k b g1 H1 D1 e r1 gr (ContT.back gr c)
  · rename_i C fs g1 e
    rw [e]
    exact c
  · exact c.elim
/-- a test, then a value -/
theorem tDT_bindV {o : Bool → γ → Out γ} (r : Rep P σ H D ρ g) (c : Cont P σ H D ρ ((φ ρ g).bindB o) Q) {R : Bool → Hp → Prop}
    (k : ∀ b g1 H1 D1, φ ρ g = .ok (.d (.bool b)) g1 → Rep P σ H1 D1 ρ g1 → Grow P.rs.fp H D H1 D1 → Cont P σ H1 D1 ρ (o b g1) Q → R b H1) : tDT P φ σ H R := by
  refine ⟨D, ρ, g, r, ?_⟩
  unfold Out.bindB at c
  split at c
  · rename_i b g1 e
    rw [e]
    exact fun H1 D1 r1 gr => k b g1 H1 D1 e r1 gr (Cont.back gr c)
  · rename_i C fs g1 e
    rw [e]
    exact c
  · exact c.elim
/-- a value that is a bool, then a value -/
theorem tD_bindB {o : Bool → γ → Out γ} (r : Rep P σ H D ρ g) (c : Cont P σ H D ρ ((φ ρ g).bindB o) Q) {R : VK}
    (k : ∀ b g1 H1 D1, φ ρ g = .ok (.d (.bool b)) g1 → Rep P σ H1 D1 ρ g1 → Grow P.rs.fp H D H1 D1 → Cont P σ H1 D1 ρ (o b g1) Q → R (.bl b) H1) : tD P φ σ H R := by
  refine ⟨D, ρ, g, r, ?_⟩
  unfold Out.bindB at c
  split at c
  · rename_i b g1 e
    rw [e]
    exact fun v H1 D1 r1 gr vr => by
      cases vr
      exact k b g1 H1 D1 e r1 gr (Cont.back gr c)
  · rename_i C fs g1 e
    rw [e]
    exact c
  · exact c.elim
/-- a value as a test -/
theorem tDT_tB {Q : Bool → Hp → Prop} {σ : L2.St} {H : Hp} (h : tDT P φ σ H Q) : tD P φ σ H fun x H1 => ∃ c, x = .bl c ∧ Q c H1 := by
  obtain ⟨D, ρ, g, r, c⟩ := h
  refine ⟨D, ρ, g, r, ?_⟩
  unfold ContT at c
  split at c
  · rename_i b g1 e
    rw [e]
    exact fun v H1 D1 r1 gr vr => by
      cases vr
      exact ⟨b, rfl, c H1 D1 r1 gr⟩
  · rename_i C fs g1 e
    rw [e]
    exact c
  · exact c.elim
theorem dtval (h : DE X P e φ) (he : ∀ whole, isTrue e X.env whole = (do let v ← whole; standAt e.pos; holding [v] (truthy v)) := by intro _; rfl) : DT X P e φ := PT.imp (pt_val h he) fun σ H Q q => tDT_tB q
theorem tTest_of {F : SV → SV → Option SV} {r : R2} (ok : OpOk P.K r F) {Q : Bool → Hp → Prop} {σ : L2.St} {H : Hp} (h : tDT P (fOp F φ ψ) σ H Q) : tTest (tOp r (tD P φ) (tD P ψ)) σ H Q := by
  have q := tDT_tB h
  exact tOp_of ok q
theorem dtcmp {op : CmpOp} {r : R2} {F : SV → SV → Option SV} (ho : OpR X (compareOp op) r) (ok : OpOk P.K r F) (ha : DE X P a φ) (hb : DE X P b ψ) (hm : behindInMarks op b = false := by first | rfl | exact nomark _) : DT X P (.Compare a [op] [b] pos) (fOp F φ ψ) :=
  PT.imp (pt_cmpR ho ha hb hm) fun σ H Q q => tTest_of ok q
def fAnd (φ ψ : Fn γ) : Fn γ := fun ρ g => (φ ρ g).bindB fun b g1 => if b = true then ψ ρ g1 else .ok (.d (.bool false)) g1
def fOr (φ ψ : Fn γ) : Fn γ := fun ρ g => (φ ρ g).bindB fun b g1 => if b = true then .ok (.d (.bool true)) g1 else ψ ρ g1
def fNot (φ : Fn γ) : Fn γ := fun ρ g => (φ ρ g).bindB fun b g1 => .ok (.d (.bool (!b))) g1
def fIf (τ φ ψ : Fn γ) : Fn γ := fun ρ g => (τ ρ g).bindB fun b g1 => if b = true then φ ρ g1 else ψ ρ g1
abbrev DW (X : Cx) (P : Pm γ) (e : Expr) (φ : Fn γ) : Prop := PW X e (tDT P φ)
theorem dwand1 (h : DT X P a φ) : DW X P (.BoolOp .And [a] pos) φ := pw_and1 h
theorem dwor1 (h : DT X P a φ) : DW X P (.BoolOp .Or [a] pos) φ := pw_or1 h
theorem PW.imp {t t' : TT} (h : PW X e t) (i : ∀ σ H Q, t' σ H Q → t σ H Q) : PW X e t' := ⟨fun w pins s σ H Q I q => h.run w pins s σ H Q I (i σ H Q q)⟩
theorem tAnd_of {Q : Bool → Hp → Prop} {σ : L2.St} {H : Hp} (h : tDT P (fAnd φ ψ) σ H Q) : tAnd (tDT P φ) (tDT P ψ) σ H Q := by
  obtain ⟨D, ρ, g, r, c⟩ := h
  refine tDT_bindT r c fun b g1 H1 D1 _ r1 gr c1 => ?_
  cases b with
  | true => exact ⟨D1, ρ, g1, r1, c1⟩
  | false => exact c1 H1 D1 r1 .refl
theorem tOr_of {Q : Bool → Hp → Prop} {σ : L2.St} {H : Hp} (h : tDT P (fOr φ ψ) σ H Q) : tOr (tDT P φ) (tDT P ψ) σ H Q := by
  obtain ⟨D, ρ, g, r, c⟩ := h
  refine tDT_bindT r c fun b g1 H1 D1 _ r1 gr c1 => ?_
  cases b with
  | true => exact c1 H1 D1 r1 .refl
  | false => exact ⟨D1, ρ, g1, r1, c1⟩
theorem dwand {rest : List Expr} (ha : DT X P a φ) (hb : DW X P (.BoolOp .And (b :: rest) pos) ψ) : DW X P (.BoolOp .And (a :: b :: rest) pos) (fAnd φ ψ) := PW.imp (pw_and ha hb) fun _ _ _ => tAnd_of
theorem dwor {rest : List Expr} (ha : DT X P a φ) (hb : DW X P (.BoolOp .Or (b :: rest) pos) ψ) : DW X P (.BoolOp .Or (a :: b :: rest) pos) (fOr φ ψ) := PW.imp (pw_or ha hb) fun _ _ _ => tOr_of
theorem dtw (h : DW X P e φ) : DT X P e φ := h.pt
theorem dtnot (h : DT X P a φ) : DT X P (.UnaryOp .Not a pos) (fNot φ) := PT.imp (pt_not h) fun σ H Q ⟨D, ρ, g, r, c⟩ => by
  refine tDT_bindT r c fun b g1 H1 D1 _ r1 gr c1 => ?_
  exact c1 H1 D1 r1 .refl
theorem done1 {op : BoolOp} (h : DE X P a φ) : DE X P (.BoolOp op [a] pos) φ := pe_one h
theorem dand {rest : List Expr} (ha : DE X P a φ) (hb : DE X P (.BoolOp .And (b :: rest) pos) ψ) : DE X P (.BoolOp .And (a :: b :: rest) pos) (fAnd φ ψ) := PE.imp (pe_and ha hb) fun σ H Q ⟨D, ρ, g, r, c⟩ => by
  refine tD_bindB r c fun b g1 H1 D1 _ r1 gr c1 => ⟨b, rfl, ?_⟩
  cases b with
  | true => exact ⟨D1, ρ, g1, r1, c1⟩
  | false => exact c1 _ H1 D1 r1 .refl (Dp.bl _)
theorem dor {rest : List Expr} (ha : DE X P a φ) (hb : DE X P (.BoolOp .Or (b :: rest) pos) ψ) : DE X P (.BoolOp .Or (a :: b :: rest) pos) (fOr φ ψ) := PE.imp (pe_or ha hb) fun σ H Q ⟨D, ρ, g, r, c⟩ => by
  refine tD_bindB r c fun b g1 H1 D1 _ r1 gr c1 => ⟨b, rfl, ?_⟩
  cases b with
  | true => exact c1 _ H1 D1 r1 .refl (Dp.bl _)
  | false => exact ⟨D1, ρ, g1, r1, c1⟩
theorem dnot (h : DE X P a φ) : DE X P (.UnaryOp .Not a pos) (fNot φ) := PE.imp (pe_not h) fun σ H Q ⟨D, ρ, g, r, c⟩ => by
  refine tD_bindB r c fun b g1 H1 D1 _ r1 gr c1 => ⟨b, rfl, ?_⟩
  exact c1 _ H1 D1 r1 .refl (Dp.bl _)
theorem difx (hc : DT X P c τ) (ha : DE X P a φ) (hb : DE X P b ψ) : DE X P (.IfExp c a b pos) (fIf τ φ ψ) := PE.imp (pe_ifExp hc ha hb) fun σ H Q ⟨D, ρ, g, r, c⟩ => by
  refine tDT_bindV r c fun b g1 H1 D1 _ r1 gr c1 => ?_
  cases b with
  | true => exact ⟨D1, ρ, g1, r1, c1⟩
  | false => exact ⟨D1, ρ, g1, r1, c1⟩
/-- is None -/
def kNone : SV → Bool
  | .d .none => true
  | _ => false
def fIsN (φ : Fn γ) : Fn γ := fun ρ g => (φ ρ g).bind fun y g1 => .ok (.d (.bool (kNone y))) g1
def fNotN (φ : Fn γ) : Fn γ := fun ρ g => (φ ρ g).bind fun y g1 => .ok (.d (.bool (!kNone y))) g1
theorem ar_none {K : PySem.W.Frag} {rs : Rs γ} {v : V} {y : SV} (h : AR K rs H D v y) : decide (v = .non) = kNone y := by
  have key : ∀ xs, LstAt K rs H D v xs → decide (v = .non) = false := fun xs ⟨a, vs, e, _⟩ => by subst e; rfl
  cases y with
  | d x =>
    cases x with
    | none => cases h; rfl
    | bool b => cases h; rfl
    | int b => cases h; rfl
    | str b => cases h; rfl
    | list b => cases h; rfl
    | tuple b => cases h; rfl
    | dict b => cases h
  | l xs => exact key xs h
  | b xs => exact key xs h
  | h => 
    have e : v = .ref rs.top := h
    subst e; rfl
theorem disn {j : Nat} {pos' : Pos} (ha : DE X P a φ) : DE X P (.Compare a [.Is] [.Constant .none j pos'] pos) (fIsN φ) := PE.imp (pe_cmp (pc_isN ha)) fun σ H Q ⟨D, ρ, g, r, c⟩ =>
  tD_bind r c fun y g1 v H1 D1 _ r1 gr vr c1 => by rw [ar_none vr.ar]; exact c1 _ H1 D1 r1 .refl (Dp.bl _)
theorem disnotn {j : Nat} {pos' : Pos} (ha : DE X P a φ) : DE X P (.Compare a [.IsNot] [.Constant .none j pos'] pos) (fNotN φ) := PE.imp (pe_cmp (pc_notN ha)) fun σ H Q ⟨D, ρ, g, r, c⟩ =>
  tD_bind r c fun y g1 v H1 D1 _ r1 gr vr c1 => by rw [ar_none vr.ar]; exact c1 _ H1 D1 r1 .refl (Dp.bl _)
theorem dtcmpv {op : CmpOp} {t : TE} (h : PC X op a b t) (i : ∀ σ H Q, tD P φ σ H Q → t σ H Q) (h1 : behindInMarks op b = false := by first | exact nobehind _ (by decide) (by decide) | rfl) : DT X P (.Compare a [op] [b] pos) φ :=
  PT.imp (pt_cmp h h1) fun σ H Q q => i _ _ _ (tDT_tB q)
theorem dtisn {j : Nat} {pos' : Pos} (ha : DE X P a φ) : DT X P (.Compare a [.Is] [.Constant .none j pos'] pos) (fIsN φ) := dtcmpv (pc_isN ha) fun σ H Q ⟨D, ρ, g, r, c⟩ =>
  tD_bind r c fun y g1 v H1 D1 _ r1 gr vr c1 => by rw [ar_none vr.ar]; exact c1 _ H1 D1 r1 .refl (Dp.bl _)
theorem dtisnotn {j : Nat} {pos' : Pos} (ha : DE X P a φ) : DT X P (.Compare a [.IsNot] [.Constant .none j pos'] pos) (fNotN φ) := dtcmpv (pc_notN ha) fun σ H Q ⟨D, ρ, g, r, c⟩ =>
  tD_bind r c fun y g1 v H1 D1 _ r1 gr vr c1 => by rw [ar_none vr.ar]; exact c1 _ H1 D1 r1 .refl (Dp.bl _)

/-! ### a new list as data; displays -/
def fFrz (φ : Fn γ) : Fn γ := fun ρ g => (φ ρ g).bind fun y g1 => match y with
  | .l xs => .ok (.d (.list xs)) g1
  | .d x => .ok (.d x) g1
  | _ => .stuck
theorem Rep.frzNew (r0 : Rep P σ H D ρ g) (r : Rep P σ H1 D1 ρ g1) {v : V} {xs : List PyData} (h : VR P.K P.rs H H1 D1 v (.l xs)) : ∃ D2, Rep P σ H1 D2 ρ g1 ∧ Sub D1 D2 ∧ (∀ x, H x ≠ none → D1 x = none → D2 x = none) ∧ Dp P.K D2 v (.list xs) := by
  obtain ⟨⟨a, vs, rfl, h1, h2, nf, h3⟩, hn⟩ := h
  have ha : H a = none := hn a rfl
  have h0 : P.H0 a = none := by
    cases q : P.H0 a with
    | none => rfl
    | some o => exact absurd ha (r0.grow.th a (ne_none q))
  obtain ⟨s1, s2⟩ := LG.frz (o := .lst vs) r.sub h1 h2
  refine ⟨upd D1 a (.lst vs), ⟨⟨r.grow.keep, r.grow.th, fun x o hx => s1 _ _ (r.grow.dk x o hx), fun x hx hn => ?_⟩, s2, r.f0, r.len, fun j z ej => ?_, r.own, r.nob, r.apart, fun x hx => ?_, r.res⟩, s1, fun x hx hd => ?_, Dp.lst (SqL.of upd_same) (DpAll.up s1 _ _ h3)⟩
  · have hne : x ≠ a := fun z => hx (by rw [z]; exact h0)
    rw [upd_ne hne]
    exact r.grow.dn x hx hn
  · obtain ⟨w, e5, h5⟩ := r.slot j z ej
    refine ⟨w, e5, ?_⟩
    have key : ∀ ys, LstAt P.K P.rs H1 D1 w ys → (z = .l ys ∨ z = .b ys) → LstAt P.K P.rs H1 (upd D1 a (.lst vs)) w ys := fun ys hl hz => by
      obtain ⟨b, us, rfl, k1, k2, k3, k4⟩ := hl
      have hb : b ≠ a := by
        obtain ⟨w', e6, h6⟩ := r0.slot j z ej
        rw [e5] at e6
        cases e6
        intro q
        subst q
        rcases hz with hz | hz
        · subst hz
          obtain ⟨a', ws, q', k5, _⟩ := h6
          cases q'
          rw [ha] at k5
          cases k5
        · subst hz
          exact absurd ej (r0.nob j ys)
      exact ⟨b, us, rfl, k1, by rw [upd_ne hb]; exact k2, k3, DpAll.up s1 _ _ k4⟩
    cases z with
    | d x => exact Dp.up s1 _ _ h5
    | l ys => exact key ys h5 (.inl rfl)
    | b ys => exact key ys h5 (.inr rfl)
    | h => exact h5
  · have hne : x ≠ a := fun z => nf (by rw [← z]; exact hx)
    rw [upd_ne hne]
    exact r.fd x hx
  · have hne : x ≠ a := fun z => hx (by rw [z]; exact ha)
    rw [upd_ne hne]
    exact hd
theorem dfrz (h : DE X P e φ) : DE X P e (fFrz φ) := PE.imp h fun σ H Q ⟨D, ρ, g, r, c⟩ => by
  refine ⟨D, ρ, g, r, ?_⟩
  unfold fFrz at c
  cases q : φ ρ g with
  | ok y g1 =>
    rw [q] at c
    intro v H1 D1 r1 gr vr
    cases y with
    | d x => exact c v H1 D1 r1 gr vr
    | l xs =>
      obtain ⟨D2, r2, s, dn, dp⟩ := r.frzNew r1 vr
      exact c v H1 D2 r2 ⟨gr.keep, gr.th, fun x o hx => s _ _ (gr.dk x o hx), fun x hx hd => dn x hx (gr.dn x hx hd)⟩ dp
    | b xs => exact c.elim
    | h => exact c.elim
  | exc C fs g1 => rw [q] at c; exact c
  | stuck => rw [q] at c; exact c
/-- all are data -/
def allD : List SV → Option (List PyData)
  | [] => some []
  | .d x :: r => (allD r).map (x :: ·)
  | _ :: _ => none
theorem ARs.allD {K : PySem.W.Frag} {rs : Rs γ} : ∀ {vs : List V} {ys : List SV} {ds : List PyData}, ARs K rs H D vs ys → Dn.allD ys = some ds → DpAll K D vs ds
  | _, _, _, .nil, e => by cases e; exact .nil
  | _, .d x :: r, ds, .cons h t, e => by
    cases q : Dn.allD r with
    | none => rw [Dn.allD, q] at e; cases e
    | some ds' =>
      rw [Dn.allD, q] at e
      cases e
      exact .cons h (ARs.allD t q)
  | _, .l _ :: _, _, .cons _ _, e => by cases e
  | _, .b _ :: _, _, .cons _ _, e => by cases e
  | _, .h :: _, _, .cons _ _, e => by cases e
theorem ARs.len {K : PySem.W.Frag} {rs : Rs γ} : ∀ {vs : List V} {ys : List SV}, ARs K rs H D vs ys → vs.length = ys.length
  | _, _, .nil => rfl
  | _, _, .cons _ t => by simp [ARs.len t]
theorem allD_len : ∀ {ys : List SV} {ds : List PyData}, allD ys = some ds → ds.length = ys.length
  | [], _, e => by cases e; rfl
  | .d x :: r, ds, e => by
    cases q : Dn.allD r with
    | none => rw [Dn.allD, q] at e; cases e
    | some ds' =>
      rw [Dn.allD, q] at e
      cases e
      simp [allD_len q]
  | .l _ :: _, _, e => by cases e
  | .b _ :: _, _, e => by cases e
  | .h :: _, _, e => by cases e
def fTup (Φ : FnA γ) : Fn γ := fun ρ g => (Φ ρ g).bind fun ys g1 => match allD ys with
  | some ds => if ds.length ≤ 1000 then .ok (.d (.tuple ds)) g1 else .stuck
  | none => .stuck
def fLst (Φ : FnA γ) : Fn γ := fun ρ g => (Φ ρ g).bind fun ys g1 => match allD ys with
  | some ds => if ds.length ≤ 1000 then .ok (.l ds) g1 else .stuck
  | none => .stuck
theorem Rep.nfp (r : Rep P σ H D ρ g) {a : Addr} (h : H a = none) : ¬ P.rs.fp a := fun z => r.fpH z h
theorem dtup {es : List Expr} {x1 : Nat} (h : DA X P es Φ) : DE X P (.Tuple es x1 pos) (fTup Φ) := PE.imp (pe_tup h) fun σ H Q ⟨D, ρ, g, r, c⟩ =>
  tDA_bind r c fun ys g1 vs H1 D1 _ r1 gr vr c1 => by
    cases q : allD ys with
    | none => simp only [q] at c1; exact c1.elim
    | some ds =>
      simp only [q] at c1
      by_cases hl : ds.length ≤ 1000
      · rw [if_pos hl] at c1
        have hv : vs.length = ds.length := by rw [vr.len, allD_len q]
        refine ⟨by rw [hv]; exact Nat.le_trans hl (by decide), fun p hp => ?_⟩
        have l := LG.newD (o := .tup vs) r1.sub hp
        exact c1 _ _ _ (r1.lg l) l.grow (Dp.tup (SqT.of upd_same) (DpAll.up l.dk _ _ (vr.allD q)))
      · rw [if_neg hl] at c1; exact c1.elim
theorem dlst {es : List Expr} (h : DA X P es Φ) : DE X P (.List es pos) (fLst Φ) := PE.imp (pe_lst h) fun σ H Q ⟨D, ρ, g, r, c⟩ =>
  tDA_bind r c fun ys g1 vs H1 D1 _ r1 gr vr c1 => by
    cases q : allD ys with
    | none => simp only [q] at c1; exact c1.elim
    | some ds =>
      simp only [q] at c1
      by_cases hl : ds.length ≤ 1000
      · rw [if_pos hl] at c1
        have hv : vs.length = ds.length := by rw [vr.len, allD_len q]
        refine ⟨by rw [hv]; exact Nat.le_trans hl (by decide), fun p hp => ?_⟩
        have l := LG.new (o := .lst vs) r1.sub hp
        have hd : D1 p = none := by
          cases e : D1 p with
          | none => rfl
          | some u => rw [r1.sub p u e] at hp; cases hp
        exact c1 _ _ _ (r1.lg l) l.grow ⟨⟨p, vs, rfl, upd_same, hd, r1.nfp hp, vr.allD q⟩, fun a e => by cases e; exact hp⟩
      · rw [if_neg hl] at c1; exact c1.elim

/-! ### what is walked -/
structure ItIs (K : PySem.W.Frag) (J : It) (D0 : Hp) (ys : List PyData) : Prop where
  go : ∀ (i : Nat) (y : PyData) (H D : Hp), ys[i]? = some y → Sub D0 D → Sub D H → J.go i H ∧ ∀ x H', J.yld i H x H' → ∃ D', LG H D H' D' ∧ Dp K D' x y
  stop : ∀ (i : Nat) (H D : Hp), ys.length ≤ i → Sub D0 D → Sub D H → J.stop i H
inductive OutI (γ : Type) where
  | ok (ys : List PyData) (g : γ) | exc (C : Addr) (fs : List (Str × PyData)) (g : γ) | stuck
abbrev FnI (γ : Type) := Env → γ → OutI γ
def ContI (P : Pm γ) (σ : L2.St) (H D : Hp) (ρ : Env) (o : OutI γ) (R : It → Hp → Prop) : Prop := match o with
  | .ok ys g' => ∀ J H' D', Rep P σ H' D' ρ g' → Grow P.rs.fp H D H' D' → ItIs P.K J D' ys → R J H'
  | .exc C fs g' => ExcQ P σ H D ρ C fs g'
  | .stuck => False
def tDI (P : Pm γ) (Ι : FnI γ) : TI := fun σ H R => ∃ D ρ g, Rep P σ H D ρ g ∧ ContI P σ H D ρ (Ι ρ g) R
abbrev DI (X : Cx) (P : Pm γ) (tg iter : Expr) (Ι : FnI γ) : Prop := PI X tg iter (tDI P Ι)
def Out.bindI (o : Out γ) (k : SV → γ → OutI γ) : OutI γ := match o with
  | .ok y g => k y g
  | .exc C fs g => .exc C fs g
  | .stuck => .stuck
def OutA.bindI (o : OutA γ) (k : List SV → γ → OutI γ) : OutI γ := match o with
  | .ok y g => k y g
  | .exc C fs g => .exc C fs g
  | .stuck => .stuck
theorem ContI.back {o : OutI γ} {R : It → Hp → Prop} (gr : Grow P.rs.fp H D H1 D1) (h : ContI P σ H D ρ o R) : ContI P σ H1 D1 ρ o R := by
  cases o with
  | ok y g' => exact fun J H' D' r g2 => h J H' D' r (gr.trans g2)
  | exc C fs g' => exact ExcQ.back gr h
  | stuck => exact h
theorem tD_bindI {o : SV → γ → OutI γ} {R' : It → Hp → Prop} (r : Rep P σ H D ρ g) (c : ContI P σ H D ρ ((φ ρ g).bindI o) R') {R : VK}
    (k : ∀ y g1 v H1 D1, φ ρ g = .ok y g1 → Rep P σ H1 D1 ρ g1 → Grow P.rs.fp H D H1 D1 → VR P.K P.rs H H1 D1 v y → ContI P σ H1 D1 ρ (o y g1) R' → R v H1) : tD P φ σ H R := by
  refine ⟨D, ρ, g, r, ?_⟩
  cases e : φ ρ g with
  | ok y g1 =>
    rw [e] at c
    exact fun v H1 D1 r1 gr vr => k y g1 v H1 D1 e r1 gr vr (ContI.back gr c)
  | exc C fs g1 => rw [e] at c; exact c
  | stuck => rw [e] at c; exact c
theorem tDA_bindI {o : List SV → γ → OutI γ} {R' : It → Hp → Prop} (r : Rep P σ H D ρ g) (c : ContI P σ H D ρ ((Φ ρ g).bindI o) R') {R : List V → Hp → Prop}
    (k : ∀ y g1 v H1 D1, Φ ρ g = .ok y g1 → Rep P σ H1 D1 ρ g1 → Grow P.rs.fp H D H1 D1 → ARs P.K P.rs H1 D1 v y → ContI P σ H1 D1 ρ (o y g1) R' → R v H1) : tDA P Φ σ H R := by
  refine ⟨D, ρ, g, r, ?_⟩
  cases e : Φ ρ g with
  | ok y g1 =>
    rw [e] at c
    exact fun v H1 D1 r1 gr vr => k y g1 v H1 D1 e r1 gr vr (ContI.back gr c)
  | exc C fs g1 => rw [e] at c; exact c
  | stuck => rw [e] at c; exact c
theorem itIs_list {K : PySem.W.Frag} {a : Addr} {vs : List V} {ds : List PyData} (h : SqL K D a vs) (hd : DpAll K D vs ds) : ItIs K (Itl K a) D ds := by
  refine ⟨fun i y H D1 e s s' => ?_, fun i H D1 e s s' => ⟨vs, Sub.sl (s.trans s') h, by rw [DpAll.len hd]; exact e⟩⟩
  obtain ⟨v, e1, h1⟩ := DpAll.get hd e
  refine ⟨⟨vs, v, Sub.sl (s.trans s') h, e1⟩, fun x H' q => ?_⟩
  obtain ⟨rfl, q⟩ := q
  have := q vs (Sub.sl (s.trans s') h)
  rw [e1] at this
  cases this
  exact ⟨D1, .refl s', Dp.up s _ _ h1⟩
theorem itIs_tup {K : PySem.W.Frag} {a : Addr} {vs : List V} {ds : List PyData} (h : SqT K D a vs) (hd : DpAll K D vs ds) : ItIs K (Itt K a) D ds := by
  refine ⟨fun i y H D1 e s s' => ?_, fun i H D1 e s s' => ⟨vs, Sub.st (s.trans s') h, by rw [DpAll.len hd]; exact e⟩⟩
  obtain ⟨v, e1, h1⟩ := DpAll.get hd e
  refine ⟨⟨vs, v, Sub.st (s.trans s') h, e1⟩, fun x H' q => ?_⟩
  obtain ⟨rfl, q⟩ := q
  have := q vs (Sub.st (s.trans s') h)
  rw [e1] at this
  cases this
  exact ⟨D1, .refl s', Dp.up s _ _ h1⟩
theorem itIs_range {K : PySem.W.Frag} (lo : Int) (n : Nat) : ItIs K (Itr lo n) D ((List.range n).map fun k => .int (lo + (k : Nat))) := by
  refine ⟨fun i y H D1 e s s' => ?_, fun i H D1 e s s' => by show n ≤ i; simpa using e⟩
  simp only [List.getElem?_map, Option.map_eq_some_iff] at e
  obtain ⟨k, e1, rfl⟩ := e
  have hk : i < n ∧ k = i := by
    have := List.getElem?_eq_some_iff.mp e1
    obtain ⟨h1, h2⟩ := this
    simp at h1 h2
    exact ⟨h1, h2.symm⟩
  obtain ⟨hi, rfl⟩ := hk
  refine ⟨hi, fun x H' q => ?_⟩
  obtain ⟨rfl, rfl⟩ := q
  exact ⟨D1, .refl s', Dp.int _⟩
/-- a list or a tuple, whichever it is -/
def iAny (φ : Fn γ) : FnI γ := fun ρ g => (φ ρ g).bindI fun y g1 => match y with
  | .d (.list xs) => .ok xs g1
  | .d (.tuple xs) => .ok xs g1
  | _ => .stuck
theorem diany {tg l : Expr} (h : DE X P l φ) (hK : X.K = P.K := by rfl) : DI X P tg l (iAny φ) := by
  refine ⟨fun pins s σ H R I hw => ?_⟩
  obtain ⟨D, ρ, g, r, c⟩ := hw
  unfold iAny at c
  by_cases hq : ∃ xs g1, φ ρ g = .ok (.d (.tuple xs)) g1
  · obtain ⟨xs, g1, q⟩ := hq
    refine (pi_tup (tg := tg) h).run pins s σ H R I ?_
    refine tD_bindI r c fun y g2 v H1 D1 e r1 gr vr c1 => ?_
    rw [q] at e
    cases e
    cases vr with
    | tup h1 h2 =>
      rename_i a vs
      rw [hK]
      exact ⟨a, rfl, ⟨vs, Sub.st r1.sub h1⟩, c1 _ _ _ r1 .refl (itIs_tup h1 h2)⟩
  · refine (pi_list (tg := tg) h).run pins s σ H R I ?_
    refine tD_bindI r c fun y g2 v H1 D1 e r1 gr vr c1 => ?_
    cases y with
    | d x =>
      cases x with
      | list xs =>
        cases vr with
        | lst h1 h2 =>
          rename_i a vs
          rw [hK]
          exact ⟨a, rfl, ⟨vs, Sub.sl r1.sub h1⟩, c1 _ _ _ r1 .refl (itIs_list h1 h2)⟩
      | tuple xs => exact absurd ⟨xs, g2, e⟩ hq
      | _ => exact c1.elim
    | _ => exact c1.elim
end
end Dn

set_option Elab.async false
set_option linter.all false
set_option autoImplicit false
set_option maxRecDepth 100000
set_option maxHeartbeats 4000000
namespace Dn
open PySem PySem.Spec PyProof.Rows L2
section
variable {γ : Type} {X : Cx} {P : Pm γ} {σ : L2.St} {H D H1 D1 H2 D2 H' D' : Hp} {ρ : Env} {g g1 g2 : γ} {e a b c : Expr} {φ ψ τ : Fn γ} {Φ Ψ : FnA γ} {t : TE} {pos : Pos} {Q : VK}

/-- range of one, two ends -/
def iRng1F (Φ : FnA γ) : FnI γ := fun ρ g => (Φ ρ g).bindI fun ys g1 => match ys with
  | [.d (.int j)] => if -(2 ^ 62) ≤ j ∧ j < 2 ^ 62 then .ok ((List.range j.toNat).map fun k => .int (0 + (k : Nat))) g1 else .stuck
  | _ => .stuck
def iRng2F (Φ : FnA γ) : FnI γ := fun ρ g => (Φ ρ g).bindI fun ys g1 => match ys with
  | [.d (.int i), .d (.int j)] => if -(2 ^ 62) ≤ i ∧ i < 2 ^ 62 ∧ -(2 ^ 62) ≤ j ∧ j < 2 ^ 62 then .ok ((List.range (j - i).toNat).map fun k => .int (i + (k : Nat))) g1 else .stuck
  | _ => .stuck
theorem dirng1 {tg : Expr} {p : Pos} (hg : Gl X "range" := by rfl) (hm : X.mg "range" = none) (ha : DA X P [a] Φ) (hs : starEach [a] X.env = [(false, eval a X.env)] := by rfl) : DI X P tg (.Call (.Name "range" p) [a] [] pos) (iRng1F Φ) := by
  refine ⟨fun pins s σ H R I hw => (pi_range1 (tg := tg) hg hm ha hs).run pins s σ H R I ?_⟩
  obtain ⟨D, ρ, g, r, c⟩ := hw
  refine tDA_bindI r c fun ys g1 vs H1 D1 _ r1 gr vr c1 => ?_
  match ys, vr, c1 with
  | [.d (.int j)], .cons h1 .nil, c1 =>
    simp only at c1
    by_cases hj : -(2 ^ 62) ≤ j ∧ j < 2 ^ 62
    · rw [if_pos hj] at c1
      cases h1
      exact ⟨j, rfl, hj.1, hj.2, c1 _ _ _ r1 .refl (itIs_range 0 j.toNat)⟩
    · rw [if_neg hj] at c1; exact c1.elim
theorem dirng2 {tg : Expr} {p : Pos} (hg : Gl X "range" := by rfl) (hm : X.mg "range" = none) (ha : DA X P [a, b] Φ) (hs : starEach [a, b] X.env = [(false, eval a X.env), (false, eval b X.env)] := by rfl) (hs2 : starEach [b] X.env = [(false, eval b X.env)] := by rfl) : DI X P tg (.Call (.Name "range" p) [a, b] [] pos) (iRng2F Φ) := by
  refine ⟨fun pins s σ H R I hw => (pi_range2 (tg := tg) hg hm ha hs hs2).run pins s σ H R I ?_⟩
  obtain ⟨D, ρ, g, r, c⟩ := hw
  refine tDA_bindI r c fun ys g1 vs H1 D1 _ r1 gr vr c1 => ?_
  match ys, vr, c1 with
  | [.d (.int i), .d (.int j)], .cons h1 (.cons h2 .nil), c1 =>
    simp only at c1
    by_cases hj : -(2 ^ 62) ≤ i ∧ i < 2 ^ 62 ∧ -(2 ^ 62) ≤ j ∧ j < 2 ^ 62
    · rw [if_pos hj] at c1
      cases h1
      cases h2
      exact ⟨i, j, rfl, hj, c1 _ _ _ r1 .refl (itIs_range i (j - i).toNat)⟩
    · rw [if_neg hj] at c1; exact c1.elim
  
/-- what a value that holds data may be: a list, a tuple -/
def seqOf : SV → Option (List PyData)
  | .d (.list xs) => some xs
  | .d (.tuple xs) => some xs
  | .l xs => some xs
  | .b xs => some xs
  | _ => none

/-! ### targets -/
abbrev Asg := PyData → Env → Option Env
structure TgIs (P : Pm γ) (gt : TG) (asg : Asg) : Prop where
  run : ∀ (v : V) (y : PyData) (σ : L2.St) (H D : Hp) (ρ : Env) (g : γ) (ρ' : Env) (Q : L2.St → Hp → Prop), Rep P σ H D ρ g → Dp P.K D v y → asg y ρ = some ρ' → (∀ σ', Rep P σ' H D ρ' g → Q σ' H) → gt v σ H Q
def asgN (i : Nat) : Asg := fun y ρ => if i < ρ.length then some (ρ.set i (some (.d y))) else none
theorem tgN (i : Nat) : TgIs P (gName i) (asgN i) := ⟨fun v y σ H D ρ g ρ' Q r h e q => by
  unfold asgN at e
  by_cases hi : i < ρ.length
  · rw [if_pos hi] at e
    cases e
    exact q _ (r.put hi h (fun _ z => nomatch z) fun xs a z => nomatch z)
  · rw [if_neg hi] at e; cases e⟩
abbrev Asgs := List PyData → Env → Option Env
structure TgsIs (P : Pm γ) (gt : TGs) (asg : Asgs) : Prop where
  run : ∀ (vs : List V) (ys : List PyData) (σ : L2.St) (H D : Hp) (ρ : Env) (g : γ) (ρ' : Env) (Q : L2.St → Hp → Prop), Rep P σ H D ρ g → DpAll P.K D vs ys → asg ys ρ = some ρ' → (∀ σ', Rep P σ' H D ρ' g → Q σ' H) → gt vs σ H Q
def asgNil : Asgs := fun ys ρ => match ys with
  | [] => some ρ
  | _ => none
def asgCons (f : Asg) (r : Asgs) : Asgs := fun ys ρ => match ys with
  | y :: t => (f y ρ).bind (r t)
  | [] => none
theorem tgsNil : TgsIs P gNil asgNil := ⟨fun vs ys σ H D ρ g ρ' Q r h e q => by
  cases h with
  | nil => cases e; exact ⟨rfl, q σ r⟩
  | cons _ _ => cases e⟩
theorem tgsCons {gt : TG} {gts : TGs} {f : Asg} {r : Asgs} (h1 : TgIs P gt f) (h2 : TgsIs P gts r) : TgsIs P (gCons gt gts) (asgCons f r) := ⟨fun vs ys σ H D ρ g ρ' Q r h e q => by
  cases h with
  | nil => cases e
  | cons h t =>
    rename_i v vs d ds
    unfold asgCons at e
    simp only at e
    cases k : f d ρ with
    | none => rw [k] at e; cases e
    | some ρ1 =>
      rw [k] at e
      exact ⟨v, vs, rfl, h1.run v d σ H D ρ g ρ1 _ r h k fun σ1 r1 => h2.run vs ds σ1 H D ρ1 g ρ' Q r1 t e q⟩⟩
def asgT (n : Nat) (r : Asgs) : Asg := fun y ρ => match y with
  | .tuple ys => if ys.length = n then r ys ρ else none
  | _ => none
theorem tgT {n : Nat} {gts : TGs} {r : Asgs} (h : TgsIs P gts r) : TgIs P (gTup P.K n gts) (asgT n r) := ⟨fun v y σ H D ρ g ρ' Q r0 hd e q => by
  cases hd with
  | tup h1 h2 =>
    unfold asgT at e
    simp only at e
    split at e
    · rename_i hn
      exact ⟨_, _, rfl, Sub.st r0.sub h1, by rw [DpAll.len h2]; exact hn, h.run _ _ σ H D ρ g ρ' Q r0 h2 e q⟩
    · cases e
  | _ => cases e⟩

/-! ### for -/
def loopD (asg : Asg) (body : SFn γ) : List PyData → SFn γ
  | [], ρ, g => .next ρ g
  | y :: ys, ρ, g => match asg y ρ with
    | none => .stuck
    | some ρ1 => match body ρ1 g with
      | .next ρ2 g2 => loopD asg body ys ρ2 g2
      | .cont ρ2 g2 => loopD asg body ys ρ2 g2
      | .brk ρ2 g2 => .next ρ2 g2
      | o => o
def OutI.bindS (o : OutI γ) (ρ : Env) (k : List PyData → γ → SOut γ) : SOut γ := match o with
  | .ok ys g => k ys g
  | .exc C fs g => .exc C fs ρ g
  | .stuck => .stuck
def sFor (Ι : FnI γ) (asg : Asg) (body : SFn γ) : SFn γ := fun ρ g => (Ι ρ g).bindS ρ fun ys g1 => loopD asg body ys ρ g1
theorem dfor {tg iter : Expr} {body : List Stmt} {Ι : FnI γ} {gt : TG} {asg : Asg} {ψ : SFn γ} (hp : PassesOwn (model X.prog X.w) X.A X.env X.xe) (hc : X.calm = true) (hi : DI X P tg iter Ι) (hg : PG X tg gt) (ht : TgIs P gt asg) (hb : DSs X P body ψ)
    (hfs : ∀ x, foldedSetIterable iter X.env x = pure x := by intro _; rfl) : DS X P (.For tg iter body [] pos) (sFor Ι asg ψ) := PS.imp (ps_for hp hc hi hg hb hfs) fun E σ H ⟨D, ρ, g, r, c⟩ => by
  refine ⟨D, ρ, g, r, ?_⟩
  unfold sFor at c
  cases q : Ι ρ g with
  | exc C fs g1 => rw [q] at c; exact fun d vfs H' D' r' gr h1 h2 => c σ d vfs H' D' r' gr.dk h1 h2
  | stuck => rw [q] at c; exact c
  | ok ys g1 =>
    rw [q] at c
    intro J H1 D1 r1 gr it
    have c' : ContS P D1 (loopD asg ψ ys ρ g1) E := ContS.back gr.dk c
    refine ⟨fun i m σ' H' => m = ys.length - i ∧ ∃ D' ρ' g', Rep P σ' H' D' ρ' g' ∧ Sub D1 D' ∧ ContS P D' (loopD asg ψ (ys.drop i) ρ' g') E, ⟨ys.length, by simp, D1, ρ, g1, r1, Sub.refl _, by simpa using c'⟩, ?_⟩
    rintro i m σ' H' ⟨rfl, D', ρ', g', r', s', c2⟩
    by_cases hlt : i < ys.length
    · have e : ys[i]? = some ys[i] := by simp [hlt]
      obtain ⟨hgo, hy⟩ := it.go i _ H' D' e s' r'.sub
      refine .inr ⟨hgo, fun σ'' H'' => ∃ D'' ρ'' g'', Rep P σ'' H'' D'' ρ'' g'' ∧ Sub D1 D'' ∧ ContS P D'' (loopD asg ψ (ys.drop (i + 1)) ρ'' g'') E, fun σ'' H'' ⟨D'', ρ'', g'', r'', s'', c3⟩ => ⟨ys.length - (i + 1), by omega, rfl, D'', ρ'', g'', r'', s'', c3⟩, fun x H3 hx => ?_⟩
      obtain ⟨D3, l, dp⟩ := hy x H3 hx
      have r3 := r'.lg l
      rw [List.drop_eq_getElem_cons hlt] at c2
      unfold loopD at c2
      cases k : asg ys[i] ρ' with
      | none => rw [k] at c2; exact c2.elim
      | some ρ1 =>
        rw [k] at c2
        simp only at c2
        refine ht.run x ys[i] σ' H3 D3 ρ' g' ρ1 _ r3 dp k fun σ4 r4 => ⟨D3, ρ1, g', r4, ?_⟩
        have s3 : Sub D1 D3 := s'.trans l.dk
        have c3 := ContS.back l.dk c2
        cases w : ψ ρ1 g' with
        | next ρ2 g2 => rw [w] at c3; exact fun σ5 H5 D5 r5 s5 => ⟨D5, ρ2, g2, r5, s3.trans s5, ContS.back s5 c3⟩
        | cont ρ2 g2 => rw [w] at c3; exact fun σ5 H5 D5 r5 s5 => ⟨D5, ρ2, g2, r5, s3.trans s5, ContS.back s5 c3⟩
        | brk ρ2 g2 => rw [w] at c3; exact c3
        | ret y g2 => rw [w] at c3; exact c3
        | exc C fs ρ2 g2 => rw [w] at c3; exact c3
        | stuck => rw [w] at c3; exact c3
    · have hd : ys.drop i = [] := List.drop_eq_nil_of_le (by omega)
      rw [hd] at c2
      exact .inl ⟨it.stop i H' D' (by omega) s' r'.sub, c2 σ' H' D' r' (Sub.refl _)⟩

/-! ### while: by fuel -/
def whileD (τ : Fn γ) (body : SFn γ) : Nat → SFn γ
  | 0, _, _ => .stuck
  | n + 1, ρ, g => (τ ρ g).bindT ρ fun b g1 => if b = true then (match body ρ g1 with
      | .next ρ2 g2 => whileD τ body n ρ2 g2
      | .cont ρ2 g2 => whileD τ body n ρ2 g2
      | .brk ρ2 g2 => .next ρ2 g2
      | o => o) else .next ρ g1
theorem dwhile {body : List Stmt} {ψ : SFn γ} (n : Nat) (hp : PassesOwn (model X.prog X.w) X.A X.env X.xe) (hc : DT X P c τ) (hb : DSs X P body ψ) : DS X P (.While c body [] pos) (whileD τ ψ n) := PS.imp (ps_while hp hc hb) fun E σ H ⟨D, ρ, g, r, c⟩ => by
  refine ⟨fun m σ' H' => ∃ D' ρ' g', Rep P σ' H' D' ρ' g' ∧ ContS P D' (whileD τ ψ m ρ' g') E, ⟨n, D, ρ, g, r, c⟩, ?_⟩
  rintro m σ' H' ⟨D', ρ', g', r', c'⟩
  cases m with
  | zero => exact c'.elim
  | succ m =>
    unfold whileD at c'
    refine tDT_bindS r' c' fun b g1 H1 D1 _ r1 gr c1 => ?_
    cases b with
    | false => exact c1 σ' H1 D1 r1 (Sub.refl _)
    | true =>
      refine ⟨fun σ'' H'' => ∃ D'' ρ'' g'', Rep P σ'' H'' D'' ρ'' g'' ∧ ContS P D'' (whileD τ ψ m ρ'' g'') E, fun σ'' H'' h => ⟨m, by omega, h⟩, D1, ρ', g1, r1, ?_⟩
      simp only [if_true] at c1
      cases w : ψ ρ' g1 with
      | next ρ2 g2 => rw [w] at c1; exact fun σ5 H5 D5 r5 s5 => ⟨D5, ρ2, g2, r5, ContS.back s5 c1⟩
      | cont ρ2 g2 => rw [w] at c1; exact fun σ5 H5 D5 r5 s5 => ⟨D5, ρ2, g2, r5, ContS.back s5 c1⟩
      | brk ρ2 g2 => rw [w] at c1; exact c1
      | ret y g2 => rw [w] at c1; exact c1
      | exc C fs ρ2 g2 => rw [w] at c1; exact c1
      | stuck => rw [w] at c1; exact c1
end
end Dn

set_option Elab.async false
set_option linter.all false
set_option autoImplicit false
set_option maxRecDepth 100000
set_option maxHeartbeats 4000000
namespace Dn
open PySem PySem.Spec PyProof.Rows L2
section
variable {γ : Type} {X : Cx} {P : Pm γ} {σ : L2.St} {H D H1 D1 H2 D2 H' D' : Hp} {ρ : Env} {g g1 g2 : γ} {e a b c : Expr} {φ ψ τ : Fn γ} {Φ Ψ : FnA γ} {t : TE} {pos : Pos} {Q : VK}

abbrev Pm.nox (P : Pm γ) : Pm γ := { P with W := fun _ _ _ _ => False }
theorem Rep.nox (r : Rep P σ H D ρ g) : Rep P.nox σ H D ρ g := ⟨r.grow, r.sub, r.f0, r.len, r.slot, r.own, r.nob, r.apart, r.fd, r.res⟩
theorem Rep.unnox (r : Rep P.nox σ H D ρ g) : Rep P σ H D ρ g := ⟨r.grow, r.sub, r.f0, r.len, r.slot, r.own, r.nob, r.apart, r.fd, r.res⟩
def wipeE (ρ : Env) : List Nat → Env
  | [] => ρ
  | v :: vs => (wipeE ρ vs).set v none
theorem Rep.wipe (r : Rep P σ H D ρ g) : ∀ vs : List Nat, Rep P (L2.wipe σ vs) H D (wipeE ρ vs) g
  | [] => r
  | v :: vs => (Rep.wipe r vs).forget v
/-- a list that no name holds is written -/
theorem Rep.side (r : Rep P σ H D ρ g) {a : Addr} {us : List V} (hd : D a = none) (nf : ¬ P.rs.fp a) (h0 : P.H0 a = none) (no : ∀ (j : Nat) (zs : List PyData), ρ[j]? = some (some (.l zs)) → σ[j]? ≠ some (some (.ref a))) :
    Rep P σ (upd H a (.lst us)) D ρ g := by
  have nd : ∀ b o, D b = some o → b ≠ a := fun b o hb z => by rw [z, hd] at hb; cases hb
  refine ⟨⟨fun b o nb hb => ?_, fun b hb => ?_, r.grow.dk, r.grow.dn⟩, fun b o hb => ?_, r.f0, r.len, fun j z ej => ?_, r.own, r.nob, r.apart, r.fd, P.rs.loc g H _ (fun b hb => upd_ne (fun z => nf (by rw [← z]; exact hb))) r.res⟩
  · have hne : b ≠ a := fun z => by rw [z, h0] at hb; cases hb
    rw [upd_ne hne]
    exact r.grow.keep b o nb hb
  · by_cases z : b = a
    · subst z; rw [upd_same]; exact fun z => nomatch z
    · rw [upd_ne z]; exact r.grow.th b hb
  · rw [upd_ne (nd b o hb)]
    exact r.sub b o hb
  · obtain ⟨w, e5, h5⟩ := r.slot j z ej
    refine ⟨w, e5, ?_⟩
    have key : ∀ zs, LstAt P.K P.rs H D w zs → (z = .l zs ∨ z = .b zs) → LstAt P.K P.rs (upd H a (.lst us)) D w zs := fun zs hl hz => by
      obtain ⟨b, ws, rfl, k1, k2, k3, k4⟩ := hl
      have hb : b ≠ a := by
        rcases hz with hz | hz
        · subst hz
          exact fun q => no j zs ej (by rw [e5, q])
        · subst hz
          exact absurd ej (r.nob j zs)
      exact ⟨b, ws, rfl, by rw [upd_ne hb]; exact k1, k2, k3, k4⟩
    cases z with
    | d x => exact h5
    | l zs => exact key zs h5 (.inl rfl)
    | b zs => exact key zs h5 (.inr rfl)
    | h => exact h5

/-- a comprehension's turns -/
def lcD (asg : Asg) (cond elt : Fn γ) (ρ : Env) : List PyData → γ → Option (List PyData × γ)
  | [], g => some ([], g)
  | y :: ys, g => match asg y ρ with
    | none => none
    | some ρ1 => match cond ρ1 g with
      | .ok (.d (.bool true)) g1 => (match elt ρ1 g1 with
        | .ok (.d x) g2 => (lcD asg cond elt ρ ys g2).map fun p => (x :: p.1, p.2)
        | _ => none)
      | .ok (.d (.bool false)) g1 => lcD asg cond elt ρ ys g1
      | _ => none
theorem lcD_len {asg : Asg} {cond elt : Fn γ} {ρ : Env} : ∀ {ys : List PyData} {g : γ} {p : List PyData × γ}, lcD asg cond elt ρ ys g = some p → p.1.length ≤ ys.length
  | [], g, p, h => by cases h; exact Nat.le_refl _
  | y :: ys, g, p, h => by
    unfold lcD at h
    split at h
    · cases h
    · split at h
      · split at h
        · rename_i x g2 _
          cases q : lcD asg cond elt ρ ys g2 with
          | none => rw [q] at h; cases h
          | some p' =>
            rw [q] at h
            cases h
            have := lcD_len q
            simp; exact this
        · cases h
      · have := lcD_len h
        simp; omega
      · cases h
def OutI.bind (o : OutI γ) (k : List PyData → γ → Out γ) : Out γ := match o with
  | .ok ys g => k ys g
  | .exc C fs g => .exc C fs g
  | .stuck => .stuck
def fLc (own : List Nat) (Ι : FnI γ) (asg : Asg) (cond elt : Fn γ) : Fn γ := fun ρ g => (Ι ρ g).bind fun ys g1 => if ys.length ≤ 100000 then (match lcD asg cond elt (wipeE ρ own) ys g1 with
  | some p => .ok (.l p.1) p.2
  | none => .stuck) else .stuck
/-- the target of a comprehension changes its own slots alone -/
def TgOwn (gt : TG) (vs : List Nat) : Prop := ∀ v σ H Q, gt v σ H Q → gt v σ H fun σ2 H2 => L2.wipe σ2 vs = L2.wipe σ vs ∧ Q σ2 H2
theorem wipe_set {σ : L2.St} {i : Nat} {x : Option V} : ∀ {vs : List Nat}, i ∈ vs → L2.wipe (σ.set i x) vs = L2.wipe σ vs := fun {vs} hi => by
  apply List.ext_getElem?
  intro j
  have hw : ∀ (l : L2.St) (vs : List Nat), j ∈ vs → (L2.wipe l vs)[j]? = if j < l.length then some none else none := fun l vs => by
    induction vs with
    | nil => intro h; cases h
    | cons v r ih =>
      intro h
      show ((L2.wipe l r).set v none)[j]? = _
      by_cases e : v = j
      · subst e
        rw [List.getElem?_set, if_pos rfl, L2.wipe_length]
      · rw [List.getElem?_set_ne e]
        exact ih ((List.mem_cons.mp h).resolve_left (Ne.symm e))
  by_cases hj : j ∈ vs
  · rw [hw _ _ hj, hw _ _ hj, List.length_set]
  · rw [wipe_out hj, wipe_out hj, List.getElem?_set_ne (fun e => hj (by rw [← e]; exact hi))]
theorem towN {i : Nat} {vs : List Nat} (h : i ∈ vs) : TgOwn (gName i) vs := fun v σ H Q q => ⟨wipe_set h, q⟩
def TgsOwn (gt : TGs) (vs : List Nat) : Prop := ∀ us σ H Q, gt us σ H Q → gt us σ H fun σ2 H2 => L2.wipe σ2 vs = L2.wipe σ vs ∧ Q σ2 H2
theorem towNil {vs : List Nat} : TgsOwn gNil vs := fun us σ H Q ⟨e, q⟩ => ⟨e, rfl, q⟩
theorem tg_mono_name {i : Nat} {v : V} {σ : L2.St} {H : Hp} {Q Q' : L2.St → Hp → Prop} (h : ∀ σ H, Q σ H → Q' σ H) (q : gName i v σ H Q) : gName i v σ H Q' := h _ _ q
def TgMono (gt : TG) : Prop := ∀ v σ H (Q Q' : L2.St → Hp → Prop), (∀ σ H, Q σ H → Q' σ H) → gt v σ H Q → gt v σ H Q'
def TgsMono (gt : TGs) : Prop := ∀ v σ H (Q Q' : L2.St → Hp → Prop), (∀ σ H, Q σ H → Q' σ H) → gt v σ H Q → gt v σ H Q'
theorem tmN {i : Nat} : TgMono (gName i) := fun _ _ _ _ _ h q => h _ _ q
theorem tmNil : TgsMono gNil := fun _ _ _ _ _ h ⟨e, q⟩ => ⟨e, h _ _ q⟩
theorem tmCons {gt : TG} {gts : TGs} (h1 : TgMono gt) (h2 : TgsMono gts) : TgsMono (gCons gt gts) := fun us σ H Q Q' h ⟨v, r, e, q⟩ => ⟨v, r, e, h1 v σ H _ _ (fun σ1 H1 q1 => h2 r σ1 H1 Q Q' h q1) q⟩
theorem towCons {gt : TG} {gts : TGs} {vs : List Nat} (h1 : TgOwn gt vs) (m1 : TgMono gt) (h2 : TgsOwn gts vs) (m2 : TgsMono gts) : TgsOwn (gCons gt gts) vs := fun us σ H Q ⟨v, r, e, q⟩ =>
  ⟨v, r, e, m1 v σ H _ _ (fun σ1 H1 ⟨w1, q1⟩ => m2 r σ1 H1 _ _ (fun σ2 H2 ⟨w2, q2⟩ => ⟨w2.trans w1, q2⟩) (h2 r σ1 H1 Q q1)) (h1 v σ H _ q)⟩
theorem towT {K : PySem.W.Frag} {n : Nat} {gts : TGs} {vs : List Nat} (h : TgsOwn gts vs) : TgOwn (gTup K n gts) vs := fun v σ H Q ⟨a, xs, e, hs, hl, q⟩ => ⟨a, xs, e, hs, hl, h xs σ H Q q⟩
theorem wipe_wipe {σ : L2.St} : ∀ (vs : List Nat), L2.wipe (L2.wipe σ vs) vs = L2.wipe σ vs := fun vs => by
  apply List.ext_getElem?
  intro j
  have hw : ∀ (l : L2.St) (vs : List Nat), j ∈ vs → (L2.wipe l vs)[j]? = if j < l.length then some none else none := fun l vs => by
    induction vs with
    | nil => intro h; cases h
    | cons v r ih =>
      intro h
      show ((L2.wipe l r).set v none)[j]? = _
      by_cases e : v = j
      · subst e
        rw [List.getElem?_set, if_pos rfl, L2.wipe_length]
      · rw [List.getElem?_set_ne e]
        exact ih ((List.mem_cons.mp h).resolve_left (Ne.symm e))
  by_cases hj : j ∈ vs
  · rw [hw _ _ hj, hw _ _ hj, L2.wipe_length]
  · rw [wipe_out hj]
theorem lc_core {elt : Fn γ} {Ι : FnI γ} {gt : TG} {asg : Asg} {own : List Nat} {cond : Fn γ} (ht : TgIs P.nox gt asg) (ho : TgOwn gt own) {tt : TT} (htt : ∀ σ H Q, tDT P.nox cond σ H Q → tt σ H Q) {σ : L2.St} {H : Hp} {Q : VK}
    (h : tD P (fLc own Ι asg cond elt) σ H Q) : tLc (tDI P Ι) gt tt (tD P.nox elt) own σ H Q := by
  obtain ⟨D, ρ, g, r, c⟩ := h
  refine ⟨D, ρ, g, r, ?_⟩
  unfold fLc at c
  cases q : Ι ρ g with
  | exc C fs g1 => rw [q] at c; exact c
  | stuck => rw [q] at c; exact c
  | ok ys g1 =>
    rw [q] at c
    intro J H1 D1 r1 gr it
    have c' := Cont.back gr c
    simp only [OutI.bind] at c'
    by_cases hl : ys.length ≤ 100000
    · rw [if_pos hl] at c'
      cases k : lcD asg cond elt (wipeE ρ own) ys g1 with
      | none => rw [k] at c'; exact c'.elim
      | some p =>
        rw [k] at c'
        simp only at c'
        intro A hA
        have nf : ¬ P.rs.fp A := r1.nfp hA
        have h0 : P.H0 A = none := by
          cases z : P.H0 A with
          | none => rfl
          | some o => exact absurd hA (r1.grow.th A (ne_none z))
        have no : ∀ (j : Nat) (zs : List PyData), (wipeE ρ own)[j]? = some (some (.l zs)) → (L2.wipe σ own)[j]? ≠ some (some (.ref A)) := fun j zs e1 e2 => by
          obtain ⟨v, e3, h3⟩ := (r1.wipe own).slot j _ e1
          rw [e2] at e3
          cases e3
          obtain ⟨b, us, e4, h4, _⟩ := h3
          cases e4
          rw [hA] at h4
          cases h4
        have hd1 : D1 A = none := by
          cases z : D1 A with
          | none => rfl
          | some u => rw [r1.sub A u z] at hA; cases hA
        -- the invariant: what is made so far, what is still to come
        refine ⟨fun i m H' => m = ys.length - i ∧ ∃ D' us acc g', Grow P.rs.fp H1 D1 H' D' ∧ Rep P (L2.wipe σ own) H' D' (wipeE ρ own) g' ∧ H' A = some (.lst us) ∧ D' A = none ∧ DpAll P.K D' us acc ∧ acc.length ≤ i ∧
            ∃ p', lcD asg cond elt (wipeE ρ own) (ys.drop i) g' = some p' ∧ acc ++ p'.1 = p.1 ∧ p'.2 = p.2, ⟨ys.length, by simp, D1, [], [], g1, (LG.new r1.sub hA).grow, ((r1.wipe own).lg (LG.new r1.sub hA)), upd_same, hd1, .nil, Nat.le_refl _, p, by simpa using k, by simp, rfl⟩, ?_⟩
        rintro i m H' ⟨rfl, D', us, acc, g', gr', r', hA', hD', dp, hle, p', k', e1, e2⟩
        by_cases hlt : i < ys.length
        · have e : ys[i]? = some ys[i] := by simp [hlt]
          obtain ⟨hgo, hy⟩ := it.go i _ H' D' e gr'.dk r'.sub
          refine .inr ⟨hgo, fun H'' => ∃ D'' us acc g'', Grow P.rs.fp H1 D1 H'' D'' ∧ Rep P (L2.wipe σ own) H'' D'' (wipeE ρ own) g'' ∧ H'' A = some (.lst us) ∧ D'' A = none ∧ DpAll P.K D'' us acc ∧ acc.length ≤ i + 1 ∧
            ∃ p', lcD asg cond elt (wipeE ρ own) (ys.drop (i + 1)) g'' = some p' ∧ acc ++ p'.1 = p.1 ∧ p'.2 = p.2, fun H'' h'' => ⟨ys.length - (i + 1), by omega, rfl, h''⟩, fun x H3 hx => ?_⟩
          obtain ⟨D3, l, dpx⟩ := hy x H3 hx
          have r3 := r'.lg l
          have hA3 := l.keep _ _ hA'
          have hD3 := l.dn _ (ne_none hA') hD'
          have gr3 := gr'.trans l.grow
          rw [List.drop_eq_getElem_cons hlt] at k'
          unfold lcD at k'
          cases w : asg ys[i] (wipeE ρ own) with
          | none => rw [w] at k'; cases k'
          | some ρ1 =>
            rw [w] at k'
            simp only at k'
            have body : gt x (L2.wipe σ own) H3 fun σ2 H2 => tt σ2 H2 fun b H3 => if b = true then tD P.nox elt σ2 H3 fun y H4 => ∃ acc, H4 A = some (.lst acc) ∧ acc.length < sizeLine ∧ (fun H'' => ∃ D'' us acc g'', Grow P.rs.fp H1 D1 H'' D'' ∧ Rep P (L2.wipe σ own) H'' D'' (wipeE ρ own) g'' ∧ H'' A = some (.lst us) ∧ D'' A = none ∧ DpAll P.K D'' us acc ∧ acc.length ≤ i + 1 ∧
            ∃ p', lcD asg cond elt (wipeE ρ own) (ys.drop (i + 1)) g'' = some p' ∧ acc ++ p'.1 = p.1 ∧ p'.2 = p.2) (upd H4 A (.lst (acc ++ [y]))) else (fun H'' => ∃ D'' us acc g'', Grow P.rs.fp H1 D1 H'' D'' ∧ Rep P (L2.wipe σ own) H'' D'' (wipeE ρ own) g'' ∧ H'' A = some (.lst us) ∧ D'' A = none ∧ DpAll P.K D'' us acc ∧ acc.length ≤ i + 1 ∧
            ∃ p', lcD asg cond elt (wipeE ρ own) (ys.drop (i + 1)) g'' = some p' ∧ acc ++ p'.1 = p.1 ∧ p'.2 = p.2) H3 := by
              refine ht.run x ys[i] _ H3 D3 _ g' ρ1 _ r3.nox dpx w fun σ4 r4 => htt _ _ _ ⟨D3, ρ1, g', r4, ?_⟩
              cases u : cond ρ1 g' with
              | exc C fs g2 => rw [u] at k'; cases k'
              | stuck => rw [u] at k'; cases k'
              | ok y g2 =>
                rw [u] at k'
                cases y with
                | l _ => cases k'
                | b _ => cases k'
                | h => cases k'
                | d z =>
                  cases z with
                  | bool bb =>
                    intro H5 D5 r5 gr5
                    have hA5 := gr5.keep _ _ nf hA3
                    have hD5 := gr5.dn _ (ne_none hA3) hD3
                    cases bb with
                    | false =>
                      rw [if_neg (by simp)]
                      exact ⟨D5, us, acc, g2, gr3.trans gr5, r3.step gr5 r5.sub r5.res, hA5, hD5, DpAll.up (fun x o h => gr5.dk _ _ (l.dk _ _ h)) _ _ dp, Nat.le_succ_of_le hle, p', k', e1, e2⟩
                    | true =>
                      rw [if_pos rfl]
                      simp only at k'
                      refine ⟨D5, ρ1, g2, r5, ?_⟩
                      cases v : elt ρ1 g2 with
                      | exc C fs g3 => rw [v] at k'; cases k'
                      | stuck => rw [v] at k'; cases k'
                      | ok y g3 =>
                        rw [v] at k'
                        cases y with
                        | l _ => cases k'
                        | b _ => cases k'
                        | h => cases k'
                        | d z =>
                          simp only at k'
                          intro vv H6 D6 r6 gr6 vr
                          have hA6 := gr6.keep _ _ nf hA5
                          have hD6 := gr6.dn _ (ne_none hA5) hD5
                          cases kk : lcD asg cond elt (wipeE ρ own) (ys.drop (i + 1)) g3 with
                          | none => rw [kk] at k'; cases k'
                          | some p3 =>
                            rw [kk] at k'
                            cases k'
                            have dp6 : DpAll P.K D6 us acc := DpAll.up (fun x o h => gr6.dk _ _ (gr5.dk _ _ (l.dk _ _ h))) _ _ dp
                            have r7 := (r3.step (gr5.trans gr6) r6.sub r6.res).side (us := us ++ [vv]) hD6 nf h0 no
                            have hul : us.length = acc.length := DpAll.len dp6
                            refine ⟨us, hA6, by rw [hul]; exact Nat.lt_of_le_of_lt (Nat.le_trans hle (Nat.le_trans (Nat.le_of_lt hlt) hl)) (by decide), D6, us ++ [vv], acc ++ [z], g3, ?_, r7, upd_same, hD6, DpAll.app dp6 (.cons vr .nil), by simp; omega, p3, kk, by rw [← e1]; simp, e2⟩
                            have g6 := (gr3.trans gr5).trans gr6
                            refine ⟨fun b o nb hb => ?_, fun b hb => ?_, g6.dk, g6.dn⟩
                            · have hne : b ≠ A := fun z => by rw [z, hA] at hb; cases hb
                              rw [upd_ne hne]; exact g6.keep b o nb hb
                            · by_cases z : b = A
                              · subst z; rw [upd_same]; exact fun z => nomatch z
                              · rw [upd_ne z]; exact g6.th b hb
                  | _ => cases k'
            have := ho x (L2.wipe σ own) H3 _ body
            rw [wipe_wipe] at this
            exact this
        · have hd : ys.drop i = [] := List.drop_eq_nil_of_le (by omega)
          rw [hd] at k'
          cases k'
          refine .inl ⟨it.stop i H' D' (by omega) gr'.dk r'.sub, ?_⟩
          have e3 : acc = p.1 := by simpa using e1
          have e4 : g' = p.2 := e2
          rw [← e3, ← e4] at c'
          exact c' (.ref A) H' D' (r1.step gr' r'.sub r'.res) gr' ⟨⟨A, us, rfl, hA', hD', nf, dp⟩, fun a ea => by cases ea; exact hA⟩
    · rw [if_neg hl] at c'; exact c'.elim
def fYes : Fn γ := fC (.bool true)
theorem dlc0 {elt tg iter : Expr} {scope : Scope} {own : List (Str × Nat)} {Ι : FnI γ} {gt : TG} {asg : Asg} {ψ : Fn γ} (hc : X.calm = true) (nd : X.N.Nodup) (hi : DI X P tg iter Ι) (ok : BlkOk X.N X.env.scope scope own)
    (hg : ∀ (s : Shared) (H : Hp) (C : Addr) (cl : List (Str × Addr)) (fp : List Addr), PG (X.blk s H scope (compEnvC scope cl C X.env) fp) tg gt) (ht : TgIs P.nox gt asg) (ho : TgOwn gt (own.map (·.2)))
    (he : ∀ (s : Shared) (H : Hp) (C : Addr) (cl : List (Str × Addr)) (fp : List Addr), DE (X.blk s H scope (compEnvC scope cl C X.env) fp) P.nox elt ψ) (hfs : ∀ x, foldedSetIterable iter X.env x = pure x := by intro _; rfl) :
    DE X P (.ListComp elt [⟨tg, iter, [], 0⟩] scope pos) (fLc (own.map (·.2)) Ι asg fYes ψ) :=
  PE.imp (pe_lc (own := own) hc nd hi ok hg (fun _ _ _ _ _ => pts_nil) he hfs) fun σ H Q => lc_core ht ho fun σ H Q ⟨D, ρ, g, r, c⟩ => c H D r .refl
theorem dlc1 {elt tg iter cnd : Expr} {scope : Scope} {own : List (Str × Nat)} {Ι : FnI γ} {gt : TG} {asg : Asg} {ψ : Fn γ} (hc : X.calm = true) (nd : X.N.Nodup) (hi : DI X P tg iter Ι) (ok : BlkOk X.N X.env.scope scope own)
    (hg : ∀ (s : Shared) (H : Hp) (C : Addr) (cl : List (Str × Addr)) (fp : List Addr), PG (X.blk s H scope (compEnvC scope cl C X.env) fp) tg gt) (ht : TgIs P.nox gt asg) (ho : TgOwn gt (own.map (·.2)))
    (hcn : ∀ (s : Shared) (H : Hp) (C : Addr) (cl : List (Str × Addr)) (fp : List Addr), DT (X.blk s H scope (compEnvC scope cl C X.env) fp) P.nox cnd τ)
    (he : ∀ (s : Shared) (H : Hp) (C : Addr) (cl : List (Str × Addr)) (fp : List Addr), DE (X.blk s H scope (compEnvC scope cl C X.env) fp) P.nox elt ψ) (hfs : ∀ x, foldedSetIterable iter X.env x = pure x := by intro _; rfl) :
    DE X P (.ListComp elt [⟨tg, iter, [cnd], 0⟩] scope pos) (fLc (own.map (·.2)) Ι asg τ ψ) :=
  PE.imp (pe_lc (own := own) hc nd hi ok hg (fun _ _ _ _ _ => pts_one (hcn _ _ _ _ _)) he hfs) fun σ H Q => lc_core ht ho fun σ H Q q => q
end
end Dn

set_option Elab.async false
set_option linter.all false
set_option autoImplicit false
set_option maxRecDepth 100000
set_option maxHeartbeats 4000000
namespace Dn
open PySem PySem.Spec PyProof.Rows L2

/-- what a def that uses no resource promises -/
def QP (K : PySem.W.Frag) (H D : Hp) (o : Out Unit) (Q : VK) (E : XK) : Prop := match o with
  | .ok y _ => ∀ v H' D', LG H D H' D' → VR K rs0 H H' D' v y → Q v H'
  | .exc C fs _ => ∀ d vfs H' D', LG H D H' D' → H' d = some (.xd vfs) → FR K D' vfs fs → E (.ref C) (some d) H'
  | .stuck => False
def spP (K : PySem.W.Frag) (n : Nat) (f : List PyData → Out Unit) : Sp := fun vs H Q E => vs.length = n ∧ ∃ D ds, Sub D H ∧ DpAll K D vs ds ∧ QP K H D (f ds) Q E
/-- what a def keeps where no repr is under way around it -/
structure FnG (gd : Prop) (P : Program) (w : World) (K : PySem.W.Frag) (mg : Str → Option Value) (base : Heap) (k : Nat) (f : Addr) (fd : FuncData) (ps : List Str) (sp : Sp) : Prop where
  len : ∀ vs H Q E, sp vs H Q E → vs.length = ps.length
  run : ∀ (A : Around) (outer : List PySem.Env) (s : Shared) (H : Hp) (args : Args) (us : List Value) (vs : List V) (Q : VK) (E : XK), (gd → A.guards = some []) → Room k A → Env0 P w K mg base A outer s H →
    BindsTo s fd args (ps.zip us) → Vals vs us → sp vs H Q E → codeAny (model P w) A (.call (.ref f) args) (CR (L2.CX P w) outer P w H s Q E) s
theorem FnG.of {gd : Prop} {P : Program} {w : World} {K : PySem.W.Frag} {mg : Str → Option Value} {base : Heap} {k : Nat} {f : Addr} {fd : FuncData} {ps : List Str} {sp : Sp} (F : FnOk P w K mg base (L2.CX P w) k f fd ps sp) : FnG gd P w K mg base k f fd ps sp :=
  ⟨F.len, fun A outer s H args us vs Q E _ => F.run A outer s H args us vs Q E⟩
theorem FnG.imp {gd : Prop} {P : Program} {w : World} {K : PySem.W.Frag} {mg : Str → Option Value} {base : Heap} {k : Nat} {f : Addr} {fd : FuncData} {ps : List Str} {sp sp' : Sp} (F : FnG gd P w K mg base k f fd ps sp) (i : ∀ vs H Q E, sp' vs H Q E → sp vs H Q E) : FnG gd P w K mg base k f fd ps sp' :=
  ⟨fun vs H Q E q => F.len vs H Q E (i _ _ _ _ q), fun A outer s H args us vs Q E hG hr he hb hv hs => F.run A outer s H args us vs Q E hG hr he hb hv (i _ _ _ _ hs)⟩
section
variable {γ : Type} {gd : Prop} {X : Cx} {P : Pm γ} {σ : L2.St} {H D H1 D1 H2 D2 H' D' : Hp} {ρ : Env} {g g1 g2 : γ} {e a b c : Expr} {φ ψ τ : Fn γ} {Φ Ψ : FnA γ} {t : TE} {pos : Pos} {Q : VK}
def liftO (o : Out Unit) (g : γ) : Out γ := match o with
  | .ok (.d x) _ => .ok (.d x) g
  | .ok (.l xs) _ => .ok (.l xs) g
  | .exc C fs _ => .exc C fs g
  | _ => .stuck
def fCall (n : Nat) (f : List PyData → Out Unit) (Φ : FnA γ) : Fn γ := fun ρ g => (Φ ρ g).bind fun ys g1 => match allD ys with
  | some ds => if ds.length = n then liftO (f ds) g1 else .stuck
  | none => .stuck
theorem call_of {n : Nat} {f : List PyData → Out Unit} (r1 : Rep P σ H1 D1 ρ g1) {ys : List SV} {vs : List V} (vr : ARs P.K P.rs H1 D1 vs ys) (c1 : Cont P σ H1 D1 ρ (match allD ys with | some ds => if ds.length = n then liftO (f ds) g1 else .stuck | none => .stuck) Q) :
    spP P.K n f vs H1 Q (WE P.W σ) := by
  cases q : allD ys with
  | none => simp only [q] at c1; exact c1.elim
  | some ds =>
    simp only [q] at c1
    by_cases hn : ds.length = n
    · rw [if_pos hn] at c1
      refine ⟨by rw [vr.len, ← allD_len q]; exact hn, D1, ds, r1.sub, vr.allD q, ?_⟩
      unfold QP
      cases w : f ds with
      | ok y u =>
        rw [w] at c1
        intro v H' D' l h
        cases y with
        | d x => exact c1 v H' D' (r1.lg l) l.grow h
        | l xs =>
          obtain ⟨⟨a, us, e, k1, k2, _, k4⟩, k5⟩ := h
          exact c1 v H' D' (r1.lg l) l.grow ⟨⟨a, us, e, k1, k2, r1.nfp (k5 a e), k4⟩, k5⟩
        | b xs => exact c1.elim
        | h => exact c1.elim
      | exc C fs u =>
        rw [w] at c1
        exact fun d vfs H' D' l h1 h2 => c1 d vfs H' D' (r1.lg l) l.grow h1 h2
      | stuck => rw [w] at c1; exact c1
    · rw [if_neg hn] at c1; exact c1.elim
/-- the call of such a def -/
theorem pcallG {k : Nat} {f : Addr} {fd : FuncData} {ps : List Str} {sp : Sp} {W : WX} {x : Str} {p : Pos} {es : List Expr} {tA : TA} (tk : Takes X W) (hG : gd → X.A.guards = some []) (F : FnG gd X.prog X.w X.K X.mg X.base k f fd ps sp) (hr : Room k X.A)
    (hm : X.mg x = some (.ref f)) (hk : PySem.W.keepIn X.K (.ref f) = true) (hb : Binds X.K fd ps []) (ha : PA X (e :: es) tA) (hg : Gl X x) (hdb : (x == ("__debug__" : Str)) = false) (he : starEach (e :: es) X.env = (false, eval e X.env) :: starEach es X.env)
    (hpl : (backTo pos (starEach es X.env)).any (·.1) = false) : PE X (.Call (.Name x p) (e :: es) [] pos) (tCallS sp (WE W) tA) := ⟨fun pins s σ H Q I h => by
  refine wpAny_Call_Name_kw (ld_glob I hg hm ?_ hdb)
  have args := ha.run pos pins s σ H _ I h
  refine PySem.W.callWith_K (h₀ := X.base) I.ok.mod.kin hk ?_ he hpl
  refine thn args fun us s1 z => ?_
  obtain ⟨vs, H1, I1, rv, q⟩ := z
  have hlen : us.length = ps.length := rv.length ▸ F.len _ _ _ _ q
  have hbnd := hb s1 us I1.kIn (by simpa using hlen)
  rw [List.append_nil] at hbnd
  refine ⟨I1.kIn, wpAny_call (codeAny_mono (F.run X.A X.stack s1 H1 _ us vs Q (WE W σ) hG hr I1.env0 hbnd rv q) fun r s2 hq => ?_)⟩
  match r, hq with
  | .error ex, hq => exact passAt tk σ pins H1 s1 ex s2 I1 hq
  | .ok (.ret u), hq => exact I1.after hq
  | .ok .next, hq => exact hq.elim
  | .ok .brk, hq => exact hq.elim
  | .ok .cont, hq => exact hq.elim⟩
theorem dcall {k : Nat} {f : Addr} {fd : FuncData} {ps : List Str} {n : Nat} {fn : List PyData → Out Unit} {x : Str} {p : Pos} {es : List Expr} (tk : Takes X P.W) (hG : gd → X.A.guards = some []) (F : FnG gd X.prog X.w X.K X.mg X.base k f fd ps (spP P.K n fn)) (hr : Room k X.A)
    (hm : X.mg x = some (.ref f)) (hk : PySem.W.keepIn X.K (.ref f) = true) (hb : Binds X.K fd ps []) (ha : DA X P (e :: es) Φ) (hg : Gl X x := by rfl) (hdb : (x == ("__debug__" : Str)) = false := by decide) (he : starEach (e :: es) X.env = (false, eval e X.env) :: starEach es X.env := by rfl)
    (hpl : (backTo pos (starEach es X.env)).any (·.1) = false := by rfl) : DE X P (.Call (.Name x p) (e :: es) [] pos) (fCall n fn Φ) :=
  PE.imp (pcallG tk hG F hr hm hk hb ha hg hdb he hpl) fun σ H Q ⟨D, ρ, g, r, c⟩ =>
    tDA_bind r c fun ys g1 vs H1 D1 _ r1 gr vr c1 => call_of r1 vr c1
/-- built-in functions and types by name -/
theorem dcb {id : String} {x : Str} {p : Pos} {es : List Expr} {r : List V → Hp → VK → Prop} {F : List SV → Option SV} (hc : CallR X (.builtin id) r) (ok : CrOk P.K r F) (hm : X.mg x = none) (hv : bootBuiltins x = some (.builtin id)) (ha : DA X P (e :: es) Φ)
    (hg : Gl X x := by rfl) (hn : x ≠ "__name__" := by decide) (hdb : (x == ("__debug__" : Str)) = false := by decide) (he : starEach (e :: es) X.env = (false, eval e X.env) :: starEach es X.env := by rfl)
    (hpl : (backTo pos (starEach es X.env)).any (·.1) = false := by rfl) : DE X P (.Call (.Name x p) (e :: es) [] pos) (fCB F Φ) :=
  PE.imp (pe_callB hc hg hm hv ha hn hdb he hpl) fun _ _ _ => tCB_of ok
theorem dct {T : String} {x : Str} {p : Pos} {es : List Expr} {r : List V → Hp → VK → Prop} {F : List SV → Option SV} (hc : CallR X (.type T) r) (ok : CrOk P.K r F) (hm : X.mg x = none) (hv : bootBuiltins x = some (.type T)) (ha : DA X P (e :: es) Φ)
    (hg : Gl X x := by rfl) (hn : x ≠ "__name__" := by decide) (hdb : (x == ("__debug__" : Str)) = false := by decide) (he : starEach (e :: es) X.env = (false, eval e X.env) :: starEach es X.env := by rfl)
    (hpl : (backTo pos (starEach es X.env)).any (·.1) = false := by rfl) : DE X P (.Call (.Name x p) (e :: es) [] pos) (fCB F Φ) :=
  PE.imp (pe_callTy hc hg hm hv ha hn hdb he hpl) fun _ _ _ => tCB_of ok

/-! ### the def itself -/
def env0 (N : List Str) (ds : List PyData) : Env := ds.map (fun x => some (.d x)) ++ List.replicate (N.length - ds.length) none
def SOut.fin (o : SOut γ) : Out γ := match o with
  | .ret y g => .ok y g
  | .next _ g => .ok (.d .none) g
  | .exc C fs _ g => .exc C fs g
  | _ => .stuck
def runP (N : List Str) (ψ : SFn Unit) (ds : List PyData) : Out Unit := (ψ (env0 N ds) ()).fin
theorem start_get {N : List Str} {vs : List V} {i : Nat} {v : V} (h : vs[i]? = some v) : (L2.start N vs)[i]? = some (some v) := by
  unfold L2.start
  have hi := (List.getElem?_eq_some_iff.mp h).1
  rw [List.getElem?_append_left (by simpa using hi), List.getElem?_map, h]
  rfl
theorem env0_get {N : List Str} {ds : List PyData} {i : Nat} {y : SV} (h : (env0 N ds)[i]? = some (some y)) : ∃ x, y = .d x ∧ ds[i]? = some x := by
  unfold env0 at h
  by_cases hi : i < ds.length
  · rw [List.getElem?_append_left (by simpa using hi), List.getElem?_map] at h
    have e : ds[i]? = some ds[i] := by simp [hi]
    rw [e] at h
    cases h
    exact ⟨_, rfl, e⟩
  · rw [List.getElem?_append_right (by simpa using hi), List.getElem?_replicate] at h
    split at h
    · cases h
    · cases h
theorem rep0 {K : PySem.W.Frag} {N : List Str} {vs : List V} {ds : List PyData} {H D : Hp} {W : WX} (s : Sub D H) (h : DpAll K D vs ds) : Rep (γ := Unit) ⟨K, rs0, H, D, W⟩ (L2.start N vs) H D (env0 N ds) () := by
  refine ⟨.refl, s, fun _ z => z.elim, ?_, fun i y e => ?_, fun i xs a e => ?_, fun i xs e => ?_, fun i j a b xs ys _ e => ?_, fun _ z => z.elim, trivial⟩
  · unfold env0 L2.start
    simp [DpAll.len h]
  · obtain ⟨x, rfl, e1⟩ := env0_get e
    obtain ⟨v, e2, h2⟩ := DpAll.get h e1
    exact ⟨v, start_get e2, h2⟩
  · obtain ⟨x, z, _⟩ := env0_get e; cases z
  · obtain ⟨x, z, _⟩ := env0_get e; cases z
  · obtain ⟨x, z, _⟩ := env0_get e; cases z
theorem Grow.lg0 {H D H' D' : Hp} (a : Grow rs0.fp H D H' D') (s : Sub D' H') : LG H D H' D' := ⟨fun x o h => a.keep x o (fun z => z) h, a.dk, a.dn, s⟩
end
section
variable {gd : Prop} {P : Program} {w : World} {K : PySem.W.Frag} {mg : Str → Option Value} {base : Heap}
abbrev cxD (P : Program) (w : World) (K : PySem.W.Frag) (mg : Str → Option Value) (base : Heap) (N : List Str) (qual : Str) (st : Stmt) (f : Addr) (cdv : Value) (A : Around) (outer : List PySem.Env) (s : Shared) (H : Hp) (E : XK) : Cx := cxOf (L2.CX P w) P w K mg base N qual (defScope st) f cdv A outer s H E
/-- from a body to what the def keeps -/
theorem fnG_of {x qual : Str} {st : Stmt} {f : Addr} {fd : FuncData} {N ps : List Str} {k : Nat} {sp : Sp} (F : Fun K x qual st f fd) (S : FnScope N ps (defScope st)) (len : ∀ vs H Q E, sp vs H Q E → vs.length = ps.length)
    (body : ∀ (cdv : Value) (A : Around) (outer : List PySem.Env) (s : Shared) (H : Hp) (vs : List V) (Q : VK) (E : XK), (gd → A.guards = some []) → Room k (cxD P w K mg base N qual st f cdv A outer s H E).A → sp vs H Q E →
      ∃ t, PSs (cxD P w K mg base N qual st f cdv A outer s H E) (defBody st) t ∧ t { nx := fun _ H' => Q .non H', rt := Q } (L2.start N vs) H) : FnG gd P w K mg base (k + 1) f fd ps sp := by
  obtain ⟨oc, od, kV, doc, pm, an, cdv, ct, osl, rfl, lk, hcd⟩ := F.ex
  constructor
  · exact len
  · intro A outer s H args us vs Q E hG hr e0 hb rv hs
    have inK : K.In s.heap := e0.mod.kin.keeps (fun b o q => (e0.bs b o q).1)
    have noLim : s.heap.NoLimit := e0.mod.nolimit.keeps (fun b o q => (e0.bs b o q).1)
    refine codeAny_call_function hr.depth (inK _ _ lk) rfl S.co S.gen rfl (PySem.W.codeRec_of inK hcd) (hb _ _ _ _ ?_)
    refine wpAny_newFunctionEnv_cells S.kind (fun y hy => ?_) fun env q s1 hin => ?_
    · have hp : y.1 ∈ ps := (List.of_mem_zip (show (y.1, y.2) ∈ ps.zip us from hy)).1
      exact (S.par y.1 hp).elim .inl fun z => .inr ⟨z, PySem.W.cellsFrom_some _ _ _ (.inl z)⟩
    · cases q
      refine ⟨noLim.keeps hin.toInCall.keep, codeAny_func ?_⟩
      obtain ⟨t, ht, hq⟩ := body cdv A outer s H vs Q E hG (hr.deeper _) hs
      have inv := inv_start (CX := L2.CX P w) (E := E) S hr.hd e0 (len _ _ _ _ hs) rv hin
      refine wpAny_mono (ht.run [] s1 _ H _ inv hq) (fun fl s2 z => ?_) fun ex s2 z => z
      match fl, z with
      | .ret u, ⟨v, σ', H', J, r1, r2⟩ => exact ⟨v, H', J.os, J.bare, J.base, J.hok, r1, r2⟩
      | .next, ⟨σ', H', J, r2⟩ => exact ⟨V.non, H', J.os, J.bare, J.base, J.hok, rfl, r2⟩
      | .brk, ⟨_, _, _, z⟩ => exact z.elim
      | .cont, ⟨_, _, _, z⟩ => exact z.elim
/-- THE RULE for a def without a resource -/
theorem fnP {x qual : Str} {st : Stmt} {f : Addr} {fd : FuncData} {N ps : List Str} {k : Nat} {ψ : SFn Unit} (F : Fun K x qual st f fd) (S : FnScope N ps (defScope st))
    (hbody : ∀ (cdv : Value) (A : Around) (outer : List PySem.Env) (s : Shared) (H D : Hp) (E : XK), Room k (cxD P w K mg base N qual st f cdv A outer s H E).A → Takes (cxD P w K mg base N qual st f cdv A outer s H E) (fun cls d _ H => E cls d H) →
      PassesOwn (model P w) (cxD P w K mg base N qual st f cdv A outer s H E).A (cxD P w K mg base N qual st f cdv A outer s H E).env (cxD P w K mg base N qual st f cdv A outer s H E).xe → (gd → (cxD P w K mg base N qual st f cdv A outer s H E).A.guards = some []) →
      DSs (cxD P w K mg base N qual st f cdv A outer s H E) ⟨K, rs0, H, D, fun cls d _ H => E cls d H⟩ (defBody st) ψ) : FnG gd P w K mg base (k + 1) f fd ps (spP K ps.length (runP N ψ)) := by
  refine fnG_of F S (fun vs H Q E h => h.1) fun cdv A outer s H vs Q E hG hr h => ?_
  obtain ⟨hl, D, ds, sd, hd, q⟩ := h
  refine ⟨_, hbody cdv A outer s H D E hr (takes_of rfl rfl rfl rfl) (passes_of rfl) hG, D, env0 N ds, (), rep0 sd hd, ?_⟩
  unfold runP at q
  cases o : ψ (env0 N ds) () with
  | next ρ' g' =>
    rw [o] at q
    exact fun σ' H' D' r' s' => q _ H' D' (Grow.lg0 r'.grow r'.sub) Dp.non
  | ret y g' =>
    rw [o] at q
    exact fun v H' D' gr s' _ _ vr => q v H' D' (Grow.lg0 gr s') vr
  | exc C fs ρ' g' =>
    rw [o] at q
    exact fun σ' d vfs H' D' r' s' h1 h2 => q d vfs H' D' (Grow.lg0 r'.grow r'.sub) h1 h2
  | brk ρ' g' => rw [o] at q; exact q.elim
  | cont ρ' g' => rw [o] at q; exact q.elim
  | stuck => rw [o] at q; exact q.elim
/-- a nicer function -/
theorem FnG.eqf {f : Addr} {fd : FuncData} {ps : List Str} {k n : Nat} {fn fn' : List PyData → Out Unit} (h : FnG gd P w K mg base k f fd ps (spP K n fn)) (e : ∀ ds, ds.length = n → fn ds = fn' ds) : FnG gd P w K mg base k f fd ps (spP K n fn') :=
  h.imp fun vs H Q E ⟨hl, D, ds, s, hd, q⟩ => ⟨hl, D, ds, s, hd, by rw [e ds (by rw [← DpAll.len hd]; exact hl)]; exact q⟩
end
end Dn

set_option Elab.async false
set_option linter.all false
set_option autoImplicit false
set_option maxRecDepth 100000
set_option maxHeartbeats 4000000
namespace Dn
open PySem PySem.Spec PyProof.Rows L2
section
variable {γ : Type} {X : Cx} {P : Pm γ} {σ : L2.St} {H D H1 D1 H2 D2 H' D' : Hp} {ρ : Env} {g g1 g2 : γ} {e a b c : Expr} {φ ψ τ : Fn γ} {Φ Ψ : FnA γ} {t : TE} {pos : Pos} {Q : VK} {K : PySem.W.Frag}

theorem sz5 {n : Nat} (h : n ≤ 100000) : n ≤ sizeLine := Nat.le_trans h (by decide)
/-- a list of its own as an operand -/
def ownL : SV → Option (List PyData)
  | .l xs => some xs
  | .b xs => some xs
  | _ => none
theorem ar_own {rs : Rs γ} {v : V} {y : SV} {xs : List PyData} (h : AR K rs H D v y) (e : ownL y = some xs) : LstAt K rs H D v xs := by
  cases y with
  | l ys => cases e; exact h
  | b ys => cases e; exact h
  | d _ => cases e
  | h => cases e
/-- data as it is now -/
def toD : SV → Option PyData
  | .d x => some x
  | .l xs => some (.list xs)
  | .b xs => some (.list xs)
  | .h => none
theorem ar_dp {rs : Rs γ} {v : V} {y : SV} {x : PyData} (s : Sub D H) (h : AR K rs H D v y) (e : toD y = some x) : Dp K H v x := by
  have key : ∀ xs, LstAt K rs H D v xs → Dp K H v (.list xs) := fun xs ⟨a, vs, e, h1, h2, _, h3⟩ => by subst e; exact .lst (SqL.of h1) (DpAll.up s _ _ h3)
  cases y with
  | d x => cases e; exact Dp.up s _ _ h
  | l xs => cases e; exact key xs h
  | b xs => cases e; exact key xs h
  | h => cases e
/-- a value that needs no new object -/
theorem vr_d {rs : Rs γ} {v : V} {x : PyData} (h : Dp K D v x) : VR K rs H H D v (.d x) := h
theorem vr_new {rs : Rs γ} {p : Addr} {vs : List V} {xs : List PyData} (s : Sub D H) (hp : H p = none) (nf : ¬ rs.fp p) (h : DpAll K D vs xs) : VR K rs H (upd H p (.lst vs)) D (.ref p) (.l xs) := by
  have hd : D p = none := by
    cases q : D p with
    | none => rfl
    | some u => rw [s p u q] at hp; cases hp
  exact ⟨⟨p, vs, rfl, upd_same, hd, nf, h⟩, fun a e => by cases e; exact hp⟩

/-! ### ints -/
def I2 (f : Int → Int → Option PyData) : SV → SV → Option SV := fun x y => match x, y with
  | .d (.int i), .d (.int j) => (f i j).map .d
  | _, _ => none
theorem I2_inv {f : Int → Int → Option PyData} {x y z : SV} (h : I2 f x y = some z) : ∃ i j d, x = .d (.int i) ∧ y = .d (.int j) ∧ f i j = some d ∧ z = .d d := by
  unfold I2 at h
  split at h
  · rename_i i j
    cases q : f i j with
    | none => rw [q] at h; cases h
    | some d => rw [q] at h; cases h; exact ⟨i, j, d, rfl, rfl, q, rfl⟩
  · cases h
/-- an operation on two ints that gives a plain value -/
theorem ok_I {C : Int → Int → Prop} {gV : Int → Int → V} {f : Int → Int → Option PyData} (hf : ∀ i j d, f i j = some d → C i j ∧ ∀ K D, Dp K D (gV i j) d) : OpOk K (rI C gV) (I2 f) := fun {γ} rs H D vx vy x y z Q s rd hx hy hz q => by
  obtain ⟨i, j, d, rfl, rfl, hd, rfl⟩ := I2_inv hz
  cases hx
  cases hy
  obtain ⟨c, dp⟩ := hf i j d hd
  exact ⟨i, j, rfl, rfl, c, q _ H D (.refl s) (dp _ _)⟩
theorem ok_I0 {gV : Int → Int → V} {f : Int → Int → Option PyData} (hf : ∀ i j d, f i j = some d → ∀ K D, Dp K D (gV i j) d) : OpOk K (rI0 gV) (I2 f) := fun {γ} rs H D vx vy x y z Q s rd hx hy hz q => by
  obtain ⟨i, j, d, rfl, rfl, hd, rfl⟩ := I2_inv hz
  cases hx
  cases hy
  exact ⟨i, j, rfl, rfl, q _ H D (.refl s) (hf i j d hd _ _)⟩
def oSub : SV → SV → Option SV := I2 fun i j => some (.int (i - j))
def oLt : SV → SV → Option SV := I2 fun i j => some (.bool (decide (i < j)))
def oLe : SV → SV → Option SV := I2 fun i j => some (.bool (decide (i ≤ j)))
def oGt : SV → SV → Option SV := I2 fun i j => some (.bool (decide (j < i)))
def oGe : SV → SV → Option SV := I2 fun i j => some (.bool (decide (j ≤ i)))
def oMod : SV → SV → Option SV := I2 fun i j => if 0 < j then some (.int (i % j)) else none
def oAnd : SV → SV → Option SV := I2 fun i j => some (.int (Builtin.bitAnd i j))
theorem kSub : OpOk K (rI0 fun i j => .int (i - j)) oSub := ok_I0 fun i j d h _ _ => by cases h; exact .int _
theorem kLt : OpOk K (rI0 fun i j => .bl (decide (i < j))) oLt := ok_I0 fun i j d h _ _ => by cases h; exact .bl _
theorem kLe : OpOk K (rI0 fun i j => .bl (decide (i ≤ j))) oLe := ok_I0 fun i j d h _ _ => by cases h; exact .bl _
theorem kGt : OpOk K (rI0 fun i j => .bl (decide (j < i))) oGt := ok_I0 fun i j d h _ _ => by cases h; exact .bl _
theorem kGe : OpOk K (rI0 fun i j => .bl (decide (j ≤ i))) oGe := ok_I0 fun i j d h _ _ => by cases h; exact .bl _
theorem kAnd : OpOk K (rI0 fun i j => .int (Builtin.bitAnd i j)) oAnd := ok_I0 fun i j d h _ _ => by cases h; exact .int _
theorem kMod : OpOk K (rI (fun _ j => 0 < j) fun i j => .int (i % j)) oMod := ok_I fun i j d h => by
  by_cases c : 0 < j
  · rw [if_pos c] at h; cases h; exact ⟨c, fun _ _ => .int _⟩
  · rw [if_neg c] at h; cases h

/-- // of ints of any size: the divisor below 2 ^ 9000 -/
def CDivA (i j : Int) : Prop := j ≠ 0 ∧ j.natAbs.log2 < 9000
theorem op_fdivA : OpR X (binaryOp .FloorDiv) (rI CDivA fun i j => .int (i.fdiv j)) := opI fun i j _ _ _ _ _ hc q => floordiv_int hc.1 q (.inl (PyProof.noPylong_of_log2 hc.2))
def oMul : SV → SV → Option SV := I2 fun i j => if i.natAbs.log2 + j.natAbs.log2 < 1000000 then some (.int (i * j)) else none
def oDiv : SV → SV → Option SV := I2 fun i j => if j ≠ 0 ∧ j.natAbs.log2 < 9000 then some (.int (i.fdiv j)) else none
theorem kMul : OpOk K (rI CMulW fun i j => .int (i * j)) oMul := ok_I fun i j d h => by
  by_cases c : i.natAbs.log2 + j.natAbs.log2 < 1000000
  · rw [if_pos c] at h; cases h; exact ⟨c, fun _ _ => .int _⟩
  · rw [if_neg c] at h; cases h
theorem kDiv : OpOk K (rI CDivA fun i j => .int (i.fdiv j)) oDiv := ok_I fun i j d h => by
  by_cases c : j ≠ 0 ∧ j.natAbs.log2 < 9000
  · rw [if_pos c] at h; cases h; exact ⟨c, fun _ _ => .int _⟩
  · rw [if_neg c] at h; cases h
def oNeg : SV → Option SV := fun x => match x with
  | .d (.int i) => some (.d (.int (-i)))
  | _ => none
theorem kNeg : UnOk K (rU fun i => .int (-i)) oNeg := fun {γ} rs H D vx x z Q s rd hx hz q => by
  unfold oNeg at hz
  split at hz
  · rename_i i
    cases hz
    cases hx
    exact ⟨i, rfl, q _ H D (.refl s) (Dp.int _)⟩
  · cases hz

/-! ### + -/
def rAdd (K : PySem.W.Frag) : R2 := fun x y H Q => ((∃ i j, x = .int i ∧ y = .int j ∧ Q (.int (i + j)) H) ∨ (∃ i j, x = .str i ∧ y = .str j ∧ i.length + j.length ≤ sizeLine ∧ Q (.str (i ++ j)) H)) ∨ (rCatA K x y H Q ∨ rCat x y H Q)
theorem op_addAll : OpR X (binaryOp .Add) (rAdd X.K) := OpR.or (OpR.or op_add op_add_str) (OpR.or op_catA op_cat)
def oAdd : SV → SV → Option SV := fun x y => match x, y with
  | .d (.int i), .d (.int j) => some (.d (.int (i + j)))
  | .d (.str i), .d (.str j) => if i.length + j.length ≤ 100000 then some (.d (.str (i ++ j))) else none
  | .d (.tuple i), .d (.tuple j) => if i.length + j.length ≤ 100000 then some (.d (.tuple (i ++ j))) else none
  | x, y => match ownL x, ownL y with
    | some i, some j => if i.length + j.length ≤ 100000 then some (.l (i ++ j)) else none
    | _, _ => none
theorem nf_of {rs : Rs γ} {p : Addr} (h : H p = none) (rd : ∀ a, rs.fp a → H a ≠ none) : ¬ rs.fp p := fun z => rd p z h
theorem kAdd : OpOk K (rAdd K) oAdd := fun {γ} rs H D vx vy x y z Q s rd hx hy hz q => by
  unfold oAdd at hz
  split at hz
  · cases hz; cases hx; cases hy
    exact .inl (.inl ⟨_, _, rfl, rfl, q _ H D (.refl s) (Dp.int _)⟩)
  · rename_i i j
    by_cases hl : i.length + j.length ≤ 100000
    · rw [if_pos hl] at hz; cases hz; cases hx; cases hy
      exact .inl (.inr ⟨_, _, rfl, rfl, sz5 hl, q _ H D (.refl s) (Dp.str _)⟩)
    · rw [if_neg hl] at hz; cases hz
  · rename_i i j
    by_cases hl : i.length + j.length ≤ 100000
    · rw [if_pos hl] at hz; cases hz
      cases hx with
      | tup h1 d1 =>
        cases hy with
        | tup h2 d2 =>
          rename_i a us b ws
          have l1 := DpAll.len d1
          have l2 := DpAll.len d2
          refine .inr (.inl ⟨a, b, us, ws, rfl, rfl, Sub.st s h1, Sub.st s h2, sz5 (by omega), fun e => ?_, fun _ e => ?_, fun _ _ p hp => ?_⟩)
          · subst e
            have : i = [] := List.eq_nil_of_length_eq_zero (by simpa using l1.symm)
            subst this
            exact q _ H D (.refl s) (Dp.tup h2 d2)
          · subst e
            have : j = [] := List.eq_nil_of_length_eq_zero (by simpa using l2.symm)
            subst this
            rw [List.append_nil] at q
            exact q _ H D (.refl s) (Dp.tup h1 d1)
          · have l := LG.newD (o := .tup (us ++ ws)) s hp
            exact q _ _ _ l (Dp.tup (SqT.of upd_same) (DpAll.up l.dk _ _ (DpAll.app d1 d2)))
    · rw [if_neg hl] at hz; cases hz
  · split at hz
    · rename_i i j e1 e2
      by_cases hl : i.length + j.length ≤ 100000
      · rw [if_pos hl] at hz; cases hz
        obtain ⟨a, us, rfl, k1, _, _, k4⟩ := ar_own hx e1
        obtain ⟨b, ws, rfl, m1, _, _, m4⟩ := ar_own hy e2
        have l1 := DpAll.len k4
        have l2 := DpAll.len m4
        exact .inr (.inr ⟨a, b, us, ws, rfl, rfl, k1, m1, sz5 (by omega), fun p hp => q _ _ D (LG.new s hp) (vr_new s hp (nf_of hp rd) (DpAll.app k4 m4))⟩)
      · rw [if_neg hl] at hz; cases hz
    · cases hz
/-- [x] * n -/
def oRep : SV → SV → Option SV := fun x y => match x, y with
  | x, .d (.int k) => (match ownL x with
    | some xs => if k ≤ 100000 ∧ -100000 ≤ k ∧ xs.length * k.toNat ≤ 100000 then some (.l (List.replicate k.toNat xs).flatten) else none
    | none => none)
  | _, _ => none
theorem DpAll.rep {vs : List V} {ds : List PyData} (h : DpAll K D vs ds) : ∀ n : Nat, DpAll K D (List.replicate n vs).flatten (List.replicate n ds).flatten
  | 0 => .nil
  | n + 1 => by
    rw [List.replicate_succ, List.replicate_succ, List.flatten_cons, List.flatten_cons]
    exact DpAll.app h (DpAll.rep h n)
theorem kRep : OpOk K rRep oRep := fun {γ} rs H D vx vy x y z Q s rd hx hy hz q => by
  unfold oRep at hz
  split at hz
  · rename_i k
    split at hz
    · rename_i xs e1
      by_cases hl : k ≤ 100000 ∧ -100000 ≤ k ∧ xs.length * k.toNat ≤ 100000
      · rw [if_pos hl] at hz; cases hz
        obtain ⟨a, us, rfl, k1, _, _, k4⟩ := ar_own hx e1
        cases hy
        have l1 := DpAll.len k4
        exact ⟨a, k, us, rfl, rfl, k1, by omega, by omega, by rw [l1]; exact sz5 hl.2.2, fun p hp => q _ _ D (LG.new s hp) (vr_new s hp (nf_of hp rd) (DpAll.rep k4 _))⟩
      · rw [if_neg hl] at hz; cases hz
    · cases hz
  · cases hz

/-! ### ==, != -/
def oEq : SV → SV → Option SV := fun x y => match toD x, toD y with
  | some a, some b => if SeqAt.shaped a = true ∧ SeqAt.shaped b = true then some (.d (.bool (PyData.eqv a b))) else none
  | _, _ => none
def oNe : SV → SV → Option SV := fun x y => match toD x, toD y with
  | some a, some b => if SeqAt.shaped a = true ∧ SeqAt.shaped b = true then some (.d (.bool (!PyData.eqv a b))) else none
  | _, _ => none
theorem kEq : OpOk K (rEqD K) oEq := fun {γ} rs H D vx vy x y z Q s rd hx hy hz q => by
  unfold oEq at hz
  split at hz
  · rename_i a b e1 e2
    by_cases hl : SeqAt.shaped a = true ∧ SeqAt.shaped b = true
    · rw [if_pos hl] at hz; cases hz
      exact ⟨a, b, ar_dp s hx e1, ar_dp s hy e2, hl.1, hl.2, q _ H D (.refl s) (Dp.bl _)⟩
    · rw [if_neg hl] at hz; cases hz
  · cases hz
theorem kNe : OpOk K (rNeD K) oNe := fun {γ} rs H D vx vy x y z Q s rd hx hy hz q => by
  unfold oNe at hz
  split at hz
  · rename_i a b e1 e2
    by_cases hl : SeqAt.shaped a = true ∧ SeqAt.shaped b = true
    · rw [if_pos hl] at hz; cases hz
      exact ⟨a, b, ar_dp s hx e1, ar_dp s hy e2, hl.1, hl.2, q _ H D (.refl s) (Dp.bl _)⟩
    · rw [if_neg hl] at hz; cases hz
  · cases hz
theorem hu64 {k : Nat} (hr : Room k X.A) : X.A.units + 64 < cLine := by have := hr.un; omega
theorem hu65 {k : Nat} (hr : Room k X.A) : X.A.units + 65 < cLine := by have := hr.un; omega
/-- is True, is not True .. of bools -/
def oIs : SV → SV → Option SV := fun x y => match x, y with
  | .d (.bool a), .d (.bool b) => some (.d (.bool (decide (a = b))))
  | _, _ => none
def oIsNot : SV → SV → Option SV := fun x y => match x, y with
  | .d (.bool a), .d (.bool b) => some (.d (.bool (!decide (a = b))))
  | _, _ => none
theorem kIs : OpOk K rIsB oIs := fun {γ} rs H D vx vy x y z Q s rd hx hy hz q => by
  unfold oIs at hz
  split at hz
  · cases hz; cases hx; cases hy
    exact ⟨_, _, rfl, rfl, q _ H D (.refl s) (Dp.bl _)⟩
  · cases hz
theorem kIsNot : OpOk K rNotB oIsNot := fun {γ} rs H D vx vy x y z Q s rd hx hy hz q => by
  unfold oIsNot at hz
  split at hz
  · cases hz; cases hx; cases hy
    exact ⟨_, _, rfl, rfl, q _ H D (.refl s) (Dp.bl _)⟩
  · cases hz

/-! ### items -/
def oIx : SV → SV → Option SV := fun x y => match x, y with
  | .d (.str z), .d (.int i) => if z.length ≤ 100000 then (atI z.cps.toList i).map fun c => .d (.str ⟨#[c]⟩) else none
  | x, .d (.int i) => (match seqOf x with
    | some xs => (atI xs i).map .d
    | none => none)
  | _, _ => none
theorem atI_get {vs : List V} {ds : List PyData} (h : DpAll K D vs ds) {i : Int} {d : PyData} (e : atI ds i = some d) : ∃ v, atI vs i = some v ∧ Dp K D v d := by
  unfold atI at *
  rw [DpAll.len h]
  cases q : ixN ds.length i with
  | none => rw [q] at e; cases e
  | some j =>
    rw [q] at e
    exact DpAll.get h e
theorem kIx : OpOk K (rIx K) oIx := fun {γ} rs H D vx vy x y z Q s rd hx hy hz q => by
  unfold oIx at hz
  split at hz
  · rename_i zz i
    by_cases hl : zz.length ≤ 100000
    · rw [if_pos hl] at hz
      cases w : atI zz.cps.toList i with
      | none => rw [w] at hz; cases hz
      | some c =>
        rw [w] at hz; cases hz; cases hx; cases hy
        exact .inr (.inr ⟨zz, i, c, rfl, rfl, sz5 hl, w, q _ H D (.refl s) (Dp.str _)⟩)
    · rw [if_neg hl] at hz; cases hz
  · rename_i i _
    split at hz
    · rename_i xs e
      cases w : atI xs i with
      | none => rw [w] at hz; cases hz
      | some d =>
        rw [w] at hz; cases hz; cases hy
        have key : LstAt K rs H D vx xs → rIx K vx (.int i) H Q := fun ⟨a, vs, e, h1, h2, _, h3⟩ => by
          subst e
          obtain ⟨v, e1, h4⟩ := atI_get h3 w
          exact .inl ⟨a, vs, i, v, rfl, rfl, SqL.of h1, e1, q _ H D (.refl s) h4⟩
        cases x with
        | l ys => cases e; exact key hx
        | b ys => cases e; exact key hx
        | h => cases e
        | d u =>
          cases u with
          | list ys =>
            cases e
            cases hx with
            | lst h1 h2 =>
              obtain ⟨v, e1, h4⟩ := atI_get h2 w
              exact .inl ⟨_, _, i, v, rfl, rfl, Sub.sl s h1, e1, q _ H D (.refl s) h4⟩
          | tuple ys =>
            cases e
            cases hx with
            | tup h1 h2 =>
              obtain ⟨v, e1, h4⟩ := atI_get h2 w
              exact .inr (.inl ⟨_, _, i, v, rfl, rfl, Sub.st s h1, e1, q _ H D (.refl s) h4⟩)
          | _ => cases e
    · cases hz
  · cases hz
end
end Dn

set_option Elab.async false
set_option linter.all false
set_option autoImplicit false
set_option maxRecDepth 100000
set_option maxHeartbeats 4000000
namespace Dn
open PySem PySem.Spec PyProof.Rows L2
section
variable {γ : Type} {X : Cx} {P : Pm γ} {σ : L2.St} {H D H1 D1 H2 D2 H' D' : Hp} {ρ : Env} {g g1 g2 : γ} {e a b c : Expr} {φ ψ τ : Fn γ} {Φ Ψ : FnA γ} {t : TE} {pos : Pos} {Q : VK} {K : PySem.W.Frag}

/-! ### isinstance -/
def tyName : PyData → String
  | .none => "NoneType"
  | .bool _ => "bool"
  | .int _ => "int"
  | .str _ => "str"
  | .list _ => "list"
  | .tuple _ => "tuple"
  | .dict _ => "dict"
theorem dp_ty {v : V} : ∀ {x : PyData}, Dp K H v x → TyX K H v (.type (tyName x))
  | .none, h => by cases h; exact .base .non
  | .bool _, h => by cases h; exact .base (.bl _)
  | .int _, h => by cases h; exact .base (.int _)
  | .str _, h => by cases h; exact .base (.str _)
  | .list _, h => by
    cases h with
    | lst h1 _ =>
      rcases h1 with (h | ⟨o, h⟩) | ⟨o, its, n, hk, hc, _⟩
      · exact .base (.lst h)
      · exact .base (.frz h)
      · exact .kList hk hc
  | .tuple _, h => by
    cases h with
    | tup h1 _ =>
      rcases h1 with (h | ⟨o, h⟩) | ⟨o, its, n, hk, hc, _⟩
      · exact .base (.tup h)
      · exact .fTuple h
      · exact .kTuple hk hc
  | .dict _, h => by cases h
def isi (T : String) (d : PyData) : Option Bool := kitB (tyName d) T
def fIsi (T : String) (φ : Fn γ) : Fn γ := fun ρ g => (φ ρ g).bind fun y g1 => match toD y with
  | some d => (match isi T d with
    | some b => .ok (.d (.bool b)) g1
    | none => .stuck)
  | none => .stuck
theorem disi {T : String} {p p2 : Pos} {x : Str} (he : DE X P e φ) (hm : X.mg "isinstance" = none) (ht : X.mg x = none) (hv : bootBuiltins x = some (.type T)) (hK : X.K = P.K := by rfl) (hg : Gl X "isinstance" := by rfl) (hgt : Gl X x := by rfl) (hn : x ≠ "__name__" := by decide)
    (hd : (x == ("__debug__" : Str)) = false := by decide) (h2 : starEach [.Name x p2] X.env = (false, eval (.Name x p2) X.env) :: starEach [] X.env := by rfl) (h3 : starEach [e, .Name x p2] X.env = (false, eval e X.env) :: starEach [.Name x p2] X.env := by rfl)
    (hpl : (backTo pos (starEach [.Name x p2] X.env)).any (·.1) = false := by rfl) : DE X P (.Call (.Name "isinstance" p) [e, .Name x p2] [] pos) (fIsi T φ) :=
  PE.imp (pe_callB call_isi hg hm (by decide +kernel) (pa_cons he (pa_cons (pe_bltn (v := .ty T) hgt ht hv rfl hn hd) pa_nil h2) h3) (by decide) (by decide) h3 hpl) fun σ H Q ⟨D, ρ, g, r, c⟩ => by
    refine tD_bind r c fun y g1 v H1 D1 _ r1 gr vr c1 => ?_
    cases q : toD y with
    | none => simp only [q] at c1; exact c1.elim
    | some d =>
      simp only [q] at c1
      cases w : isi T d with
      | none => simp only [w] at c1; exact c1.elim
      | some b =>
        simp only [w] at c1
        have dp : Dp X.K H1 v d := by rw [hK]; exact ar_dp r1.sub vr.ar q
        exact ⟨v, .ty T, _, _, b, rfl, .ty T, dp_ty dp, kit_ty w, c1 _ _ _ r1 .refl (Dp.bl _)⟩

/-! ### built-in calls -/
def C1 (f : SV → Option SV) : List SV → Option SV := fun ys => match ys with
  | [y] => f y
  | _ => none
theorem C1_inv {f : SV → Option SV} {ys : List SV} {z : SV} (h : C1 f ys = some z) : ∃ y, ys = [y] ∧ f y = some z := by
  unfold C1 at h
  split at h
  · exact ⟨_, rfl, h⟩
  · cases h
theorem ARs.one {rs : Rs γ} {vs : List V} {y : SV} (h : ARs K rs H D vs [y]) : ∃ v, vs = [v] ∧ AR K rs H D v y := by
  cases h with
  | cons h t => cases t; exact ⟨_, rfl, h⟩
/-- a call with one argument, by values -/
theorem ok_C1 {r : List V → Hp → VK → Prop} {f : SV → Option SV} (h : ∀ {γ : Type} (rs : Rs γ) (H D : Hp) (v : V) (y z : SV) (Q : VK), Sub D H → (∀ a, rs.fp a → H a ≠ none) → AR K rs H D v y → f y = some z → (∀ v H' D', LG H D H' D' → VR K rs H H' D' v z → Q v H') → r [v] H Q) : CrOk K r (C1 f) :=
  fun {γ} rs H D vs ys z Q s rd hv hz q => by
    obtain ⟨y, rfl, e⟩ := C1_inv hz
    obtain ⟨v, rfl, ha⟩ := hv.one
    exact h rs H D v y z Q s rd ha e q
/-- what a sequence is, in the heap -/
theorem ar_seq {rs : Rs γ} {v : V} {y : SV} {xs : List PyData} (s : Sub D H) (h : AR K rs H D v y) (e : seqOf y = some xs) : ∃ a vs, v = .ref a ∧ (SqL K H a vs ∨ SqT K H a vs) ∧ DpAll K D vs xs := by
  have key : ∀ ys, LstAt K rs H D v ys → ys = xs → ∃ a vs, v = .ref a ∧ (SqL K H a vs ∨ SqT K H a vs) ∧ DpAll K D vs xs := fun ys ⟨a, vs, e1, h1, _, _, h3⟩ e2 => by
    subst e2; exact ⟨a, vs, e1, .inl (SqL.of h1), h3⟩
  cases y with
  | l ys => cases e; exact key _ h rfl
  | b ys => cases e; exact key _ h rfl
  | h => cases e
  | d u =>
    cases u with
    | list ys => cases e; cases h with | lst h1 h2 => exact ⟨_, _, rfl, .inl (Sub.sl s h1), h2⟩
    | tuple ys => cases e; cases h with | tup h1 h2 => exact ⟨_, _, rfl, .inr (Sub.st s h1), h2⟩
    | _ => cases e
/-- .. a list for sure -/
def lstOf : SV → Option (List PyData)
  | .d (.list xs) => some xs
  | .l xs => some xs
  | .b xs => some xs
  | _ => none
theorem ar_lst {rs : Rs γ} {v : V} {y : SV} {xs : List PyData} (s : Sub D H) (h : AR K rs H D v y) (e : lstOf y = some xs) : ∃ a vs, v = .ref a ∧ SqL K H a vs ∧ DpAll K D vs xs := by
  have key : ∀ ys, LstAt K rs H D v ys → ys = xs → ∃ a vs, v = .ref a ∧ SqL K H a vs ∧ DpAll K D vs xs := fun ys ⟨a, vs, e1, h1, _, _, h3⟩ e2 => by
    subst e2; exact ⟨a, vs, e1, SqL.of h1, h3⟩
  cases y with
  | l ys => cases e; exact key _ h rfl
  | b ys => cases e; exact key _ h rfl
  | h => cases e
  | d u =>
    cases u with
    | list ys => cases e; cases h with | lst h1 h2 => exact ⟨_, _, rfl, Sub.sl s h1, h2⟩
    | _ => cases e
def bLen : List SV → Option SV := C1 fun y => match y with
  | .d (.str z) => if z.length ≤ 100000 then some (.d (.int z.length)) else none
  | y => (seqOf y).map fun xs => .d (.int xs.length)
theorem kLen : CrOk K (fun xs H Q => ∃ x n, xs = [x] ∧ LenV K x H n ∧ Q (.int n) H) bLen := ok_C1 fun rs H D v y z Q s rd h hz q => by
  split at hz
  · rename_i zz
    by_cases hl : zz.length ≤ 100000
    · rw [if_pos hl] at hz; cases hz; cases h
      exact ⟨_, _, rfl, ⟨sz5 hl, rfl⟩, q _ H D (.refl s) (Dp.int _)⟩
    · rw [if_neg hl] at hz; cases hz
  · cases e : seqOf y with
    | none => rw [e] at hz; cases hz
    | some xs =>
      rw [e] at hz; cases hz
      obtain ⟨a, vs, rfl, h1, h2⟩ := ar_seq s h e
      refine ⟨_, vs.length, rfl, ?_, by rw [DpAll.len h2]; exact q _ H D (.refl s) (Dp.int _)⟩
      rcases h1 with h1 | h1
      · exact .inl ⟨vs, h1, rfl⟩
      · exact .inr ⟨vs, h1, rfl⟩
/-- bools of a list -/
def boolsOf : List PyData → Option (List Bool)
  | [] => some []
  | .bool b :: r => (boolsOf r).map (b :: ·)
  | _ :: _ => none
theorem boolsOf_eq : ∀ {xs : List PyData} {bs : List Bool}, boolsOf xs = some bs → xs = bs.map PyData.bool
  | [], _, h => by cases h; rfl
  | .bool b :: r, bs, h => by
    cases q : boolsOf r with
    | none => rw [boolsOf, q] at h; cases h
    | some l => rw [boolsOf, q] at h; cases h; rw [boolsOf_eq q]; rfl
  | .none :: _, _, h => by cases h
  | .int _ :: _, _, h => by cases h
  | .str _ :: _, _, h => by cases h
  | .list _ :: _, _, h => by cases h
  | .tuple _ :: _, _, h => by cases h
  | .dict _ :: _, _, h => by cases h
theorem boolsOf_map (bs : List Bool) : boolsOf (bs.map PyData.bool) = some bs := by
  induction bs with
  | nil => rfl
  | cons b r ih => rw [List.map_cons, boolsOf, ih]; rfl
def bAll : List SV → Option SV := C1 fun y => ((lstOf y).bind boolsOf).map fun bs => .d (.bool (bs.all id))
def bAny : List SV → Option SV := C1 fun y => ((lstOf y).bind boolsOf).map fun bs => .d (.bool (bs.any id))
theorem ar_bools {rs : Rs γ} {v : V} {y : SV} {bs : List Bool} (s : Sub D H) (h : AR K rs H D v y) (e : (lstOf y).bind boolsOf = some bs) : ∃ a, v = .ref a ∧ SqL K H a (bs.map V.bl) := by
  cases q : lstOf y with
  | none => rw [q] at e; cases e
  | some xs =>
    rw [q] at e
    obtain ⟨a, vs, rfl, h1, h2⟩ := ar_lst s h q
    have e' : boolsOf xs = some bs := e
    rw [boolsOf_eq e'] at h2
    rw [DpAll.bls h2] at h1
    exact ⟨a, rfl, h1⟩
theorem kAll : CrOk K (rAll K) bAll := ok_C1 fun rs H D v y z Q s rd h hz q => by
  cases e : (lstOf y).bind boolsOf with
  | none => rw [e] at hz; cases hz
  | some bs =>
    rw [e] at hz; cases hz
    obtain ⟨a, rfl, h1⟩ := ar_bools s h e
    exact ⟨a, bs, rfl, h1, q _ H D (.refl s) (Dp.bl _)⟩
theorem kAny : CrOk K (rAny K) bAny := ok_C1 fun rs H D v y z Q s rd h hz q => by
  cases e : (lstOf y).bind boolsOf with
  | none => rw [e] at hz; cases hz
  | some bs =>
    rw [e] at hz; cases hz
    obtain ⟨a, rfl, h1⟩ := ar_bools s h e
    exact ⟨a, bs, rfl, h1, q _ H D (.refl s) (Dp.bl _)⟩
/-- tuple(x), list(x) -/
def bTuple : List SV → Option SV := C1 fun y => (seqOf y).map fun xs => .d (.tuple xs)
def bList : List SV → Option SV := C1 fun y => (seqOf y).map fun xs => .l xs
theorem kTuple : CrOk K (fun xs H Q => ∃ p ys, xs = [.ref p] ∧ ((SqL K H p ys ∧ ∀ l, H l = none → Q (.ref l) (upd H l (.tup ys))) ∨ (SqT K H p ys ∧ Q (.ref p) H))) bTuple := ok_C1 fun rs H D v y z Q s rd h hz q => by
  cases e : seqOf y with
  | none => rw [e] at hz; cases hz
  | some xs =>
    rw [e] at hz; cases hz
    have mk : ∀ a vs, v = .ref a → SqL K H a vs → DpAll K D vs xs → ∃ p ys, [v] = [.ref p] ∧ ((SqL K H p ys ∧ ∀ l, H l = none → Q (.ref l) (upd H l (.tup ys))) ∨ (SqT K H p ys ∧ Q (.ref p) H)) := fun a vs e h1 h2 => by
      subst e
      refine ⟨a, vs, rfl, .inl ⟨h1, fun l hl => ?_⟩⟩
      have lg := LG.newD (o := .tup vs) s hl
      exact q _ _ _ lg (Dp.tup (SqT.of upd_same) (DpAll.up lg.dk _ _ h2))
    cases y with
    | l ys => cases e; obtain ⟨a, vs, e1, h1, _, _, h3⟩ := h; exact mk a vs e1 (SqL.of h1) h3
    | b ys => cases e; obtain ⟨a, vs, e1, h1, _, _, h3⟩ := h; exact mk a vs e1 (SqL.of h1) h3
    | h => cases e
    | d u =>
      cases u with
      | list ys => cases e; cases h with | lst h1 h2 => exact mk _ _ rfl (Sub.sl s h1) h2
      | tuple ys => cases e; cases h with | tup h1 h2 => exact ⟨_, _, rfl, .inr ⟨Sub.st s h1, q _ H D (.refl s) (Dp.tup h1 h2)⟩⟩
      | _ => cases e
theorem kList : CrOk K (fun xs H Q => ∃ p ys, xs = [.ref p] ∧ (SqL K H p ys ∨ SqT K H p ys) ∧ ∀ l, H l = none → Q (.ref l) (upd H l (.lst ys))) bList := ok_C1 fun rs H D v y z Q s rd h hz q => by
  cases e : seqOf y with
  | none => rw [e] at hz; cases hz
  | some xs =>
    rw [e] at hz; cases hz
    obtain ⟨a, vs, rfl, h1, h2⟩ := ar_seq s h e
    exact ⟨a, vs, rfl, h1, fun l hl => q _ _ D (LG.new s hl) (vr_new s hl (nf_of hl rd) h2)⟩
/-- int(x), abs(x) -/
def bInt : List SV → Option SV := C1 fun y => match y with
  | .d (.int i) => some (.d (.int i))
  | .d (.bool b) => some (.d (.int (if b then 1 else 0)))
  | _ => none
theorem kInt : CrOk K (fun xs H Q => (∃ i, xs = [.int i] ∧ Q (.int i) H) ∨ ∃ k, xs = [.bl k] ∧ Q (.int (if k then 1 else 0)) H) bInt := ok_C1 fun rs H D v y z Q s rd h hz q => by
  split at hz
  · cases hz; cases h; exact .inl ⟨_, rfl, q _ H D (.refl s) (Dp.int _)⟩
  · cases hz; cases h; exact .inr ⟨_, rfl, q _ H D (.refl s) (Dp.int _)⟩
  · cases hz
def bAbs : List SV → Option SV := C1 fun y => match y with
  | .d (.int i) => some (.d (.int (if i < 0 then -i else i)))
  | _ => none
theorem kAbs : CrOk K (fun xs H Q => ∃ i, xs = [.int i] ∧ Q (.int (if i < 0 then -i else i)) H) bAbs := ok_C1 fun rs H D v y z Q s rd h hz q => by
  split at hz
  · cases hz; cases h; exact ⟨_, rfl, q _ H D (.refl s) (Dp.int _)⟩
  · cases hz
/-- two ints -/
def C2 (f : Int → Int → Option SV) : List SV → Option SV := fun ys => match ys with
  | [.d (.int i), .d (.int j)] => f i j
  | _ => none
theorem C2_inv {f : Int → Int → Option SV} {rs : Rs γ} {vs : List V} {ys : List SV} {z : SV} (hv : ARs K rs H D vs ys) (h : C2 f ys = some z) : ∃ i j, vs = [.int i, .int j] ∧ f i j = some z := by
  unfold C2 at h
  split at h
  · cases hv with
    | cons h1 t => cases t with
      | cons h2 t => cases t; cases h1; cases h2; exact ⟨_, _, rfl, h⟩
  · cases h
def bMax : List SV → Option SV := C2 fun i j => some (.d (.int (if j > i then j else i)))
def bMin : List SV → Option SV := C2 fun i j => some (.d (.int (if j < i then j else i)))
def bDivmod : List SV → Option SV := C2 fun i j => if 0 < j ∧ j < 1073741824 then some (.d (.tuple [.int (i / j), .int (i % j)])) else none
def bGcd : List SV → Option SV := C2 fun i j => some (.d (.int (Nat.gcd i.natAbs j.natAbs : Nat)))
theorem kMax : CrOk K (fun xs H Q => ∃ i j, xs = [.int i, .int j] ∧ Q (.int (if j > i then j else i)) H) bMax := fun {γ} rs H D vs ys z Q s rd hv hz q => by
  obtain ⟨i, j, rfl, e⟩ := C2_inv hv hz
  cases e; exact ⟨i, j, rfl, q _ H D (.refl s) (Dp.int _)⟩
theorem kMin : CrOk K (fun xs H Q => ∃ i j, xs = [.int i, .int j] ∧ Q (.int (if j < i then j else i)) H) bMin := fun {γ} rs H D vs ys z Q s rd hv hz q => by
  obtain ⟨i, j, rfl, e⟩ := C2_inv hv hz
  cases e; exact ⟨i, j, rfl, q _ H D (.refl s) (Dp.int _)⟩
theorem kDivmod : CrOk K (fun xs H Q => ∃ i j, xs = [.int i, .int j] ∧ CDiv i j ∧ ∀ p, H p = none → Q (.ref p) (upd H p (.tup [.int (i / j), .int (i % j)]))) bDivmod := fun {γ} rs H D vs ys z Q s rd hv hz q => by
  obtain ⟨i, j, rfl, e⟩ := C2_inv hv hz
  by_cases hl : 0 < j ∧ j < 1073741824
  · rw [if_pos hl] at e; cases e
    refine ⟨i, j, rfl, hl, fun p hp => ?_⟩
    have l := LG.newD (o := .tup [.int (i / j), .int (i % j)]) s hp
    exact q _ _ _ l (Dp.tup (SqT.of upd_same) (.cons (.int _) (.cons (.int _) .nil)))
  · rw [if_neg hl] at e; cases e
theorem kGcd : CrOk K rGcd bGcd := fun {γ} rs H D vs ys z Q s rd hv hz q => by
  obtain ⟨i, j, rfl, e⟩ := C2_inv hv hz
  cases e; exact ⟨i, j, rfl, q _ H D (.refl s) (Dp.int _)⟩

/-! ### repr of data -/
mutual
theorem noDict : ∀ (d : PyData) (v : V), Dp K H v d → d.hasDict = false
  | .none, _, _ => by simp [PyData.hasDict]
  | .bool _, _, _ => by simp [PyData.hasDict]
  | .int _, _, _ => by simp [PyData.hasDict]
  | .str _, _, _ => by simp [PyData.hasDict]
  | .list ds, _, h => by
    cases h with
    | lst _ h2 => simp only [PyData.hasDict]; exact noDictAll ds _ h2
  | .tuple ds, _, h => by
    cases h with
    | tup _ h2 => simp only [PyData.hasDict]; exact noDictAll ds _ h2
  | .dict _, _, h => by cases h
theorem noDictAll : ∀ (ds : List PyData) (vs : List V), DpAll K H vs ds → PyData.hasDictAll ds = false
  | [], _, _ => by simp [PyData.hasDictAll]
  | d :: ds, _, h => by
    cases h with
    | cons h1 h2 => simp [PyData.hasDictAll, noDict d _ h1, noDictAll ds _ h2]
end
def rRepr (K : PySem.W.Frag) : List V → Hp → VK → Prop := fun vs H Q => ∃ v d, vs = [v] ∧ Dp K H v d ∧ d.showable = true ∧ d.depth ≤ 60 ∧ d.shown.length ≤ sizeLine ∧ Q (.str d.shown) H
theorem call_reprD (hG : X.A.guards = some []) (hu : X.A.units + 200 < cLine) : CallR X (.builtin "repr") (rRepr X.K) := by
  intro pins s σ H xs us Q I r h
  obtain ⟨v, d, rfl, hd, hs, hdep, hz, q⟩ := h
  obtain ⟨u, rfl, ru⟩ := vals1 r
  have fin : ∀ (t : Tok), EP X pins σ Q (.str d.shown t) { s with toks := s.toks + 1 } := fun t => ⟨.str d.shown, H, I.tok _, ⟨t, rfl⟩, q⟩
  cases d with
  | none => cases hd; cases ru; simp only [PyData.shown] at fin; exact PySem.P.repr_of_none (fin _)
  | bool b => cases hd; cases ru; simp only [PyData.shown] at fin; exact PySem.P.repr_of_bool (by cases b <;> exact fin _)
  | int i =>
    cases hd; obtain ⟨t, rfl⟩ := ru
    simp only [PyData.shown] at fin
    exact PySem.P.repr_of_int (by simpa [PyData.showable] using hs) (fin _)
  | str x =>
    cases hd
    obtain ⟨t, rfl⟩ := ru
    simp only [PyData.shown] at fin hz
    exact PySem.P.repr_of_str (fin _) hz
  | list ds =>
    obtain ⟨as, hrd⟩ := Dp.reads I _ _ _ hd ru
    have nd := noDict _ _ hd
    cases hd
    cases ru
    exact repr_of_reads' hrd hs (fun z => by rw [nd] at z; cases z) hG (by omega) (fun _ _ z => z) (fun h' u tk hk => ⟨.str _, H, I.kept (t' := tk) hk, ⟨u, rfl⟩, q⟩) hz
  | tuple ds =>
    obtain ⟨as, hrd⟩ := Dp.reads I _ _ _ hd ru
    have nd := noDict _ _ hd
    cases hd
    cases ru
    exact repr_of_reads' hrd hs (fun z => by rw [nd] at z; cases z) hG (by omega) (fun _ _ z => z) (fun h' u tk hk => ⟨.str _, H, I.kept (t' := tk) hk, ⟨u, rfl⟩, q⟩) hz
  | dict kvs => cases hd
def bRepr : List SV → Option SV := C1 fun y => match toD y with
  | some d => if d.showable = true ∧ d.depth ≤ 60 ∧ d.shown.length ≤ sizeLine then some (.d (.str d.shown)) else none
  | none => none
theorem kRepr : CrOk K (rRepr K) bRepr := ok_C1 fun rs H D v y z Q s rd h hz q => by
  split at hz
  · rename_i d e
    by_cases hl : d.showable = true ∧ d.depth ≤ 60 ∧ d.shown.length ≤ sizeLine
    · rw [if_pos hl] at hz; cases hz
      exact ⟨v, d, rfl, ar_dp s h e, hl.1, hl.2.1, hl.2.2, q _ H D (.refl s) (Dp.str _)⟩
    · rw [if_neg hl] at hz; cases hz
  · cases hz

/-! ### slices -/
/-- where a slice's ends lie -/
def fSl (F : SV → Option Int → Option Int → Option SV) (φ : Fn γ) (lo hi : Option (Fn γ)) : Fn γ := fun ρ g => (φ ρ g).bind fun x g1 => match lo, hi with
  | none, none => .of (F x none none) g1
  | some l, none => (l ρ g1).bind fun y g2 => (match y with
    | .d (.int i) => .of (F x (some i) none) g2
    | _ => .stuck)
  | none, some h => (h ρ g1).bind fun y g2 => (match y with
    | .d (.int i) => .of (F x none (some i)) g2
    | _ => .stuck)
  | some l, some h => (l ρ g1).bind fun y g2 => (match y with
    | .d (.int i) => (h ρ g2).bind fun z g3 => (match z with
      | .d (.int j) => .of (F x (some i) (some j)) g3
      | _ => .stuck)
    | _ => .stuck)
def SlOk (K : PySem.W.Frag) (r : V → Option Int → Option Int → Hp → VK → Prop) (F : SV → Option Int → Option Int → Option SV) : Prop := ∀ {γ : Type} (rs : Rs γ) (H D : Hp) (vx : V) (x z : SV) (lo hi : Option Int) (Q : VK), Sub D H → (∀ a, rs.fp a → H a ≠ none) → AR K rs H D vx x → F x lo hi = some z →
  (∀ v H' D', LG H D H' D' → VR K rs H H' D' v z → Q v H') → r vx lo hi H Q
theorem tPart_of {R : Option Int → Hp → Prop} (r : Rep P σ H D ρ g) {o : Int → γ → Out γ} (c : Cont P σ H D ρ ((ψ ρ g).bind fun y g2 => match y with | .d (.int i) => o i g2 | _ => .stuck) Q)
    (k : ∀ i g1 H1 D1, Rep P σ H1 D1 ρ g1 → Grow P.rs.fp H D H1 D1 → Cont P σ H1 D1 ρ (o i g1) Q → R (some i) H1) : tPart (tD P ψ) σ H R :=
  tD_bind r c fun y g1 v H1 D1 _ r1 gr vr c1 => by
    cases y with
    | d x =>
      cases x with
      | int i => cases vr; exact ⟨i, rfl, k i g1 H1 D1 r1 gr c1⟩
      | _ => exact c1.elim
    | _ => exact c1.elim
variable {rr : V → Option Int → Option Int → Hp → VK → Prop} {F : SV → Option Int → Option Int → Option SV} {p2 : Pos}
theorem dsl00 (hr : SlR X rr) (ok : SlOk P.K rr F) (he : DE X P e φ) : DE X P (.Subscript e (.Slice none none none p2) pos) (fSl F φ none none) := PE.imp (pe_slice hr he po_none po_none) fun σ H Q ⟨D, ρ, g, r, c⟩ =>
  tD_bind r c fun x g1 v H1 D1 _ r1 gr vr c1 => by
    obtain ⟨z, hz⟩ := Cont.of_some c1
    exact ok P.rs H1 D1 v x z none none Q r1.sub (fun _ h => r1.fpH h) vr.ar hz fun v H' D' l vr => Cont.done r1 c1 hz l vr
theorem dsl10 (hr : SlR X rr) (ok : SlOk P.K rr F) (he : DE X P e φ) (hl : DE X P a ψ) : DE X P (.Subscript e (.Slice (some a) none none p2) pos) (fSl F φ (some ψ) none) := PE.imp (pe_slice hr he (po_some hl) po_none) fun σ H Q ⟨D, ρ, g, r, c⟩ =>
  tD_bind r c fun x g1 v H1 D1 _ r1 gr vr c1 => tPart_of r1 c1 fun i g2 H2 D2 r2 gr2 c2 => by
    obtain ⟨z, hz⟩ := Cont.of_some c2
    exact ok P.rs H2 D2 v x z (some i) none Q r2.sub (fun _ h => r2.fpH h) (vr.ar.up gr2) hz fun v H' D' l vr => Cont.done r2 c2 hz l vr
theorem dsl01 (hr : SlR X rr) (ok : SlOk P.K rr F) (he : DE X P e φ) (hl : DE X P a ψ) : DE X P (.Subscript e (.Slice none (some a) none p2) pos) (fSl F φ none (some ψ)) := PE.imp (pe_slice hr he po_none (po_some hl)) fun σ H Q ⟨D, ρ, g, r, c⟩ =>
  tD_bind r c fun x g1 v H1 D1 _ r1 gr vr c1 => by
    show tPart (tD P ψ) σ H1 fun u H3 => rr v none u H3 Q
    refine tPart_of r1 c1 fun i g2 H2 D2 r2 gr2 c2 => ?_
    obtain ⟨z, hz⟩ := Cont.of_some c2
    exact ok P.rs H2 D2 v x z none (some i) Q r2.sub (fun _ h => r2.fpH h) (vr.ar.up gr2) hz fun v H' D' l vr => Cont.done r2 c2 hz l vr
theorem dsl11 {τ : Fn γ} (hr : SlR X rr) (ok : SlOk P.K rr F) (he : DE X P e φ) (hl : DE X P a ψ) (hh : DE X P b τ) : DE X P (.Subscript e (.Slice (some a) (some b) none p2) pos) (fSl F φ (some ψ) (some τ)) := PE.imp (pe_slice hr he (po_some hl) (po_some hh)) fun σ H Q ⟨D, ρ, g, r, c⟩ =>
  tD_bind r c fun x g1 v H1 D1 _ r1 gr vr c1 => tPart_of r1 c1 fun i g2 H2 D2 r2 gr2 c2 => tPart_of r2 c2 fun j g3 H3 D3 r3 gr3 c3 => by
    obtain ⟨z, hz⟩ := Cont.of_some c3
    exact ok P.rs H3 D3 v x z (some i) (some j) Q r3.sub (fun _ h => r3.fpH h) (vr.ar.up (gr2.trans gr3)) hz fun v H' D' l vr => Cont.done r3 c3 hz l vr
def cutD (xs : List PyData) (lo hi : Option Int) : List PyData := (xs.drop (HT.sIx xs.length 0 lo)).take (HT.sIx xs.length xs.length hi - HT.sIx xs.length 0 lo)
def oSl : SV → Option Int → Option Int → Option SV := fun x lo hi => match x with
  | .d (.tuple xs) => some (.d (.tuple (cutD xs lo hi)))
  | x => (lstOf x).map fun xs => .l (cutD xs lo hi)
def rSlTL (K : PySem.W.Frag) : V → Option Int → Option Int → Hp → VK → Prop := fun x lo hi H Q => rSlA K x lo hi H Q ∨ rSlL K x lo hi H Q
theorem sl_TL : SlR X (rSlTL X.K) := SlR.or sl_tupA sl_list
theorem DpAll.cut {vs : List V} {ds : List PyData} (h : DpAll K D vs ds) (lo hi : Option Int) : DpAll K D (cutV vs lo hi) (cutD ds lo hi) := by
  unfold cutV cutD
  rw [DpAll.len h]
  exact DpAll.take _ (DpAll.drop _ h)
theorem kSl : SlOk K (rSlTL K) oSl := fun {γ} rs H D vx x z lo hi Q s rd hx hz q => by
  unfold oSl at hz
  split at hz
  · rename_i xs
    cases hz
    cases hx with
    | tup h1 h2 =>
      rename_i a vs
      refine .inl ⟨a, vs, rfl, Sub.st s h1, fun hw => ?_, fun _ p hp => ?_⟩
      · have e : cutD xs lo hi = xs := by
          unfold cutD
          rw [DpAll.len h2] at hw
          rw [hw.1, hw.2]
          simp
        rw [e] at q
        exact q _ H D (.refl s) (Dp.tup h1 h2)
      · have l := LG.newD (o := .tup (cutV vs lo hi)) s hp
        exact q _ _ _ l (Dp.tup (SqT.of upd_same) (DpAll.up l.dk _ _ (DpAll.cut h2 lo hi)))
  · cases e : lstOf x with
    | none => rw [e] at hz; cases hz
    | some xs =>
      rw [e] at hz; cases hz
      obtain ⟨a, vs, rfl, h1, h2⟩ := ar_lst s hx e
      exact .inr ⟨a, vs, rfl, h1, fun p hp => q _ _ D (LG.new s hp) (vr_new s hp (nf_of hp rd) (DpAll.cut h2 lo hi))⟩
/-- xs[::-1] of a list -/
def fRev (φ : Fn γ) : Fn γ := fun ρ g => (φ ρ g).bind fun x g1 => .of ((lstOf x).map fun xs => .l xs.reverse) g1
theorem drevl {k : Nat} {p1 p2 p3 : Pos} (he : DE X P e φ) (hK : X.K = P.K := by rfl) : DE X P (.Subscript e (.Slice none none (some (.UnaryOp .USub (.Constant (.int 1) k p1) p2)) p3) pos) (fRev φ) := PE.imp (pe_revL he) fun σ H Q ⟨D, ρ, g, r, c⟩ =>
  tD_bind r c fun x g1 v H1 D1 _ r1 gr vr c1 => by
    obtain ⟨z, hz⟩ := Cont.of_some c1
    cases e : lstOf x with
    | none => rw [e] at hz; cases hz
    | some xs =>
      rw [e] at hz; cases hz
      obtain ⟨a, vs, rfl, h1, h2⟩ := ar_lst r1.sub vr.ar e
      rw [hK]
      exact ⟨a, vs, rfl, h1, fun p hp => Cont.done r1 c1 (by rw [e]; rfl) (LG.new r1.sub hp) (vr_new r1.sub hp (r1.nfp hp) (DpAll.rev h2))⟩

/-! ### lists written -/
/-- xs.append(e), xs a name's own list -/
def sApp (i : Nat) (φ : Fn γ) : SFn γ := fun ρ g => match ρ[i]? with
  | some (some (.l xs)) => (φ ρ g).bindS ρ fun y g1 => (match y with
    | .d x => if xs.length < 100000 then .next (ρ.set i (some (.l (xs ++ [x])))) g1 else .stuck
    | _ => .stuck)
  | _ => .stuck
theorem dapp (i : Nat) {o : Expr} {apos cpos : Pos} (ho : PE X o (tVar i)) (he : DE X P e φ) (hb : attributeBase o "append" X.env (eval o X.env) = eval o X.env := by rfl)
    (h2 : (((((backTo cpos (starEach [e] X.env)).all fun x => !x.fst) && (backToKw cpos (keywordEach [] X.env)).all fun x => x.fst.isSome) && decide (([e]).length + ([] : List Keyword).length + (if ([] : List Keyword).isEmpty = true then 0 else 1) < 30)) = true) := by rfl)
    (h3 : (apos.endLine == cpos.line) = true := by rfl) (h4 : starEach [e] X.env = (false, eval e X.env) :: starEach [] X.env := by rfl) (h5 : (backTo cpos (starEach [] X.env)).any (·.1) = false := by rfl)
    (hs : swapsWith (.Call (.Attribute o "append" apos) [e] [] cpos) none pos.line X.env = pure false := by rfl) : DS X P (.Expr (.Call (.Attribute o "append" apos) [e] [] cpos) pos) (sApp i φ) :=
  PS.imp (ps_expr (pe_bm PySem.F.plainAttrs_list PySem.F.slot_list_append PySem.F.type_list_append mt_append ho (pa_cons he pa_nil h4) hb h2 h3 h4 h5) hs) fun E σ H ⟨D, ρ, g, r, c⟩ => by
    unfold sApp at c
    split at c
    · rename_i xs ei
      obtain ⟨v, e1, a, vs, rfl, h1, h2, nf, h3⟩ := r.slot i _ ei
      refine ⟨_, e1, .inl ⟨rfl, vs, SqL.of h1⟩, ?_⟩
      refine tD_bindS r c fun y g1 w H1 D1 eo r1 gr vr c1 => ?_
      cases y with
      | d x =>
        simp only at c1
        by_cases hl : xs.length < 100000
        · rw [if_pos hl] at c1
          have h1' := gr.keep _ _ nf h1
          have lv := DpAll.len h3
          exact ⟨a, vs, w, rfl, rfl, h1', Nat.lt_of_le_of_lt (by omega : vs.length ≤ 100000) (by decide), c1 _ _ _ (r1.mut ei e1 (DpAll.app (DpAll.up gr.dk _ _ h3) (.cons vr .nil))) (Sub.refl _)⟩
        · rw [if_neg hl] at c1; exact c1.elim
      | _ => exact c1.elim
    · exact c.elim
/-- xs.reverse() -/
def sRevS (i : Nat) : SFn γ := fun ρ g => match ρ[i]? with
  | some (some (.l xs)) => .next (ρ.set i (some (.l xs.reverse))) g
  | _ => .stuck
theorem drevs (i : Nat) {o : Expr} {apos cpos : Pos} (ho : PE X o (tVar i)) (hb : attributeBase o "reverse" X.env (eval o X.env) = eval o X.env := by rfl) (h3 : (apos.endLine == cpos.line) = true := by rfl)
    (hs : swapsWith (.Call (.Attribute o "reverse" apos) [] [] cpos) none pos.line X.env = pure false := by rfl) : DS X P (.Expr (.Call (.Attribute o "reverse" apos) [] [] cpos) pos) (sRevS i) :=
  PS.imp (ps_expr (pe_bm0 PySem.F.plainAttrs_list PySem.F.slot_list_reverse PySem.F.type_list_reverse mt_reverse ho hb h3) hs) fun E σ H ⟨D, ρ, g, r, c⟩ => by
    unfold sRevS at c
    split at c
    · rename_i xs ei
      obtain ⟨v, e1, a, vs, rfl, h1, h2, nf, h3⟩ := r.slot i _ ei
      exact ⟨_, e1, .inl ⟨rfl, vs, SqL.of h1⟩, a, vs, rfl, rfl, h1, c _ _ _ (r.mut ei e1 (DpAll.rev h3)) (Sub.refl _)⟩
    · exact c.elim
/-- xs[k] = e, xs a name's own list -/
def sSetI (i : Nat) (φk φ : Fn γ) : SFn γ := fun ρ g => (φ ρ g).bindS ρ fun y g1 => match y with
  | .d x => (match ρ[i]? with
    | some (some (.l xs)) => (φk ρ g1).bindS ρ fun k g2 => (match k with
      | .d (.int n) => (match ixN xs.length n with
        | some j => .next (ρ.set i (some (.l (xs.set j x)))) g2
        | none => .stuck)
      | _ => .stuck)
    | _ => .stuck)
  | _ => .stuck
theorem dseti (i : Nat) {o k : Expr} {tpos : Pos} {φk : Fn γ} (ho : PE X o (tVar i)) (hk : DE X P k φk) (he : DE X P e φ)
    (h1 : ∀ (v : Value), assign (o.Subscript k tpos) X.env v = (do
        let ov ← holding [v] (eval o X.env)
        let iv ← holding [v, ov] (eval k X.env)
        standAt tpos
        holding [v, ov, iv] (setItem ov iv v)
        release [v, ov, iv] []) := by intro _; rfl)
    (h2 : swapsWithSole [o.Subscript k tpos] e pos.line X.env = pure false := by rfl) (h3 : swappedStores [o.Subscript k tpos] e X.env = pure none := by rfl) (h4 : List.map (fun x => x.snd) (assignEach [o.Subscript k tpos] X.env) = [assign (o.Subscript k tpos) X.env] := by rfl) :
    DS X P (.Assign [.Subscript o k tpos] e pos) (sSetI i φk φ) :=
  PS.imp (ps_asg he (pg_sub ho hk set_list h1) h2 h3 h4) fun E σ H ⟨D, ρ, g, r, c⟩ => by
    refine tD_bindS r c fun y g1 w H1 D1 eo r1 gr vr c1 => ?_
    cases y with
    | d x =>
      simp only at c1
      split at c1
      · rename_i xs' ei'
        obtain ⟨v, e1, a, vs, rfl, k1, k2, nf, k3⟩ := r1.slot i _ ei'
        refine ⟨_, e1, ?_⟩
        refine tD_bindS r1 c1 fun kk g2 wk H2 D2 ek r2 gr2 vrk c2 => ?_
        cases kk with
        | d z =>
          cases z with
          | int n =>
            simp only at c2
            cases q : ixN xs'.length n with
            | none => rw [q] at c2; exact c2.elim
            | some j =>
              rw [q] at c2
              cases vrk
              exact ⟨a, vs, n, j, rfl, rfl, gr2.keep _ _ nf k1, by rw [DpAll.len k3]; exact q, c2 _ _ _ (r2.mut ei' e1 (DpAll.set (Dp.up gr2.dk _ _ vr) j (DpAll.up gr2.dk _ _ k3))) (Sub.refl _)⟩
          | _ => exact c2.elim
        | _ => exact c2.elim
      · exact c1.elim
    | _ => exact c1.elim
/-- a, b = e -/
def sUnp (f : Asg) (φ : Fn γ) : SFn γ := fun ρ g => (φ ρ g).bindS ρ fun y g1 => match y with
  | .d x => (match f x ρ with
    | some ρ' => .next ρ' g1
    | none => .stuck)
  | _ => .stuck
theorem dunp {tg : Expr} {gt : TG} {f : Asg} (he : DE X P e φ) (hg : PG X tg gt) (ht : TgIs P gt f) (h2 : swapsWithSole [tg] e pos.line X.env = pure false := by rfl) (h3 : swappedStores [tg] e X.env = pure none := by rfl)
    (h4 : List.map (fun x => x.snd) (assignEach [tg] X.env) = [assign tg X.env] := by rfl) : DS X P (.Assign [tg] e pos) (sUnp f φ) :=
  PS.imp (ps_asg he hg h2 h3 h4) fun E σ H ⟨D, ρ, g, r, c⟩ => by
    refine tD_bindS r c fun y g1 w H1 D1 eo r1 gr vr c1 => ?_
    cases y with
    | d x =>
      simp only at c1
      cases q : f x ρ with
      | none => rw [q] at c1; exact c1.elim
      | some ρ' =>
        rw [q] at c1
        exact ht.run w x σ H1 D1 ρ g1 ρ' _ r1 vr q fun σ' r' => c1 σ' H1 D1 r' (Sub.refl _)
    | _ => exact c1.elim
end
end Dn

set_option Elab.async false
set_option linter.all false
set_option autoImplicit false
set_option maxRecDepth 100000
set_option maxHeartbeats 4000000
namespace Dn
open PySem PySem.Spec PyProof.Rows L2
/-- what __init__(self, a, b): self.a = a; self.b = b promises -/
def spIn2 (K : PySem.W.Frag) (C : Addr) (f1 f2 : Str) : Sp := fun vs H Q _ => ∃ (a : Addr) (u v : V), vs = [.ref a, u, v] ∧ OexC K C ∧ PySem.W.findIn K (.ref C) f1 = some none ∧ PySem.W.findIn K (.ref C) f2 = some none ∧ H a = some (exo a C none) ∧
  ∀ dx, H dx = none → dx ≠ a → Q .non (upd (upd (upd H dx (exd dx [(f1, u)])) a (exo a C (some dx))) dx (exd dx [(f2, v), (f1, u)]))
/-- the reading of that body -/
theorem init2_reads {K : PySem.W.Frag} {C : Addr} {f1 f2 : Str} {N : List Str} {vs : List V} {H : Hp} {Q : VK} {E : XK} (hN : N.length = 3) (h : spIn2 K C f1 f2 vs H Q E) :
    (tSeq (tOst K f1 (tVar 0) (tVar 1)) (tOst K f2 (tVar 0) (tVar 2))) { nx := fun _ H' => Q .non H', rt := Q } (L2.start N vs) H := by
  obtain ⟨a, u, v, rfl, T, n1, n2, ha, q⟩ := h
  have s0 : (L2.start N [V.ref a, u, v])[0]? = some (some (.ref a)) := rfl
  have s1 : (L2.start N [V.ref a, u, v])[1]? = some (some u) := rfl
  have s2 : (L2.start N [V.ref a, u, v])[2]? = some (some v) := rfl
  refine ⟨u, s1, _, s0, a, C, rfl, T, n1, .inl ⟨ha, fun dx hd hne => ?_⟩⟩
  refine ⟨v, s2, _, s0, a, C, rfl, T, n2, .inr ⟨dx, [(f1, u)], upd_same, ?_, by simp, q dx hd hne⟩⟩
  rw [upd_ne hne, upd_same]
/-- an own exception class of two fields -/
structure Ex2 (P : Program) (w : World) (K : PySem.W.Frag) (mg : Str → Option Value) (base : Heap) (x : Str) (C : Addr) (f1 f2 : Str) : Prop where
  g : mg x = some (.ref C)
  oex : OexC K C
  xf : XfC K C
  n1 : PySem.W.findIn K (.ref C) f1 = some none
  n2 : PySem.W.findIn K (.ref C) f2 = some none
  te : PySem.W.exmOne K (.ref C) (.ref C) = some true
  init : ∃ (fI : Addr) (fd : FuncData) (ps : List Str), PySem.W.findIn K (.ref C) "__init__" = some (some (.ref fI)) ∧ PySem.W.typeIn K (.ref fI) = some (.type "function") ∧ FnOk P w K mg base CX0 1 fI fd ps (spIn2 K C f1 f2) ∧ L2.Binds K fd ps []
section
variable {γ : Type} {X : Cx} {P : Pm γ} {σ : L2.St} {H D H1 D1 H2 D2 H' D' : Hp} {ρ : Env} {g g1 g2 : γ} {e a b c : Expr} {φ ψ τ : Fn γ} {Φ Ψ : FnA γ} {t : TE} {pos : Pos} {Q : VK} {K : PySem.W.Frag}
/-- raise C(e1, e2) -/
def sRaise2 (C : Addr) (f1 f2 : Str) (Φ : FnA γ) : SFn γ := fun ρ g => (Φ ρ g).bindS ρ fun ys g1 => match ys with
  | [.d u, .d v] => .exc C [(f2, v), (f1, u)] ρ g1
  | _ => .stuck
theorem tDA_bindS {o : List SV → γ → SOut γ} {E : Ends} (r : Rep P σ H D ρ g) (c : ContS P D ((Φ ρ g).bindS ρ o) E) {R : List V → Hp → Prop}
    (k : ∀ ys g1 vs H1 D1, Φ ρ g = .ok ys g1 → Rep P σ H1 D1 ρ g1 → Grow P.rs.fp H D H1 D1 → ARs P.K P.rs H1 D1 vs ys → ContS P D1 (o ys g1) E → R vs H1) : tDA P Φ σ H R := by
  refine ⟨D, ρ, g, r, ?_⟩
  cases e : Φ ρ g with
  | ok y g1 =>
    rw [e] at c
    exact fun v H1 D1 r1 gr vr => k y g1 v H1 D1 e r1 gr vr (ContS.back gr.dk c)
  | exc C fs g1 =>
    rw [e] at c
    exact fun d vfs H' D' r' gr h1 h2 => c σ d vfs H' D' r' gr.dk h1 h2
  | stuck => rw [e] at c; exact c
theorem draise2 {x : Str} {p p2 : Pos} {C : Addr} {f1 f2 : Str} {es : List Expr} (tk : Takes X P.W) (T : Ex2 X.prog X.w X.K X.mg X.base x C f1 f2) (hc : X.calm = true) {k : Nat} (hr : Room (k + 2) X.A) (ha : DA X P (e :: es) Φ) (hg : Gl X x := by rfl) (hK : X.K = P.K := by rfl)
    (hdb : (x == ("__debug__" : Str)) = false := by decide) (he : starEach (e :: es) X.env = (false, eval e X.env) :: starEach es X.env := by rfl) (hpl : (backTo pos (starEach es X.env)).any (·.1) = false := by rfl) :
    DS X P (.Raise (some (.Call (.Name x p) (e :: es) [] pos)) none p2) (sRaise2 C f1 f2 Φ) := by
  obtain ⟨fI, fd, ps, i1, i2, i3, i4⟩ := T.init
  refine PS.imp (ps_raise hc tk (pmk_oex (dvs := []) T.oex i1 i2 i3 (hr.mono (by omega)) i4 .nil pass0 hg T.g ha hdb he hpl)) fun E σ H ⟨D, ρ, g, r, c⟩ => ?_
  refine tDA_bindS r c fun ys g1 vs H1 D1 _ r1 gr vr c1 => ?_
  match ys, vr, c1 with
  | [.d u, .d v], .cons (v := vu) h1 (.cons (v := vv) h2 .nil), c1 =>
    refine ⟨by simp, fun a hA => ⟨a, vu, vv, rfl, T.oex, T.n1, T.n2, upd_same, fun dx hd hne => ⟨rfl, dx, [(f2, vv), (f1, vu)], ?_, upd_same, ?_, ?_⟩⟩⟩
    · rw [upd_ne (Ne.symm hne), upd_same]
    · rwa [upd_ne hne] at hd
    · have hd1 : H1 dx = none := by rwa [upd_ne hne] at hd
      have hda : D1 a = none := by
        cases z : D1 a with
        | none => rfl
        | some u => rw [r1.sub a u z] at hA; cases hA
      have hdd : D1 dx = none := by
        cases z : D1 dx with
        | none => rfl
        | some u => rw [r1.sub dx u z] at hd1; cases hd1
      have same : ∀ b, b ≠ a → b ≠ dx → upd (del (upd (upd (upd (upd H1 a (exo a C none)) dx (exd dx [(f1, vu)])) a (exo a C (some dx))) dx (exd dx [(f2, vv), (f1, vu)])) a) dx (.xd [(f2, vv), (f1, vu)]) b = H1 b := fun b n1 n2 => by
        rw [upd_ne n2, del_ne n1, upd_ne n2, upd_ne n1, upd_ne n2, upd_ne n1]
      have l : LG H1 D1 (upd (del (upd (upd (upd (upd H1 a (exo a C none)) dx (exd dx [(f1, vu)])) a (exo a C (some dx))) dx (exd dx [(f2, vv), (f1, vu)])) a) dx (.xd [(f2, vv), (f1, vu)])) D1 :=
        ⟨fun b o hb => by rw [same b (ne_of_none hb hA) (ne_of_none hb hd1)]; exact hb, fun _ _ h => h, fun _ _ h => h, fun b o hb => by rw [same b (ne_of_none hb hda) (ne_of_none hb hdd)]; exact r1.sub b o hb⟩
      exact c1 σ dx _ _ D1 (r1.lg l) (Sub.refl _) upd_same (.cons ⟨rfl, h2⟩ (.cons ⟨rfl, h1⟩ .nil))

/-! ### try: .. except C as n: return repr((n.f1, n.f2)) -/
def sTryR (i : Nat) (C : Addr) (f1 f2 : Str) (ψ : SFn γ) : SFn γ := fun ρ g => match ψ ρ g with
  | .exc C' fs ρ' g' => if C' = C ∧ i < ρ'.length then (match fs.lookup f1, fs.lookup f2 with
    | some u, some v => if (PyData.tuple [u, v]).showable = true ∧ (PyData.tuple [u, v]).depth ≤ 60 ∧ (PyData.tuple [u, v]).shown.length ≤ sizeLine then .ret (.d (.str (PyData.tuple [u, v]).shown)) g' else .stuck
    | _, _ => .stuck) else .stuck
  | o => o
theorem FR.get {vfs : List (Str × V)} {fs : List (Str × PyData)} (h : FR K D vfs fs) {f : Str} {u : PyData} (e : fs.lookup f = some u) : ∃ v, vfs.lookup f = some v ∧ Dp K D v u := by
  induction h with
  | nil => cases e
  | cons hp ht ih =>
    rename_i p q l1 l2
    obtain ⟨k1, v1⟩ := p
    obtain ⟨k2, u2⟩ := q
    obtain ⟨rfl, hd⟩ := hp
    simp only [List.lookup] at e ⊢
    split at e
    · cases e
      exact ⟨v1, rfl, hd⟩
    · exact ih e
abbrev Pm.wish (P : Pm γ) (W : WX) : Pm γ := { P with W := W }
theorem Rep.wish (r : Rep P σ H D ρ g) (W : WX) : Rep (P.wish W) σ H D ρ g := ⟨r.grow, r.sub, r.f0, r.len, r.slot, r.own, r.nob, r.apart, r.fd, r.res⟩
theorem Rep.unwish {W : WX} (r : Rep (P.wish W) σ H D ρ g) : Rep P σ H D ρ g := ⟨r.grow, r.sub, r.f0, r.len, r.slot, r.own, r.nob, r.apart, r.fd, r.res⟩
theorem dtry {x n : Str} {i : Nat} {C : Addr} {f1 f2 : Str} {body : List Stmt} {ψ : SFn γ} {np q1 q2 q3 q4 q5 q6 q7 pr pos' : Pos} {kt : Nat} (T : Ex2 X.prog X.w X.K X.mg X.base x C f1 f2) (tk : Takes X P.W) (nd : X.N.Nodup) (hi : X.N[i]? = some n) (hG : X.A.guards = some []) (hu : X.A.units + 200 < cLine)
    (hs : X.stack = X.env :: X.outer) (hf : X.env.frame = some X.env.locals) (hln : X.env.kindOf n = some .local) (hg : Gl X x) (hgr : Gl X "repr") (hmr : X.mg "repr" = none) (hK : X.K = P.K) (hd : (n == ("__debug__" : Str)) = false) (hcd : (n == ("__classdict__" : Str)) = false) (hdb : (x == ("__debug__" : Str)) = false)
    (hv : Vis X.env.scope n) (b1 : attributeBase (.Name n q1) f1 X.env (eval (.Name n q1) X.env) = eval (.Name n q1) X.env) (b2 : attributeBase (.Name n q3) f2 X.env (eval (.Name n q3) X.env) = eval (.Name n q3) X.env)
    (t1 : starEach [.Attribute (.Name n q1) f1 q2, .Attribute (.Name n q3) f2 q4] X.env = (false, eval (.Attribute (.Name n q1) f1 q2) X.env) :: starEach [.Attribute (.Name n q3) f2 q4] X.env)
    (t2 : starEach [.Attribute (.Name n q3) f2 q4] X.env = (false, eval (.Attribute (.Name n q3) f2 q4) X.env) :: starEach [] X.env)
    (t3 : starEach [.Tuple [.Attribute (.Name n q1) f1 q2, .Attribute (.Name n q3) f2 q4] kt q5] X.env = (false, eval (.Tuple [.Attribute (.Name n q1) f1 q2, .Attribute (.Name n q3) f2 q4] kt q5) X.env) :: starEach [] X.env)
    (t4 : (backTo q6 (starEach [] X.env)).any (·.1) = false)
    (hb : ∀ (W : WX) (pn : List (Addr × Obj)) (xe : Value → Shared → Prop), Takes (X.tr pn xe) W → PassesOwn (model X.prog X.w) X.A X.env xe → DSs (X.tr pn xe) (P.wish W) body ψ) :
    DS X P (.Try body [.ExceptHandler (some (.Name x np)) (some n) [.Return (some (.Call (.Name "repr" pr) [.Tuple [.Attribute (.Name n q1) f1 q2, .Attribute (.Name n q3) f2 q4] kt q5] [] q6)) q7] pos'] [] [] pos) (sTryR i C f1 f2 ψ) := by
  refine PS.imp (ps_try_as (i := i) (tb := fun W => tS (P.wish W) ψ) (ts := fun a cls d => tRet (tCB (rRepr X.K) (tCons (tTup (tCons (tXf a cls d C f1 (tVar i)) (tCons (tXf a cls d C f2 (tVar i)) tNil))) tNil))) hs hf nd hi hln ⟨hg, hdb, .inl T.g⟩ tk hb
    (fun a oe cls d pn hz hfd => pss_one (ps_ret (pe_callB (X := X.suite a ((a, oe) :: pn)) (call_reprD (X := X.suite a ((a, oe) :: pn)) hG hu) hgr hmr (by decide +kernel)
      (pa_cons (pe_tup (pa_cons (pe_xf T.xf T.n1 hz hfd (pe_var (X := X.suite a ((a, oe) :: pn)) hi hv hd hcd) b1) (pa_cons (pe_xf T.xf T.n2 hz hfd (pe_var (X := X.suite a ((a, oe) :: pn)) hi hv hd hcd) b2) pa_nil t2) t1)) pa_nil t3) (by decide) (by decide) t3 t4)))) fun E σ H ⟨D, ρ, g, r, c⟩ => ?_
  refine ⟨D, ρ, g, r.wish _, ?_⟩
  unfold sTryR at c
  cases w : ψ ρ g with
  | next ρ' g' => rw [w] at c; exact fun σ' H' D' r' s' => c σ' H' D' r'.unwish s'
  | brk ρ' g' => rw [w] at c; exact fun σ' H' D' r' s' => c σ' H' D' r'.unwish s'
  | cont ρ' g' => rw [w] at c; exact fun σ' H' D' r' s' => c σ' H' D' r'.unwish s'
  | ret y g' => rw [w] at c; exact c
  | stuck => rw [w] at c; exact c
  | exc C' fs ρ' g' =>
    rw [w] at c
    simp only at c
    by_cases hc : C' = C ∧ i < ρ'.length
    · rw [if_pos hc] at c
      obtain ⟨rfl, hi'⟩ := hc
      split at c
      · rename_i u v e1 e2
        by_cases hl : (PyData.tuple [u, v]).showable = true ∧ (PyData.tuple [u, v]).depth ≤ 60 ∧ (PyData.tuple [u, v]).shown.length ≤ sizeLine
        · rw [if_pos hl] at c
          intro σ' d vfs H' D' r' s' hd' hfr
          refine ⟨true, T.te, fun _ a ha => ?_, fun z => nomatch z⟩
          have hiσ : i < σ'.length := r'.len ▸ hi'
          have es : (σ'.set i (some (V.ref a)))[i]? = some (some (.ref a)) := List.getElem?_set_self hiσ
          obtain ⟨x1, g1, h1⟩ := hfr.get e1
          obtain ⟨x2, g2, h2⟩ := hfr.get e2
          refine ⟨_, es, rfl, rfl, d, vfs, x1, rfl, hd', g1, _, es, rfl, rfl, d, vfs, x2, rfl, hd', g2, by show 2 ≤ sizeLine; decide, fun p hp => ?_⟩
          have l := LG.newD (o := .tup [x1, x2]) r'.sub hp
          have rr := r'.unwish.lg l
          have dp : Dp P.K (upd D' p (.tup [x1, x2])) (.ref p) (.tuple [u, v]) := Dp.tup (SqT.of upd_same) (.cons (Dp.up l.dk _ _ h1) (.cons (Dp.up l.dk _ _ h2) .nil))
          refine ⟨_, _, rfl, by rw [hK]; exact Dp.up rr.sub _ _ dp, hl.1, hl.2.1, hl.2.2, c _ _ _ rr.grow rr.sub rr.fd rr.res (Dp.str _)⟩
        · rw [if_neg hl] at c; exact c.elim
      · exact c.elim
    · rw [if_neg hc] at c; exact c.elim
end
end Dn

set_option Elab.async false
set_option linter.all false
set_option autoImplicit false
set_option maxRecDepth 100000
set_option maxHeartbeats 4000000
namespace Dn
open PySem PySem.Spec PyProof.Rows L2
/-- an argument: data, or the resource -/
def argOk : SV → Bool
  | .d _ => true
  | .h => true
  | _ => false
def QS {γ : Type} (K : PySem.W.Frag) (rs : Rs γ) (H D : Hp) (o : Out γ) (Q : VK) (E : XK) : Prop := match o with
  | .ok y g' => ∀ v H' D', Grow rs.fp H D H' D' → Sub D' H' → rs.R g' H' → VR K rs H H' D' v y → Q v H'
  | .exc C fs g' => ∀ d vfs H' D', Grow rs.fp H D H' D' → Sub D' H' → rs.R g' H' → H' d = some (.xd vfs) → FR K D' vfs fs → E (.ref C) (some d) H'
  | .stuck => False
/-- what a def that uses a resource promises -/
def spS {γ ι : Type} (Fm : ι → Rs γ) (K : PySem.W.Frag) (n : Nat) (f : List SV → γ → Out γ) : Sp := fun vs H Q E => vs.length = n ∧ ∃ (i : ι) (D : Hp) (ys : List SV) (g : γ), Sub D H ∧ (∀ a, (Fm i).fp a → D a = none) ∧ (Fm i).R g H ∧ ARs K (Fm i) H D vs ys ∧ ys.all argOk = true ∧ QS K (Fm i) H D (f ys g) Q E
section
variable {gd : Prop} {γ ι : Type} {Fm : ι → Rs γ} {X : Cx} {P : Pm γ} {σ : L2.St} {H D H1 D1 H2 D2 H' D' : Hp} {ρ : Env} {g g1 g2 : γ} {e a b c : Expr} {φ ψ τ : Fn γ} {Φ Ψ : FnA γ} {t : TE} {pos : Pos} {Q : VK} {K : PySem.W.Frag}
def fCallS (n : Nat) (f : List SV → γ → Out γ) (Φ : FnA γ) : Fn γ := fun ρ g => (Φ ρ g).bind fun ys g1 => if ys.length = n ∧ ys.all argOk = true then (match f ys g1 with
  | .ok (.b _) _ => .stuck
  | o => o) else .stuck
theorem dcallS {k : Nat} {f : Addr} {fd : FuncData} {ps : List Str} {n : Nat} {fn : List SV → γ → Out γ} {x : Str} {p : Pos} {es : List Expr} {i : ι} (hi : P.rs = Fm i) (tk : Takes X P.W) (hG : gd → X.A.guards = some []) (F : FnG gd X.prog X.w X.K X.mg X.base k f fd ps (spS Fm P.K n fn)) (hr : Room k X.A)
    (hm : X.mg x = some (.ref f)) (hk : PySem.W.keepIn X.K (.ref f) = true) (hb : Binds X.K fd ps []) (ha : DA X P (e :: es) Φ) (hg : Gl X x := by rfl) (hdb : (x == ("__debug__" : Str)) = false := by decide) (he : starEach (e :: es) X.env = (false, eval e X.env) :: starEach es X.env := by rfl)
    (hpl : (backTo pos (starEach es X.env)).any (·.1) = false := by rfl) : DE X P (.Call (.Name x p) (e :: es) [] pos) (fCallS n fn Φ) :=
  PE.imp (pcallG tk hG F hr hm hk hb ha hg hdb he hpl) fun σ H Q ⟨D, ρ, g, r, c⟩ =>
    tDA_bind r c fun ys g1 vs H1 D1 _ r1 gr vr c1 => by
      by_cases hn : ys.length = n ∧ ys.all argOk = true
      · rw [if_pos hn] at c1
        refine ⟨by rw [vr.len]; exact hn.1, i, D1, ys, g1, r1.sub, by rw [← hi]; exact r1.fd, by rw [← hi]; exact r1.res, by rw [← hi]; exact vr, hn.2, ?_⟩
        rw [← hi]
        unfold QS
        cases w : fn ys g1 with
        | ok y g' =>
          rw [w] at c1
          intro v H' D' gr' s' hR' hv
          cases y with
          | d x => exact c1 v H' D' (r1.step gr' s' hR') gr' hv
          | l xs => exact c1 v H' D' (r1.step gr' s' hR') gr' hv
          | b xs => exact c1.elim
          | h => exact c1 v H' D' (r1.step gr' s' hR') gr' hv
        | exc C fs g' =>
          rw [w] at c1
          exact fun d vfs H' D' gr' s' hR' h1 h2 => c1 d vfs H' D' (r1.step gr' s' hR') gr' h1 h2
        | stuck => rw [w] at c1; exact c1
      · rw [if_neg hn] at c1; exact c1.elim
def envS (N : List Str) (ys : List SV) : Env := ys.map some ++ List.replicate (N.length - ys.length) none
def runS (N : List Str) (ψ : SFn γ) (ys : List SV) (g : γ) : Out γ := (ψ (envS N ys) g).fin
theorem envS_get {N : List Str} {ys : List SV} {i : Nat} {y : SV} (h : (envS N ys)[i]? = some (some y)) : ys[i]? = some y := by
  unfold envS at h
  by_cases hi : i < ys.length
  · rw [List.getElem?_append_left (by simpa using hi), List.getElem?_map] at h
    have e : ys[i]? = some ys[i] := by simp [hi]
    rw [e] at h
    cases h
    exact e
  · rw [List.getElem?_append_right (by simpa using hi), List.getElem?_replicate] at h
    split at h
    · cases h
    · cases h
theorem ARs.get {rs : Rs γ} : ∀ {vs : List V} {ys : List SV} {i : Nat} {y : SV}, ARs K rs H D vs ys → ys[i]? = some y → ∃ v, vs[i]? = some v ∧ AR K rs H D v y
  | _, _, _, _, .nil, e => by simp at e
  | _, _, 0, _, .cons a t, e => by simp at e; subst e; exact ⟨_, rfl, a⟩
  | _, _, i + 1, y, .cons _ t, e => by
    obtain ⟨v, h1, h2⟩ := ARs.get (i := i) (y := y) t (by simpa using e)
    exact ⟨v, by simpa using h1, h2⟩
theorem repS {rs : Rs γ} {N : List Str} {vs : List V} {ys : List SV} {W : WX} (s : Sub D H) (fd : ∀ a, rs.fp a → D a = none) (hR : rs.R g H) (h : ARs K rs H D vs ys) (ok : ys.all argOk = true) : Rep ⟨K, rs, H, D, W⟩ (L2.start N vs) H D (envS N ys) g := by
  have noL : ∀ (i : Nat) (xs : List PyData), ys[i]? ≠ some (.l xs) ∧ ys[i]? ≠ some (.b xs) := fun i xs => by
    have key : ∀ y, ys[i]? = some y → argOk y = true := fun y e => (List.all_eq_true.mp ok) y (List.mem_of_getElem? e)
    constructor
    · intro e; have := key _ e; cases this
    · intro e; have := key _ e; cases this
  refine ⟨.refl, s, fun a z => rs.there g H a hR z, ?_, fun i y e => ?_, fun i xs a e => ?_, fun i xs e => ?_, fun i j a b xs ys' _ e => ?_, fd, hR⟩
  · unfold envS L2.start
    simp [ARs.len h]
  · obtain ⟨v, e2, h2⟩ := ARs.get h (envS_get e)
    exact ⟨v, start_get e2, h2⟩
  · exact absurd (envS_get e) (noL i xs).1
  · exact absurd (envS_get e) (noL i xs).2
  · exact absurd (envS_get e) (noL i xs).1
end
section
variable {gd : Prop} {P : Program} {w : World} {K : PySem.W.Frag} {mg : Str → Option Value} {base : Heap} {γ ι : Type} {Fm : ι → Rs γ}
/-- THE RULE for a def with a resource -/
theorem fnS {x qual : Str} {st : Stmt} {f : Addr} {fd : FuncData} {N ps : List Str} {k : Nat} {ψ : SFn γ} (F : Fun K x qual st f fd) (S : FnScope N ps (defScope st))
    (hbody : ∀ (cdv : Value) (A : Around) (outer : List PySem.Env) (s : Shared) (H D : Hp) (E : XK) (i : ι), Room k (cxD P w K mg base N qual st f cdv A outer s H E).A → Takes (cxD P w K mg base N qual st f cdv A outer s H E) (fun cls d _ H => E cls d H) →
      PassesOwn (model P w) (cxD P w K mg base N qual st f cdv A outer s H E).A (cxD P w K mg base N qual st f cdv A outer s H E).env (cxD P w K mg base N qual st f cdv A outer s H E).xe → (gd → (cxD P w K mg base N qual st f cdv A outer s H E).A.guards = some []) →
      DSs (cxD P w K mg base N qual st f cdv A outer s H E) ⟨K, Fm i, H, D, fun cls d _ H => E cls d H⟩ (defBody st) ψ) : FnG gd P w K mg base (k + 1) f fd ps (spS Fm K ps.length (runS N ψ)) := by
  refine fnG_of F S (fun vs H Q E h => h.1) fun cdv A outer s H vs Q E hG hr h => ?_
  obtain ⟨hl, i, D, ys, g, sd, hfd, hR, ha, ok, q⟩ := h
  refine ⟨_, hbody cdv A outer s H D E i hr (takes_of rfl rfl rfl rfl) (passes_of rfl) hG, D, envS N ys, g, repS sd hfd hR ha ok, ?_⟩
  unfold runS at q
  cases o : ψ (envS N ys) g with
  | next ρ' g' =>
    rw [o] at q
    exact fun σ' H' D' r' s' => q _ H' D' r'.grow r'.sub r'.res Dp.non
  | ret y g' =>
    rw [o] at q
    exact fun v H' D' gr s' _ hR' vr => q v H' D' gr s' hR' vr
  | exc C fs ρ' g' =>
    rw [o] at q
    exact fun σ' d vfs H' D' r' s' h1 h2 => q d vfs H' D' r'.grow r'.sub r'.res h1 h2
  | brk ρ' g' => rw [o] at q; exact q.elim
  | cont ρ' g' => rw [o] at q; exact q.elim
  | stuck => rw [o] at q; exact q.elim
theorem FnG.eqfS {f : Addr} {fd : FuncData} {ps : List Str} {k n : Nat} {fn fn' : List SV → γ → Out γ} (h : FnG gd P w K mg base k f fd ps (spS Fm K n fn)) (e : ∀ ys g, ys.length = n → fn ys g = fn' ys g) : FnG gd P w K mg base k f fd ps (spS Fm K n fn') :=
  h.imp fun vs H Q E ⟨hl, i, D, ys, g, s, h1, h2, h3, h4, q⟩ => ⟨hl, i, D, ys, g, s, h1, h2, h3, h4, by rw [e ys g (by rw [← ARs.len h3]; exact hl)]; exact q⟩
end
end Dn

set_option Elab.async false
set_option linter.all false
set_option autoImplicit false
set_option maxRecDepth 100000
set_option maxHeartbeats 4000000
namespace Dn
open PySem PySem.Spec PyProof.Rows L2
section
variable {gd : Prop} {prog : Program} {w : World} {A : Around} {E : Value → Shared → Prop} {s : Shared}
/-- a whole slice, backwards -/
theorem applied_back {sl : Addr} {vl vu vs : Value} {n : Nat} {Q : Int × Int × Nat → Shared → Prop} (hs : s.heap.IsSliceOf sl vl vu vs) (pl : IsPart vl none) (pu : IsPart vu none) (ps : IsPart vs (some (-1)))
    (h : Q ((n : Int) - 1, -1, n) s) : wpAny (model prog w) A (Builtin.Slice.sliceApplied (.ref sl) (pure (n : Int))) Q E s := by
  obtain ⟨os, hos, hcs, hds⟩ := id hs
  unfold Builtin.Slice.sliceApplied Builtin.Slice.sliceFields
  refine wpAny_bind (wpAny_bind (wpAny_field hos hds (x := vl) rfl (wpAny_bind (wpAny_field hos hds (x := vu) rfl (wpAny_bind (wpAny_field hos hds (x := vs) rfl (wpAny_pure ?_)))))))
  refine wpAny_bind (HT.slicePart_ ps ?_)
  show wpAny _ _ (if ((-1 : Int) == 0) = true then _ else _) _ _ s
  rw [if_neg (by decide)]
  refine wpAny_bind (HT.slicePart_ pl (wpAny_bind (HT.slicePart_ pu (wpAny_bind (wpAny_pure ?_)))))
  have e1 : Builtin.Slice.sliceAdjust none none (-1) (n : Int) = ((n : Int) - 1, -1) := by
    unfold Builtin.Slice.sliceAdjust
    simp
  have e2 : Builtin.Slice.slicePlaces ((n : Int) - 1) (-1) (-1) = n := by
    unfold Builtin.Slice.slicePlaces
    simp
    omega
  show wpAny _ _ (match Builtin.Slice.sliceAdjust none none (-1) (n : Int) with | (lo, hi) => pure (lo, (-1 : Int), Builtin.Slice.slicePlaces lo hi (-1))) _ _ s
  rw [e1]
  show wpAny _ _ (pure ((n : Int) - 1, (-1 : Int), Builtin.Slice.slicePlaces ((n : Int) - 1) (-1) (-1))) _ _ s
  rw [e2]
  exact wpAny_pure h
theorem pick_back (xs : Array Value) : ((List.range xs.size).filterMap fun (k : Nat) => xs[(((xs.size : Nat) : Int) - 1 + (k : Int) * (-1)).toNat]?).toArray = xs.toList.reverse.toArray := by
  congr 1
  apply List.ext_getElem?
  intro j
  have e : (List.range xs.size).filterMap (fun (k : Nat) => xs[(((xs.size : Nat) : Int) - 1 + (k : Int) * (-1)).toNat]?) = (List.range xs.size).pmap (fun k (h : k < xs.size) => xs[xs.size - 1 - k]'(by omega)) (fun k hk => by simpa using hk) := by
    have key : ∀ (l : List Nat) (h : ∀ k ∈ l, k < xs.size), l.filterMap (fun (k : Nat) => xs[(((xs.size : Nat) : Int) - 1 + (k : Int) * (-1)).toNat]?) = l.pmap (fun k (h : k < xs.size) => xs[xs.size - 1 - k]'(by omega)) h := fun l => by
      induction l with
      | nil => intro _; rfl
      | cons k r ih =>
        intro h
        have hk := h k List.mem_cons_self
        have e2 : (((xs.size : Nat) : Int) - 1 + (k : Int) * (-1)).toNat = xs.size - 1 - k := by omega
        have e1 : xs[(((xs.size : Nat) : Int) - 1 + (k : Int) * (-1)).toNat]? = some (xs[xs.size - 1 - k]'(by omega)) := by
          rw [e2]
          exact Array.getElem?_eq_getElem _
        rw [List.filterMap_cons, e1, List.pmap_cons, ih fun k hk => h k (List.mem_cons_of_mem _ hk)]
    exact key _ _
  rw [e]
  by_cases hj : j < xs.size
  · rw [List.getElem?_eq_getElem (by simpa using hj), List.getElem?_eq_getElem (by simpa using hj)]
    congr 1
    simp [List.getElem_reverse]
  · rw [List.getElem?_eq_none (by simpa using hj), List.getElem?_eq_none (by simpa using hj)]
theorem getItem_tuple_back {t sl : Addr} {items : Array Value} {vl vu vs : Value} {Q : Value → Shared → Prop} (ht : IsTup s.heap t items) (hs : s.heap.IsSliceOf sl vl vu vs) (pl : IsPart vl none) (pu : IsPart vu none) (ps : IsPart vs (some (-1)))
    (h : Q (.ref s.heap.objs.size) { s with heap := s.heap.push { cls := .type "tuple", data := .seq items.toList.reverse.toArray } }) (hsz : items.size ≤ sizeLine) : wpAny (model prog w) A (getItem (.ref t) (.ref sl)) Q E s := by
  obtain ⟨os, hos, hcs, hds⟩ := id hs
  have isSl : s.TypeIs (.ref sl) "slice" := ⟨os, hos, hcs⟩
  unfold getItem
  try with_reducible refine wpAny_holding ?_
  first | refine wpAny_bind (wpAny_pure ?_) | skip
  refine wpAny_bind (wpAny_sequenceKey ht.typeIs (by decide) ?_)
  refine wpAny_bind (wpAny_callSpecial?_slot (name := Str.ofString "__getitem__") ht.typeIs PyProof.Rows.slot_tuple_getitem
    (wpAny_call_entry PyProof.Rows.slot_tuple_getitem ht.typeIs entry_tuple_getitem ?_ (args_tuple_getitem _ _)))
  show wpAny _ _ (Builtin.Tuple.tupleItemsOf (.ref t) >>= _) _ _ s
  refine wpAny_bind (tupleItemsOf_ ht ?_)
  refine wpAny_bind (wpAny_typeOf isSl ?_)
  rw [if_pos (by decide)]
  refine wpAny_bind (applied_back hs pl pu ps ?_)
  show wpAny _ _ (if (((items.size : Nat) : Int) - 1 == 0 && (-1 : Int) == 1 && items.size == items.size) = true then _ else _) _ _ s
  have no : ¬ ((((items.size : Nat) : Int) - 1 == 0 && (-1 : Int) == 1 && items.size == items.size) = true) := by simp
  rw [if_neg no, pick_back]
  have okS : sizeOk (.seq items.toList.reverse.toArray) := by
    show items.toList.reverse.toArray.size ≤ sizeLine
    simpa using hsz
  first
    | exact wpAny_bind (m := Builtin.Tuple.tupleExact _) (wpAny_newObj_type (wpAny_pure ⟨_, rfl, wpAny_pure h⟩) okS)
    | exact wpAny_bind (m := Builtin.Tuple.tupleExact _) (wpAny_newObj_type (wpAny_bind (wpAny_pure (wpAny_pure ⟨_, rfl, wpAny_pure h⟩))) okS)
    | exact wpAny_bind (wpAny_bind (m := Builtin.Tuple.tupleExact _) (wpAny_newObj_type (wpAny_pure (wpAny_pure ⟨_, rfl, wpAny_pure h⟩)) okS))
    | exact wpAny_bind (wpAny_bind (m := Builtin.Tuple.tupleExact _) (wpAny_newObj_type (wpAny_pure ⟨_, rfl, wpAny_pure h⟩) okS))
end
section
variable {γ : Type} {gd : Prop} {X : Cx} {P : Pm γ} {e : Expr} {te : TE} {φ : Fn γ}
def tRevT (K : PySem.W.Frag) (te : TE) : TE := fun σ H Q => te σ H fun x H1 => ∃ a xs, x = .ref a ∧ SqT K H1 a xs ∧ ∀ p, H1 p = none → Q (.ref p) (upd H1 p (.tup xs.reverse))
theorem pe_revT {k : Nat} {p1 p2 p3 pos : Pos} (he : PE X e te) : PE X (.Subscript e (.Slice none none (some (.UnaryOp .USub (.Constant (.int 1) k p1) p2)) p3) pos) (tRevT X.K te) := ⟨fun pins s σ H Q I h => by
  refine Subscript_ (thn (he.run pins s σ H _ I h) fun v s1 h1 => ?_)
  obtain ⟨x, H1, I1, r1, a, xs, rfl, hx, q⟩ := h1
  cases r1
  have minus : PO X (some (.UnaryOp .USub (.Constant (.int 1) k p1) p2)) (tPart (tUn (rU fun i => .int (-i)) (tC (.int 1)))) := po_some (pe_un un_neg pe_int)
  refine wpAny_Slice (thn (po_none.run pins s1 σ H1 (fun o G => o = none ∧ G = H1) I1 ⟨rfl, rfl⟩) fun vl s2 h2 => ?_)
  obtain ⟨o2, G2, I2, pl, rfl, rfl⟩ := h2
  refine thn (po_none.run pins s2 σ G2 (fun o G => o = none ∧ G = G2) I2 ⟨rfl, rfl⟩) fun vu s3 h3 => ?_
  obtain ⟨o3, G3, I3, pu, rfl, rfl⟩ := h3
  refine thn (minus.run pins s3 σ G3 (fun o G => o = some (-1) ∧ G = G3) I3 ⟨1, rfl, -1, rfl, rfl, rfl⟩) fun vs s4 h4 => ?_
  obtain ⟨o4, G4, I4, ps, rfl, rfl⟩ := h4
  have I5 : Inv X pins σ G4 { s4 with heap := s4.heap.push { cls := .type "slice", data := .fields #[vl, vu, vs] } } := I4.kept (t' := s4.toks) fun b ob q => Heap.get?_push_of_some _ q
  obtain ⟨its, r, ht, hz⟩ := I5.tuple hx
  have hlen := r.length
  show wpAny (model X.prog X.w) X.A (subscriptTail e (.Slice none none (some (.UnaryOp .USub (.Constant (.int 1) k p1) p2)) p3) (.ref a) (.ref s4.heap.objs.size)) (EP X pins σ Q) X.xe { s4 with heap := s4.heap.push { cls := .type "slice", data := .fields #[vl, vu, vs] } }
  refine tail_any (ops := [.ref a, .ref s4.heap.objs.size]) ht.typeIs (PyProof.Rows.slot_tuple_getitem.lookup) ?_ (by with_unfolding_all rfl)
  refine getItem_tuple_back ht (Heap.IsSliceOf.new _ vl vu vs) pl pu ps ?_ (by rw [List.size_toArray]; omega)
  refine ⟨.ref _, _, I5.laid (t' := s4.toks) (o := .tup xs.reverse) (fun b ob q => Heap.get?_push_of_some _ q) (Nat.le_refl _) ?_, rfl, q _ (I5.hok.fresh (Nat.le_refl _))⟩
  exact ⟨by rw [List.length_reverse]; exact hz, _, r.reverse, IsTup.new _ _⟩⟩
end
section
variable {γ : Type} {gd : Prop} {X : Cx} {P : Pm γ} {σ : L2.St} {H D H1 D1 H2 D2 H' D' : Hp} {ρ : Env} {g g1 g2 : γ} {e a b c : Expr} {φ ψ τ : Fn γ} {Φ Ψ : FnA γ} {t : TE} {pos : Pos} {Q : VK} {K : PySem.W.Frag}
/-- xs[::-1], a list or a tuple -/
def oRevA : SV → Option SV := fun x => match x with
  | .d (.tuple xs) => some (.d (.tuple xs.reverse))
  | x => (lstOf x).map fun xs => .l xs.reverse
def fRevA (φ : Fn γ) : Fn γ := fun ρ g => (φ ρ g).bind fun x g1 => .of (oRevA x) g1
theorem drev {k : Nat} {p1 p2 p3 : Pos} (he : DE X P e φ) (hK : X.K = P.K := by rfl) : DE X P (.Subscript e (.Slice none none (some (.UnaryOp .USub (.Constant (.int 1) k p1) p2)) p3) pos) (fRevA φ) := by
  refine ⟨fun pins s σ H Q I hw => ?_⟩
  obtain ⟨D, ρ, g, r, c⟩ := hw
  by_cases hq : ∃ xs g1, φ ρ g = .ok (.d (.tuple xs)) g1
  · obtain ⟨xs, g1, q⟩ := hq
    refine (pe_revT he).run pins s σ H Q I ?_
    refine tD_bind r c fun y g2 v H1 D1 e1 r1 gr vr c1 => ?_
    rw [q] at e1
    cases e1
    cases vr with
    | tup h1 h2 =>
      rename_i a vs
      rw [hK]
      refine ⟨a, vs, rfl, Sub.st r1.sub h1, fun p hp => ?_⟩
      have l := LG.newD (o := .tup vs.reverse) r1.sub hp
      exact Cont.done r1 c1 rfl l (Dp.tup (SqT.of upd_same) (DpAll.up l.dk _ _ (DpAll.rev h2)))
  · refine (drevl he hK).run pins s σ H Q I ⟨D, ρ, g, r, ?_⟩
    have e2 : fRev φ ρ g = fRevA φ ρ g := by
      unfold fRev fRevA
      cases w : φ ρ g with
      | ok y g1 =>
        simp only [Out.bind]
        cases y with
        | d x =>
          cases x with
          | tuple xs => exact absurd ⟨xs, g1, w⟩ hq
          | _ => rfl
        | _ => rfl
      | exc C fs g1 => rfl
      | stuck => rfl
    rw [e2]
    exact c
theorem dgN (i : Nat) {x : Str} (nd : X.N.Nodup) (hi : X.N[i]? = some x := by rfl) (hx : L2.Loc X.env.scope x := by first | exact Or.inl rfl | exact Or.inr rfl) (hf : X.fn x = true ∨ X.env.scope.names.lookup x = some .local := by first | exact .inl rfl | exact .inr rfl) : PG X (.Name x pos) (gName i) := pg_name nd hi hx hf
theorem tmT {K : PySem.W.Frag} {n : Nat} {gts : TGs} (h : TgsMono gts) : TgMono (gTup K n gts) := fun v σ H Q Q' hq ⟨a, xs, e, hs, hl, q⟩ => ⟨a, xs, e, hs, hl, h xs σ H Q Q' hq q⟩
theorem dcbg {id : String} {x : Str} {p : Pos} {es : List Expr} {r : List V → Hp → VK → Prop} {F : List SV → Option SV} (hc : CallR X (.builtin id) r) (ok : CrOk P.K r F) (hm : X.mg x = some (.builtin id)) (ha : DA X P (e :: es) Φ)
    (hg : Gl X x := by rfl) (hdb : (x == ("__debug__" : Str)) = false := by decide) (he : starEach (e :: es) X.env = (false, eval e X.env) :: starEach es X.env := by rfl)
    (hpl : (backTo pos (starEach es X.env)).any (·.1) = false := by rfl) : DE X P (.Call (.Name x p) (e :: es) [] pos) (fCB F Φ) :=
  PE.imp (pe_callBfun hc hg hm ha hdb he hpl) fun _ _ _ => tCB_of ok
/-- y = [..] of a comprehension -/
theorem dsetlc {elt tg iter : Expr} {ifs : List Expr} {scope : Scope} {own : List (Str × Nat)} {wi : TI} {gt : TG} {tt : TT} {te : TE} {i : Nat} {y : Str} {py spos : Pos} {φ : Fn γ} (hc : X.calm = true) (nd : X.N.Nodup) (hi : X.N[i]? = some y) (hl : List.lookup y X.env.scope.names = some NameKind.local)
    (hs : swapsWith (elt.ListComp [{ target := tg, iter := iter, ifs := ifs, is_async := 0 }] scope pos) (some (Expr.Name y py)) spos.line X.env = pure true) (hp : PI X tg iter wi) (ok : BlkOk X.N X.env.scope scope own)
    (h1 : ∀ (s : Shared) (H : Hp) (C : Addr) (cl : List (Str × Addr)) (fp : List Addr), PG (X.blk s H scope (compEnvC scope cl C X.env) fp) tg gt) (h2 : ∀ (s : Shared) (H : Hp) (C : Addr) (cl : List (Str × Addr)) (fp : List Addr), PTs (X.blk s H scope (compEnvC scope cl C X.env) fp) ifs tt)
    (h3 : ∀ (s : Shared) (H : Hp) (C : Addr) (cl : List (Str × Addr)) (fp : List Addr), PE (X.blk s H scope (compEnvC scope cl C X.env) fp) elt te) (hfs : ∀ x, foldedSetIterable iter X.env x = pure x) (hq : ∀ σ H Q, tD P φ σ H Q → tLc wi gt tt te (own.map (·.2)) σ H Q) :
    DS X P (Stmt.Assign [Expr.Name y py] (elt.ListComp [{ target := tg, iter := iter, ifs := ifs, is_async := 0 }] scope pos) spos) (sAsg i φ) :=
  PS.imp (ps_setLc hc nd hi hl hs hp ok h1 h2 h3 hfs) fun E σ H q => by
    obtain ⟨D, ρ, g, r, c⟩ := q
    show tLc wi gt tt te (own.map (·.2)) σ H fun x H1 => gName i x σ H1 E.nx
    have := asg_of (i := i) (E := E) (φ := φ) (σ := σ) (H := H) ⟨D, ρ, g, r, c⟩
    exact hq σ H _ this
/-- zip of two lists or two tuples; enumerate of a list -/
def iZipF (Φ : FnA γ) : FnI γ := fun ρ g => (Φ ρ g).bindI fun ys g1 => match ys with
  | [.d (.tuple xs), .d (.tuple zs)] => .ok ((xs.zip zs).map fun p => .tuple [p.1, p.2]) g1
  | [.d (.list xs), .d (.list zs)] => .ok ((xs.zip zs).map fun p => .tuple [p.1, p.2]) g1
  | _ => .stuck
theorem zip_items {vs us : List V} {xs zs : List PyData} (h1 : DpAll K D vs xs) (h2 : DpAll K D us zs) {i : Nat} {y : PyData} (e : ((xs.zip zs).map fun p => PyData.tuple [p.1, p.2])[i]? = some y) : ∃ a b va vb, y = .tuple [a, b] ∧ vs[i]? = some va ∧ us[i]? = some vb ∧ Dp K D va a ∧ Dp K D vb b := by
  rw [List.getElem?_map, Option.map_eq_some_iff] at e
  obtain ⟨⟨a, b⟩, e1, rfl⟩ := e
  rw [List.getElem?_zip_eq_some] at e1
  obtain ⟨va, k1, d1⟩ := DpAll.get h1 e1.1
  obtain ⟨vb, k2, d2⟩ := DpAll.get h2 e1.2
  exact ⟨a, b, va, vb, rfl, k1, k2, d1, d2⟩
theorem dizip {elts : List Expr} {kk : Nat} {tpos p : Pos} (hg : Gl X "zip") (hm : X.mg "zip" = none) (ha : DA X P [a, b] Φ) (hK : X.K = P.K := by rfl) (hs : starEach [a, b] X.env = (false, eval a X.env) :: starEach [b] X.env := by rfl) (hpl : (backTo pos (starEach [b] X.env)).any (·.1) = false := by rfl) :
    DI X P (.Tuple elts kk tpos) (.Call (.Name "zip" p) [a, b] [] pos) (iZipF Φ) := by
  refine ⟨fun pins s σ H R I hw => (RZ.pi_zipA hg hm ha hs hpl).run pins s σ H R I ?_⟩
  obtain ⟨D, ρ, g, r, c⟩ := hw
  refine tDA_bindI r c fun ys g1 vs H1 D1 _ r1 gr vr c1 => ?_
  rw [hK]
  match ys, vr, c1 with
  | [.d (.tuple xs), .d (.tuple zs)], .cons (v := va) h1 (.cons (v := vb) h2 .nil), c1 =>
    cases h1 with
    | tup s1 d1 =>
      cases h2 with
      | tup s2 d2 =>
        rename_i a1 us1 b1 us2
        refine ⟨a1, b1, us1, us2, rfl, .inr ⟨Sub.st r1.sub s1, Sub.st r1.sub s2, c1 _ _ _ r1 .refl ⟨fun i y H' D' e q1 q2 => ?_, fun i H' D' e q1 q2 => ⟨us1, us2, Sub.st (q1.trans q2) s1, Sub.st (q1.trans q2) s2, ?_⟩⟩⟩⟩
        · obtain ⟨x1, x2, v1, v2, rfl, k1, k2, m1, m2⟩ := zip_items d1 d2 e
          refine ⟨⟨us1, us2, v1, v2, Sub.st (q1.trans q2) s1, Sub.st (q1.trans q2) s2, k1, k2⟩, fun x H'' z => ?_⟩
          obtain ⟨T, w1, w2, rfl, hT, rfl, g1', g2'⟩ := z
          have e1 := g1' us1 (Sub.st (q1.trans q2) s1)
          have e2 := g2' us2 (Sub.st (q1.trans q2) s2)
          rw [k1] at e1
          rw [k2] at e2
          cases e1
          cases e2
          have l := LG.newD (o := .tup [v1, v2]) q2 hT
          exact ⟨_, l, Dp.tup (SqT.of upd_same) (.cons (Dp.up (q1.trans l.dk) _ _ m1) (.cons (Dp.up (q1.trans l.dk) _ _ m2) .nil))⟩
        · rw [DpAll.len d1, DpAll.len d2]
          simp at e
          omega
  | [.d (.list xs), .d (.list zs)], .cons (v := va) h1 (.cons (v := vb) h2 .nil), c1 =>
    cases h1 with
    | lst s1 d1 =>
      cases h2 with
      | lst s2 d2 =>
        rename_i a1 us1 b1 us2
        refine ⟨a1, b1, us1, us2, rfl, .inl ⟨Sub.sl r1.sub s1, Sub.sl r1.sub s2, c1 _ _ _ r1 .refl ⟨fun i y H' D' e q1 q2 => ?_, fun i H' D' e q1 q2 => ⟨us1, us2, Sub.sl (q1.trans q2) s1, Sub.sl (q1.trans q2) s2, ?_⟩⟩⟩⟩
        · obtain ⟨x1, x2, v1, v2, rfl, k1, k2, m1, m2⟩ := zip_items d1 d2 e
          refine ⟨⟨us1, us2, v1, v2, Sub.sl (q1.trans q2) s1, Sub.sl (q1.trans q2) s2, k1, k2⟩, fun x H'' z => ?_⟩
          obtain ⟨T, w1, w2, rfl, hT, rfl, g1', g2'⟩ := z
          have e1 := g1' us1 (Sub.sl (q1.trans q2) s1)
          have e2 := g2' us2 (Sub.sl (q1.trans q2) s2)
          rw [k1] at e1
          rw [k2] at e2
          cases e1
          cases e2
          have l := LG.newD (o := .tup [v1, v2]) q2 hT
          exact ⟨_, l, Dp.tup (SqT.of upd_same) (.cons (Dp.up (q1.trans l.dk) _ _ m1) (.cons (Dp.up (q1.trans l.dk) _ _ m2) .nil))⟩
        · rw [DpAll.len d1, DpAll.len d2]
          simp at e
          omega
end

/-! ### defs of the text, by name -/
structure Bi (mg : Str → Option Value) : Prop where
  len : mg "len" = none
  all : mg "all" = none
  any : mg "any" = none
  repr : mg "repr" = none
  abs : mg "abs" = none
  max : mg "max" = none
  min : mg "min" = none
  divmod : mg "divmod" = none
  int : mg "int" = none
  bool : mg "bool" = none
  str : mg "str" = none
  tuple : mg "tuple" = none
  list : mg "list" = none
  isinstance : mg "isinstance" = none
  range : mg "range" = none
  zip : mg "zip" = none
  enumerate : mg "enumerate" = none
  sorted : mg "sorted" = none
  set : mg "set" = none
  sum : mg "sum" = none
/-- a def of the top, as the written part has it -/
structure Here (K : PySem.W.Frag) (mg : Str → Option Value) (x : Str) (st : Stmt) (ps : List Str) : Prop where
  ex : ∃ (f : Addr) (fd : FuncData), mg x = some (.ref f) ∧ Fun K x x st f fd ∧ L2.Binds K fd ps []
structure Dfn (gd : Prop) (P : Program) (w : World) (K : PySem.W.Frag) (mg : Str → Option Value) (base : Heap) (k : Nat) (x : Str) (n : Nat) (fn : List PyData → Out Unit) : Prop where
  ex : ∃ (f : Addr) (fd : FuncData) (ps : List Str), mg x = some (.ref f) ∧ PySem.W.keepIn K (.ref f) = true ∧ L2.Binds K fd ps [] ∧ FnG gd P w K mg base k f fd ps (spP K n fn)
structure DfnS {γ ι : Type} (gd : Prop) (P : Program) (w : World) (K : PySem.W.Frag) (mg : Str → Option Value) (base : Heap) (Fm : ι → Rs γ) (k : Nat) (x : Str) (n : Nat) (fn : List SV → γ → Out γ) : Prop where
  ex : ∃ (f : Addr) (fd : FuncData) (ps : List Str), mg x = some (.ref f) ∧ PySem.W.keepIn K (.ref f) = true ∧ L2.Binds K fd ps [] ∧ FnG gd P w K mg base k f fd ps (spS Fm K n fn)
theorem Dfn.eqf {gd : Prop} {P : Program} {w : World} {K : PySem.W.Frag} {mg : Str → Option Value} {base : Heap} {k n : Nat} {x : Str} {fn fn' : List PyData → Out Unit} (h : Dfn gd P w K mg base k x n fn) (e : ∀ ds, ds.length = n → fn ds = fn' ds) : Dfn gd P w K mg base k x n fn' := by
  obtain ⟨f, fd, ps, h1, h2, h3, h4⟩ := h.ex
  exact ⟨f, fd, ps, h1, h2, h3, h4.eqf e⟩
theorem DfnS.eqf {gd : Prop} {γ ι : Type} {P : Program} {w : World} {K : PySem.W.Frag} {mg : Str → Option Value} {base : Heap} {Fm : ι → Rs γ} {k n : Nat} {x : Str} {fn fn' : List SV → γ → Out γ} (h : DfnS gd P w K mg base Fm k x n fn) (e : ∀ ys g, ys.length = n → fn ys g = fn' ys g) : DfnS gd P w K mg base Fm k x n fn' := by
  obtain ⟨f, fd, ps, h1, h2, h3, h4⟩ := h.ex
  exact ⟨f, fd, ps, h1, h2, h3, h4.eqfS e⟩
section
variable {gd : Prop} {γ ι : Type} {Fm : ι → Rs γ} {X : Cx} {P : Pm γ} {e : Expr} {Φ : FnA γ} {pos : Pos}
theorem dcallD {k : Nat} {n : Nat} {fn : List PyData → Out Unit} {x : Str} {p : Pos} {es : List Expr} (tk : Takes X P.W) (hG : gd → X.A.guards = some []) (F : Dfn gd X.prog X.w X.K X.mg X.base k x n fn) (hr : Room k X.A) (ha : DA X P (e :: es) Φ) (hK : X.K = P.K := by rfl) (hg : Gl X x := by rfl)
    (hdb : (x == ("__debug__" : Str)) = false := by decide) (he : starEach (e :: es) X.env = (false, eval e X.env) :: starEach es X.env := by rfl) (hpl : (backTo pos (starEach es X.env)).any (·.1) = false := by rfl) : DE X P (.Call (.Name x p) (e :: es) [] pos) (fCall n fn Φ) := by
  obtain ⟨f, fd, ps, h1, h2, h3, h4⟩ := F.ex
  rw [hK] at h4
  exact dcall tk hG (by rw [hK]; exact h4) hr h1 h2 h3 ha hg hdb he hpl
theorem dcallDS {k : Nat} {n : Nat} {fn : List SV → γ → Out γ} {x : Str} {p : Pos} {es : List Expr} {i : ι} (hi : P.rs = Fm i) (tk : Takes X P.W) (hG : gd → X.A.guards = some []) (F : DfnS gd X.prog X.w X.K X.mg X.base Fm k x n fn) (hr : Room k X.A) (ha : DA X P (e :: es) Φ) (hK : X.K = P.K := by rfl) (hg : Gl X x := by rfl)
    (hdb : (x == ("__debug__" : Str)) = false := by decide) (he : starEach (e :: es) X.env = (false, eval e X.env) :: starEach es X.env := by rfl) (hpl : (backTo pos (starEach es X.env)).any (·.1) = false := by rfl) : DE X P (.Call (.Name x p) (e :: es) [] pos) (fCallS n fn Φ) := by
  obtain ⟨f, fd, ps, h1, h2, h3, h4⟩ := F.ex
  rw [hK] at h4
  exact dcallS hi tk hG (by rw [hK]; exact h4) hr h1 h2 h3 ha hg hdb he hpl
end
end Dn

set_option Elab.async false
set_option linter.all false
set_option maxRecDepth 100000
set_option maxHeartbeats 1000000
/-! a for around yields -/
namespace Dn
open PySem PySem.Spec PyProof.Rows L2
section
variable {prog : Program} {w : World} {M : Model} {A : Around} {R : GenEnd} {Y : Protocol} {n : Nat} {s₀ : Shared} {c : Code} {fs : List PySem.Frame} {s : Shared} {env : PySem.Env}
  {K : Flow → Sem PySem.Fin} {J : Value → Sem PySem.Fin} {gd : Bool → Bool} {lv : List Value → List Value}
theorem sg_For {target iter : Expr} {body orelse : List Stmt} {pos : Pos} (hs : ∀ x, foldedSetIterable iter env x = pure x)
    (h : wpAny M (A.over c fs) (eval iter env) (fun x s1 => wpAny M (A.over c fs) (pyIter x) (fun it s2 => ∀ p lv', Seg M A R Y n s₀ (.forLoop target it body orelse env) (M.den (.forLoop target it body orelse env))
      (.ret (fun r => ((match r with | .ok f => (.pure f : Sem Flow) | .error e => .raise e).onRaise (cameBack env)).wrap K J gd lv) none (gd false) lv' c p [] :: fs) s2)
      (fun x s' => Seg M A R Y n s₀ c (J x) fs s') s1) (fun x s' => Seg M A R Y n s₀ c (J x) fs s') s) :
    Seg M A R Y n s₀ c ((exec (.For target iter body orelse pos) env).wrap K J gd lv) fs s := by
  show Seg M A R Y n s₀ c (.at pos fun _ => (eval iter env >>= fun x => foldedSetIterable iter env x >>= fun x => (standAt iter.pos >>= fun _ => holding [x] (pyIter x) >>= fun it => runOwn (.forLoop target it body orelse env) env)).wrap K J gd lv) fs s
  refine seg_at ?_
  rw [Sem.bind_eq_wrap', Sem.wrap_wrap]
  refine seg_wrap (wpAny_mono h (fun x s1 h1 => ?_) fun _ _ h' => h')
  show Seg M A R Y n s₀ c ((foldedSetIterable iter env x >>= fun x => (standAt iter.pos >>= fun _ => holding [x] (pyIter x) >>= fun it => runOwn (.forLoop target it body orelse env) env)).wrap K J gd lv) fs s1
  rw [hs x]
  show Seg M A R Y n s₀ c (.at iter.pos fun _ => (holding [x] (pyIter x) >>= fun it => runOwn (.forLoop target it body orelse env) env).wrap K J gd lv) fs s1
  refine seg_at ?_
  rw [Sem.bind_eq_wrap', Sem.wrap_wrap]
  refine seg_wrap (wpAny_holding (wpAny_mono h1 (fun it s2 h2 => ?_) fun _ _ h' => h'))
  exact seg_call fun p => h2 p _
abbrev noteW (env : PySem.Env) (e : Value) : Sem PySem.Fin := (do noteFrame e env; theTreesLotGoes e : Sem Unit).wrap (fun _ => .raise e) .raise id id
theorem sg_forLoop {target : Expr} {it : Value} {body : List Stmt}
    (h : wpAny (model prog w) (A.over (.forLoop target it body [] env) fs) (pyNext it) (fun r s1 => match r with
        | none => Seg (model prog w) A R Y n s₀ (.block [] env) ((model prog w).den (.block [] env)) fs s1
        | some v => wpAny (model prog w) (A.over (.forLoop target it body [] env) fs) (letOwnedTupleGo target it v) (fun _ s2 => wpAny (model prog w) (A.over (.forLoop target it body [] env) fs) (assign target env v) (fun _ s3 =>
          Seg (model prog w) A R Y n s₀ (.forLoop target it body [] env) ((execs body env).wrap (fun f => match f with
            | .next | .cont => .pure (.again (.forLoop target it body [] env))
            | .brk => .pure (.done .next)
            | .ret v => .pure (.done (.ret v))) (noteW env) id id) fs s3)
          (fun x s' => Seg (model prog w) A R Y n s₀ (.forLoop target it body [] env) (noteW env x) fs s') s2)
          (fun x s' => Seg (model prog w) A R Y n s₀ (.forLoop target it body [] env) (noteW env x) fs s') s1)
      (fun x s' => Seg (model prog w) A R Y n s₀ (.forLoop target it body [] env) (noteW env x) fs s') s) :
    Seg (model prog w) A R Y n s₀ (.forLoop target it body [] env) ((model prog w).den (.forLoop target it body [] env)) fs s := by
  show Seg _ A R Y n s₀ _ ((forTurn target it body [] env).onRaise (fun x => do noteFrame x env; theTreesLotGoes x)) fs s
  rw [Sem.onRaise_eq_wrap]
  have hN : ∀ e, ((do noteFrame e env; theTreesLotGoes e : Sem Unit).bind fun _ => (.raise e : Sem PySem.Fin)) = noteW env e := fun e => Sem.bind_eq_wrap _ _
  simp only [hN]
  show Seg _ A R Y n s₀ _ (.at target.pos fun _ => ((pyNext it).onRaise (fun _ => standAt { target.pos with line := 0 }) >>= fun r => match r with
    | none => again (.block [] env)
    | some v => letOwnedTupleGo target it v >>= fun _ => assign target env v >>= fun _ => execs body env >>= fun f => match f with
      | .next | .cont => again (.forLoop target it body [] env)
      | .brk => pure (.done .next)
      | .ret v => pure (.done (.ret v))).wrap .pure (noteW env) id id) fs s
  refine seg_at ?_
  rw [Sem.bind_eq_wrap', Sem.wrap_wrap, Sem.onRaise_eq_wrap, Sem.wrap_wrap]
  refine seg_wrap (wpAny_mono h (fun r s1 h1 => ?_) fun x s' hx => ?_)
  · cases r with
    | none => exact seg_again rfl h1
    | some v =>
      show Seg _ A R Y n s₀ _ ((letOwnedTupleGo target it v >>= fun _ => assign target env v >>= fun _ => execs body env >>= fun f => match f with
        | .next | .cont => again (.forLoop target it body [] env)
        | .brk => pure (.done .next)
        | .ret v => pure (.done (.ret v))).wrap .pure (noteW env) id id) fs s1
      rw [Sem.bind_eq_wrap', Sem.wrap_wrap]
      refine seg_wrap (wpAny_mono h1 (fun _ s2 h2 => ?_) fun _ _ h' => h')
      rw [Sem.bind_eq_wrap', Sem.wrap_wrap]
      refine seg_wrap (wpAny_mono h2 (fun _ s3 h3 => ?_) fun _ _ h' => h')
      rw [Sem.bind_eq_wrap', Sem.wrap_wrap]
      rw [Sem.wrap_congr (execs body env) _ _ (K' := fun f => match f with
            | .next | .cont => .pure (.again (.forLoop target it body [] env))
            | .brk => .pure (.done .next)
            | .ret v => .pure (.done (.ret v))) (H' := noteW env)
        (fun f => by cases f <;> rfl) (fun e => show (Sem.wrap Sem.pure (noteW env) id id (.raise e) : Sem PySem.Fin) = noteW env e from rfl)]
      exact h3
  · show Seg _ A R Y n s₀ _ (.at { target.pos with line := 0 } fun _ => noteW env x) fs s'
    exact seg_at hx
end
section
variable {X : Cx} {tg iter : Expr} {body : List Stmt} {pos : Pos}
/-- a for of a generator: what a turn may want -/
def tGFor (wi : TI) (g : TG) (tb : TGn) : TGn := fun D ys σ H => wi σ H fun J H2 => ∃ W : Nat → Nat → List V → L2.St → Hp → Prop, (∃ m, W 0 m ys σ H2) ∧ ∀ i m ys σ H, W i m ys σ H →
  (J.stop i H ∧ D.nx ys σ H) ∨ (J.go i H ∧ ∃ N : List V → L2.St → Hp → Prop, (∀ ys' σ' H', N ys' σ' H' → ∃ m', m' < m ∧ W (i + 1) m' ys' σ' H') ∧ ∀ x H', J.yld i H x H' →
    g x σ H' fun σ2 H3 => tb { D with nx := N, ct := N, bk := D.nx } ys σ2 H3)
theorem gs_for {wi : TI} {g : TG} {tb : TGn} (hp : PassesOwn (model X.prog X.w) X.A X.env X.xe) (hc : X.calm = true) (hi : PI X tg iter wi) (hg : PG X tg g) (hb : GSs X body tb)
    (hs : ∀ x, foldedSetIterable iter X.env x = pure x := by intro _; rfl) : GS X (.For tg iter body [] pos) (tGFor wi g tb) := by
  refine ⟨fun A S ip R n ys s₀ c fs K J gd lv s σ H D gc hn k hI ht => ?_⟩
  refine sg_For hs ?_
  rw [gc.over]
  obtain ⟨acc, cc, r, I⟩ := hI
  refine wpAny_mono (hi.run ((S, lstObj acc cc) :: ip) s σ H _ I ht) (fun v s1 h1 => ?_) fun x s' hx => k.exc n s₀ x s' hx
  refine wpAny_mono h1 (fun itv s2 h2 => ?_) fun x s' hx => k.exc n s₀ x s' hx
  obtain ⟨it, fp, tn, Ji, H2, e, I2, T, st2, f2, W, ⟨m0, w0⟩, turn⟩ := h2
  subst e
  intro p lv'
  have hSf : ∀ b ∈ fp, b ≠ S := fun b hb e => (f2 b hb).2.2.2.2.2 (S, lstObj acc cc) (List.mem_append_right _ List.mem_cons_self) e.symm
  have hSip : ∀ b ∈ fp, ∀ q ∈ X.pn ++ ip, q.1 ≠ b := fun b hb q hq => (f2 b hb).2.2.2.2.2 q ((List.mem_append.mp hq).elim (List.mem_append_left _) fun z => List.mem_append_right _ (List.mem_cons_of_mem _ z))
  have gl := fun (kk : Result → Sem PySem.Fin) => gc_loop (k := kk) (c' := .forLoop tg (.ref it) body [] X.env) (l := lv') (kp := []) (p := p) gc rfl rfl
  have gb := fun (kk : Result → Sem PySem.Fin) => gc_loop (k := kk) (c' := .block [] X.env) (l := lv') (kp := []) (p := p) gc rfl rfl
  have stat : ∀ {H' : Hp} {ac : Array Value} {c' : Nat}, (∀ b ∈ fp, H' b = none) → ∀ b ∈ fp, FpOk X ((S, lstObj ac c') :: ip) H' b := fun {H' ac c'} hn b hb => by
    refine ⟨hn b hb, (f2 b hb).2.1, (f2 b hb).2.2.1, (f2 b hb).2.2.2.1, (f2 b hb).2.2.2.2.1, fun q hq => ?_⟩
    rcases List.mem_append.mp hq with z | z
    · exact hSip b hb q (List.mem_append_left _ z)
    · rcases List.mem_cons.mp z with z | z
      · rw [z]; exact (hSf b hb).symm
      · exact hSip b hb q (List.mem_append_right _ z)
  have loop : ∀ (m i n : Nat) (ys : List V) (s₀ s : Shared) (σ : L2.St) (H : Hp), n + ys.length = sizeLine → W i m ys σ H → GI X S ip ys σ H s → tn i s.heap → (∀ b ∈ fp, H b = none) →
      Seg (model X.prog X.w) A R (GY X S) n s₀ (.forLoop tg (.ref it) body [] X.env) ((model X.prog X.w).den (.forLoop tg (.ref it) body [] X.env))
        (.ret (fun r => ((match r with | .ok f => (.pure f : Sem Flow) | .error e => .raise e).onRaise (cameBack X.env)).wrap K J gd lv) none (gd false) lv' c p [] :: fs) s := by
    intro m
    induction m using Nat.strongRecOn with
    | ind m ih =>
      intro i n ys s₀ s σ H hn w hI st fr
      have ee : ∀ (n : Nat) (s₀ : Shared) (x : Value) (s' : Shared), X.xe x s' → Seg (model X.prog X.w) A R (GY X S) n s₀ (.forLoop tg (.ref it) body [] X.env) (noteW X.env x)
          (.ret (fun r => ((match r with | .ok f => (.pure f : Sem Flow) | .error e => .raise e).onRaise (cameBack X.env)).wrap K J gd lv) none (gd false) lv' c p [] :: fs) s' := fun n s₀ x s' hx => by
        refine seg_wrap ?_
        rw [(gl _).over]
        refine wpAny_bind (wpAny_mono (hp x s' hx) (fun _ s'' hcb => wpAny_theTreesLotGoes ?_) fun y s'' hcb => ?_)
        · exact seg_leaf (.error x) (seg_cameBack gc k hcb)
        · exact seg_leaf (.error y) (seg_cameBack gc k hcb)
      refine sg_forLoop ?_
      rw [(gl _).over]
      obtain ⟨acc, cc, r, I⟩ := hI
      rcases turn i m ys σ H w with ⟨stop, qn⟩ | ⟨go, N, hN, step⟩
      · refine wpAny_mono (T.done X rfl rfl rfl hc i _ s σ H X.xe I (stat fr) st stop) (fun rr s4 h4 => ?_) fun x s' hx => ee n s₀ x s' hx
        obtain ⟨hr, I4⟩ := h4
        subst hr
        exact seg_leaf (.ok .next) (k.ok n ys s₀ s4 .next hn ⟨σ, H, ⟨acc, cc, r, I4⟩, qn⟩)
      · refine wpAny_mono (T.item X rfl rfl rfl hc i _ s σ H X.xe I (stat fr) st go) (fun rr s4 h4 => ?_) fun x s' hx => ee n s₀ x s' hx
        obtain ⟨u, hr, h4⟩ := h4
        subst hr
        refine wpAny_mono h4 (fun _ s5 h5 => ?_) fun x s' hx => ee n s₀ x s' hx
        obtain ⟨x, H5, I5, r5, y5, st5, fr5⟩ := h5
        have I5' := I5.pinned (stat fr5) (T.obj _ _ st5)
        refine wpAny_mono (hg.run _ s5 σ H5 x u _ I5' r5 (step x H5 y5)) (fun _ s6 h6 => ?_) fun x s' hx => ee n s₀ x s' hx
        obtain ⟨σ6, H6, I6, q6⟩ := h6
        have gl' : ∀ kk, GC X S (ip ++ pinsAt fp s5.heap) A (.forLoop tg (.ref it) body [] X.env) (.ret kk none (gd false) lv' c p [] :: fs) id := fun kk => ⟨gc.pn, fun q hq => by
            rcases List.mem_append.mp hq with z | z
            · exact gc.ip q z
            · obtain ⟨b, hb, e⟩ : ∃ b ∈ fp, q.1 = b := by
                unfold pinsAt at z
                obtain ⟨b, hb, z⟩ := List.mem_filterMap.mp z
                refine ⟨b, hb, ?_⟩
                cases q' : s5.heap.get? b with
                | none => rw [q'] at z; cases z
                | some o => rw [q'] at z; cases z; rfl
              rw [e]; exact hSf b hb, (gl kk).apart, (gl kk).over, (gl kk).split, (gl kk).guard, (gl kk).gd⟩
        have again : ∀ {n' : Nat} {ys' : List V} {s₀' s7 : Shared} {σ7 : L2.St} {H7 : Hp}, n' + ys'.length = sizeLine → GI X S (ip ++ pinsAt fp s5.heap) ys' σ7 H7 s7 → N ys' σ7 H7 → Seg (model X.prog X.w) A R (GY X S) n' s₀' (.forLoop tg (.ref it) body [] X.env) (.pure (.again (.forLoop tg (.ref it) body [] X.env)))
            (.ret (fun r => ((match r with | .ok f => (.pure f : Sem Flow) | .error e => .raise e).onRaise (cameBack X.env)).wrap K J gd lv) none (gd false) lv' c p [] :: fs) s7 := fun {n' ys' s₀' s7 σ7 H7} hn' I7 n7 => by
          obtain ⟨m', hm, w7⟩ := hN ys' σ7 H7 n7
          obtain ⟨acc7, c7, r7, I7⟩ := I7
          have pin7 : ∀ b ∈ fp, ∀ o, s5.heap.get? b = some o → (b, o) ∈ X.pn ++ ((S, lstObj acc7 c7) :: (ip ++ pinsAt fp s5.heap)) := fun b hb o e => List.mem_append_right _ (List.mem_cons_of_mem _ (List.mem_append_right _ (mem_pinsAt hb e)))
          refine seg_again rfl (ih m' hm (i + 1) n' ys' s₀' s7 σ7 H7 hn' w7 ⟨acc7, c7, r7, I7.pins_of fun q hq => I7.pin q ?_⟩ (T.keep _ _ _ st5 fun b hb o e => (I7.pin (b, o) (pin7 b hb o e)).1) fun b hb => ?_)
          · rcases List.mem_cons.mp hq with z | z
            · rw [z]; exact List.mem_append_right _ List.mem_cons_self
            · exact List.mem_append_right _ (List.mem_cons_of_mem _ (List.mem_append_left _ z))
          · obtain ⟨o, e, d⟩ := T.obj _ _ st5 b hb
            exact (I7.pin (b, o) (pin7 b hb o e)).2.1
        refine hb.run A S (ip ++ pinsAt fp s5.heap) R n ys s₀ _ _ _ _ id id s6 σ6 H6 { D with nx := N, ct := N, bk := D.nx } (gl' _) hn ⟨fun n' ys' s₀' s7 f hn' hs => ?_, fun n' s₀' x s7 hx => ee n' s₀' x s7 hx⟩ ⟨acc, cc, r, I6⟩ q6
        have less : ∀ {ys' : List V} {σ7 : L2.St} {H7 : Hp}, GI X S (ip ++ pinsAt fp s5.heap) ys' σ7 H7 s7 → GI X S ip ys' σ7 H7 s7 := fun {ys' σ7 H7} h => by
          obtain ⟨a7, c7, r7, I7⟩ := h
          refine ⟨a7, c7, r7, I7.pins_of fun q hq => I7.pin q ?_⟩
          rcases List.mem_cons.mp hq with z | z
          · rw [z]; exact List.mem_append_right _ List.mem_cons_self
          · exact List.mem_append_right _ (List.mem_cons_of_mem _ (List.mem_append_left _ z))
        cases f with
        | next => obtain ⟨σ7, H7, I7, n7⟩ := hs; exact again hn' I7 n7
        | cont => obtain ⟨σ7, H7, I7, n7⟩ := hs; exact again hn' I7 n7
        | brk => obtain ⟨σ7, H7, I7, q7⟩ := hs; exact seg_leaf (.ok .next) (k.ok n' ys' s₀' s7 .next hn' ⟨σ7, H7, less I7, q7⟩)
        | ret v => obtain ⟨x7, σ7, H7, I7, r7, q7⟩ := hs; exact seg_leaf (.ok (.ret v)) (k.ok n' ys' s₀' s7 (.ret v) hn' ⟨x7, σ7, H7, less I7, r7, q7⟩)
  exact loop m0 0 n ys s₀ s2 σ H2 hn w0 ⟨acc, cc, r, I2⟩ st2 fun b hb => (f2 b hb).1
end
end Dn

set_option Elab.async false
set_option linter.all false
set_option autoImplicit false
set_option maxRecDepth 100000
set_option maxHeartbeats 1000000
/-! generators over plain data: what is out so far is a list of data -/
namespace Dn
open PySem PySem.Spec PyProof.Rows L2
abbrev GFnD := SFn (List PyData)
def NxG (P : Pm Unit) (D : Hp) (ρ' : Env) (zs : List PyData) (R : List V → L2.St → Hp → Prop) : Prop := ∀ ys σ' H' D', Rep P σ' H' D' ρ' () → Sub D D' → DpAll P.K D' ys zs → R ys σ' H'
def ContG (P : Pm Unit) (D : Hp) (o : SOut (List PyData)) (E : GEnds) : Prop := match o with
  | .next ρ' zs => NxG P D ρ' zs E.nx
  | .brk ρ' zs => NxG P D ρ' zs E.bk
  | .cont ρ' zs => NxG P D ρ' zs E.ct
  | .exc C fs ρ' _ => ExcS P D C fs ρ' ()
  | _ => False
def tSG (P : Pm Unit) (ψ : GFnD) : TGn := fun E ys σ H => ∃ D ρ zs, Rep P σ H D ρ () ∧ DpAll P.K D ys zs ∧ ContG P D (ψ ρ zs) E
abbrev GD (X : Cx) (P : Pm Unit) (st : Stmt) (ψ : GFnD) : Prop := GS X st (tSG P ψ)
abbrev GDs (X : Cx) (P : Pm Unit) (st : List Stmt) (ψ : GFnD) : Prop := GSs X st (tSG P ψ)
section
variable {X : Cx} {P : Pm Unit} {st : Stmt} {rest : List Stmt} {D D1 D' : Hp} {e : Expr} {pos yp : Pos} {φ : Fn Unit} {ψ : SFn Unit} {χ χ1 χ2 : GFnD}
theorem gs_weak {t t' : TGn} (h : GS X st t) (i : ∀ E ys σ H, t' E ys σ H → t E ys σ H) : GS X st t' := ⟨fun A S ip R n ys s₀ c fs K J gd lv s σ H E gc hn k I q => h.run A S ip R n ys s₀ c fs K J gd lv s σ H E gc hn k I (i E ys σ H q)⟩
theorem gss_weak {t t' : TGn} (h : GSs X rest t) (i : ∀ E ys σ H, t' E ys σ H → t E ys σ H) : GSs X rest t' := ⟨fun A S ip R n ys s₀ c fs K J gd lv s σ H E gc hn k I q => h.run A S ip R n ys s₀ c fs K J gd lv s σ H E gc hn k I (i E ys σ H q)⟩
theorem ContG.back {o : SOut (List PyData)} {E : GEnds} (s : Sub D D1) (h : ContG P D o E) : ContG P D1 o E := by
  cases o with
  | next ρ' zs => exact fun ys σ' H' D' r s' d => h ys σ' H' D' r (s.trans s') d
  | brk ρ' zs => exact fun ys σ' H' D' r s' d => h ys σ' H' D' r (s.trans s') d
  | cont ρ' zs => exact fun ys σ' H' D' r s' d => h ys σ' H' D' r (s.trans s') d
  | exc C fs ρ' zs => exact fun σ' d vfs H' D' r s' => h σ' d vfs H' D' r (s.trans s')
  | ret y zs => exact h
  | stuck => exact h
/-- a statement that hands nothing out -/
def gLift (ψ : SFn Unit) : GFnD := fun ρ zs => match ψ ρ () with
  | .next ρ' _ => .next ρ' zs
  | .brk ρ' _ => .brk ρ' zs
  | .cont ρ' _ => .cont ρ' zs
  | .exc C fs ρ' _ => .exc C fs ρ' zs
  | _ => .stuck
theorem lift_of {E : GEnds} {ys : List V} {σ : L2.St} {H : Hp} (h : tSG P (gLift ψ) E ys σ H) : tPlain (tS P ψ) E ys σ H := by
  obtain ⟨D, ρ, zs, r, dz, c⟩ := h
  refine ⟨D, ρ, (), r, ?_⟩
  unfold gLift at c
  cases o : ψ ρ () with
  | next ρ' g' => rw [o] at c; exact fun σ' H' D' r' s' => c ys σ' H' D' r' s' (DpAll.up s' _ _ dz)
  | brk ρ' g' => rw [o] at c; exact fun σ' H' D' r' s' => c ys σ' H' D' r' s' (DpAll.up s' _ _ dz)
  | cont ρ' g' => rw [o] at c; exact fun σ' H' D' r' s' => c ys σ' H' D' r' s' (DpAll.up s' _ _ dz)
  | exc C fs ρ' g' => rw [o] at c; exact c
  | ret y g' => rw [o] at c; exact c.elim
  | stuck => rw [o] at c; exact c.elim
theorem gplain (h : DS X P st ψ) : GD X P st (gLift ψ) := gs_weak (gs_ps h) fun E ys σ H q => lift_of q
def gNil : GFnD := fun ρ zs => .next ρ zs
theorem gdnil : GDs X P [] gNil := gss_weak gss_nil fun E ys σ H ⟨D, ρ, zs, r, dz, c⟩ => c ys σ H D r (Sub.refl D) dz
theorem gdcons (h : GD X P st χ1) (t : GDs X P rest χ2) : GDs X P (st :: rest) (sSeq χ1 χ2) := gss_weak (gss_cons h t) fun E ys σ H ⟨D, ρ, zs, r, dz, c⟩ => by
  refine ⟨D, ρ, zs, r, dz, ?_⟩
  unfold sSeq at c
  cases o : χ1 ρ zs with
  | next ρ' zs' => rw [o] at c; exact fun ys' σ' H' D' r' s' d' => ⟨D', ρ', zs', r', d', ContG.back s' c⟩
  | brk ρ' g' => rw [o] at c; exact c
  | cont ρ' g' => rw [o] at c; exact c
  | exc C fs ρ' g' => rw [o] at c; exact c
  | ret y g' => rw [o] at c; exact c
  | stuck => rw [o] at c; exact c
/-- yield e -/
def gYield (φ : Fn Unit) : GFnD := fun ρ zs => if zs.length < sizeLine then (match φ ρ () with
  | .ok (.d x) _ => .next ρ (zs ++ [x])
  | .exc C fs _ => .exc C fs ρ zs
  | _ => .stuck) else .stuck
theorem DpAll.snoc {K : PySem.W.Frag} {D : Hp} : ∀ {ys : List V} {zs : List PyData} {v : V} {x : PyData}, DpAll K D ys zs → Dp K D v x → DpAll K D (ys ++ [v]) (zs ++ [x])
  | _, _, _, _, .nil, h => .cons h .nil
  | _, _, _, _, .cons a b, h => .cons a (DpAll.snoc b h)
theorem gyield (he : DE X P e φ) (hco : X.env.scope.isCoroutine = false := by rfl) (hi : interactive X.env = false := by rfl) : GD X P (.Expr (.Yield (some e) yp) pos) (gYield φ) := gs_weak (gs_yield he hco hi) fun E ys σ H ⟨D, ρ, zs, r, dz, c⟩ => by
  unfold gYield at c
  by_cases hl : zs.length < sizeLine
  · rw [if_pos hl] at c
    refine ⟨by rw [DpAll.len dz]; exact hl, D, ρ, (), r, ?_⟩
    cases o : φ ρ () with
    | ok y g' =>
      rw [o] at c
      cases y with
      | d x => exact fun v H1 D1 r1 gr vr => c _ σ H1 D1 r1 gr.dk (DpAll.snoc (DpAll.up gr.dk _ _ dz) vr)
      | l x => exact c.elim
      | b x => exact c.elim
      | h => exact c.elim
    | exc C fs g1 =>
      rw [o] at c
      exact fun d vfs H' D' r' gr h1 h2 => c σ d vfs H' D' r' gr.dk h1 h2
    | stuck => rw [o] at c; exact c.elim
  · rw [if_neg hl] at c; exact c.elim
/-- for x in …: with yields inside -/
def gFor (Ι : FnI Unit) (asg : Asg) (body : GFnD) : GFnD := fun ρ zs => match Ι ρ () with
  | .ok ys _ => loopD asg body ys ρ zs
  | .exc C fs _ => .exc C fs ρ zs
  | .stuck => .stuck
theorem gfor {tg iter : Expr} {body : List Stmt} {Ι : FnI Unit} {gt : TG} {asg : Asg} (hp : PassesOwn (model X.prog X.w) X.A X.env X.xe) (hc : X.calm = true) (hi : DI X P tg iter Ι) (hg : PG X tg gt) (ht : TgIs P gt asg) (hb : GDs X P body χ)
    (hfs : ∀ x, foldedSetIterable iter X.env x = pure x := by intro _; rfl) : GD X P (.For tg iter body [] pos) (gFor Ι asg χ) := gs_weak (gs_for hp hc hi hg hb hfs) fun E ys σ H ⟨D, ρ, zs, r, dz, c⟩ => by
  refine ⟨D, ρ, (), r, ?_⟩
  unfold gFor at c
  cases q : Ι ρ () with
  | exc C fs g1 => rw [q] at c; exact fun d vfs H' D' r' gr h1 h2 => c σ d vfs H' D' r' gr.dk h1 h2
  | stuck => rw [q] at c; exact c
  | ok xs g1 =>
    rw [q] at c
    intro J H1 D1 r1 gr it
    have c' : ContG P D1 (loopD asg χ xs ρ zs) E := ContG.back gr.dk c
    refine ⟨fun i m ys' σ' H' => m = xs.length - i ∧ ∃ D' ρ' zs', Rep P σ' H' D' ρ' () ∧ Sub D1 D' ∧ DpAll P.K D' ys' zs' ∧ ContG P D' (loopD asg χ (xs.drop i) ρ' zs') E, ⟨xs.length, by simp, D1, ρ, zs, r1, Sub.refl _, DpAll.up gr.dk _ _ dz, by simpa using c'⟩, ?_⟩
    rintro i m ys' σ' H' ⟨rfl, D', ρ', zs', r', s', dz', c2⟩
    by_cases hlt : i < xs.length
    · have e : xs[i]? = some xs[i] := by simp [hlt]
      obtain ⟨hgo, hy⟩ := it.go i _ H' D' e s' r'.sub
      refine .inr ⟨hgo, fun ys'' σ'' H'' => ∃ D'' ρ'' zs'', Rep P σ'' H'' D'' ρ'' () ∧ Sub D1 D'' ∧ DpAll P.K D'' ys'' zs'' ∧ ContG P D'' (loopD asg χ (xs.drop (i + 1)) ρ'' zs'') E, fun ys'' σ'' H'' ⟨D'', ρ'', zs'', r'', s'', d'', c3⟩ => ⟨xs.length - (i + 1), by omega, rfl, D'', ρ'', zs'', r'', s'', d'', c3⟩, fun x H3 hx => ?_⟩
      obtain ⟨D3, l, dp⟩ := hy x H3 hx
      have r3 := r'.lg l
      rw [List.drop_eq_getElem_cons hlt] at c2
      unfold loopD at c2
      cases k : asg xs[i] ρ' with
      | none => rw [k] at c2; exact c2.elim
      | some ρ1 =>
        rw [k] at c2
        simp only at c2
        refine ht.run x xs[i] σ' H3 D3 ρ' () ρ1 _ r3 dp k fun σ4 r4 => ⟨D3, ρ1, zs', r4, DpAll.up l.dk _ _ dz', ?_⟩
        have s3 : Sub D1 D3 := s'.trans l.dk
        have c3 := ContG.back l.dk c2
        cases w : χ ρ1 zs' with
        | next ρ2 g2 => rw [w] at c3; exact fun ys5 σ5 H5 D5 r5 s5 d5 => ⟨D5, ρ2, g2, r5, s3.trans s5, d5, ContG.back s5 c3⟩
        | cont ρ2 g2 => rw [w] at c3; exact fun ys5 σ5 H5 D5 r5 s5 d5 => ⟨D5, ρ2, g2, r5, s3.trans s5, d5, ContG.back s5 c3⟩
        | brk ρ2 g2 => rw [w] at c3; exact c3
        | ret y g2 => rw [w] at c3; exact c3
        | exc C fs ρ2 g2 => rw [w] at c3; exact c3
        | stuck => rw [w] at c3; exact c3
    · have hd : xs.drop i = [] := List.drop_eq_nil_of_le (by omega)
      rw [hd] at c2
      exact .inl ⟨it.stop i H' D' (by omega) s' r'.sub, c2 ys' σ' H' D' r' (Sub.refl _) dz'⟩
end

/-! ### the def -/
def QPG (K : PySem.W.Frag) (H D : Hp) (o : OutI Unit) (Q : List V → Hp → Prop) (E : XK) : Prop := match o with
  | .ok zs _ => ∀ ys H' D', LG H D H' D' → DpAll K D' ys zs → Q ys H'
  | .exc C fs _ => ∀ d vfs H' D', LG H D H' D' → H' d = some (.xd vfs) → FR K D' vfs fs → E (.ref C) (some d) H'
  | .stuck => False
def spG (K : PySem.W.Frag) (n : Nat) (f : List PyData → OutI Unit) : SpG := fun vs H Q E => vs.length = n ∧ ∃ D ds, Sub D H ∧ DpAll K D vs ds ∧ QPG K H D (f ds) Q E
def runG (N : List Str) (χ : GFnD) (ds : List PyData) : OutI Unit := match χ (env0 N ds) [] with
  | .next _ zs => .ok zs ()
  | .exc C fs _ _ => .exc C fs ()
  | _ => .stuck
section
variable {P : Program} {w : World} {K : PySem.W.Frag} {mg : Str → Option Value} {base : Heap}
abbrev cxG (P : Program) (w : World) (K : PySem.W.Frag) (mg : Str → Option Value) (base : Heap) (N : List Str) (qual : Str) (st : Stmt) (f : Addr) (cdv : Value) (A : Around) (outer : List PySem.Env) (s : Shared) (H : Hp) (E : XK) (pn : List (Addr × Obj)) : Cx := gcxOf P w K mg base N qual (defScope st) f cdv A outer s H E pn
theorem fnGen {x qual : Str} {st : Stmt} {f : Addr} {fd : FuncData} {N ps : List Str} {k : Nat} {χ : GFnD} (F : Fun K x qual st f fd) (S : GScope N ps (defScope st))
    (hbody : ∀ (cdv : Value) (A : Around) (outer : List PySem.Env) (s : Shared) (H D : Hp) (E : XK) (pn : List (Addr × Obj)), Room k (cxG P w K mg base N qual st f cdv A outer s H E pn).A → Takes (cxG P w K mg base N qual st f cdv A outer s H E pn) (fun cls d _ H => E cls d H) →
      PassesOwn (model P w) (cxG P w K mg base N qual st f cdv A outer s H E pn).A (cxG P w K mg base N qual st f cdv A outer s H E pn).env (cxG P w K mg base N qual st f cdv A outer s H E pn).xe →
      GDs (cxG P w K mg base N qual st f cdv A outer s H E pn) ⟨K, rs0, H, D, fun cls d _ H => E cls d H⟩ (defBody st) χ) : GFn P w K mg base (k + 1) f fd ps (spG K ps.length (runG N χ)) := by
  obtain ⟨oc, od, kV, doc, pm, an, cdv, ct, osl, rfl, lk, hcd⟩ := F.ex
  refine gfn_of lk hcd S (fun vs H Q E h => h.1) fun A outer s H vs Q E pn hr h => ?_
  obtain ⟨hl, D, ds, sd, hd, q⟩ := h
  refine ⟨_, hbody cdv A outer s H D E pn hr takes_gcx owns_gcx, D, env0 N ds, [], rep0 sd hd, .nil, ?_⟩
  unfold runG at q
  cases o : χ (env0 N ds) [] with
  | next ρ' zs =>
    rw [o] at q
    exact fun ys σ' H' D' r' s' d' => q ys H' D' (Grow.lg0 r'.grow r'.sub) d'
  | exc C fs ρ' g' =>
    rw [o] at q
    exact fun σ' d vfs H' D' r' s' h1 h2 => q d vfs H' D' (Grow.lg0 r'.grow r'.sub) h1 h2
  | ret y g' => rw [o] at q; exact q.elim
  | brk ρ' g' => rw [o] at q; exact q.elim
  | cont ρ' g' => rw [o] at q; exact q.elim
  | stuck => rw [o] at q; exact q.elim
end
end Dn

set_option Elab.async false
set_option linter.all false
set_option autoImplicit false
set_option maxRecDepth 100000
set_option maxHeartbeats 1000000
/-! list(g(..)) of a generator def; calls by keywords alone -/
namespace Dn
open PySem PySem.Spec PyProof.Rows L2
def liftL {γ : Type} (C0 : Addr) (o : OutI Unit) (g : γ) : Out γ := match o with
  | .ok zs _ => .ok (.l zs) g
  | .exc C fs _ => if C = C0 then .exc C fs g else .stuck
  | .stuck => .stuck
def fListG {γ : Type} (C0 : Addr) (n : Nat) (f : List PyData → OutI Unit) (Φ : FnA γ) : Fn γ := fun ρ g => (Φ ρ g).bind fun ys g1 => match allD ys with
  | some ds => if ds.length = n then liftL C0 (f ds) g1 else .stuck
  | none => .stuck
section
variable {γ : Type} {gd : Prop} {X : Cx} {P : Pm γ} {σ : L2.St} {H D H1 D1 : Hp} {ρ : Env} {g g1 : γ} {e : Expr} {Φ : FnA γ} {pos : Pos} {Q : VK}
abbrev Quiet (K : PySem.W.Frag) (C : Addr) : Prop := PySem.W.subIn K (.ref C) (.type "StopIteration") = some false
def WQ (K : PySem.W.Frag) (E : XK) : XK := fun cls d H => E cls d H ∧ PySem.W.subIn K cls (.type "StopIteration") = some false
theorem gen_of {C0 : Addr} {n : Nat} {f : List PyData → OutI Unit} (hq : Quiet P.K C0) (r1 : Rep P σ H1 D1 ρ g1) {ys : List SV} {vs : List V} (vr : ARs P.K P.rs H1 D1 vs ys)
    (c1 : Cont P σ H1 D1 ρ (match allD ys with | some ds => if ds.length = n then liftL C0 (f ds) g1 else .stuck | none => .stuck) Q) :
    spG P.K n f vs H1 (fun out H2 => ∀ p, H2 p = none → Q (.ref p) (upd H2 p (.lst out))) (WQ P.K (WE P.W σ)) := by
  cases q : allD ys with
  | none => simp only [q] at c1; exact c1.elim
  | some ds =>
    simp only [q] at c1
    by_cases hn : ds.length = n
    · rw [if_pos hn] at c1
      refine ⟨by rw [vr.len, ← allD_len q]; exact hn, D1, ds, r1.sub, vr.allD q, ?_⟩
      cases w : f ds with
      | ok zs u =>
        rw [w] at c1
        intro out H' D' l dz p hp
        have r2 := r1.lg l
        have l2 := LG.new (o := .lst out) r2.sub hp
        have hd : D' p = none := by
          cases e : D' p with
          | none => rfl
          | some u => rw [r2.sub p u e] at hp; cases hp
        have lo : H1 p = none := by
          cases e : H1 p with
          | none => rfl
          | some u => rw [l.keep p u e] at hp; cases hp
        exact c1 _ _ _ (r2.lg l2) (l.grow.trans l2.grow) ⟨⟨p, out, rfl, upd_same, hd, r2.nfp hp, dz⟩, fun a e => by cases e; exact lo⟩
      | exc C fs u =>
        rw [w] at c1
        have key : ∀ b : Prop, [Decidable b] → (b → Quiet P.K C) → Cont P σ H1 D1 ρ (if b then .exc C fs g1 else .stuck) Q → QPG P.K H1 D1 (.exc C fs u) (fun out H2 => ∀ p, H2 p = none → Q (.ref p) (upd H2 p (.lst out))) (WQ P.K (WE P.W σ)) := fun b _ hb c2 => by
          by_cases h : b
          · rw [if_pos h] at c2
            exact fun d vfs H' D' l h1 h2 => ⟨c2 d vfs H' D' (r1.lg l) l.grow h1 h2, hb h⟩
          · rw [if_neg h] at c2; exact c2.elim
        exact key (C = C0) (fun e => by rw [e]; exact hq) c1
      | stuck => rw [w] at c1; exact c1
    · rw [if_neg hn] at c1; exact c1.elim
theorem cx_imp {Pg : Program} {w : World} {outer : List PySem.Env} {H : Hp} {s s' : Shared} {E E' : XK} {u : Value} (i : ∀ c d H, E c d H → E' c d H) (c : L2.CX Pg w outer H s E u s') : L2.CX Pg w outer H s E' u s' :=
  let ⟨a, B, H', cls, d, z1, z2, z3, z4, z5, z6, z7, z8⟩ := c
  ⟨a, B, H', cls, d, z1, z2, z3, z4, z5, z6, z7, i _ _ _ z8⟩
/-- the consumer: list(e), where e gives a generator that has not begun -/
theorem list_run {k : Nat} {cont : List V → Hp → Prop} {W : WX} {nm : Str} {p : Pos} {pins : List (Addr × Obj)} {s : Shared} (tk : Takes X W) (hr : Room (k + 3) X.A) (hg : Gl X nm) (hmg : X.mg nm = none) (hv : bootBuiltins nm = some (.type "list")) (hnm : nm ≠ "__name__") (hdb : (nm == ("__debug__" : Str)) = false)
    (he : starEach [e] X.env = (false, eval e X.env) :: starEach [] X.env) (I : L2.Inv X pins σ H s) (hQ : ∀ out H2, cont out H2 → ∀ a, H2 a = none → Q (.ref a) (upd H2 a (.lst out)))
    (h : wpAny (model X.prog X.w) X.A (eval e X.env) (fun u s' => ∃ H1 sc ex, L2.Inv X pins σ H1 sc ∧ ExOk X pins ex ∧ GMade X.prog X.w k X.stack H1 sc ex cont (WQ X.K (WE W σ)) u s') X.xe s) :
    wpAny (model X.prog X.w) X.A (eval (.Call (.Name nm p) [e] [] pos) X.env) (EP X pins σ Q) X.xe s := by
  refine wpAny_Call_Name_kw (ld_blt I hg hmg hv ?_ hnm hdb)
  refine PyProof.Rows.callWith_type1 ?_ he rfl
  rw [he]
  show wpAny _ _ (spliced ((false, eval e X.env) :: backTo pos (starEach [] X.env))) _ _ s
  refine Calls.spliced_cons (thn h fun u s1 z => Calls.spliced_nil ?_)
  obtain ⟨H1, sc, ex, I1, hex, hG⟩ := z
  have sz : sc.heap.objs.size ≤ s1.heap.objs.size := by
    obtain ⟨a, g, c, _, q1, q2, _⟩ := id hG
    exact Nat.le_trans q1 (Nat.le_of_lt q2)
  refine call_list_new hr I1.ok.frames hG ?_ ?_
  · intro S s' acc c H' ys q0 q1 q2 hl q3 q4 q5 q6 q7 q8
    exact ⟨.ref S, upd H' S (.lst ys), I1.drained (Nat.le_trans sz q0) hl q1 q2 hex q3 q4 q5 q6 q7, rfl, hQ ys H' q8 S q7⟩
  · intro e' s' g hc
    have kin : X.K.In s'.heap := by
      obtain ⟨a, B, H', cls, d, _, fl, _, ub, _⟩ := id hc
      refine I1.ok.mod.kin.keeps fun b o eb => fl.1 b o (ub.keep b o (I1.bs b o eb).1 (I1.bs b o eb).2 ?_)
      intro hm
      rcases List.mem_cons.mp (I1.stkSub b hm) with z | z
      · rw [z] at eb
        exact absurd (Nat.lt_of_lt_of_le (Heap.lt_size eb) (Nat.le_trans I1.ok.bsz I1.ok.above)) (Nat.lt_irrefl _)
      · exact I1.ok.nofr eb z
    refine ⟨notStop_of (fun cls d H z => z.2) kin hc, passAt tk σ pins H1 sc e' _ I1 (cx_imp (E := WQ X.K (WE W σ)) (fun _ _ _ z => z.1) ?_)⟩
    obtain ⟨a, B, H', cls, d, z1, z2, z3, z4, z5, z6, z7, z8⟩ := hc
    exact ⟨a, B, H', cls, d, z1, z2, z3, z4, z5, z6, allBare_setGen z7 rfl, z8⟩
theorem dlistG {k n : Nat} {f : Addr} {fd : FuncData} {ps : List Str} {fn : List PyData → OutI Unit} {x nm : Str} {p p' pos' : Pos} {es : List Expr} (tk : Takes X P.W) (F : GFn X.prog X.w X.K X.mg X.base k f fd ps (spG P.K n fn)) (hr : Room (k + 3) X.A)
    (hm : X.mg x = some (.ref f)) (hk : PySem.W.keepIn X.K (.ref f) = true) (hb : Binds X.K fd ps []) {C0 : Addr} (hq : Quiet P.K C0) (ha : DA X P (e :: es) Φ) (hmg : X.mg nm = none) (hv : bootBuiltins nm = some (.type "list")) (hK : X.K = P.K := by rfl)
    (hg : Gl X x := by rfl) (hgn : Gl X nm := by rfl) (hdb : (x == ("__debug__" : Str)) = false := by decide) (hdn : (nm == ("__debug__" : Str)) = false := by decide) (hnm : nm ≠ "__name__" := by decide)
    (he : starEach (e :: es) X.env = (false, eval e X.env) :: starEach es X.env := by rfl) (hpl : (backTo pos' (starEach es X.env)).any (·.1) = false := by rfl)
    (he' : starEach [.Call (.Name x p') (e :: es) [] pos'] X.env = (false, eval (.Call (.Name x p') (e :: es) [] pos') X.env) :: starEach [] X.env := by rfl) :
    DE X P (.Call (.Name nm p) [.Call (.Name x p') (e :: es) [] pos'] [] pos) (fListG C0 n fn Φ) := ⟨fun pins s σ H Q I ⟨D, ρ, g, r, c⟩ => by
  have hrk : Room k X.A := ⟨hr.hd, by have := hr.dp; omega, by have := hr.un; omega⟩
  refine list_run tk hr hgn hmg hv hnm hdn he' I (cont := fun out H2 => ∀ a, H2 a = none → Q (.ref a) (upd H2 a (.lst out))) (fun _ _ z => z) ?_
  refine (pgen_call F hrk hg hm hk hb .nil ha hdb he hpl).run pins s σ H _ I ?_
  refine tDA_bind r c fun ys g1 vs H1 D1 _ r1 gr vr c1 => ?_
  rw [List.append_nil, hK]
  exact gen_of hq r1 vr c1⟩
end
end Dn

set_option Elab.async false
set_option linter.all false
set_option autoImplicit false
set_option maxRecDepth 100000
set_option maxHeartbeats 1000000
/-! calls by keywords alone -/
namespace Dn
open PySem PySem.Spec PyProof.Rows L2
/-- the keywords stand in the turned order of the parameters -/
structure KRev (K : PySem.W.Frag) (fd : FuncData) (ps ks : List Str) : Prop where
  to : ∀ (s : Shared) (ws : List Value), K.In s.heap → ws.length = ps.length → BindsTo s fd ⟨[], ks.zip ws⟩ (ps.zip ws.reverse)
theorem KRev.all {K : PySem.W.Frag} {fd : FuncData} {ps ks : List Str} (h : ∀ ws : List Value, ws.length = ps.length → bindArgs fd ⟨[], ks.zip ws⟩ = pure (ps.zip ws.reverse)) : KRev K fd ps ks := ⟨fun s ws _ hl => .of_eq (h ws hl)⟩
section
variable {γ : Type} {gd : Prop} {X : Cx} {P : Pm γ} {σ : L2.St} {H D H1 D1 : Hp} {ρ : Env} {g g1 : γ} {e : Expr} {φ : Fn γ} {Φ : FnA γ} {pos kp : Pos} {Q : VK} {kws : List Keyword} {nm : Option Str}
abbrev DK (X : Cx) (P : Pm γ) (kws : List Keyword) (Φ : FnA γ) : Prop := PK X kws (tDA P Φ)
theorem pk_weak {t t' : TA} (h : PK X kws t) (i : ∀ σ H Q, t' σ H Q → t σ H Q) : PK X kws t' := ⟨fun pos pins s σ H Q I q => h.run pos pins s σ H Q I (i σ H Q q)⟩
theorem dknil : DK X P [] aNil := pk_weak pk_nil fun σ H Q ⟨D, ρ, g, r, c⟩ => c [] H D r .refl .nil
theorem dkcons (h : DE X P e φ) (t : DK X P kws Φ) : DK X P (⟨nm, e, kp⟩ :: kws) (aCons φ Φ) :=
  pk_weak (pk_cons h t) fun σ H Q ⟨D, ρ, g, r, c⟩ => by
    refine tD_bindA r c fun x g1 vx H1 D1 _ r1 gr1 v1 c1 => ?_
    refine tDA_bindA r1 c1 fun xs g2 vs H2 D2 _ r2 gr2 v2 c2 => ?_
    exact c2 (vx :: vs) H2 D2 r2 .refl (.cons (v1.ar.up gr2) v2)
theorem spP_rev {K : PySem.W.Frag} {n : Nat} {f : List PyData → Out Unit} {vs : List V} {H : Hp} {E : XK} (h : spP K n (fun ds => f ds.reverse) vs H Q E) : spP K n f vs.reverse H Q E := by
  obtain ⟨hl, D, ds, sd, hd, q⟩ := h
  exact ⟨by rw [List.length_reverse]; exact hl, D, ds.reverse, sd, DpAll.rev hd, q⟩
theorem spG_rev {K : PySem.W.Frag} {n : Nat} {f : List PyData → OutI Unit} {vs : List V} {H : Hp} {C : List V → Hp → Prop} {E : XK} (h : spG K n (fun ds => f ds.reverse) vs H C E) : spG K n f vs.reverse H C E := by
  obtain ⟨hl, D, ds, sd, hd, q⟩ := h
  exact ⟨by rw [List.length_reverse]; exact hl, D, ds.reverse, sd, DpAll.rev hd, q⟩
theorem dcallK {k n : Nat} {f : Addr} {fd : FuncData} {ps ks : List Str} {fn : List PyData → Out Unit} {x : Str} {p : Pos} (tk : Takes X P.W) (hG : gd → X.A.guards = some []) (F : FnG gd X.prog X.w X.K X.mg X.base k f fd ps (spP P.K n fn)) (hr : Room k X.A)
    (hm : X.mg x = some (.ref f)) (hk : PySem.W.keepIn X.K (.ref f) = true) (kb : KRev X.K fd ps ks) (ha : DK X P kws Φ) (hg : Gl X x := by rfl) (hdb : (x == ("__debug__" : Str)) = false := by decide)
    (hall : (backToKw pos (keywordEach kws X.env)).all (·.1.isSome) = true := by rfl) (hks : (backToKw pos (keywordEach kws X.env)).filterMap (·.1) = ks := by rfl)
    (hpl : ((backTo pos (starEach [] X.env)).any (·.1) || (backToKw pos (keywordEach kws X.env)).any (·.1.isNone)) = false := by rfl) : DE X P (.Call (.Name x p) [] kws pos) (fCall n (fun ds => fn ds.reverse) Φ) := ⟨fun pins s σ H Q I ⟨D, ρ, g, r, c⟩ => by
  refine wpAny_Call_Name_kw (ld_glob I hg hm ?_ hdb)
  refine PySem.W.callWith_KW0 (h₀ := X.base) I.ok.mod.kin hk hall ?_ hpl
  have args := ha.run pos pins s σ H (fun vs H1 => spP P.K n (fun ds => fn ds.reverse) vs H1 Q (WE P.W σ)) I (tDA_bind r c fun ys g1 vs H1 D1 _ r1 gr vr c1 => call_of r1 vr c1)
  refine thn args fun ws s1 z => ?_
  obtain ⟨vs, H1, I1, rv, q⟩ := z
  refine ⟨I1.kIn, ?_⟩
  rw [hks]
  have q := spP_rev q
  have hl : ws.length = ps.length := by
    have e := F.len _ _ _ _ q
    rw [List.length_reverse, rv.length] at e
    exact e
  refine wpAny_call (codeAny_mono (F.run X.A X.stack s1 H1 _ ws.reverse vs.reverse Q (WE P.W σ) hG hr I1.env0 (kb.to s1 ws I1.kIn hl) rv.reverse q) fun rr s2 hq => ?_)
  match rr, hq with
  | .error ex, hq => exact passAt tk σ pins H1 s1 ex s2 I1 hq
  | .ok (.ret u), hq => exact I1.after hq
  | .ok .next, hq => exact hq.elim
  | .ok .brk, hq => exact hq.elim
  | .ok .cont, hq => exact hq.elim⟩
theorem dlistGK {k n : Nat} {f : Addr} {fd : FuncData} {ps ks : List Str} {fn : List PyData → OutI Unit} {x nl : Str} {p p' pos' : Pos} (tk : Takes X P.W) (F : GFn X.prog X.w X.K X.mg X.base k f fd ps (spG P.K n fn)) (hr : Room (k + 3) X.A)
    (hm : X.mg x = some (.ref f)) (hk : PySem.W.keepIn X.K (.ref f) = true) (kb : KRev X.K fd ps ks) {C0 : Addr} (hq : Quiet P.K C0) (ha : DK X P kws Φ) (hmg : X.mg nl = none) (hv : bootBuiltins nl = some (.type "list")) (hK : X.K = P.K := by rfl)
    (hg : Gl X x := by rfl) (hgn : Gl X nl := by rfl) (hdb : (x == ("__debug__" : Str)) = false := by decide) (hdn : (nl == ("__debug__" : Str)) = false := by decide) (hnm : nl ≠ "__name__" := by decide)
    (hall : (backToKw pos' (keywordEach kws X.env)).all (·.1.isSome) = true := by rfl) (hks : (backToKw pos' (keywordEach kws X.env)).filterMap (·.1) = ks := by rfl)
    (hpl : ((backTo pos' (starEach [] X.env)).any (·.1) || (backToKw pos' (keywordEach kws X.env)).any (·.1.isNone)) = false := by rfl)
    (he' : starEach [.Call (.Name x p') [] kws pos'] X.env = (false, eval (.Call (.Name x p') [] kws pos') X.env) :: starEach [] X.env := by rfl) :
    DE X P (.Call (.Name nl p) [.Call (.Name x p') [] kws pos'] [] pos) (fListG C0 n (fun ds => fn ds.reverse) Φ) := ⟨fun pins s σ H Q I ⟨D, ρ, g, r, c⟩ => by
  have hrk : Room k X.A := ⟨hr.hd, by have := hr.dp; omega, by have := hr.un; omega⟩
  refine list_run tk hr hgn hmg hv hnm hdn he' I (cont := fun out H2 => ∀ a, H2 a = none → Q (.ref a) (upd H2 a (.lst out))) (fun _ _ z => z) ?_
  refine wpAny_Call_Name_kw (ld_glob I hg hm ?_ hdb)
  refine PySem.W.callWith_KW0 (h₀ := X.base) I.ok.mod.kin hk hall ?_ hpl
  have args := ha.run pos' pins s σ H (fun vs H1 => spG P.K n (fun ds => fn ds.reverse) vs H1 (fun out H2 => ∀ a, H2 a = none → Q (.ref a) (upd H2 a (.lst out))) (WQ P.K (WE P.W σ))) I
    (tDA_bind r c fun ys g1 vs H1 D1 _ r1 gr vr c1 => gen_of hq r1 vr c1)
  refine thn args fun ws s1 z => ?_
  obtain ⟨vs, H1, I1, rv, q⟩ := z
  refine ⟨I1.kIn, ?_⟩
  rw [hks]
  have q := spG_rev q
  have hl : ws.length = ps.length := by
    have e := F.len _ _ _ _ q
    rw [List.length_reverse, rv.length] at e
    exact e
  rw [hK]
  refine wpAny_call (codeAny_mono (F.run X.A X.stack s1 H1 _ ws.reverse vs.reverse _ _ hrk I1.env0 (kb.to s1 ws I1.kIn hl) rv.reverse q) fun rr s2 hq => ?_)
  match rr, hq with
  | .ok (.ret u), hq => exact ⟨H1, s1, [], I1, ExOk.nil, hq⟩
  | .error ex, hq => exact hq.elim
  | .ok .next, hq => exact hq.elim
  | .ok .brk, hq => exact hq.elim
  | .ok .cont, hq => exact hq.elim⟩
end
end Dn

set_option Elab.async false
set_option linter.all false
set_option autoImplicit false
set_option maxRecDepth 100000
set_option maxHeartbeats 1000000
/-! generator defs and keyword calls, by name -/
namespace Dn
open PySem PySem.Spec PyProof.Rows L2
theorem KRev.of {K : PySem.W.Frag} {x qual : Str} {st : Stmt} {f : Addr} {fd : FuncData} {ps ks : List Str} (F : Fun K x qual st f fd)
    (h : ∀ (kV doc pm : Value) (an : Option Addr) (cdv ct : Value) (ws : List Value), ws.length = ps.length → bindArgs (PySem.W.fnOf x qual (defArgs st) (defBody st) (defScope st) .none kV doc pm an cdv ct) ⟨[], ks.zip ws⟩ = pure (ps.zip ws.reverse)) : KRev K fd ps ks := by
  obtain ⟨oc, od, kV, doc, pm, an, cdv, ct, osl, rfl, lk, hcd⟩ := F.ex
  exact .all (h kV doc pm an cdv ct)
structure DfnK (gd : Prop) (P : Program) (w : World) (K : PySem.W.Frag) (mg : Str → Option Value) (base : Heap) (k : Nat) (x : Str) (ks : List Str) (n : Nat) (fn : List PyData → Out Unit) : Prop where
  ex : ∃ (f : Addr) (fd : FuncData) (ps : List Str), mg x = some (.ref f) ∧ PySem.W.keepIn K (.ref f) = true ∧ KRev K fd ps ks ∧ FnG gd P w K mg base k f fd ps (spP K n fn)
structure GDfn (P : Program) (w : World) (K : PySem.W.Frag) (mg : Str → Option Value) (base : Heap) (k : Nat) (x : Str) (n : Nat) (fn : List PyData → OutI Unit) : Prop where
  ex : ∃ (f : Addr) (fd : FuncData) (ps : List Str), mg x = some (.ref f) ∧ PySem.W.keepIn K (.ref f) = true ∧ L2.Binds K fd ps [] ∧ GFn P w K mg base k f fd ps (spG K n fn)
structure GDfnK (P : Program) (w : World) (K : PySem.W.Frag) (mg : Str → Option Value) (base : Heap) (k : Nat) (x : Str) (ks : List Str) (n : Nat) (fn : List PyData → OutI Unit) : Prop where
  ex : ∃ (f : Addr) (fd : FuncData) (ps : List Str), mg x = some (.ref f) ∧ PySem.W.keepIn K (.ref f) = true ∧ KRev K fd ps ks ∧ GFn P w K mg base k f fd ps (spG K n fn)
section
variable {gd : Prop} {γ ι : Type} {Fm : ι → Rs γ} {X : Cx} {P : Pm γ} {e : Expr} {Φ : FnA γ} {pos : Pos} {kws : List Keyword}
theorem dcallDK {k : Nat} {n : Nat} {ks : List Str} {fn : List PyData → Out Unit} {x : Str} {p : Pos} (tk : Takes X P.W) (hG : gd → X.A.guards = some []) (F : DfnK gd X.prog X.w X.K X.mg X.base k x ks n fn) (hr : Room k X.A) (ha : DK X P kws Φ) (hK : X.K = P.K := by rfl) (hg : Gl X x := by rfl)
    (hdb : (x == ("__debug__" : Str)) = false := by decide) (hall : (backToKw pos (keywordEach kws X.env)).all (·.1.isSome) = true := by rfl) (hks : (backToKw pos (keywordEach kws X.env)).filterMap (·.1) = ks := by rfl)
    (hpl : ((backTo pos (starEach [] X.env)).any (·.1) || (backToKw pos (keywordEach kws X.env)).any (·.1.isNone)) = false := by rfl) : DE X P (.Call (.Name x p) [] kws pos) (fCall n (fun ds => fn ds.reverse) Φ) := by
  obtain ⟨f, fd, ps, h1, h2, h3, h4⟩ := F.ex
  rw [hK] at h4
  exact dcallK tk hG (by rw [hK]; exact h4) hr h1 h2 h3 ha hg hdb hall hks hpl
theorem dlistD {k n : Nat} {fn : List PyData → OutI Unit} {x nm : Str} {p p' pos' : Pos} {es : List Expr} (tk : Takes X P.W) (F : GDfn X.prog X.w X.K X.mg X.base k x n fn) {C0 : Addr} (hq : Quiet P.K C0) (hr : Room (k + 3) X.A)
    (ha : DA X P (e :: es) Φ) (hmg : X.mg nm = none) (hv : bootBuiltins nm = some (.type "list")) (hK : X.K = P.K := by rfl)
    (hg : Gl X x := by rfl) (hgn : Gl X nm := by rfl) (hdb : (x == ("__debug__" : Str)) = false := by decide) (hdn : (nm == ("__debug__" : Str)) = false := by decide) (hnm : nm ≠ "__name__" := by decide)
    (he : starEach (e :: es) X.env = (false, eval e X.env) :: starEach es X.env := by rfl) (hpl : (backTo pos' (starEach es X.env)).any (·.1) = false := by rfl)
    (he' : starEach [.Call (.Name x p') (e :: es) [] pos'] X.env = (false, eval (.Call (.Name x p') (e :: es) [] pos') X.env) :: starEach [] X.env := by rfl) :
    DE X P (.Call (.Name nm p) [.Call (.Name x p') (e :: es) [] pos'] [] pos) (fListG C0 n fn Φ) := by
  obtain ⟨f, fd, ps, h1, h2, h3, h4⟩ := F.ex
  rw [hK] at h4
  exact dlistG tk (by rw [hK]; exact h4) hr h1 h2 h3 hq ha hmg hv hK hg hgn hdb hdn hnm he hpl he'
theorem dlistDK {k n : Nat} {ks : List Str} {fn : List PyData → OutI Unit} {x nl : Str} {p p' pos' : Pos} (tk : Takes X P.W) (F : GDfnK X.prog X.w X.K X.mg X.base k x ks n fn) {C0 : Addr} (hq : Quiet P.K C0) (hr : Room (k + 3) X.A)
    (ha : DK X P kws Φ) (hmg : X.mg nl = none) (hv : bootBuiltins nl = some (.type "list")) (hK : X.K = P.K := by rfl)
    (hg : Gl X x := by rfl) (hgn : Gl X nl := by rfl) (hdb : (x == ("__debug__" : Str)) = false := by decide) (hdn : (nl == ("__debug__" : Str)) = false := by decide) (hnm : nl ≠ "__name__" := by decide)
    (hall : (backToKw pos' (keywordEach kws X.env)).all (·.1.isSome) = true := by rfl) (hks : (backToKw pos' (keywordEach kws X.env)).filterMap (·.1) = ks := by rfl)
    (hpl : ((backTo pos' (starEach [] X.env)).any (·.1) || (backToKw pos' (keywordEach kws X.env)).any (·.1.isNone)) = false := by rfl)
    (he' : starEach [.Call (.Name x p') [] kws pos'] X.env = (false, eval (.Call (.Name x p') [] kws pos') X.env) :: starEach [] X.env := by rfl) :
    DE X P (.Call (.Name nl p) [.Call (.Name x p') [] kws pos'] [] pos) (fListG C0 n (fun ds => fn ds.reverse) Φ) := by
  obtain ⟨f, fd, ps, h1, h2, h3, h4⟩ := F.ex
  rw [hK] at h4
  exact dlistGK tk (by rw [hK]; exact h4) hr h1 h2 h3 hq ha hmg hv hK hg hgn hdb hdn hnm hall hks hpl he'
end
end Dn

set_option Elab.async false
set_option linter.all false
set_option autoImplicit false
set_option maxRecDepth 100000
set_option maxHeartbeats 1000000
/-! while around yields -/
namespace Dn
open PySem PySem.Spec PyProof.Rows L2
def whileG (τ : Fn Unit) (χ : GFnD) : Nat → GFnD
  | 0 => fun _ _ => .stuck
  | n + 1 => fun ρ zs => match τ ρ () with
    | .ok (.d (.bool b)) _ => if b = true then (match χ ρ zs with
      | .next ρ2 z2 => whileG τ χ n ρ2 z2
      | .cont ρ2 z2 => whileG τ χ n ρ2 z2
      | .brk ρ2 z2 => .next ρ2 z2
      | o => o) else .next ρ zs
    | .exc C fs _ => .exc C fs ρ zs
    | _ => .stuck
section
variable {X : Cx} {P : Pm Unit} {e : Expr} {pos : Pos} {τ : Fn Unit} {χ : GFnD}
theorem gwhile (fuel : Nat) {body : List Stmt} (hp : PassesOwn (model X.prog X.w) X.A X.env X.xe) (hc : DT X P e τ) (hb : GDs X P body χ) : GD X P (.While e body [] pos) (whileG τ χ fuel) := gs_weak (gs_while hp hc hb) fun E ys σ H ⟨D, ρ, zs, r, dz, c⟩ => by
  refine ⟨fun m ys' σ' H' => ∃ D' ρ' zs', Rep P σ' H' D' ρ' () ∧ DpAll P.K D' ys' zs' ∧ ContG P D' (whileG τ χ m ρ' zs') E, ⟨fuel, D, ρ, zs, r, dz, c⟩, ?_⟩
  rintro m ys' σ' H' ⟨D', ρ', zs', r', dz', c2⟩
  cases m with
  | zero => exact c2.elim
  | succ m =>
    refine ⟨D', ρ', (), r', ?_⟩
    unfold whileG at c2
    cases o : τ ρ' () with
    | exc C fs g1 =>
      rw [o] at c2
      exact fun d vfs H1 D1 r1 gr h1 h2 => c2 σ' d vfs H1 D1 r1 gr.dk h1 h2
    | stuck => rw [o] at c2; exact c2.elim
    | ok y g1 =>
      rw [o] at c2
      cases y with
      | l x => exact c2.elim
      | b x => exact c2.elim
      | h => exact c2.elim
      | d x =>
        cases x with
        | bool b =>
          intro H1 D1 r1 gr
          cases b with
          | false => exact c2 ys' σ' H1 D1 r1 gr.dk (DpAll.up gr.dk _ _ dz')
          | true =>
            rw [if_pos rfl]
            dsimp only at c2
            rw [if_pos rfl] at c2
            refine ⟨fun ys'' σ'' H'' => ∃ D'' ρ'' zs'', Rep P σ'' H'' D'' ρ'' () ∧ DpAll P.K D'' ys'' zs'' ∧ ContG P D'' (whileG τ χ m ρ'' zs'') E, fun ys'' σ'' H'' q => ⟨m, Nat.lt_succ_self m, q⟩, D1, ρ', zs', r1, DpAll.up gr.dk _ _ dz', ?_⟩
            have c3 := ContG.back gr.dk c2
            cases w : χ ρ' zs' with
            | next ρ2 g2 => rw [w] at c3; exact fun ys5 σ5 H5 D5 r5 s5 d5 => ⟨D5, ρ2, g2, r5, d5, ContG.back s5 c3⟩
            | cont ρ2 g2 => rw [w] at c3; exact fun ys5 σ5 H5 D5 r5 s5 d5 => ⟨D5, ρ2, g2, r5, d5, ContG.back s5 c3⟩
            | brk ρ2 g2 => rw [w] at c3; exact c3
            | ret y g2 => rw [w] at c3; exact c3
            | exc C fs ρ2 g2 => rw [w] at c3; exact c3
            | stuck => rw [w] at c3; exact c3
        | _ => exact c2.elim
end
end Dn

set_option Elab.async false
set_option linter.all false
set_option autoImplicit false
set_option maxRecDepth 100000
set_option maxHeartbeats 1000000
namespace Dn
open PySem PySem.Spec PyProof.Rows L2
section
variable {γ : Type} {X : Cx} {P : Pm γ}
/-- y = [.. for ..] -/
theorem dsetlc0 (i : Nat) {elt tg iter : Expr} {scope : Scope} {own : List (Str × Nat)} {Ι : FnI γ} {gt : TG} {asg : Asg} {ψ : Fn γ} {y : Str} {py spos pos : Pos} (hc : X.calm = true) (nd : X.N.Nodup) (hi : DI X P tg iter Ι) (ok : BlkOk X.N X.env.scope scope own)
    (hg : ∀ (s : Shared) (H : Hp) (C : Addr) (cl : List (Str × Addr)) (fp : List Addr), PG (X.blk s H scope (compEnvC scope cl C X.env) fp) tg gt) (ht : TgIs P.nox gt asg) (ho : TgOwn gt (own.map (·.2)))
    (he : ∀ (s : Shared) (H : Hp) (C : Addr) (cl : List (Str × Addr)) (fp : List Addr), DE (X.blk s H scope (compEnvC scope cl C X.env) fp) P.nox elt ψ) (hy : X.N[i]? = some y := by rfl) (hl : List.lookup y X.env.scope.names = some NameKind.local := by rfl)
    (hs : swapsWith (elt.ListComp [{ target := tg, iter := iter, ifs := [], is_async := 0 }] scope pos) (some (Expr.Name y py)) spos.line X.env = pure true := by rfl) (hfs : ∀ x, foldedSetIterable iter X.env x = pure x := by intro _; rfl) :
    DS X P (.Assign [.Name y py] (.ListComp elt [⟨tg, iter, [], 0⟩] scope pos) spos) (sAsg i (fLc (own.map (·.2)) Ι asg fYes ψ)) :=
  dsetlc (own := own) hc nd hy hl hs hi ok hg (fun _ _ _ _ _ => pts_nil) he hfs fun σ H Q => lc_core ht ho fun σ H Q ⟨D, ρ, g, r, c⟩ => c H D r .refl
end
end Dn

set_option Elab.async false
set_option linter.all false
set_option autoImplicit false
set_option maxRecDepth 100000
set_option maxHeartbeats 1000000
namespace Dn
open PySem PySem.Spec PyProof.Rows L2
section
variable {prog : Program} {w : World} {A : Around} {E : Value → Shared → Prop} {s : Shared}
theorem add_any {l b : Addr} {vs ws : List Value} {Q : Value → Shared → Prop} (hl : s.heap.IsList l vs.toArray) (hb : s.heap.IsList b ws.toArray) (hsz : vs.length + ws.length ≤ sizeLine)
    (h : Q (.ref s.heap.objs.size) { s with heap := s.heap.push { cls := .type "list", data := .seq (vs ++ ws).toArray } }) : wpAny (model prog w) A (binaryOp .Add (.ref l) (.ref b)) Q E s := by
  obtain ⟨⟨c1, d1, t1, s1⟩, ho, hc, n, hd⟩ := id hl
  obtain ⟨⟨c2, d2, t2, s2⟩, ho2, hc2, n2, hd2⟩ := id hb
  simp only at hc hd hc2 hd2
  subst hc hd hc2 hd2
  have hz : vs.toArray.size + ws.toArray.size ≤ sizeLine := by simpa using hsz
  have e : vs.toArray ++ ws.toArray = (vs ++ ws).toArray := by simp
  have got := list_addW l b vs.toArray ws.toArray n n2 d1 d2 s1 s2 hz
  refine concat_meets ⟨_, ho, rfl⟩ ⟨_, ho2, rfl⟩ noFill_list_add seq_list_add PySem.F.slot_list_add PySem.F.entry_list_add (PySem.F.args_list_add_2 _ _) got ⟨ho, ho2, ?_⟩
  rw [e]
  exact h
end
/-- data and an own list, together a new list -/
def rCatD (K : PySem.W.Frag) : R2 := fun x y H Q => ∃ l b xs zs, x = .ref l ∧ y = .ref b ∧ SqL K H l xs ∧ SqL K H b zs ∧ xs.length + zs.length ≤ sizeLine ∧ ∀ p, H p = none → Q (.ref p) (upd H p (.lst (xs ++ zs)))
theorem op_catD {X : Cx} : OpR X (binaryOp .Add) (rCatD X.K) := by
  intro pins s σ H x y v u Q I rx ry h
  obtain ⟨l, b, xs, zs, rfl, rfl, h1, h2, hz, q⟩ := h
  cases rx
  cases ry
  obtain ⟨its, r, ⟨o1, n1, e1, k1, _, m1⟩, z1⟩ := I.list h1
  obtain ⟨its2, r2, ⟨o2, n2, e2, k2, _, m2⟩, z2⟩ := I.list h2
  have l1 := r.length
  have l2 := r2.length
  exact add_any ⟨o1, e1, k1, n1, m1⟩ ⟨o2, e2, k2, n2, m2⟩ (by omega) ⟨.ref _, _, I.lnew (t' := s.toks) (r.append r2) (by rw [List.length_append]; omega), rfl, q _ I.fresh⟩
def rAddL (K : PySem.W.Frag) : R2 := fun x y H Q => rAdd K x y H Q ∨ rCatD K x y H Q
theorem op_addL {X : Cx} : OpR X (binaryOp .Add) (rAddL X.K) := OpR.or op_addAll op_catD
def oAddL : SV → SV → Option SV := fun x y => match x, y with
  | .d (.list i), y => (match lstOf y with
    | some j => if i.length + j.length ≤ 100000 then some (.l (i ++ j)) else none
    | none => none)
  | x, y => oAdd x y
theorem kAddL {K : PySem.W.Frag} : OpOk K (rAddL K) oAddL := fun {γ} rs H D vx vy x y z Q s rd hx hy hz q => by
  unfold oAddL at hz
  split at hz
  · rename_i y i
    split at hz
    · rename_i j ej
      by_cases hl : i.length + j.length ≤ 100000
      · rw [if_pos hl] at hz
        cases hz
        obtain ⟨a, us, rfl, k1, k4⟩ := ar_lst s hx (show lstOf (.d (.list i)) = some i from rfl)
        obtain ⟨b, ws, rfl, m1, m4⟩ := ar_lst s hy ej
        have l1 := DpAll.len k4
        have l2 := DpAll.len m4
        exact .inr ⟨a, b, us, ws, rfl, rfl, k1, m1, sz5 (by omega), fun p hp => q _ _ D (LG.new s hp) (vr_new s hp (nf_of hp rd) (DpAll.app k4 m4))⟩
      · rw [if_neg hl] at hz; cases hz
    · cases hz
  · exact .inl (kAdd rs H D vx vy x y z Q s rd hx hy hz q)
/-- == and != of two texts, whatever their signs -/
def oEqS : SV → SV → Option SV := fun x y => match x, y with
  | .d (.str a), .d (.str b) => some (.d (.bool (decide (a = b))))
  | x, y => oEq x y
def oNeS : SV → SV → Option SV := fun x y => match x, y with
  | .d (.str a), .d (.str b) => some (.d (.bool (!decide (a = b))))
  | x, y => oNe x y
def rEqS (K : PySem.W.Frag) : R2 := fun x y H Q => rEqD K x y H Q ∨ L2.rEq x y H Q
def rNeS (K : PySem.W.Frag) : R2 := fun x y H Q => rNeD K x y H Q ∨ L2.rNe x y H Q
theorem op_eqS {X : Cx} (hu : X.A.units + 64 < cLine) : OpR X (compareOp .Eq) (rEqS X.K) := OpR.or (op_eqD hu) op_eq
theorem op_neS {X : Cx} (hu : X.A.units + 64 < cLine) : OpR X (compareOp .NotEq) (rNeS X.K) := OpR.or (op_neD hu) op_ne
theorem dec_str {a b : Str} : decide (V.str a = V.str b) = decide (a = b) := by
  rw [decide_eq_decide]
  exact ⟨fun e => by injection e, fun e => by rw [e]⟩
theorem kEqS {K : PySem.W.Frag} : OpOk K (rEqS K) oEqS := fun {γ} rs H D vx vy x y z Q s rd hx hy hz q => by
  unfold oEqS at hz
  split at hz
  · cases hz
    cases hx
    cases hy
    refine .inr ⟨rfl, ?_⟩
    rw [dec_str]
    exact q _ H D (.refl s) (Dp.bl _)
  · exact .inl (kEq rs H D vx vy x y z Q s rd hx hy hz q)
theorem kNeS {K : PySem.W.Frag} : OpOk K (rNeS K) oNeS := fun {γ} rs H D vx vy x y z Q s rd hx hy hz q => by
  unfold oNeS at hz
  split at hz
  · cases hz
    cases hx
    cases hy
    refine .inr ⟨rfl, ?_⟩
    rw [dec_str]
    exact q _ H D (.refl s) (Dp.bl _)
  · exact .inl (kNe rs H D vx vy x y z Q s rd hx hy hz q)
end Dn

set_option Elab.async false
set_option linter.all false
set_option autoImplicit false
set_option maxRecDepth 100000
set_option maxHeartbeats 1000000
namespace Dn
open PySem PySem.Spec PyProof.Rows L2
/-- plain data of one piece, as a value -/
def flatD : PyData → Option V
  | .none => some .non
  | .bool b => some (.bl b)
  | .int i => some (.int i)
  | .str s => some (.str s)
  | _ => none
def flatAll : List PyData → Option (List V)
  | [] => some []
  | x :: r => (flatD x).bind fun v => (flatAll r).map (v :: ·)
theorem flat_of {K : PySem.W.Frag} {D : Hp} {v v' : V} {x : PyData} (h : Dp K D v x) (e : flatD x = some v') : v = v' ∧ flatV v' = true := by
  cases x with
  | none => cases e; cases h; exact ⟨rfl, rfl⟩
  | bool b => cases e; cases h; exact ⟨rfl, rfl⟩
  | int b => cases e; cases h; exact ⟨rfl, rfl⟩
  | str b => cases e; cases h; exact ⟨rfl, rfl⟩
  | _ => cases e
theorem flats_of {K : PySem.W.Frag} {D : Hp} : ∀ {vs vs' : List V} {xs : List PyData}, DpAll K D vs xs → flatAll xs = some vs' → vs = vs' ∧ vs'.all flatV = true
  | _, _, _, .nil, e => by cases e; exact ⟨rfl, rfl⟩
  | _, vs', _, .cons (d := x) (ds := r) a b, e => by
    unfold flatAll at e
    cases e1 : flatD x with
    | none => rw [e1] at e; cases e
    | some w =>
      rw [e1] at e
      cases e2 : flatAll r with
      | none => rw [e2] at e; cases e
      | some ws =>
        rw [e2] at e
        cases e
        obtain ⟨p1, p2⟩ := flat_of a e1
        obtain ⟨q1, q2⟩ := flats_of b e2
        subst p1
        subst q1
        exact ⟨rfl, by rw [List.all_cons, p2, q2]; rfl⟩
/-- x in xs, x not in xs: of plain pieces -/
def oInB (neg : Bool) : SV → SV → Option SV := fun x y => match x with
  | .d a => (match seqOf y with
    | some xs => (flatD a).bind fun v => (flatAll xs).map fun vs => .d (.bool (if neg then !inV v vs else inV v vs))
    | none => none)
  | _ => none
theorem kInB {K : PySem.W.Frag} (neg : Bool) : OpOk K (rIn K neg) (oInB neg) := fun {γ} rs H D vx vy x y z Q s rd hx hy hz q => by
  unfold oInB at hz
  split at hz
  · rename_i a
    split at hz
    · rename_i xs e
      cases e1 : flatD a with
      | none => rw [e1] at hz; cases hz
      | some v =>
        rw [e1] at hz
        cases e2 : flatAll xs with
        | none => rw [e2] at hz; cases hz
        | some vs =>
          rw [e2] at hz
          cases hz
          obtain ⟨p, us, rfl, k1, k2⟩ := ar_seq s hy e
          obtain ⟨p1, p2⟩ := flat_of (show Dp K D vx a from hx) e1
          obtain ⟨q1, q2⟩ := flats_of k2 e2
          subst p1
          subst q1
          exact ⟨p, us, rfl, k1, p2, q2, q _ H D (.refl s) (Dp.bl _)⟩
    · cases hz
  · cases hz
end Dn

set_option Elab.async false
set_option linter.all false
set_option autoImplicit false
set_option maxRecDepth 100000
set_option maxHeartbeats 1000000
namespace Dn
open PySem PySem.Spec PyProof.Rows L2
section
variable {γ : Type} {X : Cx} {P : Pm γ}
/-- y = [.. for .. if ..] -/
theorem dsetlc1 (i : Nat) {elt tg iter cnd : Expr} {scope : Scope} {own : List (Str × Nat)} {Ι : FnI γ} {gt : TG} {asg : Asg} {ψ τ : Fn γ} {y : Str} {py spos pos : Pos} (hc : X.calm = true) (nd : X.N.Nodup) (hi : DI X P tg iter Ι) (ok : BlkOk X.N X.env.scope scope own)
    (hg : ∀ (s : Shared) (H : Hp) (C : Addr) (cl : List (Str × Addr)) (fp : List Addr), PG (X.blk s H scope (compEnvC scope cl C X.env) fp) tg gt) (ht : TgIs P.nox gt asg) (ho : TgOwn gt (own.map (·.2)))
    (hcn : ∀ (s : Shared) (H : Hp) (C : Addr) (cl : List (Str × Addr)) (fp : List Addr), DT (X.blk s H scope (compEnvC scope cl C X.env) fp) P.nox cnd τ)
    (he : ∀ (s : Shared) (H : Hp) (C : Addr) (cl : List (Str × Addr)) (fp : List Addr), DE (X.blk s H scope (compEnvC scope cl C X.env) fp) P.nox elt ψ) (hy : X.N[i]? = some y := by rfl) (hl : List.lookup y X.env.scope.names = some NameKind.local := by rfl)
    (hs : swapsWith (elt.ListComp [{ target := tg, iter := iter, ifs := [cnd], is_async := 0 }] scope pos) (some (Expr.Name y py)) spos.line X.env = pure true := by rfl) (hfs : ∀ x, foldedSetIterable iter X.env x = pure x := by intro _; rfl) :
    DS X P (.Assign [.Name y py] (.ListComp elt [⟨tg, iter, [cnd], 0⟩] scope pos) spos) (sAsg i (fLc (own.map (·.2)) Ι asg τ ψ)) :=
  dsetlc (own := own) hc nd hy hl hs hi ok hg (fun _ _ _ _ _ => pts_one (hcn _ _ _ _ _)) he hfs fun σ H Q => lc_core ht ho fun σ H Q q => q
end
end Dn

set_option Elab.async false
set_option linter.all false
set_option autoImplicit false
set_option maxRecDepth 100000
set_option maxHeartbeats 4000000
/-! tuples of ints in their order; star displays; tuple(range(n)) -/
namespace Dn
open PySem PySem.Spec PyProof.Rows L2
section
variable {γ : Type} {X : Cx} {P : Pm γ} {σ : L2.St} {H D H1 D1 H2 D2 H' D' : Hp} {ρ : Env} {g g1 g2 : γ} {e a b c : Expr} {φ ψ τ : Fn γ} {Φ Ψ : FnA γ} {t : TE} {pos : Pos} {Q : VK} {K : PySem.W.Frag}
def intsD : List PyData → Option (List Int)
  | [] => some []
  | .int n :: r => (intsD r).map fun ns => n :: ns
  | _ :: _ => none
theorem intsD_map : ∀ ns : List Int, intsD (ns.map PyData.int) = some ns
  | [] => rfl
  | n :: r => by
    show (intsD (r.map PyData.int)).map _ = _
    rw [intsD_map r]; rfl
theorem intsD_eq : ∀ {xs : List PyData} {ns : List Int}, intsD xs = some ns → xs = ns.map PyData.int
  | [], ns, h => by cases h; rfl
  | x :: r, ns, h => by
    cases x with
    | int n =>
      have h : (intsD r).map (fun ns => n :: ns) = some ns := h
      cases q : intsD r with
      | none => rw [q] at h; cases h
      | some ms =>
        rw [q] at h
        cases h
        rw [intsD_eq q]; rfl
    | _ => cases h
/-- a tuple of ints, as it lies -/
theorem tup_ints {rs : Rs γ} (s : Sub D H) {v : V} {xs : List PyData} {ns : List Int} (h : AR K rs H D v (.d (.tuple xs))) (e : intsD xs = some ns) : ∃ a, v = .ref a ∧ SqT K H a (ns.map V.int) := by
  have h : Dp K D v (.tuple xs) := h
  rw [intsD_eq e] at h
  cases h with
  | tup h1 h2 =>
    have z := DpAll.ints h2
    subst z
    exact ⟨_, rfl, Sub.st s h1⟩
def oLtS : SV → SV → Option SV := fun x y => match x, y with
  | .d (.tuple a), .d (.tuple b) => (intsD a).bind fun ns => (intsD b).map fun ms => .d (.bool (HT.lexLt ns ms))
  | x, y => oLt x y
def rLtS (K : PySem.W.Frag) : R2 := fun x y H Q => rLtT K x y H Q ∨ rI0 (fun i j => .bl (decide (i < j))) x y H Q
theorem op_ltS {X : Cx} (hu : X.A.units + 64 < cLine) : OpR X (compareOp .Lt) (rLtS X.K) := OpR.or (op_ltT (by omega)) op_lt
theorem kLtS : OpOk K (rLtS K) oLtS := fun {γ} rs H D vx vy x y z Q s rd hx hy hz q => by
  unfold oLtS at hz
  split at hz
  · rename_i a b
    cases e1 : intsD a with
    | none => rw [e1] at hz; cases hz
    | some ns =>
      cases e2 : intsD b with
      | none => rw [e1, e2] at hz; cases hz
      | some ms =>
        rw [e1, e2] at hz
        cases hz
        obtain ⟨p, rfl, hp⟩ := tup_ints s hx e1
        obtain ⟨r, rfl, hr⟩ := tup_ints s hy e2
        exact .inl ⟨p, r, ns, ms, rfl, rfl, hp, hr, q _ H D (.refl s) (Dp.bl _)⟩
  · exact .inr (kLt rs H D vx vy x y z Q s rd hx hy hz q)
/-! ### star displays -/
theorem ARs.of_dp {rs : Rs γ} : ∀ {vs : List V} {xs : List PyData}, DpAll K D vs xs → ARs K rs H D vs (xs.map SV.d)
  | _, _, .nil => .nil
  | _, _, .cons a t => .cons a (ARs.of_dp t)
theorem ARs.app {rs : Rs γ} : ∀ {vs us : List V} {ys zs : List SV}, ARs K rs H D vs ys → ARs K rs H D us zs → ARs K rs H D (vs ++ us) (ys ++ zs)
  | _, _, _, _, .nil, h => h
  | _, _, _, _, .cons a t, h => .cons a (ARs.app t h)
def aStar (φ : Fn γ) (Φ : FnA γ) : FnA γ := fun ρ g => (φ ρ g).bindA fun y g1 => match seqOf y with
  | some xs => (Φ ρ g1).bindA fun ys g2 => .ok (xs.map SV.d ++ ys) g2
  | none => .stuck
theorem dastar {es : List Expr} {p : Pos} (h : DE X P e φ) (t : DA X P es Φ) (hK : X.K = P.K := by rfl) (hs : starEach (.Starred e p :: es) X.env = (true, eval e X.env) :: starEach es X.env := by rfl) : DA X P (.Starred e p :: es) (aStar φ Φ) :=
  PA.imp (StX.pa_star h t hs) fun σ H Q ⟨D, ρ, g, r, c⟩ => by
    refine tD_bindA r c fun y g1 v H1 D1 _ r1 gr1 vr c1 => ?_
    cases e : seqOf y with
    | none => simp only [e] at c1; exact c1.elim
    | some xs =>
      simp only [e] at c1
      obtain ⟨a, vs, rfl, hs, hd⟩ := ar_seq r1.sub vr.ar e
      refine ⟨a, vs, rfl, by rw [hK]; exact hs.symm, ?_⟩
      refine tDA_bindA r1 c1 fun ys g2 us H2 D2 _ r2 gr2 v2 c2 => ?_
      exact c2 (vs ++ us) H2 D2 r2 .refl (ARs.app (ARs.of_dp (DpAll.up gr2.dk _ _ hd)) v2)
/-! ### tuple(range(n)) -/
def fTupR (φ : Fn γ) : Fn γ := fun ρ g => (φ ρ g).bind fun y g1 => match y with
  | .d (.int n) => if -1000 ≤ n ∧ n ≤ 1000 then .ok (.d (.tuple ((List.range n.toNat).map fun k => .int (k : Nat)))) g1 else .stuck
  | _ => .stuck
theorem dtupR {p1 p2 q : Pos} (h : DE X P a φ) (hm1 : X.mg "tuple" = none) (hm2 : X.mg "range" = none) (hc : X.calm = true) (hK : X.K = P.K := by rfl) (hg1 : Gl X "tuple" := by rfl) (hg2 : Gl X "range" := by rfl)
    (na1 : starEach [a] X.env = (false, eval a X.env) :: starEach [] X.env := by rfl) (na2 : starEach [.Call (.Name "range" p2) [a] [] q] X.env = (false, eval (.Call (.Name "range" p2) [a] [] q) X.env) :: starEach [] X.env := by rfl) :
    DE X P (.Call (.Name "tuple" p1) [.Call (.Name "range" p2) [a] [] q] [] pos) (fTupR φ) :=
  PE.imp (pe_tupRg hc hg1 hm1 (prg_1 hg2 hm2 h na1) na2) fun σ H Q ⟨D, ρ, g, r, c⟩ => by
    refine tD_bind r c fun y g1 v H1 D1 _ r1 gr1 vr c1 => ?_
    cases y with
    | d x =>
      cases x with
      | int n =>
        simp only at c1
        have vr : Dp P.K D1 v (.int n) := vr
        cases vr
        by_cases hn : -1000 ≤ n ∧ n ≤ 1000
        · rw [if_pos hn] at c1
          refine ⟨n, rfl, ⟨by decide, by decide, by omega, by omega, by omega⟩, fun p hp => ?_⟩
          have l := LG.newD (o := .tup (rgV 0 n)) r1.sub hp
          refine c1 _ _ _ (r1.lg l) l.grow (Dp.tup (.inl (.inl upd_same)) ?_)
          have e1 : rgV 0 n = ((List.range n.toNat).map fun k : Nat => V.int (k : Nat)) := by
            unfold rgV
            rw [show (n - 0).toNat = n.toNat by omega]
            exact List.map_congr_left fun k _ => by rw [Int.zero_add]
          rw [e1]
          have key : ∀ ks : List Nat, DpAll P.K (upd D1 p (.tup ((List.range n.toNat).map fun k : Nat => V.int (k : Nat)))) (ks.map fun k : Nat => V.int (k : Nat)) (ks.map fun k : Nat => PyData.int (k : Nat)) := fun ks => by
            induction ks with
            | nil => exact .nil
            | cons k ks ih => exact .cons (.int _) ih
          exact key _
        · rw [if_neg hn] at c1; exact c1.elim
      | _ => exact c1.elim
    | _ => exact c1.elim
end
end Dn

set_option Elab.async false
set_option linter.all false
set_option autoImplicit false
set_option maxRecDepth 100000
set_option maxHeartbeats 4000000
/-! sorted, of tuples of ints of any lengths, and of ints -/
namespace Dn
open PySem PySem.Spec PyProof.Rows L2
/-! ### the order -/
theorem lex_anti : ∀ a b : List Int, HT.lexLt a b = false → HT.lexLt b a = false → a = b
  | [], [], _, _ => rfl
  | [], y :: b, h, _ => by rw [HT.lexLt_nil_cons] at h; cases h
  | x :: a, [], _, h => by rw [HT.lexLt_nil_cons] at h; cases h
  | x :: a, y :: b, h1, h2 => by
    rw [HT.lexLt_cons] at h1 h2
    by_cases e : x = y
    · rw [if_pos e] at h1
      rw [if_pos e.symm] at h2
      rw [e, lex_anti a b h1 h2]
    · rw [if_neg e] at h1
      rw [if_neg (fun z => e z.symm)] at h2
      have := of_decide_eq_false h1
      have := of_decide_eq_false h2
      omega
abbrev LeL (a b : List Int) : Prop := HT.lexLt b a = false
theorem LeL.trans {a b c : List Int} (h1 : LeL a b) (h2 : LeL b c) : LeL a c := NtL.lex_tr a b c h1 h2
def insL (x : List Int) : List (List Int) → List (List Int)
  | [] => [x]
  | y :: r => if HT.lexLt y x = true then y :: insL x r else x :: y :: r
def srtL : List (List Int) → List (List Int)
  | [] => []
  | x :: r => insL x (srtL r)
theorem insL_perm (x : List Int) : ∀ r, (insL x r).Perm (x :: r)
  | [] => .refl _
  | y :: r => by
    unfold insL
    by_cases h : HT.lexLt y x = true
    · rw [if_pos h]
      exact ((insL_perm x r).cons y).trans (.swap x y r)
    · rw [if_neg h]
theorem srtL_perm : ∀ l, (srtL l).Perm l
  | [] => .refl _
  | x :: r => (insL_perm x (srtL r)).trans ((srtL_perm r).cons x)
theorem insL_sorted (x : List Int) : ∀ r, r.Pairwise LeL → (insL x r).Pairwise LeL
  | [], _ => List.pairwise_singleton _ _
  | y :: r, h => by
    unfold insL
    obtain ⟨h1, h2⟩ := List.pairwise_cons.mp h
    by_cases c : HT.lexLt y x = true
    · rw [if_pos c]
      refine List.pairwise_cons.mpr ⟨fun z hz => ?_, insL_sorted x r h2⟩
      rcases List.mem_cons.mp ((insL_perm x r).mem_iff.mp hz) with e | hz
      · rw [e]; exact NtL.lex_asym _ _ c
      · exact h1 z hz
    · rw [if_neg c]
      have c : LeL x y := eq_false_of_ne_true c
      refine List.pairwise_cons.mpr ⟨fun z hz => ?_, h⟩
      rcases List.mem_cons.mp hz with e | hz
      · rw [e]; exact c
      · exact c.trans (h1 z hz)
theorem srtL_sorted : ∀ l, (srtL l).Pairwise LeL
  | [] => .nil
  | x :: r => insL_sorted x _ (srtL_sorted r)
theorem sorted_uniq : ∀ {l m : List (List Int)}, l.Pairwise LeL → m.Pairwise LeL → l.Perm m → l = m
  | [], m, _, _, p => (List.Perm.eq_nil p.symm).symm
  | x :: l, [], _, _, p => absurd p.length_eq (by simp)
  | x :: l, y :: m, h1, h2, p => by
    obtain ⟨a1, a2⟩ := List.pairwise_cons.mp h1
    obtain ⟨b1, b2⟩ := List.pairwise_cons.mp h2
    have e : x = y := by
      rcases List.mem_cons.mp (p.mem_iff.mp List.mem_cons_self) with e | hx
      · exact e
      · rcases List.mem_cons.mp (p.mem_iff.mpr (List.mem_cons_self (a := y) (l := m))) with e | hy
        · exact e.symm
        · exact lex_anti _ _ (b1 x hx) (a1 y hy)
    subst e
    rw [sorted_uniq a2 b2 p.cons_inv]
/-! ### what sort asks of two tuples -/
section
variable {prog : Program} {w : World} {A : Around} {E : Value → Shared → Prop} {s : Shared}
theorem lt_gen {v u : Value} {ns ms : List Int} {Q : Bool → Shared → Prop} (hu : A.units < cLine) (hv : TS.TupInts s.heap v ns) (hw : TS.TupInts s.heap u ms) (h : Q (HT.lexLt ns ms) s) : wpAny (model prog w) A (keyLt' general' v u) Q E s := by
  obtain ⟨a, xs, rfl, h1, i1⟩ := hv
  obtain ⟨b, ys, rfl, h2, i2⟩ := hw
  show wpAny (model prog w) A (oneLt' false (.ref a) (.ref b)) Q E s
  exact PySem.W.kat_one _ _ (HT.lt_tupInts h1 h2 i1 i2 hu h)
theorem lt_one {v u : Value} {ns ms : List Int} {Q : Bool → Shared → Prop} (hu : A.units < cLine) (hv : TS.TupInts s.heap v ns) (hw : TS.TupInts s.heap u ms) (h : Q (HT.lexLt ns ms) s) : wpAny (model prog w) A (keyLt' oneType' v u) Q E s := by
  obtain ⟨a, xs, rfl, ⟨⟨cls, dd, data, sl⟩, ho, hc, n, hd⟩, i1⟩ := hv
  obtain ⟨b, ys, rfl, ⟨⟨cls2, dd2, data2, sl2⟩, ho2, hc2, n2, hd2⟩, i2⟩ := hw
  simp only at hc hd hc2 hd2
  subst hc hd hc2 hd2
  rw [keyLt'_oneType, oneLt'_eq]
  simp only [if_true]
  refine wpAny_bind (wpAny_cRoomFor hu ?_)
  refine wpAny_bind (wpAny_callSpecialIfBound?_slot (T := "tuple") ⟨_, ho, rfl⟩ PySem.F.slot_tuple_lt (call_meets PySem.F.slot_tuple_lt ⟨_, ho, rfl⟩ PySem.F.entry_tuple_lt (PySem.F.args_tuple_lt_2 _ _) (HT.tuple_lt_ints a b xs ys n n2 dd dd2 sl sl2 ns ms i1 i2) ⟨ho, ho2, ?_⟩))
  exact wpAny_truthy_bool h
def lexF (fin : Bool) : List Int → List Int → Bool
  | x :: xs, y :: ys => if x = y then lexF fin xs ys else decide (x < y)
  | _, _ => fin
theorem lexF_eq : ∀ (ns ms : List Int), lexF (decide (ns.length < ms.length)) ns ms = HT.lexLt ns ms
  | [], [] => rfl
  | [], _ :: _ => by rw [HT.lexLt_nil_cons]; exact decide_eq_true (Nat.succ_pos _)
  | _ :: _, [] => by rw [HT.lexLt_cons_nil]; exact decide_eq_false (Nat.not_lt_zero _)
  | x :: xs, y :: ys => by
    rw [HT.lexLt_cons]
    show (if x = y then lexF (decide (xs.length + 1 < ys.length + 1)) xs ys else decide (x < y)) = _
    rw [show decide (xs.length + 1 < ys.length + 1) = decide (xs.length < ys.length) from decide_eq_decide.mpr (by omega), lexF_eq xs ys]
theorem lex_run {fin : Bool} {Q : Bool → Shared → Prop} : ∀ (vs us : List Value) (ns ms : List Int) (i : Nat), IntsAre vs ns → IntsAre us ms → Q (lexF fin ns ms) s → PySem.W.KatLex prog w A true fin Q (vs.zip us) i s
  | _, _, _, _, i, .nil, .nil, h => h
  | _, _, _, _, i, .nil, .cons _ _ _, h => h
  | _, _, _, _, i, .cons _ _ _, .nil, h => h
  | _, _, _, _, i, .cons x t p, .cons y u r, h => by
    refine PySem.W.kat_cons (SeqAt.EqAt.int_int x t y u prog w _ _ ?_)
    refine PySem.W.kat_go (fun e1 => ?_) (fun e1 => ?_)
    · have ex : x = y := by simpa using e1
      refine PySem.W.kat_yes (lex_run _ _ _ _ (i + 1) p r ?_)
      have h : Q (if x = y then lexF fin _ _ else decide (x < y)) s := h
      rw [if_pos ex] at h
      exact h
    · have ex : ¬ x = y := by simpa using e1
      have h : Q (if x = y then lexF fin _ _ else decide (x < y)) s := h
      rw [if_neg ex] at h
      refine PySem.W.kat_no ?_
      cases (true && i == 0) with
      | true => exact oneLt_int h
      | false => exact PySem.W.kat_one _ _ (PyProof.Rows.lt_int h)
theorem lt_tups {v u : Value} {ns ms : List Int} {Q : Bool → Shared → Prop} (hv : TS.TupInts s.heap v ns) (hw : TS.TupInts s.heap u ms) (h : Q (HT.lexLt ns ms) s) : wpAny (model prog w) A (keyLt' (tuples' true) v u) Q E s := by
  obtain ⟨a, xs, rfl, ⟨o, ho, hc, n, hd⟩, i1⟩ := hv
  obtain ⟨b, ys, rfl, ⟨o2, ho2, hc2, n2, hd2⟩, i2⟩ := hw
  refine PySem.W.kat_lt ho hd ho2 hd2 ?_
  refine lex_run _ _ ns ms 0 i1 i2 ?_
  have e1 : xs.size = ns.length := by rw [← i1.length]; simp
  have e2 : ys.size = ms.length := by rw [← i2.length]; simp
  rw [e1, e2, lexF_eq]
  exact h
/-- the first items that keyKind reads -/
theorem firsts_tups {M : Model} : ∀ (vs : List Value) (k : Value → List Int), (∀ v ∈ vs, TS.TupInts s.heap v (k v)) → ∀ {Q : List (Option Value) → Shared → Prop},
    (∀ fs : List (Option Value), fs.map Option.isSome = vs.map (fun v => !(k v).isEmpty) → Q fs s) → wpAny M A (vs.mapM firstOfTuple') Q E s
  | [], k, _, Q, h => by
    rw [List.mapM_nil]
    exact wpAny_pure (h [] rfl)
  | v :: vs, k, hv, Q, h => by
    rw [List.mapM_cons]
    refine wpAny_bind ?_
    obtain ⟨a, xs, e, ⟨o, ho, hc, n, hd⟩, i1⟩ := hv v List.mem_cons_self
    rw [PySem.W.kas_first_eq, e]
    refine wpAny_bind (PySem.W.Looks.here ((PySem.W.Looks.ld ho).andThen .now) ?_)
    rw [hc, if_neg (by first | decide | simp)]
    refine wpAny_bind (listItems_at ho hd (wpAny_pure ?_))
    refine wpAny_bind (firsts_tups vs k (fun u hu => hv u (List.mem_cons_of_mem _ hu)) fun fs hf => wpAny_pure (h _ ?_))
    rw [List.map_cons, List.map_cons, hf]
    congr 1
    have : xs[0]? = xs.toList[0]? := by rw [Array.getElem?_toList]
    rw [this]
    generalize xs.toList = ys at i1
    generalize k v = ns at i1
    cases i1 <;> rfl
/-- the kind that keyKind finds, and its comparison -/
theorem kind_tups {vs : List Value} {k : Value → List Int} (h0 : 0 < vs.length) (hu : A.units < cLine) (hv : ∀ v ∈ vs, TS.TupInts s.heap v (k v)) : ∃ κ,
    (∀ (Q : SortKind → Shared → Prop) (E : Value → Shared → Prop), Q κ s → wpAny (model prog w) A (keyKind' vs.toArray) Q E s) ∧
    SrtO.Cmp prog w A s κ (fun p => p.1 ∈ vs) (SrtO.lt2 fun v u => HT.lexLt (k v) (k u)) := by
  by_cases all : ∀ v ∈ vs, k v ≠ []
  · obtain ⟨fs, h1, h2, h3⟩ : ∃ fs, PySem.W.KatTups s.heap vs fs ∧ fs.length = vs.length ∧ ∀ f ∈ fs, ∃ x t, f = Value.int x t := by
      have key : ∀ us : List Value, (∀ v ∈ us, TS.TupInts s.heap v (k v)) → (∀ v ∈ us, k v ≠ []) → ∃ fs, PySem.W.KatTups s.heap us fs ∧ fs.length = us.length ∧ ∀ f ∈ fs, ∃ x t, f = Value.int x t := fun us => by
        induction us with
        | nil => intro _ _; exact ⟨[], trivial, rfl, fun f hf => nomatch hf⟩
        | cons v us ih =>
          intro g1 g2
          obtain ⟨fs, p1, p2, p3⟩ := ih (fun u hu => g1 u (List.mem_cons_of_mem _ hu)) fun u hu => g2 u (List.mem_cons_of_mem _ hu)
          obtain ⟨a, xs, rfl, ⟨o, ho, hc, n, hd⟩, i1⟩ := g1 v List.mem_cons_self
          have ne := g2 _ List.mem_cons_self
          have : xs[0]? = xs.toList[0]? := by rw [Array.getElem?_toList]
          obtain ⟨x, t, e⟩ : ∃ x t, xs[0]? = some (Value.int x t) := by
            rw [this]
            generalize xs.toList = ys at i1
            generalize k (.ref a) = ns at i1 ne
            cases i1 with
            | nil => exact absurd rfl ne
            | cons n t r => exact ⟨n, t, rfl⟩
          refine ⟨.int x t :: fs, PySem.W.KatTups.cons ho hc hd e p1, by rw [List.length_cons, List.length_cons, p2], fun f hf => ?_⟩
          rcases List.mem_cons.mp hf with z | z
          · exact ⟨x, t, z⟩
          · exact p3 f z
      exact key vs hv all
    refine ⟨tuples' true, fun Q E hq => ?_, fun p q hp hq => lt_tups (Q := fun r s' => s' = s ∧ r = HT.lexLt (k p.1) (k q.1)) (E := fun _ _ => False) (hv _ hp) (hv _ hq) ⟨rfl, rfl⟩⟩
    refine PySem.W.kat_kind (T := .type "int") h1 (by omega) (fun f hm => ?_) (by rfl) ?_
    · obtain ⟨x, t, rfl⟩ := h3 f hm
      exact PySem.W.Looks.now
    · have e : (Value.type "int" != Value.type "tuple") = true := by first | decide +kernel | rfl | decide
      rw [e]
      exact hq
  · have fall : ∀ fs : List (Option Value), fs.map Option.isSome = vs.map (fun v => !(k v).isEmpty) → ¬ (fs.toArray.all (·.isSome)) = true := fun fs hf h => all fun v hm e => by
      rw [List.all_toArray] at h
      have h2 : (fs.map Option.isSome).all id = true := by rw [List.all_map]; exact h
      rw [hf, List.all_map, List.all_eq_true] at h2
      have z := h2 v hm
      simp [show k v = [] from e] at z
    by_cases first : ∃ v r, vs = v :: r ∧ k v ≠ []
    · obtain ⟨v, r, ev, nv⟩ := first
      refine ⟨general', fun Q E hq => ?_, fun p q hp hq => lt_gen (Q := fun r s' => s' = s ∧ r = HT.lexLt (k p.1) (k q.1)) (E := fun _ _ => False) hu (hv _ hp) (hv _ hq) ⟨rfl, rfl⟩⟩
      rw [keyKind'_eq, List.mapM_toArray, map_eq_pure_bind]
      refine wpAny_bind (wpAny_bind (firsts_tups vs k hv fun fs hf => wpAny_pure ?_))
      rw [if_neg (fall fs hf)]
      have e0 : (fs.toArray[0]?.bind id).isSome = true := by
        rw [ev, List.map_cons] at hf
        cases fs with
        | nil => cases hf
        | cons f fs =>
          rw [List.map_cons] at hf
          have e1 : f.isSome = !(k v).isEmpty := (List.cons.inj hf).1
          have e2 : (!(k v).isEmpty) = true := by
            cases q : k v with
            | nil => exact absurd q nv
            | cons _ _ => rfl
          rw [e2] at e1
          simpa using e1
      rw [if_pos e0]
      exact wpAny_pure hq
    · refine ⟨oneType', fun Q E hq => ?_, fun p q hp hq => lt_one (Q := fun r s' => s' = s ∧ r = HT.lexLt (k p.1) (k q.1)) (E := fun _ _ => False) hu (hv _ hp) (hv _ hq) ⟨rfl, rfl⟩⟩
      rw [keyKind'_eq, List.mapM_toArray, map_eq_pure_bind]
      refine wpAny_bind (wpAny_bind (firsts_tups vs k hv fun fs hf => wpAny_pure ?_))
      rw [if_neg (fall fs hf)]
      have e0 : ¬ (fs.toArray[0]?.bind id).isSome = true := by
        cases vs with
        | nil => exact absurd h0 (by simp)
        | cons v r =>
          rw [List.map_cons] at hf
          cases fs with
          | nil => cases hf
          | cons f fs =>
            rw [List.map_cons] at hf
            have e1 : f.isSome = !(k v).isEmpty := (List.cons.inj hf).1
            have e2 : (!(k v).isEmpty) = false := by
              cases q : k v with
              | nil => rfl
              | cons _ _ => exact absurd ⟨v, r, rfl, by rw [q]; exact fun z => nomatch z⟩ first
            rw [e2] at e1
            cases f with
            | none => simp
            | some _ => cases e1
      rw [if_neg e0, oneTypeOnly'_eq, List.mapM_toArray, map_eq_pure_bind]
      have ty : ∀ v ∈ vs, ∀ Q' : Value → Shared → Prop, Q' (.type "tuple") s → wpAny (model prog w) A (typeOf v) Q' E s := fun v hm Q' q' => by
        obtain ⟨a, xs, rfl, ⟨o, ho, hc, n, hd⟩, i1⟩ := hv v hm
        refine PySem.W.Looks.here ((PySem.W.Looks.ld ho).andThen .now) ?_
        rw [hc]; exact q'
      refine wpAny_bind (wpAny_bind (wpAny_bind (PySem.W.kas_mapM (r := Value.type "tuple") vs ty (wpAny_pure ?_))))
      have hall : ((List.map (fun _ => Value.type "tuple") vs).toArray.all fun x => x == Value.type "tuple") = true := by
        simp only [List.all_toArray, List.all_map, List.all_eq_true]
        intro _ _
        rfl
      have hfirst : (List.map (fun _ => Value.type "tuple") vs).toArray[0]? = some (Value.type "tuple") := by
        cases vs with
        | nil => exact absurd h0 (by simp)
        | cons v r => simp
      rw [hfirst]
      simp only [hall, if_true]
      exact wpAny_pure (wpAny_pure hq)
theorem tups_sortable {a : Addr} {vs : List Value} {k : Value → List Int} (h0 : 0 < vs.length) (hu : A.units < cLine) (hv : ∀ v ∈ vs, TS.TupInts s.heap v (k v)) (ha : ∀ o, s.heap.get? a = some o → o.cls ≠ .type "tuple") :
    SrtO.SortableO prog w A s a vs fun v u => HT.lexLt (k v) (k u) := fun h' keep =>
  kind_tups (s := { s with heap := h' }) h0 hu fun v hm => (hv v hm).keeps fun b o e c => keep b o (fun z => by subst z; exact ha o e c) e
theorem sorted_tupsL {l : Addr} {vs : List Value} {k : Value → List Int} {Q : Value → Shared → Prop} (hl : s.heap.IsList l vs.toArray) (hz : vs.length ≤ sizeLine) (hu : A.in1.in1.units < cLine) (hv : ∀ v ∈ vs, TS.TupInts s.heap v (k v))
    (h : ∀ (h' : Heap) (d : Addr) (out : List Value), SrtO.Srtd (fun v u => HT.lexLt (k v) (k u)) out → out.Perm vs → (∀ b o, s.heap.get? b = some o → h'.get? b = some o) → s.heap.objs.size ≤ d → (∃ n, h'.get? d = some (seqObj "list" out.toArray n)) → Q (.ref d) { s with heap := h' }) :
    wpAny (model prog w) A (call (.builtin "sorted") [.ref l]) Q E s := by
  refine SrtO.sorted_ord (NtL.swo_lexL k) hl hz (fun h2 h₁ a ha kk => ?_) fun out hs hb => ?_
  · refine tups_sortable (s := { s with heap := h₁ }) (by omega) hu (fun v hm => (hv v hm).keeps fun b o e _ => (kk b o e).2) fun o e => ?_
    have e' : some o = some (seqObj "list" vs.toArray 0) := e.symm.trans ha
    cases e'
    intro c
    exact absurd (Value.type.inj c) (by decide)
  · exact h _ _ out hs hb.perm (fun b o e => sortedAll_old e) (Nat.le_succ _) (sortedAll_at s.heap vs out.toArray)
end
/-! ### as a rule -/
def rSortT (K : PySem.W.Frag) : List V → Hp → VK → Prop := fun vs H Q => ∃ (a : Addr) (xs : List V), vs = [V.ref a] ∧ SqL K H a xs ∧ (∀ x ∈ xs, ∃ ns, TupI K H x ns) ∧
  ∀ (ys : List V) (p : Addr), ys.Perm xs → ys.Pairwise (fun x y => ∀ n m, TupI K H x n → TupI K H y m → LeL n m) → H p = none → Q (.ref p) (upd H p (.lst ys))
theorem cr_sortT' {X : Cx} (hu : X.A.units + 64 < cLine) : CallR X (.builtin "sorted") (rSortT X.K) := by
  intro pins s σ H vs us Q I r h
  obtain ⟨a, xs, rfl, hs, hx, q⟩ := h
  obtain ⟨its, rv, hl, hz⟩ := I.list hs
  rw [Vals.ref1 r]
  obtain ⟨e1, e2⟩ := bkV_refs rv fun x m => by
    obtain ⟨ns, t, e, _⟩ := hx x m
    exact ⟨t, e⟩
  refine sorted_tupsL (k := TS.intsOf s.heap) hl.isList (by rw [← rv.length]; exact hz) (by show X.A.units + _ + _ < cLine; omega) (fun v hv => ?_) fun h' d out h1 h2 kp hd hn => ?_
  · obtain ⟨t, rfl⟩ := e2 v hv
    have hm : V.ref t ∈ xs := by
      rw [e1]
      exact List.mem_map.mpr ⟨_, hv, rfl⟩
    obtain ⟨ns, t', e, ht⟩ := hx _ hm
    cases e
    have z := tupI_raw I ht
    rw [z.ints]
    exact z
  · have h3 : ∀ u ∈ out, ∃ a, u = Value.ref a := fun u hu => e2 u (h2.mem_iff.mp hu)
    obtain ⟨n, hn⟩ := hn
    have hp : (out.map bkV).Perm xs := by
      rw [e1]
      exact h2.map bkV
    refine ⟨.ref d, upd H d (.lst (out.map bkV)), I.laid (t' := s.toks) kp hd ⟨by rw [hp.length_eq]; exact hz, out, n, bkV_vals h3, hn⟩, rfl, q _ d hp ?_ (I.hok.fresh hd)⟩
    rw [List.pairwise_map]
    refine List.Pairwise.imp (fun {u v} huv n m hn hm => ?_) h1
    obtain ⟨t, et, ht⟩ := hn
    obtain ⟨t', et', ht'⟩ := hm
    have i1 : TS.intsOf s.heap u = n := by
      rw [bkV_ref et]
      exact (tupI_raw I ht).ints
    have i2 : TS.intsOf s.heap v = m := by
      rw [bkV_ref et']
      exact (tupI_raw I ht').ints
    show HT.lexLt m n = false
    rw [← i1, ← i2]
    exact huv
section
variable {γ : Type} {X : Cx} {P : Pm γ} {σ : L2.St} {H D H1 D1 H2 D2 H' D' : Hp} {ρ : Env} {g g1 g2 : γ} {e a b c : Expr} {φ ψ τ : Fn γ} {Φ Ψ : FnA γ} {t : TE} {pos : Pos} {Q : VK} {K : PySem.W.Frag}
abbrev tupD (ns : List Int) : PyData := .tuple (ns.map PyData.int)
def tupsD : List PyData → Option (List (List Int))
  | [] => some []
  | .tuple xs :: r => (intsD xs).bind fun ns => (tupsD r).map fun nss => ns :: nss
  | _ :: _ => none
theorem tupsD_map : ∀ nss : List (List Int), tupsD (nss.map tupD) = some nss
  | [] => rfl
  | ns :: r => by
    show (intsD (ns.map PyData.int)).bind _ = _
    rw [intsD_map, tupsD_map r]
    rfl
theorem tupsD_eq : ∀ {xs : List PyData} {nss : List (List Int)}, tupsD xs = some nss → xs = nss.map tupD
  | [], nss, h => by cases h; rfl
  | x :: r, nss, h => by
    cases x with
    | tuple xs =>
      have h : (intsD xs).bind (fun ns => (tupsD r).map fun nss => ns :: nss) = some nss := h
      cases q : intsD xs with
      | none => rw [q] at h; cases h
      | some ns =>
        cases q2 : tupsD r with
        | none => rw [q, q2] at h; cases h
        | some ms =>
          rw [q, q2] at h
          cases h
          rw [intsD_eq q, tupsD_eq q2]; rfl
    | _ => cases h
theorem DpAll.perm : ∀ {vs us : List V}, us.Perm vs → ∀ {ds : List PyData}, DpAll K D vs ds → ∃ es, es.Perm ds ∧ DpAll K D us es := by
  intro vs us p
  induction p with
  | nil => intro ds h; cases h; exact ⟨[], .refl _, .nil⟩
  | cons x p ih =>
    intro ds h
    cases h with
    | cons a t =>
      obtain ⟨es, h1, h2⟩ := ih t
      exact ⟨_ :: es, h1.cons _, .cons a h2⟩
  | swap x y l =>
    intro ds h
    cases h with
    | cons a t =>
      cases t with
      | cons b t => exact ⟨_ :: _ :: _, .swap _ _ _, .cons b (.cons a t)⟩
  | trans p1 p2 ih1 ih2 =>
    intro ds h
    obtain ⟨es, h1, h2⟩ := ih2 h
    obtain ⟨fs, h3, h4⟩ := ih1 h2
    exact ⟨fs, h3.trans h1, h4⟩
theorem dp_tupI (s : Sub D H) {v : V} {ns : List Int} (h : Dp K D v (tupD ns)) : TupI K H v ns := by
  cases h with
  | tup h1 h2 =>
    have z := DpAll.ints h2
    subst z
    exact ⟨_, rfl, Sub.st s h1⟩
theorem dps_tupI (s : Sub D H) : ∀ {vs : List V} {nss : List (List Int)}, DpAll K D vs (nss.map tupD) → ∀ x ∈ vs, ∃ ns, TupI K H x ns
  | _, [], h, x, hx => by cases h; cases hx
  | _, ns :: r, h, x, hx => by
    cases h with
    | cons a t =>
      rcases List.mem_cons.mp hx with e | hx
      · rw [e]; exact ⟨ns, dp_tupI s a⟩
      · exact dps_tupI s t x hx
theorem dps_sorted (s : Sub D H) : ∀ {vs : List V} {nss : List (List Int)}, DpAll K D vs (nss.map tupD) → vs.Pairwise (fun x y => ∀ n m, TupI K H x n → TupI K H y m → LeL n m) → nss.Pairwise LeL
  | _, [], _, _ => .nil
  | _, ns :: r, h, p => by
    cases h with
    | cons a t =>
      obtain ⟨p1, p2⟩ := List.pairwise_cons.mp p
      refine List.pairwise_cons.mpr ⟨fun m hm => ?_, dps_sorted s t p2⟩
      obtain ⟨i, hi⟩ := List.getElem?_of_mem hm
      obtain ⟨v, e, hv⟩ := DpAll.get (i := i) (d := tupD m) t (by rw [List.getElem?_map, hi]; rfl)
      exact p1 v (List.mem_of_getElem? e) ns m (dp_tupI s a) (dp_tupI s hv)
/-- a permutation of tuples' data is tuples' data -/
theorem perm_tups {ds : List PyData} {nss : List (List Int)} (p : ds.Perm (nss.map tupD)) : ∃ mss : List (List Int), ds = mss.map tupD ∧ mss.Perm nss := by
  have inj : ∀ a b : List Int, tupD a = tupD b → a = b := fun a b e => by
    injection e with e
    have := congrArg intsD e
    rw [intsD_map, intsD_map] at this
    exact Option.some.inj this
  obtain ⟨mss, e⟩ : ∃ mss : List (List Int), ds = mss.map tupD := by
    have all : ∀ d ∈ ds, ∃ ns, d = tupD ns := fun d hd => by
      obtain ⟨ns, _, e⟩ := List.mem_map.mp (p.mem_iff.mp hd)
      exact ⟨ns, e.symm⟩
    clear p
    induction ds with
    | nil => exact ⟨[], rfl⟩
    | cons d ds ih =>
      obtain ⟨ns, e⟩ := all d List.mem_cons_self
      obtain ⟨mss, e2⟩ := ih fun x hx => all x (List.mem_cons_of_mem _ hx)
      exact ⟨ns :: mss, by rw [e, e2]; rfl⟩
  subst e
  refine ⟨mss, rfl, ?_⟩
  have back : ∀ l : List (List Int), (l.map tupD).map (fun d => match d with | .tuple xs => (intsD xs).getD [] | _ => []) = l := fun l => by
    rw [List.map_map]
    refine (List.map_congr_left fun ns _ => ?_).trans (List.map_id l)
    show (intsD (ns.map PyData.int)).getD [] = ns
    rw [intsD_map]; rfl
  have q := p.map (fun d => match d with | .tuple xs => (intsD xs).getD [] | _ => [])
  rw [back, back] at q
  exact q
/-! ints -/
def insI (x : Int) : List Int → List Int
  | [] => [x]
  | y :: r => if y < x then y :: insI x r else x :: y :: r
def srtI : List Int → List Int
  | [] => []
  | x :: r => insI x (srtI r)
theorem insI_perm (x : Int) : ∀ r, (insI x r).Perm (x :: r)
  | [] => .refl _
  | y :: r => by
    unfold insI
    by_cases h : y < x
    · rw [if_pos h]
      exact ((insI_perm x r).cons y).trans (.swap x y r)
    · rw [if_neg h]
theorem srtI_perm : ∀ l, (srtI l).Perm l
  | [] => .refl _
  | x :: r => (insI_perm x (srtI r)).trans ((srtI_perm r).cons x)
theorem insI_sorted (x : Int) : ∀ r, r.Pairwise (· ≤ ·) → (insI x r).Pairwise (· ≤ ·)
  | [], _ => List.pairwise_singleton _ _
  | y :: r, h => by
    unfold insI
    obtain ⟨h1, h2⟩ := List.pairwise_cons.mp h
    by_cases c : y < x
    · rw [if_pos c]
      refine List.pairwise_cons.mpr ⟨fun z hz => ?_, insI_sorted x r h2⟩
      rcases List.mem_cons.mp ((insI_perm x r).mem_iff.mp hz) with e | hz
      · rw [e]; omega
      · exact h1 z hz
    · rw [if_neg c]
      refine List.pairwise_cons.mpr ⟨fun z hz => ?_, h⟩
      rcases List.mem_cons.mp hz with e | hz
      · rw [e]; omega
      · have := h1 z hz
        omega
theorem srtI_sorted : ∀ l, (srtI l).Pairwise (· ≤ ·)
  | [] => .nil
  | x :: r => insI_sorted x _ (srtI_sorted r)
theorem sortedI_uniq : ∀ {l m : List Int}, l.Pairwise (· ≤ ·) → m.Pairwise (· ≤ ·) → l.Perm m → l = m
  | [], m, _, _, p => (List.Perm.eq_nil p.symm).symm
  | x :: l, [], _, _, p => absurd p.length_eq (by simp)
  | x :: l, y :: m, h1, h2, p => by
    obtain ⟨a1, a2⟩ := List.pairwise_cons.mp h1
    obtain ⟨b1, b2⟩ := List.pairwise_cons.mp h2
    have e : x = y := by
      rcases List.mem_cons.mp (p.mem_iff.mp List.mem_cons_self) with e | hx
      · exact e
      · rcases List.mem_cons.mp (p.mem_iff.mpr (List.mem_cons_self (a := y) (l := m))) with e | hy
        · exact e.symm
        · have := b1 x hx
          have := a1 y hy
          omega
    subst e
    rw [sortedI_uniq a2 b2 p.cons_inv]
def bSorted : List SV → Option SV := C1 fun y => (lstOf y).bind fun xs => match tupsD xs with
  | some nss => some (.l ((srtL nss).map tupD))
  | none => (intsD xs).map fun ns => .l ((srtI ns).map PyData.int)
def rSortA (K : PySem.W.Frag) : List V → Hp → VK → Prop := fun vs H Q => rSortT K vs H Q ∨ rSortedI K vs H Q
theorem cr_sortA {X : Cx} (hu : X.A.units + 64 < cLine) : CallR X (.builtin "sorted") (rSortA X.K) := by
  intro pins s σ H vs us Q I r h
  rcases h with h | h
  · exact cr_sortT' hu pins s σ H vs us Q I r h
  · exact cr_sortedI pins s σ H vs us Q I r h
theorem kSorted : CrOk K (rSortA K) bSorted := ok_C1 fun rs H D v y z Q s rd h hz q => by
  cases e : lstOf y with
  | none => rw [e] at hz; cases hz
  | some xs =>
    rw [e] at hz
    have hz : (match tupsD xs with | some nss => some (SV.l ((srtL nss).map tupD)) | none => (intsD xs).map fun ns => .l ((srtI ns).map PyData.int)) = some z := hz
    obtain ⟨a, vs, rfl, h1, h2⟩ := ar_lst s h e
    cases e2 : tupsD xs with
    | some nss =>
      rw [e2] at hz
      cases hz
      rw [tupsD_eq e2] at h2
      refine .inl ⟨a, vs, rfl, h1, dps_tupI s h2, fun ys p py ps hp => ?_⟩
      obtain ⟨es, p1, p2⟩ := DpAll.perm py h2
      obtain ⟨mss, rfl, pm⟩ := perm_tups p1
      have em : mss = srtL nss := sorted_uniq (dps_sorted s p2 ps) (srtL_sorted _) (pm.trans (srtL_perm _).symm)
      subst em
      have dn : D p = none := by
        cases k : D p with
        | none => rfl
        | some o => rw [s p o k] at hp; cases hp
      exact q _ _ D (LG.new s hp) ⟨⟨p, ys, rfl, upd_same, dn, nf_of hp rd, p2⟩, fun a ea => by cases ea; exact hp⟩
    | none =>
      rw [e2] at hz
      cases e3 : intsD xs with
      | none => rw [e3] at hz; cases hz
      | some ns =>
        rw [e3] at hz
        cases hz
        rw [intsD_eq e3] at h2
        have ez := DpAll.ints h2
        subst ez
        refine .inr ⟨a, ns, rfl, h1, fun ns' p pn ps hp => ?_⟩
        have em : ns' = srtI ns := sortedI_uniq ps (srtI_sorted _) (pn.trans (srtI_perm _).symm)
        subst em
        have dn : D p = none := by
          cases k : D p with
          | none => rfl
          | some o => rw [s p o k] at hp; cases hp
        exact q _ _ D (LG.new s hp) ⟨⟨p, _, rfl, upd_same, dn, nf_of hp rd, DpAll.of_ints _⟩, fun a ea => by cases ea; exact hp⟩
end
end Dn

set_option Elab.async false
set_option linter.all false
set_option autoImplicit false
set_option maxRecDepth 100000
set_option maxHeartbeats 4000000
/-! sorted(set(xs)), xs a list or a tuple of at most 64 tuples of ints -/
namespace Dn
open PySem PySem.Spec PyProof.Rows L2
abbrev AL := Addr × List Int
section
variable {P : Program} {w : World} {A : Around} {E : Value → Shared → Prop} {s : Shared}
abbrev emS (w : World) : Obj := { cls := .type "set", dict := none, data := .set #[] 0 (.fresh 0 0 (!w.params.followText "set-order")) }
/-- a set of at most 64 tuples; its tuples stand elsewhere -/
structure Sb (P : Program) (w : World) (h : Heap) (a : Addr) (L : List AL) (es : Array (Int × Value)) (ep : Nat) (t : SetTable) : Prop where
  at_ : ∃ o, h.get? a = some o ∧ o.ExactSet ∧ o.data = .set es ep t
  rws : es.toList = rowsOf P w L
  ok : TabOk t (L.map fun q => thash P w q.2)
  one : (L.map (·.2)).Nodup
  pl : t.plain = true
  led : w.params.followText "set-order" = true ∨ t.led = true
  space : L.length * 5 < t.mask * 3
  most : L.length ≤ 64
variable {a : Addr} {L : List AL} {es : Array (Int × Value)} {ep : Nat} {t : SetTable}
theorem Sb.tr {h : Heap} (b : Sb P w h a L es ep t) (few : L.length < 64) (tup : ∀ q ∈ L, IsT P w h q.2 q.1) : SetTR P w h a L es ep t := ⟨b.at_, b.rws, b.ok, b.one, tup, b.pl, b.led, b.space, few⟩
theorem Sb.of {h : Heap} (r : SetTR P w h a L es ep t) : Sb P w h a L es ep t := ⟨r.ob, r.rows, r.tab, r.nd, r.plain, r.led, r.room, Nat.le_of_lt r.few⟩
theorem Sb.up {h h' : Heap} (b : Sb P w h a L es ep t) (k : ∀ o, h.get? a = some o → h'.get? a = some o) : Sb P w h' a L es ep t := by
  obtain ⟨o, ho, r⟩ := b.at_
  exact ⟨⟨o, k o ho, r⟩, b.rws, b.ok, b.one, b.pl, b.led, b.space, b.most⟩
theorem Sb.sz {h : Heap} (b : Sb P w h a L es ep t) : es.size = L.length := by
  have z := congrArg List.length b.rws
  unfold rowsOf at z
  rw [Array.length_toList, List.length_map] at z
  exact z
theorem Sb.fit {h : Heap} (b : Sb P w h a L es ep t) : t.fits es.size = true := by
  have z1 := b.ok.sz
  rw [List.length_map] at z1
  have z2 := b.sz
  have z3 := b.space
  unfold SetTable.fits SetTable.fill
  rw [b.ok.dm, Bool.and_eq_true, beq_iff_eq, decide_eq_true_eq]
  show t.place.size = es.size ∧ t.place.size + 0 ≤ t.mask
  omega
/-- the 64th one: the table has 128 places by then, so nothing is laid anew -/
theorem add_last (R : SetTR P w s.heap a L es ep t) {x : Addr} {k : List Int} (hx : IsT P w s.heap k x) (hu : A.units < cLine) (hl : L.length = 63) {Q : Bool → Shared → Prop}
    (done : ∀ b h' L' es' ep' t', Heap.SameBut a s.heap h' → Sb P w h' a L' es' ep' t' → (k ∈ L.map (·.2) → L' = L) → (k ∉ L.map (·.2) → L'.Perm ((x, k) :: L)) → Q b { s with heap := h' }) :
    wpAny (model P w) A (setAddHashed a (.ref x) (thash P w k)) Q E s := by
  obtain ⟨ob, hob, ex, dat⟩ := R.ob
  have mask : t.mask = 127 := by
    have z := R.room
    rcases R.tab.mok with m | m | m
    · rw [m] at z; omega
    · rw [m] at z; omega
    · exact m
  have lsz := R.size
  unfold setAddHashed
  refine wpAny_holding ?_
  rw [show (100000 : Nat) = 99999 + 1 from rfl, setAddHashedIn_succ]
  refine wpAny_bind (wpAny_setState_of hob dat R.fits ?_)
  dsimp only
  refine wp_if_neg (by simp [byScan, Value.scannable]) ?_
  try refine wpAny_bind (wpAny_pure ?_)
  refine wpAny_bind (search_at R hx hu (fun there => ?_) fun K new free busy => ?_)
  · dsimp only
    exact wpAny_pure (done false s.heap L es ep t (Heap.SameBut.refl a s.heap) (.of R) (fun _ => rfl) fun z => absurd there z)
  · dsimp only
    refine wpAny_bind (wpAny_setState_of hob dat R.fits ?_)
    dsimp only
    obtain ⟨p1, p2, p3, p4, p5, p6, p7, p8, p9⟩ := R.tab.put free busy
    have plain : (t.put (way t.mask (thash P w k) K)).1.plain = true := p6.trans R.plain
    obtain ⟨pt, ept⟩ : ∃ pt, t.put (way t.mask (thash P w k) K) = pt := ⟨_, rfl⟩
    rw [ept] at p1 p3 p4 p5 p6 p7 p8 p9 plain ⊢
    obtain ⟨u, i⟩ := pt
    dsimp only at p1 p3 p4 p5 p6 p7 p8 p9 plain ⊢
    subst p1
    first
      | (refine wpAny_bind ?_; refine wp_if_pos plain ?_; refine hashBy_tup hx ?_)
      | refine wp_if_pos plain (wpAny_bind (hashBy_tup hx ?_))
    simp only [if_true]
    obtain ⟨j, ej⟩ : ∃ j, SetTable.below t.place (way t.mask (thash P w k) K) = j := ⟨_, rfl⟩
    rw [ej] at p2 p3 ⊢
    have rws : (SetTable.insertAt es j (thash P w k, Value.ref x)).toList = rowsOf P w (L.take j ++ (x, k) :: L.drop j) := by
      rw [SetTable.toList_insertAt, rows_put, R.rows]
    have pm := put_perm L j (x, k)
    have len : (L.take j ++ (x, k) :: L.drop j).length = 64 := by rw [pm.length_eq, List.length_cons, hl]
    have eh : (L.map fun q => thash P w q.2).take j ++ thash P w k :: (L.map fun q => thash P w q.2).drop j = (L.take j ++ (x, k) :: L.drop j).map fun q => thash P w q.2 := by
      rw [List.map_append, List.map_cons, List.map_take, List.map_drop]
    rw [eh] at p3
    have one : ((L.take j ++ (x, k) :: L.drop j).map (·.2)).Nodup := (pm.map (·.2)).nodup_iff.mpr (by rw [List.map_cons]; exact List.nodup_cons.mpr ⟨new, R.nd⟩)
    have esz : (SetTable.insertAt es j (thash P w k, Value.ref x)).size = 64 := by
      have z := congrArg List.length rws
      unfold rowsOf at z
      rw [Array.length_toList, List.length_map, len] at z
      exact z
    refine wpAny_bind (wpAny_storeSet_of hob dat ?_ (by rw [esz, sizeLine_eq]; decide))
    have notFull : ¬ u.tooFull = true := by
      unfold SetTable.tooFull
      rw [decide_eq_true_eq, p9, List.length_map, hl, p4, mask]
      decide
    first
      | refine wp_if_neg (by simp [notFull]) ?_
      | (refine wpAny_bind ?_; refine wp_if_neg (by simp [notFull]) ?_; refine wpAny_pure ?_)
    refine wpAny_pure (done true _ _ _ (ep + 1) u (Heap.SameBut.update ..) ⟨⟨_, store_at hob dat, ⟨ex.1, ex.2.1, ex.2.2⟩, rfl⟩, rws, p3, one, plain, by rw [p5]; exact R.led, by rw [len, p4, mask]; decide, Nat.le_of_eq len⟩ (fun z => absurd z new) fun _ => pm)
/-- one more into a set of fewer than 64 -/
theorem add64 (R : SetTR P w s.heap a L es ep t) {x : Addr} {k : List Int} (hx : IsT P w s.heap k x) (hu : A.units < cLine) {Q : Bool → Shared → Prop}
    (done : ∀ b h' L' es' ep' t', Heap.SameBut a s.heap h' → Sb P w h' a L' es' ep' t' → (k ∈ L.map (·.2) → L' = L) → (k ∉ L.map (·.2) → L'.Perm ((x, k) :: L)) → Q b { s with heap := h' }) :
    wpAny (model P w) A (setAddHashed a (.ref x) (thash P w k)) Q E s := by
  by_cases few : L.length + 1 < 64
  · exact add_at R hx hu few fun b h' L' es' ep' t' sb r c1 c2 => done b h' L' es' ep' t' sb (.of r) c1 c2
  · exact add_last R hx hu (by have := R.few; omega) done
/-- the loop of update: the set takes what the walk gives -/
theorem take_all {I : Addr} {fp wr : List Addr} {G : Array GenState → Array GenState → Prop} {n : Nat} {Pv : Nat → Value → Prop} {St : Nat → Shared → Prop} {R : Result → Shared → Prop}
    (W : WalksS P w A.in1 I fp wr G n Pv St) (S : Addr) (out : S ∉ fp) (ks : List AL) (hn : n = ks.length) (most : ks.length ≤ 64) (vals : ∀ i v, Pv i v → ∃ q, ks[i]? = some q ∧ v = .ref q.1)
    (g0 : Heap) (hk : ∀ q ∈ ks, IsT P w g0 q.2 q.1) (S0 : g0.get? S = none) (w0 : ∀ b ∈ wr, g0.get? b = none) (hu : A.in1.units < cLine)
    (fin : ∀ s' L es ep t, Moved (S :: wr) G s s' → Sb P w s'.heap S L es ep t → Got ks n L → (∀ b o, g0.get? b = some o → s'.heap.get? b = some o) → R (.ok (.ret .none)) s') :
    ∀ (m i : Nat) (s1 : Shared), m = n - i → i ≤ n → St i s1 → Moved (S :: wr) G s s1 → (∀ b o, g0.get? b = some o → s1.heap.get? b = some o) → (∃ L es ep t, Sb P w s1.heap S L es ep t ∧ Got ks i L) →
      codeAny (model P w) A (.builtin "set.update.loop" ⟨[.ref S, .ref I], []⟩) R s1 := by
  have Sw : S ∉ wr := fun z => out (W.sub _ z)
  have wider : ∀ b ∈ wr, b ∈ S :: wr := fun b hb => List.mem_cons_of_mem _ hb
  have kept : ∀ {s2 s3 : Shared}, Moved wr G s2 s3 → (∀ b o, g0.get? b = some o → s2.heap.get? b = some o) → ∀ b o, g0.get? b = some o → s3.heap.get? b = some o := fun mv kp b o e =>
    mv.heap b o (fun hb => by rw [w0 b hb] at e; cases e) (kp b o e)
  intro m
  induction m with
  | zero =>
    intro i s1 hm hi st mv kp ⟨L, es, ep, t, sb, g⟩
    obtain rfl : i = n := by omega
    refine codeAny_builtin F.entry_set_update_loop ?_
    rw [Around.under_plainId F.plain_set_update_loop _]
    show wpAny _ A.in1 (pyNext (.ref I) >>= _) _ _ s1
    refine wpAny_bind (W.done s1 _ _ st fun s2 mv2 => ?_)
    show wpAny _ A.in1 (ret Value.none) _ _ s2
    exact wpAny_pure (fin s2 L es ep t (Moved.trans W.gtrans mv (mv2.mono wider)) (sb.up fun o e => mv2.heap S o Sw e) g (kept mv2 kp))
  | succ m ih =>
    intro i s1 hm hi st mv kp ⟨L, es, ep, t, sb, g⟩
    have lt : i < n := by omega
    refine codeAny_builtin F.entry_set_update_loop ?_
    rw [Around.under_plainId F.plain_set_update_loop _]
    show wpAny _ A.in1 (pyNext (.ref I) >>= _) _ _ s1
    refine wpAny_bind (W.item i s1 _ _ lt st fun v s2 hv st2 mv2 => ?_)
    obtain ⟨q, hq, rfl⟩ := vals i v hv
    have kp2 := kept mv2 kp
    have inks : ∀ r ∈ L, r ∈ ks := fun r hr => List.mem_of_mem_take (g.sub r hr)
    have R2 : SetTR P w s2.heap S L es ep t := (sb.up fun o e => mv2.heap S o Sw e).tr (by have := g.len; omega) fun r hr => isT_keep (hk r (inks r hr)) kp2
    have hx : IsT P w s2.heap q.2 q.1 := isT_keep (hk q (List.mem_of_getElem? hq)) kp2
    show wpAny _ A.in1 (holding [Value.ref q.1] (setAdd S (.ref q.1)) >>= _) _ _ s2
    refine wpAny_bind (wpAny_holding ?_)
    unfold setAdd
    refine wpAny_holding ?_
    refine wpAny_bind (wpAny_pyHash_tuple hu hx ?_)
    refine add64 (s := { s2 with toks := s2.toks + (q.2.length + 1) }) R2 hx hu fun b h' L' es' ep' t' same sb2 c1 c2 => ?_
    have g2 : Got ks (i + 1) L' := by
      by_cases c : q.2 ∈ L.map (·.2)
      · rw [c1 c]; exact g.same hq c
      · exact g.more hq (c2 c)
    have kp3 : ∀ b o, g0.get? b = some o → h'.get? b = some o := fun b o e => (same.2 b (fun z => by rw [z, S0] at e; cases e)).trans (kp2 b o e)
    have mv3 : Moved (S :: wr) G s { s2 with heap := h', toks := s2.toks + (q.2.length + 1) } := (Moved.trans W.gtrans mv (mv2.mono wider)).then_heap (Nat.le_add_right _ _) fun b o hb e => by
      rw [same.2 b (fun z : b = S => hb (by rw [z]; exact List.mem_cons_self))]; exact e
    refine wpAny_pure ⟨plainId_quiet F.plain_set_update_loop _, ih (i + 1) _ (by omega) lt (W.frame _ s2 _ _ st2 (Nat.le_add_right _ _) fun b hb o e => ?_) mv3 kp3 ⟨L', es', ep', t', sb2, g2⟩⟩
    rw [same.2 b (fun z : b = S => out (by rw [← z]; exact hb))]; exact e
end
end Dn

set_option Elab.async false
set_option linter.all false
set_option autoImplicit false
set_option maxRecDepth 100000
set_option maxHeartbeats 4000000
namespace Dn
open PySem PySem.Spec PyProof.Rows L2
section
variable {P : Program} {w : World} {A : Around} {E : Value → Shared → Prop} {s : Shared}

set_option maxHeartbeats 8000000 in
theorem set_of_list {l : Addr} {its : Array Value} (ks : List AL) {Q : Value → Shared → Prop} (hh : A.handled = none) (hl : s.heap.IsList l its) (hits : its.toList = ks.map fun q => Value.ref q.1)
    (hk : ∀ q ∈ ks, IsT P w s.heap q.2 q.1) (most : ks.length ≤ 64) (hu : A.units + 3 < cLine)
    (h : ∀ (h' : Heap) (tk : Nat) L es ep t, Sb P w h' s.heap.objs.size L es ep t → Got ks ks.length L → (∀ b o, s.heap.get? b = some o → h'.get? b = some o) → Q (.ref s.heap.objs.size) { s with heap := h', toks := tk }) :
    wpAny (model P w) A (call (.type "set") [.ref l]) Q E s := by
  have nits : its.size = ks.length := by
    have z := congrArg List.length hits
    rw [Array.length_toList, List.length_map] at z
    exact z
  obtain ⟨_, _, hmro⟩ := F.called_set.mro
  have made := F.called_set.made
  have sub := F.called_set.sub
  refine wpAny_call (codeAny_of_tree ?_)
  show wpAny _ _ (callAny (.type "set") _) _ _ _
  refine wpAny_pure ⟨Code.quiet_builtin _ (by decide +kernel), codeAny_builtin F.entry_type_call ?_⟩
  rw [Around.under_plain (weight_type_call_type "set" [.ref l] []) rfl]
  have f1 := F.called_set.notType
  have f2 := F.called_set.canCreate
  have f3 := F.typeCall_set_1 (.ref l)
  repeat (any_goals (first | assumption | wp_step))
  refine codeAny_mono (code_set_led1 (.ref l) (E := E) (Q₁ := fun v s₁ => v = .ref s.heap.objs.size ∧ s₁ = { s with heap := s.heap.push (emS w) }) ⟨rfl, rfl⟩) fun r s₁ hr => ?_
  cases r with
  | error e => exact hr
  | ok fl =>
    cases fl with
    | ret v =>
      obtain ⟨rfl, rfl⟩ := hr
      have S1 : (s.heap.push (emS w)).get? s.heap.objs.size = some (emS w) := Heap.get?_push_size _ rfl
      have T1 : Shared.TypeIs { s with heap := s.heap.push (emS w) } (.ref s.heap.objs.size) "set" := ⟨_, S1, rfl⟩
      have i1 := F.called_set.init.lookup
      have i2 := F.called_set.init.bind (.ref s.heap.objs.size)
      repeat (any_goals (first | assumption | wp_step))
      refine codeAny_mono (codeAny_call_builtin (R := wants (fun r s₂ => r = .none ∧ ∃ h' tk L es ep t, s₂ = { s with heap := h', toks := tk } ∧ Sb P w h' s.heap.objs.size L es ep t ∧ Got ks ks.length L ∧
          (∀ b o, s.heap.get? b = some o → h'.get? b = some o)) E) F.called_set.init.plain F.entry_set_init (check_set_init_1 T1 ?_)) fun r₂ s₂ hr₂ => ?_
      · obtain ⟨⟨ocls, odict, odata, oslots⟩, lob, lcl, nl, ldat⟩ := hl
        simp only at lcl ldat
        subst lcl ldat
        have lob1 : (s.heap.push (emS w)).get? l = some { cls := .type "list", dict := odict, data := .seq its nl, slots := oslots } := Heap.get?_push_of_some _ lob
        have b1 := F.sub_list_set
        have b2 := F.sub_list_frozenset
        have b3 : (Value.type "list" == Value.type "dict") = false := by decide
        have l1 : (s.heap.push (emS w)).IsList l its := ⟨_, lob1, rfl, nl, rfl⟩
        unfold Builtin.«set.__init__» noKeywords Builtin.Frozenset.updateFrom
        generalize hPI : pyIter = PI
        wp_walk
        subst hPI
        refine wpAny_pyIter_list l1 ?_
        refine wpAny_bind (wpAny_runValue ?_)
        have ls : l < s.heap.objs.size := Heap.lt_size lob
        have hh3 : A.in1.in1.in1.handled = none := by simp [hh]
        have lI : l ≠ (s.heap.push (emS w)).objs.size := by
          rw [Heap.size_push]; exact Nat.ne_of_lt (Nat.lt_succ_of_lt ls)
        have Sout : s.heap.objs.size ∉ [(s.heap.push (emS w)).objs.size, l] := by
          rw [Heap.size_push]; simp only [List.mem_cons, List.mem_singleton, List.not_mem_nil, or_false, not_or]
          exact ⟨Nat.ne_of_lt (Nat.lt_succ_self _), Nat.ne_of_gt ls⟩
        have vals : ∀ (i : Nat) (v : Value), its[i]? = some v → ∃ q, ks[i]? = some q ∧ v = .ref q.1 := fun i v hv => by
          have z : its.toList[i]? = some v := by rw [Array.getElem?_toList]; exact hv
          rw [hits, List.getElem?_map] at z
          cases e : ks[i]? with
          | none => rw [e] at z; cases z
          | some q => rw [e] at z; exact ⟨q, rfl, (Option.some.inj z).symm⟩
        have free : ∀ b, s.heap.objs.size ≤ b → s.heap.get? b = none := fun b hb => by
          cases e : s.heap.get? b with
          | none => rfl
          | some o => exact absurd (Nat.lt_of_lt_of_le (Heap.lt_size e) hb) (Nat.lt_irrefl _)
        refine take_all ((Walks.list hh3 _ l lI its).toS) s.heap.objs.size
          Sout ks nits most vals s.heap hk (free _ (Nat.le_refl _)) (fun b hb => free b (by rw [List.mem_singleton.mp hb, Heap.size_push]; exact Nat.le_succ _)) hu
          ?fin (its.size - 0) 0 _ rfl (Nat.zero_le _) ⟨⟨_, Heap.get?_push_size _ rfl, rfl, rfl⟩, (l1.push _)⟩ ⟨fun _ _ _ e => e, rfl, rfl, rfl, Nat.le_refl _⟩ (fun b o e => Heap.get?_push_of_some _ (Heap.get?_push_of_some _ e)) ?start
        case start =>
          have S2 : ((s.heap.push (emS w)).push { cls := .type "list_iterator", data := .fields #[.ref l, .int 0 0] }).get? s.heap.objs.size = some (emS w) := Heap.get?_push_of_some _ S1
          exact ⟨[], #[], 0, _, .of (setTR_fresh S2), Got.zero ks⟩
        case fin =>
          intro s' L es ep t mv sb g kp
          obtain ⟨h', g2, d', tk', os'⟩ := s'
          have z1 : g2 = s.gens := mv.gens
          have z2 : d' = s.drawn := mv.drawn
          have z3 : os' = s.os := mv.os
          subst z1 z2 z3
          show wpAny _ _ _ _ _ _
          refine wpAny_pure ?_
          show wpAny _ _ (ret Value.none) _ _ _
          rw [nits] at g
          exact wpAny_pure ⟨rfl, h', tk', L, es, ep, t, rfl, sb, g, kp⟩
      · cases r₂ with
        | error e => exact hr₂
        | ok fl₂ =>
          cases fl₂ with
          | ret r =>
            obtain ⟨rfl, h', tk, L, es, ep, t, rfl, sb, g, kp⟩ := hr₂
            repeat (any_goals (first | assumption | wp_step))
            exact h _ _ _ _ _ _ sb g kp
          | _ => exact hr₂.elim
    | _ => exact hr.elim
end
end Dn

set_option Elab.async false
set_option linter.all false
set_option autoImplicit false
set_option maxRecDepth 100000
set_option maxHeartbeats 4000000
namespace Dn
open PySem PySem.Spec PyProof.Rows L2
section
variable {P : Program} {w : World} {A : Around} {E : Value → Shared → Prop} {s : Shared}

set_option maxHeartbeats 8000000 in
theorem set_of_tuple {l : Addr} {its : Array Value} (ks : List AL) {Q : Value → Shared → Prop} (hh : A.handled = none) (hl : s.heap.IsTuple l its) (hits : its.toList = ks.map fun q => Value.ref q.1)
    (hk : ∀ q ∈ ks, IsT P w s.heap q.2 q.1) (most : ks.length ≤ 64) (hu : A.units + 3 < cLine)
    (h : ∀ (h' : Heap) (tk : Nat) L es ep t, Sb P w h' s.heap.objs.size L es ep t → Got ks ks.length L → (∀ b o, s.heap.get? b = some o → h'.get? b = some o) → Q (.ref s.heap.objs.size) { s with heap := h', toks := tk }) :
    wpAny (model P w) A (call (.type "set") [.ref l]) Q E s := by
  have nits : its.size = ks.length := by
    have z := congrArg List.length hits
    rw [Array.length_toList, List.length_map] at z
    exact z
  obtain ⟨_, _, hmro⟩ := F.called_set.mro
  have made := F.called_set.made
  have sub := F.called_set.sub
  refine wpAny_call (codeAny_of_tree ?_)
  show wpAny _ _ (callAny (.type "set") _) _ _ _
  refine wpAny_pure ⟨Code.quiet_builtin _ (by decide +kernel), codeAny_builtin F.entry_type_call ?_⟩
  rw [Around.under_plain (weight_type_call_type "set" [.ref l] []) rfl]
  have f1 := F.called_set.notType
  have f2 := F.called_set.canCreate
  have f3 := F.typeCall_set_1 (.ref l)
  repeat (any_goals (first | assumption | wp_step))
  refine codeAny_mono (code_set_led1 (.ref l) (E := E) (Q₁ := fun v s₁ => v = .ref s.heap.objs.size ∧ s₁ = { s with heap := s.heap.push (emS w) }) ⟨rfl, rfl⟩) fun r s₁ hr => ?_
  cases r with
  | error e => exact hr
  | ok fl =>
    cases fl with
    | ret v =>
      obtain ⟨rfl, rfl⟩ := hr
      have S1 : (s.heap.push (emS w)).get? s.heap.objs.size = some (emS w) := Heap.get?_push_size _ rfl
      have T1 : Shared.TypeIs { s with heap := s.heap.push (emS w) } (.ref s.heap.objs.size) "set" := ⟨_, S1, rfl⟩
      have i1 := F.called_set.init.lookup
      have i2 := F.called_set.init.bind (.ref s.heap.objs.size)
      repeat (any_goals (first | assumption | wp_step))
      refine codeAny_mono (codeAny_call_builtin (R := wants (fun r s₂ => r = .none ∧ ∃ h' tk L es ep t, s₂ = { s with heap := h', toks := tk } ∧ Sb P w h' s.heap.objs.size L es ep t ∧ Got ks ks.length L ∧
          (∀ b o, s.heap.get? b = some o → h'.get? b = some o)) E) F.called_set.init.plain F.entry_set_init (check_set_init_1 T1 ?_)) fun r₂ s₂ hr₂ => ?_
      · obtain ⟨⟨ocls, odict, odata, oslots⟩, lob, lcl, nl, ldat⟩ := hl
        simp only at lcl ldat
        subst lcl ldat
        have lob1 : (s.heap.push (emS w)).get? l = some { cls := .type "tuple", dict := odict, data := .seq its nl, slots := oslots } := Heap.get?_push_of_some _ lob
        have b1 := F.sub_tuple_set
        have b2 := F.sub_tuple_frozenset
        have b3 : (Value.type "tuple" == Value.type "dict") = false := by decide
        have l1 : (s.heap.push (emS w)).IsTuple l its := ⟨_, lob1, rfl, nl, rfl⟩
        unfold Builtin.«set.__init__» noKeywords Builtin.Frozenset.updateFrom
        generalize hPI : pyIter = PI
        wp_walk
        subst hPI
        refine wpAny_pyIter_tuple l1 ?_
        refine wpAny_bind (wpAny_runValue ?_)
        have ls : l < s.heap.objs.size := Heap.lt_size lob
        have hh3 : A.in1.in1.in1.handled = none := by simp [hh]
        have lI : l ≠ (s.heap.push (emS w)).objs.size := by
          rw [Heap.size_push]; exact Nat.ne_of_lt (Nat.lt_succ_of_lt ls)
        have Sout : s.heap.objs.size ∉ [(s.heap.push (emS w)).objs.size, l] := by
          rw [Heap.size_push]; simp only [List.mem_cons, List.mem_singleton, List.not_mem_nil, or_false, not_or]
          exact ⟨Nat.ne_of_lt (Nat.lt_succ_self _), Nat.ne_of_gt ls⟩
        have vals : ∀ (i : Nat) (v : Value), its[i]? = some v → ∃ q, ks[i]? = some q ∧ v = .ref q.1 := fun i v hv => by
          have z : its.toList[i]? = some v := by rw [Array.getElem?_toList]; exact hv
          rw [hits, List.getElem?_map] at z
          cases e : ks[i]? with
          | none => rw [e] at z; cases z
          | some q => rw [e] at z; exact ⟨q, rfl, (Option.some.inj z).symm⟩
        have free : ∀ b, s.heap.objs.size ≤ b → s.heap.get? b = none := fun b hb => by
          cases e : s.heap.get? b with
          | none => rfl
          | some o => exact absurd (Nat.lt_of_lt_of_le (Heap.lt_size e) hb) (Nat.lt_irrefl _)
        refine take_all ((Walks.tuple hh3 _ l lI its).toS) s.heap.objs.size
          Sout ks nits most vals s.heap hk (free _ (Nat.le_refl _)) (fun b hb => free b (by rw [List.mem_singleton.mp hb, Heap.size_push]; exact Nat.le_succ _)) hu
          ?fin (its.size - 0) 0 _ rfl (Nat.zero_le _) ⟨⟨_, Heap.get?_push_size _ rfl, rfl, rfl⟩, (l1.push _)⟩ ⟨fun _ _ _ e => e, rfl, rfl, rfl, Nat.le_refl _⟩ (fun b o e => Heap.get?_push_of_some _ (Heap.get?_push_of_some _ e)) ?start
        case start =>
          have S2 : ((s.heap.push (emS w)).push { cls := .type "tuple_iterator", data := .fields #[.ref l, .int 0 0] }).get? s.heap.objs.size = some (emS w) := Heap.get?_push_of_some _ S1
          exact ⟨[], #[], 0, _, .of (setTR_fresh S2), Got.zero ks⟩
        case fin =>
          intro s' L es ep t mv sb g kp
          obtain ⟨h', g2, d', tk', os'⟩ := s'
          have z1 : g2 = s.gens := mv.gens
          have z2 : d' = s.drawn := mv.drawn
          have z3 : os' = s.os := mv.os
          subst z1 z2 z3
          show wpAny _ _ _ _ _ _
          refine wpAny_pure ?_
          show wpAny _ _ (ret Value.none) _ _ _
          rw [nits] at g
          exact wpAny_pure ⟨rfl, h', tk', L, es, ep, t, rfl, sb, g, kp⟩
      · cases r₂ with
        | error e => exact hr₂
        | ok fl₂ =>
          cases fl₂ with
          | ret r =>
            obtain ⟨rfl, h', tk, L, es, ep, t, rfl, sb, g, kp⟩ := hr₂
            repeat (any_goals (first | assumption | wp_step))
            exact h _ _ _ _ _ _ sb g kp
          | _ => exact hr₂.elim
    | _ => exact hr.elim
end
end Dn

set_option Elab.async false
set_option linter.all false
set_option autoImplicit false
set_option maxRecDepth 100000
set_option maxHeartbeats 4000000
namespace Dn
open PySem PySem.Spec PyProof.Rows L2
structure Sat (P : Program) (w : World) (h : Heap) (a : Addr) (L : List AL) : Prop where
  ex : ∃ es ep t, Sb P w h a L es ep t
def SbO (P : Program) (w : World) (a : Addr) (L : List AL) : HO := .ext fun h => Sat P w h a L
theorem sbO_new {P : Program} {w : World} {H : Hp} {h : Heap} {a : Addr} {L : List AL} (r : Sat P w h a L) : ObjOk P w H h a (SbO P w a L) := by
  have ⟨es, ep, t, b⟩ := r.ex
  have ⟨o, ho, _⟩ := b.at_
  refine ⟨r, ⟨o, ho⟩, fun h1 h2 p k => ?_⟩
  have ⟨es', ep', t', b'⟩ := Sat.ex p
  exact ⟨es', ep', t', b'.up k⟩
/-- the addresses in the order of sort -/
def adOf (h : Heap) : Value → AL
  | .ref b => (b, TS.intsOf h (.ref b))
  | _ => (0, [])
section
variable {P : Program} {w : World} {A : Around} {E : Value → Shared → Prop} {s : Shared}
theorem sorted_set64 {a : Addr} {L : List AL} {es : Array (Int × Value)} {ep : Nat} {t : SetTable} {Q : Value → Shared → Prop} (b : Sb P w s.heap a L es ep t) (tup : ∀ q ∈ L, IsT P w s.heap q.2 q.1) (hh : A.handled = none) (hu : A.in1.in1.units < cLine)
    (done : ∀ s' p (out : List Value) (c : Nat) (M : List AL), (∀ b o, s.heap.get? b = some o → s'.heap.get? b = some o) → s'.gens = s.gens → s'.os = s.os → s.heap.objs.size ≤ p →
      s'.heap.get? p = some (seqObj "list" out.toArray c) → out = M.map (fun q => Value.ref q.1) → M.Perm L → (M.map (·.2)).Pairwise LeL → Q (.ref p) s') :
    wpAny (model P w) A (call (.builtin "sorted") [.ref a]) Q E s := by
  obtain ⟨ob, hob, ex, dat⟩ := b.at_
  refine Calls.call_function_entry kind_sorted plain_sorted entry_sorted (args_sorted1 _) ?_
  unfold Builtin.«sorted»
  refine wpAny_bind (m := checkCount "sorted" 1 1 _) (wpAny_pure ?_)
  refine wpAny_bind (collect_set (A := A.in1) hh ⟨ob, hob, ex.1, dat⟩ b.fit (by have := b.sz; have := b.most; unfold scanBound; omega) b.ok.ris b.led fun s1 vs keep grows g1 o1 pm => ?_)
  have e0 : es.toList.map (·.2) = L.map fun q => Value.ref q.1 := by
    rw [b.rws]
    unfold rowsOf
    rw [List.map_map] <;> rfl
  rw [e0] at pm
  have nvs : vs.length ≤ 64 := by rw [pm.length_eq, List.length_map]; exact b.most
  have line : vs.length ≤ sizeLine := by rw [sizeLine_eq]; omega
  refine wpAny_bind (wpAny_newList ?_ line)
  have obL : (s1.heap.push (seqObj "list" vs.toArray 0)).get? s1.heap.objs.size = some (seqObj "list" vs.toArray 0) := Heap.get?_push_size _ rfl
  have ti : ∀ q ∈ L, TS.TupInts (s1.heap.push (seqObj "list" vs.toArray 0)) (.ref q.1) q.2 := fun q hq => tupInts_of (P := P) (w := w) (isT_keep (tup q hq) fun c o e => Heap.get?_push_of_some _ (keep c o e))
  have tv : ∀ v ∈ vs, TS.TupInts (s1.heap.push (seqObj "list" vs.toArray 0)) v (TS.intsOf (s1.heap.push (seqObj "list" vs.toArray 0)) v) := fun v hv => by
    obtain ⟨q, hq, e⟩ := List.mem_map.mp (pm.mem_iff.mp hv)
    rw [← e, (ti q hq).ints]
    exact ti q hq
  refine wpAny_bind (wpAny_holding (wpAny_call_entry slot_list_sort ⟨_, obL, rfl⟩ entry_list_sort (SrtO.list_sort_ord (s := { s1 with heap := s1.heap.push (seqObj "list" vs.toArray 0) }) (NtL.swo_lexL (TS.intsOf (s1.heap.push (seqObj "list" vs.toArray 0)))) obL line
    (fun h2 => tups_sortable (by omega) hu tv fun o e c => ?_) fun out hs hb => ⟨_, rfl, ?_⟩) (args_list_sort _)))
  · rw [obL] at e
    cases e
    exact absurd (Value.type.inj c) (by decide)
  · obtain ⟨c, hc⟩ := sortedHeap_at (vs := vs) (out := out.toArray) obL
    have refs : ∀ v ∈ out, ∃ q ∈ L, v = Value.ref q.1 := fun v hv => by
      obtain ⟨q, hq, e⟩ := List.mem_map.mp (pm.mem_iff.mp (hb.perm.mem_iff.mp hv))
      exact ⟨q, hq, e.symm⟩
    have back : ∀ q ∈ L, adOf (s1.heap.push (seqObj "list" vs.toArray 0)) (.ref q.1) = q := fun q hq => by
      show (q.1, TS.intsOf _ (.ref q.1)) = q
      rw [(ti q hq).ints]
    have e1 : out = (out.map (adOf (s1.heap.push (seqObj "list" vs.toArray 0)))).map fun q => Value.ref q.1 := by
      rw [List.map_map]
      refine ((List.map_id out).symm).trans (List.map_congr_left fun v hv => ?_)
      obtain ⟨q, hq, e⟩ := refs v hv
      rw [e]
      show Value.ref q.1 = Value.ref (adOf _ (.ref q.1)).1
      rw [back q hq]
    have p1 : (out.map (adOf (s1.heap.push (seqObj "list" vs.toArray 0)))).Perm L := by
      have z := (hb.perm.trans pm).map (adOf (s1.heap.push (seqObj "list" vs.toArray 0)))
      rw [List.map_map] at z
      have e2 : L.map (adOf (s1.heap.push (seqObj "list" vs.toArray 0)) ∘ fun q => Value.ref q.1) = L := (List.map_congr_left fun q hq => back q hq).trans (List.map_id L)
      rw [e2] at z
      exact z
    refine wpAny_pure ⟨_, rfl, done _ s1.heap.objs.size out c _ (fun d o e => ?_) g1 o1 grows hc e1 p1 ?_⟩
    · have q := keep d o e
      have lt := Heap.lt_size q
      show (sortedHeap (s1.heap.push (seqObj "list" vs.toArray 0)) s1.heap.objs.size vs out.toArray).get? d = some o
      rw [sortedHeap_old (Nat.ne_of_lt lt) (by rw [size_push']; exact Nat.lt_succ_of_lt lt)]
      exact Heap.get?_push_of_some _ q
    · rw [List.map_map, List.pairwise_map]
      refine List.Pairwise.imp_of_mem (fun {v u} hv hw hvu => ?_) hs
      obtain ⟨q, hq, e⟩ := refs v hv
      obtain ⟨r, hr, e'⟩ := refs u hw
      subst e
      subst e'
      exact hvu
end
def rSetB (K : PySem.W.Frag) (P : Program) (w : World) : List V → Hp → VK → Prop := fun xs H Q => ∃ (l : Addr) (ks : List AL), xs = [V.ref l] ∧ (SqL K H l (ks.map fun q => V.ref q.1) ∨ SqT K H l (ks.map fun q => V.ref q.1)) ∧ (∀ q ∈ ks, SqT K H q.1 (q.2.map V.int)) ∧ ks.length ≤ 64 ∧
  ∀ a L, H a = none → (L.map (·.2)).Nodup → (∀ q ∈ L, q ∈ ks) → (∀ q ∈ ks, q.2 ∈ L.map (·.2)) → Q (.ref a) (upd H a (SbO P w a L))
def rSrtB (K : PySem.W.Frag) (P : Program) (w : World) : List V → Hp → VK → Prop := fun vs H Q => ∃ (a : Addr) (L : List AL), vs = [V.ref a] ∧ H a = some (SbO P w a L) ∧ (∀ q ∈ L, SqT K H q.1 (q.2.map V.int)) ∧
  ∀ (M : List AL) (p : Addr), M.Perm L → (M.map (·.2)).Pairwise LeL → H p = none → Q (.ref p) (upd H p (.lst (M.map fun q => V.ref q.1)))
section
variable {X : Cx}
theorem cr_setB (hc : X.calm = true) (hu : X.A.units + 64 < cLine) : CallR X (.type "set") (rSetB X.K X.prog X.w) := by
  intro pins s σ H xs us Q I r h
  obtain ⟨l, ks, rfl, hl, hk, hf, q⟩ := h
  rw [Vals.ref1 r]
  have fresh : H s.heap.objs.size = none := I.hok.fresh (Nat.le_refl _)
  rcases hl with hl | hl
  · obtain ⟨its, rv, pl, hz⟩ := I.list hl
    refine set_of_list (P := X.prog) (w := X.w) ks (I.ok.hd hc) pl.isList (by simpa using refs_of_vals rv) (fun p hp => I.isT (hk p hp)) hf (by omega) fun h' tk L es ep t b g k => ?_
    exact ⟨.ref s.heap.objs.size, upd H s.heap.objs.size (SbO X.prog X.w s.heap.objs.size L), I.laid (t' := tk) k (Nat.le_refl _) (sbO_new ⟨es, ep, t, b⟩), rfl, q _ L fresh b.one (fun p hp => List.mem_of_mem_take (g.sub p hp)) fun p hp => g.all p (by rw [List.take_length]; exact hp)⟩
  · obtain ⟨its, rv, pl, hz⟩ := I.tuple hl
    refine set_of_tuple (P := X.prog) (w := X.w) ks (I.ok.hd hc) pl (by simpa using refs_of_vals rv) (fun p hp => I.isT (hk p hp)) hf (by omega) fun h' tk L es ep t b g k => ?_
    exact ⟨.ref s.heap.objs.size, upd H s.heap.objs.size (SbO X.prog X.w s.heap.objs.size L), I.laid (t' := tk) k (Nat.le_refl _) (sbO_new ⟨es, ep, t, b⟩), rfl, q _ L fresh b.one (fun p hp => List.mem_of_mem_take (g.sub p hp)) fun p hp => g.all p (by rw [List.take_length]; exact hp)⟩
theorem cr_srtB (hc : X.calm = true) (hu : X.A.units + 64 < cLine) : CallR X (.builtin "sorted") (rSrtB X.K X.prog X.w) := by
  intro pins s σ H vs us Q I r h
  obtain ⟨a, L, rfl, ha, hk, q⟩ := h
  have r0 : Sat X.prog X.w s.heap a L := (I.hok a _ ha).1
  obtain ⟨es, ep, t, b⟩ := r0.ex
  rw [Vals.ref1 r]
  refine sorted_set64 b (fun p hp => I.isT (hk p hp)) (I.ok.hd hc) (by show X.A.units + _ + _ < cLine; omega) fun s' p out c M k g o hp hg hout pm pw => ?_
  have line : (M.map fun q => V.ref q.1).length ≤ sizeLine := by rw [List.length_map, pm.length_eq, sizeLine_eq]; have := b.most; omega
  have fresh : H p = none := I.hok.fresh hp
  have hv : Vals (M.map fun q => V.ref q.1) out := by rw [hout]; exact vals_of_refs M
  have J : Inv X pins σ (upd H p (.lst (M.map fun q => V.ref q.1))) { s with heap := s'.heap, gens := s'.gens, drawn := s'.drawn, toks := s'.toks } :=
    I.call (ch := []) (Un.laid k hp fresh) (I.hok.laid k hp ⟨line, out, c, hv, hg⟩) (by rw [g]; exact I.bare) (fun _ z => nomatch z)
  have e : s' = { s with heap := s'.heap, gens := s'.gens, drawn := s'.drawn, toks := s'.toks } := by
    cases s'
    cases s
    cases o
    rfl
  rw [e]
  exact ⟨.ref p, _, J, rfl, q M p pm pw fresh⟩
end
section
variable {γ : Type} {X : Cx} {P : Pm γ} {σ : L2.St} {H D H1 D1 H2 D2 H' D' : Hp} {ρ : Env} {g g1 g2 : γ} {e a b c : Expr} {φ ψ τ : Fn γ} {Φ Ψ : FnA γ} {t : TE} {pos : Pos} {Q : VK} {K : PySem.W.Frag}
def nubL : List (List Int) → List (List Int)
  | [] => []
  | x :: r => if x ∈ r then nubL r else x :: nubL r
theorem mem_nubL {x : List Int} : ∀ {l : List (List Int)}, x ∈ nubL l ↔ x ∈ l
  | [] => Iff.rfl
  | y :: r => by
    unfold nubL
    by_cases h : y ∈ r
    · rw [if_pos h, mem_nubL (l := r), List.mem_cons]
      exact ⟨.inr, fun z => z.elim (fun z => by rw [z]; exact h) id⟩
    · rw [if_neg h, List.mem_cons, List.mem_cons, mem_nubL (l := r)]
theorem nubL_nodup : ∀ l : List (List Int), (nubL l).Nodup
  | [] => .nil
  | y :: r => by
    unfold nubL
    by_cases h : y ∈ r
    · rw [if_pos h]; exact nubL_nodup r
    · rw [if_neg h]; exact List.nodup_cons.mpr ⟨fun z => h (mem_nubL.mp z), nubL_nodup r⟩
def fSortSet (φ : Fn γ) : Fn γ := fun ρ g => (φ ρ g).bind fun y g1 => match seqOf y with
  | some xs => (match tupsD xs with
    | some nss => if nss.length ≤ 64 then .ok (.l ((srtL (nubL nss)).map tupD)) g1 else .stuck
    | none => .stuck)
  | none => .stuck
/-- the addresses of a sequence of tuples -/
theorem al_of : ∀ {vs : List V} {nss : List (List Int)}, DpAll K D vs (nss.map tupD) → ∃ ks : List AL, vs = ks.map (fun q => V.ref q.1) ∧ nss = ks.map (·.2) ∧ ∀ q ∈ ks, Dp K D (.ref q.1) (tupD q.2)
  | _, [], h => by cases h; exact ⟨[], rfl, rfl, fun q hq => nomatch hq⟩
  | _, ns :: r, h => by
    cases h with
    | @cons v _ _ _ a t =>
      obtain ⟨ks, e1, e2, h⟩ := al_of t
      have hp : ∃ p, v = V.ref p := by cases a; exact ⟨_, rfl⟩
      obtain ⟨p, rfl⟩ := hp
      refine ⟨(p, ns) :: ks, by rw [e1]; rfl, by rw [e2]; rfl, fun q hq => ?_⟩
      rcases List.mem_cons.mp hq with z | z
      · rw [z]; exact a
      · exact h q z
theorem dp_al : ∀ {M : List AL}, (∀ q ∈ M, Dp K D (.ref q.1) (tupD q.2)) → DpAll K D (M.map fun q => V.ref q.1) ((M.map (·.2)).map tupD)
  | [], _ => .nil
  | q :: M, h => .cons (h q List.mem_cons_self) (dp_al fun r hr => h r (List.mem_cons_of_mem _ hr))
theorem dsortSet {p1 p2 q : Pos} (h : DE X P a φ) (hm1 : X.mg "sorted" = none) (hm2 : X.mg "set" = none) (hv1 : bootBuiltins "sorted" = some (.builtin "sorted")) (hv2 : bootBuiltins "set" = some (.type "set")) (hc : X.calm = true) (hu : X.A.units + 64 < cLine) (hK : X.K = P.K := by rfl)
    (hg1 : Gl X "sorted" := by rfl) (hg2 : Gl X "set" := by rfl) (na1 : starEach [a] X.env = (false, eval a X.env) :: starEach [] X.env := by rfl)
    (na2 : starEach [.Call (.Name "set" p2) [a] [] q] X.env = (false, eval (.Call (.Name "set" p2) [a] [] q) X.env) :: starEach [] X.env := by rfl) :
    DE X P (.Call (.Name "sorted" p1) [.Call (.Name "set" p2) [a] [] q] [] pos) (fSortSet φ) :=
  PE.imp (pe_callB (cr_srtB hc hu) hg1 hm1 hv1 (pa_cons (pe_callTy (cr_setB hc hu) hg2 hm2 hv2 (pa_cons h pa_nil na1) (by decide) (by decide) na1 (by rfl)) pa_nil na2) (by decide) (by decide) na2 (by rfl)) fun σ H Q ⟨D, ρ, g, r, c⟩ => by
    refine tD_bind r c fun y g1 v H1 D1 _ r1 gr1 vr c1 => ?_
    cases e : seqOf y with
    | none => simp only [e] at c1; exact c1.elim
    | some xs =>
      simp only [e] at c1
      cases e2 : tupsD xs with
      | none => simp only [e2] at c1; exact c1.elim
      | some nss =>
        simp only [e2] at c1
        by_cases hn : nss.length ≤ 64
        · rw [if_pos hn] at c1
          obtain ⟨l, vs, rfl, hs, hd⟩ := ar_seq r1.sub vr.ar e
          rw [tupsD_eq e2] at hd
          obtain ⟨ks, rfl, rfl, hks⟩ := al_of hd
          refine ⟨l, ks, rfl, by rw [hK]; exact hs, fun q hq => ?_, by rw [List.length_map] at hn; exact hn, fun p L hp one sub all => ?_⟩
          · obtain ⟨b, e, hb⟩ := dp_tupI r1.sub (hks q hq)
            cases e
            rw [hK]; exact hb
          · have l1 := LG.new (o := SbO X.prog X.w p L) r1.sub hp
            have r2 := r1.lg l1
            refine ⟨p, L, rfl, upd_same, fun q hq => ?_, fun M d pm pw hd' => ?_⟩
            · obtain ⟨b, e, hb⟩ := dp_tupI r2.sub (hks q (sub q hq))
              cases e
              rw [hK]; exact hb
            · have l2 := LG.new (o := .lst (M.map fun q => V.ref q.1)) r2.sub hd'
              have r3 := r2.lg l2
              have em : M.map (·.2) = srtL (nubL (ks.map (·.2))) := by
                refine sorted_uniq pw (srtL_sorted _) ((pm.map (·.2)).trans (List.Perm.trans ?_ (srtL_perm _).symm))
                refine (List.perm_ext_iff_of_nodup one (nubL_nodup _)).mpr fun x => ?_
                rw [mem_nubL]
                constructor
                · intro hx
                  obtain ⟨q, hq, e⟩ := List.mem_map.mp hx
                  exact List.mem_map.mpr ⟨q, sub q hq, e⟩
                · intro hx
                  obtain ⟨q, hq, e⟩ := List.mem_map.mp hx
                  rw [← e]; exact all q hq
              have dn : D1 d = none := by
                cases k : D1 d with
                | none => rfl
                | some o => rw [r2.sub d o k] at hd'; cases hd'
              have h1d : H1 d = none := by
                cases k : H1 d with
                | none => rfl
                | some o => rw [l1.keep d o k] at hd'; cases hd'
              refine c1 (.ref d) _ D1 r3 (l1.trans l2).grow ⟨⟨d, _, rfl, upd_same, dn, r2.nfp hd', ?_⟩, fun b eb => by cases eb; exact h1d⟩
              rw [← em]
              exact dp_al fun q hq => hks q (sub q (pm.mem_iff.mp hq))
        · rw [if_neg hn] at c1; exact c1.elim
end
end Dn

set_option Elab.async false
set_option linter.all false
set_option autoImplicit false
set_option maxRecDepth 100000
set_option maxHeartbeats 4000000
/-! a comprehension with two fors -/
namespace Dn
open PySem PySem.Spec PyProof.Rows L2
section
variable {γ : Type} {X : Cx} {P : Pm γ} {σ : L2.St} {H D H1 D1 H2 D2 H' D' : Hp} {ρ : Env} {g g1 g2 : γ} {e a b c : Expr} {φ ψ τ : Fn γ} {Φ Ψ : FnA γ} {t : TE} {pos : Pos} {Q : VK} {K : PySem.W.Frag}
theorem wipeE_len : ∀ (vs : List Nat) (ρ : Env), (wipeE ρ vs).length = ρ.length
  | [], _ => rfl
  | v :: vs, ρ => by
    show ((wipeE ρ vs).set v none).length = _
    rw [List.length_set, wipeE_len vs ρ]
theorem wipeE_get : ∀ {vs : List Nat} {ρ : Env} {j : Nat} {y : SV}, (wipeE ρ vs)[j]? = some (some y) → j ∉ vs ∧ ρ[j]? = some (some y)
  | [], _, _, _, h => ⟨fun z => (nomatch z), h⟩
  | v :: vs, ρ, j, y, h => by
    have h : ((wipeE ρ vs).set v none)[j]? = some (some y) := h
    by_cases e : v = j
    · subst e
      rw [List.getElem?_set] at h
      rw [if_pos rfl] at h
      split at h <;> cases h
    · rw [List.getElem?_set_ne e] at h
      obtain ⟨h1, h2⟩ := wipeE_get h
      exact ⟨fun z => (List.mem_cons.mp z).elim (fun z => e z.symm) h1, h2⟩
/-- a target stores data alone -/
def AsgD (asg : Asg) : Prop := ∀ (y : PyData) (ρ ρ1 : Env), asg y ρ = some ρ1 → ρ1.length = ρ.length ∧ ∀ (j : Nat) (zs : List PyData), ρ1[j]? = some (some (.l zs)) → ρ[j]? = some (some (.l zs))
def AsgsD (asg : Asgs) : Prop := ∀ (y : List PyData) (ρ ρ1 : Env), asg y ρ = some ρ1 → ρ1.length = ρ.length ∧ ∀ (j : Nat) (zs : List PyData), ρ1[j]? = some (some (.l zs)) → ρ[j]? = some (some (.l zs))
theorem adN {i : Nat} : AsgD (asgN i) := fun y ρ ρ1 h => by
  unfold asgN at h
  split at h
  · cases h
    refine ⟨List.length_set .., fun j zs e => ?_⟩
    by_cases z : i = j
    · subst z
      rw [List.getElem?_set] at e
      rw [if_pos rfl] at e
      split at e <;> cases e
    · rw [List.getElem?_set_ne z] at e; exact e
  · cases h
theorem adNil : AsgsD asgNil := fun y ρ ρ1 h => by
  unfold asgNil at h
  split at h
  · cases h; exact ⟨rfl, fun _ _ e => e⟩
  · cases h
theorem adCons {f : Asg} {r : Asgs} (h1 : AsgD f) (h2 : AsgsD r) : AsgsD (asgCons f r) := fun y ρ ρ1 h => by
  unfold asgCons at h
  split at h
  · rename_i y t
    cases k : f y ρ with
    | none => rw [k] at h; cases h
    | some ρ2 =>
      rw [k] at h
      obtain ⟨a1, a2⟩ := h1 y ρ ρ2 k
      obtain ⟨b1, b2⟩ := h2 t ρ2 ρ1 h
      exact ⟨b1.trans a1, fun j zs e => a2 j zs (b2 j zs e)⟩
  · cases h
theorem adT {n : Nat} {r : Asgs} (h : AsgsD r) : AsgD (asgT n r) := fun y ρ ρ1 e => by
  unfold asgT at e
  split at e
  · split at e
    · exact h _ _ _ e
    · cases e
  · cases e
def lcD2 (asg : Asg) (cond : Fn γ) (own1 : List Nat) (Ι1 : FnI γ) (asg1 : Asg) (cond1 elt : Fn γ) (ρ : Env) : List PyData → γ → Option (List PyData × γ)
  | [], g => some ([], g)
  | y :: ys, g => match asg y ρ with
    | none => none
    | some ρ1 => match cond ρ1 g with
      | .ok (.d (.bool true)) g1 => (match Ι1 ρ1 g1 with
        | .ok zs g2 => (match lcD asg1 cond1 elt (wipeE ρ1 own1) zs g2 with
          | some p => (lcD2 asg cond own1 Ι1 asg1 cond1 elt ρ ys p.2).map fun q => (p.1 ++ q.1, q.2)
          | none => none)
        | _ => none)
      | .ok (.d (.bool false)) g1 => lcD2 asg cond own1 Ι1 asg1 cond1 elt ρ ys g1
      | _ => none
def fLc2 (own own1 : List Nat) (Ι : FnI γ) (asg : Asg) (cond : Fn γ) (Ι1 : FnI γ) (asg1 : Asg) (cond1 elt : Fn γ) : Fn γ := fun ρ g => (Ι ρ g).bind fun ys g1 => match lcD2 asg cond own1 Ι1 asg1 cond1 elt (wipeE ρ own) ys g1 with
  | some p => if p.1.length ≤ 100000 then .ok (.l p.1) p.2 else .stuck
  | none => .stuck
theorem lc2_core' {elt : Fn γ} {Ι Ι1 : FnI γ} {gt gt1 : TG} {asg asg1 : Asg} {own own1 : List Nat} {cond cond1 : Fn γ} (ht : TgIs P.nox gt asg) (ho : TgOwn gt own) (hm : TgMono gt) (ha : AsgD asg) (ht1 : TgIs P.nox gt1 asg1) (ho1 : TgOwn gt1 own1)
    {tt tt1 : TT} (htt : ∀ σ H Q, tDT P.nox cond σ H Q → tt σ H Q) (htt1 : ∀ σ H Q, tDT P.nox cond1 σ H Q → tt1 σ H Q) {σ : L2.St} {H : Hp} {Q : VK}
    (h : tD P (fLc2 own own1 Ι asg cond Ι1 asg1 cond1 elt) σ H Q) : tLc2 (tDI P Ι) gt tt (tDI P.nox Ι1) gt1 tt1 (tD P.nox elt) own own1 σ H Q := by
  obtain ⟨D, ρ, g, r, c⟩ := h
  refine ⟨D, ρ, g, r, ?_⟩
  unfold fLc2 at c
  cases q : Ι ρ g with
  | exc C fs g1 => rw [q] at c; exact c
  | stuck => rw [q] at c; exact c
  | ok ys g1 =>
    rw [q] at c
    intro J H1 D1 r1 gr it
    have c' := Cont.back gr c
    simp only [OutI.bind] at c'
    cases k : lcD2 asg cond own1 Ι1 asg1 cond1 elt (wipeE ρ own) ys g1 with
    | none => rw [k] at c'; exact c'.elim
    | some p =>
      rw [k] at c'
      simp only at c'
      by_cases hl : p.1.length ≤ 100000
      · rw [if_pos hl] at c'
        intro A hA
        have nf : ¬ P.rs.fp A := r1.nfp hA
        have h0 : P.H0 A = none := by
          cases z : P.H0 A with
          | none => rfl
          | some o => exact absurd hA (r1.grow.th A (ne_none z))
        have no : ∀ (j : Nat) (zs : List PyData), (wipeE ρ own)[j]? = some (some (.l zs)) → (L2.wipe σ own)[j]? ≠ some (some (.ref A)) := fun j zs e1 e2 => by
          obtain ⟨v, e3, h3⟩ := (r1.wipe own).slot j _ e1
          rw [e2] at e3
          cases e3
          obtain ⟨b, us, e4, h4, _⟩ := h3
          cases e4
          rw [hA] at h4
          cases h4
        have hd1 : D1 A = none := by
          cases z : D1 A with
          | none => rfl
          | some u => rw [r1.sub A u z] at hA; cases hA
        obtain ⟨NX, hNX⟩ : ∃ NX : Nat → Hp → Prop, NX = fun i H' => ∃ D' us acc g', Grow P.rs.fp H1 D1 H' D' ∧ Rep P (L2.wipe σ own) H' D' (wipeE ρ own) g' ∧ H' A = some (.lst us) ∧ D' A = none ∧ DpAll P.K D' us acc ∧
            ∃ p', lcD2 asg cond own1 Ι1 asg1 cond1 elt (wipeE ρ own) (ys.drop i) g' = some p' ∧ acc ++ p'.1 = p.1 ∧ p'.2 = p.2 := ⟨_, rfl⟩
        refine ⟨fun i m H' => m = ys.length - i ∧ NX i H', ⟨ys.length, by simp, ?_⟩, ?_⟩
        · rw [hNX]
          exact ⟨D1, [], [], g1, (LG.new r1.sub hA).grow, ((r1.wipe own).lg (LG.new r1.sub hA)), upd_same, hd1, .nil, p, by simpa using k, by simp, rfl⟩
        rintro i m H' ⟨rfl, hw⟩
        have hw0 := hw
        rw [hNX] at hw
        obtain ⟨D', us, acc, g', gr', r', hA', hD', dp, p', k', e1, e2⟩ := hw
        by_cases hlt : i < ys.length
        · have e : ys[i]? = some ys[i] := by simp [hlt]
          obtain ⟨hgo, hy⟩ := it.go i _ H' D' e gr'.dk r'.sub
          refine .inr ⟨hgo, NX (i + 1), fun H'' h'' => ⟨ys.length - (i + 1), by omega, rfl, h''⟩, fun x H3 hx => ?_⟩
          obtain ⟨D3, l, dpx⟩ := hy x H3 hx
          have r3 := r'.lg l
          have hA3 := l.keep _ _ hA'
          have hD3 := l.dn _ (ne_none hA') hD'
          have gr3 := gr'.trans l.grow
          have dp3 : DpAll P.K D3 us acc := DpAll.up l.dk _ _ dp
          rw [List.drop_eq_getElem_cons hlt] at k'
          unfold lcD2 at k'
          cases w : asg ys[i] (wipeE ρ own) with
          | none => rw [w] at k'; cases k'
          | some ρ1 =>
            rw [w] at k'
            simp only at k'
            obtain ⟨adl, ad⟩ := ha _ _ _ w
            have step := ho x (L2.wipe σ own) H3 _ (ht.run x ys[i] _ H3 D3 _ g' ρ1 (fun σ2 H2 => H2 = H3 ∧ Rep P.nox σ2 H3 D3 ρ1 g') r3.nox dpx w fun σ4 r4 => ⟨rfl, r4⟩)
            refine hm x _ H3 _ _ ?_ step
            rintro σ2 H2 ⟨we, rfl, r4⟩
            rw [wipe_wipe] at we
            refine ⟨we, htt _ _ _ ⟨D3, ρ1, g', r4, ?_⟩⟩
            cases u : cond ρ1 g' with
            | exc C fs g2 => rw [u] at k'; cases k'
            | stuck => rw [u] at k'; cases k'
            | ok y g2 =>
              rw [u] at k'
              cases y with
              | l _ => cases k'
              | b _ => cases k'
              | h => cases k'
              | d z =>
                cases z with
                | bool bb =>
                  intro H5 D5 r5 gr5
                  have hA5 := gr5.keep _ _ nf hA3
                  have hD5 := gr5.dn _ (ne_none hA3) hD3
                  have dp5 : DpAll P.K D5 us acc := DpAll.up gr5.dk _ _ dp3
                  have gr35 := gr3.trans gr5
                  have R5 := r3.step gr5 r5.sub r5.res
                  cases bb with
                  | false =>
                    rw [if_neg (by simp), hNX]
                    exact ⟨D5, us, acc, g2, gr35, R5, hA5, hD5, dp5, p', k', e1, e2⟩
                  | true =>
                    rw [if_pos rfl]
                    simp only at k'
                    refine ⟨D5, ρ1, g2, r5, ?_⟩
                    cases v : Ι1 ρ1 g2 with
                    | exc C fs g3 => rw [v] at k'; cases k'
                    | stuck => rw [v] at k'; cases k'
                    | ok zs g3 =>
                      rw [v] at k'
                      simp only at k'
                      intro J1 H6 D6 r6 gr6 it1
                      cases kk : lcD asg1 cond1 elt (wipeE ρ1 own1) zs g3 with
                      | none => rw [kk] at k'; cases k'
                      | some p1 =>
                        rw [kk] at k'
                        simp only at k'
                        cases k2 : lcD2 asg cond own1 Ι1 asg1 cond1 elt (wipeE ρ own) (ys.drop (i + 1)) p1.2 with
                        | none => rw [k2] at k'; cases k'
                        | some p2 =>
                          rw [k2] at k'
                          cases k'
                          have hA6 := gr6.keep _ _ nf hA5
                          have hD6 := gr6.dn _ (ne_none hA5) hD5
                          have dp6 : DpAll P.K D6 us acc := DpAll.up gr6.dk _ _ dp5
                          have R6 := R5.step gr6 r6.sub r6.res
                          have no1 : ∀ (j : Nat) (zs : List PyData), (wipeE ρ1 own1)[j]? = some (some (.l zs)) → (L2.wipe σ2 own1)[j]? ≠ some (some (.ref A)) := fun j zs q1 q2 => by
                            obtain ⟨n1, q3⟩ := wipeE_get q1
                            have q4 := ad j zs q3
                            obtain ⟨n2, q5⟩ := wipeE_get q4
                            rw [wipe_out n1] at q2
                            refine no j zs q4 ?_
                            rw [← we, wipe_out n2]
                            exact q2
                          obtain ⟨NY, hNY⟩ : ∃ NY : Nat → Hp → Prop, NY = fun j H'' => ∃ D'' us'' acc'' g'', Grow P.rs.fp H1 D1 H'' D'' ∧ Sub D6 D'' ∧ Rep P (L2.wipe σ own) H'' D'' (wipeE ρ own) g'' ∧ Rep P.nox (L2.wipe σ2 own1) H'' D'' (wipeE ρ1 own1) g'' ∧ H'' A = some (.lst us'') ∧ D'' A = none ∧ DpAll P.K D'' us'' acc'' ∧
                              ∃ p3, lcD asg1 cond1 elt (wipeE ρ1 own1) (zs.drop j) g'' = some p3 ∧ acc'' ++ p3.1 = acc ++ p1.1 ∧ p3.2 = p1.2 := ⟨_, rfl⟩
                          refine ⟨fun j k H'' => k = zs.length - j ∧ NY j H'', ⟨zs.length, by simp, ?_⟩, ?_⟩
                          · rw [hNY]
                            exact ⟨D6, us, acc, g3, gr35.trans gr6, fun _ _ e => e, R6, r6.wipe own1, hA6, hD6, dp6, p1, by simpa using kk, rfl, rfl⟩
                          rintro j k7 H7 ⟨rfl, hw7⟩
                          rw [hNY] at hw7
                          obtain ⟨D7, us7, acc7, g7, gr7, s7, R7, q7, hA7, hD7, dp7, p3, k3, f1, f2⟩ := hw7
                          by_cases hlt1 : j < zs.length
                          · have e' : zs[j]? = some zs[j] := by simp [hlt1]
                            obtain ⟨hgo1, hy1⟩ := it1.go j _ H7 D7 e' s7 R7.sub
                            refine .inr ⟨hgo1, NY (j + 1), fun H'' h'' => ⟨zs.length - (j + 1), by omega, rfl, h''⟩, fun x1 H8 hx1 => ?_⟩
                            obtain ⟨D8, l8, dpx8⟩ := hy1 x1 H8 hx1
                            have R8 := R7.lg l8
                            have q8 := q7.lg l8
                            have hA8 := l8.keep _ _ hA7
                            have hD8 := l8.dn _ (ne_none hA7) hD7
                            have dp8 : DpAll P.K D8 us7 acc7 := DpAll.up l8.dk _ _ dp7
                            have gr8 := gr7.trans l8.grow
                            rw [List.drop_eq_getElem_cons hlt1] at k3
                            unfold lcD at k3
                            cases w1 : asg1 zs[j] (wipeE ρ1 own1) with
                            | none => rw [w1] at k3; cases k3
                            | some ρ2 =>
                              rw [w1] at k3
                              simp only at k3
                              have body : gt1 x1 (L2.wipe σ2 own1) H8 fun σ3 H9 => tt1 σ3 H9 fun b H10 => if b = true then tD P.nox elt σ3 H10 fun y H11 => ∃ acc, H11 A = some (.lst acc) ∧ acc.length < sizeLine ∧ NY (j + 1) (upd H11 A (.lst (acc ++ [y]))) else NY (j + 1) H10 := by
                                refine ht1.run x1 zs[j] _ H8 D8 _ g7 ρ2 _ q8 dpx8 w1 fun σ4 r9 => htt1 _ _ _ ⟨D8, ρ2, g7, r9, ?_⟩
                                cases u1 : cond1 ρ2 g7 with
                                | exc C fs g2 => rw [u1] at k3; cases k3
                                | stuck => rw [u1] at k3; cases k3
                                | ok y g9 =>
                                  rw [u1] at k3
                                  cases y with
                                  | l _ => cases k3
                                  | b _ => cases k3
                                  | h => cases k3
                                  | d z =>
                                    cases z with
                                    | bool bb =>
                                      intro H9 D9 r10 gr9
                                      have hA9 := gr9.keep _ _ nf hA8
                                      have hD9 := gr9.dn _ (ne_none hA8) hD8
                                      have dp9 : DpAll P.K D9 us7 acc7 := DpAll.up gr9.dk _ _ dp8
                                      have s9 : Sub D6 D9 := fun x o h => gr9.dk _ _ (l8.dk _ _ (s7 _ _ h))
                                      cases bb with
                                      | false =>
                                        rw [if_neg (by simp), hNY]
                                        exact ⟨D9, us7, acc7, g9, gr8.trans gr9, s9, R8.step gr9 r10.sub r10.res, q8.step gr9 r10.sub r10.res, hA9, hD9, dp9, p3, k3, f1, f2⟩
                                      | true =>
                                        rw [if_pos rfl]
                                        simp only at k3
                                        refine ⟨D9, ρ2, g9, r10, ?_⟩
                                        cases v1 : elt ρ2 g9 with
                                        | exc C fs g3 => rw [v1] at k3; cases k3
                                        | stuck => rw [v1] at k3; cases k3
                                        | ok y g10 =>
                                          rw [v1] at k3
                                          cases y with
                                          | l _ => cases k3
                                          | b _ => cases k3
                                          | h => cases k3
                                          | d z =>
                                            simp only at k3
                                            intro vv H10 D10 r11 gr10 vr
                                            have hA10 := gr10.keep _ _ nf hA9
                                            have hD10 := gr10.dn _ (ne_none hA9) hD9
                                            cases kz : lcD asg1 cond1 elt (wipeE ρ1 own1) (zs.drop (j + 1)) g10 with
                                            | none => rw [kz] at k3; cases k3
                                            | some p4 =>
                                              rw [kz] at k3
                                              cases k3
                                              have dp10 : DpAll P.K D10 us7 acc7 := DpAll.up gr10.dk _ _ dp9
                                              have g910 := gr9.trans gr10
                                              have Ro := (R8.step g910 r11.sub r11.res).side (us := us7 ++ [vv]) hD10 nf h0 no
                                              have Ri := (q8.step g910 r11.sub r11.res).side (us := us7 ++ [vv]) hD10 nf h0 no1
                                              have hul : us7.length = acc7.length := DpAll.len dp10
                                              have short : acc7.length ≤ 100000 := by
                                                refine Nat.le_trans ?_ hl
                                                have z1 := congrArg List.length e1
                                                have z2 := congrArg List.length f1
                                                simp only [List.length_append, List.length_cons] at z1 z2
                                                omega
                                              refine ⟨us7, hA10, by rw [hul]; exact Nat.lt_of_le_of_lt short (by decide), ?_⟩
                                              rw [hNY]
                                              refine ⟨D10, us7 ++ [vv], acc7 ++ [z], g10, ?_, fun x o h => gr10.dk _ _ (s9 _ _ h), Ro, Ri, upd_same, hD10, DpAll.app dp10 (.cons vr .nil), p4, kz, by rw [← f1]; simp, f2⟩
                                              have gq := (gr8.trans gr9).trans gr10
                                              refine ⟨fun b o nb hb => ?_, fun b hb => ?_, gq.dk, gq.dn⟩
                                              · have hne : b ≠ A := fun z => by rw [z, hA] at hb; cases hb
                                                rw [upd_ne hne]; exact gq.keep b o nb hb
                                              · by_cases z : b = A
                                                · subst z; rw [upd_same]; exact fun z => nomatch z
                                                · rw [upd_ne z]; exact gq.th b hb
                                    | _ => cases k3
                              have fin := ho1 x1 (L2.wipe σ2 own1) H8 _ body
                              rw [wipe_wipe] at fin
                              exact fin
                          · have hd : zs.drop j = [] := List.drop_eq_nil_of_le (by omega)
                            rw [hd] at k3
                            cases k3
                            refine .inl ⟨it1.stop j H7 D7 (by omega) s7 R7.sub, ?_⟩
                            rw [hNX]
                            have f3 : acc7 = acc ++ p1.1 := by simpa using f1
                            refine ⟨D7, us7, acc7, g7, gr7, R7, hA7, hD7, dp7, p2, by rw [show g7 = p1.2 from f2]; exact k2, ?_, e2⟩
                            rw [f3, List.append_assoc]
                            exact e1
                | _ => cases k'
        · have hd : ys.drop i = [] := List.drop_eq_nil_of_le (by omega)
          rw [hd] at k'
          cases k'
          refine .inl ⟨it.stop i H' D' (by omega) gr'.dk r'.sub, ?_⟩
          have e3 : acc = p.1 := by simpa using e1
          have e4 : g' = p.2 := e2
          rw [← e3, ← e4] at c'
          exact c' (.ref A) H' D' (r1.step gr' r'.sub r'.res) gr' ⟨⟨A, us, rfl, hA', hD', nf, dp⟩, fun a ea => by cases ea; exact hA⟩
      · rw [if_neg hl] at c'; exact c'.elim
theorem dlc200 {elt tg iter tg1 iter1 : Expr} {scope : Scope} {own : List (Str × Nat)} {own1 : List Nat} {Ι Ι1 : FnI γ} {gt gt1 : TG} {asg asg1 : Asg} {ψ : Fn γ} (hc : X.calm = true) (nd : X.N.Nodup) (hi : DI X P tg iter Ι) (ok : BlkOk X.N X.env.scope scope own) (hv : ∀ i ∈ own1, i ∈ own.map (·.2))
    (hg : ∀ (s : Shared) (H : Hp) (C : Addr) (cl : List (Str × Addr)) (fp : List Addr), PG (X.blk s H scope (compEnvC scope cl C X.env) fp) tg gt) (ht : TgIs P.nox gt asg) (ho : TgOwn gt (own.map (·.2))) (hm : TgMono gt) (ha : AsgD asg)
    (hi1 : ∀ (s : Shared) (H : Hp) (C : Addr) (cl : List (Str × Addr)) (fp : List Addr), DI (X.blk s H scope (compEnvC scope cl C X.env) fp) P.nox tg1 iter1 Ι1)
    (hg1 : ∀ (s : Shared) (H : Hp) (C : Addr) (cl : List (Str × Addr)) (fp : List Addr), PG (X.blk s H scope (compEnvC scope cl C X.env) fp) tg1 gt1) (ht1 : TgIs P.nox gt1 asg1) (ho1 : TgOwn gt1 own1)
    (he : ∀ (s : Shared) (H : Hp) (C : Addr) (cl : List (Str × Addr)) (fp : List Addr), DE (X.blk s H scope (compEnvC scope cl C X.env) fp) P.nox elt ψ) (hfs : ∀ x, foldedSetIterable iter X.env x = pure x := by intro _; rfl) (hfs1 : ∀ env x, foldedSetIterable iter1 env x = pure x := by intro _ _; rfl) :
    DE X P (.ListComp elt [⟨tg, iter, [], 0⟩, ⟨tg1, iter1, [], 0⟩] scope pos) (fLc2 (own.map (·.2)) own1 Ι asg fYes Ι1 asg1 fYes ψ) :=
  PE.imp (pe_lc2 (own := own) (vs1 := own1) hc nd hi ok hv hg (fun _ _ _ _ _ => pts_nil) hi1 hg1 (fun _ _ _ _ _ => pts_nil) he hfs hfs1) fun σ H Q => lc2_core' ht ho hm ha ht1 ho1 (fun σ H Q ⟨D, ρ, g, r, c⟩ => c H D r .refl) fun σ H Q ⟨D, ρ, g, r, c⟩ => c H D r .refl
end
end Dn

set_option Elab.async false
set_option linter.all false
set_option autoImplicit false
set_option maxRecDepth 100000
set_option maxHeartbeats 1000000
/-! lists of either sort together -/
namespace Dn
open PySem PySem.Spec PyProof.Rows L2
def oAddC : SV → SV → Option SV := fun x y => match lstOf x, lstOf y with
  | some i, some j => if i.length + j.length ≤ 100000 then some (.l (i ++ j)) else none
  | _, _ => oAddL x y
theorem kAddC {K : PySem.W.Frag} : OpOk K (rAddL K) oAddC := fun {γ} rs H D vx vy x y z Q s rd hx hy hz q => by
  unfold oAddC at hz
  split at hz
  · rename_i i j ei ej
    by_cases hl : i.length + j.length ≤ 100000
    · rw [if_pos hl] at hz
      cases hz
      obtain ⟨a, us, rfl, k1, k4⟩ := ar_lst s hx ei
      obtain ⟨b, ws, rfl, m1, m4⟩ := ar_lst s hy ej
      have n1 := DpAll.len k4
      have n2 := DpAll.len m4
      exact .inr ⟨a, b, us, ws, rfl, rfl, k1, m1, sz5 (by omega), fun p hp => q _ _ D (LG.new s hp) (vr_new s hp (nf_of hp rd) (DpAll.app k4 m4))⟩
    · rw [if_neg hl] at hz; cases hz
  · exact kAddL rs H D vx vy x y z Q s rd hx hy hz q
end Dn

set_option Elab.async false
set_option linter.all false
set_option autoImplicit false
set_option maxRecDepth 100000
set_option maxHeartbeats 4000000
/-! a set of tuples of ints, by a comprehension -/
namespace Dn
open PySem PySem.Spec PyProof.Rows L2
section
variable {P : Program} {w : World} {A : Around} {E : Value → Shared → Prop} {s : Shared} {a : Addr} {L : List AL} {es : Array (Int × Value)} {ep : Nat} {t : SetTable}
/-- S.add(x), by the 64th -/
theorem set_add64 (R : SetTR P w s.heap a L es ep t) {x : Addr} {k : List Int} (hx : IsT P w s.heap k x) (hu : A.units + 3 < cLine) {Q : Value → Shared → Prop}
    (done : ∀ tk h' L' es' ep' t', Heap.SameBut a s.heap h' → Sb P w h' a L' es' ep' t' → (k ∈ L.map (·.2) → L' = L) → (k ∉ L.map (·.2) → L'.Perm ((x, k) :: L)) → Q .none { s with heap := h', toks := tk }) :
    wpAny (model P w) A (call (.builtin "set.add") [.ref a, .ref x]) Q E s := by
  obtain ⟨ob, hob, ex, dat⟩ := R.ob
  refine wpAny_call_entry F.slot_set_add ⟨ob, hob, ex.1⟩ F.entry_set_add ?_ (F.args_set_add_2 _ _)
  unfold Builtin.«set.add» Builtin.Frozenset.oneOther
  simp only [List.isEmpty_nil, bind_assoc]
  unfold Builtin.Frozenset.addrOf setAdd
  refine wpAny_bind (wpAny_pure ?_)
  try dsimp only
  refine wpAny_bind (wpAny_pure ?_)
  try dsimp only
  refine wpAny_bind (wpAny_holding (wpAny_bind (wpAny_pyHash_tuple (by show A.units + _ < cLine; omega) hx ?_)))
  refine add64 (s := { s with toks := s.toks + (k.length + 1) }) R hx (by show A.units + _ < cLine; omega) fun b h' L' es' ep' t' sb r c1 c2 => ?_
  show wpAny _ _ (ret Value.none) _ _ _
  exact wpAny_pure ⟨_, rfl, done _ h' L' es' ep' t' sb r c1 c2⟩
end
/-- what one more tuple makes of the set -/
def More (t : Addr) (k : List Int) (L L' : List AL) : Prop := (k ∈ L.map (·.2) → L' = L) ∧ (k ∉ L.map (·.2) → L'.Perm ((t, k) :: L))
def tScT (K : PySem.W.Frag) (P : Program) (w : World) (wi : TI) (g : TG) (tt : TT) (te : TE) (vs : List Nat) : TE := fun σ H Q => wi σ H fun J H1 => ∀ D, H1 D = none → ∃ W : Nat → Nat → Hp → Prop, (∃ m, W 0 m (upd H1 D (SbO P w D []))) ∧ ∀ i m H, W i m H →
  (J.stop i H ∧ Q (.ref D) H) ∨ (J.go i H ∧ ∃ N : Hp → Prop, (∀ H', N H' → ∃ m', m' < m ∧ W (i + 1) m' H') ∧ ∀ x H', J.yld i H x H' → g x (L2.wipe σ vs) H' fun σ2 H2 => L2.wipe σ2 vs = L2.wipe σ vs ∧ tt σ2 H2 fun b H3 =>
    if b = true then te σ2 H3 fun y H4 => ∃ (t : Addr) (k : List Int) (L : List AL), y = .ref t ∧ SqT K H4 t (k.map V.int) ∧ H4 D = some (SbO P w D L) ∧ L.length < 64 ∧ (∀ q ∈ L, SqT K H4 q.1 (q.2.map V.int)) ∧ ∀ L', More t k L L' → N (upd H4 D (SbO P w D L')) else N H3)
section
variable {X : Cx}
theorem addT_ok {pins : List (Addr × Obj)} {σ : L2.St} {H : Hp} {s : Shared} {E : Value → Shared → Prop} {D t : Addr} {k : List Int} {L : List AL} {Q : Value → Shared → Prop} (I : Inv X pins σ H s) (hu : X.A.units + 64 < cLine) (hD : H D = some (SbO X.prog X.w D L)) (few : L.length < 64)
    (tup : ∀ q ∈ L, SqT X.K H q.1 (q.2.map V.int)) (ht : SqT X.K H t (k.map V.int)) (h : ∀ s' L', More t k L L' → Inv X pins σ (upd H D (SbO X.prog X.w D L')) s' → Q .none s') : wpAny (model X.prog X.w) X.A (call (.builtin "set.add") [.ref D, .ref t]) Q E s := by
  have r0 : Sat X.prog X.w s.heap D L := (I.hok D _ hD).1
  obtain ⟨es, ep, tb, b⟩ := r0.ex
  refine set_add64 (b.tr few fun q hq => I.isT (tup q hq)) (I.isT ht) (by omega) fun tk h' L' es' ep' t' sb b' c1 c2 => ?_
  have ex : ∃ u, h'.get? D = some u := by
    obtain ⟨o, ho, _⟩ := b'.at_
    exact ⟨o, ho⟩
  exact h _ L' ⟨c1, c2⟩ (I.write (e := D) (t' := tk) (by rw [hD]; trivial) (.inl rfl) (fun c u hc hu => (sb.2 c hc).trans hu) ex (sbO_new ⟨es', ep', t', b'⟩))
theorem setT_new {P : Program} {w : World} {h : Heap} : Sat P w (h.push (emS w)) h.objs.size [] := ⟨#[], 0, _, .of (setTR_fresh (Heap.get?_push_size _ rfl))⟩
theorem scT_core {pins : List (Addr × Obj)} {s : Shared} {σ : L2.St} {H : Hp} {Q : VK} {elt tg iter : Expr} {ifs : List Expr} {scope : Scope} {own : List (PySem.Str × Nat)} {pos pos' : Pos} {wi : TI} {g : TG} {tt : TT} {te : TE} {use : Option (Value → Sem Unit)} {Qf : Value → Shared → Prop}
    (calm : X.calm = true) (nd : X.N.Nodup) (hu : X.A.units + 64 < cLine) (I : Inv X pins σ H s) (hi : PI X tg iter wi) (ok : BlkOk X.N X.env.scope scope own)
    (hg : ∀ (s : Shared) (H : Hp) (C : Addr) (cl : List (PySem.Str × Addr)) (fp : List Addr), PG (X.blk s H scope (compEnvC scope cl C X.env) fp) tg g)
    (htt : ∀ (s : Shared) (H : Hp) (C : Addr) (cl : List (PySem.Str × Addr)) (fp : List Addr), PTs (X.blk s H scope (compEnvC scope cl C X.env) fp) ifs tt)
    (hte : ∀ (s : Shared) (H : Hp) (C : Addr) (cl : List (PySem.Str × Addr)) (fp : List Addr), PE (X.blk s H scope (compEnvC scope cl C X.env) fp) elt te) (hfs : ∀ x, foldedSetIterable iter X.env x = pure x)
    (h : tScT X.K X.prog X.w wi g tt te (own.map (·.2)) σ H Q)
    (after : ∀ D C s' m H', Inv X pins σ H' s' → Q (.ref D) H' → s'.heap.Ns C m → FpOk X pins H' C → compPost (model X.prog X.w) X.A X.xe use Qf (.ref D) C (.ok .next) s') :
    wpAny (model X.prog X.w) X.A (comprehension (.SetComp elt [⟨tg, iter, ifs, 0⟩] scope pos) scope X.env pos' (newSet (.type "set")) false (eval iter X.env) use) Qf X.xe s := by
  have cells : ∀ y ∈ scope.names, y.2 = .free → ∃ c, X.env.cells.lookup y.1 = some c := fun y hy e => (ok.free y hy e).elim (fun k => I.ok.has _ (.inl k)) fun k => I.ok.has _ (.inr k)
  refine wpAny_comprehension_free (use := use) rfl hfs (closure_ok cells) ok.kind (fun y hy e => by rw [ok.uniq y hy, e]) (thn (hi.run pins s σ H _ I h) fun xv s1 q1 => thn q1 fun itv s2 q2 => ?_)
  obtain ⟨it, fp, tn, J, H2, rfl, I2, T, at2, fp2, qq⟩ := q2
  refine PpSet.newSet_ok (newEnv_comp ?_)
  obtain ⟨D, hD⟩ : ∃ D, s2.heap.objs.size = D := ⟨_, rfl⟩
  rw [hD]
  have nD : H2 D = none := I2.hok.fresh (Nat.le_of_eq hD)
  obtain ⟨W, ⟨m0, w0⟩, turn⟩ := qq D nD
  obtain ⟨s3, hs3⟩ : ∃ s3 : Shared, { s2 with heap := s2.heap.push (emS X.w) } = s3 := ⟨_, rfl⟩
  obtain ⟨H3, hH3⟩ : ∃ H3, upd H2 D (SbO X.prog X.w D []) = H3 := ⟨_, rfl⟩
  have I3 : Inv X pins σ H3 s3 := by
    rw [← hs3, ← hH3]
    refine I2.laid (t' := s2.toks) (fun b o e => Heap.get?_push_of_some _ e) (Nat.le_of_eq hD) ?_
    rw [← hD]
    exact sbO_new setT_new
  have e3 : s3.heap = s2.heap.push (emS X.w) := by rw [← hs3]
  have fp3 : ∀ b ∈ fp, FpOk X pins H3 b ∧ b < s3.heap.objs.size := fun b hb => by
    obtain ⟨o, eo, _⟩ := T.obj _ _ at2 b hb
    have lt := Heap.lt_size eo
    refine ⟨⟨?_, (fp2 b hb).2⟩, by rw [e3, Heap.size_push]; exact Nat.lt_succ_of_lt lt⟩
    rw [← hH3, upd_ne (by rw [← hD]; exact Nat.ne_of_lt lt)]
    exact (fp2 b hb).1
  have at3 : tn 0 s3.heap := T.keep _ _ _ at2 fun b _ o e => by rw [e3]; exact Heap.get?_push_of_some _ e
  have I4 := block_start I3 ok nd fp3
  have pg := hg s3 H3 s3.heap.objs.size (cellsFrom (s3.heap.objs.size + 1) scope.names (cloFrom X.env.cells scope.names [])) fp
  have pt := htt s3 H3 s3.heap.objs.size (cellsFrom (s3.heap.objs.size + 1) scope.names (cloFrom X.env.cells scope.names [])) fp
  have pe := hte s3 H3 s3.heap.objs.size (cellsFrom (s3.heap.objs.size + 1) scope.names (cloFrom X.env.cells scope.names [])) fp
  rw [hH3] at w0
  have off : ∀ b ∈ fp, H3 b = none := fun b hb => (fp3 b hb).1.1
  have back0 : ({ s2 with heap := s2.heap.push (emS X.w) } : Shared) = s3 := hs3
  show codeAny _ _ (.compStart (.SetComp elt [⟨tg, iter, ifs, 0⟩] scope pos) 0 (.ref it) (.ref D) (compEnvC scope (cellsFrom (({ s2 with heap := s2.heap.push (emS X.w) } : Shared).heap.objs.size + 1) scope.names (cloFrom X.env.cells scope.names [])) ({ s2 with heap := s2.heap.push (emS X.w) } : Shared).heap.objs.size X.env)) (compPost (model X.prog X.w) X.A X.xe use Qf (.ref D) ({ s2 with heap := s2.heap.push (emS X.w) } : Shared).heap.objs.size) { ({ s2 with heap := s2.heap.push (emS X.w) } : Shared) with heap := pushCells ((({ s2 with heap := s2.heap.push (emS X.w) } : Shared).heap).push { cls := .type "dict", data := .dict #[] }) scope.names }
  rw [back0]
  obtain ⟨ce, hce⟩ : ∃ ce, compEnvC scope (cellsFrom (s3.heap.objs.size + 1) scope.names (cloFrom X.env.cells scope.names [])) s3.heap.objs.size X.env = ce := ⟨_, rfl⟩
  rw [hce] at I4 pg pt pe ⊢
  have loc : ce.locals = s3.heap.objs.size := by subst hce; rfl
  obtain ⟨s4, hs4⟩ : ∃ s4 : Shared, { s3 with heap := pushCells (s3.heap.push { cls := .type "dict", data := .dict #[] }) scope.names } = s4 := ⟨_, rfl⟩
  rw [hs4] at I4 ⊢
  have at4 : tn 0 s4.heap := T.keep _ _ _ at3 fun b _ o e => by rw [← hs4]; exact pushCells_keeps _ _ _ _ (Heap.get?_push_of_some _ e)
  have foot : ∀ {σ' : L2.St} {H' : Hp} {s' : Shared}, Inv (X.blk s3 H3 scope ce fp) [] σ' H' s' → (∀ b ∈ fp, H' b = none) → ∀ b ∈ fp, FpOk (X.blk s3 H3 scope ce fp) [] H' b := fun {σ' H' s'} J' hn b hb =>
    ⟨hn b hb, (J'.ok.exf b hb).1, J'.ok.exfs b hb, .inl hb, fun x c e => (J'.ok.exf b hb).2 x c e, fun p hp => absurd (show p ∈ ([] : List (Addr × Obj)) ++ [] from hp) (by simp)⟩
  have loop : codeAny (model X.prog X.w) X.A (.compLoop (.SetComp elt [⟨tg, iter, ifs, 0⟩] scope pos) 0 (.ref it) (.ref D) ce) (compPost (model X.prog X.w) X.A X.xe use Qf (.ref D) s3.heap.objs.size) s4 := by
    refine PpSet.compLoopS_any (fun n s' => ∃ i H', Inv (X.blk s3 H3 scope ce fp) [] (L2.wipe σ (own.map (·.2))) H' s' ∧ tn i s'.heap ∧ (∀ b ∈ fp, H' b = none) ∧ W i n H') ?_ m0 ⟨0, H3, I4, at4, off, w0⟩
    rintro n s5 ⟨i, H5, I5, at5, off5, w5⟩
    rcases turn i n H5 w5 with ⟨stop, q5⟩ | ⟨go, N, hN, step⟩
    · refine thnF (T.done (X.blk s3 H3 scope ce fp) rfl rfl rfl calm i [] s5 _ H5 (fun _ _ => False) I5 (foot I5 off5) at5 stop) fun r s6 ⟨hr, I6⟩ => ?_
      subst hr
      have I7 : Inv X pins σ H5 s6 := I3.call' (ch := fp) I6.os I6.base I6.hok I6.bare fun b hb => ⟨(fp3 b hb).1.2.2.2.1, (fp3 b hb).1.2.1, (fp3 b hb).1.2.2.2.2.1, (fp3 b hb).1.2.2.2.2.2⟩
      have free : H5 s3.heap.objs.size = none := loc ▸ (I6.free : H5 ce.locals = none)
      obtain ⟨m, ns, _⟩ := I6.loc
      exact after D s3.heap.objs.size s6 m H5 I7 q5 (loc ▸ (ns : s6.heap.Ns ce.locals m)) (I3.fpOk (Nat.le_refl _) free)
    · refine thnF (T.item (X.blk s3 H3 scope ce fp) rfl rfl rfl calm i [] s5 _ H5 (fun _ _ => False) I5 (foot I5 off5) at5 go) fun r s6 ⟨u, hr, h6⟩ => ?_
      subst hr
      refine thnF h6 fun _ s7 ⟨x, H7, I7, r7, y7, at7, off7⟩ => ?_
      have I7p := I7.pinned (foot I7 off7) (T.obj _ _ at7)
      refine thnF (pg.run _ s7 _ H7 x u _ I7p r7 (step x H7 y7)) fun _ s8 ⟨σ8, H8, I8, we, q8⟩ => ?_
      refine thnF (pt.run _ s8 σ8 H8 _ I8 q8) fun b s9 ⟨H9, I9, q9⟩ => ?_
      have fin : ∀ {s' : Shared} {H' : Hp}, Inv (X.blk s3 H3 scope ce fp) ([] ++ pinsAt fp s7.heap) σ8 H' s' → N H' → ∃ m, m < n ∧ ∃ i H', Inv (X.blk s3 H3 scope ce fp) [] (L2.wipe σ (own.map (·.2))) H' s' ∧ tn i s'.heap ∧ (∀ b ∈ fp, H' b = none) ∧ W i m H' := fun {s' H'} J' nx => by
        obtain ⟨m', lt, w'⟩ := hN H' nx
        have pinned : ∀ b ∈ fp, ∀ o, s7.heap.get? b = some o → s'.heap.get? b = some o ∧ H' b = none := fun b hb o e =>
          let z := J'.pin (b, o) (List.mem_append_right _ (List.mem_append_right _ (mem_pinsAt hb e)))
          ⟨z.1, z.2.1⟩
        have same : (L2.wipe σ (own.map (·.2))).length = σ8.length := by rw [← we, L2.wipe_length]
        refine ⟨m', lt, i + 1, H', (J'.unpinned (pins := [])).weak same (fun j v e => (wipe_some (by rw [we]; exact e)).1), T.keep _ _ _ at7 fun b hb o e => (pinned b hb o e).1, fun b hb => ?_, w'⟩
        obtain ⟨o, e, _⟩ := T.obj _ _ at7 b hb
        exact (pinned b hb o e).2
      cases b with
      | false =>
        simp only [Bool.false_eq_true, if_false] at q9 ⊢
        exact fin I9 q9
      | true =>
        simp only [if_true] at q9 ⊢
        refine thnF (pe.run _ s9 σ8 H9 _ I9 q9) fun z s10 ⟨yv, H10, I10, r10, t, k, L, ey, ht, hD10, few, tup, nx⟩ => ?_
        subst ey
        obtain rfl : z = Value.ref t := r10
        exact addT_ok (X := X.blk s3 H3 scope ce fp) I10 hu hD10 few tup ht fun s11 L' hm I11 => fin I11 (nx L' hm)
  exact PpSet.codeAny_compStart_set loop (T.self X.A 0 _ _ _ at4 loop)
theorem pe_scT {elt tg iter : Expr} {ifs : List Expr} {scope : Scope} {own : List (PySem.Str × Nat)} {pos : Pos} {wi : TI} {g : TG} {tt : TT} {te : TE} (calm : X.calm = true) (nd : X.N.Nodup) (hu : X.A.units + 64 < cLine) (hi : PI X tg iter wi) (ok : BlkOk X.N X.env.scope scope own)
    (hg : ∀ (s : Shared) (H : Hp) (C : Addr) (cl : List (PySem.Str × Addr)) (fp : List Addr), PG (X.blk s H scope (compEnvC scope cl C X.env) fp) tg g)
    (htt : ∀ (s : Shared) (H : Hp) (C : Addr) (cl : List (PySem.Str × Addr)) (fp : List Addr), PTs (X.blk s H scope (compEnvC scope cl C X.env) fp) ifs tt)
    (hte : ∀ (s : Shared) (H : Hp) (C : Addr) (cl : List (PySem.Str × Addr)) (fp : List Addr), PE (X.blk s H scope (compEnvC scope cl C X.env) fp) elt te) (hfs : ∀ x, foldedSetIterable iter X.env x = pure x := by intro _; rfl) :
    PE X (.SetComp elt [⟨tg, iter, ifs, 0⟩] scope pos) (tScT X.K X.prog X.w wi g tt te (own.map (·.2))) := ⟨fun pins s σ H Q I h => by
  rw [PpSet.eval_SetComp]
  refine scT_core calm nd hu I hi ok hg htt hte hfs h fun D C s' m H' I' q hn f => ⟨m, hn, fun h'' sb => ?_⟩
  obtain ⟨f0, f1, f2, f3, f4, f5⟩ := f
  exact ⟨.ref D, H', I'.turned (t' := s'.toks) (fun b o hb e => (sb.2 b hb).trans e) f0 f1 f3 f4 f5, rfl, q⟩⟩
end
end Dn

set_option Elab.async false
set_option linter.all false
set_option autoImplicit false
set_option maxRecDepth 100000
set_option maxHeartbeats 1000000
/-! in and not in of any data in lists; | of ints; sum -/
namespace Dn
open PySem PySem.Spec PyProof.Rows L2
def oInD (neg : Bool) : SV → SV → Option SV := fun x y => match toD x, toD y with
  | some d, some (.list ds) => if SeqAt.shaped d = true ∧ SeqAt.shaped (.list ds) = true then some (.d (.bool (if neg then !ds.any fun z => PyData.eqv z d else ds.any fun z => PyData.eqv z d))) else none
  | _, _ => none
def oInX (neg : Bool) : SV → SV → Option SV := fun x y => match oInB neg x y with
  | some z => some z
  | none => oInD neg x y
def rInX (K : PySem.W.Frag) : R2 := fun x y H Q => rIn K false x y H Q ∨ rInD K x y H Q
def rNotInX (K : PySem.W.Frag) : R2 := fun x y H Q => rIn K true x y H Q ∨ rNotInD K x y H Q
theorem op_inX {X : Cx} (hu : X.A.units + 65 < cLine) : OpR X (compareOp .In) (rInX X.K) := OpR.or op_in_seq (op_inD hu)
theorem op_notInX {X : Cx} (hu : X.A.units + 65 < cLine) : OpR X (compareOp .NotIn) (rNotInX X.K) := OpR.or op_notIn_seq (op_notInD hu)
theorem inD_inv {K : PySem.W.Frag} {γ : Type} {rs : Rs γ} {H D : Hp} {vx vy : V} {x y z : SV} {neg : Bool} (s : Sub D H) (hx : AR K rs H D vx x) (hy : AR K rs H D vy y) (h : oInD neg x y = some z) :
    ∃ d ds, Dp K H vx d ∧ Dp K H vy (.list ds) ∧ SeqAt.shaped d = true ∧ SeqAt.shaped (.list ds) = true ∧ z = .d (.bool (if neg then !ds.any fun z => PyData.eqv z d else ds.any fun z => PyData.eqv z d)) := by
  unfold oInD at h
  split at h
  · rename_i d ds e1 e2
    by_cases c : SeqAt.shaped d = true ∧ SeqAt.shaped (.list ds) = true
    · rw [if_pos c] at h
      cases h
      exact ⟨d, ds, ar_dp s hx e1, ar_dp s hy e2, c.1, c.2, rfl⟩
    · rw [if_neg c] at h; cases h
  · cases h
theorem kInX {K : PySem.W.Frag} : OpOk K (rInX K) (oInX false) := fun {γ} rs H D vx vy x y z Q s rd hx hy hz q => by
  unfold oInX at hz
  cases e : oInB false x y with
  | some z' => rw [e] at hz; cases hz; exact .inl (kInB false rs H D vx vy x y z Q s rd hx hy e q)
  | none =>
    rw [e] at hz
    obtain ⟨d, ds, h1, h2, h3, h4, rfl⟩ := inD_inv s hx hy hz
    exact .inr ⟨d, ds, h1, h2, h3, h4, q _ H D (.refl s) (Dp.bl _)⟩
theorem kNotInX {K : PySem.W.Frag} : OpOk K (rNotInX K) (oInX true) := fun {γ} rs H D vx vy x y z Q s rd hx hy hz q => by
  unfold oInX at hz
  cases e : oInB true x y with
  | some z' => rw [e] at hz; cases hz; exact .inl (kInB true rs H D vx vy x y z Q s rd hx hy e q)
  | none =>
    rw [e] at hz
    obtain ⟨d, ds, h1, h2, h3, h4, rfl⟩ := inD_inv s hx hy hz
    exact .inr ⟨d, ds, h1, h2, h3, h4, q _ H D (.refl s) (Dp.bl _)⟩
def oOr : SV → SV → Option SV := I2 fun i j => some (.int (Builtin.bitOr i j))
theorem kOr {K : PySem.W.Frag} : OpOk K (rI0 fun i j => .int (Builtin.bitOr i j)) oOr := ok_I0 fun i j d h _ _ => by cases h; exact .int _
end Dn

set_option Elab.async false
set_option linter.all false
set_option autoImplicit false
set_option maxRecDepth 100000
set_option maxHeartbeats 4000000
/-! sorted of a set comprehension of tuples; sum -/
namespace Dn
open PySem PySem.Spec PyProof.Rows L2
section
variable {γ : Type} {X : Cx} {P : Pm γ} {σ : L2.St} {H D H1 D1 H2 D2 H' D' : Hp} {ρ : Env} {g g1 g2 : γ} {e a b c : Expr} {φ ψ τ : Fn γ} {Φ Ψ : FnA γ} {t : TE} {pos : Pos} {Q : VK} {K : PySem.W.Frag}
/-- a thing that no name holds is written -/
theorem Rep.sideO (r : Rep P σ H D ρ g) {a : Addr} {ob : HO} (hd : D a = none) (nf : ¬ P.rs.fp a) (h0 : P.H0 a = none) (no : ∀ (j : Nat) (zs : List PyData), ρ[j]? = some (some (.l zs)) → σ[j]? ≠ some (some (.ref a))) :
    Rep P σ (upd H a ob) D ρ g := by
  have nd : ∀ b o, D b = some o → b ≠ a := fun b o hb z => by rw [z, hd] at hb; cases hb
  refine ⟨⟨fun b o nb hb => ?_, fun b hb => ?_, r.grow.dk, r.grow.dn⟩, fun b o hb => ?_, r.f0, r.len, fun j z ej => ?_, r.own, r.nob, r.apart, r.fd, P.rs.loc g H _ (fun b hb => upd_ne (fun z => nf (by rw [← z]; exact hb))) r.res⟩
  · have hne : b ≠ a := fun z => by rw [z, h0] at hb; cases hb
    rw [upd_ne hne]
    exact r.grow.keep b o nb hb
  · by_cases z : b = a
    · subst z; rw [upd_same]; exact fun z => nomatch z
    · rw [upd_ne z]; exact r.grow.th b hb
  · rw [upd_ne (nd b o hb)]
    exact r.sub b o hb
  · obtain ⟨w, e5, h5⟩ := r.slot j z ej
    refine ⟨w, e5, ?_⟩
    have key : ∀ zs, LstAt P.K P.rs H D w zs → (z = .l zs ∨ z = .b zs) → LstAt P.K P.rs (upd H a ob) D w zs := fun zs hl hz => by
      obtain ⟨b, ws, rfl, k1, k2, k3, k4⟩ := hl
      have hb : b ≠ a := by
        rcases hz with hz | hz
        · subst hz
          exact fun q => no j zs ej (by rw [e5, q])
        · subst hz
          exact absurd ej (r.nob j zs)
      exact ⟨b, ws, rfl, by rw [upd_ne hb]; exact k1, k2, k3, k4⟩
    cases z with
    | d x => exact h5
    | l zs => exact key zs h5 (.inl rfl)
    | b zs => exact key zs h5 (.inr rfl)
    | h => exact h5
theorem hu200 {X : Cx} {k : Nat} (hr : Room k X.A) : X.A.units + 200 < cLine := by have := hr.un; omega
def fSortSc (own : List Nat) (Ι : FnI γ) (asg : Asg) (elt : Fn γ) : Fn γ := fun ρ g => (Ι ρ g).bind fun ys g1 => if ys.length ≤ 64 then (match lcD asg fYes elt (wipeE ρ own) ys g1 with
  | some p => (match tupsD p.1 with
    | some nss => .ok (.l ((srtL (nubL nss)).map tupD)) p.2
    | none => .stuck)
  | none => .stuck) else .stuck
theorem tupD_inj {k m : List Int} (h : tupD k = tupD m) : k = m := by
  have h : k.map PyData.int = m.map PyData.int := PyData.tuple.inj h
  have := congrArg intsD h
  rw [intsD_map, intsD_map] at this
  exact Option.some.inj this
theorem mem_tupD {k : List Int} {nss : List (List Int)} : tupD k ∈ nss.map tupD ↔ k ∈ nss := by
  constructor
  · intro h
    obtain ⟨m, hm, e⟩ := List.mem_map.mp h
    rw [← tupD_inj e]; exact hm
  · exact fun h => List.mem_map.mpr ⟨k, h, rfl⟩
theorem scT_core' {elt : Fn γ} {Ι : FnI γ} {gt : TG} {asg : Asg} {own : List Nat} (ht : TgIs P.nox gt asg) (ho : TgOwn gt own) {tt : TT} (htt : ∀ σ H Q, tDT P.nox fYes σ H Q → tt σ H Q) {σ : L2.St} {H : Hp} {Q : VK} {Pr : Program} {w : World}
    (h : tD P (fSortSc own Ι asg elt) σ H Q) : tScT P.K Pr w (tDI P Ι) gt tt (tD P.nox elt) own σ H (fun v H2 => rSrtB P.K Pr w [v] H2 Q) := by
  obtain ⟨D, ρ, g, r, c⟩ := h
  refine ⟨D, ρ, g, r, ?_⟩
  unfold fSortSc at c
  cases q : Ι ρ g with
  | exc C fs g1 => rw [q] at c; exact c
  | stuck => rw [q] at c; exact c
  | ok ys g1 =>
    rw [q] at c
    intro J H1 D1 r1 gr it
    have c' := Cont.back gr c
    simp only [OutI.bind] at c'
    by_cases hl : ys.length ≤ 64
    · rw [if_pos hl] at c'
      cases k : lcD asg fYes elt (wipeE ρ own) ys g1 with
      | none => rw [k] at c'; exact c'.elim
      | some p =>
        rw [k] at c'
        simp only at c'
        cases tq : tupsD p.1 with
        | none => rw [tq] at c'; exact c'.elim
        | some nss =>
        rw [tq] at c'
        simp only at c'
        have allT : ∀ z ∈ p.1, ∃ m, z = tupD m := fun z hz => by
          rw [tupsD_eq tq] at hz
          obtain ⟨m, _, e⟩ := List.mem_map.mp hz
          exact ⟨m, e.symm⟩
        intro A hA
        have nf : ¬ P.rs.fp A := r1.nfp hA
        have h0 : P.H0 A = none := by
          cases z : P.H0 A with
          | none => rfl
          | some o => exact absurd hA (r1.grow.th A (ne_none z))
        have no : ∀ (j : Nat) (zs : List PyData), (wipeE ρ own)[j]? = some (some (.l zs)) → (L2.wipe σ own)[j]? ≠ some (some (.ref A)) := fun j zs e1 e2 => by
          obtain ⟨v, e3, h3⟩ := (r1.wipe own).slot j _ e1
          rw [e2] at e3
          cases e3
          obtain ⟨b, us, e4, h4, _⟩ := h3
          cases e4
          rw [hA] at h4
          cases h4
        have hd1 : D1 A = none := by
          cases z : D1 A with
          | none => rfl
          | some u => rw [r1.sub A u z] at hA; cases hA
        obtain ⟨NX, hNX⟩ : ∃ NX : Nat → Hp → Prop, NX = fun i H' => ∃ D' L acc g', Grow P.rs.fp H1 D1 H' D' ∧ Rep P (L2.wipe σ own) H' D' (wipeE ρ own) g' ∧ H' A = some (SbO Pr w A L) ∧ D' A = none ∧ (∀ q ∈ L, Dp P.K D' (.ref q.1) (tupD q.2)) ∧ L.length ≤ i ∧ (L.map (·.2)).Nodup ∧ (∀ k, tupD k ∈ acc ↔ k ∈ L.map (·.2)) ∧
            ∃ p', lcD asg fYes elt (wipeE ρ own) (ys.drop i) g' = some p' ∧ acc ++ p'.1 = p.1 ∧ p'.2 = p.2 := ⟨_, rfl⟩
        refine ⟨fun i m H' => m = ys.length - i ∧ NX i H', ⟨ys.length, by simp, ?_⟩, ?_⟩
        · rw [hNX]
          exact ⟨D1, [], [], g1, (LG.new r1.sub hA).grow, ((r1.wipe own).lg (LG.new r1.sub hA)), upd_same, hd1, (fun q hq => nomatch hq), Nat.le_refl _, List.Pairwise.nil, fun k => ⟨fun z => (nomatch z), fun z => (nomatch z)⟩, p, by simpa using k, by simp, rfl⟩
        rintro i m H' ⟨rfl, hw⟩
        have hw0 := hw
        rw [hNX] at hw
        obtain ⟨D', L, acc, g', gr', r', hA', hD', dp, hle, one, mem, p', k', e1, e2⟩ := hw
        by_cases hlt : i < ys.length
        · have e : ys[i]? = some ys[i] := by simp [hlt]
          obtain ⟨hgo, hy⟩ := it.go i _ H' D' e gr'.dk r'.sub
          refine .inr ⟨hgo, NX (i + 1), fun H'' h'' => ⟨ys.length - (i + 1), by omega, rfl, h''⟩, fun x H3 hx => ?_⟩
          obtain ⟨D3, l, dpx⟩ := hy x H3 hx
          have r3 := r'.lg l
          have hA3 := l.keep _ _ hA'
          have hD3 := l.dn _ (ne_none hA') hD'
          have gr3 := gr'.trans l.grow
          rw [List.drop_eq_getElem_cons hlt] at k'
          unfold lcD at k'
          cases w1 : asg ys[i] (wipeE ρ own) with
          | none => rw [w1] at k'; cases k'
          | some ρ1 =>
            rw [w1] at k'
            simp only at k'
            have body : gt x (L2.wipe σ own) H3 fun σ2 H2 => tt σ2 H2 fun b H3 => if b = true then tD P.nox elt σ2 H3 fun y H4 => ∃ (t : Addr) (k : List Int) (L : List AL), y = .ref t ∧ SqT P.K H4 t (k.map V.int) ∧ H4 A = some (SbO Pr w A L) ∧ L.length < 64 ∧ (∀ q ∈ L, SqT P.K H4 q.1 (q.2.map V.int)) ∧ ∀ L', More t k L L' → NX (i + 1) (upd H4 A (SbO Pr w A L')) else NX (i + 1) H3 := by
              refine ht.run x ys[i] _ H3 D3 _ g' ρ1 _ r3.nox dpx w1 fun σ4 r4 => htt _ _ _ ⟨D3, ρ1, g', r4, ?_⟩
              have k' : (match fYes (γ := γ) ρ1 g' with
                | .ok (.d (.bool true)) g1 => (match elt ρ1 g1 with
                  | .ok (.d z) g2 => (lcD asg fYes elt (wipeE ρ own) (ys.drop (i + 1)) g2).map fun q => (z :: q.1, q.2)
                  | _ => none)
                | .ok (.d (.bool false)) g1 => lcD asg fYes elt (wipeE ρ own) (ys.drop (i + 1)) g1
                | _ => none) = some p' := k'
              show ContT P.nox _ H3 D3 ρ1 (.ok (.d (.bool true)) g') _
              intro H5 D5 r5 gr5
              have hA5 := gr5.keep _ _ nf hA3
              have hD5 := gr5.dn _ (ne_none hA3) hD3
              rw [if_pos rfl]
              refine ⟨D5, ρ1, g', r5, ?_⟩
              have k' : (match elt ρ1 g' with
                  | .ok (.d z) g2 => (lcD asg fYes elt (wipeE ρ own) (ys.drop (i + 1)) g2).map fun q => (z :: q.1, q.2)
                  | _ => none) = some p' := k'
              cases v : elt ρ1 g' with
              | exc C fs g3 => rw [v] at k'; cases k'
              | stuck => rw [v] at k'; cases k'
              | ok y g3 =>
                rw [v] at k'
                cases y with
                | l _ => cases k'
                | b _ => cases k'
                | h => cases k'
                | d z =>
                  simp only at k'
                  intro vv H6 D6 r6 gr6 vr
                  have hA6 := gr6.keep _ _ nf hA5
                  have hD6 := gr6.dn _ (ne_none hA5) hD5
                  cases kk : lcD asg fYes elt (wipeE ρ own) (ys.drop (i + 1)) g3 with
                  | none => rw [kk] at k'; cases k'
                  | some p3 =>
                    rw [kk] at k'
                    cases k'
                    obtain ⟨k0, rfl⟩ := allT z (by rw [← e1]; simp)
                    have dp6 : ∀ q ∈ L, Dp P.K D6 (.ref q.1) (tupD q.2) := fun q hq => Dp.up (fun x o h => gr6.dk _ _ (gr5.dk _ _ (l.dk _ _ h))) _ _ (dp q hq)
                    have vr : Dp P.K D6 vv (tupD k0) := vr
                    obtain ⟨bt, rfl, hbt⟩ := dp_tupI r6.sub vr
                    refine ⟨bt, k0, L, rfl, hbt, hA6, by omega, fun q hq => ?_, fun L' ⟨m1, m2⟩ => ?_⟩
                    · obtain ⟨b2, e, hb⟩ := dp_tupI r6.sub (dp6 q hq)
                      cases e
                      exact hb
                    · rw [hNX]
                      have r7 := (r3.step (gr5.trans gr6) r6.sub r6.res).sideO (ob := SbO Pr w A L') hD6 nf h0 no
                      have g6 := (gr3.trans gr5).trans gr6
                      refine ⟨D6, L', acc ++ [tupD k0], g3, ⟨fun b o nb hb => ?_, fun b hb => ?_, g6.dk, g6.dn⟩, r7, upd_same, hD6, fun q hq => ?_, ?_, ?_, fun k => ?_, p3, kk, by rw [← e1]; simp, e2⟩
                      · have hne : b ≠ A := fun z => by rw [z, hA] at hb; cases hb
                        rw [upd_ne hne]; exact g6.keep b o nb hb
                      · by_cases z : b = A
                        · subst z; rw [upd_same]; exact fun z => nomatch z
                        · rw [upd_ne z]; exact g6.th b hb
                      · by_cases hk : k0 ∈ L.map (·.2)
                        · rw [m1 hk] at hq; exact dp6 q hq
                        · rcases List.mem_cons.mp ((m2 hk).mem_iff.mp hq) with z | z
                          · rw [z]; exact vr
                          · exact dp6 q z
                      · by_cases hk : k0 ∈ L.map (·.2)
                        · rw [m1 hk]; omega
                        · rw [(m2 hk).length_eq, List.length_cons]; omega
                      · by_cases hk : k0 ∈ L.map (·.2)
                        · rw [m1 hk]; exact one
                        · exact ((m2 hk).map (·.2)).nodup_iff.mpr (List.nodup_cons.mpr ⟨hk, one⟩)
                      · rw [List.mem_append, List.mem_singleton, mem]
                        by_cases hk : k0 ∈ L.map (·.2)
                        · rw [m1 hk]
                          exact ⟨fun z => z.elim id fun z => by rw [tupD_inj z]; exact hk, .inl⟩
                        · rw [((m2 hk).map (·.2)).mem_iff, List.map_cons, List.mem_cons]
                          exact ⟨fun z => z.elim .inr fun z => .inl (tupD_inj z), fun z => z.elim (fun z => .inr (by rw [z])) .inl⟩
            have := ho x (L2.wipe σ own) H3 _ body
            rw [wipe_wipe] at this
            exact this
        · have hd : ys.drop i = [] := List.drop_eq_nil_of_le (by omega)
          rw [hd] at k'
          cases k'
          refine .inl ⟨it.stop i H' D' (by omega) gr'.dk r'.sub, ?_⟩
          have e3 : acc = p.1 := by simpa using e1
          have e4 : g' = p.2 := e2
          rw [← e4] at c'
          have r2 := r1.step gr' r'.sub r'.res
          refine ⟨A, L, rfl, hA', fun q hq => ?_, fun M d pm pw hd' => ?_⟩
          · obtain ⟨b2, e, hb⟩ := dp_tupI r'.sub (dp q hq)
            cases e
            exact hb
          · have l2 := LG.new (o := .lst (M.map fun q => V.ref q.1)) r'.sub hd'
            have r3 := r2.lg l2
            have em : M.map (·.2) = srtL (nubL nss) := by
              refine sorted_uniq pw (srtL_sorted _) ((pm.map (·.2)).trans (List.Perm.trans ?_ (srtL_perm _).symm))
              refine (List.perm_ext_iff_of_nodup one (nubL_nodup _)).mpr fun x => ?_
              rw [mem_nubL, ← mem, e3, tupsD_eq tq, mem_tupD]
            have dn : D' d = none := by
              cases k : D' d with
              | none => rfl
              | some o => rw [r'.sub d o k] at hd'; cases hd'
            have h1d : H1 d = none := by
              cases k : H1 d with
              | none => rfl
              | some o => exact absurd hd' (gr'.th d (ne_none k))
            refine c' (.ref d) _ D' r3 (gr'.trans l2.grow) ⟨⟨d, _, rfl, upd_same, dn, r2.nfp hd', ?_⟩, fun b eb => by cases eb; exact h1d⟩
            rw [← em]
            exact dp_al fun q hq => dp q (pm.mem_iff.mp hq)
    · rw [if_neg hl] at c'; exact c'.elim
theorem dsortSc {elt tg iter : Expr} {scope : Scope} {own : List (Str × Nat)} {Ι : FnI γ} {gt : TG} {asg : Asg} {ψ : Fn γ} {p1 q : Pos} (hc : X.calm = true) (nd : X.N.Nodup) (hi : DI X P tg iter Ι) (ok : BlkOk X.N X.env.scope scope own)
    (hg : ∀ (s : Shared) (H : Hp) (C : Addr) (cl : List (Str × Addr)) (fp : List Addr), PG (X.blk s H scope (compEnvC scope cl C X.env) fp) tg gt) (ht : TgIs P.nox gt asg) (ho : TgOwn gt (own.map (·.2)))
    (he : ∀ (s : Shared) (H : Hp) (C : Addr) (cl : List (Str × Addr)) (fp : List Addr), DE (X.blk s H scope (compEnvC scope cl C X.env) fp) P.nox elt ψ)
    (hm1 : X.mg "sorted" = none) (hv1 : bootBuiltins "sorted" = some (.builtin "sorted")) (hu : X.A.units + 64 < cLine) (hK : X.K = P.K := by rfl) (hg1 : Gl X "sorted" := by rfl)
    (hfs : ∀ x, foldedSetIterable iter X.env x = pure x := by intro _; rfl) (na2 : starEach [.SetComp elt [⟨tg, iter, [], 0⟩] scope q] X.env = (false, eval (.SetComp elt [⟨tg, iter, [], 0⟩] scope q) X.env) :: starEach [] X.env := by rfl) :
    DE X P (.Call (.Name "sorted" p1) [.SetComp elt [⟨tg, iter, [], 0⟩] scope q] [] pos) (fSortSc (own.map (·.2)) Ι asg ψ) :=
  PE.imp (pe_callB (cr_srtB hc hu) hg1 hm1 hv1 (pa_cons (pe_scT (own := own) hc nd hu hi ok hg (fun _ _ _ _ _ => pts_nil) he hfs) pa_nil na2) (by decide) (by decide) na2 (by rfl)) fun σ H Q h => by
    have z := scT_core' (Pr := X.prog) (w := X.w) ht ho (tt := fun σ H Q => Q true H) (fun σ H Q ⟨D, ρ, g, r, c⟩ => c H D r .refl) h
    rw [← hK] at z
    exact z
def bSum : List SV → Option SV := C1 fun y => ((lstOf y).bind intsD).map fun ns => .d (.int ns.sum)
theorem ar_intsL {rs : Rs γ} {v : V} {y : SV} {ns : List Int} (s : Sub D H) (h : AR K rs H D v y) (e : (lstOf y).bind intsD = some ns) : ∃ a, v = .ref a ∧ SqL K H a (ns.map V.int) := by
  cases q : lstOf y with
  | none => rw [q] at e; cases e
  | some xs =>
    rw [q] at e
    obtain ⟨a, vs, rfl, h1, h2⟩ := ar_lst s h q
    have e' : intsD xs = some ns := e
    rw [intsD_eq e'] at h2
    rw [DpAll.ints h2] at h1
    exact ⟨a, rfl, h1⟩
theorem kSum : CrOk K (rSum K) bSum := ok_C1 fun rs H D v y z Q s rd h hz q => by
  cases e : (lstOf y).bind intsD with
  | none => rw [e] at hz; cases hz
  | some ns =>
    rw [e] at hz; cases hz
    obtain ⟨a, rfl, h1⟩ := ar_intsL s h e
    exact ⟨a, ns, rfl, h1, q _ H D (.refl s) (.int _)⟩
end
end Dn

set_option Elab.async false
set_option linter.all false
set_option autoImplicit false
set_option maxRecDepth 100000
set_option maxHeartbeats 4000000
/-! the readings of the defs -/
namespace K3
open PySem PySem.Spec PyProof.Rows L2 Dn
def top (i : Nat) : Stmt := PySem.Challenge.pw_closereckoned_k03_whole_partings_and_ato.main.body.getD i (.Pass ⟨0, 0, 0, 0⟩)
abbrev SrcG := Int × List Int
structure Tw where
  p : Addr
  c : Addr
  ne : p ≠ c
abbrev twFp (t : Tw) (a : Addr) : Prop := a = t.p ∨ a = t.c
abbrev twR (t : Tw) (g : SrcG) (H : Hp) : Prop := H t.p = some (.dK [(.inr "cells", .ref t.c), (.inr "turn", .int g.1)]) ∧ H t.c = some (.lst (g.2.map V.int))
def Fm (t : Tw) : Rs SrcG := ⟨t.p, twFp t, twR t, fun g H H' e h => ⟨(e _ (.inl rfl)).trans h.1, (e _ (.inr rfl)).trans h.2⟩, fun g H a h e => by
  rcases e with e | e
  · rw [e, h.1]; exact fun z => nomatch z
  · rw [e, h.2]; exact fun z => nomatch z⟩
structure Bk (mg : Str → Option Value) : Prop extends Bi mg
/-- what one draw gives: the value, the turn and the cells behind it -/
def drawF (g : SrcG) (top : Int) : Int × SrcG :=
  let t := g.1 + 1
  if g.2 = [] then (0, (t, g.2)) else
  let i := ((t + 3) % (g.2.length : Int)).toNat
  let cell := g.2.getD i 0
  if 1000000000000000000 ≤ cell then (cell % top, (t, g.2.set i (cell / top))) else
  let once := (cell * 4861 + t * 87811) % 1000037
  let twice := (once * once + 19 * cell + 5 * t) % 32452867
  ((twice / 7) % top, (t, g.2))
def v__law_draw (_ : Addr) : List SV → SrcG → Out SrcG := fun ys g => match ys with
  | [.h, .d (.int top)] => if 0 < top ∧ top < 1073741824 ∧ 0 < g.2.length ∧ g.2.length ≤ 63 ∨ g.2 = [] then .ok (.d (.int (drawF g top).1)) (drawF g top).2 else .stuck
  | _ => .stuck
section
variable {gd : Prop} {P : Program} {w : World} {K : PySem.W.Frag} {mg : Str → Option Value} {base : Heap} {C_NotUsable : Addr}
abbrev s_is_integer : Stmt := top 5
theorem sc_is_integer : FnScope [("thing" : Str)] [("thing" : Str)] (defScope s_is_integer) := ⟨rfl, rfl, rfl, by decide +kernel, rfl, by decide +kernel, by decide +kernel⟩
def p_is_integer (C_NotUsable : Addr) : SFn Unit := (sRet (fAnd (fIsi "int" (fVar 0)) (fNot (fIsi "bool" (fVar 0)))))
def v_is_integer (C_NotUsable : Addr) : List PyData → Out Unit := runP [("thing" : Str)] (p_is_integer C_NotUsable)
theorem f_is_integer (B : Bk mg) (e_NotUsable : Ex2 P w K mg base "NotUsable" C_NotUsable "word" "at") {f : Addr} {fd : FuncData} (F : Fun K "is_integer" "is_integer" s_is_integer f fd) : FnG gd P w K mg base 1 f fd [("thing" : Str)] (spP K 1 (v_is_integer C_NotUsable)) := fnP F sc_is_integer fun cdv A outer s H D E hr tk hp hG => by
  have nd := sc_is_integer.nd
  exact (dsone (dret (dand (disi (dvar 0) B.isinstance B.int (by decide +kernel)) (done1 (dnot (disi (dvar 0) B.isinstance B.bool (by decide +kernel)))))))
abbrev s_is_number : Stmt := top 6
theorem sc_is_number : FnScope [("thing" : Str)] [("thing" : Str)] (defScope s_is_number) := ⟨rfl, rfl, rfl, by decide +kernel, rfl, by decide +kernel, by decide +kernel⟩
def p_is_number (C_NotUsable : Addr) : SFn Unit := (sRet (fAnd (fCall 1 (v_is_integer C_NotUsable) (aCons (fVar 0) aNil)) (fOp oGe (fVar 0) (fC (.int 0)))))
def v_is_number (C_NotUsable : Addr) : List PyData → Out Unit := runP [("thing" : Str)] (p_is_number C_NotUsable)
theorem f_is_number (B : Bk mg) (e_NotUsable : Ex2 P w K mg base "NotUsable" C_NotUsable "word" "at") (c_is_integer : Dfn gd P w K mg base 1 "is_integer" 1 (v_is_integer C_NotUsable)) {f : Addr} {fd : FuncData} (F : Fun K "is_number" "is_number" s_is_number f fd) : FnG gd P w K mg base 2 f fd [("thing" : Str)] (spP K 1 (v_is_number C_NotUsable)) := fnP F sc_is_number fun cdv A outer s H D E hr tk hp hG => by
  have nd := sc_is_number.nd
  exact (dsone (dret (dand (dcallD tk hG c_is_integer (hr.mono (by omega)) (dacons (dvar 0) danil)) (done1 (dcmp op_ge kGe (dvar 0) dint)))))
abbrev s_is_many : Stmt := top 7
theorem sc_is_many : FnScope [("thing" : Str)] [("thing" : Str)] (defScope s_is_many) := ⟨rfl, rfl, rfl, by decide +kernel, rfl, by decide +kernel, by decide +kernel⟩
def p_is_many (C_NotUsable : Addr) : SFn Unit := (sRet (fAnd (fCall 1 (v_is_integer C_NotUsable) (aCons (fVar 0) aNil)) (fOp oGe (fVar 0) (fC (.int 1)))))
def v_is_many (C_NotUsable : Addr) : List PyData → Out Unit := runP [("thing" : Str)] (p_is_many C_NotUsable)
theorem f_is_many (B : Bk mg) (e_NotUsable : Ex2 P w K mg base "NotUsable" C_NotUsable "word" "at") (c_is_integer : Dfn gd P w K mg base 1 "is_integer" 1 (v_is_integer C_NotUsable)) {f : Addr} {fd : FuncData} (F : Fun K "is_many" "is_many" s_is_many f fd) : FnG gd P w K mg base 2 f fd [("thing" : Str)] (spP K 1 (v_is_many C_NotUsable)) := fnP F sc_is_many fun cdv A outer s H D E hr tk hp hG => by
  have nd := sc_is_many.nd
  exact (dsone (dret (dand (dcallD tk hG c_is_integer (hr.mono (by omega)) (dacons (dvar 0) danil)) (done1 (dcmp op_ge kGe (dvar 0) dint)))))
abbrev s_is_index : Stmt := top 8
theorem sc_is_index : FnScope [("many" : Str), ("thing" : Str)] [("many" : Str), ("thing" : Str)] (defScope s_is_index) := ⟨rfl, rfl, rfl, by decide +kernel, rfl, by decide +kernel, by decide +kernel⟩
def p_is_index (C_NotUsable : Addr) : SFn Unit := (sRet (fAnd (fCall 1 (v_is_number C_NotUsable) (aCons (fVar 1) aNil)) (fOp oLtS (fVar 1) (fVar 0))))
def v_is_index (C_NotUsable : Addr) : List PyData → Out Unit := runP [("many" : Str), ("thing" : Str)] (p_is_index C_NotUsable)
theorem f_is_index (B : Bk mg) (e_NotUsable : Ex2 P w K mg base "NotUsable" C_NotUsable "word" "at") (c_is_number : Dfn gd P w K mg base 2 "is_number" 1 (v_is_number C_NotUsable)) {f : Addr} {fd : FuncData} (F : Fun K "is_index" "is_index" s_is_index f fd) : FnG gd P w K mg base 3 f fd [("many" : Str), ("thing" : Str)] (spP K 2 (v_is_index C_NotUsable)) := fnP F sc_is_index fun cdv A outer s H D E hr tk hp hG => by
  have nd := sc_is_index.nd
  exact (dsone (dret (dand (dcallD tk hG c_is_number (hr.mono (by omega)) (dacons (dvar 1) danil)) (done1 (dcmp (op_ltS (hu64 hr)) kLtS (dvar 1) (dvar 0))))))
abbrev s_is_ascending : Stmt := top 9
theorem sc_is_ascending : FnScope [("things" : Str), ("k" : Str)] [("things" : Str)] (defScope s_is_ascending) := ⟨rfl, rfl, rfl, by decide +kernel, rfl, by decide +kernel, by decide +kernel⟩
def p_is_ascending (C_NotUsable : Addr) : SFn Unit := (sRet (fCB bAll (aCons (fLc [1] (iRng2F (aCons (fC (.int 1)) (aCons (fCB bLen (aCons (fVar 0) aNil)) aNil))) (asgN 1) fYes (fOp oLtS (fOp oIx (fVar 0) (fOp oSub (fVar 1) (fC (.int 1)))) (fOp oIx (fVar 0) (fVar 1)))) aNil)))
def v_is_ascending (C_NotUsable : Addr) : List PyData → Out Unit := runP [("things" : Str), ("k" : Str)] (p_is_ascending C_NotUsable)
theorem f_is_ascending (B : Bk mg) (e_NotUsable : Ex2 P w K mg base "NotUsable" C_NotUsable "word" "at") {f : Addr} {fd : FuncData} (F : Fun K "is_ascending" "is_ascending" s_is_ascending f fd) : FnG gd P w K mg base 1 f fd [("things" : Str)] (spP K 1 (v_is_ascending C_NotUsable)) := fnP F sc_is_ascending fun cdv A outer s H D E hr tk hp hG => by
  have nd := sc_is_ascending.nd
  exact (dsone (dret (dcb (cr_all rfl) kAll B.all (by decide +kernel) (dacons (dlc0 (own := [("k", 1)]) rfl nd (dirng2 rfl B.range (dacons dint (dacons (dcb call_len kLen B.len (by decide +kernel) (dacons (dvar 0) danil)) danil))) (blkOk_by (by rfl)) (fun _ _ _ _ _ => (dgN 1 nd)) (tgN 1) (towN (by decide)) (fun _ _ _ _ _ => (dcmp (op_ltS (hu64 hr)) kLtS (dix ix_seq kIx (dvar 0) (dop op_sub kSub (dvar 1) dint)) (dix ix_seq kIx (dvar 0) (dvar 1))))) danil))))
abbrev s_is_within : Stmt := top 10
theorem sc_is_within : FnScope [("lot" : Str), ("other" : Str), ("house" : Str)] [("lot" : Str), ("other" : Str)] (defScope s_is_within) := ⟨rfl, rfl, rfl, by decide +kernel, rfl, by decide +kernel, by decide +kernel⟩
def p_is_within (C_NotUsable : Addr) : SFn Unit := (sRet (fCB bAll (aCons (fLc [2] (iAny (fVar 0)) (asgN 2) fYes (fOp (oInX false) (fVar 2) (fVar 1))) aNil)))
def v_is_within (C_NotUsable : Addr) : List PyData → Out Unit := runP [("lot" : Str), ("other" : Str), ("house" : Str)] (p_is_within C_NotUsable)
theorem f_is_within (B : Bk mg) (e_NotUsable : Ex2 P w K mg base "NotUsable" C_NotUsable "word" "at") {f : Addr} {fd : FuncData} (F : Fun K "is_within" "is_within" s_is_within f fd) : FnG gd P w K mg base 1 f fd [("lot" : Str), ("other" : Str)] (spP K 2 (v_is_within C_NotUsable)) := fnP F sc_is_within fun cdv A outer s H D E hr tk hp hG => by
  have nd := sc_is_within.nd
  exact (dsone (dret (dcb (cr_all rfl) kAll B.all (by decide +kernel) (dacons (dlc0 (own := [("house", 2)]) rfl nd (diany (dvar 0)) (blkOk_by (by rfl)) (fun _ _ _ _ _ => (dgN 2 nd)) (tgN 2) (towN (by decide)) (fun _ _ _ _ _ => (dcmp (op_inX (hu65 hr)) kInX (dvar 2) (dvar 1)))) danil))))
abbrev s_is_below : Stmt := top 11
theorem sc_is_below : FnScope [("lot" : Str), ("other" : Str)] [("lot" : Str), ("other" : Str)] (defScope s_is_below) := ⟨rfl, rfl, rfl, by decide +kernel, rfl, by decide +kernel, by decide +kernel⟩
def p_is_below (C_NotUsable : Addr) : SFn Unit := (sRet (fAnd (fOp oLtS (fCB bLen (aCons (fVar 0) aNil)) (fCB bLen (aCons (fVar 1) aNil))) (fCall 2 (v_is_within C_NotUsable) (aCons (fVar 0) (aCons (fVar 1) aNil)))))
def v_is_below (C_NotUsable : Addr) : List PyData → Out Unit := runP [("lot" : Str), ("other" : Str)] (p_is_below C_NotUsable)
theorem f_is_below (B : Bk mg) (e_NotUsable : Ex2 P w K mg base "NotUsable" C_NotUsable "word" "at") (c_is_within : Dfn gd P w K mg base 1 "is_within" 2 (v_is_within C_NotUsable)) {f : Addr} {fd : FuncData} (F : Fun K "is_below" "is_below" s_is_below f fd) : FnG gd P w K mg base 2 f fd [("lot" : Str), ("other" : Str)] (spP K 2 (v_is_below C_NotUsable)) := fnP F sc_is_below fun cdv A outer s H D E hr tk hp hG => by
  have nd := sc_is_below.nd
  exact (dsone (dret (dand (dcmp (op_ltS (hu64 hr)) kLtS (dcb call_len kLen B.len (by decide +kernel) (dacons (dvar 0) danil)) (dcb call_len kLen B.len (by decide +kernel) (dacons (dvar 1) danil))) (done1 (dcallD tk hG c_is_within (hr.mono (by omega)) (dacons (dvar 0) (dacons (dvar 1) danil)))))))
abbrev s_right_lot : Stmt := top 12
theorem sc_right_lot : FnScope [("many" : Str), ("thing" : Str), ("house" : Str)] [("many" : Str), ("thing" : Str)] (defScope s_right_lot) := ⟨rfl, rfl, rfl, by decide +kernel, rfl, by decide +kernel, by decide +kernel⟩
def p_right_lot (C_NotUsable : Addr) : SFn Unit := (sSeq (sIf (fOr (fNot (fIsi "tuple" (fVar 1))) (fNot (fCB bAll (aCons (fLc [2] (iAny (fVar 1)) (asgN 2) fYes (fCall 2 (v_is_index C_NotUsable) (aCons (fVar 0) (aCons (fVar 2) aNil)))) aNil)))) (sRet (fC (.bool false))) sNil)
  (sRet (fCall 1 (v_is_ascending C_NotUsable) (aCons (fVar 1) aNil))))
def v_right_lot (C_NotUsable : Addr) : List PyData → Out Unit := runP [("many" : Str), ("thing" : Str), ("house" : Str)] (p_right_lot C_NotUsable)
theorem f_right_lot (B : Bk mg) (e_NotUsable : Ex2 P w K mg base "NotUsable" C_NotUsable "word" "at") (c_is_ascending : Dfn gd P w K mg base 1 "is_ascending" 1 (v_is_ascending C_NotUsable)) (c_is_index : Dfn gd P w K mg base 3 "is_index" 2 (v_is_index C_NotUsable)) {f : Addr} {fd : FuncData} (F : Fun K "right_lot" "right_lot" s_right_lot f fd) : FnG gd P w K mg base 4 f fd [("many" : Str), ("thing" : Str)] (spP K 2 (v_right_lot C_NotUsable)) := fnP F sc_right_lot fun cdv A outer s H D E hr tk hp hG => by
  have nd := sc_right_lot.nd
  exact (dscons (dif_ (dtw (dwor (dtnot (dtval (disi (dvar 1) B.isinstance B.tuple (by decide +kernel)))) (dwor1 (dtnot (dtval (dcb (cr_all rfl) kAll B.all (by decide +kernel) (dacons (dlc0 (own := [("house", 2)]) rfl nd (diany (dvar 1)) (blkOk_by (by rfl)) (fun _ _ _ _ _ => (dgN 2 nd)) (tgN 2) (towN (by decide)) (fun _ _ _ _ _ => (dcallD takes0 hG c_is_index (hr.mono (by omega)) (dacons (dvar 0) (dacons (dvar 2) danil))))) danil))))))) (dsone (dret dbl)) dsnil)
  (dsone (dret (dcallD tk hG c_is_ascending (hr.mono (by omega)) (dacons (dvar 1) danil)))))
abbrev s_right_fears : Stmt := top 13
theorem sc_right_fears : FnScope [("many" : Str), ("thing" : Str), ("lot" : Str), ("other" : Str)] [("many" : Str), ("thing" : Str)] (defScope s_right_fears) := ⟨rfl, rfl, rfl, by decide +kernel, rfl, by decide +kernel, by decide +kernel⟩
def p_right_fears (C_NotUsable : Addr) : SFn Unit := (sSeq (sIf (fOr (fNot (fIsi "tuple" (fVar 1))) (fOp oEqS (fCB bLen (aCons (fVar 1) aNil)) (fC (.int 0)))) (sRet (fC (.bool false))) sNil)
  (sSeq (sIf (fOr (fNot (fCB bAll (aCons (fLc [2] (iAny (fVar 1)) (asgN 2) fYes (fCall 2 (v_right_lot C_NotUsable) (aCons (fVar 0) (aCons (fVar 2) aNil)))) aNil))) (fNot (fCall 1 (v_is_ascending C_NotUsable) (aCons (fVar 1) aNil)))) (sRet (fC (.bool false))) sNil)
  (sRet (fNot (fCB bAny (aCons (fLc2 [2, 3] [3] (iAny (fVar 1)) (asgN 2) fYes (iAny (fVar 1)) (asgN 3) fYes (fCall 2 (v_is_below C_NotUsable) (aCons (fVar 2) (aCons (fVar 3) aNil)))) aNil))))))
def v_right_fears (C_NotUsable : Addr) : List PyData → Out Unit := runP [("many" : Str), ("thing" : Str), ("lot" : Str), ("other" : Str)] (p_right_fears C_NotUsable)
theorem f_right_fears (B : Bk mg) (e_NotUsable : Ex2 P w K mg base "NotUsable" C_NotUsable "word" "at") (c_is_ascending : Dfn gd P w K mg base 1 "is_ascending" 1 (v_is_ascending C_NotUsable)) (c_is_below : Dfn gd P w K mg base 2 "is_below" 2 (v_is_below C_NotUsable)) (c_right_lot : Dfn gd P w K mg base 4 "right_lot" 2 (v_right_lot C_NotUsable)) {f : Addr} {fd : FuncData} (F : Fun K "right_fears" "right_fears" s_right_fears f fd) : FnG gd P w K mg base 5 f fd [("many" : Str), ("thing" : Str)] (spP K 2 (v_right_fears C_NotUsable)) := fnP F sc_right_fears fun cdv A outer s H D E hr tk hp hG => by
  have nd := sc_right_fears.nd
  exact (dscons (dif_ (dtw (dwor (dtnot (dtval (disi (dvar 1) B.isinstance B.tuple (by decide +kernel)))) (dwor1 (dtcmp (op_eqS (hu64 hr)) kEqS (dcb call_len kLen B.len (by decide +kernel) (dacons (dvar 1) danil)) dint)))) (dsone (dret dbl)) dsnil)
  (dscons (dif_ (dtw (dwor (dtnot (dtval (dcb (cr_all rfl) kAll B.all (by decide +kernel) (dacons (dlc0 (own := [("lot", 2)]) rfl nd (diany (dvar 1)) (blkOk_by (by rfl)) (fun _ _ _ _ _ => (dgN 2 nd)) (tgN 2) (towN (by decide)) (fun _ _ _ _ _ => (dcallD takes0 hG c_right_lot (hr.mono (by omega)) (dacons (dvar 0) (dacons (dvar 2) danil))))) danil)))) (dwor1 (dtnot (dtval (dcallD tk hG c_is_ascending (hr.mono (by omega)) (dacons (dvar 1) danil))))))) (dsone (dret dbl)) dsnil)
  (dsone (dret (dnot (dcb (cr_any rfl) kAny B.any (by decide +kernel) (dacons (dlc200 (own := [("lot", 2), ("other", 3)]) (own1 := [3]) rfl nd (diany (dvar 1)) (blkOk_by (by rfl)) (by decide) (fun _ _ _ _ _ => (dgN 2 nd)) (tgN 2) (towN (by decide)) tmN adN (fun _ _ _ _ _ => (diany (dvar 1))) (fun _ _ _ _ _ => (dgN 3 nd)) (tgN 3) (towN (by decide)) (fun _ _ _ _ _ => (dcallD takes0 hG c_is_below (hr.mono (by omega)) (dacons (dvar 2) (dacons (dvar 3) danil))))) danil)))))))
abbrev s_need : Stmt := top 15
theorem sc_need : FnScope [("holds" : Str), ("word" : Str)] [("holds" : Str), ("word" : Str)] (defScope s_need) := ⟨rfl, rfl, rfl, by decide +kernel, rfl, by decide +kernel, by decide +kernel⟩
def p_need (C_NotUsable : Addr) : SFn Unit := (sIf (fNot (fVar 0)) (sRaise2 C_NotUsable "word" "at" (aCons (fVar 1) (aCons (fUn oNeg (fC (.int 1))) aNil))) sNil)
def v_need (C_NotUsable : Addr) : List PyData → Out Unit := runP [("holds" : Str), ("word" : Str)] (p_need C_NotUsable)
theorem f_need (B : Bk mg) (e_NotUsable : Ex2 P w K mg base "NotUsable" C_NotUsable "word" "at") {f : Addr} {fd : FuncData} (F : Fun K "need" "need" s_need f fd) : FnG gd P w K mg base 3 f fd [("holds" : Str), ("word" : Str)] (spP K 2 (v_need C_NotUsable)) := fnP F sc_need fun cdv A outer s H D E hr tk hp hG => by
  have nd := sc_need.nd
  exact (dsone (dif_ (dtnot (dtval (dvar 0))) (dsone (draise2 (k := 0) tk e_NotUsable rfl (hr.mono (by omega)) (dacons (dvar 1) (dacons (dun un_neg kNeg dint) danil)))) dsnil))
abbrev s_need_many : Stmt := top 16
theorem sc_need_many : FnScope [("many" : Str)] [("many" : Str)] (defScope s_need_many) := ⟨rfl, rfl, rfl, by decide +kernel, rfl, by decide +kernel, by decide +kernel⟩
def p_need_many (C_NotUsable : Addr) : SFn Unit := (sDrop (fCall 2 (v_need C_NotUsable) (aCons (fCall 1 (v_is_many C_NotUsable) (aCons (fVar 0) aNil)) (aCons (fC (.str "many")) aNil))))
def v_need_many (C_NotUsable : Addr) : List PyData → Out Unit := runP [("many" : Str)] (p_need_many C_NotUsable)
theorem f_need_many (B : Bk mg) (e_NotUsable : Ex2 P w K mg base "NotUsable" C_NotUsable "word" "at") (c_is_many : Dfn gd P w K mg base 2 "is_many" 1 (v_is_many C_NotUsable)) (c_need : Dfn gd P w K mg base 3 "need" 2 (v_need C_NotUsable)) {f : Addr} {fd : FuncData} (F : Fun K "need_many" "need_many" s_need_many f fd) : FnG gd P w K mg base 4 f fd [("many" : Str)] (spP K 1 (v_need_many C_NotUsable)) := fnP F sc_need_many fun cdv A outer s H D E hr tk hp hG => by
  have nd := sc_need_many.nd
  exact (dsone (dexpr (dcallD tk hG c_need (hr.mono (by omega)) (dacons (dcallD tk hG c_is_many (hr.mono (by omega)) (dacons (dvar 0) danil)) (dacons dstr danil)))))
abbrev s_need_fears : Stmt := top 17
theorem sc_need_fears : FnScope [("many" : Str), ("fears" : Str)] [("many" : Str), ("fears" : Str)] (defScope s_need_fears) := ⟨rfl, rfl, rfl, by decide +kernel, rfl, by decide +kernel, by decide +kernel⟩
def p_need_fears (C_NotUsable : Addr) : SFn Unit := (sSeq (sDrop (fCall 1 (v_need_many C_NotUsable) (aCons (fVar 0) aNil)))
  (sDrop (fCall 2 (v_need C_NotUsable) (aCons (fCall 2 (v_right_fears C_NotUsable) (aCons (fVar 0) (aCons (fVar 1) aNil))) (aCons (fC (.str "fears")) aNil)))))
def v_need_fears (C_NotUsable : Addr) : List PyData → Out Unit := runP [("many" : Str), ("fears" : Str)] (p_need_fears C_NotUsable)
theorem f_need_fears (B : Bk mg) (e_NotUsable : Ex2 P w K mg base "NotUsable" C_NotUsable "word" "at") (c_need : Dfn gd P w K mg base 3 "need" 2 (v_need C_NotUsable)) (c_need_many : Dfn gd P w K mg base 4 "need_many" 1 (v_need_many C_NotUsable)) (c_right_fears : Dfn gd P w K mg base 5 "right_fears" 2 (v_right_fears C_NotUsable)) {f : Addr} {fd : FuncData} (F : Fun K "need_fears" "need_fears" s_need_fears f fd) : FnG gd P w K mg base 6 f fd [("many" : Str), ("fears" : Str)] (spP K 2 (v_need_fears C_NotUsable)) := fnP F sc_need_fears fun cdv A outer s H D E hr tk hp hG => by
  have nd := sc_need_fears.nd
  exact (dscons (dexpr (dcallD tk hG c_need_many (hr.mono (by omega)) (dacons (dvar 0) danil)))
  (dsone (dexpr (dcallD tk hG c_need (hr.mono (by omega)) (dacons (dcallD tk hG c_right_fears (hr.mono (by omega)) (dacons (dvar 0) (dacons (dvar 1) danil))) (dacons dstr danil))))))
abbrev s_need_lot : Stmt := top 18
theorem sc_need_lot : FnScope [("many" : Str), ("lot" : Str)] [("many" : Str), ("lot" : Str)] (defScope s_need_lot) := ⟨rfl, rfl, rfl, by decide +kernel, rfl, by decide +kernel, by decide +kernel⟩
def p_need_lot (C_NotUsable : Addr) : SFn Unit := (sDrop (fCall 2 (v_need C_NotUsable) (aCons (fCall 2 (v_right_lot C_NotUsable) (aCons (fVar 0) (aCons (fVar 1) aNil))) (aCons (fC (.str "lot")) aNil))))
def v_need_lot (C_NotUsable : Addr) : List PyData → Out Unit := runP [("many" : Str), ("lot" : Str)] (p_need_lot C_NotUsable)
theorem f_need_lot (B : Bk mg) (e_NotUsable : Ex2 P w K mg base "NotUsable" C_NotUsable "word" "at") (c_need : Dfn gd P w K mg base 3 "need" 2 (v_need C_NotUsable)) (c_right_lot : Dfn gd P w K mg base 4 "right_lot" 2 (v_right_lot C_NotUsable)) {f : Addr} {fd : FuncData} (F : Fun K "need_lot" "need_lot" s_need_lot f fd) : FnG gd P w K mg base 5 f fd [("many" : Str), ("lot" : Str)] (spP K 2 (v_need_lot C_NotUsable)) := fnP F sc_need_lot fun cdv A outer s H D E hr tk hp hG => by
  have nd := sc_need_lot.nd
  exact (dsone (dexpr (dcallD tk hG c_need (hr.mono (by omega)) (dacons (dcallD tk hG c_right_lot (hr.mono (by omega)) (dacons (dvar 0) (dacons (dvar 1) danil))) (dacons dstr danil)))))
abbrev s_need_house : Stmt := top 19
theorem sc_need_house : FnScope [("many" : Str), ("house" : Str)] [("many" : Str), ("house" : Str)] (defScope s_need_house) := ⟨rfl, rfl, rfl, by decide +kernel, rfl, by decide +kernel, by decide +kernel⟩
def p_need_house (C_NotUsable : Addr) : SFn Unit := (sDrop (fCall 2 (v_need C_NotUsable) (aCons (fCall 2 (v_is_index C_NotUsable) (aCons (fVar 0) (aCons (fVar 1) aNil))) (aCons (fC (.str "house")) aNil))))
def v_need_house (C_NotUsable : Addr) : List PyData → Out Unit := runP [("many" : Str), ("house" : Str)] (p_need_house C_NotUsable)
theorem f_need_house (B : Bk mg) (e_NotUsable : Ex2 P w K mg base "NotUsable" C_NotUsable "word" "at") (c_is_index : Dfn gd P w K mg base 3 "is_index" 2 (v_is_index C_NotUsable)) (c_need : Dfn gd P w K mg base 3 "need" 2 (v_need C_NotUsable)) {f : Addr} {fd : FuncData} (F : Fun K "need_house" "need_house" s_need_house f fd) : FnG gd P w K mg base 4 f fd [("many" : Str), ("house" : Str)] (spP K 2 (v_need_house C_NotUsable)) := fnP F sc_need_house fun cdv A outer s H D E hr tk hp hG => by
  have nd := sc_need_house.nd
  exact (dsone (dexpr (dcallD tk hG c_need (hr.mono (by omega)) (dacons (dcallD tk hG c_is_index (hr.mono (by omega)) (dacons (dvar 0) (dacons (dvar 1) danil))) (dacons dstr danil)))))
abbrev s_need_two : Stmt := top 20
theorem sc_need_two : FnScope [("many" : Str), ("one" : Str), ("other" : Str)] [("many" : Str), ("one" : Str), ("other" : Str)] (defScope s_need_two) := ⟨rfl, rfl, rfl, by decide +kernel, rfl, by decide +kernel, by decide +kernel⟩
def p_need_two (C_NotUsable : Addr) : SFn Unit := (sSeq (sDrop (fCall 2 (v_need C_NotUsable) (aCons (fCall 2 (v_is_index C_NotUsable) (aCons (fVar 0) (aCons (fVar 1) aNil))) (aCons (fC (.str "one")) aNil))))
  (sDrop (fCall 2 (v_need C_NotUsable) (aCons (fAnd (fCall 2 (v_is_index C_NotUsable) (aCons (fVar 0) (aCons (fVar 2) aNil))) (fOp oNeS (fVar 1) (fVar 2))) (aCons (fC (.str "other")) aNil)))))
def v_need_two (C_NotUsable : Addr) : List PyData → Out Unit := runP [("many" : Str), ("one" : Str), ("other" : Str)] (p_need_two C_NotUsable)
theorem f_need_two (B : Bk mg) (e_NotUsable : Ex2 P w K mg base "NotUsable" C_NotUsable "word" "at") (c_is_index : Dfn gd P w K mg base 3 "is_index" 2 (v_is_index C_NotUsable)) (c_need : Dfn gd P w K mg base 3 "need" 2 (v_need C_NotUsable)) {f : Addr} {fd : FuncData} (F : Fun K "need_two" "need_two" s_need_two f fd) : FnG gd P w K mg base 4 f fd [("many" : Str), ("one" : Str), ("other" : Str)] (spP K 3 (v_need_two C_NotUsable)) := fnP F sc_need_two fun cdv A outer s H D E hr tk hp hG => by
  have nd := sc_need_two.nd
  exact (dscons (dexpr (dcallD tk hG c_need (hr.mono (by omega)) (dacons (dcallD tk hG c_is_index (hr.mono (by omega)) (dacons (dvar 0) (dacons (dvar 1) danil))) (dacons dstr danil))))
  (dsone (dexpr (dcallD tk hG c_need (hr.mono (by omega)) (dacons (dand (dcallD tk hG c_is_index (hr.mono (by omega)) (dacons (dvar 0) (dacons (dvar 2) danil))) (done1 (dcmp (op_neS (hu64 hr)) kNeS (dvar 1) (dvar 2)))) (dacons dstr danil))))))
abbrev s_rest_of : Stmt := top 22
theorem sc_rest_of : FnScope [("many" : Str), ("lot" : Str), ("house" : Str)] [("many" : Str), ("lot" : Str)] (defScope s_rest_of) := ⟨rfl, rfl, rfl, by decide +kernel, rfl, by decide +kernel, by decide +kernel⟩
def p_rest_of (C_NotUsable : Addr) : SFn Unit := (sRet (fCB bTuple (aCons (fLc [2] (iRng1F (aCons (fVar 0) aNil)) (asgN 2) (fOp (oInX true) (fVar 2) (fVar 1)) (fVar 2)) aNil)))
def v_rest_of (C_NotUsable : Addr) : List PyData → Out Unit := runP [("many" : Str), ("lot" : Str), ("house" : Str)] (p_rest_of C_NotUsable)
theorem f_rest_of (B : Bk mg) (e_NotUsable : Ex2 P w K mg base "NotUsable" C_NotUsable "word" "at") {f : Addr} {fd : FuncData} (F : Fun K "rest_of" "rest_of" s_rest_of f fd) : FnG gd P w K mg base 1 f fd [("many" : Str), ("lot" : Str)] (spP K 2 (v_rest_of C_NotUsable)) := fnP F sc_rest_of fun cdv A outer s H D E hr tk hp hG => by
  have nd := sc_rest_of.nd
  exact (dsone (dret (dct call_tuple_of kTuple B.tuple (by decide +kernel) (dacons (dlc1 (own := [("house", 2)]) rfl nd (dirng1 rfl B.range (dacons (dvar 0) danil)) (blkOk_by (by rfl)) (fun _ _ _ _ _ => (dgN 2 nd)) (tgN 2) (towN (by decide)) (fun _ _ _ _ _ => (dtcmp (op_notInX (hu65 hr)) kNotInX (dvar 2) (dvar 1))) (fun _ _ _ _ _ => (dvar 2))) danil))))
abbrev s_every_lot : Stmt := top 23
theorem sc_every_lot : FnScope [("many" : Str), ("found" : Str), ("house" : Str), ("lot" : Str)] [("many" : Str)] (defScope s_every_lot) := ⟨rfl, rfl, rfl, by decide +kernel, rfl, by decide +kernel, by decide +kernel⟩
def p_every_lot (C_NotUsable : Addr) : SFn Unit := (sSeq (sAsg 1 (fLst (aCons (fTup aNil) aNil)))
  (sSeq (sFor (iRng1F (aCons (fVar 0) aNil)) (asgN 2) (sFrz 1 (sAsg 1 (fOp oAddC (fVar 1) (fLc [3] (iAny (fVar 1)) (asgN 3) fYes (fTup (aStar (fVar 3) (aCons (fVar 2) aNil))))))))
  (sRet (fCB bTuple (aCons (fCB bSorted (aCons (fVar 1) aNil)) aNil)))))
def v_every_lot (C_NotUsable : Addr) : List PyData → Out Unit := runP [("many" : Str), ("found" : Str), ("house" : Str), ("lot" : Str)] (p_every_lot C_NotUsable)
theorem f_every_lot (B : Bk mg) (e_NotUsable : Ex2 P w K mg base "NotUsable" C_NotUsable "word" "at") {f : Addr} {fd : FuncData} (F : Fun K "every_lot" "every_lot" s_every_lot f fd) : FnG gd P w K mg base 1 f fd [("many" : Str)] (spP K 1 (v_every_lot C_NotUsable)) := fnP F sc_every_lot fun cdv A outer s H D E hr tk hp hG => by
  have nd := sc_every_lot.nd
  exact (dscons (dset 1 nd (dlst (dacons (dtup danil) danil)))
  (dscons (dfor hp rfl (dirng1 rfl B.range (dacons (dvar 0) danil)) (dgN 2 nd) (tgN 2) (dsfrz 1 (dsone (dset 1 nd (dop op_addL kAddC (dvar 1) (dlc0 (own := [("lot", 3)]) rfl nd (diany (dvar 1)) (blkOk_by (by rfl)) (fun _ _ _ _ _ => (dgN 3 nd)) (tgN 3) (towN (by decide)) (fun _ _ _ _ _ => (dtup (dastar (dvar 3) (dacons (dvar 2) danil))))))))))
  (dsone (dret (dct call_tuple_of kTuple B.tuple (by decide +kernel) (dacons (dcb (cr_sortA (hu64 hr)) kSorted B.sorted (by decide +kernel) (dacons (dvar 1) danil)) danil))))))
abbrev s_lots_of_few : Stmt := top 27
theorem sc_lots_of_few : FnScope [("many" : Str), ("few" : Str), ("lot" : Str)] [("many" : Str), ("few" : Str)] (defScope s_lots_of_few) := ⟨rfl, rfl, rfl, by decide +kernel, rfl, by decide +kernel, by decide +kernel⟩
def p_lots_of_few (C_NotUsable : Addr) : SFn Unit := (sRet (fCB bTuple (aCons (fLc [2] (iAny (fFrz (fCall 1 (v_every_lot C_NotUsable) (aCons (fVar 0) aNil)))) (asgN 2) (fOp oEqS (fCB bLen (aCons (fVar 2) aNil)) (fVar 1)) (fVar 2)) aNil)))
def v_lots_of_few (C_NotUsable : Addr) : List PyData → Out Unit := runP [("many" : Str), ("few" : Str), ("lot" : Str)] (p_lots_of_few C_NotUsable)
theorem f_lots_of_few (B : Bk mg) (e_NotUsable : Ex2 P w K mg base "NotUsable" C_NotUsable "word" "at") (c_every_lot : Dfn gd P w K mg base 1 "every_lot" 1 (v_every_lot C_NotUsable)) {f : Addr} {fd : FuncData} (F : Fun K "lots_of_few" "lots_of_few" s_lots_of_few f fd) : FnG gd P w K mg base 2 f fd [("many" : Str), ("few" : Str)] (spP K 2 (v_lots_of_few C_NotUsable)) := fnP F sc_lots_of_few fun cdv A outer s H D E hr tk hp hG => by
  have nd := sc_lots_of_few.nd
  exact (dsone (dret (dct call_tuple_of kTuple B.tuple (by decide +kernel) (dacons (dlc1 (own := [("lot", 2)]) rfl nd (diany (dfrz (dcallD tk hG c_every_lot (hr.mono (by omega)) (dacons (dvar 0) danil)))) (blkOk_by (by rfl)) (fun _ _ _ _ _ => (dgN 2 nd)) (tgN 2) (towN (by decide)) (fun _ _ _ _ _ => (dtcmp (op_eqS (hu64 hr)) kEqS (dcb call_len kLen B.len (by decide +kernel) (dacons (dvar 2) danil)) (dvar 1))) (fun _ _ _ _ _ => (dvar 2))) danil))))
abbrev s_few_fears : Stmt := top 25
theorem sc_few_fears : FnScope [("many" : Str), ("few" : Str)] [("many" : Str), ("few" : Str)] (defScope s_few_fears) := ⟨rfl, rfl, rfl, by decide +kernel, rfl, by decide +kernel, by decide +kernel⟩
def p_few_fears (C_NotUsable : Addr) : SFn Unit := (sSeq (sDrop (fCall 1 (v_need_many C_NotUsable) (aCons (fVar 0) aNil)))
  (sSeq (sDrop (fCall 2 (v_need C_NotUsable) (aCons (fAnd (fCall 1 (v_is_number C_NotUsable) (aCons (fVar 1) aNil)) (fOp oLe (fVar 1) (fVar 0))) (aCons (fC (.str "few")) aNil))))
  (sRet (fCall 2 (v_lots_of_few C_NotUsable) (aCons (fVar 0) (aCons (fVar 1) aNil))))))
def v_few_fears (C_NotUsable : Addr) : List PyData → Out Unit := runP [("many" : Str), ("few" : Str)] (p_few_fears C_NotUsable)
theorem f_few_fears (B : Bk mg) (e_NotUsable : Ex2 P w K mg base "NotUsable" C_NotUsable "word" "at") (c_is_number : Dfn gd P w K mg base 2 "is_number" 1 (v_is_number C_NotUsable)) (c_lots_of_few : Dfn gd P w K mg base 2 "lots_of_few" 2 (v_lots_of_few C_NotUsable)) (c_need : Dfn gd P w K mg base 3 "need" 2 (v_need C_NotUsable)) (c_need_many : Dfn gd P w K mg base 4 "need_many" 1 (v_need_many C_NotUsable)) {f : Addr} {fd : FuncData} (F : Fun K "few_fears" "few_fears" s_few_fears f fd) : FnG gd P w K mg base 5 f fd [("many" : Str), ("few" : Str)] (spP K 2 (v_few_fears C_NotUsable)) := fnP F sc_few_fears fun cdv A outer s H D E hr tk hp hG => by
  have nd := sc_few_fears.nd
  exact (dscons (dexpr (dcallD tk hG c_need_many (hr.mono (by omega)) (dacons (dvar 0) danil)))
  (dscons (dexpr (dcallD tk hG c_need (hr.mono (by omega)) (dacons (dand (dcallD tk hG c_is_number (hr.mono (by omega)) (dacons (dvar 1) danil)) (done1 (dcmp op_le kLe (dvar 1) (dvar 0)))) (dacons dstr danil))))
  (dsone (dret (dcallD tk hG c_lots_of_few (hr.mono (by omega)) (dacons (dvar 0) (dacons (dvar 1) danil)))))))
abbrev s_feared_by : Stmt := top 26
theorem sc_feared_by : FnScope [("fears" : Str), ("lot" : Str), ("fear" : Str)] [("fears" : Str), ("lot" : Str)] (defScope s_feared_by) := ⟨rfl, rfl, rfl, by decide +kernel, rfl, by decide +kernel, by decide +kernel⟩
def p_feared_by (C_NotUsable : Addr) : SFn Unit := (sRet (fCB bAny (aCons (fLc [2] (iAny (fVar 0)) (asgN 2) fYes (fCall 2 (v_is_within C_NotUsable) (aCons (fVar 1) (aCons (fVar 2) aNil)))) aNil)))
def v_feared_by (C_NotUsable : Addr) : List PyData → Out Unit := runP [("fears" : Str), ("lot" : Str), ("fear" : Str)] (p_feared_by C_NotUsable)
theorem f_feared_by (B : Bk mg) (e_NotUsable : Ex2 P w K mg base "NotUsable" C_NotUsable "word" "at") (c_is_within : Dfn gd P w K mg base 1 "is_within" 2 (v_is_within C_NotUsable)) {f : Addr} {fd : FuncData} (F : Fun K "feared_by" "feared_by" s_feared_by f fd) : FnG gd P w K mg base 2 f fd [("fears" : Str), ("lot" : Str)] (spP K 2 (v_feared_by C_NotUsable)) := fnP F sc_feared_by fun cdv A outer s H D E hr tk hp hG => by
  have nd := sc_feared_by.nd
  exact (dsone (dret (dcb (cr_any rfl) kAny B.any (by decide +kernel) (dacons (dlc0 (own := [("fear", 2)]) rfl nd (diany (dvar 0)) (blkOk_by (by rfl)) (fun _ _ _ _ _ => (dgN 2 nd)) (tgN 2) (towN (by decide)) (fun _ _ _ _ _ => (dcallD takes0 hG c_is_within (hr.mono (by omega)) (dacons (dvar 1) (dacons (dvar 2) danil))))) danil))))
abbrev s_parts : Stmt := top 34
theorem sc_parts : FnScope [("many" : Str), ("fears" : Str), ("lot" : Str)] [("many" : Str), ("fears" : Str), ("lot" : Str)] (defScope s_parts) := ⟨rfl, rfl, rfl, by decide +kernel, rfl, by decide +kernel, by decide +kernel⟩
def p_parts (C_NotUsable : Addr) : SFn Unit := (sRet (fAnd (fCall 2 (v_feared_by C_NotUsable) (aCons (fVar 1) (aCons (fVar 2) aNil))) (fCall 2 (v_feared_by C_NotUsable) (aCons (fVar 1) (aCons (fCall 2 (v_rest_of C_NotUsable) (aCons (fVar 0) (aCons (fVar 2) aNil))) aNil)))))
def v_parts (C_NotUsable : Addr) : List PyData → Out Unit := runP [("many" : Str), ("fears" : Str), ("lot" : Str)] (p_parts C_NotUsable)
theorem f_parts (B : Bk mg) (e_NotUsable : Ex2 P w K mg base "NotUsable" C_NotUsable "word" "at") (c_feared_by : Dfn gd P w K mg base 2 "feared_by" 2 (v_feared_by C_NotUsable)) (c_rest_of : Dfn gd P w K mg base 1 "rest_of" 2 (v_rest_of C_NotUsable)) {f : Addr} {fd : FuncData} (F : Fun K "parts" "parts" s_parts f fd) : FnG gd P w K mg base 3 f fd [("many" : Str), ("fears" : Str), ("lot" : Str)] (spP K 3 (v_parts C_NotUsable)) := fnP F sc_parts fun cdv A outer s H D E hr tk hp hG => by
  have nd := sc_parts.nd
  exact (dsone (dret (dand (dcallD tk hG c_feared_by (hr.mono (by omega)) (dacons (dvar 1) (dacons (dvar 2) danil))) (done1 (dcallD tk hG c_feared_by (hr.mono (by omega)) (dacons (dvar 1) (dacons (dcallD tk hG c_rest_of (hr.mono (by omega)) (dacons (dvar 0) (dacons (dvar 2) danil))) danil)))))))
abbrev s_is_parting : Stmt := top 29
theorem sc_is_parting : FnScope [("many" : Str), ("fears" : Str), ("lot" : Str)] [("many" : Str), ("fears" : Str), ("lot" : Str)] (defScope s_is_parting) := ⟨rfl, rfl, rfl, by decide +kernel, rfl, by decide +kernel, by decide +kernel⟩
def p_is_parting (C_NotUsable : Addr) : SFn Unit := (sSeq (sDrop (fCall 2 (v_need_fears C_NotUsable) (aCons (fVar 0) (aCons (fVar 1) aNil))))
  (sSeq (sDrop (fCall 2 (v_need_lot C_NotUsable) (aCons (fVar 0) (aCons (fVar 2) aNil))))
  (sRet (fCall 3 (v_parts C_NotUsable) (aCons (fVar 0) (aCons (fVar 1) (aCons (fVar 2) aNil)))))))
def v_is_parting (C_NotUsable : Addr) : List PyData → Out Unit := runP [("many" : Str), ("fears" : Str), ("lot" : Str)] (p_is_parting C_NotUsable)
theorem f_is_parting (B : Bk mg) (e_NotUsable : Ex2 P w K mg base "NotUsable" C_NotUsable "word" "at") (c_need_fears : Dfn gd P w K mg base 6 "need_fears" 2 (v_need_fears C_NotUsable)) (c_need_lot : Dfn gd P w K mg base 5 "need_lot" 2 (v_need_lot C_NotUsable)) (c_parts : Dfn gd P w K mg base 3 "parts" 3 (v_parts C_NotUsable)) {f : Addr} {fd : FuncData} (F : Fun K "is_parting" "is_parting" s_is_parting f fd) : FnG gd P w K mg base 7 f fd [("many" : Str), ("fears" : Str), ("lot" : Str)] (spP K 3 (v_is_parting C_NotUsable)) := fnP F sc_is_parting fun cdv A outer s H D E hr tk hp hG => by
  have nd := sc_is_parting.nd
  exact (dscons (dexpr (dcallD tk hG c_need_fears (hr.mono (by omega)) (dacons (dvar 0) (dacons (dvar 1) danil))))
  (dscons (dexpr (dcallD tk hG c_need_lot (hr.mono (by omega)) (dacons (dvar 0) (dacons (dvar 2) danil))))
  (dsone (dret (dcallD tk hG c_parts (hr.mono (by omega)) (dacons (dvar 0) (dacons (dvar 1) (dacons (dvar 2) danil))))))))
abbrev s_all_partings : Stmt := top 35
theorem sc_all_partings : FnScope [("many" : Str), ("fears" : Str), ("lot" : Str)] [("many" : Str), ("fears" : Str)] (defScope s_all_partings) := ⟨rfl, rfl, rfl, by decide +kernel, rfl, by decide +kernel, by decide +kernel⟩
def p_all_partings (C_NotUsable : Addr) : SFn Unit := (sRet (fCB bTuple (aCons (fLc [2] (iAny (fFrz (fCall 1 (v_every_lot C_NotUsable) (aCons (fVar 0) aNil)))) (asgN 2) (fCall 3 (v_parts C_NotUsable) (aCons (fVar 0) (aCons (fVar 1) (aCons (fVar 2) aNil)))) (fVar 2)) aNil)))
def v_all_partings (C_NotUsable : Addr) : List PyData → Out Unit := runP [("many" : Str), ("fears" : Str), ("lot" : Str)] (p_all_partings C_NotUsable)
theorem f_all_partings (B : Bk mg) (e_NotUsable : Ex2 P w K mg base "NotUsable" C_NotUsable "word" "at") (c_every_lot : Dfn gd P w K mg base 1 "every_lot" 1 (v_every_lot C_NotUsable)) (c_parts : Dfn gd P w K mg base 3 "parts" 3 (v_parts C_NotUsable)) {f : Addr} {fd : FuncData} (F : Fun K "all_partings" "all_partings" s_all_partings f fd) : FnG gd P w K mg base 4 f fd [("many" : Str), ("fears" : Str)] (spP K 2 (v_all_partings C_NotUsable)) := fnP F sc_all_partings fun cdv A outer s H D E hr tk hp hG => by
  have nd := sc_all_partings.nd
  exact (dsone (dret (dct call_tuple_of kTuple B.tuple (by decide +kernel) (dacons (dlc1 (own := [("lot", 2)]) rfl nd (diany (dfrz (dcallD tk hG c_every_lot (hr.mono (by omega)) (dacons (dvar 0) danil)))) (blkOk_by (by rfl)) (fun _ _ _ _ _ => (dgN 2 nd)) (tgN 2) (towN (by decide)) (fun _ _ _ _ _ => (dtval (dcallD takes0 hG c_parts (hr.mono (by omega)) (dacons (dvar 0) (dacons (dvar 1) (dacons (dvar 2) danil)))))) (fun _ _ _ _ _ => (dvar 2))) danil))))
abbrev s_partings_of : Stmt := top 30
theorem sc_partings_of : FnScope [("many" : Str), ("fears" : Str)] [("many" : Str), ("fears" : Str)] (defScope s_partings_of) := ⟨rfl, rfl, rfl, by decide +kernel, rfl, by decide +kernel, by decide +kernel⟩
def p_partings_of (C_NotUsable : Addr) : SFn Unit := (sSeq (sDrop (fCall 2 (v_need_fears C_NotUsable) (aCons (fVar 0) (aCons (fVar 1) aNil))))
  (sRet (fCall 2 (v_all_partings C_NotUsable) (aCons (fVar 0) (aCons (fVar 1) aNil)))))
def v_partings_of (C_NotUsable : Addr) : List PyData → Out Unit := runP [("many" : Str), ("fears" : Str)] (p_partings_of C_NotUsable)
theorem f_partings_of (B : Bk mg) (e_NotUsable : Ex2 P w K mg base "NotUsable" C_NotUsable "word" "at") (c_all_partings : Dfn gd P w K mg base 4 "all_partings" 2 (v_all_partings C_NotUsable)) (c_need_fears : Dfn gd P w K mg base 6 "need_fears" 2 (v_need_fears C_NotUsable)) {f : Addr} {fd : FuncData} (F : Fun K "partings_of" "partings_of" s_partings_of f fd) : FnG gd P w K mg base 7 f fd [("many" : Str), ("fears" : Str)] (spP K 2 (v_partings_of C_NotUsable)) := fnP F sc_partings_of fun cdv A outer s H D E hr tk hp hG => by
  have nd := sc_partings_of.nd
  exact (dscons (dexpr (dcallD tk hG c_need_fears (hr.mono (by omega)) (dacons (dvar 0) (dacons (dvar 1) danil))))
  (dsone (dret (dcallD tk hG c_all_partings (hr.mono (by omega)) (dacons (dvar 0) (dacons (dvar 1) danil))))))
abbrev s_parting_of : Stmt := top 31
theorem sc_parting_of : FnScope [("many" : Str), ("fears" : Str), ("one" : Str), ("other" : Str), ("lot" : Str)] [("many" : Str), ("fears" : Str), ("one" : Str), ("other" : Str)] (defScope s_parting_of) := ⟨rfl, rfl, rfl, by decide +kernel, rfl, by decide +kernel, by decide +kernel⟩
def p_parting_of (C_NotUsable : Addr) : SFn Unit := (sSeq (sDrop (fCall 2 (v_need_fears C_NotUsable) (aCons (fVar 0) (aCons (fVar 1) aNil))))
  (sSeq (sDrop (fCall 3 (v_need_two C_NotUsable) (aCons (fVar 0) (aCons (fVar 2) (aCons (fVar 3) aNil)))))
  (sSeq (sFor (iAny (fFrz (fCall 2 (v_all_partings C_NotUsable) (aCons (fVar 0) (aCons (fVar 1) aNil))))) (asgN 4) (sIf (fAnd (fOp (oInX false) (fVar 2) (fVar 4)) (fOp (oInX true) (fVar 3) (fVar 4))) (sRetV 4) sNil))
  (sRet (fC .none)))))
def v_parting_of (C_NotUsable : Addr) : List PyData → Out Unit := runP [("many" : Str), ("fears" : Str), ("one" : Str), ("other" : Str), ("lot" : Str)] (p_parting_of C_NotUsable)
theorem f_parting_of (B : Bk mg) (e_NotUsable : Ex2 P w K mg base "NotUsable" C_NotUsable "word" "at") (c_all_partings : Dfn gd P w K mg base 4 "all_partings" 2 (v_all_partings C_NotUsable)) (c_need_fears : Dfn gd P w K mg base 6 "need_fears" 2 (v_need_fears C_NotUsable)) (c_need_two : Dfn gd P w K mg base 4 "need_two" 3 (v_need_two C_NotUsable)) {f : Addr} {fd : FuncData} (F : Fun K "parting_of" "parting_of" s_parting_of f fd) : FnG gd P w K mg base 7 f fd [("many" : Str), ("fears" : Str), ("one" : Str), ("other" : Str)] (spP K 4 (v_parting_of C_NotUsable)) := fnP F sc_parting_of fun cdv A outer s H D E hr tk hp hG => by
  have nd := sc_parting_of.nd
  exact (dscons (dexpr (dcallD tk hG c_need_fears (hr.mono (by omega)) (dacons (dvar 0) (dacons (dvar 1) danil))))
  (dscons (dexpr (dcallD tk hG c_need_two (hr.mono (by omega)) (dacons (dvar 0) (dacons (dvar 2) (dacons (dvar 3) danil)))))
  (dscons (dfor hp rfl (diany (dfrz (dcallD tk hG c_all_partings (hr.mono (by omega)) (dacons (dvar 0) (dacons (dvar 1) danil))))) (dgN 4 nd) (tgN 4) (dsone (dif_ (dtw (dwand (dtcmp (op_inX (hu65 hr)) kInX (dvar 2) (dvar 4)) (dwand1 (dtcmp (op_notInX (hu65 hr)) kNotInX (dvar 3) (dvar 4))))) (dsone (dretv 4 (pv 4))) dsnil)))
  (dsone (dret dnon)))))
abbrev s_are_unparted : Stmt := top 38
theorem sc_are_unparted : FnScope [("partings" : Str), ("one" : Str), ("other" : Str), ("lot" : Str)] [("partings" : Str), ("one" : Str), ("other" : Str)] (defScope s_are_unparted) := ⟨rfl, rfl, rfl, by decide +kernel, rfl, by decide +kernel, by decide +kernel⟩
def p_are_unparted (C_NotUsable : Addr) : SFn Unit := (sRet (fCB bAll (aCons (fLc [3] (iAny (fVar 0)) (asgN 3) fYes (fOp oEqS (fOp (oInX false) (fVar 1) (fVar 3)) (fOp (oInX false) (fVar 2) (fVar 3)))) aNil)))
def v_are_unparted (C_NotUsable : Addr) : List PyData → Out Unit := runP [("partings" : Str), ("one" : Str), ("other" : Str), ("lot" : Str)] (p_are_unparted C_NotUsable)
theorem f_are_unparted (B : Bk mg) (e_NotUsable : Ex2 P w K mg base "NotUsable" C_NotUsable "word" "at") {f : Addr} {fd : FuncData} (F : Fun K "are_unparted" "are_unparted" s_are_unparted f fd) : FnG gd P w K mg base 1 f fd [("partings" : Str), ("one" : Str), ("other" : Str)] (spP K 3 (v_are_unparted C_NotUsable)) := fnP F sc_are_unparted fun cdv A outer s H D E hr tk hp hG => by
  have nd := sc_are_unparted.nd
  exact (dsone (dret (dcb (cr_all rfl) kAll B.all (by decide +kernel) (dacons (dlc0 (own := [("lot", 3)]) rfl nd (diany (dvar 0)) (blkOk_by (by rfl)) (fun _ _ _ _ _ => (dgN 3 nd)) (tgN 3) (towN (by decide)) (fun _ _ _ _ _ => (dcmp (op_eqS (hu64 hr)) kEqS (dcmp (op_inX (hu65 hr)) kInX (dvar 1) (dvar 3)) (dcmp (op_inX (hu65 hr)) kInX (dvar 2) (dvar 3))))) danil))))
abbrev s_unparted_from : Stmt := top 37
theorem sc_unparted_from : FnScope [("many" : Str), ("partings" : Str), ("house" : Str), ("other" : Str)] [("many" : Str), ("partings" : Str), ("house" : Str)] (defScope s_unparted_from) := ⟨rfl, rfl, rfl, by decide +kernel, rfl, by decide +kernel, by decide +kernel⟩
def p_unparted_from (C_NotUsable : Addr) : SFn Unit := (sRet (fCB bTuple (aCons (fLc [3] (iRng1F (aCons (fVar 0) aNil)) (asgN 3) (fCall 3 (v_are_unparted C_NotUsable) (aCons (fVar 1) (aCons (fVar 2) (aCons (fVar 3) aNil)))) (fVar 3)) aNil)))
def v_unparted_from (C_NotUsable : Addr) : List PyData → Out Unit := runP [("many" : Str), ("partings" : Str), ("house" : Str), ("other" : Str)] (p_unparted_from C_NotUsable)
theorem f_unparted_from (B : Bk mg) (e_NotUsable : Ex2 P w K mg base "NotUsable" C_NotUsable "word" "at") (c_are_unparted : Dfn gd P w K mg base 1 "are_unparted" 3 (v_are_unparted C_NotUsable)) {f : Addr} {fd : FuncData} (F : Fun K "unparted_from" "unparted_from" s_unparted_from f fd) : FnG gd P w K mg base 2 f fd [("many" : Str), ("partings" : Str), ("house" : Str)] (spP K 3 (v_unparted_from C_NotUsable)) := fnP F sc_unparted_from fun cdv A outer s H D E hr tk hp hG => by
  have nd := sc_unparted_from.nd
  exact (dsone (dret (dct call_tuple_of kTuple B.tuple (by decide +kernel) (dacons (dlc1 (own := [("other", 3)]) rfl nd (dirng1 rfl B.range (dacons (dvar 0) danil)) (blkOk_by (by rfl)) (fun _ _ _ _ _ => (dgN 3 nd)) (tgN 3) (towN (by decide)) (fun _ _ _ _ _ => (dtval (dcallD takes0 hG c_are_unparted (hr.mono (by omega)) (dacons (dvar 1) (dacons (dvar 2) (dacons (dvar 3) danil)))))) (fun _ _ _ _ _ => (dvar 3))) danil))))
abbrev s_all_atoms : Stmt := top 36
theorem sc_all_atoms : FnScope [("many" : Str), ("fears" : Str), ("partings" : Str), ("house" : Str)] [("many" : Str), ("fears" : Str)] (defScope s_all_atoms) := ⟨rfl, rfl, rfl, by decide +kernel, rfl, by decide +kernel, by decide +kernel⟩
def p_all_atoms (C_NotUsable : Addr) : SFn Unit := (sSeq (sAsg 2 (fCall 2 (v_all_partings C_NotUsable) (aCons (fVar 0) (aCons (fVar 1) aNil))))
  (sRet (fCB bTuple (aCons (fSortSc [3] (iRng1F (aCons (fVar 0) aNil)) (asgN 3) (fCall 3 (v_unparted_from C_NotUsable) (aCons (fVar 0) (aCons (fVar 2) (aCons (fVar 3) aNil))))) aNil))))
def v_all_atoms (C_NotUsable : Addr) : List PyData → Out Unit := runP [("many" : Str), ("fears" : Str), ("partings" : Str), ("house" : Str)] (p_all_atoms C_NotUsable)
theorem f_all_atoms (B : Bk mg) (e_NotUsable : Ex2 P w K mg base "NotUsable" C_NotUsable "word" "at") (c_all_partings : Dfn gd P w K mg base 4 "all_partings" 2 (v_all_partings C_NotUsable)) (c_unparted_from : Dfn gd P w K mg base 2 "unparted_from" 3 (v_unparted_from C_NotUsable)) {f : Addr} {fd : FuncData} (F : Fun K "all_atoms" "all_atoms" s_all_atoms f fd) : FnG gd P w K mg base 5 f fd [("many" : Str), ("fears" : Str)] (spP K 2 (v_all_atoms C_NotUsable)) := fnP F sc_all_atoms fun cdv A outer s H D E hr tk hp hG => by
  have nd := sc_all_atoms.nd
  exact (dscons (dset 2 nd (dcallD tk hG c_all_partings (hr.mono (by omega)) (dacons (dvar 0) (dacons (dvar 1) danil))))
  (dsone (dret (dct call_tuple_of kTuple B.tuple (by decide +kernel) (dacons (dsortSc (own := [("house", 3)]) rfl nd (dirng1 rfl B.range (dacons (dvar 0) danil)) (blkOk_by (by rfl)) (fun _ _ _ _ _ => (dgN 3 nd)) (tgN 3) (towN (by decide)) (fun _ _ _ _ _ => (dcallD takes0 hG c_unparted_from (hr.mono (by omega)) (dacons (dvar 0) (dacons (dvar 2) (dacons (dvar 3) danil))))) B.sorted (by decide +kernel) (hu64 hr)) danil)))))
abbrev s_atoms_of : Stmt := top 32
theorem sc_atoms_of : FnScope [("many" : Str), ("fears" : Str)] [("many" : Str), ("fears" : Str)] (defScope s_atoms_of) := ⟨rfl, rfl, rfl, by decide +kernel, rfl, by decide +kernel, by decide +kernel⟩
def p_atoms_of (C_NotUsable : Addr) : SFn Unit := (sSeq (sDrop (fCall 2 (v_need_fears C_NotUsable) (aCons (fVar 0) (aCons (fVar 1) aNil))))
  (sRet (fCall 2 (v_all_atoms C_NotUsable) (aCons (fVar 0) (aCons (fVar 1) aNil)))))
def v_atoms_of (C_NotUsable : Addr) : List PyData → Out Unit := runP [("many" : Str), ("fears" : Str)] (p_atoms_of C_NotUsable)
theorem f_atoms_of (B : Bk mg) (e_NotUsable : Ex2 P w K mg base "NotUsable" C_NotUsable "word" "at") (c_all_atoms : Dfn gd P w K mg base 5 "all_atoms" 2 (v_all_atoms C_NotUsable)) (c_need_fears : Dfn gd P w K mg base 6 "need_fears" 2 (v_need_fears C_NotUsable)) {f : Addr} {fd : FuncData} (F : Fun K "atoms_of" "atoms_of" s_atoms_of f fd) : FnG gd P w K mg base 7 f fd [("many" : Str), ("fears" : Str)] (spP K 2 (v_atoms_of C_NotUsable)) := fnP F sc_atoms_of fun cdv A outer s H D E hr tk hp hG => by
  have nd := sc_atoms_of.nd
  exact (dscons (dexpr (dcallD tk hG c_need_fears (hr.mono (by omega)) (dacons (dvar 0) (dacons (dvar 1) danil))))
  (dsone (dret (dcallD tk hG c_all_atoms (hr.mono (by omega)) (dacons (dvar 0) (dacons (dvar 1) danil))))))
abbrev s_atom_at : Stmt := top 33
theorem sc_atom_at : FnScope [("many" : Str), ("fears" : Str), ("house" : Str)] [("many" : Str), ("fears" : Str), ("house" : Str)] (defScope s_atom_at) := ⟨rfl, rfl, rfl, by decide +kernel, rfl, by decide +kernel, by decide +kernel⟩
def p_atom_at (C_NotUsable : Addr) : SFn Unit := (sSeq (sDrop (fCall 2 (v_need_fears C_NotUsable) (aCons (fVar 0) (aCons (fVar 1) aNil))))
  (sSeq (sDrop (fCall 2 (v_need_house C_NotUsable) (aCons (fVar 0) (aCons (fVar 2) aNil))))
  (sRet (fCall 3 (v_unparted_from C_NotUsable) (aCons (fVar 0) (aCons (fCall 2 (v_all_partings C_NotUsable) (aCons (fVar 0) (aCons (fVar 1) aNil))) (aCons (fVar 2) aNil)))))))
def v_atom_at (C_NotUsable : Addr) : List PyData → Out Unit := runP [("many" : Str), ("fears" : Str), ("house" : Str)] (p_atom_at C_NotUsable)
theorem f_atom_at (B : Bk mg) (e_NotUsable : Ex2 P w K mg base "NotUsable" C_NotUsable "word" "at") (c_all_partings : Dfn gd P w K mg base 4 "all_partings" 2 (v_all_partings C_NotUsable)) (c_need_fears : Dfn gd P w K mg base 6 "need_fears" 2 (v_need_fears C_NotUsable)) (c_need_house : Dfn gd P w K mg base 4 "need_house" 2 (v_need_house C_NotUsable)) (c_unparted_from : Dfn gd P w K mg base 2 "unparted_from" 3 (v_unparted_from C_NotUsable)) {f : Addr} {fd : FuncData} (F : Fun K "atom_at" "atom_at" s_atom_at f fd) : FnG gd P w K mg base 7 f fd [("many" : Str), ("fears" : Str), ("house" : Str)] (spP K 3 (v_atom_at C_NotUsable)) := fnP F sc_atom_at fun cdv A outer s H D E hr tk hp hG => by
  have nd := sc_atom_at.nd
  exact (dscons (dexpr (dcallD tk hG c_need_fears (hr.mono (by omega)) (dacons (dvar 0) (dacons (dvar 1) danil))))
  (dscons (dexpr (dcallD tk hG c_need_house (hr.mono (by omega)) (dacons (dvar 0) (dacons (dvar 2) danil))))
  (dsone (dret (dcallD tk hG c_unparted_from (hr.mono (by omega)) (dacons (dvar 0) (dacons (dcallD tk hG c_all_partings (hr.mono (by omega)) (dacons (dvar 0) (dacons (dvar 1) danil))) (dacons (dvar 2) danil))))))))
abbrev s__law_has : Stmt := top 41
theorem sc__law_has : FnScope [("_law_mark" : Str), ("_law_house" : Str), ("_law_k" : Str)] [("_law_mark" : Str), ("_law_house" : Str)] (defScope s__law_has) := ⟨rfl, rfl, rfl, by decide +kernel, rfl, by decide +kernel, by decide +kernel⟩
def p__law_has (C_NotUsable : Addr) : SFn Unit := (sSeq (sFor (iRng1F (aCons (fVar 1) aNil)) (asgN 2) (sAsg 0 (fOp oDiv (fVar 0) (fC (.int 2)))))
  (sRet (fOp oMod (fCB bInt (aCons (fVar 0) aNil)) (fC (.int 2)))))
def v__law_has (C_NotUsable : Addr) : List PyData → Out Unit := runP [("_law_mark" : Str), ("_law_house" : Str), ("_law_k" : Str)] (p__law_has C_NotUsable)
theorem f__law_has (B : Bk mg) (e_NotUsable : Ex2 P w K mg base "NotUsable" C_NotUsable "word" "at") {f : Addr} {fd : FuncData} (F : Fun K "_law_has" "_law_has" s__law_has f fd) : FnG gd P w K mg base 1 f fd [("_law_mark" : Str), ("_law_house" : Str)] (spP K 2 (v__law_has C_NotUsable)) := fnP F sc__law_has fun cdv A outer s H D E hr tk hp hG => by
  have nd := sc__law_has.nd
  exact (dscons (dfor hp rfl (dirng1 rfl B.range (dacons (dvar 1) danil)) (dgN 2 nd) (tgN 2) (dsone (dset 0 nd (dop op_fdivA kDiv (dvar 0) dint))))
  (dsone (dret (dop op_mod kMod (dct call_int1 kInt B.int (by decide +kernel) (dacons (dvar 0) danil)) dint))))
abbrev s__law_lot_of : Stmt := top 42
theorem sc__law_lot_of : FnScope [("_law_n" : Str), ("_law_mark" : Str), ("_law_house" : Str)] [("_law_n" : Str), ("_law_mark" : Str)] (defScope s__law_lot_of) := ⟨rfl, rfl, rfl, by decide +kernel, rfl, by decide +kernel, by decide +kernel⟩
def p__law_lot_of (C_NotUsable : Addr) : SFn Unit := (sRet (fCB bTuple (aCons (fLc [2] (iRng1F (aCons (fVar 0) aNil)) (asgN 2) (fOp oEqS (fCall 2 (v__law_has C_NotUsable) (aCons (fVar 1) (aCons (fVar 2) aNil))) (fC (.int 1))) (fVar 2)) aNil)))
def v__law_lot_of (C_NotUsable : Addr) : List PyData → Out Unit := runP [("_law_n" : Str), ("_law_mark" : Str), ("_law_house" : Str)] (p__law_lot_of C_NotUsable)
theorem f__law_lot_of (B : Bk mg) (e_NotUsable : Ex2 P w K mg base "NotUsable" C_NotUsable "word" "at") (c__law_has : Dfn gd P w K mg base 1 "_law_has" 2 (v__law_has C_NotUsable)) {f : Addr} {fd : FuncData} (F : Fun K "_law_lot_of" "_law_lot_of" s__law_lot_of f fd) : FnG gd P w K mg base 2 f fd [("_law_n" : Str), ("_law_mark" : Str)] (spP K 2 (v__law_lot_of C_NotUsable)) := fnP F sc__law_lot_of fun cdv A outer s H D E hr tk hp hG => by
  have nd := sc__law_lot_of.nd
  exact (dsone (dret (dct call_tuple_of kTuple B.tuple (by decide +kernel) (dacons (dlc1 (own := [("_law_house", 2)]) rfl nd (dirng1 rfl B.range (dacons (dvar 0) danil)) (blkOk_by (by rfl)) (fun _ _ _ _ _ => (dgN 2 nd)) (tgN 2) (towN (by decide)) (fun _ _ _ _ _ => (dtcmp (op_eqS (hu64 hr)) kEqS (dcallD takes0 hG c__law_has (hr.mono (by omega)) (dacons (dvar 1) (dacons (dvar 2) danil))) dint)) (fun _ _ _ _ _ => (dvar 2))) danil))))
abbrev s__law_full : Stmt := top 43
theorem sc__law_full : FnScope [("_law_n" : Str), ("_law_full_here" : Str), ("_law_house" : Str)] [("_law_n" : Str)] (defScope s__law_full) := ⟨rfl, rfl, rfl, by decide +kernel, rfl, by decide +kernel, by decide +kernel⟩
def p__law_full (C_NotUsable : Addr) : SFn Unit := (sSeq (sAsg 1 (fC (.int 1)))
  (sSeq (sFor (iRng1F (aCons (fVar 0) aNil)) (asgN 2) (sAsg 1 (fOp oMul (fVar 1) (fC (.int 2)))))
  (sRet (fOp oSub (fVar 1) (fC (.int 1))))))
def v__law_full (C_NotUsable : Addr) : List PyData → Out Unit := runP [("_law_n" : Str), ("_law_full_here" : Str), ("_law_house" : Str)] (p__law_full C_NotUsable)
theorem f__law_full (B : Bk mg) (e_NotUsable : Ex2 P w K mg base "NotUsable" C_NotUsable "word" "at") {f : Addr} {fd : FuncData} (F : Fun K "_law_full" "_law_full" s__law_full f fd) : FnG gd P w K mg base 1 f fd [("_law_n" : Str)] (spP K 1 (v__law_full C_NotUsable)) := fnP F sc__law_full fun cdv A outer s H D E hr tk hp hG => by
  have nd := sc__law_full.nd
  exact (dscons (dset 1 nd dint)
  (dscons (dfor hp rfl (dirng1 rfl B.range (dacons (dvar 0) danil)) (dgN 2 nd) (tgN 2) (dsone (dset 1 nd (dop op_mulW kMul (dvar 1) dint))))
  (dsone (dret (dop op_sub kSub (dvar 1) dint)))))
abbrev s__law_ones : Stmt := top 44
theorem sc__law_ones : FnScope [("_law_n" : Str), ("_law_mark" : Str), ("_law_house" : Str)] [("_law_n" : Str), ("_law_mark" : Str)] (defScope s__law_ones) := ⟨rfl, rfl, rfl, by decide +kernel, rfl, by decide +kernel, by decide +kernel⟩
def p__law_ones (C_NotUsable : Addr) : SFn Unit := (sRet (fCB bSum (aCons (fLc [2] (iRng1F (aCons (fVar 0) aNil)) (asgN 2) fYes (fCall 2 (v__law_has C_NotUsable) (aCons (fVar 1) (aCons (fVar 2) aNil)))) aNil)))
def v__law_ones (C_NotUsable : Addr) : List PyData → Out Unit := runP [("_law_n" : Str), ("_law_mark" : Str), ("_law_house" : Str)] (p__law_ones C_NotUsable)
theorem f__law_ones (B : Bk mg) (e_NotUsable : Ex2 P w K mg base "NotUsable" C_NotUsable "word" "at") (c__law_has : Dfn gd P w K mg base 1 "_law_has" 2 (v__law_has C_NotUsable)) {f : Addr} {fd : FuncData} (F : Fun K "_law_ones" "_law_ones" s__law_ones f fd) : FnG gd P w K mg base 2 f fd [("_law_n" : Str), ("_law_mark" : Str)] (spP K 2 (v__law_ones C_NotUsable)) := fnP F sc__law_ones fun cdv A outer s H D E hr tk hp hG => by
  have nd := sc__law_ones.nd
  exact (dsone (dret (dcb (cr_sum rfl) kSum B.sum (by decide +kernel) (dacons (dlc0 (own := [("_law_house", 2)]) rfl nd (dirng1 rfl B.range (dacons (dvar 0) danil)) (blkOk_by (by rfl)) (fun _ _ _ _ _ => (dgN 2 nd)) (tgN 2) (towN (by decide)) (fun _ _ _ _ _ => (dcallD takes0 hG c__law_has (hr.mono (by omega)) (dacons (dvar 1) (dacons (dvar 2) danil))))) danil))))
abbrev s__law_greatest : Stmt := top 45
theorem sc__law_greatest : FnScope [("_law_marks" : Str), ("_law_tops" : Str), ("_law_mark" : Str), ("_law_above" : Str), ("_law_other" : Str)] [("_law_marks" : Str)] (defScope s__law_greatest) := ⟨rfl, rfl, rfl, by decide +kernel, rfl, by decide +kernel, by decide +kernel⟩
def p__law_greatest (C_NotUsable : Addr) : SFn Unit := (sSeq (sAsg 1 (fLst aNil))
  (sSeq (sFor (iAny (fVar 0)) (asgN 2) (sSeq (sAsg 3 (fLc [4] (iAny (fVar 0)) (asgN 4) (fAnd (fOp oEqS (fOp oAnd (fVar 4) (fVar 2)) (fVar 2)) (fOp oNeS (fVar 4) (fVar 2))) (fVar 4)))
  (sIf (fAnd (fOp oEqS (fCB bLen (aCons (fVar 3) aNil)) (fC (.int 0))) (fOp (oInX true) (fVar 2) (fVar 1))) (sApp 1 (fVar 2)) sNil)))
  (sRetV 1)))
def v__law_greatest (C_NotUsable : Addr) : List PyData → Out Unit := runP [("_law_marks" : Str), ("_law_tops" : Str), ("_law_mark" : Str), ("_law_above" : Str), ("_law_other" : Str)] (p__law_greatest C_NotUsable)
theorem f__law_greatest (B : Bk mg) (e_NotUsable : Ex2 P w K mg base "NotUsable" C_NotUsable "word" "at") {f : Addr} {fd : FuncData} (F : Fun K "_law_greatest" "_law_greatest" s__law_greatest f fd) : FnG gd P w K mg base 1 f fd [("_law_marks" : Str)] (spP K 1 (v__law_greatest C_NotUsable)) := fnP F sc__law_greatest fun cdv A outer s H D E hr tk hp hG => by
  have nd := sc__law_greatest.nd
  exact (dscons (dset 1 nd (dlst danil))
  (dscons (dfor hp rfl (diany (dvar 0)) (dgN 2 nd) (tgN 2) (dscons (dsetlc1 3 (own := [("_law_other", 4)]) rfl nd (diany (dvar 0)) (blkOk_by (by rfl)) (fun _ _ _ _ _ => (dgN 4 nd)) (tgN 4) (towN (by decide)) (fun _ _ _ _ _ => (dtw (dwand (dtcmp (op_eqS (hu64 hr)) kEqS (dop op_and kAnd (dvar 4) (dvar 2)) (dvar 2)) (dwand1 (dtcmp (op_neS (hu64 hr)) kNeS (dvar 4) (dvar 2)))))) (fun _ _ _ _ _ => (dvar 4)))
  (dsone (dif_ (dtw (dwand (dtcmp (op_eqS (hu64 hr)) kEqS (dcb call_len kLen B.len (by decide +kernel) (dacons (dvar 3) danil)) dint) (dwand1 (dtcmp (op_notInX (hu65 hr)) kNotInX (dvar 2) (dvar 1))))) (dsone (dapp 1 (pv 1) (dvar 2))) dsnil))))
  (dsone (dretv 1 (pv 1)))))
abbrev s__law_groups : Stmt := top 46
theorem sc__law_groups : FnScope [("_law_source" : Str), ("_law_n" : Str), ("_law_groups_here" : Str), ("_law_step" : Str), ("_law_house" : Str), ("_law_pick" : Str)] [("_law_source" : Str), ("_law_n" : Str)] (defScope s__law_groups) := ⟨rfl, rfl, rfl, by decide +kernel, rfl, by decide +kernel, by decide +kernel⟩
def p__law_groups (C_NotUsable : Addr) : SFn SrcG := (sSeq (sAsg 2 (fLst (aCons (fC (.int 0)) (aCons (fC (.int 0)) (aCons (fC (.int 0)) aNil)))))
  (sSeq (sAsg 3 (fC (.int 1)))
  (sSeq (sFor (iRng1F (aCons (fVar 1) aNil)) (asgN 4) (sSeq (sAsg 5 (fCallS 2 (v__law_draw C_NotUsable) (aCons (fVar 0) (aCons (fC (.int 3)) aNil))))
  (sSeq (sSetI 2 (fVar 5) (fOp oAdd (fOp oIx (fVar 2) (fVar 5)) (fVar 3)))
  (sAsg 3 (fOp oMul (fVar 3) (fC (.int 2)))))))
  (sRetV 2))))
def v__law_groups (C_NotUsable : Addr) : List SV → SrcG → Out SrcG := runS [("_law_source" : Str), ("_law_n" : Str), ("_law_groups_here" : Str), ("_law_step" : Str), ("_law_house" : Str), ("_law_pick" : Str)] (p__law_groups C_NotUsable)
theorem f__law_groups (B : Bk mg) (e_NotUsable : Ex2 P w K mg base "NotUsable" C_NotUsable "word" "at") (c__law_draw : DfnS gd P w K mg base Fm 1 "_law_draw" 2 (v__law_draw C_NotUsable)) {f : Addr} {fd : FuncData} (F : Fun K "_law_groups" "_law_groups" s__law_groups f fd) : FnG gd P w K mg base 2 f fd [("_law_source" : Str), ("_law_n" : Str)] (spS Fm K 2 (v__law_groups C_NotUsable)) := fnS F sc__law_groups fun cdv A outer s H D E i hr tk hp hG => by
  have nd := sc__law_groups.nd
  have hI : Fm i = Fm i := rfl
  exact (dscons (dset 2 nd (dlst (dacons dint (dacons dint (dacons dint danil)))))
  (dscons (dset 3 nd dint)
  (dscons (dfor hp rfl (dirng1 rfl B.range (dacons (dvar 1) danil)) (dgN 4 nd) (tgN 4) (dscons (dset 5 nd (dcallDS hI tk hG c__law_draw (hr.mono (by omega)) (dacons (dvar 0) (dacons dint danil))))
  (dscons (dseti 2 (pv 2) (dvar 5) (dop op_addAll kAdd (dix ix_seq kIx (dvar 2) (dvar 5)) (dvar 3)))
  (dsone (dset 3 nd (dop op_mulW kMul (dvar 3) dint))))))
  (dsone (dretv 2 (pv 2))))))
abbrev s__law_drawn_marks : Stmt := top 47
theorem sc__law_drawn_marks : FnScope [("_law_source" : Str), ("_law_n" : Str), ("_law_full_here" : Str), ("_law_how" : Str), ("_law_few" : Str), ("_law_groups_here" : Str), ("_law_drawn" : Str), ("_law_k" : Str), ("_law_mark" : Str)] [("_law_source" : Str), ("_law_n" : Str)] (defScope s__law_drawn_marks) := ⟨rfl, rfl, rfl, by decide +kernel, rfl, by decide +kernel, by decide +kernel⟩
def p__law_drawn_marks (C_NotUsable : Addr) : SFn SrcG := (sSeq (sAsg 2 (fCall 1 (v__law_full C_NotUsable) (aCons (fVar 1) aNil)))
  (sSeq (sAsg 3 (fCallS 2 (v__law_draw C_NotUsable) (aCons (fVar 0) (aCons (fC (.int 8)) aNil))))
  (sSeq (sAsg 4 (fCallS 2 (v__law_draw C_NotUsable) (aCons (fVar 0) (aCons (fOp oAdd (fVar 1) (fC (.int 1))) aNil))))
  (sSeq (sAsg 5 (fCallS 2 (v__law_groups C_NotUsable) (aCons (fVar 0) (aCons (fVar 1) aNil))))
  (sSeq (sAsg 6 (fLc [7] (iRng1F (aCons (fC (.int 4)) aNil)) (asgN 7) fYes (fCallS 2 (v__law_draw C_NotUsable) (aCons (fVar 0) (aCons (fOp oAdd (fVar 2) (fC (.int 1))) aNil)))))
  (sSeq (sIf (fOp oEqS (fVar 3) (fC (.int 0))) (sRet (fLst (aCons (fOp oAdd (fOp oIx (fVar 5) (fC (.int 0))) (fOp oIx (fVar 5) (fC (.int 1)))) (aCons (fOp oAdd (fOp oIx (fVar 5) (fC (.int 1))) (fOp oIx (fVar 5) (fC (.int 2)))) (aCons (fOp oIx (fVar 5) (fC (.int 2))) aNil))))) sNil)
  (sSeq (sIf (fOp oEqS (fVar 3) (fC (.int 1))) (sRet (fLst (aCons (fOp oIx (fVar 5) (fC (.int 0))) (aCons (fOp oIx (fVar 5) (fC (.int 1))) (aCons (fOp oIx (fVar 5) (fC (.int 2))) (aCons (fOp oAnd (fOp oIx (fVar 6) (fC (.int 0))) (fOp oIx (fVar 6) (fC (.int 1)))) aNil)))))) sNil)
  (sSeq (sIf (fOp oEqS (fVar 3) (fC (.int 2))) (sRet (fLst (aCons (fOp oIx (fVar 6) (fC (.int 0))) (aCons (fOp oSub (fVar 2) (fOp oIx (fVar 6) (fC (.int 0)))) aNil)))) sNil)
  (sSeq (sIf (fOp oEqS (fVar 3) (fC (.int 3))) (sRet (fLst (aCons (fOp oIx (fVar 6) (fC (.int 0))) (aCons (fOp oSub (fVar 2) (fOp oIx (fVar 6) (fC (.int 0)))) (aCons (fOp oIx (fVar 6) (fC (.int 1))) (aCons (fOp oSub (fVar 2) (fOp oAnd (fOp oIx (fVar 6) (fC (.int 1))) (fOp oIx (fVar 6) (fC (.int 2))))) aNil)))))) sNil)
  (sSeq (sIf (fOp oEqS (fVar 3) (fC (.int 4))) (sRet (fLc [8] (iRng1F (aCons (fOp oAdd (fVar 2) (fC (.int 1))) aNil)) (asgN 8) (fOp oEqS (fCall 2 (v__law_ones C_NotUsable) (aCons (fVar 1) (aCons (fVar 8) aNil))) (fVar 4)) (fVar 8))) sNil)
  (sSeq (sIf (fOp oEqS (fVar 3) (fC (.int 5))) (sRet (fLst (aCons (fOp oIx (fLst (aCons (fVar 2) (aCons (fC (.int 0)) (aCons (fOp oIx (fVar 6) (fC (.int 0))) aNil)))) (fCallS 2 (v__law_draw C_NotUsable) (aCons (fVar 0) (aCons (fC (.int 3)) aNil)))) aNil))) sNil)
  (sSeq (sIf (fOp oEqS (fVar 3) (fC (.int 6))) (sRet (fLst (aCons (fOp oAdd (fOp oIx (fVar 5) (fC (.int 0))) (fOp oIx (fVar 5) (fC (.int 1)))) (aCons (fOp oAdd (fOp oIx (fVar 5) (fC (.int 0))) (fOp oIx (fVar 5) (fC (.int 2)))) (aCons (fOp oAdd (fOp oIx (fVar 5) (fC (.int 1))) (fOp oIx (fVar 5) (fC (.int 2)))) (aCons (fOp oAnd (fOp oIx (fVar 6) (fC (.int 3))) (fOp oIx (fVar 6) (fC (.int 2)))) aNil)))))) sNil)
  (sRet (fOp oAddL (fSl oSl (fVar 6) none (some (fOp oAdd (fC (.int 1)) (fCallS 2 (v__law_draw C_NotUsable) (aCons (fVar 0) (aCons (fC (.int 4)) aNil)))))) (fLst (aCons (fOp oSub (fVar 2) (fOp oIx (fVar 6) (fC (.int 0)))) aNil))))))))))))))))
def v__law_drawn_marks (C_NotUsable : Addr) : List SV → SrcG → Out SrcG := runS [("_law_source" : Str), ("_law_n" : Str), ("_law_full_here" : Str), ("_law_how" : Str), ("_law_few" : Str), ("_law_groups_here" : Str), ("_law_drawn" : Str), ("_law_k" : Str), ("_law_mark" : Str)] (p__law_drawn_marks C_NotUsable)
theorem f__law_drawn_marks (B : Bk mg) (e_NotUsable : Ex2 P w K mg base "NotUsable" C_NotUsable "word" "at") (c__law_draw : DfnS gd P w K mg base Fm 1 "_law_draw" 2 (v__law_draw C_NotUsable)) (c__law_full : Dfn gd P w K mg base 1 "_law_full" 1 (v__law_full C_NotUsable)) (c__law_groups : DfnS gd P w K mg base Fm 2 "_law_groups" 2 (v__law_groups C_NotUsable)) (c__law_ones : Dfn gd P w K mg base 2 "_law_ones" 2 (v__law_ones C_NotUsable)) {f : Addr} {fd : FuncData} (F : Fun K "_law_drawn_marks" "_law_drawn_marks" s__law_drawn_marks f fd) : FnG gd P w K mg base 3 f fd [("_law_source" : Str), ("_law_n" : Str)] (spS Fm K 2 (v__law_drawn_marks C_NotUsable)) := fnS F sc__law_drawn_marks fun cdv A outer s H D E i hr tk hp hG => by
  have nd := sc__law_drawn_marks.nd
  have hI : Fm i = Fm i := rfl
  exact (dscons (dset 2 nd (dcallD tk hG c__law_full (hr.mono (by omega)) (dacons (dvar 1) danil)))
  (dscons (dset 3 nd (dcallDS hI tk hG c__law_draw (hr.mono (by omega)) (dacons (dvar 0) (dacons dint danil))))
  (dscons (dset 4 nd (dcallDS hI tk hG c__law_draw (hr.mono (by omega)) (dacons (dvar 0) (dacons (dop op_addAll kAdd (dvar 1) dint) danil))))
  (dscons (dset 5 nd (dcallDS hI tk hG c__law_groups (hr.mono (by omega)) (dacons (dvar 0) (dacons (dvar 1) danil))))
  (dscons (dsetlc0 6 (own := [("_law_k", 7)]) rfl nd (dirng1 rfl B.range (dacons dint danil)) (blkOk_by (by rfl)) (fun _ _ _ _ _ => (dgN 7 nd)) (tgN 7) (towN (by decide)) (fun _ _ _ _ _ => (dcallDS hI takes0 hG c__law_draw (hr.mono (by omega)) (dacons (dvar 0) (dacons (dop op_addAll kAdd (dvar 2) dint) danil)))))
  (dscons (dif_ (dtcmp (op_eqS (hu64 hr)) kEqS (dvar 3) dint) (dsone (dret (dlst (dacons (dop op_addAll kAdd (dix ix_seq kIx (dvar 5) dint) (dix ix_seq kIx (dvar 5) dint)) (dacons (dop op_addAll kAdd (dix ix_seq kIx (dvar 5) dint) (dix ix_seq kIx (dvar 5) dint)) (dacons (dix ix_seq kIx (dvar 5) dint) danil)))))) dsnil)
  (dscons (dif_ (dtcmp (op_eqS (hu64 hr)) kEqS (dvar 3) dint) (dsone (dret (dlst (dacons (dix ix_seq kIx (dvar 5) dint) (dacons (dix ix_seq kIx (dvar 5) dint) (dacons (dix ix_seq kIx (dvar 5) dint) (dacons (dop op_and kAnd (dix ix_seq kIx (dvar 6) dint) (dix ix_seq kIx (dvar 6) dint)) danil))))))) dsnil)
  (dscons (dif_ (dtcmp (op_eqS (hu64 hr)) kEqS (dvar 3) dint) (dsone (dret (dlst (dacons (dix ix_seq kIx (dvar 6) dint) (dacons (dop op_sub kSub (dvar 2) (dix ix_seq kIx (dvar 6) dint)) danil))))) dsnil)
  (dscons (dif_ (dtcmp (op_eqS (hu64 hr)) kEqS (dvar 3) dint) (dsone (dret (dlst (dacons (dix ix_seq kIx (dvar 6) dint) (dacons (dop op_sub kSub (dvar 2) (dix ix_seq kIx (dvar 6) dint)) (dacons (dix ix_seq kIx (dvar 6) dint) (dacons (dop op_sub kSub (dvar 2) (dop op_and kAnd (dix ix_seq kIx (dvar 6) dint) (dix ix_seq kIx (dvar 6) dint))) danil))))))) dsnil)
  (dscons (dif_ (dtcmp (op_eqS (hu64 hr)) kEqS (dvar 3) dint) (dsone (dret (dlc1 (own := [("_law_mark", 8)]) rfl nd (dirng1 rfl B.range (dacons (dop op_addAll kAdd (dvar 2) dint) danil)) (blkOk_by (by rfl)) (fun _ _ _ _ _ => (dgN 8 nd)) (tgN 8) (towN (by decide)) (fun _ _ _ _ _ => (dtcmp (op_eqS (hu64 hr)) kEqS (dcallD takes0 hG c__law_ones (hr.mono (by omega)) (dacons (dvar 1) (dacons (dvar 8) danil))) (dvar 4))) (fun _ _ _ _ _ => (dvar 8))))) dsnil)
  (dscons (dif_ (dtcmp (op_eqS (hu64 hr)) kEqS (dvar 3) dint) (dsone (dret (dlst (dacons (dix ix_seq kIx (dlst (dacons (dvar 2) (dacons dint (dacons (dix ix_seq kIx (dvar 6) dint) danil)))) (dcallDS hI tk hG c__law_draw (hr.mono (by omega)) (dacons (dvar 0) (dacons dint danil)))) danil)))) dsnil)
  (dscons (dif_ (dtcmp (op_eqS (hu64 hr)) kEqS (dvar 3) dint) (dsone (dret (dlst (dacons (dop op_addAll kAdd (dix ix_seq kIx (dvar 5) dint) (dix ix_seq kIx (dvar 5) dint)) (dacons (dop op_addAll kAdd (dix ix_seq kIx (dvar 5) dint) (dix ix_seq kIx (dvar 5) dint)) (dacons (dop op_addAll kAdd (dix ix_seq kIx (dvar 5) dint) (dix ix_seq kIx (dvar 5) dint)) (dacons (dop op_and kAnd (dix ix_seq kIx (dvar 6) dint) (dix ix_seq kIx (dvar 6) dint)) danil))))))) dsnil)
  (dsone (dret (dop op_addL kAddL (dsl01 sl_TL kSl (dvar 6) (dop op_addAll kAdd dint (dcallDS hI tk hG c__law_draw (hr.mono (by omega)) (dacons (dvar 0) (dacons dint danil))))) (dlst (dacons (dop op_sub kSub (dvar 2) (dix ix_seq kIx (dvar 6) dint)) danil)))))))))))))))))
abbrev s__law_partings : Stmt := top 48
theorem sc__law_partings : FnScope [("_law_n" : Str), ("_law_tops" : Str), ("_law_full_here" : Str), ("_law_feared" : Str), ("_law_mark" : Str), ("_law_high" : Str)] [("_law_n" : Str), ("_law_tops" : Str)] (defScope s__law_partings) := ⟨rfl, rfl, rfl, by decide +kernel, rfl, by decide +kernel, by decide +kernel⟩
def p__law_partings (C_NotUsable : Addr) : SFn Unit := (sSeq (sAsg 2 (fCall 1 (v__law_full C_NotUsable) (aCons (fVar 0) aNil)))
  (sSeq (sAsg 3 (fLst aNil))
  (sSeq (sFor (iRng1F (aCons (fOp oAdd (fVar 2) (fC (.int 1))) aNil)) (asgN 4) (sApp 3 (fCB bLen (aCons (fLc [5] (iAny (fVar 1)) (asgN 5) (fOp oEqS (fOp oOr (fVar 4) (fVar 5)) (fVar 5)) (fVar 5)) aNil))))
  (sRet (fLc [4] (iRng1F (aCons (fOp oAdd (fVar 2) (fC (.int 1))) aNil)) (asgN 4) (fAnd (fOp oGt (fOp oIx (fVar 3) (fVar 4)) (fC (.int 0))) (fOp oGt (fOp oIx (fVar 3) (fOp oSub (fVar 2) (fVar 4))) (fC (.int 0)))) (fVar 4))))))
def v__law_partings (C_NotUsable : Addr) : List PyData → Out Unit := runP [("_law_n" : Str), ("_law_tops" : Str), ("_law_full_here" : Str), ("_law_feared" : Str), ("_law_mark" : Str), ("_law_high" : Str)] (p__law_partings C_NotUsable)
theorem f__law_partings (B : Bk mg) (e_NotUsable : Ex2 P w K mg base "NotUsable" C_NotUsable "word" "at") (c__law_full : Dfn gd P w K mg base 1 "_law_full" 1 (v__law_full C_NotUsable)) {f : Addr} {fd : FuncData} (F : Fun K "_law_partings" "_law_partings" s__law_partings f fd) : FnG gd P w K mg base 2 f fd [("_law_n" : Str), ("_law_tops" : Str)] (spP K 2 (v__law_partings C_NotUsable)) := fnP F sc__law_partings fun cdv A outer s H D E hr tk hp hG => by
  have nd := sc__law_partings.nd
  exact (dscons (dset 2 nd (dcallD tk hG c__law_full (hr.mono (by omega)) (dacons (dvar 0) danil)))
  (dscons (dset 3 nd (dlst danil))
  (dscons (dfor hp rfl (dirng1 rfl B.range (dacons (dop op_addAll kAdd (dvar 2) dint) danil)) (dgN 4 nd) (tgN 4) (dsone (dapp 3 (pv 3) (dcb call_len kLen B.len (by decide +kernel) (dacons (dlc1 (own := [("_law_high", 5)]) rfl nd (diany (dvar 1)) (blkOk_by (by rfl)) (fun _ _ _ _ _ => (dgN 5 nd)) (tgN 5) (towN (by decide)) (fun _ _ _ _ _ => (dtcmp (op_eqS (hu64 hr)) kEqS (dop op_or kOr (dvar 4) (dvar 5)) (dvar 5))) (fun _ _ _ _ _ => (dvar 5))) danil)))))
  (dsone (dret (dlc1 (own := [("_law_mark", 4)]) rfl nd (dirng1 rfl B.range (dacons (dop op_addAll kAdd (dvar 2) dint) danil)) (blkOk_by (by rfl)) (fun _ _ _ _ _ => (dgN 4 nd)) (tgN 4) (towN (by decide)) (fun _ _ _ _ _ => (dtw (dwand (dtcmp op_gt kGt (dix ix_seq kIx (dvar 3) (dvar 4)) dint) (dwand1 (dtcmp op_gt kGt (dix ix_seq kIx (dvar 3) (dop op_sub kSub (dvar 2) (dvar 4))) dint))))) (fun _ _ _ _ _ => (dvar 4))))))))
abbrev s__law_set_of : Stmt := top 49
theorem sc__law_set_of : FnScope [("_law_n" : Str), ("_law_marks" : Str), ("_law_mark" : Str)] [("_law_n" : Str), ("_law_marks" : Str)] (defScope s__law_set_of) := ⟨rfl, rfl, rfl, by decide +kernel, rfl, by decide +kernel, by decide +kernel⟩
def p__law_set_of (C_NotUsable : Addr) : SFn Unit := (sRet (fCB bTuple (aCons (fCB bSorted (aCons (fLc [2] (iAny (fVar 1)) (asgN 2) fYes (fCall 2 (v__law_lot_of C_NotUsable) (aCons (fVar 0) (aCons (fVar 2) aNil)))) aNil)) aNil)))
def v__law_set_of (C_NotUsable : Addr) : List PyData → Out Unit := runP [("_law_n" : Str), ("_law_marks" : Str), ("_law_mark" : Str)] (p__law_set_of C_NotUsable)
theorem f__law_set_of (B : Bk mg) (e_NotUsable : Ex2 P w K mg base "NotUsable" C_NotUsable "word" "at") (c__law_lot_of : Dfn gd P w K mg base 2 "_law_lot_of" 2 (v__law_lot_of C_NotUsable)) {f : Addr} {fd : FuncData} (F : Fun K "_law_set_of" "_law_set_of" s__law_set_of f fd) : FnG gd P w K mg base 3 f fd [("_law_n" : Str), ("_law_marks" : Str)] (spP K 2 (v__law_set_of C_NotUsable)) := fnP F sc__law_set_of fun cdv A outer s H D E hr tk hp hG => by
  have nd := sc__law_set_of.nd
  exact (dsone (dret (dct call_tuple_of kTuple B.tuple (by decide +kernel) (dacons (dcb (cr_sortA (hu64 hr)) kSorted B.sorted (by decide +kernel) (dacons (dlc0 (own := [("_law_mark", 2)]) rfl nd (diany (dvar 1)) (blkOk_by (by rfl)) (fun _ _ _ _ _ => (dgN 2 nd)) (tgN 2) (towN (by decide)) (fun _ _ _ _ _ => (dcallD takes0 hG c__law_lot_of (hr.mono (by omega)) (dacons (dvar 0) (dacons (dvar 2) danil))))) danil)) danil))))
abbrev s__law_atom_of : Stmt := top 50
theorem sc__law_atom_of : FnScope [("_law_n" : Str), ("_law_parted" : Str), ("_law_house" : Str), ("_law_mates" : Str), ("_law_mate" : Str), ("_law_apart" : Str), ("_law_mark" : Str)] [("_law_n" : Str), ("_law_parted" : Str), ("_law_house" : Str)] (defScope s__law_atom_of) := ⟨rfl, rfl, rfl, by decide +kernel, rfl, by decide +kernel, by decide +kernel⟩
def p__law_atom_of (C_NotUsable : Addr) : SFn Unit := (sSeq (sAsg 3 (fLst aNil))
  (sSeq (sFor (iRng1F (aCons (fVar 0) aNil)) (asgN 4) (sSeq (sAsg 5 (fLc [6] (iAny (fVar 1)) (asgN 6) (fOp oNeS (fCall 2 (v__law_has C_NotUsable) (aCons (fVar 6) (aCons (fVar 2) aNil))) (fCall 2 (v__law_has C_NotUsable) (aCons (fVar 6) (aCons (fVar 4) aNil)))) (fVar 6)))
  (sIf (fOp oEqS (fCB bLen (aCons (fVar 5) aNil)) (fC (.int 0))) (sApp 3 (fVar 4)) sNil)))
  (sRet (fCB bTuple (aCons (fVar 3) aNil)))))
def v__law_atom_of (C_NotUsable : Addr) : List PyData → Out Unit := runP [("_law_n" : Str), ("_law_parted" : Str), ("_law_house" : Str), ("_law_mates" : Str), ("_law_mate" : Str), ("_law_apart" : Str), ("_law_mark" : Str)] (p__law_atom_of C_NotUsable)
theorem f__law_atom_of (B : Bk mg) (e_NotUsable : Ex2 P w K mg base "NotUsable" C_NotUsable "word" "at") (c__law_has : Dfn gd P w K mg base 1 "_law_has" 2 (v__law_has C_NotUsable)) {f : Addr} {fd : FuncData} (F : Fun K "_law_atom_of" "_law_atom_of" s__law_atom_of f fd) : FnG gd P w K mg base 2 f fd [("_law_n" : Str), ("_law_parted" : Str), ("_law_house" : Str)] (spP K 3 (v__law_atom_of C_NotUsable)) := fnP F sc__law_atom_of fun cdv A outer s H D E hr tk hp hG => by
  have nd := sc__law_atom_of.nd
  exact (dscons (dset 3 nd (dlst danil))
  (dscons (dfor hp rfl (dirng1 rfl B.range (dacons (dvar 0) danil)) (dgN 4 nd) (tgN 4) (dscons (dsetlc1 5 (own := [("_law_mark", 6)]) rfl nd (diany (dvar 1)) (blkOk_by (by rfl)) (fun _ _ _ _ _ => (dgN 6 nd)) (tgN 6) (towN (by decide)) (fun _ _ _ _ _ => (dtcmp (op_neS (hu64 hr)) kNeS (dcallD takes0 hG c__law_has (hr.mono (by omega)) (dacons (dvar 6) (dacons (dvar 2) danil))) (dcallD takes0 hG c__law_has (hr.mono (by omega)) (dacons (dvar 6) (dacons (dvar 4) danil))))) (fun _ _ _ _ _ => (dvar 6)))
  (dsone (dif_ (dtcmp (op_eqS (hu64 hr)) kEqS (dcb call_len kLen B.len (by decide +kernel) (dacons (dvar 5) danil)) dint) (dsone (dapp 3 (pv 3) (dvar 4))) dsnil))))
  (dsone (dret (dct call_tuple_of kTuple B.tuple (by decide +kernel) (dacons (dvar 3) danil))))))
abbrev s__law_two_are_all : Stmt := top 51
theorem sc__law_two_are_all : FnScope [("_law_n" : Str), ("_law_tops" : Str), ("_law_full_here" : Str), ("_law_high" : Str), ("_law_low" : Str)] [("_law_n" : Str), ("_law_tops" : Str)] (defScope s__law_two_are_all) := ⟨rfl, rfl, rfl, by decide +kernel, rfl, by decide +kernel, by decide +kernel⟩
def p__law_two_are_all (C_NotUsable : Addr) : SFn Unit := (sSeq (sAsg 2 (fCall 1 (v__law_full C_NotUsable) (aCons (fVar 0) aNil)))
  (sRet (fOp oGt (fCB bLen (aCons (fLc [3] (iAny (fVar 1)) (asgN 3) (fOp oGt (fCB bLen (aCons (fLc [4] (iAny (fVar 1)) (asgN 4) (fOp oEqS (fOp oOr (fVar 3) (fVar 4)) (fVar 2)) (fVar 4)) aNil)) (fC (.int 0))) (fVar 3)) aNil)) (fC (.int 0)))))
def v__law_two_are_all (C_NotUsable : Addr) : List PyData → Out Unit := runP [("_law_n" : Str), ("_law_tops" : Str), ("_law_full_here" : Str), ("_law_high" : Str), ("_law_low" : Str)] (p__law_two_are_all C_NotUsable)
theorem f__law_two_are_all (B : Bk mg) (e_NotUsable : Ex2 P w K mg base "NotUsable" C_NotUsable "word" "at") (c__law_full : Dfn gd P w K mg base 1 "_law_full" 1 (v__law_full C_NotUsable)) {f : Addr} {fd : FuncData} (F : Fun K "_law_two_are_all" "_law_two_are_all" s__law_two_are_all f fd) : FnG gd P w K mg base 2 f fd [("_law_n" : Str), ("_law_tops" : Str)] (spP K 2 (v__law_two_are_all C_NotUsable)) := fnP F sc__law_two_are_all fun cdv A outer s H D E hr tk hp hG => by
  have nd := sc__law_two_are_all.nd
  exact (dscons (dset 2 nd (dcallD tk hG c__law_full (hr.mono (by omega)) (dacons (dvar 0) danil)))
  (dsone (dret (dcmp op_gt kGt (dcb call_len kLen B.len (by decide +kernel) (dacons (dlc1 (own := [("_law_high", 3)]) rfl nd (diany (dvar 1)) (blkOk_by (by rfl)) (fun _ _ _ _ _ => (dgN 3 nd)) (tgN 3) (towN (by decide)) (fun _ _ _ _ _ => (dtcmp op_gt kGt (dcb call_len kLen B.len (by decide +kernel) (dacons (dlc1 (own := [("_law_low", 4)]) rfl nd (diany (dvar 1)) (blkOk_by (by rfl)) (fun _ _ _ _ _ => (dgN 4 nd)) (tgN 4) (towN (by decide)) (fun _ _ _ _ _ => (dtcmp (op_eqS (hu64 hr)) kEqS (dop op_or kOr (dvar 3) (dvar 4)) (dvar 2))) (fun _ _ _ _ _ => (dvar 4))) danil)) dint)) (fun _ _ _ _ _ => (dvar 3))) danil)) dint))))
abbrev s__law_partings_hold : Stmt := top 52
theorem sc__law_partings_hold : FnScope [("_law_n" : Str), ("_law_fears" : Str), ("_law_tops" : Str), ("_law_parted" : Str), ("_law_mark" : Str), ("_law_due" : Str)] [("_law_n" : Str), ("_law_fears" : Str), ("_law_tops" : Str), ("_law_parted" : Str)] (defScope s__law_partings_hold) := ⟨rfl, rfl, rfl, by decide +kernel, rfl, by decide +kernel, by decide +kernel⟩
def p__law_partings_hold (C_NotUsable : Addr) : SFn Unit := (sSeq (sFor (iRng1F (aCons (fOp oAdd (fCall 1 (v__law_full C_NotUsable) (aCons (fVar 0) aNil)) (fC (.int 1))) aNil)) (asgN 4) (sIf (fOp oNeS (fCB bRepr (aCons (fCall 3 (v_is_parting C_NotUsable) (aCons (fVar 0) (aCons (fVar 1) (aCons (fCall 2 (v__law_lot_of C_NotUsable) (aCons (fVar 0) (aCons (fVar 4) aNil))) aNil)))) aNil)) (fCB bRepr (aCons (fOp (oInX false) (fVar 4) (fVar 3)) aNil))) (sRet (fC (.bool false))) sNil))
  (sSeq (sIf (fOp oNeS (fOp oGt (fCB bLen (aCons (fVar 3) aNil)) (fC (.int 0))) (fCall 2 (v__law_two_are_all C_NotUsable) (aCons (fVar 0) (aCons (fVar 2) aNil)))) (sRet (fC (.bool false))) sNil)
  (sSeq (sAsg 5 (fCB bRepr (aCons (fCall 2 (v__law_set_of C_NotUsable) (aCons (fVar 0) (aCons (fVar 3) aNil))) aNil)))
  (sRet (fAnd (fOp oEqS (fCB bRepr (aCons (fCall 2 (v_partings_of C_NotUsable) (aCons (fVar 0) (aCons (fVar 1) aNil))) aNil)) (fVar 5)) (fOp oEqS (fCB bRepr (aCons (fCall 2 (fun ds => v_partings_of C_NotUsable ds.reverse) (aCons (fVar 1) (aCons (fVar 0) aNil))) aNil)) (fVar 5)))))))
def v__law_partings_hold (C_NotUsable : Addr) : List PyData → Out Unit := runP [("_law_n" : Str), ("_law_fears" : Str), ("_law_tops" : Str), ("_law_parted" : Str), ("_law_mark" : Str), ("_law_due" : Str)] (p__law_partings_hold C_NotUsable)
theorem f__law_partings_hold (B : Bk mg) (e_NotUsable : Ex2 P w K mg base "NotUsable" C_NotUsable "word" "at") (c__law_full : Dfn True P w K mg base 1 "_law_full" 1 (v__law_full C_NotUsable)) (c__law_lot_of : Dfn True P w K mg base 2 "_law_lot_of" 2 (v__law_lot_of C_NotUsable)) (c__law_set_of : Dfn True P w K mg base 3 "_law_set_of" 2 (v__law_set_of C_NotUsable)) (c__law_two_are_all : Dfn True P w K mg base 2 "_law_two_are_all" 2 (v__law_two_are_all C_NotUsable)) (c_is_parting : Dfn True P w K mg base 7 "is_parting" 3 (v_is_parting C_NotUsable)) (c_partings_of : Dfn True P w K mg base 7 "partings_of" 2 (v_partings_of C_NotUsable)) (k_partings_of : DfnK True P w K mg base 7 "partings_of" [("fears" : Str), ("many" : Str)] 2 (v_partings_of C_NotUsable)) {f : Addr} {fd : FuncData} (F : Fun K "_law_partings_hold" "_law_partings_hold" s__law_partings_hold f fd) : FnG True P w K mg base 8 f fd [("_law_n" : Str), ("_law_fears" : Str), ("_law_tops" : Str), ("_law_parted" : Str)] (spP K 4 (v__law_partings_hold C_NotUsable)) := fnP F sc__law_partings_hold fun cdv A outer s H D E hr tk hp hG => by
  have nd := sc__law_partings_hold.nd
  exact (dscons (dfor hp rfl (dirng1 rfl B.range (dacons (dop op_addAll kAdd (dcallD tk hG c__law_full (hr.mono (by omega)) (dacons (dvar 0) danil)) dint) danil)) (dgN 4 nd) (tgN 4) (dsone (dif_ (dtcmp (op_neS (hu64 hr)) kNeS (dcb (call_reprD (hG trivial) (hu200 hr)) kRepr B.repr (by decide +kernel) (dacons (dcallD tk hG c_is_parting (hr.mono (by omega)) (dacons (dvar 0) (dacons (dvar 1) (dacons (dcallD tk hG c__law_lot_of (hr.mono (by omega)) (dacons (dvar 0) (dacons (dvar 4) danil))) danil)))) danil)) (dcb (call_reprD (hG trivial) (hu200 hr)) kRepr B.repr (by decide +kernel) (dacons (dcmp (op_inX (hu65 hr)) kInX (dvar 4) (dvar 3)) danil))) (dsone (dret dbl)) dsnil)))
  (dscons (dif_ (dtcmp (op_neS (hu64 hr)) kNeS (dcmp op_gt kGt (dcb call_len kLen B.len (by decide +kernel) (dacons (dvar 3) danil)) dint) (dcallD tk hG c__law_two_are_all (hr.mono (by omega)) (dacons (dvar 0) (dacons (dvar 2) danil)))) (dsone (dret dbl)) dsnil)
  (dscons (dset 5 nd (dcb (call_reprD (hG trivial) (hu200 hr)) kRepr B.repr (by decide +kernel) (dacons (dcallD tk hG c__law_set_of (hr.mono (by omega)) (dacons (dvar 0) (dacons (dvar 3) danil))) danil)))
  (dsone (dret (dand (dcmp (op_eqS (hu64 hr)) kEqS (dcb (call_reprD (hG trivial) (hu200 hr)) kRepr B.repr (by decide +kernel) (dacons (dcallD tk hG c_partings_of (hr.mono (by omega)) (dacons (dvar 0) (dacons (dvar 1) danil))) danil)) (dvar 5)) (done1 (dcmp (op_eqS (hu64 hr)) kEqS (dcb (call_reprD (hG trivial) (hu200 hr)) kRepr B.repr (by decide +kernel) (dacons (dcallDK tk hG k_partings_of (hr.mono (by omega)) (dkcons (dvar 1) (dkcons (dvar 0) dknil))) danil)) (dvar 5)))))))))
abbrev s__law_atoms_hold : Stmt := top 53
theorem sc__law_atoms_hold : FnScope [("_law_n" : Str), ("_law_fears" : Str), ("_law_parted" : Str), ("_law_mates" : Str), ("_law_atoms" : Str), ("_law_house" : Str), ("_law_mark" : Str), ("_law_due" : Str), ("_law_atom" : Str)] [("_law_n" : Str), ("_law_fears" : Str), ("_law_parted" : Str), ("_law_mates" : Str)] (defScope s__law_atoms_hold) := ⟨rfl, rfl, rfl, by decide +kernel, rfl, by decide +kernel, by decide +kernel⟩
def p__law_atoms_hold (C_NotUsable : Addr) : SFn Unit := (sSeq (sAsg 4 (fLst aNil))
  (sSeq (sFor (iRng1F (aCons (fVar 0) aNil)) (asgN 5) (sSeq (sAsg 7 (fOp oIx (fVar 3) (fVar 5)))
  (sSeq (sIf (fOp oNeS (fCB bRepr (aCons (fCall 3 (v_atom_at C_NotUsable) (aCons (fVar 0) (aCons (fVar 1) (aCons (fVar 5) aNil)))) aNil)) (fCB bRepr (aCons (fVar 7) aNil))) (sRet (fC (.bool false))) sNil)
  (sIf (fOp (oInX true) (fVar 7) (fVar 4)) (sApp 4 (fVar 7)) sNil))))
  (sSeq (sIf (fOp oNeS (fCB bRepr (aCons (fCall 2 (v_atoms_of C_NotUsable) (aCons (fVar 0) (aCons (fVar 1) aNil))) aNil)) (fCB bRepr (aCons (fCB bTuple (aCons (fCB bSorted (aCons (fVar 4) aNil)) aNil)) aNil))) (sRet (fC (.bool false))) sNil)
  (sSeq (sIf (fOp oNeS (fCB bRepr (aCons (fCall 2 (fun ds => v_atoms_of C_NotUsable ds.reverse) (aCons (fVar 1) (aCons (fVar 0) aNil))) aNil)) (fCB bRepr (aCons (fCB bTuple (aCons (fCB bSorted (aCons (fVar 4) aNil)) aNil)) aNil))) (sRet (fC (.bool false))) sNil)
  (sSeq (sFor (iAny (fVar 2)) (asgN 6) (sFrz 4 (sFor (iAny (fVar 4)) (asgN 8) (sIf (fOp (oInX true) (fCB bLen (aCons (fLc [5] (iAny (fVar 8)) (asgN 5) (fOp oEqS (fCall 2 (v__law_has C_NotUsable) (aCons (fVar 6) (aCons (fVar 5) aNil))) (fC (.int 1))) (fVar 5)) aNil)) (fTup (aCons (fC (.int 0)) (aCons (fCB bLen (aCons (fVar 8) aNil)) aNil)))) (sRet (fC (.bool false))) sNil))))
  (sRet (fC (.bool true))))))))
def v__law_atoms_hold (C_NotUsable : Addr) : List PyData → Out Unit := runP [("_law_n" : Str), ("_law_fears" : Str), ("_law_parted" : Str), ("_law_mates" : Str), ("_law_atoms" : Str), ("_law_house" : Str), ("_law_mark" : Str), ("_law_due" : Str), ("_law_atom" : Str)] (p__law_atoms_hold C_NotUsable)
theorem f__law_atoms_hold (B : Bk mg) (e_NotUsable : Ex2 P w K mg base "NotUsable" C_NotUsable "word" "at") (c__law_has : Dfn True P w K mg base 1 "_law_has" 2 (v__law_has C_NotUsable)) (c_atom_at : Dfn True P w K mg base 7 "atom_at" 3 (v_atom_at C_NotUsable)) (c_atoms_of : Dfn True P w K mg base 7 "atoms_of" 2 (v_atoms_of C_NotUsable)) (k_atoms_of : DfnK True P w K mg base 7 "atoms_of" [("fears" : Str), ("many" : Str)] 2 (v_atoms_of C_NotUsable)) {f : Addr} {fd : FuncData} (F : Fun K "_law_atoms_hold" "_law_atoms_hold" s__law_atoms_hold f fd) : FnG True P w K mg base 8 f fd [("_law_n" : Str), ("_law_fears" : Str), ("_law_parted" : Str), ("_law_mates" : Str)] (spP K 4 (v__law_atoms_hold C_NotUsable)) := fnP F sc__law_atoms_hold fun cdv A outer s H D E hr tk hp hG => by
  have nd := sc__law_atoms_hold.nd
  exact (dscons (dset 4 nd (dlst danil))
  (dscons (dfor hp rfl (dirng1 rfl B.range (dacons (dvar 0) danil)) (dgN 5 nd) (tgN 5) (dscons (dset 7 nd (dix ix_seq kIx (dvar 3) (dvar 5)))
  (dscons (dif_ (dtcmp (op_neS (hu64 hr)) kNeS (dcb (call_reprD (hG trivial) (hu200 hr)) kRepr B.repr (by decide +kernel) (dacons (dcallD tk hG c_atom_at (hr.mono (by omega)) (dacons (dvar 0) (dacons (dvar 1) (dacons (dvar 5) danil)))) danil)) (dcb (call_reprD (hG trivial) (hu200 hr)) kRepr B.repr (by decide +kernel) (dacons (dvar 7) danil))) (dsone (dret dbl)) dsnil)
  (dsone (dif_ (dtcmp (op_notInX (hu65 hr)) kNotInX (dvar 7) (dvar 4)) (dsone (dapp 4 (pv 4) (dvar 7))) dsnil)))))
  (dscons (dif_ (dtcmp (op_neS (hu64 hr)) kNeS (dcb (call_reprD (hG trivial) (hu200 hr)) kRepr B.repr (by decide +kernel) (dacons (dcallD tk hG c_atoms_of (hr.mono (by omega)) (dacons (dvar 0) (dacons (dvar 1) danil))) danil)) (dcb (call_reprD (hG trivial) (hu200 hr)) kRepr B.repr (by decide +kernel) (dacons (dct call_tuple_of kTuple B.tuple (by decide +kernel) (dacons (dcb (cr_sortA (hu64 hr)) kSorted B.sorted (by decide +kernel) (dacons (dvar 4) danil)) danil)) danil))) (dsone (dret dbl)) dsnil)
  (dscons (dif_ (dtcmp (op_neS (hu64 hr)) kNeS (dcb (call_reprD (hG trivial) (hu200 hr)) kRepr B.repr (by decide +kernel) (dacons (dcallDK tk hG k_atoms_of (hr.mono (by omega)) (dkcons (dvar 1) (dkcons (dvar 0) dknil))) danil)) (dcb (call_reprD (hG trivial) (hu200 hr)) kRepr B.repr (by decide +kernel) (dacons (dct call_tuple_of kTuple B.tuple (by decide +kernel) (dacons (dcb (cr_sortA (hu64 hr)) kSorted B.sorted (by decide +kernel) (dacons (dvar 4) danil)) danil)) danil))) (dsone (dret dbl)) dsnil)
  (dscons (dfor hp rfl (diany (dvar 2)) (dgN 6 nd) (tgN 6) (dsfrz 4 (dsone (dfor hp rfl (diany (dvar 4)) (dgN 8 nd) (tgN 8) (dsone (dif_ (dtcmp (op_notInX (hu65 hr)) kNotInX (dcb call_len kLen B.len (by decide +kernel) (dacons (dlc1 (own := [("_law_house", 5)]) rfl nd (diany (dvar 8)) (blkOk_by (by rfl)) (fun _ _ _ _ _ => (dgN 5 nd)) (tgN 5) (towN (by decide)) (fun _ _ _ _ _ => (dtcmp (op_eqS (hu64 hr)) kEqS (dcallD takes0 hG c__law_has (hr.mono (by omega)) (dacons (dvar 6) (dacons (dvar 5) danil))) dint)) (fun _ _ _ _ _ => (dvar 5))) danil)) (dtup (dacons dint (dacons (dcb call_len kLen B.len (by decide +kernel) (dacons (dvar 8) danil)) danil)))) (dsone (dret dbl)) dsnil))))))
  (dsone (dret dbl)))))))
abbrev s__law_pairs : Stmt := top 54
theorem sc__law_pairs : FnScope [("_law_source" : Str), ("_law_n" : Str), ("_law_pairs_here" : Str), ("_law_low" : Str), ("_law_high" : Str)] [("_law_source" : Str), ("_law_n" : Str)] (defScope s__law_pairs) := ⟨rfl, rfl, rfl, by decide +kernel, rfl, by decide +kernel, by decide +kernel⟩
def p__law_pairs (C_NotUsable : Addr) : SFn SrcG := (sSeq (sAsg 2 (fLst aNil))
  (sSeq (sFor (iRng1F (aCons (fVar 1) aNil)) (asgN 3) (sFor (iRng1F (aCons (fVar 1) aNil)) (asgN 4) (sIf (fAnd (fOp oNeS (fVar 3) (fVar 4)) (fOr (fOp oLtS (fVar 1) (fC (.int 5))) (fOp oEqS (fCallS 2 (v__law_draw C_NotUsable) (aCons (fVar 0) (aCons (fC (.int 3)) aNil))) (fC (.int 0))))) (sApp 2 (fTup (aCons (fVar 3) (aCons (fVar 4) aNil)))) sNil)))
  (sRetV 2)))
def v__law_pairs (C_NotUsable : Addr) : List SV → SrcG → Out SrcG := runS [("_law_source" : Str), ("_law_n" : Str), ("_law_pairs_here" : Str), ("_law_low" : Str), ("_law_high" : Str)] (p__law_pairs C_NotUsable)
theorem f__law_pairs (B : Bk mg) (e_NotUsable : Ex2 P w K mg base "NotUsable" C_NotUsable "word" "at") (c__law_draw : DfnS gd P w K mg base Fm 1 "_law_draw" 2 (v__law_draw C_NotUsable)) {f : Addr} {fd : FuncData} (F : Fun K "_law_pairs" "_law_pairs" s__law_pairs f fd) : FnG gd P w K mg base 2 f fd [("_law_source" : Str), ("_law_n" : Str)] (spS Fm K 2 (v__law_pairs C_NotUsable)) := fnS F sc__law_pairs fun cdv A outer s H D E i hr tk hp hG => by
  have nd := sc__law_pairs.nd
  have hI : Fm i = Fm i := rfl
  exact (dscons (dset 2 nd (dlst danil))
  (dscons (dfor hp rfl (dirng1 rfl B.range (dacons (dvar 1) danil)) (dgN 3 nd) (tgN 3) (dsone (dfor hp rfl (dirng1 rfl B.range (dacons (dvar 1) danil)) (dgN 4 nd) (tgN 4) (dsone (dif_ (dtw (dwand (dtcmp (op_neS (hu64 hr)) kNeS (dvar 3) (dvar 4)) (dwand1 (dtw (dwor (dtcmp (op_ltS (hu64 hr)) kLtS (dvar 1) dint) (dwor1 (dtcmp (op_eqS (hu64 hr)) kEqS (dcallDS hI tk hG c__law_draw (hr.mono (by omega)) (dacons (dvar 0) (dacons dint danil))) dint))))))) (dsone (dapp 2 (pv 2) (dtup (dacons (dvar 3) (dacons (dvar 4) danil))))) dsnil)))))
  (dsone (dretv 2 (pv 2)))))
abbrev s__law_parting_hold : Stmt := top 55
theorem sc__law_parting_hold : FnScope [("_law_n" : Str), ("_law_fears" : Str), ("_law_parted" : Str), ("_law_mates" : Str), ("_law_pairs_here" : Str), ("_law_due" : Str), ("_law_pair" : Str), ("_law_told" : Str), ("_law_lot" : Str)] [("_law_n" : Str), ("_law_fears" : Str), ("_law_parted" : Str), ("_law_mates" : Str), ("_law_pairs_here" : Str)] (defScope s__law_parting_hold) := ⟨rfl, rfl, rfl, by decide +kernel, rfl, by decide +kernel, by decide +kernel⟩
def p__law_parting_hold (C_NotUsable : Addr) : SFn Unit := (sSeq (sAsg 5 (fCall 2 (v__law_set_of C_NotUsable) (aCons (fVar 0) (aCons (fVar 2) aNil))))
  (sSeq (sFor (iAny (fVar 4)) (asgN 6) (sSeq (sAsg 7 (fCall 4 (v_parting_of C_NotUsable) (aCons (fVar 0) (aCons (fVar 1) (aCons (fOp oIx (fVar 6) (fC (.int 0))) (aCons (fOp oIx (fVar 6) (fC (.int 1))) aNil))))))
  (sIf (fOp (oInX false) (fOp oIx (fVar 6) (fC (.int 1))) (fOp oIx (fVar 3) (fOp oIx (fVar 6) (fC (.int 0))))) (sIf (fNotN (fVar 7)) (sRet (fC (.bool false))) sNil) (sSeq (sIf (fOr (fNot (fIsi "tuple" (fVar 7))) (fOp (oInX true) (fCB bRepr (aCons (fVar 7) aNil)) (fLc [8] (iAny (fVar 5)) (asgN 8) fYes (fCB bRepr (aCons (fVar 8) aNil))))) (sRet (fC (.bool false))) sNil)
  (sIf (fOr (fOp (oInX true) (fOp oIx (fVar 6) (fC (.int 0))) (fVar 7)) (fOp (oInX false) (fOp oIx (fVar 6) (fC (.int 1))) (fVar 7))) (sRet (fC (.bool false))) sNil)))))
  (sRet (fC (.bool true)))))
def v__law_parting_hold (C_NotUsable : Addr) : List PyData → Out Unit := runP [("_law_n" : Str), ("_law_fears" : Str), ("_law_parted" : Str), ("_law_mates" : Str), ("_law_pairs_here" : Str), ("_law_due" : Str), ("_law_pair" : Str), ("_law_told" : Str), ("_law_lot" : Str)] (p__law_parting_hold C_NotUsable)
theorem f__law_parting_hold (B : Bk mg) (e_NotUsable : Ex2 P w K mg base "NotUsable" C_NotUsable "word" "at") (c__law_set_of : Dfn True P w K mg base 3 "_law_set_of" 2 (v__law_set_of C_NotUsable)) (c_parting_of : Dfn True P w K mg base 7 "parting_of" 4 (v_parting_of C_NotUsable)) {f : Addr} {fd : FuncData} (F : Fun K "_law_parting_hold" "_law_parting_hold" s__law_parting_hold f fd) : FnG True P w K mg base 8 f fd [("_law_n" : Str), ("_law_fears" : Str), ("_law_parted" : Str), ("_law_mates" : Str), ("_law_pairs_here" : Str)] (spP K 5 (v__law_parting_hold C_NotUsable)) := fnP F sc__law_parting_hold fun cdv A outer s H D E hr tk hp hG => by
  have nd := sc__law_parting_hold.nd
  exact (dscons (dset 5 nd (dcallD tk hG c__law_set_of (hr.mono (by omega)) (dacons (dvar 0) (dacons (dvar 2) danil))))
  (dscons (dfor hp rfl (diany (dvar 4)) (dgN 6 nd) (tgN 6) (dscons (dset 7 nd (dcallD tk hG c_parting_of (hr.mono (by omega)) (dacons (dvar 0) (dacons (dvar 1) (dacons (dix ix_seq kIx (dvar 6) dint) (dacons (dix ix_seq kIx (dvar 6) dint) danil))))))
  (dsone (dif_ (dtcmp (op_inX (hu65 hr)) kInX (dix ix_seq kIx (dvar 6) dint) (dix ix_seq kIx (dvar 3) (dix ix_seq kIx (dvar 6) dint))) (dsone (dif_ (dtisnotn (dvar 7)) (dsone (dret dbl)) dsnil)) (dscons (dif_ (dtw (dwor (dtnot (dtval (disi (dvar 7) B.isinstance B.tuple (by decide +kernel)))) (dwor1 (dtcmp (op_notInX (hu65 hr)) kNotInX (dcb (call_reprD (hG trivial) (hu200 hr)) kRepr B.repr (by decide +kernel) (dacons (dvar 7) danil)) (dlc0 (own := [("_law_lot", 8)]) rfl nd (diany (dvar 5)) (blkOk_by (by rfl)) (fun _ _ _ _ _ => (dgN 8 nd)) (tgN 8) (towN (by decide)) (fun _ _ _ _ _ => (dcb (call_reprD (hG trivial) (hu200 hr)) kRepr B.repr (by decide +kernel) (dacons (dvar 8) danil)))))))) (dsone (dret dbl)) dsnil)
  (dsone (dif_ (dtw (dwor (dtcmp (op_notInX (hu65 hr)) kNotInX (dix ix_seq kIx (dvar 6) dint) (dvar 7)) (dwor1 (dtcmp (op_inX (hu65 hr)) kInX (dix ix_seq kIx (dvar 6) dint) (dvar 7))))) (dsone (dret dbl)) dsnil)))))))
  (dsone (dret dbl))))
abbrev s__law_turned : Stmt := top 56
theorem sc__law_turned : FnScope [("_law_n" : Str), ("_law_lot" : Str), ("_law_house" : Str)] [("_law_n" : Str), ("_law_lot" : Str)] (defScope s__law_turned) := ⟨rfl, rfl, rfl, by decide +kernel, rfl, by decide +kernel, by decide +kernel⟩
def p__law_turned (C_NotUsable : Addr) : SFn Unit := (sRet (fCB bTuple (aCons (fCB bSorted (aCons (fLc [2] (iAny (fVar 1)) (asgN 2) fYes (fOp oSub (fOp oSub (fVar 0) (fC (.int 1))) (fVar 2))) aNil)) aNil)))
def v__law_turned (C_NotUsable : Addr) : List PyData → Out Unit := runP [("_law_n" : Str), ("_law_lot" : Str), ("_law_house" : Str)] (p__law_turned C_NotUsable)
theorem f__law_turned (B : Bk mg) (e_NotUsable : Ex2 P w K mg base "NotUsable" C_NotUsable "word" "at") {f : Addr} {fd : FuncData} (F : Fun K "_law_turned" "_law_turned" s__law_turned f fd) : FnG gd P w K mg base 1 f fd [("_law_n" : Str), ("_law_lot" : Str)] (spP K 2 (v__law_turned C_NotUsable)) := fnP F sc__law_turned fun cdv A outer s H D E hr tk hp hG => by
  have nd := sc__law_turned.nd
  exact (dsone (dret (dct call_tuple_of kTuple B.tuple (by decide +kernel) (dacons (dcb (cr_sortA (hu64 hr)) kSorted B.sorted (by decide +kernel) (dacons (dlc0 (own := [("_law_house", 2)]) rfl nd (diany (dvar 1)) (blkOk_by (by rfl)) (fun _ _ _ _ _ => (dgN 2 nd)) (tgN 2) (towN (by decide)) (fun _ _ _ _ _ => (dop op_sub kSub (dop op_sub kSub (dvar 0) dint) (dvar 2)))) danil)) danil))))
abbrev s__law_turned_hold : Stmt := top 57
theorem sc__law_turned_hold : FnScope [("_law_n" : Str), ("_law_fears" : Str), ("_law_parted" : Str), ("_law_mates" : Str), ("_law_turned_here" : Str), ("_law_due" : Str), ("_law_house" : Str), ("_law_there" : Str), ("_law_lot" : Str), ("_law_mark" : Str)] [("_law_n" : Str), ("_law_fears" : Str), ("_law_parted" : Str), ("_law_mates" : Str)] (defScope s__law_turned_hold) := ⟨rfl, rfl, rfl, by decide +kernel, rfl, by decide +kernel, by decide +kernel⟩
def p__law_turned_hold (C_NotUsable : Addr) : SFn Unit := (sSeq (sAsg 4 (fCB bTuple (aCons (fCB bSorted (aCons (fLc [8] (iAny (fVar 1)) (asgN 8) fYes (fCall 2 (v__law_turned C_NotUsable) (aCons (fVar 0) (aCons (fVar 8) aNil)))) aNil)) aNil)))
  (sSeq (sAsg 5 (fCB bTuple (aCons (fCB bSorted (aCons (fLc [9] (iAny (fVar 2)) (asgN 9) fYes (fCall 2 (v__law_turned C_NotUsable) (aCons (fVar 0) (aCons (fCall 2 (v__law_lot_of C_NotUsable) (aCons (fVar 0) (aCons (fVar 9) aNil))) aNil)))) aNil)) aNil)))
  (sSeq (sIf (fOp oNeS (fCB bRepr (aCons (fCall 2 (v_partings_of C_NotUsable) (aCons (fVar 0) (aCons (fVar 4) aNil))) aNil)) (fCB bRepr (aCons (fVar 5) aNil))) (sRet (fC (.bool false))) sNil)
  (sSeq (sFor (iRng1F (aCons (fVar 0) aNil)) (asgN 6) (sSeq (sAsg 7 (fCall 2 (v__law_turned C_NotUsable) (aCons (fVar 0) (aCons (fOp oIx (fVar 3) (fOp oSub (fOp oSub (fVar 0) (fC (.int 1))) (fVar 6))) aNil))))
  (sIf (fOp oNeS (fCB bRepr (aCons (fCall 3 (v_atom_at C_NotUsable) (aCons (fVar 0) (aCons (fVar 4) (aCons (fVar 6) aNil)))) aNil)) (fCB bRepr (aCons (fVar 7) aNil))) (sRet (fC (.bool false))) sNil)))
  (sRet (fC (.bool true)))))))
def v__law_turned_hold (C_NotUsable : Addr) : List PyData → Out Unit := runP [("_law_n" : Str), ("_law_fears" : Str), ("_law_parted" : Str), ("_law_mates" : Str), ("_law_turned_here" : Str), ("_law_due" : Str), ("_law_house" : Str), ("_law_there" : Str), ("_law_lot" : Str), ("_law_mark" : Str)] (p__law_turned_hold C_NotUsable)
theorem f__law_turned_hold (B : Bk mg) (e_NotUsable : Ex2 P w K mg base "NotUsable" C_NotUsable "word" "at") (c__law_lot_of : Dfn True P w K mg base 2 "_law_lot_of" 2 (v__law_lot_of C_NotUsable)) (c__law_turned : Dfn True P w K mg base 1 "_law_turned" 2 (v__law_turned C_NotUsable)) (c_atom_at : Dfn True P w K mg base 7 "atom_at" 3 (v_atom_at C_NotUsable)) (c_partings_of : Dfn True P w K mg base 7 "partings_of" 2 (v_partings_of C_NotUsable)) {f : Addr} {fd : FuncData} (F : Fun K "_law_turned_hold" "_law_turned_hold" s__law_turned_hold f fd) : FnG True P w K mg base 8 f fd [("_law_n" : Str), ("_law_fears" : Str), ("_law_parted" : Str), ("_law_mates" : Str)] (spP K 4 (v__law_turned_hold C_NotUsable)) := fnP F sc__law_turned_hold fun cdv A outer s H D E hr tk hp hG => by
  have nd := sc__law_turned_hold.nd
  exact (dscons (dset 4 nd (dct call_tuple_of kTuple B.tuple (by decide +kernel) (dacons (dcb (cr_sortA (hu64 hr)) kSorted B.sorted (by decide +kernel) (dacons (dlc0 (own := [("_law_lot", 8)]) rfl nd (diany (dvar 1)) (blkOk_by (by rfl)) (fun _ _ _ _ _ => (dgN 8 nd)) (tgN 8) (towN (by decide)) (fun _ _ _ _ _ => (dcallD takes0 hG c__law_turned (hr.mono (by omega)) (dacons (dvar 0) (dacons (dvar 8) danil))))) danil)) danil)))
  (dscons (dset 5 nd (dct call_tuple_of kTuple B.tuple (by decide +kernel) (dacons (dcb (cr_sortA (hu64 hr)) kSorted B.sorted (by decide +kernel) (dacons (dlc0 (own := [("_law_mark", 9)]) rfl nd (diany (dvar 2)) (blkOk_by (by rfl)) (fun _ _ _ _ _ => (dgN 9 nd)) (tgN 9) (towN (by decide)) (fun _ _ _ _ _ => (dcallD takes0 hG c__law_turned (hr.mono (by omega)) (dacons (dvar 0) (dacons (dcallD takes0 hG c__law_lot_of (hr.mono (by omega)) (dacons (dvar 0) (dacons (dvar 9) danil))) danil))))) danil)) danil)))
  (dscons (dif_ (dtcmp (op_neS (hu64 hr)) kNeS (dcb (call_reprD (hG trivial) (hu200 hr)) kRepr B.repr (by decide +kernel) (dacons (dcallD tk hG c_partings_of (hr.mono (by omega)) (dacons (dvar 0) (dacons (dvar 4) danil))) danil)) (dcb (call_reprD (hG trivial) (hu200 hr)) kRepr B.repr (by decide +kernel) (dacons (dvar 5) danil))) (dsone (dret dbl)) dsnil)
  (dscons (dfor hp rfl (dirng1 rfl B.range (dacons (dvar 0) danil)) (dgN 6 nd) (tgN 6) (dscons (dset 7 nd (dcallD tk hG c__law_turned (hr.mono (by omega)) (dacons (dvar 0) (dacons (dix ix_seq kIx (dvar 3) (dop op_sub kSub (dop op_sub kSub (dvar 0) dint) (dvar 6))) danil))))
  (dsone (dif_ (dtcmp (op_neS (hu64 hr)) kNeS (dcb (call_reprD (hG trivial) (hu200 hr)) kRepr B.repr (by decide +kernel) (dacons (dcallD tk hG c_atom_at (hr.mono (by omega)) (dacons (dvar 0) (dacons (dvar 4) (dacons (dvar 6) danil)))) danil)) (dcb (call_reprD (hG trivial) (hu200 hr)) kRepr B.repr (by decide +kernel) (dacons (dvar 7) danil))) (dsone (dret dbl)) dsnil))))
  (dsone (dret dbl))))))
abbrev s__law_few_hold : Stmt := top 58
theorem sc__law_few_hold : FnScope [("_law_source" : Str), ("_law_n" : Str), ("_law_few" : Str), ("_law_fears" : Str), ("_law_singles" : Str), ("_law_marks" : Str), ("_law_mark" : Str), ("_law_house" : Str)] [("_law_source" : Str), ("_law_n" : Str)] (defScope s__law_few_hold) := ⟨rfl, rfl, rfl, by decide +kernel, rfl, by decide +kernel, by decide +kernel⟩
def p__law_few_hold (C_NotUsable : Addr) : SFn SrcG := (sSeq (sAsg 2 (fCallS 2 (v__law_draw C_NotUsable) (aCons (fVar 0) (aCons (fOp oAdd (fVar 1) (fC (.int 1))) aNil))))
  (sSeq (sAsg 3 (fCall 2 (v_few_fears C_NotUsable) (aCons (fVar 1) (aCons (fVar 2) aNil))))
  (sSeq (sAsg 4 (fCB bTuple (aCons (fLc [7] (iRng1F (aCons (fVar 1) aNil)) (asgN 7) fYes (fTup (aCons (fVar 7) aNil))) aNil)))
  (sSeq (sIf (fOr (fOp oLtS (fOp oMul (fC (.int 2)) (fVar 2)) (fVar 1)) (fOp oEqS (fVar 1) (fC (.int 1)))) (sRet (fOp oEqS (fCB bRepr (aCons (fCall 2 (v_atoms_of C_NotUsable) (aCons (fVar 1) (aCons (fVar 3) aNil))) aNil)) (fCB bRepr (aCons (fTup (aCons (fTupR (fVar 1)) aNil)) aNil)))) sNil)
  (sSeq (sAsg 5 (fLc [6] (iRng1F (aCons (fOp oAdd (fCall 1 (v__law_full C_NotUsable) (aCons (fVar 1) aNil)) (fC (.int 1))) aNil)) (asgN 6) (fAnd (fOp oLe (fOp oSub (fVar 1) (fVar 2)) (fCall 2 (v__law_ones C_NotUsable) (aCons (fVar 1) (aCons (fVar 6) aNil)))) (fOp oLe (fCall 2 (v__law_ones C_NotUsable) (aCons (fVar 1) (aCons (fVar 6) aNil))) (fVar 2))) (fVar 6)))
  (sFrz 5 (sRet (fAnd (fOp oEqS (fCB bRepr (aCons (fCall 2 (v_atoms_of C_NotUsable) (aCons (fVar 1) (aCons (fVar 3) aNil))) aNil)) (fCB bRepr (aCons (fVar 4) aNil))) (fOp oEqS (fCB bRepr (aCons (fCall 2 (v_partings_of C_NotUsable) (aCons (fVar 1) (aCons (fVar 3) aNil))) aNil)) (fCB bRepr (aCons (fCall 2 (v__law_set_of C_NotUsable) (aCons (fVar 1) (aCons (fVar 5) aNil))) aNil)))))))))))
def v__law_few_hold (C_NotUsable : Addr) : List SV → SrcG → Out SrcG := runS [("_law_source" : Str), ("_law_n" : Str), ("_law_few" : Str), ("_law_fears" : Str), ("_law_singles" : Str), ("_law_marks" : Str), ("_law_mark" : Str), ("_law_house" : Str)] (p__law_few_hold C_NotUsable)
theorem f__law_few_hold (B : Bk mg) (e_NotUsable : Ex2 P w K mg base "NotUsable" C_NotUsable "word" "at") (c__law_draw : DfnS True P w K mg base Fm 1 "_law_draw" 2 (v__law_draw C_NotUsable)) (c__law_full : Dfn True P w K mg base 1 "_law_full" 1 (v__law_full C_NotUsable)) (c__law_ones : Dfn True P w K mg base 2 "_law_ones" 2 (v__law_ones C_NotUsable)) (c__law_set_of : Dfn True P w K mg base 3 "_law_set_of" 2 (v__law_set_of C_NotUsable)) (c_atoms_of : Dfn True P w K mg base 7 "atoms_of" 2 (v_atoms_of C_NotUsable)) (c_few_fears : Dfn True P w K mg base 5 "few_fears" 2 (v_few_fears C_NotUsable)) (c_partings_of : Dfn True P w K mg base 7 "partings_of" 2 (v_partings_of C_NotUsable)) {f : Addr} {fd : FuncData} (F : Fun K "_law_few_hold" "_law_few_hold" s__law_few_hold f fd) : FnG True P w K mg base 8 f fd [("_law_source" : Str), ("_law_n" : Str)] (spS Fm K 2 (v__law_few_hold C_NotUsable)) := fnS F sc__law_few_hold fun cdv A outer s H D E i hr tk hp hG => by
  have nd := sc__law_few_hold.nd
  have hI : Fm i = Fm i := rfl
  exact (dscons (dset 2 nd (dcallDS hI tk hG c__law_draw (hr.mono (by omega)) (dacons (dvar 0) (dacons (dop op_addAll kAdd (dvar 1) dint) danil))))
  (dscons (dset 3 nd (dcallD tk hG c_few_fears (hr.mono (by omega)) (dacons (dvar 1) (dacons (dvar 2) danil))))
  (dscons (dset 4 nd (dct call_tuple_of kTuple B.tuple (by decide +kernel) (dacons (dlc0 (own := [("_law_house", 7)]) rfl nd (dirng1 rfl B.range (dacons (dvar 1) danil)) (blkOk_by (by rfl)) (fun _ _ _ _ _ => (dgN 7 nd)) (tgN 7) (towN (by decide)) (fun _ _ _ _ _ => (dtup (dacons (dvar 7) danil)))) danil)))
  (dscons (dif_ (dtw (dwor (dtcmp (op_ltS (hu64 hr)) kLtS (dop op_mulW kMul dint (dvar 2)) (dvar 1)) (dwor1 (dtcmp (op_eqS (hu64 hr)) kEqS (dvar 1) dint)))) (dsone (dret (dcmp (op_eqS (hu64 hr)) kEqS (dcb (call_reprD (hG trivial) (hu200 hr)) kRepr B.repr (by decide +kernel) (dacons (dcallD tk hG c_atoms_of (hr.mono (by omega)) (dacons (dvar 1) (dacons (dvar 3) danil))) danil)) (dcb (call_reprD (hG trivial) (hu200 hr)) kRepr B.repr (by decide +kernel) (dacons (dtup (dacons (dtupR (dvar 1) B.tuple B.range rfl) danil)) danil))))) dsnil)
  (dscons (dsetlc1 5 (own := [("_law_mark", 6)]) rfl nd (dirng1 rfl B.range (dacons (dop op_addAll kAdd (dcallD tk hG c__law_full (hr.mono (by omega)) (dacons (dvar 1) danil)) dint) danil)) (blkOk_by (by rfl)) (fun _ _ _ _ _ => (dgN 6 nd)) (tgN 6) (towN (by decide)) (fun _ _ _ _ _ => (dtw (dwand (dtcmp op_le kLe (dop op_sub kSub (dvar 1) (dvar 2)) (dcallD takes0 hG c__law_ones (hr.mono (by omega)) (dacons (dvar 1) (dacons (dvar 6) danil)))) (dwand1 (dtcmp op_le kLe (dcallD takes0 hG c__law_ones (hr.mono (by omega)) (dacons (dvar 1) (dacons (dvar 6) danil))) (dvar 2)))))) (fun _ _ _ _ _ => (dvar 6)))
  (dsfrz 5 (dsone (dret (dand (dcmp (op_eqS (hu64 hr)) kEqS (dcb (call_reprD (hG trivial) (hu200 hr)) kRepr B.repr (by decide +kernel) (dacons (dcallD tk hG c_atoms_of (hr.mono (by omega)) (dacons (dvar 1) (dacons (dvar 3) danil))) danil)) (dcb (call_reprD (hG trivial) (hu200 hr)) kRepr B.repr (by decide +kernel) (dacons (dvar 4) danil))) (done1 (dcmp (op_eqS (hu64 hr)) kEqS (dcb (call_reprD (hG trivial) (hu200 hr)) kRepr B.repr (by decide +kernel) (dacons (dcallD tk hG c_partings_of (hr.mono (by omega)) (dacons (dvar 1) (dacons (dvar 3) danil))) danil)) (dcb (call_reprD (hG trivial) (hu200 hr)) kRepr B.repr (by decide +kernel) (dacons (dcallD tk hG c__law_set_of (hr.mono (by omega)) (dacons (dvar 1) (dacons (dvar 5) danil))) danil)))))))))))))
abbrev s__law_refused : Stmt := top 59
theorem sc__law_refused : FnScope [("_law_number" : Str), ("_law_n" : Str), ("_law_fears" : Str), ("_law_worth" : Str), ("bad" : Str)] [("_law_number" : Str), ("_law_n" : Str), ("_law_fears" : Str), ("_law_worth" : Str)] (defScope s__law_refused) := ⟨rfl, rfl, rfl, by decide +kernel, rfl, by decide +kernel, by decide +kernel⟩
def p__law_refused (C_NotUsable : Addr) : SFn Unit := (sSeq (sTryR 4 C_NotUsable "word" "at" (sIf (fOp oEqS (fVar 0) (fC (.int 0))) (sDrop (fCall 3 (v_is_parting C_NotUsable) (aCons (fVar 1) (aCons (fVar 2) (aCons (fVar 3) aNil))))) (sIf (fOp oEqS (fVar 0) (fC (.int 1))) (sDrop (fCall 4 (v_parting_of C_NotUsable) (aCons (fVar 1) (aCons (fVar 2) (aCons (fVar 3) (aCons (fC (.int 0)) aNil)))))) (sIf (fOp oEqS (fVar 0) (fC (.int 2))) (sDrop (fCall 4 (v_parting_of C_NotUsable) (aCons (fVar 1) (aCons (fVar 2) (aCons (fC (.int 0)) (aCons (fVar 3) aNil)))))) (sIf (fOp oEqS (fVar 0) (fC (.int 3))) (sDrop (fCall 3 (v_atom_at C_NotUsable) (aCons (fVar 1) (aCons (fVar 2) (aCons (fVar 3) aNil))))) (sIf (fOp oEqS (fVar 0) (fC (.int 4))) (sDrop (fCall 2 (v_atoms_of C_NotUsable) (aCons (fVar 1) (aCons (fVar 3) aNil)))) (sDrop (fCall 2 (v_partings_of C_NotUsable) (aCons (fVar 1) (aCons (fVar 3) aNil))))))))))
  (sRet (fC (.str "let"))))
def v__law_refused (C_NotUsable : Addr) : List PyData → Out Unit := runP [("_law_number" : Str), ("_law_n" : Str), ("_law_fears" : Str), ("_law_worth" : Str), ("bad" : Str)] (p__law_refused C_NotUsable)
theorem f__law_refused (B : Bk mg) (e_NotUsable : Ex2 P w K mg base "NotUsable" C_NotUsable "word" "at") (c_atom_at : Dfn True P w K mg base 7 "atom_at" 3 (v_atom_at C_NotUsable)) (c_atoms_of : Dfn True P w K mg base 7 "atoms_of" 2 (v_atoms_of C_NotUsable)) (c_is_parting : Dfn True P w K mg base 7 "is_parting" 3 (v_is_parting C_NotUsable)) (c_parting_of : Dfn True P w K mg base 7 "parting_of" 4 (v_parting_of C_NotUsable)) (c_partings_of : Dfn True P w K mg base 7 "partings_of" 2 (v_partings_of C_NotUsable)) {f : Addr} {fd : FuncData} (F : Fun K "_law_refused" "_law_refused" s__law_refused f fd) : FnG True P w K mg base 8 f fd [("_law_number" : Str), ("_law_n" : Str), ("_law_fears" : Str), ("_law_worth" : Str)] (spP K 4 (v__law_refused C_NotUsable)) := fnP F sc__law_refused fun cdv A outer s H D E hr tk hp hG => by
  have nd := sc__law_refused.nd
  exact (dscons (dtry (i := 4) e_NotUsable tk nd rfl (hG trivial) (by have := hr.un; omega) rfl rfl rfl rfl rfl B.repr rfl (by decide) (by decide) (by decide) (by first | exact Or.inl rfl | exact Or.inr (Or.inl rfl)) rfl rfl rfl rfl rfl rfl (fun W pn xe tk2 hp2 => (dsone (dif_ (dtcmp (op_eqS (hu64 hr)) kEqS (dvar 0) dint) (dsone (dexpr (dcallD tk2 hG c_is_parting (hr.mono (by omega)) (dacons (dvar 1) (dacons (dvar 2) (dacons (dvar 3) danil)))))) (dsone (dif_ (dtcmp (op_eqS (hu64 hr)) kEqS (dvar 0) dint) (dsone (dexpr (dcallD tk2 hG c_parting_of (hr.mono (by omega)) (dacons (dvar 1) (dacons (dvar 2) (dacons (dvar 3) (dacons dint danil))))))) (dsone (dif_ (dtcmp (op_eqS (hu64 hr)) kEqS (dvar 0) dint) (dsone (dexpr (dcallD tk2 hG c_parting_of (hr.mono (by omega)) (dacons (dvar 1) (dacons (dvar 2) (dacons dint (dacons (dvar 3) danil))))))) (dsone (dif_ (dtcmp (op_eqS (hu64 hr)) kEqS (dvar 0) dint) (dsone (dexpr (dcallD tk2 hG c_atom_at (hr.mono (by omega)) (dacons (dvar 1) (dacons (dvar 2) (dacons (dvar 3) danil)))))) (dsone (dif_ (dtcmp (op_eqS (hu64 hr)) kEqS (dvar 0) dint) (dsone (dexpr (dcallD tk2 hG c_atoms_of (hr.mono (by omega)) (dacons (dvar 1) (dacons (dvar 3) danil))))) (dsone (dexpr (dcallD tk2 hG c_partings_of (hr.mono (by omega)) (dacons (dvar 1) (dacons (dvar 3) danil)))))))))))))))))
  (dsone (dret dstr)))
abbrev s__law_ends_hold : Stmt := top 60
theorem sc__law_ends_hold : FnScope [("_law_n" : Str), ("_law_fears" : Str), ("_law_every" : Str), ("_law_asks" : Str), ("_law_each" : Str)] [("_law_n" : Str), ("_law_fears" : Str)] (defScope s__law_ends_hold) := ⟨rfl, rfl, rfl, by decide +kernel, rfl, by decide +kernel, by decide +kernel⟩
def p__law_ends_hold (C_NotUsable : Addr) : SFn Unit := (sSeq (sAsg 2 (fTupR (fVar 0)))
  (sSeq (sAsg 3 (fLst (aCons (fTup (aCons (fC (.int 0)) (aCons (fTup (aCons (fVar 0) aNil)) (aCons (fC (.str "('lot', -1)")) aNil)))) (aCons (fTup (aCons (fC (.int 0)) (aCons (fVar 2) (aCons (fC (.str "let")) aNil)))) (aCons (fTup (aCons (fC (.int 0)) (aCons (fFrz (fCB bList (aCons (fVar 2) aNil))) (aCons (fC (.str "('lot', -1)")) aNil)))) (aCons (fTup (aCons (fC (.int 0)) (aCons (fTup aNil) (aCons (fC (.str "let")) aNil)))) aNil))))))
  (sSeq (sAsg 3 (fOp oAddL (fVar 3) (fLst (aCons (fTup (aCons (fC (.int 1)) (aCons (fVar 0) (aCons (fC (.str "('one', -1)")) aNil)))) (aCons (fTup (aCons (fC (.int 1)) (aCons (fC (.int 0)) (aCons (fC (.str "('other', -1)")) aNil)))) (aCons (fTup (aCons (fC (.int 2)) (aCons (fC (.int 0)) (aCons (fC (.str "('other', -1)")) aNil)))) (aCons (fTup (aCons (fC (.int 2)) (aCons (fVar 0) (aCons (fC (.str "('other', -1)")) aNil)))) aNil)))))))
  (sSeq (sAsg 3 (fOp oAddL (fVar 3) (fLst (aCons (fTup (aCons (fC (.int 1)) (aCons (fC (.bool false)) (aCons (fC (.str "('one', -1)")) aNil)))) (aCons (fTup (aCons (fC (.int 2)) (aCons (fC .none) (aCons (fC (.str "('other', -1)")) aNil)))) (aCons (fTup (aCons (fC (.int 3)) (aCons (fOp oSub (fVar 0) (fC (.int 1))) (aCons (fC (.str "let")) aNil)))) (aCons (fTup (aCons (fC (.int 3)) (aCons (fVar 0) (aCons (fC (.str "('house', -1)")) aNil)))) aNil)))))))
  (sSeq (sAsg 3 (fOp oAddL (fVar 3) (fLst (aCons (fTup (aCons (fC (.int 3)) (aCons (fUn oNeg (fC (.int 1))) (aCons (fC (.str "('house', -1)")) aNil)))) (aCons (fTup (aCons (fC (.int 3)) (aCons (fC (.bool false)) (aCons (fC (.str "('house', -1)")) aNil)))) (aCons (fTup (aCons (fC (.int 4)) (aCons (fTup aNil) (aCons (fC (.str "('fears', -1)")) aNil)))) (aCons (fTup (aCons (fC (.int 4)) (aCons (fVar 1) (aCons (fC (.str "let")) aNil)))) aNil)))))))
  (sSeq (sAsg 3 (fOp oAddL (fVar 3) (fLst (aCons (fTup (aCons (fC (.int 4)) (aCons (fTup (aCons (fTup (aCons (fVar 0) aNil)) aNil)) (aCons (fC (.str "('fears', -1)")) aNil)))) (aCons (fTup (aCons (fC (.int 5)) (aCons (fTup (aCons (fVar 2) (aCons (fVar 2) aNil))) (aCons (fC (.str "('fears', -1)")) aNil)))) (aCons (fTup (aCons (fC (.int 5)) (aCons (fTup (aCons (fTup aNil) aNil)) (aCons (fC (.str "let")) aNil)))) aNil))))))
  (sSeq (sIf (fOp oGt (fVar 0) (fC (.int 1))) (sSeq (sAsg 3 (fOp oAddL (fVar 3) (fLst (aCons (fTup (aCons (fC (.int 1)) (aCons (fOp oSub (fVar 0) (fC (.int 1))) (aCons (fC (.str "let")) aNil)))) (aCons (fTup (aCons (fC (.int 2)) (aCons (fOp oSub (fVar 0) (fC (.int 1))) (aCons (fC (.str "let")) aNil)))) (aCons (fTup (aCons (fC (.int 5)) (aCons (fTup (aCons (fTup (aCons (fC (.int 0)) aNil)) (aCons (fTup (aCons (fC (.int 0)) (aCons (fOp oSub (fVar 0) (fC (.int 1))) aNil))) aNil))) (aCons (fC (.str "('fears', -1)")) aNil)))) aNil))))))
  (sAsg 3 (fOp oAddL (fVar 3) (fLst (aCons (fTup (aCons (fC (.int 4)) (aCons (fTup (aCons (fTup (aCons (fOp oSub (fVar 0) (fC (.int 1))) aNil)) (aCons (fTup (aCons (fC (.int 0)) aNil)) aNil))) (aCons (fC (.str "('fears', -1)")) aNil)))) (aCons (fTup (aCons (fC (.int 4)) (aCons (fTup (aCons (fTup (aCons (fC (.int 0)) aNil)) (aCons (fTup (aCons (fOp oSub (fVar 0) (fC (.int 1))) aNil)) aNil))) (aCons (fC (.str "let")) aNil)))) aNil)))))) sNil)
  (sFrz 3 (sSeq (sFor (iAny (fVar 3)) (asgN 4) (sIf (fOp oNeS (fCall 4 (v__law_refused C_NotUsable) (aCons (fOp oIx (fVar 4) (fC (.int 0))) (aCons (fVar 0) (aCons (fVar 1) (aCons (fOp oIx (fVar 4) (fC (.int 1))) aNil))))) (fOp oIx (fVar 4) (fC (.int 2)))) (sRet (fC (.bool false))) sNil))
  (sRet (fC (.bool true))))))))))))
def v__law_ends_hold (C_NotUsable : Addr) : List PyData → Out Unit := runP [("_law_n" : Str), ("_law_fears" : Str), ("_law_every" : Str), ("_law_asks" : Str), ("_law_each" : Str)] (p__law_ends_hold C_NotUsable)
theorem f__law_ends_hold (B : Bk mg) (e_NotUsable : Ex2 P w K mg base "NotUsable" C_NotUsable "word" "at") (c__law_refused : Dfn True P w K mg base 8 "_law_refused" 4 (v__law_refused C_NotUsable)) {f : Addr} {fd : FuncData} (F : Fun K "_law_ends_hold" "_law_ends_hold" s__law_ends_hold f fd) : FnG True P w K mg base 9 f fd [("_law_n" : Str), ("_law_fears" : Str)] (spP K 2 (v__law_ends_hold C_NotUsable)) := fnP F sc__law_ends_hold fun cdv A outer s H D E hr tk hp hG => by
  have nd := sc__law_ends_hold.nd
  exact (dscons (dset 2 nd (dtupR (dvar 0) B.tuple B.range rfl))
  (dscons (dset 3 nd (dlst (dacons (dtup (dacons dint (dacons (dtup (dacons (dvar 0) danil)) (dacons dstr danil)))) (dacons (dtup (dacons dint (dacons (dvar 2) (dacons dstr danil)))) (dacons (dtup (dacons dint (dacons (dfrz (dct call_list_of kList B.list (by decide +kernel) (dacons (dvar 2) danil))) (dacons dstr danil)))) (dacons (dtup (dacons dint (dacons (dtup danil) (dacons dstr danil)))) danil))))))
  (dscons (dset 3 nd (dop op_addL kAddL (dvar 3) (dlst (dacons (dtup (dacons dint (dacons (dvar 0) (dacons dstr danil)))) (dacons (dtup (dacons dint (dacons dint (dacons dstr danil)))) (dacons (dtup (dacons dint (dacons dint (dacons dstr danil)))) (dacons (dtup (dacons dint (dacons (dvar 0) (dacons dstr danil)))) danil)))))))
  (dscons (dset 3 nd (dop op_addL kAddL (dvar 3) (dlst (dacons (dtup (dacons dint (dacons dbl (dacons dstr danil)))) (dacons (dtup (dacons dint (dacons dnon (dacons dstr danil)))) (dacons (dtup (dacons dint (dacons (dop op_sub kSub (dvar 0) dint) (dacons dstr danil)))) (dacons (dtup (dacons dint (dacons (dvar 0) (dacons dstr danil)))) danil)))))))
  (dscons (dset 3 nd (dop op_addL kAddL (dvar 3) (dlst (dacons (dtup (dacons dint (dacons (dun un_neg kNeg dint) (dacons dstr danil)))) (dacons (dtup (dacons dint (dacons dbl (dacons dstr danil)))) (dacons (dtup (dacons dint (dacons (dtup danil) (dacons dstr danil)))) (dacons (dtup (dacons dint (dacons (dvar 1) (dacons dstr danil)))) danil)))))))
  (dscons (dset 3 nd (dop op_addL kAddL (dvar 3) (dlst (dacons (dtup (dacons dint (dacons (dtup (dacons (dtup (dacons (dvar 0) danil)) danil)) (dacons dstr danil)))) (dacons (dtup (dacons dint (dacons (dtup (dacons (dvar 2) (dacons (dvar 2) danil))) (dacons dstr danil)))) (dacons (dtup (dacons dint (dacons (dtup (dacons (dtup danil) danil)) (dacons dstr danil)))) danil))))))
  (dscons (dif_ (dtcmp op_gt kGt (dvar 0) dint) (dscons (dset 3 nd (dop op_addL kAddL (dvar 3) (dlst (dacons (dtup (dacons dint (dacons (dop op_sub kSub (dvar 0) dint) (dacons dstr danil)))) (dacons (dtup (dacons dint (dacons (dop op_sub kSub (dvar 0) dint) (dacons dstr danil)))) (dacons (dtup (dacons dint (dacons (dtup (dacons (dtup (dacons dint danil)) (dacons (dtup (dacons dint (dacons (dop op_sub kSub (dvar 0) dint) danil))) danil))) (dacons dstr danil)))) danil))))))
  (dsone (dset 3 nd (dop op_addL kAddL (dvar 3) (dlst (dacons (dtup (dacons dint (dacons (dtup (dacons (dtup (dacons (dop op_sub kSub (dvar 0) dint) danil)) (dacons (dtup (dacons dint danil)) danil))) (dacons dstr danil)))) (dacons (dtup (dacons dint (dacons (dtup (dacons (dtup (dacons dint danil)) (dacons (dtup (dacons (dop op_sub kSub (dvar 0) dint) danil)) danil))) (dacons dstr danil)))) danil))))))) dsnil)
  (dsfrz 3 (dscons (dfor hp rfl (diany (dvar 3)) (dgN 4 nd) (tgN 4) (dsone (dif_ (dtcmp (op_neS (hu64 hr)) kNeS (dcallD tk hG c__law_refused (hr.mono (by omega)) (dacons (dix ix_seq kIx (dvar 4) dint) (dacons (dvar 0) (dacons (dvar 1) (dacons (dix ix_seq kIx (dvar 4) dint) danil))))) (dix ix_seq kIx (dvar 4) dint)) (dsone (dret dbl)) dsnil)))
  (dsone (dret dbl)))))))))))
end
end K3

set_option Elab.async false
set_option linter.all false
set_option autoImplicit false
set_option maxRecDepth 100000
set_option maxHeartbeats 4000000
namespace K3
open PySem PySem.Spec PyProof.Rows L2 Dn
theorem if_pos_of {c : Bool} {A B : Prop} (hc : c = true) (h : A) : if c = true then A else B := by rw [if_pos hc]; exact h
theorem if_neg_of {c : Bool} {A B : Prop} (hc : c = false) (h : B) : if c = true then A else B := by rw [hc, if_neg Bool.false_ne_true]; exact h
theorem ixN_at {n j : Nat} (h : j < n) : ixN n (j : Int) = some j := by
  unfold ixN
  rw [if_pos (by omega), if_pos (by omega)]
  rfl
section
variable {gd : Prop} {P : Program} {w : World} {K : PySem.W.Frag} {mg : Str → Option Value} {base : Heap} {C_NotUsable : Addr}
abbrev s__law_draw : Stmt := top 40
theorem sc__law_draw : FnScope [("_law_source" : Str), ("_law_top" : Str), ("_law_cells" : Str), ("_law_turn" : Str), ("_law_at" : Str), ("_law_cell" : Str), ("_law_once" : Str), ("_law_twice" : Str)] [("_law_source" : Str), ("_law_top" : Str)] (defScope s__law_draw) := ⟨rfl, rfl, rfl, by decide +kernel, rfl, by decide +kernel, by decide +kernel⟩
theorem f__law_draw (B : Bk mg) {f : Addr} {fd : FuncData} (F : Fun K "_law_draw" "_law_draw" s__law_draw f fd) : FnG gd P w K mg base 1 f fd [("_law_source" : Str), ("_law_top" : Str)] (spS Fm K 2 (v__law_draw C_NotUsable)) := by
  refine fnG_of F sc__law_draw (fun vs H Q E h => h.1) fun cdv A outer s H vs Q E hG hr h => ⟨_, pss_cons (ps_dput (hu_of hr) (pv 0) pe_str (pe_op op_add (pe_dget (hu_of hr) (pv 0) pe_str (fun _ _ => rfl)) pe_int) rfl)
    (pss_cons (ps_set (i := 2) sc__law_draw.nd rfl (Or.inl rfl) (pe_dget (hu_of hr) (pv 0) pe_str (fun _ _ => rfl)))
    (pss_cons (ps_if (pt_cmpR op_eq (pe_callB call_len (by rfl) B.len (by decide +kernel) (pa_cons (pv 2) pa_nil)) pe_int rfl) (pss_one (ps_ret pe_int)) pss_nil)
    (pss_cons (ps_set (i := 3) sc__law_draw.nd rfl (Or.inl rfl) (pe_dget (hu_of hr) (pv 0) pe_str (fun _ _ => rfl)))
    (pss_cons (ps_set (i := 4) sc__law_draw.nd rfl (Or.inl rfl) (pe_op op_mod (pe_callTy call_int1 (by rfl) B.int (by decide +kernel) (pa_cons (pe_op op_add (pv 3) pe_int) pa_nil)) (pe_callB call_len (by rfl) B.len (by decide +kernel) (pa_cons (pv 2) pa_nil))))
    (pss_cons (ps_set (i := 5) sc__law_draw.nd rfl (Or.inl rfl) (pe_ix ix_list (pv 2) (pv 4) (fun _ _ => rfl)))
    (pss_cons (ps_if (pt_cmpR op_ge (pv 5) pe_int rfl) (pss_cons (ps_asg (pe_op op_fdiv (pv 5) (pv 1)) (pg_sub (pv 2) (pv 4) set_list (by intro _; rfl)) rfl rfl rfl) (pss_one (ps_ret (pe_op op_mod (pe_callTy call_int1 (by rfl) B.int (by decide +kernel) (pa_cons (pv 5) pa_nil)) (pv 1))))) pss_nil)
    (pss_cons (ps_set (i := 6) sc__law_draw.nd rfl (Or.inl rfl) (pe_op op_mod (pe_callTy call_int1 (by rfl) B.int (by decide +kernel) (pa_cons (pe_op op_add (pe_op op_mul (pv 5) pe_int) (pe_op op_mul (pv 3) pe_int)) pa_nil)) pe_int))
    (pss_cons (ps_set (i := 7) sc__law_draw.nd rfl (Or.inl rfl) (pe_op op_mod (pe_callTy call_int1 (by rfl) B.int (by decide +kernel) (pa_cons (pe_op op_add (pe_op op_add (pe_op op_mul (pv 6) (pv 6)) (pe_op op_mul pe_int (pv 5))) (pe_op op_mul pe_int (pv 3))) pa_nil)) pe_int))
    (pss_one (ps_ret (pe_op op_mod (pe_callTy call_int1 (by rfl) B.int (by decide +kernel) (pa_cons (pe_op op_fdiv (pv 7) pe_int) pa_nil)) (pv 1)))))))))))), ?_⟩
  obtain ⟨hl, t, D, ys, g, sd, hfd, hR, ha, ok, q⟩ := h
  unfold v__law_draw at q
  split at q
  · rename_i ys tp
    split at q
    · rename_i hcon
      obtain ⟨T, cells⟩ := g
      obtain ⟨hRp, hRc⟩ := hR
      match vs, ha with
      | [_, _], .cons h1 (.cons h2 .nil) =>
        cases h1
        cases h2
        have fin : ∀ (z : Int) (cl : List Int) (H' : Hp), drawF (T, cells) tp = (z, (T + 1, cl)) → (∀ a, a ≠ t.p → a ≠ t.c → H' a = H a) → H' t.p = some (.dK [(.inr "cells", .ref t.c), (.inr "turn", .int (T + 1))]) → H' t.c = some (.lst (cl.map V.int)) → Q (.int z) H' := by
          intro z cl H' e k kp kc
          rw [e] at q
          refine q (.int z) H' D ⟨fun a o n h => ?_, fun a h => ?_, fun _ _ h => h, fun a _ h => h⟩ (fun a o h => ?_) ⟨kp, kc⟩ (Dp.int _)
          · rw [k a (fun z => n (.inl z)) (fun z => n (.inr z))]; exact h
          · by_cases e1 : a = t.p
            · rw [e1, kp]; exact fun z => nomatch z
            · by_cases e2 : a = t.c
              · rw [e2, kc]; exact fun z => nomatch z
              · rw [k a e1 e2]; exact h
          · rw [k a (fun z => by rw [hfd a (.inl z)] at h; cases h) (fun z => by rw [hfd a (.inr z)] at h; cases h)]; exact sd a o h
        refine ⟨_, rfl, t.p, _, rfl, .inl ⟨_, (.inr "turn"), .inl hRp, rfl, rfl⟩, _, _, rfl, rfl, _, rfl, t.p, upd H t.p (.dK [(.inr "cells", .ref t.c), (.inr "turn", .int (T + 1))]), rfl, .inl ⟨_, (.inr "turn"), hRp, rfl, (show 2 < sizeLine by decide), rfl⟩, ?_⟩
        generalize hH1 : upd H t.p (.dK [(.inr "cells", .ref t.c), (.inr "turn", .int (T + 1))]) = H1
        have p1 : H1 t.p = some (.dK [(.inr "cells", .ref t.c), (.inr "turn", .int (T + 1))]) := by rw [← hH1]; exact upd_same
        have c1 : H1 t.c = some (.lst (cells.map V.int)) := by rw [← hH1, upd_ne (Ne.symm t.ne)]; exact hRc
        have k1 : ∀ a, a ≠ t.p → H1 a = H a := fun a h => by rw [← hH1, upd_ne h]
        refine ⟨_, rfl, t.p, _, rfl, .inl ⟨_, (.inr "cells"), .inl p1, rfl, rfl⟩, ?_⟩
        refine ⟨_, rfl, _, _, rfl, .inl ⟨_, SqL.of c1, rfl⟩, rfl, _, rfl, ?_⟩
        have hd : decide (V.int ((cells.map V.int).length : Int) = V.int 0) = decide (cells = []) := by
          rw [decide_eq_decide]
          constructor
          · intro e
            injection e with e
            have : (cells.map V.int).length = 0 := by omega
            rw [List.length_map] at this
            exact List.eq_nil_of_length_eq_zero this
          · intro e; rw [e]; rfl
        rw [hd]
        by_cases hc : cells = []
        · refine if_pos_of (decide_eq_true hc) ?_
          refine fin 0 cells H1 ?_ (fun a e1 e2 => k1 a e1) p1 c1
          unfold drawF
          simp only [if_pos hc]
        · refine if_neg_of (decide_eq_false hc) ?_
          have hn : (0 : Int) < (cells.map V.int).length := by
            rw [List.length_map]
            have : cells.length ≠ 0 := fun z => hc (List.eq_nil_of_length_eq_zero z)
            omega
          obtain ⟨c0, c1', _, _⟩ : 0 < tp ∧ tp < 1073741824 ∧ 0 < cells.length ∧ cells.length ≤ 63 := by
            rcases hcon with z | z
            · exact z
            · exact absurd z hc
          refine ⟨_, rfl, t.p, _, rfl, .inl ⟨_, (.inr "turn"), .inl p1, rfl, rfl⟩, ?_⟩
          refine ⟨_, rfl, _, _, rfl, rfl, .inl ⟨_, rfl, _, rfl, _, _, rfl, .inl ⟨_, SqL.of c1, rfl⟩, _, _, rfl, rfl, hn, ?_⟩⟩
          obtain ⟨i, hi⟩ : ∃ i, (T + 1 + 3) % ((cells.map V.int).length : Int) = i := ⟨_, rfl⟩
          have hi2 := hi
          rw [List.length_map] at hn hi
          have i0 : 0 ≤ i := by rw [← hi]; exact Int.emod_nonneg _ (by omega)
          have i1 : i < cells.length := by rw [← hi]; exact Int.emod_lt_of_pos _ (by omega)
          obtain ⟨j, rfl⟩ : ∃ j : Nat, i = j := ⟨i.toNat, by omega⟩
          have hj : j < cells.length := by omega
          have ej : (cells.map V.int)[j]? = some (.int (cells.getD j 0)) := by simp [hj]
          have di : ((T + 1 + 3) % (cells.length : Int)).toNat = j := by rw [hi]; rfl
          refine ⟨_, rfl, _, rfl, _, _, _, _, rfl, rfl, SqL.of c1, (by rw [hi2]; exact atI_nat ej), ?_⟩
          refine ⟨_, rfl, _, _, rfl, rfl, _, rfl, ?_⟩
          generalize hce : cells.getD j 0 = cell
          by_cases big : 1000000000000000000 ≤ cell
          · refine if_pos_of (decide_eq_true big) ?_
            refine ⟨_, rfl, _, rfl, _, _, rfl, rfl, ⟨c0, c1'⟩, ?_⟩
            refine ⟨_, rfl, _, rfl, _, _, _, _, rfl, rfl, c1, (by rw [hi2]; exact ixN_at (by rw [List.length_map]; exact hj)), ?_⟩
            refine ⟨_, rfl, .inl ⟨_, rfl, ?_⟩⟩
            refine ⟨_, rfl, _, _, rfl, rfl, c0, ?_⟩
            refine fin _ (cells.set j (cell / tp)) _ ?_ (fun a e1 e2 => by rw [upd_ne e2]; exact k1 a e1) (by rw [upd_ne t.ne]; exact p1) ?_
            · unfold drawF
              simp only [if_neg hc, di, hce, if_pos big]
            · rw [List.map_set]; exact upd_same
          · refine if_neg_of (decide_eq_false big) ?_
            refine ⟨_, rfl, _, _, rfl, rfl, .inr (by decide), _, rfl, _, _, rfl, rfl, .inr (by decide), _, _, rfl, rfl, .inl ⟨_, rfl, _, _, rfl, rfl, (show (0 : Int) < 1000037 by decide), ?_⟩⟩
            have o0 : 0 ≤ (cell * 4861 + (T + 1) * 87811) % 1000037 := Int.emod_nonneg _ (by decide)
            have o1 : (cell * 4861 + (T + 1) * 87811) % 1000037 < 1000037 := Int.emod_lt_of_pos _ (by decide)
            refine ⟨_, rfl, _, rfl, _, _, rfl, rfl, .inl ?_, _, rfl, _, _, rfl, rfl, .inl (by decide), _, _, rfl, rfl, _, rfl, _, _, rfl, rfl, .inl (by decide), _, _, rfl, rfl, .inl ⟨_, rfl, _, _, rfl, rfl, (show (0 : Int) < 32452867 by decide), ?_⟩⟩
            · exact ⟨by omega, by omega⟩
            refine ⟨_, rfl, _, _, rfl, rfl, ⟨by decide, by decide⟩, .inl ⟨_, rfl, _, rfl, _, _, rfl, rfl, c0, ?_⟩⟩
            refine fin _ cells _ ?_ (fun a e1 e2 => k1 a e1) p1 c1
            unfold drawF
            simp only [if_neg hc, di, hce, if_neg big]
    · exact q.elim
  · exact q.elim
end
end K3

set_option Elab.async false
set_option linter.all false
set_option autoImplicit false
set_option maxRecDepth 100000
set_option maxHeartbeats 1000000
/-! the end: the law's def is called where no repr is under way -/
namespace Dn
open PySem PySem.Spec PyProof.Rows L2
section
variable {P : Program} {w : World} {K : PySem.W.Frag} {mg mb : Str → Option Value} {k : Nat} {fa a : Addr} {fd : FuncData} {x : Str} {sp : Sp} {s₁ : Shared} {vs : List Value} {ns : List Int}
abbrev Kept (s₁ : Shared) (r : Result) (s' : Shared) : Prop := r = .ok (.ret (.bool true)) ∧ OldK s₁.heap s'.heap ∧ s'.os = s₁.os ∧ AllBare s'.gens
/-- from a heap that tracks the script alone -/
theorem call_from (KX : K.In s₁.heap) (hns : s₁.heap.Ns mainGlobals mg) (hb : s₁.heap.Ns builtinsNs mb) (hbb : ∀ x : Str, x ≠ "__name__" → mb x = bootBuiltins x) (hlim : s₁.heap.NoLimit) (hg : s₁.gens = #[])
    (ha : s₁.heap.get? a = some { cls := .type "list", data := .seq vs.toArray }) (hr : Room k callerA) (F : ∀ base : Heap, K.In base → base.Ns mainGlobals mg → FnG True P w K mg base k fa fd [x] sp)
    (bnd : ∀ (s : Shared) (u : Value), BindsTo s fd ⟨[u], []⟩ [(x, u)]) (H : Hp) (hsp : sp [.ref a] H (fun v _ => v = .bl true) fun _ _ _ => False) (hok : HOk P w H s₁.heap) (hO : Only H)
    (hA : ∀ b, H b ≠ none → b = a) (hK : H a ≠ none → K.lookup a = none) : codeAny (model P w) callerA (.call (.ref fa) ⟨[.ref a], []⟩) (Kept s₁) s₁ := by
  have nd : ∀ {b : Addr} {o : Obj} {es : Array DictEntry} {n : Nat}, s₁.heap.get? b = some o → o.data = .dict es n → H b = none := by
    intro b o es n e d
    cases q : H b with
    | none => rfl
    | some u =>
      have z := hA b (by rw [q]; exact fun z => nomatch z)
      rw [z, ha] at e
      cases e
      exact nomatch d
  have tr : ∀ {b : Addr} {m : Str → Option Value}, s₁.heap.Ns b m → (hidT s₁.heap H).Ns b m := by
    rintro b m ⟨o, es, n, e, d, r⟩
    exact ⟨o, es, n, hidT_get e (nd e d), d, r⟩
  have kb : K.In (hidT s₁.heap H) := by
    intro b o e
    refine hidT_get (KX b o e) ?_
    cases q : H b with
    | none => rfl
    | some u =>
      have n : H b ≠ none := by rw [q]; exact fun z => nomatch z
      have z := hA b n
      rw [z] at n e
      rw [hK n] at e
      cases e
  have md : Mod K mg (hidT s₁.heap H) := by
    refine ⟨kb, tr hns, ⟨mb, tr hb, hbb⟩, ?_⟩
    obtain ⟨mc, h1, h2⟩ := hlim
    exact ⟨mc, tr h1, h2⟩
  have e0 : Env0 P w K mg (hidT s₁.heap H) callerA [] s₁ H :=
    ⟨rfl, md, fun b o => of_hidT, Nat.le_of_eq (hidT_size _ _), trivial, (fun b z => absurd (show b ∈ ([] : List Addr) from z) (by simp)), hok, .of_eq hg⟩
  refine codeAny_mono ((F _ kb (tr hns)).run callerA [] s₁ H ⟨[.ref a], []⟩ [.ref a] [.ref a] _ _ (fun _ => rfl) hr e0 (bnd s₁ (.ref a)) (.cons rfl .nil) hsp) fun r s' h => ?_
  match r, h with
  | .error e, ⟨_, _, _, _, _, _, _, _, _, _, _, _, z⟩ => exact z.elim
  | .ok (.ret u), ⟨v, H', os, bare, un, hok', r', q⟩ =>
    have q' : v = .bl true := q
    rw [q'] at r'
    have r2 : u = .bool true := r'
    refine ⟨by rw [r2], OldK.of_keep fun b o e => ?_, os, bare⟩
    rcases hO b with z | ⟨ob, xs, z⟩
    · exact un.keep b o e z (fun m => absurd (show b ∈ ([] : List Addr) from m) (by simp)) (by simp)
    · have y := un.frzs b ob _ z
      have y1 := (hok b _ z).1
      rw [e] at y1
      cases y1
      exact (hok' b _ y).1
theorem callG (KX : K.In s₁.heap) (hns : s₁.heap.Ns mainGlobals mg) (hb : s₁.heap.Ns builtinsNs mb) (hbb : ∀ x : Str, x ≠ "__name__" → mb x = bootBuiltins x) (hlim : s₁.heap.NoLimit) (hg : s₁.gens = #[])
    (ha : s₁.heap.get? a = some { cls := .type "list", data := .seq vs.toArray }) (hi : IntsAre vs ns) (hl : ns.length ≤ sizeLine) (hr : Room k callerA) (F : ∀ base : Heap, K.In base → base.Ns mainGlobals mg → FnG True P w K mg base k fa fd [x] sp)
    (bnd : ∀ (s : Shared) (u : Value), BindsTo s fd ⟨[u], []⟩ [(x, u)]) (hsp : ∀ H : Hp, Only H → SqL K H a (ns.map V.int) → sp [.ref a] H (fun v _ => v = .bl true) fun _ _ _ => False) : codeAny (model P w) callerA (.call (.ref fa) ⟨[.ref a], []⟩) (Kept s₁) s₁ := by
  have rv := vals_ints hi
  have lv := hi.length
  cases hk : K.lookup a with
  | some o =>
    have e := KX a o hk
    rw [ha] at e
    cases e
    have O : Only fun _ => none := fun _ => .inl rfl
    refine call_from KX hns hb hbb hlim hg ha hr F bnd (fun _ => none) (hsp _ O (.inr ⟨_, vs.toArray, _, hk, rfl, rfl, rfl, ?_, by simpa using rv⟩)) (fun b u z => nomatch (show (none : Option HO) = some u from z)) O (fun b z => absurd rfl z) fun z => absurd rfl z
    rw [List.size_toArray, lv]
    exact hl
  | none =>
    obtain ⟨ob, hob⟩ : ∃ ob : Obj, ob = { cls := .type "list", data := .seq vs.toArray } := ⟨_, rfl⟩
    obtain ⟨Hs, h1, h2⟩ : ∃ Hs : Hp, Hs a = some (.frz ob (.lst (ns.map V.int))) ∧ ∀ b, b ≠ a → Hs b = none := ⟨fun b => if b = a then some (.frz ob (.lst (ns.map V.int))) else none, if_pos rfl, fun b n => if_neg n⟩
    have only : Only Hs := fun b => by
      by_cases e : b = a
      · exact .inr ⟨_, _, by rw [e]; exact h1⟩
      · exact .inl (h2 b e)
    refine call_from KX hns hb hbb hlim hg ha hr F bnd Hs (hsp Hs only (.inl (.inr ⟨ob, h1⟩))) (fun b u z => ?_) only (fun b z => ?_) fun _ => hk
    · by_cases e : b = a
      · rw [e, h1] at z
        cases z
        rw [e]
        exact ⟨by rw [hob]; exact ha, by rw [List.length_map]; exact hl, vs, _, rv, ha⟩
      · rw [h2 b e] at z
        cases z
    · by_cases e : b = a
      · exact e
      · exact absurd (h2 b e) z
theorem walkG {l : PySem.W.OpenLaw} {n k : Nat} {q : Program} {loose : List Str} {XP : (Str → Option Value) → Heap → Prop} {YP : World → Heap → Prop} {d : DefRec} {K : Params → PySem.W.Frag} {sp : PySem.W.Frag → Sp} {x : Str} (hn : l.most = some n) (hn2 : n ≤ sizeLine) (hdf : d.params.defaults = []) (hr : Room k callerA)
    (hY : ∀ (w : World) (h : Heap), YP w h → (K w.params).In h)
    (F : ∀ (w : World) (mg : Str → Option Value) (fa : Addr) (h : Heap), (K w.params).In h → h.Ns mainGlobals mg → mg d.name = some (.ref fa) →
      ∃ fd : FuncData, (∀ (s : Shared) (u : Value), BindsTo s fd ⟨[u], []⟩ [(x, u)]) ∧ ∀ base : Heap, (K w.params).In base → base.Ns mainGlobals mg → FnG True l.prog w (K w.params) mg base k fa fd [x] (sp (K w.params)))
    (hsp : ∀ (K : PySem.W.Frag) (H : Hp) (a : Addr) (ns : List Int), ns.length ≤ n → Only H → SqL K H a (ns.map V.int) → sp K [.ref a] H (fun v _ => v = .bl true) fun _ _ _ => False) :
    PySem.W.WalkO q loose XP YP l.row.toRowW d [] (fun f vs => PySem.call f vs) := by
  refine Att.attach_call hn hdf ?_
  intro w s₀ s₁ mg mb fa o pm cd doc a vs ns G Y ho hd hcd hmg hobj hints hlen hg
  have KX := hY w _ Y
  obtain ⟨fd, hb, hF⟩ := F w mg fa _ KX G.T.g hmg
  exact callG KX G.T.g G.T.b G.T.builtins G.T.nolimit hg hobj hints (Nat.le_trans hlen hn2) hr hF hb fun H hO hS => hsp (K w.params) H a ns hlen hO hS
end
end Dn

set_option Elab.async false
set_option linter.all false
set_option autoImplicit false
set_option maxRecDepth 100000
set_option maxHeartbeats 4000000
namespace K3
open PySem PySem.Spec PyProof.Rows L2 Dn
abbrev s_law : Stmt := top 61
def p_law (C_NotUsable : Addr) : SFn SrcG := (sSeq (sAsg 2 (fOp oIx (fLst (aCons (fC (.int 3)) (aCons (fC (.int 4)) (aCons (fC (.int 5)) (aCons (fC (.int 6)) (aCons (fC (.int 2)) (aCons (fC (.int 4)) (aCons (fC (.int 1)) (aCons (fC (.int 5)) aNil))))))))) (fCallS 2 (v__law_draw C_NotUsable) (aCons (fVar 1) (aCons (fC (.int 8)) aNil)))))
  (sSeq (sAsg 3 (fCall 1 (v__law_greatest C_NotUsable) (aCons (fFrz (fCallS 2 (v__law_drawn_marks C_NotUsable) (aCons (fVar 1) (aCons (fVar 2) aNil)))) aNil)))
  (sFrz 3 (sSeq (sAsg 4 (fCall 2 (v__law_set_of C_NotUsable) (aCons (fVar 2) (aCons (fVar 3) aNil))))
  (sSeq (sAsg 5 (fCall 2 (v__law_partings C_NotUsable) (aCons (fVar 2) (aCons (fVar 3) aNil))))
  (sFrz 5 (sSeq (sAsg 6 (fLc [7] (iRng1F (aCons (fVar 2) aNil)) (asgN 7) fYes (fCall 3 (v__law_atom_of C_NotUsable) (aCons (fVar 2) (aCons (fVar 5) (aCons (fVar 7) aNil))))))
  (sFrz 6 (sSeq (sIf (fOr (fNot (fCall 4 (v__law_partings_hold C_NotUsable) (aCons (fVar 2) (aCons (fVar 4) (aCons (fVar 3) (aCons (fVar 5) aNil)))))) (fNot (fCall 4 (v__law_atoms_hold C_NotUsable) (aCons (fVar 2) (aCons (fVar 4) (aCons (fVar 5) (aCons (fVar 6) aNil))))))) (sRet (fC (.bool false))) sNil)
  (sSeq (sIf (fNot (fCall 5 (v__law_parting_hold C_NotUsable) (aCons (fVar 2) (aCons (fVar 4) (aCons (fVar 5) (aCons (fVar 6) (aCons (fFrz (fCallS 2 (v__law_pairs C_NotUsable) (aCons (fVar 1) (aCons (fVar 2) aNil)))) aNil))))))) (sRet (fC (.bool false))) sNil)
  (sSeq (sIf (fOr (fNot (fCall 4 (v__law_turned_hold C_NotUsable) (aCons (fVar 2) (aCons (fVar 4) (aCons (fVar 5) (aCons (fVar 6) aNil)))))) (fNot (fCallS 2 (v__law_few_hold C_NotUsable) (aCons (fVar 1) (aCons (fVar 2) aNil))))) (sRet (fC (.bool false))) sNil)
  (sRet (fCall 2 (v__law_ends_hold C_NotUsable) (aCons (fVar 2) (aCons (fVar 4) aNil)))))))))))))))
abbrev nL : List Str := [("_law_script" : Str), ("_law_source" : Str), ("_law_n" : Str), ("_law_tops" : Str), ("_law_fears" : Str), ("_law_parted" : Str), ("_law_mates" : Str), ("_law_house" : Str), ("_law_cell" : Str)]
theorem sc_law : FnScope nL [("_law_script" : Str)] (defScope s_law) := ⟨rfl, rfl, rfl, by decide +kernel, rfl, by decide +kernel, by decide +kernel⟩
def spLaw (K : PySem.W.Frag) : Sp := fun vs H Q _ => ∃ (a : Addr) (ns : List Int), vs = [.ref a] ∧ SqL K H a (ns.map V.int) ∧ ns.length ≤ 63 ∧ ∀ H', Q (.bl true) H'
def envL (ns : List Int) : Dn.Env := [some (.d (.list (ns.map PyData.int))), some .h, none, none, none, none, none, none, none]
def pCells : Fn Unit := fLc [8] (iAny (fVar 0)) (asgN 8) fYes (fVar 8)
theorem dp_ints {K : PySem.W.Frag} {D : Hp} : ∀ (ns : List Int), DpAll K D (ns.map V.int) (ns.map PyData.int)
  | [] => .nil
  | n :: r => .cons (.int n) (dp_ints r)
theorem of_dp_ints {K : PySem.W.Frag} {D : Hp} : ∀ (ns : List Int) (vs : List V), DpAll K D vs (ns.map PyData.int) → vs = ns.map V.int
  | [], _, .nil => rfl
  | n :: r, _, .cons a b => by
    cases a
    rw [of_dp_ints r _ b]
    rfl
section
variable {P : Program} {w : World} {K : PySem.W.Frag} {mg : Str → Option Value} {base : Heap} {C_NotUsable : Addr}
theorem f_law (B : Bk mg) (e_NotUsable : Ex2 P w K mg base "NotUsable" C_NotUsable "word" "at") (eqt : Quiet K C_NotUsable) (c__law_atom_of : Dfn True P w K mg base 2 "_law_atom_of" 3 (v__law_atom_of C_NotUsable)) (c__law_atoms_hold : Dfn True P w K mg base 8 "_law_atoms_hold" 4 (v__law_atoms_hold C_NotUsable)) (c__law_draw : DfnS True P w K mg base Fm 1 "_law_draw" 2 (v__law_draw C_NotUsable)) (c__law_drawn_marks : DfnS True P w K mg base Fm 3 "_law_drawn_marks" 2 (v__law_drawn_marks C_NotUsable)) (c__law_ends_hold : Dfn True P w K mg base 9 "_law_ends_hold" 2 (v__law_ends_hold C_NotUsable)) (c__law_few_hold : DfnS True P w K mg base Fm 8 "_law_few_hold" 2 (v__law_few_hold C_NotUsable)) (c__law_greatest : Dfn True P w K mg base 1 "_law_greatest" 1 (v__law_greatest C_NotUsable)) (c__law_pairs : DfnS True P w K mg base Fm 2 "_law_pairs" 2 (v__law_pairs C_NotUsable)) (c__law_parting_hold : Dfn True P w K mg base 8 "_law_parting_hold" 5 (v__law_parting_hold C_NotUsable)) (c__law_partings : Dfn True P w K mg base 2 "_law_partings" 2 (v__law_partings C_NotUsable)) (c__law_partings_hold : Dfn True P w K mg base 8 "_law_partings_hold" 4 (v__law_partings_hold C_NotUsable)) (c__law_set_of : Dfn True P w K mg base 3 "_law_set_of" 2 (v__law_set_of C_NotUsable)) (c__law_turned_hold : Dfn True P w K mg base 8 "_law_turned_hold" 4 (v__law_turned_hold C_NotUsable)) {f : Addr} {fd : FuncData} (F : Fun K "law" "law" s_law f fd) (cells : ∀ ns : List Int, ns.length ≤ 63 → pCells (env0 nL [.list (ns.map PyData.int)]) () = .ok (.l (ns.map PyData.int)) ())
    (main : ∀ ns : List Int, ns.length ≤ 63 → ∃ g', p_law C_NotUsable (envL ns) (0, ns) = .ret (.d (.bool true)) g') : FnG True P w K mg base 10 f fd [("_law_script" : Str)] (spLaw K) := by
  refine fnG_of F sc_law (fun vs H Q E h => by obtain ⟨a, ns, rfl, _⟩ := h; rfl) fun cdv A outer s H vs Q E hG hr h => ?_
  have nd := sc_law.nd
  have hT := hG
  have rest : ∀ (i : Tw) (H0 D0 : Hp), DSs (cxD P w K mg base nL "law" s_law f cdv A outer s H E) ⟨K, Fm i, H0, D0, fun cls d _ H => E cls d H⟩ ((defBody s_law).drop 1) (p_law C_NotUsable) := fun i H0 D0 => by
    have tk : Takes (cxD P w K mg base nL "law" s_law f cdv A outer s H E) (fun cls d _ H => E cls d H) := takes_of rfl rfl rfl rfl
    have hp : PassesOwn (model P w) (cxD P w K mg base nL "law" s_law f cdv A outer s H E).A (cxD P w K mg base nL "law" s_law f cdv A outer s H E).env (cxD P w K mg base nL "law" s_law f cdv A outer s H E).xe := passes_of rfl
    have hI : Fm i = Fm i := rfl
    exact (dscons (dset 2 nd (dix ix_seq kIx (dlst (dacons dint (dacons dint (dacons dint (dacons dint (dacons dint (dacons dint (dacons dint (dacons dint danil))))))))) (dcallDS hI tk hG c__law_draw (hr.mono (by omega)) (dacons (dvar 1) (dacons dint danil)))))
  (dscons (dset 3 nd (dcallD tk hG c__law_greatest (hr.mono (by omega)) (dacons (dfrz (dcallDS hI tk hG c__law_drawn_marks (hr.mono (by omega)) (dacons (dvar 1) (dacons (dvar 2) danil)))) danil)))
  (dsfrz 3 (dscons (dset 4 nd (dcallD tk hG c__law_set_of (hr.mono (by omega)) (dacons (dvar 2) (dacons (dvar 3) danil))))
  (dscons (dset 5 nd (dcallD tk hG c__law_partings (hr.mono (by omega)) (dacons (dvar 2) (dacons (dvar 3) danil))))
  (dsfrz 5 (dscons (dsetlc0 6 (own := [("_law_house", 7)]) rfl nd (dirng1 rfl B.range (dacons (dvar 2) danil)) (blkOk_by (by rfl)) (fun _ _ _ _ _ => (dgN 7 nd)) (tgN 7) (towN (by decide)) (fun _ _ _ _ _ => (dcallD takes0 hG c__law_atom_of (hr.mono (by omega)) (dacons (dvar 2) (dacons (dvar 5) (dacons (dvar 7) danil))))))
  (dsfrz 6 (dscons (dif_ (dtw (dwor (dtnot (dtval (dcallD tk hG c__law_partings_hold (hr.mono (by omega)) (dacons (dvar 2) (dacons (dvar 4) (dacons (dvar 3) (dacons (dvar 5) danil))))))) (dwor1 (dtnot (dtval (dcallD tk hG c__law_atoms_hold (hr.mono (by omega)) (dacons (dvar 2) (dacons (dvar 4) (dacons (dvar 5) (dacons (dvar 6) danil)))))))))) (dsone (dret dbl)) dsnil)
  (dscons (dif_ (dtnot (dtval (dcallD tk hG c__law_parting_hold (hr.mono (by omega)) (dacons (dvar 2) (dacons (dvar 4) (dacons (dvar 5) (dacons (dvar 6) (dacons (dfrz (dcallDS hI tk hG c__law_pairs (hr.mono (by omega)) (dacons (dvar 1) (dacons (dvar 2) danil)))) danil)))))))) (dsone (dret dbl)) dsnil)
  (dscons (dif_ (dtw (dwor (dtnot (dtval (dcallD tk hG c__law_turned_hold (hr.mono (by omega)) (dacons (dvar 2) (dacons (dvar 4) (dacons (dvar 5) (dacons (dvar 6) danil))))))) (dwor1 (dtnot (dtval (dcallDS hI tk hG c__law_few_hold (hr.mono (by omega)) (dacons (dvar 1) (dacons (dvar 2) danil)))))))) (dsone (dret dbl)) dsnil)
  (dsone (dret (dcallD tk hG c__law_ends_hold (hr.mono (by omega)) (dacons (dvar 2) (dacons (dvar 4) danil))))))))))))))))
  have restA : PSs (cxD P w K mg base nL "law" s_law f cdv A outer s H E) ((defBody s_law).drop 1) (fun Eq σ H1 => ∃ (i : Tw) (H0 D0 : Hp), tS ⟨K, Fm i, H0, D0, fun cls d _ H => E cls d H⟩ (p_law C_NotUsable) Eq σ H1) :=
    ⟨fun pins s σ H1 Eq I ⟨i, H0, D0, q⟩ => (rest i H0 D0).run pins s σ H1 Eq I q⟩
  obtain ⟨a, ns, rfl, hS, hl, q⟩ := h
  obtain ⟨D, hD⟩ : ∃ D : Hp, D = fun b => if b = a then H b else none := ⟨_, rfl⟩
  refine ⟨_, pss_cons (ps_set (i := 1) nd rfl (Or.inl rfl) (pe_disp (pps_cons pe_str (dlc0 (γ := Unit) (P := ⟨K, rs0, H, D, fun cls d _ H => E cls d H⟩) (own := [("_law_cell", 8)]) rfl nd (diany (dvar 0)) (blkOk_by (by rfl)) (fun _ _ _ _ _ => (dgN 8 nd)) (tgN 8) (towN (by decide)) (fun _ _ _ _ _ => (dvar 8))) (pps_cons pe_str pe_int pps_nil)) rfl rfl (fun z => by cases z) (by decide))) restA, ?_⟩
  have Da : D a = H a := by rw [hD]; exact if_pos rfl
  have Doff : ∀ b, b ≠ a → D b = none := fun b h => by
    rw [hD]
    exact if_neg h
  have sD : Sub D H := fun b o e => by
    by_cases h : b = a
    · rw [h, Da] at e; rw [h]; exact e
    · rw [Doff b h] at e; cases e
  have hSD : SqL K D a (ns.map V.int) := by
    rcases hS with z | z
    · left
      rcases z with z | ⟨o, z⟩
      · exact .inl (Da.trans z)
      · exact .inr ⟨o, Da.trans z⟩
    · exact .inr z
  have hdp : DpAll K D [.ref a] [.list (ns.map PyData.int)] := .cons (Dp.lst hSD (dp_ints ns)) .nil
  intro p hp
  have lgp := LG.new (o := .dK []) sD hp
  refine ⟨D, env0 nL [.list (ns.map PyData.int)], (), (rep0 sD hdp).lg lgp, ?_⟩
  have ec : fLc (List.map (fun x => x.snd) [(("_law_cell" : Str), 8)]) (iAny (fVar 0)) (asgN 8) fYes (fVar 8) (env0 nL [.list (ns.map PyData.int)]) () = .ok (.l (ns.map PyData.int)) () := cells ns hl
  rw [ec]
  intro v H1 D1 r1 g1 vr
  obtain ⟨⟨c, xs, rfl, h1, h2, h3, h4⟩, fresh⟩ := vr
  have ex := of_dp_ints ns xs h4
  subst ex
  have cp : p ≠ c := fun z => by
    have := fresh c rfl
    rw [← z, upd_same] at this
    cases this
  have Dp0 : D p = none := by
    cases e : D p with
    | none => rfl
    | some o => rw [sD p o e] at hp; cases hp
  have p1 : H1 p = some (.dK []) := g1.keep p _ (fun z => z) upd_same
  have d1 : D1 p = none := g1.dn p (by rw [upd_same]; exact fun z => nomatch z) Dp0
  refine ⟨p1, [(.inr "cells", .ref c), (.inr "turn", .int 0)], rfl, (show 2 ≤ 15 by decide), ?_⟩
  obtain ⟨H3, hH3⟩ : ∃ H3 : Hp, H3 = upd H1 p (.dK [(.inr "cells", .ref c), (.inr "turn", .int 0)]) := ⟨_, rfl⟩
  have e3p : H3 p = some (.dK [(.inr "cells", .ref c), (.inr "turn", .int 0)]) := by rw [hH3]; exact upd_same
  have e3c : H3 c = some (.lst (ns.map V.int)) := by rw [hH3, upd_ne cp.symm]; exact h1
  have s3 : Sub D1 H3 := fun b o e => by
    have z : b ≠ p := fun z => by rw [z, d1] at e; cases e
    rw [hH3, upd_ne z]
    exact r1.sub b o e
  obtain ⟨g', em⟩ := main ns hl
  show ∃ (i : Tw) (H0 D0 : Hp), tS ⟨K, Fm i, H0, D0, fun cls d _ H => E cls d H⟩ (p_law C_NotUsable) _ _ (upd H1 p (.dK [(.inr "cells", .ref c), (.inr "turn", .int 0)]))
  rw [← hH3]
  refine ⟨⟨p, c, cp⟩, H3, D1, D1, envL ns, (0, ns), ⟨.refl, s3, ?_, rfl, ?_, ?_, ?_, ?_, ?_, ⟨e3p, e3c⟩⟩, ?_⟩
  · rintro b (z | z)
    · rw [z]
      show H3 p ≠ none
      rw [e3p]; exact fun z => nomatch z
    · rw [z]
      show H3 c ≠ none
      rw [e3c]; exact fun z => nomatch z
  · intro i y e
    match i, e with
    | 0, e =>
      cases e
      exact ⟨_, rfl, Dp.lst (Sub.sl (g1.dk) hSD) (dp_ints ns)⟩
    | 1, e => cases e; exact ⟨_, rfl, rfl⟩
    | 2, e => cases e
    | 3, e => cases e
    | 4, e => cases e
    | 5, e => cases e
    | 6, e => cases e
    | 7, e => cases e
    | 8, e => cases e
    | n + 9, e => cases e
  · intro i xs b e
    match i, e with
    | 0, e => cases e
    | 1, e => cases e
    | 2, e => cases e
    | 3, e => cases e
    | 4, e => cases e
    | 5, e => cases e
    | 6, e => cases e
    | 7, e => cases e
    | 8, e => cases e
    | n + 9, e => cases e
  · intro i xs e
    match i, e with
    | 0, e => cases e
    | 1, e => cases e
    | 2, e => cases e
    | 3, e => cases e
    | 4, e => cases e
    | 5, e => cases e
    | 6, e => cases e
    | 7, e => cases e
    | 8, e => cases e
    | n + 9, e => cases e
  · intro i j b b' xs ys _ e
    match i, e with
    | 0, e => cases e
    | 1, e => cases e
    | 2, e => cases e
    | 3, e => cases e
    | 4, e => cases e
    | 5, e => cases e
    | 6, e => cases e
    | 7, e => cases e
    | 8, e => cases e
    | n + 9, e => cases e
  · rintro b (z | z)
    · rw [z]; exact d1
    · rw [z]; exact h2
  · rw [em]
    intro v H' D' _ _ _ _ vr
    have z : v = .bl true := by cases vr; rfl
    rw [z]
    exact q H'
end
end K3

set_option Elab.async false
set_option linter.all false
set_option autoImplicit false
set_option maxRecDepth 100000
set_option maxHeartbeats 1000000
/-! what a reading gives, step by step -/
namespace Dn
open PySem PySem.Spec PyProof.Rows L2
section
variable {γ : Type} {ρ ρ' ρ1 : Env} {g g1 g2 g3 g4 : γ} {a b c d φ ψ τ cond elt : Fn γ} {x y z u : SV} {p q : Bool} {F : SV → SV → Option SV} {F1 : SV → Option SV} {FC : List SV → Option SV} {asg : Asg} {body ψ1 ψ2 : SFn γ} {Ι : FnI γ} {own : List Nat} {i : Nat} {o : SOut γ}
theorem w_var {x : PyData} (h : ρ[i]? = some (some (.d x)) := by rfl) : (fVar i : Fn γ) ρ g = .ok (.d x) g := by unfold fVar; rw [h]
theorem w_varL {xs : List PyData} (h : ρ[i]? = some (some (.l xs)) := by rfl) : (fVar i : Fn γ) ρ g = .ok (.b xs) g := by unfold fVar; rw [h]
theorem w_varH (h : ρ[i]? = some (some .h) := by rfl) : (fVar i : Fn γ) ρ g = .ok .h g := by unfold fVar; rw [h]
theorem w_c {x : PyData} : (fC x : Fn γ) ρ g = .ok (.d x) g := rfl
theorem w_op (ha : a ρ g = .ok x g1) (hb : b ρ g1 = .ok y g2) (h : F x y = some z) : fOp F a b ρ g = .ok z g2 := by
  unfold fOp
  rw [ha]
  show (b ρ g1).bind _ = _
  rw [hb]
  show Out.of (F x y) g2 = _
  rw [h]
  rfl
theorem w_un (ha : a ρ g = .ok x g1) (h : F1 x = some z) : fUn F1 a ρ g = .ok z g1 := by
  unfold fUn
  rw [ha]
  show Out.of (F1 x) g1 = _
  rw [h]
  rfl
/-- argument lists -/
theorem w_nil : (aNil : FnA γ) ρ g = .ok [] g := rfl
theorem w_cons {Φ : FnA γ} {ys : List SV} (ha : a ρ g = .ok x g1) (h : Φ ρ g1 = .ok ys g2) : aCons a Φ ρ g = .ok (x :: ys) g2 := by
  unfold aCons
  rw [ha]
  show (Φ ρ g1).bindA _ = _
  rw [h]
  rfl
theorem w_cb {Φ : FnA γ} {ys : List SV} (h : Φ ρ g = .ok ys g1) (hf : FC ys = some z) : fCB FC Φ ρ g = .ok z g1 := by
  unfold fCB
  rw [h]
  show Out.of (FC ys) g1 = _
  rw [hf]
  rfl
theorem w_and (ha : a ρ g = .ok (.d (.bool p)) g1) (hb : p = true → b ρ g1 = .ok (.d (.bool q)) g1) : fAnd a b ρ g = .ok (.d (.bool (p && q))) g1 := by
  unfold fAnd
  rw [ha]
  cases p with
  | true => exact hb rfl
  | false => rfl
theorem w_and2 (ha : a ρ g = .ok (.d (.bool true)) g1) (hb : b ρ g1 = .ok z g2) : fAnd a b ρ g = .ok z g2 := by
  unfold fAnd
  rw [ha]
  exact hb
theorem w_or (ha : a ρ g = .ok (.d (.bool p)) g1) (hb : p = false → b ρ g1 = .ok (.d (.bool q)) g1) : fOr a b ρ g = .ok (.d (.bool (p || q))) g1 := by
  unfold fOr
  rw [ha]
  cases p with
  | false => exact hb rfl
  | true => rfl
theorem w_not (ha : a ρ g = .ok (.d (.bool p)) g1) : fNot a ρ g = .ok (.d (.bool (!p))) g1 := by
  unfold fNot
  rw [ha]
  rfl
theorem w_isi {T : String} {k : PyData} (ha : a ρ g = .ok x g1) (hd : toD x = some k) (h : isi T k = some p) : fIsi T a ρ g = .ok (.d (.bool p)) g1 := by
  unfold fIsi
  rw [ha]
  show (match toD x with | some d => _ | none => _) = _
  rw [hd]
  show (match isi T k with | some b => _ | none => _) = _
  rw [h]
theorem w_tup {Φ : FnA γ} {ys : List SV} {ds : List PyData} (h : Φ ρ g = .ok ys g1) (e : allD ys = some ds) (hl : ds.length ≤ 1000) : fTup Φ ρ g = .ok (.d (.tuple ds)) g1 := by
  unfold fTup
  rw [h]
  show (match allD ys with | some ds => _ | none => _) = _
  rw [e]
  exact if_pos hl
theorem w_lst {Φ : FnA γ} {ys : List SV} {ds : List PyData} (h : Φ ρ g = .ok ys g1) (e : allD ys = some ds) (hl : ds.length ≤ 1000) : fLst Φ ρ g = .ok (.l ds) g1 := by
  unfold fLst
  rw [h]
  show (match allD ys with | some ds => _ | none => _) = _
  rw [e]
  exact if_pos hl
theorem w_frzL {xs : List PyData} (h : a ρ g = .ok (.l xs) g1) : fFrz a ρ g = .ok (.d (.list xs)) g1 := by unfold fFrz; rw [h]; rfl
theorem w_frzD {k : PyData} (h : a ρ g = .ok (.d k) g1) : fFrz a ρ g = .ok (.d k) g1 := by unfold fFrz; rw [h]; rfl
theorem w_rev (h : a ρ g = .ok x g1) (e : oRevA x = some z) : fRevA a ρ g = .ok z g1 := by
  unfold fRevA
  rw [h]
  show Out.of (oRevA x) g1 = _
  rw [e]
  rfl
/-- calls -/
theorem w_call {n : Nat} {f : List PyData → Out Unit} {Φ : FnA γ} {ys : List SV} {ds : List PyData} {k : PyData} (h : Φ ρ g = .ok ys g1) (e : allD ys = some ds) (hn : ds.length = n) (hf : f ds = .ok (.d k) ()) : fCall n f Φ ρ g = .ok (.d k) g1 := by
  unfold fCall
  rw [h]
  show (match allD ys with | some ds => _ | none => _) = _
  rw [e]
  show (if ds.length = n then liftO (f ds) g1 else .stuck) = _
  rw [if_pos hn, hf]
  rfl
theorem w_callL {n : Nat} {f : List PyData → Out Unit} {Φ : FnA γ} {ys : List SV} {ds xs : List PyData} (h : Φ ρ g = .ok ys g1) (e : allD ys = some ds) (hn : ds.length = n) (hf : f ds = .ok (.l xs) ()) : fCall n f Φ ρ g = .ok (.l xs) g1 := by
  unfold fCall
  rw [h]
  show (match allD ys with | some ds => _ | none => _) = _
  rw [e]
  show (if ds.length = n then liftO (f ds) g1 else .stuck) = _
  rw [if_pos hn, hf]
  rfl
theorem w_callX {n : Nat} {f : List PyData → Out Unit} {Φ : FnA γ} {ys : List SV} {ds : List PyData} {C : Addr} {fs : List (Str × PyData)} (h : Φ ρ g = .ok ys g1) (e : allD ys = some ds) (hn : ds.length = n) (hf : f ds = .exc C fs ()) : fCall n f Φ ρ g = .exc C fs g1 := by
  unfold fCall
  rw [h]
  show (match allD ys with | some ds => _ | none => _) = _
  rw [e]
  show (if ds.length = n then liftO (f ds) g1 else .stuck) = _
  rw [if_pos hn, hf]
  rfl
theorem w_callS {n : Nat} {f : List SV → γ → Out γ} {Φ : FnA γ} {ys : List SV} (h : Φ ρ g = .ok ys g1) (hn : ys.length = n) (ho : ys.all argOk = true) (hf : f ys g1 = .ok z g2) (hz : ∀ xs, z ≠ .b xs := by exact fun _ z => nomatch z) : fCallS n f Φ ρ g = .ok z g2 := by
  unfold fCallS
  rw [h]
  show (if ys.length = n ∧ ys.all argOk = true then _ else _) = _
  rw [if_pos ⟨hn, ho⟩, hf]
  cases z with
  | b xs => exact absurd rfl (hz xs)
  | _ => rfl
theorem w_listG {C0 : Addr} {n : Nat} {f : List PyData → OutI Unit} {Φ : FnA γ} {ys : List SV} {ds xs : List PyData} {u : Unit} (h : Φ ρ g = .ok ys g1) (e : allD ys = some ds) (hn : ds.length = n) (hf : f ds = .ok xs u) : fListG C0 n f Φ ρ g = .ok (.l xs) g1 := by
  unfold fListG
  rw [h]
  show (match allD ys with | some ds => _ | none => _) = _
  rw [e]
  show (if ds.length = n then liftL C0 (f ds) g1 else .stuck) = _
  rw [if_pos hn, hf]
  rfl
theorem w_listGX {C0 : Addr} {n : Nat} {f : List PyData → OutI Unit} {Φ : FnA γ} {ys : List SV} {ds : List PyData} {fs : List (Str × PyData)} {u : Unit} (h : Φ ρ g = .ok ys g1) (e : allD ys = some ds) (hn : ds.length = n) (hf : f ds = .exc C0 fs u) : fListG C0 n f Φ ρ g = .exc C0 fs g1 := by
  unfold fListG
  rw [h]
  show (match allD ys with | some ds => _ | none => _) = _
  rw [e]
  show (if ds.length = n then liftL C0 (f ds) g1 else .stuck) = _
  rw [if_pos hn, hf]
  exact if_pos rfl
/-! ### comprehensions -/
theorem lcD_mapM {α : Type} (inj f : α → PyData) : ∀ (xs : List α), (∀ x ∈ xs, ∃ ρ1, asg (inj x) ρ = some ρ1 ∧ cond ρ1 g = .ok (.d (.bool true)) g ∧ elt ρ1 g = .ok (.d (f x)) g) → lcD asg cond elt ρ (xs.map inj) g = some (xs.map f, g)
  | [], _ => rfl
  | x :: r, h => by
    obtain ⟨ρ1, e1, e2, e3⟩ := h x List.mem_cons_self
    rw [List.map_cons]
    unfold lcD
    rw [e1]
    simp only [e2, e3]
    rw [lcD_mapM inj f r fun y hy => h y (List.mem_cons_of_mem _ hy)]
    rfl
theorem w_lc {α : Type} (xs : List α) (inj f : α → PyData) (hi : Ι ρ g = .ok (xs.map inj) g) (hl : xs.length ≤ 100000) (h : ∀ x ∈ xs, ∃ ρ1, asg (inj x) (wipeE ρ own) = some ρ1 ∧ elt ρ1 g = .ok (.d (f x)) g) :
    fLc own Ι asg fYes elt ρ g = .ok (.l (xs.map f)) g := by
  unfold fLc
  rw [hi]
  show (if (xs.map inj).length ≤ 100000 then _ else _) = _
  rw [List.length_map, if_pos hl, lcD_mapM inj f xs fun x hx => by
    obtain ⟨ρ1, e1, e2⟩ := h x hx
    exact ⟨ρ1, e1, rfl, e2⟩]
/-! ### what is walked -/
theorem w_any {xs : List PyData} (h : a ρ g = .ok (.d (.tuple xs)) g1) : iAny a ρ g = .ok xs g1 := by unfold iAny; rw [h]; rfl
theorem w_anyL {xs : List PyData} (h : a ρ g = .ok (.d (.list xs)) g1) : iAny a ρ g = .ok xs g1 := by unfold iAny; rw [h]; rfl
theorem p62 : (1000000 : Int) < 2 ^ 62 := by decide +kernel
theorem p62b : (2000000 : Int) < 2 ^ 62 := by decide +kernel
theorem n62 : -(2 ^ 62) ≤ (-1000000 : Int) := by decide +kernel
theorem rng_ok1 (j : Int) (h0 : -(2 ^ 62) ≤ j ∧ j < 2 ^ 62) {Φ : FnA γ} (h : Φ ρ g = .ok [.d (.int j)] g1) : iRng1F Φ ρ g = .ok ((List.range j.toNat).map fun k => .int (0 + (k : Nat))) g1 := by
  unfold iRng1F
  rw [h]
  exact if_pos h0
theorem rng_ok2 (i j : Int) (h0 : -(2 ^ 62) ≤ i ∧ i < 2 ^ 62 ∧ -(2 ^ 62) ≤ j ∧ j < 2 ^ 62) {Φ : FnA γ} (h : Φ ρ g = .ok [.d (.int i), .d (.int j)] g1) : iRng2F Φ ρ g = .ok ((List.range (j - i).toNat).map fun k => .int (i + (k : Nat))) g1 := by
  unfold iRng2F
  rw [h]
  exact if_pos h0
theorem in62 {j : Int} (h1 : -1000000 ≤ j) (h2 : j ≤ 2000000) : -(2 ^ 62) ≤ j ∧ j < 2 ^ 62 := ⟨Int.le_trans n62 h1, Int.lt_of_le_of_lt h2 p62b⟩
theorem w_rng1 {Φ : FnA γ} {n : Nat} (h : Φ ρ g = .ok [.d (.int n)] g1) (hn : n < 1000000) : iRng1F Φ ρ g = .ok ((List.range n).map fun k : Nat => PyData.int k) g1 := by
  rw [rng_ok1 n (in62 (by omega) (by omega)) h]
  simp only [Int.toNat_natCast, Int.zero_add]
theorem w_rng2 {Φ : FnA γ} {m : Int} {n : Nat} {l : Int} (h : Φ ρ g = .ok [.d (.int m), .d (.int l)] g1) (e : l = m + n) (h0 : -1000000 < m) (h1 : m < 1000000) (hn : n < 1000000) : iRng2F Φ ρ g = .ok ((List.range n).map fun k : Nat => PyData.int (m + k)) g1 := by
  have c1 := in62 (j := m) (by omega) (by omega)
  have c2 := in62 (j := l) (by omega) (by omega)
  rw [rng_ok2 m l ⟨c1.1, c1.2, c2.1, c2.2⟩ h]
  have e2 : (l - m).toNat = n := by omega
  rw [e2]
theorem w_zip {Φ : FnA γ} {xs zs : List PyData} (h : Φ ρ g = .ok [.d (.tuple xs), .d (.tuple zs)] g1) : iZipF Φ ρ g = .ok ((xs.zip zs).map fun p => .tuple [p.1, p.2]) g1 := by unfold iZipF; rw [h]; rfl
/-! ### statements -/
theorem u_seq (h : ψ1 ρ g = .next ρ1 g1) : sSeq ψ1 ψ2 ρ g = ψ2 ρ1 g1 := by unfold sSeq; rw [h]
theorem u_seqR (h : ψ1 ρ g = .ret x g1) : sSeq ψ1 ψ2 ρ g = .ret x g1 := by unfold sSeq; rw [h]
theorem u_seqX {C : Addr} {fs : List (Str × PyData)} (h : ψ1 ρ g = .exc C fs ρ1 g1) : sSeq ψ1 ψ2 ρ g = .exc C fs ρ1 g1 := by unfold sSeq; rw [h]
theorem u_nil : (sNil : SFn γ) ρ g = .next ρ g := rfl
theorem u_set (ha : a ρ g = .ok x g1) (hi : decide (i < ρ.length) = true := by rfl) (hx : ∀ xs, x ≠ .b xs := by exact fun _ z => nomatch z) : sAsg i a ρ g = .next (ρ.set i (some x)) g1 := by
  have hi := of_decide_eq_true hi
  unfold sAsg
  rw [ha]
  cases x with
  | b xs => exact absurd rfl (hx xs)
  | _ => exact if_pos hi
theorem u_drop (ha : a ρ g = .ok x g1) : sDrop a ρ g = .next ρ g1 := by unfold sDrop; rw [ha]; rfl
theorem u_dropX {C : Addr} {fs : List (Str × PyData)} (ha : a ρ g = .exc C fs g1) : sDrop a ρ g = .exc C fs ρ g1 := by unfold sDrop; rw [ha]; rfl
theorem u_ret (ha : a ρ g = .ok x g1) (hx : ∀ xs, x ≠ .b xs := by exact fun _ z => nomatch z) : sRet a ρ g = .ret x g1 := by
  unfold sRet
  rw [ha]
  cases x with
  | b xs => exact absurd rfl (hx xs)
  | _ => rfl
theorem u_retX {C : Addr} {fs : List (Str × PyData)} (ha : a ρ g = .exc C fs g1) : sRet a ρ g = .exc C fs ρ g1 := by unfold sRet; rw [ha]; rfl
theorem u_retv (h : ρ[i]? = some (some x) := by rfl) (hx : ∀ xs, x ≠ .b xs := by exact fun _ z => nomatch z) : (sRetV i : SFn γ) ρ g = .ret x g := by
  unfold sRetV
  rw [h]
  cases x with
  | b xs => exact absurd rfl (hx xs)
  | _ => rfl
theorem u_if (hc : τ ρ g = .ok (.d (.bool p)) g1) : sIf τ ψ1 ψ2 ρ g = if p = true then ψ1 ρ g1 else ψ2 ρ g1 := by unfold sIf; rw [hc]; rfl
theorem u_ifT (hc : τ ρ g = .ok (.d (.bool true)) g1) : sIf τ ψ1 ψ2 ρ g = ψ1 ρ g1 := by rw [u_if hc]; rfl
theorem u_ifF (hc : τ ρ g = .ok (.d (.bool false)) g1) : sIf τ ψ1 ψ2 ρ g = ψ2 ρ g1 := by rw [u_if hc]; rfl
theorem u_for {ys : List PyData} (hi : Ι ρ g = .ok ys g1) : sFor Ι asg body ρ g = loopD asg body ys ρ g1 := by unfold sFor; rw [hi]; rfl
theorem u_app {xs : List PyData} {k : PyData} (h : ρ[i]? = some (some (.l xs))) (ha : a ρ g = .ok (.d k) g1) (hl : xs.length < 100000) : sApp i a ρ g = .next (ρ.set i (some (.l (xs ++ [k])))) g1 := by
  unfold sApp
  rw [h]
  show (a ρ g).bindS _ _ = _
  rw [ha]
  exact if_pos hl
theorem u_revs {xs : List PyData} (h : ρ[i]? = some (some (.l xs))) : (sRevS i : SFn γ) ρ g = .next (ρ.set i (some (.l xs.reverse))) g := by unfold sRevS; rw [h]
theorem u_seti {xs : List PyData} {k : PyData} {n : Int} {j : Nat} (ha : a ρ g = .ok (.d k) g1) (h : ρ[i]? = some (some (.l xs))) (hb : b ρ g1 = .ok (.d (.int n)) g2) (e : ixN xs.length n = some j) : sSetI i b a ρ g = .next (ρ.set i (some (.l (xs.set j k)))) g2 := by
  unfold sSetI
  rw [ha]
  show (match ρ[i]? with | some (some (.l xs)) => _ | _ => _) = _
  rw [h]
  show (b ρ g1).bindS _ _ = _
  rw [hb]
  show (match ixN xs.length n with | some j => _ | none => _) = _
  rw [e]
theorem u_unp {f : Asg} {k : PyData} (ha : a ρ g = .ok (.d k) g1) (h : f k ρ = some ρ1) : sUnp f a ρ g = .next ρ1 g1 := by
  unfold sUnp
  rw [ha]
  show (match f k ρ with | some ρ' => _ | none => _) = _
  rw [h]
/-- a for by a word about what is left -/
theorem loop_inv (R : List PyData → Env → γ → Prop) (hs : ∀ y rest ρ g, R (y :: rest) ρ g → ∃ ρ1 ρ2 g2, asg y ρ = some ρ1 ∧ body ρ1 g = .next ρ2 g2 ∧ R rest ρ2 g2) :
    ∀ ys ρ g, R ys ρ g → ∃ ρ' g', loopD asg body ys ρ g = .next ρ' g' ∧ R [] ρ' g'
  | [], ρ, g, h => ⟨ρ, g, rfl, h⟩
  | y :: ys, ρ, g, h => by
    obtain ⟨ρ1, ρ2, g2, e1, e2, h2⟩ := hs y ys ρ g h
    obtain ⟨ρ', g', e3, h3⟩ := loop_inv R hs ys ρ2 g2 h2
    refine ⟨ρ', g', ?_, h3⟩
    unfold loopD
    rw [e1]
    simp only [e2]
    exact e3
/-- the same over plain items -/
theorem loop_invM {α : Type} (inj : α → PyData) (R : List α → Env → γ → Prop) (hs : ∀ y rest ρ g, R (y :: rest) ρ g → ∃ ρ1 ρ2 g2, asg (inj y) ρ = some ρ1 ∧ body ρ1 g = .next ρ2 g2 ∧ R rest ρ2 g2) :
    ∀ ys ρ g, R ys ρ g → ∃ ρ' g', loopD asg body (ys.map inj) ρ g = .next ρ' g' ∧ R [] ρ' g'
  | [], ρ, g, h => ⟨ρ, g, rfl, h⟩
  | y :: ys, ρ, g, h => by
    obtain ⟨ρ1, ρ2, g2, e1, e2, h2⟩ := hs y ys ρ g h
    obtain ⟨ρ', g', e3, h3⟩ := loop_invM inj R hs ys ρ2 g2 h2
    refine ⟨ρ', g', ?_, h3⟩
    rw [List.map_cons]
    unfold loopD
    rw [e1]
    simp only [e2]
    exact e3
end
theorem bools_map {α : Type} (f : α → Bool) : ∀ (xs : List α), boolsOf (xs.map fun x => PyData.bool (f x)) = some (xs.map f)
  | [] => rfl
  | x :: r => by
    rw [List.map_cons, List.map_cons]
    show (boolsOf _).map _ = _
    rw [bools_map f r]
    rfl
theorem v_all {α : Type} (f : α → Bool) (xs : List α) : bAll [.l (xs.map fun x => PyData.bool (f x))] = some (.d (.bool (xs.all f))) := by
  show (boolsOf (xs.map fun x => PyData.bool (f x))).map (fun bs => SV.d (.bool (bs.all id))) = _
  rw [bools_map, Option.map_some, List.all_map]
  rfl
theorem isi_tt (xs : List PyData) : isi "tuple" (.tuple xs) = some true := by show kitB "tuple" "tuple" = _; decide +kernel
theorem isi_tl (xs : List PyData) : isi "tuple" (.list xs) = some false := by show kitB "list" "tuple" = _; decide +kernel
theorem isi_ti (z : Int) : isi "tuple" (.int z) = some false := by show kitB "int" "tuple" = _; decide +kernel
theorem isi_tb (z : Bool) : isi "tuple" (.bool z) = some false := by show kitB "bool" "tuple" = _; decide +kernel
theorem isi_tn : isi "tuple" .none = some false := by show kitB "NoneType" "tuple" = _; decide +kernel
theorem isi_ts (z : Str) : isi "tuple" (.str z) = some false := by show kitB "str" "tuple" = _; decide +kernel
theorem isi_td (z : List (PyData × PyData)) : isi "tuple" (.dict z) = some false := by show kitB "dict" "tuple" = _; decide +kernel
def tupB : PyData → Bool
  | .tuple _ => true
  | _ => false
theorem isi_tup (x : PyData) : isi "tuple" x = some (tupB x) := by
  cases x
  · exact isi_tn
  · exact isi_tb _
  · exact isi_ti _
  · exact isi_ts _
  · exact isi_tl _
  · exact isi_tt _
  · exact isi_td _
end Dn

set_option Elab.async false
set_option linter.all false
set_option autoImplicit false
set_option maxRecDepth 100000
set_option maxHeartbeats 1000000
/-! lots as marks -/
namespace Dn
def lot (n m : Nat) : List Int := ((List.range n).filter fun i => m.testBit i).map fun i : Nat => (i : Int)
theorem mem_lot {n m : Nat} {x : Int} : x ∈ lot n m ↔ ∃ i, i < n ∧ m.testBit i = true ∧ x = (i : Int) := by
  unfold lot
  rw [List.mem_map]
  constructor
  · rintro ⟨i, hi, rfl⟩
    obtain ⟨h1, h2⟩ := List.mem_filter.mp hi
    exact ⟨i, List.mem_range.mp h1, h2, rfl⟩
  · rintro ⟨i, h1, h2, rfl⟩
    exact ⟨i, List.mem_filter.mpr ⟨List.mem_range.mpr h1, h2⟩, rfl⟩
theorem bit_mem {n m i : Nat} : ((i : Int) ∈ lot n m) ↔ i < n ∧ m.testBit i = true := by
  rw [mem_lot]
  constructor
  · rintro ⟨j, h1, h2, e⟩
    obtain rfl : i = j := by omega
    exact ⟨h1, h2⟩
  · rintro ⟨h1, h2⟩
    exact ⟨i, h1, h2, rfl⟩
theorem bit_high {n m i : Nat} (hm : m < 2 ^ n) (hi : n ≤ i) : m.testBit i = false := Nat.testBit_lt_two_pow (Nat.lt_of_lt_of_le hm (Nat.pow_le_pow_right (by decide) hi))
def wt (a b : Nat) : Bool := decide (a &&& b = a)
theorem wt_iff {a b : Nat} : wt a b = true ↔ ∀ i, a.testBit i = true → b.testBit i = true := by
  unfold wt
  rw [decide_eq_true_iff]
  constructor
  · intro h i hi
    rw [← h, Nat.testBit_and, Bool.and_eq_true] at hi
    exact hi.2
  · intro h
    refine Nat.eq_of_testBit_eq fun i => ?_
    rw [Nat.testBit_and]
    cases ha : a.testBit i with
    | false => rfl
    | true => rw [h i ha]; rfl
theorem wt_refl (a : Nat) : wt a a = true := wt_iff.mpr fun _ h => h
theorem wt_trans {a b c : Nat} (h1 : wt a b = true) (h2 : wt b c = true) : wt a c = true := wt_iff.mpr fun i h => wt_iff.mp h2 i (wt_iff.mp h1 i h)
theorem wt_anti {a b : Nat} (h1 : wt a b = true) (h2 : wt b a = true) : a = b := Nat.eq_of_testBit_eq fun i => by
  rw [Bool.eq_iff_iff]
  exact ⟨wt_iff.mp h1 i, wt_iff.mp h2 i⟩
/-- lots within one another -/
def inB (x y : List Int) : Bool := x.all fun i => decide (i ∈ y)
theorem inB_lot {n a b : Nat} (ha : a < 2 ^ n) : inB (lot n a) (lot n b) = wt a b := by
  rw [Bool.eq_iff_iff, wt_iff]
  unfold inB
  rw [List.all_eq_true]
  constructor
  · intro h i hi
    have hn : i < n := by
      rcases Nat.lt_or_ge i n with z | z
      · exact z
      · rw [bit_high ha z] at hi; cases hi
    exact (bit_mem.mp (of_decide_eq_true (h i (bit_mem.mpr ⟨hn, hi⟩)))).2
  · intro h x hx
    obtain ⟨i, h1, h2, rfl⟩ := mem_lot.mp hx
    exact decide_eq_true (bit_mem.mpr ⟨h1, h i h2⟩)
theorem lot_inj {n a b : Nat} (ha : a < 2 ^ n) (hb : b < 2 ^ n) (h : lot n a = lot n b) : a = b := by
  refine wt_anti ?_ ?_
  · rw [← inB_lot ha, h, inB_lot hb]; exact wt_refl b
  · rw [← inB_lot hb, ← h, inB_lot ha]; exact wt_refl a
def belowB (x y : List Int) : Bool := decide (x.length < y.length) && inB x y
theorem below_lot {n a b : Nat} (ha : a < 2 ^ n) (hb : b < 2 ^ n) : belowB (lot n a) (lot n b) = (wt a b && decide (a ≠ b)) := by
  unfold belowB
  rw [inB_lot ha]
  cases hw : wt a b with
  | false => rw [Bool.and_false, Bool.false_and]
  | true =>
    rw [Bool.and_true, Bool.true_and, decide_eq_decide]
    have len : ∀ m, (lot n m).length = ((List.range n).filter fun i => m.testBit i).length := fun m => List.length_map ..
    constructor
    · rintro h rfl; exact Nat.lt_irrefl _ h
    · intro ne
      have hs : ((List.range n).filter fun i => a.testBit i).Sublist ((List.range n).filter fun i => b.testBit i) := by
        have : (List.range n).filter (fun i => a.testBit i) = ((List.range n).filter fun i => b.testBit i).filter fun i => a.testBit i := by
          rw [List.filter_filter]
          refine List.filter_congr fun i _ => ?_
          cases h : a.testBit i with
          | false => rfl
          | true => rw [wt_iff.mp hw i h]; rfl
        rw [this]
        exact List.filter_sublist
      rcases Nat.lt_or_ge (lot n a).length (lot n b).length with z | z
      · exact z
      · refine absurd (lot_inj ha hb ?_) ne
        unfold lot
        rw [List.Sublist.eq_of_length_le hs (by rw [← len, ← len]; exact z)]
/-! ### one house more, one house less -/
theorem bit_more : ∀ m, m < 64 → ∀ h, h < 6 → m.testBit h = false → ∀ i, i < 6 → (m + 2 ^ h).testBit i = (m.testBit i || decide (i = h)) := by decide +kernel
theorem bit_less : ∀ m, m < 64 → ∀ h, h < 6 → m.testBit h = true → ∀ i, i < 6 → (m - 2 ^ h).testBit i = (m.testBit i && decide (i ≠ h)) := by decide +kernel
theorem more_lt : ∀ n, n < 7 → ∀ m, m < 2 ^ n → ∀ h, h < n → m.testBit h = false → m + 2 ^ h < 2 ^ n := by decide +kernel
theorem pow_le {n : Nat} (hn : n ≤ 6) : 2 ^ n ≤ 64 := Nat.pow_le_pow_right (by decide) hn
theorem wt_more {n m h : Nat} (hn : n ≤ 6) (hm : m < 2 ^ n) (hh : h < n) (hb : m.testBit h = false) : wt m (m + 2 ^ h) = true := wt_iff.mpr fun i hi => by
  have h6 : i < 6 := by
    rcases Nat.lt_or_ge i n with z | z
    · omega
    · rw [bit_high hm z] at hi; cases hi
  rw [bit_more m (Nat.lt_of_lt_of_le hm (pow_le hn)) h (by omega) hb i h6, hi]; rfl
/-- below, and not the same: a house more stays below -/
theorem wt_step {n a b : Nat} (hn : n ≤ 6) (ha : a < 2 ^ n) (hb : b < 2 ^ n) (hw : wt a b = true) (ne : a ≠ b) : ∃ h, h < n ∧ a.testBit h = false ∧ wt (a + 2 ^ h) b = true := by
  have ex : ∃ h, b.testBit h = true ∧ a.testBit h = false := by
    refine Classical.byContradiction fun no => ne (wt_anti hw (wt_iff.mpr fun i hi => ?_))
    cases q : a.testBit i with
    | true => rfl
    | false => exact absurd ⟨i, hi, q⟩ no
  obtain ⟨h, h1, h2⟩ := ex
  have hh : h < n := by
    rcases Nat.lt_or_ge h n with z | z
    · exact z
    · rw [bit_high hb z] at h1; cases h1
  refine ⟨h, hh, h2, wt_iff.mpr fun i hi => ?_⟩
  have h6 : i < 6 := by
    rcases Nat.lt_or_ge i n with z | z
    · omega
    · rw [bit_high (more_lt n (by omega) a ha h hh h2) z] at hi; cases hi
  rw [bit_more a (Nat.lt_of_lt_of_le ha (pow_le hn)) h (by omega) h2 i h6, Bool.or_eq_true] at hi
  rcases hi with z | z
  · exact wt_iff.mp hw i z
  · rw [of_decide_eq_true z]; exact h1
/-- above, and not the same: a house less stays above -/
theorem wt_back {n a b : Nat} (hn : n ≤ 6) (ha : a < 2 ^ n) (hb : b < 2 ^ n) (hw : wt a b = true) (ne : a ≠ b) : ∃ h, h < n ∧ b.testBit h = true ∧ wt a (b - 2 ^ h) = true := by
  have ex : ∃ h, b.testBit h = true ∧ a.testBit h = false := by
    refine Classical.byContradiction fun no => ne (wt_anti hw (wt_iff.mpr fun i hi => ?_))
    cases q : a.testBit i with
    | true => rfl
    | false => exact absurd ⟨i, hi, q⟩ no
  obtain ⟨h, h1, h2⟩ := ex
  have hh : h < n := by
    rcases Nat.lt_or_ge h n with z | z
    · exact z
    · rw [bit_high hb z] at h1; cases h1
  refine ⟨h, hh, h1, wt_iff.mpr fun i hi => ?_⟩
  have h6 : i < 6 := by
    rcases Nat.lt_or_ge i n with z | z
    · omega
    · rw [bit_high ha z] at hi; cases hi
  rw [bit_less b (Nat.lt_of_lt_of_le hb (pow_le hn)) h (by omega) h1 i h6, wt_iff.mp hw i hi, Bool.true_and]
  refine decide_eq_true fun z => ?_
  rw [z, h2] at hi
  cases hi
theorem bit_le {m h : Nat} (hb : m.testBit h = true) : 2 ^ h ≤ m := Nat.ge_two_pow_of_testBit hb
theorem wt_less {n m h : Nat} (hn : n ≤ 6) (hm : m < 2 ^ n) (hh : h < n) (hb : m.testBit h = true) : wt (m - 2 ^ h) m = true := wt_iff.mpr fun i hi => by
  have h6 : i < 6 := by
    rcases Nat.lt_or_ge i n with z | z
    · omega
    · rw [bit_high (Nat.lt_of_le_of_lt (Nat.sub_le _ _) hm) z] at hi; cases hi
  rw [bit_less m (Nat.lt_of_lt_of_le hm (pow_le hn)) h (by omega) hb i h6, Bool.and_eq_true] at hi
  exact hi.1
/-! ### what is downward closed; its greatest ones -/
def Dc (n : Nat) (E : Nat → Bool) : Prop := ∀ a b, a < 2 ^ n → b < 2 ^ n → wt a b = true → E b = true → E a = true
def topB (n : Nat) (E : Nat → Bool) (m : Nat) : Bool := E m && (List.range n).all fun h => m.testBit h || !E (m + 2 ^ h)
def tops (n : Nat) (E : Nat → Bool) : List Nat := (List.range (2 ^ n)).filter (topB n E)
theorem mem_tops {n m : Nat} {E : Nat → Bool} : m ∈ tops n E ↔ m < 2 ^ n ∧ topB n E m = true := by
  unfold tops
  rw [List.mem_filter, List.mem_range]
theorem tops_lt {n m : Nat} {E : Nat → Bool} (h : m ∈ tops n E) : m < 2 ^ n := (mem_tops.mp h).1
theorem tops_in {n m : Nat} {E : Nat → Bool} (h : m ∈ tops n E) : E m = true := by
  have z := (mem_tops.mp h).2
  unfold topB at z
  rw [Bool.and_eq_true] at z
  exact z.1
theorem tops_nodup (n : Nat) (E : Nat → Bool) : (tops n E).Nodup := List.Pairwise.filter _ List.nodup_range
theorem top_above {n : Nat} (hn : n ≤ 6) {E : Nat → Bool} : ∀ (k m : Nat), 2 ^ n - m ≤ k → m < 2 ^ n → E m = true → ∃ t, t ∈ tops n E ∧ wt m t = true
  | 0, m, hk, hm, _ => absurd hm (by omega)
  | k + 1, m, hk, hm, he => by
    by_cases ht : topB n E m = true
    · exact ⟨m, mem_tops.mpr ⟨hm, ht⟩, wt_refl m⟩
    · unfold topB at ht
      rw [he, Bool.true_and, List.all_eq_true] at ht
      have ex : ∃ h, h < n ∧ m.testBit h = false ∧ E (m + 2 ^ h) = true := by
        refine Classical.byContradiction fun no => ht fun h hh => ?_
        rw [Bool.or_eq_true]
        cases q : m.testBit h with
        | true => exact .inl rfl
        | false =>
          right
          cases q2 : E (m + 2 ^ h) with
          | false => rfl
          | true => exact absurd ⟨h, List.mem_range.mp hh, q, q2⟩ no
      obtain ⟨h, h1, h2, h3⟩ := ex
      have lt := more_lt n (by omega) m hm h h1 h2
      have pos := Nat.two_pow_pos h
      obtain ⟨t, t1, t2⟩ := top_above hn k (m + 2 ^ h) (by omega) lt h3
      exact ⟨t, t1, wt_trans (wt_more hn hm h1 h2) t2⟩
theorem top_is {n : Nat} (hn : n ≤ 6) {E : Nat → Bool} (d : Dc n E) {a b : Nat} (ha : a ∈ tops n E) (hb : b < 2 ^ n) (he : E b = true) (hw : wt a b = true) : a = b := by
  refine Classical.byContradiction fun ne => ?_
  obtain ⟨h, h1, h2, h3⟩ := wt_step hn (tops_lt ha) hb hw ne
  have lt := more_lt n (by omega) a (tops_lt ha) h h1 h2
  have z := (mem_tops.mp ha).2
  unfold topB at z
  rw [Bool.and_eq_true, List.all_eq_true] at z
  have z := z.2 h (List.mem_range.mpr h1)
  rw [h2, Bool.false_or, d _ b lt hb h3 he] at z
  cases z
/-- .. generated by a list of marks -/
def Gen (n : Nat) (E : Nat → Bool) (M : List Nat) : Prop := (∀ m ∈ M, m < 2 ^ n) ∧ ∀ x, x < 2 ^ n → (E x = true ↔ ∃ y, y ∈ M ∧ wt x y = true)
theorem Gen.dc {n : Nat} {E : Nat → Bool} {M : List Nat} (g : Gen n E M) : Dc n E := fun a b ha hb hw he => by
  obtain ⟨y, hy, hw2⟩ := (g.2 b hb).mp he
  exact (g.2 a ha).mpr ⟨y, hy, wt_trans hw hw2⟩
theorem gen_tops {n : Nat} (hn : n ≤ 6) {E : Nat → Bool} (d : Dc n E) : Gen n E (tops n E) := ⟨fun m hm => tops_lt hm, fun x hx => ⟨fun he => by
    obtain ⟨t, t1, t2⟩ := top_above hn (2 ^ n) x (by omega) hx he
    exact ⟨t, t1, t2⟩, fun ⟨y, hy, hw⟩ => d x y hx (tops_lt hy) hw (tops_in hy)⟩⟩
theorem max_tops {n : Nat} (hn : n ≤ 6) {E : Nat → Bool} {M : List Nat} (g : Gen n E M) {m : Nat} : m ∈ tops n E ↔ m ∈ M ∧ ∀ y, y ∈ M → wt m y = true → m = y := by
  constructor
  · intro hm
    have hlt := tops_lt hm
    obtain ⟨y, hy, hw⟩ := (g.2 m hlt).mp (tops_in hm)
    have hyE : E y = true := (g.2 y (g.1 y hy)).mpr ⟨y, hy, wt_refl y⟩
    have e := top_is hn g.dc hm (g.1 y hy) hyE hw
    exact ⟨e ▸ hy, fun z hz hw2 => top_is hn g.dc hm (g.1 z hz) ((g.2 z (g.1 z hz)).mpr ⟨z, hz, wt_refl z⟩) hw2⟩
  · rintro ⟨hm, hmax⟩
    have hlt := g.1 m hm
    have he : E m = true := (g.2 m hlt).mpr ⟨m, hm, wt_refl m⟩
    obtain ⟨t, t1, t2⟩ := top_above hn (2 ^ n) m (by omega) hlt he
    obtain ⟨y, hy, hw⟩ := (g.2 t (tops_lt t1)).mp (tops_in t1)
    have e1 := hmax y hy (wt_trans t2 hw)
    have e2 : t = m := by
      refine wt_anti ?_ t2
      rw [e1]; exact hw
    exact e2 ▸ t1
/-! ### sorted lots -/
def lots (n : Nat) (M : List Nat) : List (List Int) := srtL (M.map (lot n))
theorem mem_lots {n : Nat} {M : List Nat} {x : List Int} : x ∈ lots n M ↔ ∃ m, m ∈ M ∧ x = lot n m := by
  unfold lots
  rw [(srtL_perm _).mem_iff, List.mem_map]
  exact ⟨fun ⟨m, h, e⟩ => ⟨m, h, e.symm⟩, fun ⟨m, h, e⟩ => ⟨m, h, e.symm⟩⟩
theorem lots_nodup {n : Nat} {M : List Nat} (hM : ∀ m ∈ M, m < 2 ^ n) (nd : M.Nodup) : (lots n M).Nodup := by
  unfold lots
  rw [(srtL_perm _).nodup_iff]
  refine List.pairwise_map.mpr (List.Pairwise.imp_of_mem (fun {a b} ha hb ne e => ne (lot_inj (hM a ha) (hM b hb) e)) nd)
theorem lots_sorted (n : Nat) (M : List Nat) : (lots n M).Pairwise LeL := srtL_sorted _
/-- one sorted list without twice the same, by its members -/
theorem sorted_ext {l m : List (List Int)} (h1 : l.Pairwise LeL) (h2 : m.Pairwise LeL) (n1 : l.Nodup) (n2 : m.Nodup) (e : ∀ x, x ∈ l ↔ x ∈ m) : l = m := sorted_uniq h1 h2 ((List.perm_ext_iff_of_nodup n1 n2).mpr e)
/-- what greatest gives -/
def grt (L : List (List Int)) : List (List Int) := (srtL (nubL L)).filter fun x => !(srtL (nubL L)).any fun y => belowB x y
theorem grt_lots {n : Nat} (hn : n ≤ 6) {E : Nat → Bool} {M : List Nat} (g : Gen n E M) : grt (M.map (lot n)) = lots n (tops n E) := by
  have mem : ∀ x, x ∈ srtL (nubL (M.map (lot n))) ↔ ∃ m, m ∈ M ∧ x = lot n m := fun x => by
    rw [(srtL_perm _).mem_iff, mem_nubL, List.mem_map]
    exact ⟨fun ⟨m, h, e⟩ => ⟨m, h, e.symm⟩, fun ⟨m, h, e⟩ => ⟨m, h, e.symm⟩⟩
  have nd : (srtL (nubL (M.map (lot n)))).Nodup := (srtL_perm _).nodup_iff.mpr (nubL_nodup _)
  refine sorted_ext ((srtL_sorted _).filter _) (lots_sorted _ _) (nd.filter _) (lots_nodup (fun m hm => tops_lt hm) (tops_nodup n E)) fun x => ?_
  unfold grt
  rw [List.mem_filter, mem, mem_lots]
  constructor
  · rintro ⟨⟨m, hm, rfl⟩, h⟩
    refine ⟨m, (max_tops hn g).mpr ⟨hm, fun y hy hw => ?_⟩, rfl⟩
    refine Classical.byContradiction fun ne => ?_
    have h : (srtL (nubL (M.map (lot n)))).any (fun y => belowB (lot n m) y) = false := by simpa using h
    have := List.any_eq_false.mp h (lot n y) ((mem _).mpr ⟨y, hy, rfl⟩)
    rw [below_lot (g.1 m hm) (g.1 y hy), hw, decide_eq_true ne] at this
    exact this rfl
  · rintro ⟨m, hm, rfl⟩
    obtain ⟨h1, h2⟩ := (max_tops hn g).mp hm
    refine ⟨⟨m, h1, rfl⟩, ?_⟩
    have : (srtL (nubL (M.map (lot n)))).any (fun y => belowB (lot n m) y) = false := List.any_eq_false.mpr fun y hy z => by
      obtain ⟨k, hk, rfl⟩ := (mem y).mp hy
      rw [below_lot (g.1 m h1) (g.1 k hk), Bool.and_eq_true] at z
      exact of_decide_eq_true z.2 (h2 k hk z.1)
    rw [this]; rfl
/-- what is feared by the sorted greatest ones -/
theorem any_lots {n : Nat} {M : List Nat} {m : Nat} (hm : m < 2 ^ n) : (lots n M).any (fun f => inB (lot n m) f) = M.any fun y => wt m y := by
  rw [Bool.eq_iff_iff, List.any_eq_true, List.any_eq_true]
  constructor
  · rintro ⟨x, hx, h⟩
    obtain ⟨y, hy, rfl⟩ := mem_lots.mp hx
    exact ⟨y, hy, by rw [← inB_lot hm]; exact h⟩
  · rintro ⟨y, hy, h⟩
    exact ⟨lot n y, mem_lots.mpr ⟨y, hy, rfl⟩, by rw [inB_lot hm]; exact h⟩
theorem any_gen {n : Nat} {E : Nat → Bool} {M : List Nat} (g : Gen n E M) {m : Nat} (hm : m < 2 ^ n) : (M.any fun y => wt m y) = E m := by
  rw [Bool.eq_iff_iff, List.any_eq_true, g.2 m hm]
/-- a part of all lots, by what it holds -/
theorem filter_lots {n : Nat} (p : List Int → Bool) (E : Nat → Bool) (h : ∀ m, m < 2 ^ n → p (lot n m) = E m) : (lots n (List.range (2 ^ n))).filter p = lots n ((List.range (2 ^ n)).filter E) := by
  have all : ∀ m ∈ List.range (2 ^ n), m < 2 ^ n := fun m hm => List.mem_range.mp hm
  refine sorted_ext ((lots_sorted _ _).filter _) (lots_sorted _ _) ((lots_nodup all List.nodup_range).filter _) (lots_nodup (fun m hm => all m (List.mem_filter.mp hm).1) (List.nodup_range.filter _)) fun x => ?_
  rw [List.mem_filter, mem_lots, mem_lots]
  constructor
  · rintro ⟨⟨m, hm, rfl⟩, hp⟩
    exact ⟨m, List.mem_filter.mpr ⟨hm, by rw [← h m (all m hm)]; exact hp⟩, rfl⟩
  · rintro ⟨m, hm, rfl⟩
    obtain ⟨h1, h2⟩ := List.mem_filter.mp hm
    exact ⟨⟨m, h1, rfl⟩, by rw [h m (all m h1)]; exact h2⟩
end Dn

set_option Elab.async false
set_option linter.all false
set_option autoImplicit false
set_option maxRecDepth 100000
set_option maxHeartbeats 1000000
/-! more of what a reading gives -/
namespace Dn
open PySem PySem.Spec PyProof.Rows L2
section
variable {γ : Type} {ρ ρ' ρ1 : Env} {g g1 g2 g3 g4 : γ} {a b c d φ ψ τ cond elt cond1 : Fn γ} {x y z u : SV} {p q : Bool} {F : SV → SV → Option SV} {F1 : SV → Option SV} {FC : List SV → Option SV} {asg asg1 : Asg} {body ψ1 ψ2 : SFn γ} {Ι Ι1 : FnI γ} {own own1 : List Nat} {i : Nat} {o : SOut γ}
theorem lcD_filter {α : Type} (inj f : α → PyData) (p : α → Bool) : ∀ (xs : List α), (∀ x ∈ xs, ∃ ρ1, asg (inj x) ρ = some ρ1 ∧ cond ρ1 g = .ok (.d (.bool (p x))) g ∧ (p x = true → elt ρ1 g = .ok (.d (f x)) g)) → lcD asg cond elt ρ (xs.map inj) g = some ((xs.filter p).map f, g)
  | [], _ => rfl
  | x :: r, h => by
    obtain ⟨ρ1, e1, e2, e3⟩ := h x List.mem_cons_self
    rw [List.map_cons]
    unfold lcD
    rw [e1]
    have ih := lcD_filter inj f p r fun y hy => h y (List.mem_cons_of_mem _ hy)
    cases hp : p x with
    | true =>
      rw [hp] at e2
      simp only [e2, e3 hp]
      rw [ih, List.filter_cons_of_pos hp]
      rfl
    | false =>
      rw [hp] at e2
      simp only [e2]
      rw [ih, List.filter_cons_of_neg (by rw [hp]; decide)]
theorem w_lcf {α : Type} (xs : List α) (inj f : α → PyData) (p : α → Bool) (hi : Ι ρ g = .ok (xs.map inj) g) (hl : xs.length ≤ 100000) (h : ∀ x ∈ xs, ∃ ρ1, asg (inj x) (wipeE ρ own) = some ρ1 ∧ cond ρ1 g = .ok (.d (.bool (p x))) g ∧ (p x = true → elt ρ1 g = .ok (.d (f x)) g)) :
    fLc own Ι asg cond elt ρ g = .ok (.l ((xs.filter p).map f)) g := by
  unfold fLc
  rw [hi]
  show (if (xs.map inj).length ≤ 100000 then _ else _) = _
  rw [List.length_map, if_pos hl, lcD_filter inj f p xs h]
/-- a comprehension whose turns change the state -/
theorem lcD_state {α β : Type} (inj : α → PyData) (out : β → PyData) (Pb : β → Prop) (S : γ → Prop) : ∀ (xs : List α) (g : γ), S g → (∀ x ∈ xs, ∀ g, S g → ∃ ρ1 y g', asg (inj x) ρ = some ρ1 ∧ elt ρ1 g = .ok (.d (out y)) g' ∧ Pb y ∧ S g') →
    ∃ (ys : List β) (g' : γ), lcD asg fYes elt ρ (xs.map inj) g = some (ys.map out, g') ∧ ys.length = xs.length ∧ (∀ y ∈ ys, Pb y) ∧ S g'
  | [], g, s, _ => ⟨[], g, rfl, rfl, fun y hy => (nomatch hy), s⟩
  | x :: r, g, s, h => by
    obtain ⟨ρ1, y, g1, e1, e2, py, s1⟩ := h x List.mem_cons_self g s
    obtain ⟨ys, g', e, l, all, s'⟩ := lcD_state inj out Pb S r g1 s1 fun z hz => h z (List.mem_cons_of_mem _ hz)
    refine ⟨y :: ys, g', ?_, by rw [List.length_cons, List.length_cons, l], fun z hz => ?_, s'⟩
    · rw [List.map_cons]
      unfold lcD
      rw [e1]
      have ey : (fYes : Fn γ) ρ1 g = .ok (.d (.bool true)) g := rfl
      simp only [ey, e2]
      rw [e]
      rfl
    · rcases List.mem_cons.mp hz with e | hz
      · rw [e]; exact py
      · exact all z hz
theorem w_lcs {α β : Type} (xs : List α) (inj : α → PyData) (out : β → PyData) (Pb : β → Prop) (S : γ → Prop) (hi : Ι ρ g = .ok (xs.map inj) g) (hl : xs.length ≤ 100000) (s : S g) (h : ∀ x ∈ xs, ∀ g, S g → ∃ ρ1 y g', asg (inj x) (wipeE ρ own) = some ρ1 ∧ elt ρ1 g = .ok (.d (out y)) g' ∧ Pb y ∧ S g') :
    ∃ (ys : List β) (g' : γ), fLc own Ι asg fYes elt ρ g = .ok (.l (ys.map out)) g' ∧ ys.length = xs.length ∧ (∀ y ∈ ys, Pb y) ∧ S g' := by
  obtain ⟨ys, g', e, l, all, s'⟩ := lcD_state (asg := asg) (elt := elt) (ρ := wipeE ρ own) inj out Pb S xs g s h
  refine ⟨ys, g', ?_, l, all, s'⟩
  unfold fLc
  rw [hi]
  show (if (xs.map inj).length ≤ 100000 then _ else _) = _
  rw [List.length_map, if_pos hl, e]
/-- two fors -/
theorem lcD2_mapM {α β : Type} (inj : α → PyData) (inj1 : β → PyData) (f : α → β → PyData) (zs : List β) : ∀ (xs : List α), (∀ x ∈ xs, ∃ ρ1, asg (inj x) ρ = some ρ1 ∧ Ι1 ρ1 g = .ok (zs.map inj1) g ∧ ∀ z ∈ zs, ∃ ρ2, asg1 (inj1 z) (wipeE ρ1 own1) = some ρ2 ∧ elt ρ2 g = .ok (.d (f x z)) g) →
    lcD2 asg fYes own1 Ι1 asg1 fYes elt ρ (xs.map inj) g = some (xs.flatMap fun x => zs.map (f x), g)
  | [], _ => rfl
  | x :: r, h => by
    obtain ⟨ρ1, e1, e2, e3⟩ := h x List.mem_cons_self
    rw [List.map_cons]
    unfold lcD2
    rw [e1]
    have ey : (fYes : Fn γ) ρ1 g = .ok (.d (.bool true)) g := rfl
    simp only [ey, e2]
    rw [lcD_mapM inj1 (f x) zs fun z hz => by
      obtain ⟨ρ2, q1, q2⟩ := e3 z hz
      exact ⟨ρ2, q1, rfl, q2⟩]
    simp only
    rw [lcD2_mapM inj inj1 f zs r fun y hy => h y (List.mem_cons_of_mem _ hy)]
    rfl
theorem w_lc2 {α β : Type} (xs : List α) (zs : List β) (inj : α → PyData) (inj1 : β → PyData) (f : α → β → PyData) (hi : Ι ρ g = .ok (xs.map inj) g) (hl : (xs.flatMap fun x => zs.map (f x)).length ≤ 100000)
    (h : ∀ x ∈ xs, ∃ ρ1, asg (inj x) (wipeE ρ own) = some ρ1 ∧ Ι1 ρ1 g = .ok (zs.map inj1) g ∧ ∀ z ∈ zs, ∃ ρ2, asg1 (inj1 z) (wipeE ρ1 own1) = some ρ2 ∧ elt ρ2 g = .ok (.d (f x z)) g) :
    fLc2 own own1 Ι asg fYes Ι1 asg1 fYes elt ρ g = .ok (.l (xs.flatMap fun x => zs.map (f x))) g := by
  unfold fLc2
  rw [hi]
  show (match lcD2 asg fYes own1 Ι1 asg1 fYes elt (wipeE ρ own) (xs.map inj) g with | some p => _ | none => _) = _
  rw [lcD2_mapM inj inj1 f zs xs h]
  show (if (xs.flatMap fun x => zs.map (f x)).length ≤ 100000 then _ else _) = _
  rw [if_pos hl]
theorem bools_all : ∀ (xs : List Bool), boolsOf (xs.map PyData.bool) = some xs
  | [] => rfl
  | x :: r => by
    show (boolsOf (r.map PyData.bool)).map _ = _
    rw [bools_all r]
    rfl
theorem v_any {α : Type} (f : α → Bool) (xs : List α) : bAny [.l (xs.map fun x => PyData.bool (f x))] = some (.d (.bool (xs.any f))) := by
  show (boolsOf (xs.map fun x => PyData.bool (f x))).map (fun bs => SV.d (.bool (bs.any id))) = _
  rw [bools_map, Option.map_some, List.any_map]
  rfl
theorem v_any2 {α β : Type} (f : α → β → Bool) (xs : List α) (zs : List β) : bAny [.l (xs.flatMap fun x => zs.map fun z => PyData.bool (f x z))] = some (.d (.bool (xs.any fun x => zs.any (f x)))) := by
  have e : (xs.flatMap fun x => zs.map fun z => PyData.bool (f x z)) = (xs.flatMap fun x => zs.map (f x)).map PyData.bool := by
    rw [List.map_flatMap]
    congr 1
    funext x
    rw [List.map_map]
    rfl
  rw [e]
  show (boolsOf ((xs.flatMap fun x => zs.map (f x)).map PyData.bool)).map (fun bs => SV.d (.bool (bs.any id))) = _
  rw [bools_all, Option.map_some, List.any_flatMap]
  congr 4
  funext x
  rw [List.any_map]
  rfl
theorem w_star {Φ : FnA γ} {xs : List PyData} {ys : List SV} (ha : a ρ g = .ok x g1) (e : seqOf x = some xs) (h : Φ ρ g1 = .ok ys g2) : aStar a Φ ρ g = .ok (xs.map SV.d ++ ys) g2 := by
  unfold aStar
  rw [ha]
  show (match seqOf x with | some xs => _ | none => _) = _
  rw [e]
  show (Φ ρ g1).bindA _ = _
  rw [h]
  rfl
/-- the sign of a whole def -/
theorem run_ret {N : List Str} {φ : Fn Unit} {ds : List PyData} {y : SV} (h : φ (env0 N ds) () = .ok y ()) (hy : ∀ xs, y ≠ .b xs := by exact fun _ z => nomatch z) : runP N (sRet φ) ds = .ok y () := by
  unfold runP
  rw [u_ret h hy]
  rfl
theorem run_drop {N : List Str} {φ : Fn Unit} {ds : List PyData} {y : SV} (h : φ (env0 N ds) () = .ok y ()) : runP N (sDrop φ) ds = .ok (.d .none) () := by
  unfold runP
  rw [u_drop h]
  rfl
theorem run_dropX {N : List Str} {φ : Fn Unit} {ds : List PyData} {X : Addr} {fs : List (Str × PyData)} (h : φ (env0 N ds) () = .exc X fs ()) : runP N (sDrop φ) ds = .exc X fs () := by
  unfold runP
  rw [u_dropX h]
  rfl
theorem run_body {N : List Str} {ψ : SFn Unit} {ds : List PyData} {y : SV} (h : ψ (env0 N ds) () = .ret y ()) : runP N ψ ds = .ok y () := congrArg SOut.fin h
theorem run_bodyX {N : List Str} {ψ : SFn Unit} {ds : List PyData} {X : Addr} {fs : List (Str × PyData)} {ρ' : Env} (h : ψ (env0 N ds) () = .exc X fs ρ' ()) : runP N ψ ds = .exc X fs () := congrArg SOut.fin h
theorem run_s {γ : Type} {N : List Str} {ψ : SFn γ} {ys : List SV} {g g' : γ} {y : SV} (h : ψ (envS N ys) g = .ret y g') : runS N ψ ys g = .ok y g' := congrArg SOut.fin h
theorem u_frzL {xs : List PyData} (h : ρ[i]? = some (some (.l xs))) : sFrz i ψ1 ρ g = ψ1 (ρ.set i (some (.d (.list xs)))) g := by
  show ψ1 (frzAt i ρ) g = _
  unfold frzAt
  rw [h]
end
/-! ### repr of small data -/
abbrev Sm (z : Int) : Prop := 0 ≤ z ∧ z ≤ 99
theorem sm_short {z : Int} (h : Sm z) : (PyData.int z).intsShort 13 = true ∧ (PyData.int z).showable = true ∧ (PyData.int z).weight ≤ 8 := by
  obtain ⟨k, rfl⟩ : ∃ k : Nat, z = k := ⟨z.toNat, by omega⟩
  have key : ∀ k : Nat, k < 100 → (PyData.int (k : Int)).intsShort 13 = true ∧ (PyData.int (k : Int)).showable = true ∧ (PyData.int (k : Int)).weight ≤ 8 := by decide +kernel
  exact key k (by omega)
/-- what may be shown: w its weight -/
structure Shy (d : PyData) (w : Nat) : Prop where
  lay : d.canLay0 = true
  dep : d.depth ≤ 10
  wt : d.weight ≤ w
  ish : d.intsShort 13 = true
  shw : d.showable = true
theorem Shy.repr {d : PyData} {w : Nat} (h : Shy d w) (hw : w ≤ 1000000) : d.showable = true ∧ d.depth ≤ 60 ∧ d.shown.length ≤ sizeLine := by
  refine ⟨h.shw, Nat.le_trans h.dep (by decide), ?_⟩
  have l : PyData.layable0 d = true := by
    unfold PyData.layable0
    rw [h.lay, decide_eq_true (Nat.le_trans h.dep (by decide)), decide_eq_true (Nat.le_trans h.wt (Nat.le_trans hw (by decide)))]
    rfl
  exact Nat.le_trans (shown_le13 l h.ish) (by decide)
theorem shy_int {z : Int} (h : Sm z) : Shy (.int z) 8 := by
  obtain ⟨a, b, c⟩ := sm_short h
  exact ⟨rfl, Nat.zero_le _, c, a, b⟩
theorem shy_all : ∀ (ds : List PyData) (w : Nat), (∀ d ∈ ds, Shy d w ∧ d.depth ≤ 8) → PyData.canLayAll0 ds = true ∧ PyData.depthAll ds ≤ 8 ∧ PyData.weightAll ds ≤ ds.length * (w + 1) ∧ PyData.intsShortAll 13 ds = true ∧ PyData.showableAll ds = true
  | [], w, _ => ⟨rfl, Nat.zero_le _, by simp [PyData.weightAll], rfl, rfl⟩
  | d :: r, w, h => by
    obtain ⟨⟨a1, a2, a3, a4, a5⟩, a6⟩ := h d List.mem_cons_self
    obtain ⟨b1, b2, b3, b4, b5⟩ := shy_all r w fun x hx => h x (List.mem_cons_of_mem _ hx)
    refine ⟨?_, ?_, ?_, ?_, ?_⟩
    · show (d.canLay0 && PyData.canLayAll0 r) = true
      rw [a1, b1]; rfl
    · show max d.depth (PyData.depthAll r) ≤ 8
      omega
    · have e : PyData.weightAll (d :: r) ≤ d.weight + 1 + PyData.weightAll r := by
        simp [PyData.weightAll]
        try omega
      rw [List.length_cons, Nat.succ_mul]
      omega
    · show (d.intsShort 13 && PyData.intsShortAll 13 r) = true
      rw [a4, b4]; rfl
    · show (d.showable && PyData.showableAll r) = true
      rw [a5, b5]; rfl
theorem shy_tup {ds : List PyData} {w : Nat} (h : ∀ d ∈ ds, Shy d w ∧ d.depth ≤ 8) : Shy (.tuple ds) (ds.length * (w + 1)) ∧ Shy (.list ds) (ds.length * (w + 1)) := by
  obtain ⟨b1, b2, b3, b4, b5⟩ := shy_all ds w h
  exact ⟨⟨b1, by show PyData.depthAll ds + 1 ≤ 10; omega, b3, b4, b5⟩, ⟨b1, by show PyData.depthAll ds + 1 ≤ 10; omega, b3, b4, b5⟩⟩
theorem shy_bool (b : Bool) : Shy (.bool b) 8 := by cases b <;> exact ⟨rfl, by decide, by decide, rfl, rfl⟩
theorem shy_tI {cs : List Int} (hc : ∀ c ∈ cs, Sm c) : Shy (tupD cs) (cs.length * 9) ∧ (tupD cs).depth ≤ 1 := by
  have h : ∀ d ∈ cs.map PyData.int, Shy d 8 ∧ d.depth ≤ 8 := fun d hd => by
    obtain ⟨c, hc', rfl⟩ := List.mem_map.mp hd
    exact ⟨shy_int (hc c hc'), Nat.zero_le _⟩
  have := (shy_tup h).1
  rw [List.length_map] at this
  refine ⟨this, ?_⟩
  have dp : ∀ cs : List Int, PyData.depthAll (cs.map PyData.int) = 0 := fun cs => by
    induction cs with
    | nil => rfl
    | cons c r ih =>
      show max 0 (PyData.depthAll (r.map PyData.int)) = 0
      rw [ih]
      rfl
  show PyData.depthAll (cs.map PyData.int) + 1 ≤ 1
  rw [dp]
  exact Nat.le_refl _
theorem v_repr {d : PyData} {w : Nat} (h : Shy d w) (hw : w ≤ 1000000) : bRepr [.d d] = some (.d (.str d.shown)) := by
  show (if d.showable = true ∧ d.depth ≤ 60 ∧ d.shown.length ≤ sizeLine then some (SV.d (.str d.shown)) else none) = _
  rw [if_pos (h.repr hw)]
theorem v_reprL {ds : List PyData} {w : Nat} (h : Shy (.list ds) w) (hw : w ≤ 1000000) : bRepr [.l ds] = some (.d (.str (PyData.list ds).shown)) := by
  show (if (PyData.list ds).showable = true ∧ (PyData.list ds).depth ≤ 60 ∧ (PyData.list ds).shown.length ≤ sizeLine then some (SV.d (.str (PyData.list ds).shown)) else none) = _
  rw [if_pos (h.repr hw)]
theorem o_neS (s : Str) : oNeS (.d (.str s)) (.d (.str s)) = some (.d (.bool false)) := by
  show some (SV.d (.bool (!decide (s = s)))) = _
  rw [decide_eq_true rfl]
  rfl
theorem o_eqS (s : Str) : oEqS (.d (.str s)) (.d (.str s)) = some (.d (.bool true)) := by
  show some (SV.d (.bool (decide (s = s)))) = _
  rw [decide_eq_true rfl]
/-- repr(a) != repr(b) where both give the same -/
theorem w_reprNe {γ : Type} {ρ : Env} {g g1 g2 : γ} {φ ψ : Fn γ} {d : PyData} {w : Nat} (h : Shy d w) (hw : w ≤ 1000000) (ha : φ ρ g = .ok (.d d) g1) (hb : ψ ρ g1 = .ok (.d d) g2) : fOp oNeS (fCB bRepr (aCons φ aNil)) (fCB bRepr (aCons ψ aNil)) ρ g = .ok (.d (.bool false)) g2 :=
  w_op (w_cb (w_cons ha w_nil) (v_repr h hw)) (w_cb (w_cons hb w_nil) (v_repr h hw)) (o_neS _)
theorem w_reprEq {γ : Type} {ρ : Env} {g g1 g2 : γ} {φ ψ : Fn γ} {d : PyData} {w : Nat} (h : Shy d w) (hw : w ≤ 1000000) (ha : φ ρ g = .ok (.d d) g1) (hb : ψ ρ g1 = .ok (.d d) g2) : fOp oEqS (fCB bRepr (aCons φ aNil)) (fCB bRepr (aCons ψ aNil)) ρ g = .ok (.d (.bool true)) g2 :=
  w_op (w_cb (w_cons ha w_nil) (v_repr h hw)) (w_cb (w_cons hb w_nil) (v_repr h hw)) (o_eqS _)
/-! lots may be shown -/
theorem lot_small {n m : Nat} (hn : n ≤ 6) : ∀ c ∈ lot n m, Sm c := fun c hc => by
  obtain ⟨i, h1, _, rfl⟩ := mem_lot.mp hc
  exact ⟨by omega, by omega⟩
theorem lot_len {n m : Nat} : (lot n m).length ≤ n := by
  unfold lot
  rw [List.length_map]
  exact Nat.le_trans (List.length_filter_le _ _) (by rw [List.length_range]; exact Nat.le_refl n)
theorem shy_lot {n m : Nat} (hn : n ≤ 6) : Shy (tupD (lot n m)) 54 ∧ (tupD (lot n m)).depth ≤ 8 := by
  obtain ⟨a, b⟩ := shy_tI (lot_small (m := m) hn)
  refine ⟨⟨a.lay, a.dep, Nat.le_trans a.wt ?_, a.ish, a.shw⟩, by omega⟩
  have := lot_len (n := n) (m := m)
  omega
theorem lots_len (n : Nat) (M : List Nat) : (lots n M).length = M.length := by
  unfold lots
  rw [(srtL_perm _).length_eq, List.length_map]
theorem shy_lots {n : Nat} (hn : n ≤ 6) {M : List Nat} (hM : M.length ≤ 1000) : Shy (.tuple ((lots n M).map tupD)) 60000 ∧ Shy (.list ((lots n M).map tupD)) 60000 := by
  have h : ∀ d ∈ (lots n M).map tupD, Shy d 54 ∧ d.depth ≤ 8 := fun d hd => by
    obtain ⟨x, hx, rfl⟩ := List.mem_map.mp hd
    obtain ⟨m, _, rfl⟩ := mem_lots.mp hx
    exact shy_lot hn
  obtain ⟨a, b⟩ := shy_tup h
  have e : ((lots n M).map tupD).length ≤ 1000 := by rw [List.length_map, lots_len]; exact hM
  have e2 : ((lots n M).map tupD).length * (54 + 1) ≤ 60000 := Nat.le_trans (Nat.mul_le_mul_right 55 e) (by decide)
  exact ⟨⟨a.lay, a.dep, Nat.le_trans a.wt e2, a.ish, a.shw⟩, ⟨b.lay, b.dep, Nat.le_trans b.wt e2, b.ish, b.shw⟩⟩
end Dn

set_option Elab.async false
set_option linter.all false
set_option autoImplicit false
set_option maxRecDepth 100000
set_option maxHeartbeats 1000000
namespace K3
open PySem PySem.Spec PyProof.Rows L2 Dn
variable {C : Addr}
abbrev okB (b : Bool) : Out Unit := .ok (.d (.bool b)) ()
abbrev okD (d : PyData) : Out Unit := .ok (.d d) ()
abbrev xc (C : Addr) (w : Str) : Out Unit := .exc C [("at", .int (-1)), ("word", .str w)] ()
abbrev nD (n : Nat) : PyData := .int (n : Int)
abbrev lD (n m : Nat) : PyData := tupD (lot n m)
abbrev lsD (n : Nat) (M : List Nat) : PyData := .tuple ((lots n M).map tupD)
def isI : PyData → Bool
  | .int _ => true
  | _ => false
theorem e_is_integer (x : PyData) : v_is_integer C [x] = okB (isI x) := by cases x <;> rfl
def atL (m : Int) : PyData → Bool
  | .int z => decide (m ≤ z)
  | _ => false
theorem e_is_number (x : PyData) : v_is_number C [x] = okB (atL 0 x) := by cases x <;> rfl
theorem e_is_many (x : PyData) : v_is_many C [x] = okB (atL 1 x) := by cases x <;> rfl
def inR (m : Int) (x : PyData) : Bool := atL 0 x && (match x with | .int z => decide (z < m) | _ => false)
theorem e_is_index (m : Int) (x : PyData) : v_is_index C [.int m, x] = okB (inR m x) := by
  refine run_ret (w_and (w_call (w_cons w_var w_nil) rfl rfl (e_is_number x)) fun h => ?_)
  cases x with
  | int z => exact w_op w_var w_var rfl
  | _ => cases h
theorem e_need (b : Bool) (w : Str) : v_need C [.bool b, .str w] = if b = true then okD .none else xc C w := by
  cases b <;> rfl
theorem ok_need (w : Str) : v_need C [.bool true, .str w] = okD .none := rfl
theorem all_true {α : Type} (l : List α) : (l.all fun _ => true) = true := List.all_eq_true.mpr fun _ _ => rfl
theorem e_is_ascending (xs : List PyData) (f : Nat → Bool) (hl : xs.length ≤ 100000) (h : ∀ (k : Nat) (a b : PyData), xs[k]? = some a → xs[k + 1]? = some b → oLtS (.d a) (.d b) = some (.d (.bool (f k)))) : v_is_ascending C [.tuple xs] = okB ((List.range (xs.length - 1)).all f) := by
  have hz := in62 (j := (xs.length : Int)) (by omega) (by omega)
  refine run_ret (w_cb (w_cons (w_lc (List.range (xs.length - 1)) (fun k : Nat => .int (1 + (k : Int))) (fun k : Nat => .bool (f k)) ?_ (by rw [List.length_range]; omega) fun k hk => ⟨[some (.d (.tuple xs)), some (.d (.int (1 + (k : Int))))], rfl, ?_⟩) w_nil) (v_all f _))
  · have := rng_ok2 (γ := Unit) (ρ := [some (.d (.tuple xs)), none]) (g := ()) (g1 := ()) 1 (xs.length : Int) ⟨by decide, by decide, hz.1, hz.2⟩ (Φ := (aCons (fC (.int 1)) (aCons (fCB bLen (aCons (fVar 0) aNil)) aNil))) (w_cons w_c (w_cons (w_cb (w_cons w_var w_nil) rfl) w_nil))
    rw [show ((xs.length : Int) - 1).toNat = xs.length - 1 by omega] at this
    exact this
  · have hk := List.mem_range.mp hk
    obtain ⟨a, ea⟩ : ∃ a, xs[k]? = some a := ⟨xs[k]'(by omega), List.getElem?_eq_getElem (by omega)⟩
    obtain ⟨b, eb⟩ : ∃ b, xs[k + 1]? = some b := ⟨xs[k + 1]'(by omega), List.getElem?_eq_getElem (by omega)⟩
    refine w_op (w_op w_var (w_op w_var w_c rfl) (z := .d a) ?_) (w_op w_var w_var (z := .d b) ?_) (h k a b ea eb)
    · show (atI xs (1 + (k : Int) - 1)).map SV.d = _
      rw [show (1 : Int) + (k : Int) - 1 = (k : Int) by omega, atI_nat ea]
      rfl
    · show (atI xs (1 + (k : Int))).map SV.d = _
      rw [show (1 : Int) + (k : Int) = ((k + 1 : Nat) : Int) by omega, atI_nat eb]
      rfl
theorem flat_ints : ∀ ys : List Int, flatAll (ys.map PyData.int) = some (ys.map V.int)
  | [] => rfl
  | y :: r => by
    show (flatD (.int y)).bind (fun v => (flatAll (r.map PyData.int)).map (v :: ·)) = _
    rw [flat_ints r]
    rfl
theorem inV_ints (x : Int) : ∀ ys : List Int, inV (V.int x) (ys.map V.int) = decide (x ∈ ys)
  | [] => rfl
  | y :: r => by
    have ih := inV_ints x r
    show (eqV (V.int y) (V.int x) || inV (V.int x) (r.map V.int)) = _
    rw [ih]
    have e : eqV (V.int y) (V.int x) = decide (x = y) := by
      show (y == x) = _
      rw [Bool.eq_iff_iff, beq_iff_eq, decide_eq_true_iff]
      exact ⟨Eq.symm, Eq.symm⟩
    rw [e, Bool.eq_iff_iff, Bool.or_eq_true, decide_eq_true_iff, decide_eq_true_iff, decide_eq_true_iff, List.mem_cons]
theorem o_inB (x : Int) (ys : List Int) : oInB false (.d (.int x)) (.d (tupD ys)) = some (.d (.bool (decide (x ∈ ys)))) := by
  show (some (V.int x)).bind (fun v => (flatAll (ys.map PyData.int)).map fun vs => SV.d (.bool (if false = true then !inV v vs else inV v vs))) = _
  rw [flat_ints]
  show some (SV.d (.bool (inV (V.int x) (ys.map V.int)))) = _
  rw [inV_ints]
theorem o_ninB (x : Int) (ys : List Int) : oInB true (.d (.int x)) (.d (tupD ys)) = some (.d (.bool (!decide (x ∈ ys)))) := by
  show (some (V.int x)).bind (fun v => (flatAll (ys.map PyData.int)).map fun vs => SV.d (.bool (if true = true then !inV v vs else inV v vs))) = _
  rw [flat_ints]
  show some (SV.d (.bool (!inV (V.int x) (ys.map V.int)))) = _
  rw [inV_ints]
theorem oInX_of {neg : Bool} {x y z : SV} (h : oInB neg x y = some z) : oInX neg x y = some z := by
  unfold oInX
  rw [h]
theorem o_in (x : Int) (ys : List Int) : oInX false (.d (.int x)) (.d (tupD ys)) = some (.d (.bool (decide (x ∈ ys)))) := oInX_of (o_inB x ys)
theorem o_nin (x : Int) (ys : List Int) : oInX true (.d (.int x)) (.d (tupD ys)) = some (.d (.bool (!decide (x ∈ ys)))) := oInX_of (o_ninB x ys)
theorem e_is_within (xs ys : List Int) (hl : xs.length ≤ 100000) : v_is_within C [tupD xs, tupD ys] = okB (inB xs ys) :=
  run_ret (w_cb (w_cons (w_lc xs PyData.int (fun x => .bool (decide (x ∈ ys))) (w_any w_var) hl fun x hx => ⟨[some (.d (tupD xs)), some (.d (tupD ys)), some (.d (.int x))], rfl, w_op w_var w_var (o_in x ys)⟩) w_nil) (v_all _ _))
theorem e_is_below (xs ys : List Int) (hl : xs.length ≤ 100000) : v_is_below C [tupD xs, tupD ys] = okB (belowB xs ys) := by
  refine run_ret (w_and (p := decide (xs.length < ys.length)) (w_op (w_cb (w_cons w_var w_nil) rfl) (w_cb (w_cons w_var w_nil) rfl) ?_) fun _ => w_call (w_cons w_var (w_cons w_var w_nil)) rfl rfl (e_is_within xs ys hl))
  show some (SV.d (.bool (decide (((xs.map PyData.int).length : Int) < ((ys.map PyData.int).length : Int))))) = _
  rw [List.length_map, List.length_map]
  congr 4
  exact propext ⟨fun h => by omega, fun h => by omega⟩
/-- the houses of a lot stand in their order -/
theorem lot_asc (n m : Nat) : (lot n m).Pairwise (· < ·) := by
  unfold lot
  rw [List.pairwise_map]
  refine (List.Pairwise.filter _ List.pairwise_lt_range).imp fun {a b} h => by omega
theorem right_lot_any {n : Nat} {xs : List Int} (hx : ∀ x ∈ xs, 0 ≤ x ∧ x < n) (asc : xs.Pairwise (· < ·)) (hl : xs.length ≤ 1000) : v_right_lot C [nD n, tupD xs] = okB true := by
  have hall : (fCB bAll (aCons (fLc [2] (iAny (fVar 1)) (asgN 2) fYes (fCall 2 (v_is_index C) (aCons (fVar 0) (aCons (fVar 2) aNil)))) aNil) : Fn Unit) (env0 [("many" : Str), ("thing" : Str), ("house" : Str)] [nD n, tupD xs]) () = .ok (.d (.bool true)) () := by
    have e : xs.all (fun x => inR (n : Int) (.int x)) = true := by
      rw [List.all_eq_true]
      intro x h
      obtain ⟨a, b⟩ := hx x h
      show (decide (0 ≤ x) && decide (x < (n : Int))) = true
      rw [decide_eq_true a, decide_eq_true b]; rfl
    rw [← e]
    exact w_cb (w_cons (w_lc xs PyData.int (fun x => .bool (inR n (.int x))) (w_any w_var) (by omega) fun x hx => ⟨[some (.d (nD n)), some (.d (tupD xs)), some (.d (.int x))], rfl, w_call (w_cons w_var (w_cons w_var w_nil)) rfl rfl (e_is_index n (.int x))⟩) w_nil) (v_all _ _)
  refine run_body (Eq.trans (u_seq (Eq.trans (u_ifF (w_or (p := false) (q := false) (w_not (w_isi w_var rfl (isi_tt _))) fun _ => w_not hall)) u_nil)) ?_)
  have ea : v_is_ascending C [tupD xs] = okB true := by
    have := e_is_ascending (C := C) (xs.map PyData.int) (fun _ => true) (by rw [List.length_map]; omega) fun k a b ea eb => ?_
    · exact this.trans (by rw [all_true])
    · rw [List.getElem?_map] at ea eb
      cases ha : xs[k]? with
      | none => rw [ha] at ea; cases ea
      | some x =>
        cases hb : xs[k + 1]? with
        | none => rw [hb] at eb; cases eb
        | some y =>
          rw [ha] at ea
          rw [hb] at eb
          cases ea
          cases eb
          have lt : x < y := by
            have h1 := (List.getElem?_eq_some_iff.mp ha)
            have h2 := (List.getElem?_eq_some_iff.mp hb)
            obtain ⟨p1, q1⟩ := h1
            obtain ⟨p2, q2⟩ := h2
            rw [← q1, ← q2]
            exact List.pairwise_iff_getElem.mp asc k (k + 1) p1 p2 (Nat.lt_succ_self k)
          show some (SV.d (.bool (decide (x < y)))) = _
          rw [decide_eq_true lt]
  exact u_ret (w_call (w_cons w_var w_nil) rfl rfl ea)
theorem e_right_lot {n m : Nat} (hn : n ≤ 6) : v_right_lot C [nD n, lD n m] = okB true := by
  refine right_lot_any (fun x hx => ?_) (lot_asc n m) (Nat.le_trans lot_len (by omega))
  obtain ⟨i, h1, _, rfl⟩ := mem_lot.mp hx
  exact ⟨by omega, by omega⟩
/-! ### fears -/
/-- lots that are good fears -/
structure Fe (n : Nat) (M : List Nat) : Prop where
  lt : ∀ m ∈ M, m < 2 ^ n
  nd : M.Nodup
  ne : M ≠ []
  anti : ∀ a ∈ M, ∀ b ∈ M, wt a b = true → a = b
theorem nodup_len : ∀ {M l : List Nat}, M.Nodup → (∀ x ∈ M, x ∈ l) → M.length ≤ l.length
  | [], _, _, _ => Nat.zero_le _
  | x :: M, l, nd, h => by
    obtain ⟨h1, h2⟩ := List.nodup_cons.mp nd
    have hx := h x List.mem_cons_self
    have z := nodup_len (l := l.erase x) h2 fun y hy => (List.mem_erase_of_ne (fun (e : y = x) => h1 (by rw [← e]; exact hy))).mpr (h y (List.mem_cons_of_mem _ hy))
    rw [List.length_erase_of_mem hx] at z
    have := List.length_pos_of_mem hx
    rw [List.length_cons]
    omega
theorem len_pow {n : Nat} (hn : n ≤ 6) {M : List Nat} (lt : ∀ m ∈ M, m < 2 ^ n) (nd : M.Nodup) : M.length ≤ 64 := by
  have h : M.length ≤ (List.range (2 ^ n)).length := nodup_len nd fun m hm => List.mem_range.mpr (lt m hm)
  rw [List.length_range] at h
  exact Nat.le_trans h (pow_le hn)
theorem fe_len {n : Nat} (hn : n ≤ 6) {M : List Nat} (f : Fe n M) : M.length ≤ 64 := len_pow hn f.lt f.nd
theorem fe_tops {n : Nat} (hn : n ≤ 6) {E : Nat → Bool} (d : Dc n E) (h0 : E 0 = true) : Fe n (tops n E) := by
  refine ⟨fun m hm => tops_lt hm, tops_nodup n E, fun z => ?_, fun a ha b hb hw => top_is hn d ha (tops_lt hb) (tops_in hb) hw⟩
  obtain ⟨t, t1, _⟩ := top_above hn (2 ^ n) 0 (Nat.sub_le _ _) (Nat.two_pow_pos n) h0
  rw [z] at t1
  cases t1
theorem lt_of_le_ne {a b : List Int} (h : LeL a b) (ne : a ≠ b) : HT.lexLt a b = true := by
  cases q : HT.lexLt a b with
  | true => rfl
  | false => exact absurd (lex_anti a b q h) ne
theorem e_right_fears {n : Nat} (hn : n ≤ 6) {M : List Nat} (f : Fe n M) : v_right_fears C [nD n, lsD n M] = okB true := by
  have len : (lots n M).length ≤ 64 := by rw [lots_len]; exact fe_len hn f
  have lml : ((lots n M).map tupD).length = M.length := by rw [List.length_map, lots_len]
  have pos : M.length ≠ 0 := fun z => f.ne (List.eq_nil_of_length_eq_zero z)
  have e1 : (fOr (fNot (fIsi "tuple" (fVar 1))) (fOp oEqS (fCB bLen (aCons (fVar 1) aNil)) (fC (.int 0))) : Fn Unit) (env0 [("many" : Str), ("thing" : Str), ("lot" : Str), ("other" : Str)] [nD n, lsD n M]) () = .ok (.d (.bool false)) () := by
    refine w_or (p := false) (q := false) (w_not (w_isi w_var rfl (isi_tt _))) fun _ => w_op (w_cb (w_cons w_var w_nil) rfl) w_c ?_
    show some (SV.d (.bool ((((lots n M).map tupD).length : Int) == 0))) = _
    rw [lml]
    congr 4
    rw [beq_eq_false_iff_ne]
    omega
  have e2 : v_is_ascending C [lsD n M] = okB true := by
    have := e_is_ascending (C := C) ((lots n M).map tupD) (fun _ => true) (by rw [List.length_map]; omega) fun k a b ea eb => ?_
    · exact this.trans (by rw [all_true])
    · rw [List.getElem?_map] at ea eb
      cases ha : (lots n M)[k]? with
      | none => rw [ha] at ea; cases ea
      | some x =>
        cases hb : (lots n M)[k + 1]? with
        | none => rw [hb] at eb; cases eb
        | some y =>
          rw [ha] at ea
          rw [hb] at eb
          cases ea
          cases eb
          obtain ⟨p1, q1⟩ := List.getElem?_eq_some_iff.mp ha
          obtain ⟨p2, q2⟩ := List.getElem?_eq_some_iff.mp hb
          have le : LeL x y := by
            rw [← q1, ← q2]
            exact List.pairwise_iff_getElem.mp (lots_sorted n M) k (k + 1) p1 p2 (Nat.lt_succ_self k)
          have ne : x ≠ y := by
            rw [← q1, ← q2]
            exact List.pairwise_iff_getElem.mp (lots_nodup f.lt f.nd) k (k + 1) p1 p2 (Nat.lt_succ_self k)
          show (intsD (x.map PyData.int)).bind (fun ns => (intsD (y.map PyData.int)).map fun ms => SV.d (.bool (HT.lexLt ns ms))) = _
          rw [intsD_map, intsD_map]
          show some (SV.d (.bool (HT.lexLt x y))) = _
          rw [lt_of_le_ne le ne]
  have e3 : (fCB bAll (aCons (fLc [2] (iAny (fVar 1)) (asgN 2) fYes (fCall 2 (v_right_lot C) (aCons (fVar 0) (aCons (fVar 2) aNil)))) aNil) : Fn Unit) (env0 [("many" : Str), ("thing" : Str), ("lot" : Str), ("other" : Str)] [nD n, lsD n M]) () = .ok (.d (.bool true)) () := by
    have e : (lots n M).all (fun _ => true) = true := all_true _
    rw [← e]
    refine w_cb (w_cons (w_lc (lots n M) tupD (fun _ => .bool true) (w_any w_var) (by omega) fun x hx => ⟨[some (.d (nD n)), some (.d (lsD n M)), some (.d (tupD x)), none], rfl, ?_⟩) w_nil) (v_all (fun _ => true) _)
    obtain ⟨m, _, rfl⟩ := mem_lots.mp hx
    exact w_call (w_cons w_var (w_cons w_var w_nil)) rfl rfl (e_right_lot hn)
  have e4 : ((lots n M).any fun x => (lots n M).any (belowB x)) = false := by
    refine List.any_eq_false.mpr fun x hx z => ?_
    obtain ⟨y, hy, h⟩ := List.any_eq_true.mp z
    obtain ⟨a, ha, rfl⟩ := mem_lots.mp hx
    obtain ⟨b, hb, rfl⟩ := mem_lots.mp hy
    rw [below_lot (f.lt a ha) (f.lt b hb), Bool.and_eq_true] at h
    exact of_decide_eq_true h.2 (f.anti a ha b hb h.1)
  refine run_body (Eq.trans (u_seq (Eq.trans (u_ifF e1) u_nil)) ?_)
  refine Eq.trans (u_seq (Eq.trans (u_ifF (w_or (p := false) (q := false) (w_not e3) fun _ => w_not (w_call (w_cons w_var w_nil) rfl rfl e2))) u_nil)) ?_
  have short : ((lots n M).flatMap fun x => (lots n M).map fun y => PyData.bool (belowB x y)).length ≤ 100000 := by
    rw [List.length_flatMap]
    have : ∀ l : List (List Int), (l.map fun x => ((lots n M).map fun y => PyData.bool (belowB x y)).length).sum = l.length * (lots n M).length := fun l => by
      induction l with
      | nil => simp
      | cons x r ih =>
        rw [List.map_cons, List.sum_cons, ih, List.length_map, List.length_cons, Nat.succ_mul]
        omega
    rw [this]
    exact Nat.le_trans (Nat.mul_le_mul len len) (by decide)
  have e5 := w_cb (γ := Unit) (ρ := env0 [("many" : Str), ("thing" : Str), ("lot" : Str), ("other" : Str)] [nD n, lsD n M]) (g := ()) (g1 := ()) (FC := bAny) (w_cons (w_lc2 (own := [2, 3]) (own1 := [3]) (Ι := iAny (fVar 1)) (Ι1 := iAny (fVar 1)) (asg := asgN 2) (asg1 := asgN 3) (elt := fCall 2 (v_is_below C) (aCons (fVar 2) (aCons (fVar 3) aNil))) (lots n M) (lots n M) tupD tupD (fun x y => .bool (belowB x y)) (w_any w_var) short fun x hx => ⟨[some (.d (nD n)), some (.d (lsD n M)), some (.d (tupD x)), none], rfl, w_any w_var, fun y hy =>
    ⟨[some (.d (nD n)), some (.d (lsD n M)), some (.d (tupD x)), some (.d (tupD y))], rfl, w_call (w_cons w_var (w_cons w_var w_nil)) rfl rfl (e_is_below x y ?_)⟩⟩) w_nil) (v_any2 belowB (lots n M) (lots n M))
  · rw [e4] at e5
    exact u_ret (w_not e5)
  · obtain ⟨m, _, rfl⟩ := mem_lots.mp hx
    exact Nat.le_trans lot_len (by omega)
/-! ### needs -/
theorem run_next {N : List Str} {ψ : SFn Unit} {ds : List PyData} {ρ' : Dn.Env} (h : ψ (env0 N ds) () = .next ρ' ()) : runP N ψ ds = .ok (.d .none) () := congrArg SOut.fin h
theorem e_need_many {n : Nat} (h : 1 ≤ n) : v_need_many C [nD n] = okD .none := by
  refine run_drop (y := .d .none) (w_call (w_cons (w_call (w_cons w_var w_nil) rfl rfl (e_is_many (nD n))) (w_cons w_c w_nil)) rfl rfl ?_)
  show v_need C [.bool (decide ((1 : Int) ≤ (n : Int))), .str "many"] = _
  rw [decide_eq_true (by omega)]
  exact ok_need _
theorem e_need_fears {n : Nat} (h : 1 ≤ n) (hn : n ≤ 6) {M : List Nat} (f : Fe n M) : v_need_fears C [nD n, lsD n M] = okD .none := by
  exact run_next (Eq.trans (u_seq (u_drop (w_call (w_cons w_var w_nil) rfl rfl (e_need_many h)))) (u_drop (w_call (w_cons (w_call (w_cons w_var (w_cons w_var w_nil)) rfl rfl (e_right_fears hn f)) (w_cons w_c w_nil)) rfl rfl (ok_need "fears"))))
theorem e_need_lot {n m : Nat} (hn : n ≤ 6) : v_need_lot C [nD n, lD n m] = okD .none :=
  run_drop (w_call (w_cons (w_call (w_cons w_var (w_cons w_var w_nil)) rfl rfl (e_right_lot hn)) (w_cons w_c w_nil)) rfl rfl (ok_need "lot"))
end K3

set_option Elab.async false
set_option linter.all false
set_option autoImplicit false
set_option maxRecDepth 100000
set_option maxHeartbeats 1000000
namespace K3
open PySem PySem.Spec PyProof.Rows L2 Dn
variable {C : Addr}
theorem e_rest_of {n m : Nat} (hn : n ≤ 6) (hm : m < 2 ^ n) : v_rest_of C [nD n, lD n m] = okD (lD n (2 ^ n - (m + 1))) := by
  have e : lot n (2 ^ n - (m + 1)) = ((List.range n).filter fun k : Nat => !decide ((k : Int) ∈ lot n m)).map fun k : Nat => (k : Int) := by
    unfold lot
    rw [show ((List.range n).filter fun i => (2 ^ n - (m + 1)).testBit i) = (List.range n).filter fun k : Nat => !decide ((k : Int) ∈ lot n m) from List.filter_congr fun k hk => by
      have hk := List.mem_range.mp hk
      rw [Nat.testBit_two_pow_sub_succ hm, decide_eq_true hk, Bool.true_and]
      congr 1
      rw [Bool.eq_iff_iff, decide_eq_true_iff, bit_mem]
      exact ⟨fun h => ⟨hk, h⟩, fun h => h.2⟩]
    rfl
  have e' : lD n (2 ^ n - (m + 1)) = tupD (((List.range n).filter fun k : Nat => !decide ((k : Int) ∈ lot n m)).map fun k : Nat => (k : Int)) := congrArg tupD e
  rw [e']
  refine run_ret (w_cb (w_cons (w_lcf (List.range n) (fun k : Nat => .int (k : Int)) (fun k : Nat => .int (k : Int)) (fun k : Nat => !decide ((k : Int) ∈ lot n m)) (w_rng1 (w_cons w_var w_nil) (by omega)) (by rw [List.length_range]; omega) fun k hk => ⟨[some (.d (nD n)), some (.d (lD n m)), some (.d (.int (k : Int)))], rfl, w_op w_var w_var (o_nin _ _), fun _ => w_var⟩) w_nil) ?_)
  show _ = some (SV.d (.tuple ((((List.range n).filter fun k : Nat => !decide ((k : Int) ∈ lot n m)).map fun k : Nat => (k : Int)).map PyData.int)))
  rw [List.map_map]
  rfl
theorem lot_len1000 {n m : Nat} (hn : n ≤ 6) : (lot n m).length ≤ 1000 := Nat.le_trans lot_len (by omega)
theorem e_every_lot : ∀ n, 1 ≤ n → n ≤ 6 → v_every_lot C [nD n] = okD (lsD n (List.range (2 ^ n)))
  | 0, h, _ => absurd h (by decide)
  | 1, _, _ => by kernel_rfl
  | 2, _, _ => by kernel_rfl
  | 3, _, _ => by kernel_rfl
  | 4, _, _ => by kernel_rfl
  | 5, _, _ => by kernel_rfl
  | 6, _, _ => by kernel_rfl
  | _ + 7, _, h => absurd h (by omega)
theorem e_feared_by {n : Nat} (M : List Nat) (x : List Int) (hx : x.length ≤ 1000) (hl : M.length ≤ 1000) : v_feared_by C [lsD n M, tupD x] = okB ((lots n M).any fun f => inB x f) :=
  run_ret (w_cb (w_cons (w_lc (lots n M) tupD (fun f => .bool (inB x f)) (w_any w_var) (by rw [lots_len]; omega) fun f hf => ⟨[some (.d (lsD n M)), some (.d (tupD x)), some (.d (tupD f))], rfl, w_call (w_cons w_var (w_cons w_var w_nil)) rfl rfl (e_is_within x f (by omega))⟩) w_nil) (v_any _ _))
/-- fears, and what is feared -/
structure Fr (n : Nat) (E : Nat → Bool) (M : List Nat) : Prop where
  h1 : 1 ≤ n
  hn : n ≤ 6
  fe : Fe n M
  gen : Gen n E M
theorem Fr.len {n : Nat} {E : Nat → Bool} {M : List Nat} (f : Fr n E M) : M.length ≤ 64 := fe_len f.hn f.fe
theorem Fr.zero {n : Nat} {E : Nat → Bool} {M : List Nat} (f : Fr n E M) : E 0 = true := by
  refine (f.gen.2 0 (Nat.two_pow_pos n)).mpr ?_
  cases hM : M with
  | nil => exact absurd hM f.fe.ne
  | cons m r => exact ⟨m, List.mem_cons_self, wt_iff.mpr fun i hi => by rw [Nat.zero_testBit] at hi; cases hi⟩
theorem e_feared_mark {n m : Nat} {E : Nat → Bool} {M : List Nat} (f : Fr n E M) (hm : m < 2 ^ n) : v_feared_by C [lsD n M, lD n m] = okB (E m) := by
  rw [e_feared_by M (lot n m) (lot_len1000 f.hn) (by have := f.len; omega), any_lots hm, any_gen f.gen hm]
abbrev allF (n : Nat) (E : Nat → Bool) : List Nat := (List.range (2 ^ n)).filter E
theorem range_len {n : Nat} (hn : n ≤ 6) : (List.range (2 ^ n)).length ≤ 64 := by rw [List.length_range]; exact pow_le hn
theorem allF_len {n : Nat} (hn : n ≤ 6) (E : Nat → Bool) : (allF n E).length ≤ 64 := Nat.le_trans (List.length_filter_le _ _) (range_len hn)
theorem dc_gen {n : Nat} {E : Nat → Bool} (d : Dc n E) : Gen n E (allF n E) := ⟨fun m hm => List.mem_range.mp (List.mem_filter.mp hm).1, fun x hx => ⟨fun he => ⟨x, List.mem_filter.mpr ⟨List.mem_range.mpr hx, he⟩, wt_refl x⟩, fun ⟨y, hy, hw⟩ => by
    obtain ⟨h1, h2⟩ := List.mem_filter.mp hy
    exact d x y hx (List.mem_range.mp h1) hw h2⟩⟩
theorem lot_ne {n m : Nat} (hm : m < 2 ^ n) (hp : m ≠ 0) : lot n m ≠ [] := fun z => by
  refine hp (lot_inj hm (Nat.two_pow_pos n) ?_)
  rw [z]
  symm
  unfold lot
  rw [List.map_eq_nil_iff, List.filter_eq_nil_iff]
  intro i _ h
  rw [Nat.zero_testBit] at h
  cases h
abbrev fewE (n few : Nat) : Nat → Bool := fun m => decide ((lot n m).length = few)
theorem o_lenEq (n few : Nat) (x : List Int) : oEqS (.d (.int ((x.map PyData.int).length : Int))) (.d (nD few)) = some (.d (.bool (decide (x.length = few)))) := by
  rw [List.length_map]
  show some (SV.d (.bool ((x.length : Int) == (few : Int)))) = _
  congr 4
  rw [Bool.eq_iff_iff, beq_iff_eq, decide_eq_true_iff]
  omega
theorem e_few_fears {n few : Nat} (h : 1 ≤ n) (hn : n ≤ 6) (hf : few ≤ n) : v_few_fears C [nD n, nD few] = okD (lsD n (allF n (fewE n few))) := by
  have ef := filter_lots (n := n) (fun x => decide (x.length = few)) (fewE n few) fun m _ => rfl
  have e : v_lots_of_few C [nD n, nD few] = okD (lsD n (allF n (fewE n few))) := by
    refine run_ret (w_cb (w_cons (w_lcf (own := [2]) (asg := asgN 2) (lots n (List.range (2 ^ n))) tupD tupD (fun x => decide (x.length = few)) (w_any (w_frzD (w_call (w_cons w_var w_nil) rfl rfl (e_every_lot n h hn)))) (by rw [lots_len]; have := range_len hn; omega) fun x hx => ⟨[some (.d (nD n)), some (.d (nD few)), some (.d (tupD x))], rfl, w_op (w_cb (w_cons w_var w_nil) rfl) w_var (o_lenEq n few x), fun _ => w_var⟩) w_nil) ?_)
    rw [ef]
    rfl
  refine run_body ?_
  refine Eq.trans (u_seq (u_drop (w_call (w_cons w_var w_nil) rfl rfl (e_need_many h)))) ?_
  refine Eq.trans (u_seq (u_drop (w_call (w_cons (w_and (p := true) (q := true) (w_call (w_cons w_var w_nil) rfl rfl ?_) fun _ => w_op w_var w_var ?_) (w_cons w_c w_nil)) rfl rfl (ok_need "few")))) ?_
  · rw [e_is_number]
    show okB (decide ((0 : Int) ≤ (few : Int))) = _
    rw [decide_eq_true (by omega)]
  · show some (SV.d (.bool (decide ((few : Int) ≤ (n : Int))))) = _
    rw [decide_eq_true (by omega)]
  · exact u_ret (w_call (w_cons w_var (w_cons w_var w_nil)) rfl rfl e)
end K3

set_option Elab.async false
set_option linter.all false
set_option autoImplicit false
set_option maxRecDepth 100000
set_option maxHeartbeats 1000000
namespace K3
open PySem PySem.Spec PyProof.Rows L2 Dn
variable {C : Addr}
theorem loop_rng {γ : Type} {asg : Asg} {body : SFn γ} (n : Nat) (R : Nat → Dn.Env → γ → Prop) (hs : ∀ i ρ g, i < n → R i ρ g → ∃ ρ1 ρ2 g2, asg (.int (i : Int)) ρ = some ρ1 ∧ body ρ1 g = .next ρ2 g2 ∧ R (i + 1) ρ2 g2) (ρ : Dn.Env) (g : γ) (h0 : R 0 ρ g) :
    ∃ ρ' g', loopD asg body ((List.range n).map fun k : Nat => PyData.int (k : Int)) ρ g = .next ρ' g' ∧ R n ρ' g' := by
  have key := loop_invM (γ := γ) (asg := asg) (body := body) (fun k : Nat => PyData.int (k : Int)) (fun rest ρ g => ∃ i, i ≤ n ∧ rest = (List.range n).drop i ∧ R i ρ g) (fun y rest ρ g h => ?_) (List.range n) ρ g ⟨0, Nat.zero_le _, rfl, h0⟩
  · obtain ⟨ρ', g', e, i, hi, hd, hr⟩ := key
    have : i = n := by
      have z := congrArg List.length hd
      rw [List.length_drop, List.length_range] at z
      simp at z
      omega
    subst this
    exact ⟨ρ', g', e, hr⟩
  · obtain ⟨i, hi, hd, hr⟩ := h
    have lt : i < n := by
      have z := congrArg List.length hd
      rw [List.length_drop, List.length_range] at z
      simp at z
      omega
    rw [List.drop_eq_getElem_cons (by rw [List.length_range]; exact lt), List.getElem_range] at hd
    obtain ⟨e1, e2⟩ := List.cons.inj hd
    subst e1
    obtain ⟨ρ1, ρ2, g2, q1, q2, q3⟩ := hs y ρ g lt hr
    exact ⟨ρ1, ρ2, g2, q1, q2, y + 1, lt, e2, q3⟩
theorem o_eqI (a b : Int) : oEqS (.d (.int a)) (.d (.int b)) = some (.d (.bool (decide (a = b)))) := by
  show some (SV.d (.bool (a == b))) = _
  rfl
theorem o_gt0 (a : Nat) : oGt (.d (.int (a : Int))) (.d (.int 0)) = some (.d (.bool (decide (0 < a)))) := by
  show some (SV.d (.bool (decide ((0 : Int) < (a : Int))))) = _
  rw [show decide ((0 : Int) < (a : Int)) = decide (0 < a) from decide_eq_decide.mpr (by omega)]
theorem o_div2 (a : Nat) : oDiv (.d (.int (a : Int))) (.d (.int 2)) = some (.d (.int ((a / 2 : Nat) : Int))) := by
  have hc : (2 : Int) ≠ 0 ∧ (2 : Int).natAbs.log2 < 9000 := by decide +kernel
  show (if (2 : Int) ≠ 0 ∧ (2 : Int).natAbs.log2 < 9000 then some (PyData.int ((a : Int).fdiv 2)) else none).map SV.d = _
  rw [if_pos hc]
  show some (SV.d (.int ((a : Int).fdiv 2))) = _
  rw [Int.fdiv_eq_ediv_of_nonneg _ (by decide)]
  rfl
theorem o_and (a b : Nat) : oAnd (.d (nD a)) (.d (nD b)) = some (.d (nD (a &&& b))) := by
  show some (SV.d (.int (Builtin.bitAnd (a : Int) (b : Int)))) = _
  have : Builtin.bitAnd (a : Int) (b : Int) = ((a &&& b : Nat) : Int) := by
    unfold Builtin.bitAnd
    rw [decide_eq_true (show (0 : Int) ≤ (a : Int) by omega), decide_eq_true (show (0 : Int) ≤ (b : Int) by omega)]
    rfl
  rw [this]
theorem one_eq (b : Bool) : decide ((if b = true then (1 : Int) else 0) = 1) = b := by cases b <;> rfl
abbrev msD (M : List Nat) : PyData := .list (M.map fun k : Nat => nD k)
theorem o_or (a b : Nat) : oOr (.d (nD a)) (.d (nD b)) = some (.d (nD (a ||| b))) := by
  show some (SV.d (.int (Builtin.bitOr (a : Int) (b : Int)))) = _
  have nn : ∀ x : Int, Builtin.bitNot (Builtin.bitNot x) = x := fun x => by unfold Builtin.bitNot; omega
  have ng : ∀ x : Nat, decide ((0 : Int) ≤ Builtin.bitNot (x : Int)) = false := fun x => decide_eq_false (by unfold Builtin.bitNot; omega)
  have : Builtin.bitOr (a : Int) (b : Int) = ((a ||| b : Nat) : Int) := by
    unfold Builtin.bitOr Builtin.bitAnd
    rw [ng a, ng b]
    show Builtin.bitNot (Builtin.bitNot (((Builtin.bitNot (Builtin.bitNot (a : Int))).toNat ||| (Builtin.bitNot (Builtin.bitNot (b : Int))).toNat : Nat) : Int)) = _
    rw [nn, nn, nn]
    rfl
  rw [this]
theorem o_eqN (a b : Nat) : oEqS (.d (nD a)) (.d (nD b)) = some (.d (.bool (decide (a = b)))) := by
  rw [show decide (a = b) = decide ((a : Int) = (b : Int)) from decide_eq_decide.mpr (by omega)]
  exact o_eqI _ _
theorem o_neN (a b : Nat) : oNeS (.d (nD a)) (.d (nD b)) = some (.d (.bool (!decide (a = b)))) := by
  show some (SV.d (.bool (!((a : Int) == (b : Int))))) = _
  rw [show ((a : Int) == (b : Int)) = decide (a = b) from by rw [Bool.eq_iff_iff, beq_iff_eq, decide_eq_true_iff]; omega]
theorem o_neI (a b : Int) : oNeS (.d (.int a)) (.d (.int b)) = some (.d (.bool (!decide (a = b)))) := by
  show some (SV.d (.bool (!(a == b)))) = _
  rw [show (a == b) = decide (a = b) from by rw [Bool.eq_iff_iff, beq_iff_eq, decide_eq_true_iff]]
theorem o_addN (a b : Nat) : oAdd (.d (nD a)) (.d (nD b)) = some (.d (nD (a + b))) := rfl
/-- a bit, as a number -/
abbrev bt (m h : Nat) : Int := if m.testBit h = true then 1 else 0
theorem e_has {m h : Nat} (hh : h ≤ 1000) : v__law_has C [nD m, nD h] = okD (.int (bt m h)) := by
  have key := loop_rng (γ := Unit) (asg := asgN 2) (body := sAsg 0 (fOp oDiv (fVar 0) (fC (.int 2)))) h (fun i ρ _ => ∃ t : Option SV, ρ = [some (.d (nD (m / 2 ^ i))), some (.d (nD h)), t]) ?_ [some (.d (nD m)), some (.d (nD h)), none] () ⟨none, by rw [Nat.pow_zero, Nat.div_one]⟩
  · obtain ⟨ρ', g', e, t, rfl⟩ := key
    refine run_body (Eq.trans (u_seq (Eq.trans (u_for (w_rng1 (w_cons w_var w_nil) (by omega))) e)) ?_)
    refine u_ret (w_op (w_cb (w_cons w_var w_nil) rfl) w_c (z := .d (.int (bt m h))) ?_)
    show some (SV.d (.int (((m / 2 ^ h : Nat) : Int) % 2))) = _
    have : ((m / 2 ^ h : Nat) : Int) % 2 = bt m h := by
      unfold bt
      rw [Nat.testBit_eq_decide_div_mod_eq]
      by_cases c : m / 2 ^ h % 2 = 1
      · rw [decide_eq_true c, if_pos rfl]; omega
      · rw [decide_eq_false c, if_neg (by decide)]; omega
    rw [this]
  · rintro i ρ g hi ⟨t, rfl⟩
    have hd : oDiv (.d (nD (m / 2 ^ i))) (.d (.int 2)) = some (.d (nD (m / 2 ^ (i + 1)))) := by
      rw [o_div2, Nat.div_div_eq_div_mul, Nat.pow_succ]
    exact ⟨_, _, (), rfl, u_set (w_op w_var w_c hd), some (.d (nD i)), rfl⟩
theorem e_lot_of {n m : Nat} (hn : n ≤ 6) : v__law_lot_of C [nD n, nD m] = okD (lD n m) := by
  refine run_ret (w_cb (w_cons (w_lcf (List.range n) (fun k : Nat => .int (k : Int)) (fun k : Nat => .int (k : Int)) (fun k : Nat => m.testBit k) (w_rng1 (w_cons w_var w_nil) (by omega)) (by rw [List.length_range]; omega) fun k hk => ⟨[some (.d (nD n)), some (.d (nD m)), some (.d (nD k))], rfl, ?_, fun _ => w_var⟩) w_nil) ?_)
  · have hk := List.mem_range.mp hk
    rw [← one_eq (m.testBit k)]
    exact w_op (w_call (w_cons w_var (w_cons w_var w_nil)) rfl rfl (e_has (by omega))) w_c (o_eqI _ _)
  · show _ = some (SV.d (.tuple ((((List.range n).filter fun k => m.testBit k).map fun k : Nat => (k : Int)).map PyData.int)))
    rw [List.map_map]
    rfl
theorem e_full : ∀ n, n ≤ 6 → v__law_full C [nD n] = okD (nD (2 ^ n - 1))
  | 0, _ => by kernel_rfl
  | 1, _ => by kernel_rfl
  | 2, _ => by kernel_rfl
  | 3, _ => by kernel_rfl
  | 4, _ => by kernel_rfl
  | 5, _ => by kernel_rfl
  | 6, _ => by kernel_rfl
  | _ + 7, h => absurd h (by omega)
theorem sum_bits (m : Nat) : ∀ l : List Nat, (l.map (bt m)).sum = ((l.filter fun k => m.testBit k).length : Int)
  | [] => rfl
  | k :: r => by
    rw [List.map_cons, List.sum_cons, sum_bits m r]
    unfold bt
    cases h : m.testBit k with
    | true => rw [List.filter_cons_of_pos (by exact h), List.length_cons, if_pos rfl]; omega
    | false => rw [List.filter_cons_of_neg (by rw [h]; decide), if_neg (by decide)]; omega
theorem e_ones {n m : Nat} (hn : n ≤ 6) : v__law_ones C [nD n, nD m] = okD (nD (lot n m).length) := by
  refine run_ret (w_cb (w_cons (w_lc (List.range n) (fun k : Nat => .int (k : Int)) (fun k : Nat => .int (bt m k)) (w_rng1 (w_cons w_var w_nil) (by omega)) (by rw [List.length_range]; omega) fun k hk => ⟨[some (.d (nD n)), some (.d (nD m)), some (.d (nD k))], rfl, w_call (w_cons w_var (w_cons w_var w_nil)) rfl rfl (e_has (by have := List.mem_range.mp hk; omega))⟩) w_nil) ?_)
  have e : (List.range n).map (fun k : Nat => PyData.int (bt m k)) = ((List.range n).map (bt m)).map PyData.int := by rw [List.map_map]; rfl
  show (intsD ((List.range n).map fun k : Nat => PyData.int (bt m k))).map (fun ns => SV.d (.int ns.sum)) = _
  rw [e, intsD_map, Option.map_some, sum_bits]
  unfold lot
  rw [List.length_map]
theorem e_set_of {n : Nat} (hn : n ≤ 6) (M : List Nat) (hl : M.length ≤ 1000) : v__law_set_of C [nD n, msD M] = okD (lsD n M) := by
  have em : M.map (lD n) = (M.map (lot n)).map tupD := by rw [List.map_map]; rfl
  have eb : bSorted [.l (M.map (lD n))] = some (.l ((lots n M).map tupD)) := by
    show (match tupsD (M.map (lD n)) with | some nss => some (SV.l ((srtL nss).map tupD)) | none => _) = _
    rw [em, tupsD_map]
    rfl
  exact run_ret (w_cb (w_cons (w_cb (w_cons (w_lc M (fun k : Nat => nD k) (lD n) (w_anyL w_var) (by omega) fun m hm => ⟨[some (.d (nD n)), some (.d (msD M)), some (.d (nD m))], rfl, w_call (w_cons w_var (w_cons w_var w_nil)) rfl rfl (e_lot_of hn)⟩) w_nil) eb) w_nil) rfl)
theorem inV_nats (x : Nat) (ys : List Nat) : oInX true (.d (nD x)) (.b (ys.map fun k : Nat => nD k)) = some (.d (.bool (!decide (x ∈ ys)))) := by
  have e : (ys.map fun k : Nat => nD k) = (ys.map fun k : Nat => (k : Int)).map PyData.int := by rw [List.map_map]; rfl
  refine oInX_of ?_
  show (some (V.int (x : Int))).bind (fun v => (flatAll (ys.map fun k : Nat => nD k)).map fun vs => SV.d (.bool (if true = true then !inV v vs else inV v vs))) = _
  rw [e, flat_ints]
  show some (SV.d (.bool (!inV (V.int (x : Int)) ((ys.map fun k : Nat => (k : Int)).map V.int)))) = _
  rw [inV_ints]
  congr 4
  rw [decide_eq_decide, List.mem_map]
  exact ⟨fun ⟨k, hk, e⟩ => by rw [show x = k by omega]; exact hk, fun h => ⟨x, h, rfl⟩⟩
theorem inV_natsD (x : Nat) (ys : List Nat) : oInX false (.d (nD x)) (.d (msD ys)) = some (.d (.bool (decide (x ∈ ys)))) := by
  have e : (ys.map fun k : Nat => nD k) = (ys.map fun k : Nat => (k : Int)).map PyData.int := by rw [List.map_map]; rfl
  refine oInX_of ?_
  show (some (V.int (x : Int))).bind (fun v => (flatAll (ys.map fun k : Nat => nD k)).map fun vs => SV.d (.bool (if false = true then !inV v vs else inV v vs))) = _
  rw [e, flat_ints]
  show some (SV.d (.bool (inV (V.int (x : Int)) ((ys.map fun k : Nat => (k : Int)).map V.int)))) = _
  rw [inV_ints]
  congr 3
  rw [decide_eq_decide, List.mem_map]
  exact ⟨fun ⟨k, hk, e⟩ => by rw [show x = k by omega]; exact hk, fun h => ⟨x, h, rfl⟩⟩
/-- the greatest ones, in the order they come -/
structure Gr (M T : List Nat) : Prop where
  nd : T.Nodup
  mem : ∀ t, t ∈ T ↔ t ∈ M ∧ ∀ y, y ∈ M → wt t y = true → t = y
theorem above_zero {M : List Nat} {m : Nat} : decide ((M.filter fun o => decide (o &&& m = m) && !decide (o = m)).length = 0) = decide (∀ y, y ∈ M → wt m y = true → m = y) := by
  rw [decide_eq_decide, List.length_eq_zero_iff, List.filter_eq_nil_iff]
  refine forall_congr' fun y => forall_congr' fun hy => ?_
  unfold wt
  rw [Nat.and_comm m y, decide_eq_true_iff, Bool.and_eq_true, decide_eq_true_iff, Bool.not_eq_true', decide_eq_false_iff_not]
  constructor
  · intro h e
    exact (Classical.byContradiction fun z => h ⟨e, fun q => z q.symm⟩)
  · rintro h ⟨a, b⟩
    exact b (h a).symm
theorem len_list (l : List PyData) : bLen [.b l] = some (.d (nD l.length)) := rfl
theorem e_greatest {M : List Nat} (hl : M.length ≤ 1000) : ∃ T, v__law_greatest C [msD M] = .ok (.l (T.map fun k : Nat => nD k)) () ∧ Gr M T := by
  have key := loop_invM (γ := Unit) (asg := asgN 2) (body := sSeq (sAsg 3 (fLc [4] (iAny (fVar 0)) (asgN 4) (fAnd (fOp oEqS (fOp oAnd (fVar 4) (fVar 2)) (fVar 2)) (fOp oNeS (fVar 4) (fVar 2))) (fVar 4)))
      (sIf (fAnd (fOp oEqS (fCB bLen (aCons (fVar 3) aNil)) (fC (.int 0))) (fOp (oInX true) (fVar 2) (fVar 1))) (sApp 1 (fVar 2)) sNil)) (fun k : Nat => nD k)
    (fun rest ρ _ => ∃ T done t2 t3 t4, ρ = [some (.d (msD M)), some (.l (T.map fun k : Nat => nD k)), t2, t3, t4] ∧ done ++ rest = M ∧ T.Nodup ∧ T.length ≤ done.length ∧ ∀ t, t ∈ T ↔ t ∈ done ∧ ∀ y, y ∈ M → wt t y = true → t = y) ?_ M [some (.d (msD M)), some (.l []), none, none, none] () ⟨[], [], none, none, none, rfl, rfl, List.nodup_nil, Nat.le_refl _, fun t => ⟨fun z => (nomatch z), fun z => (nomatch z.1)⟩⟩
  · obtain ⟨ρ', g', e, T, done, t2, t3, t4, rfl, hd, nd, _, mem⟩ := key
    rw [List.append_nil] at hd
    subst hd
    refine ⟨T, ?_, nd, mem⟩
    exact run_body (Eq.trans (u_seq (u_set (w_lst w_nil rfl (by decide)))) (Eq.trans (u_seq (Eq.trans (u_for (w_anyL w_var)) e)) (u_retv rfl)))
  · rintro m rest ρ g ⟨T, done, t2, t3, t4, rfl, hd, nd, hlen, mem⟩
    obtain ⟨A, hA⟩ : ∃ A, A = M.filter fun o => decide (o &&& m = m) && !decide (o = m) := ⟨_, rfl⟩
    have e1 : (fLc [4] (iAny (fVar 0)) (asgN 4) (fAnd (fOp oEqS (fOp oAnd (fVar 4) (fVar 2)) (fVar 2)) (fOp oNeS (fVar 4) (fVar 2))) (fVar 4) : Fn Unit) [some (.d (msD M)), some (.l (T.map fun k : Nat => nD k)), some (.d (nD m)), t3, t4] () = .ok (.l (A.map fun k : Nat => nD k)) () := by
      rw [hA]
      exact w_lcf (own := [4]) (asg := asgN 4) M (fun k : Nat => nD k) (fun k : Nat => nD k) (fun o => decide (o &&& m = m) && !decide (o = m)) (w_anyL w_var) (by omega) fun o ho => ⟨[some (.d (msD M)), some (.l (T.map fun k : Nat => nD k)), some (.d (nD m)), t3, some (.d (nD o))], rfl, w_and (w_op (w_op w_var w_var (o_and _ _)) w_var (o_eqN _ _)) fun _ => w_op w_var w_var (o_neN _ _), fun _ => w_var⟩
    have hc : (fAnd (fOp oEqS (fCB bLen (aCons (fVar 3) aNil)) (fC (.int 0))) (fOp (oInX true) (fVar 2) (fVar 1)) : Fn Unit) [some (.d (msD M)), some (.l (T.map fun k : Nat => nD k)), some (.d (nD m)), some (.l (A.map fun k : Nat => nD k)), t4] () = .ok (.d (.bool (decide (A.length = 0) && !decide (m ∈ T)))) () := by
      refine w_and (w_op (w_cb (w_cons w_varL w_nil) (len_list _)) w_c ?_) fun _ => w_op w_var w_varL (inV_nats _ _)
      rw [List.length_map]
      exact o_eqN _ 0
    rw [hA, above_zero] at hc
    have hlt : T.length < 100000 := by
      have : done.length ≤ M.length := by rw [← hd, List.length_append]; omega
      omega
    by_cases c : (decide (∀ y, y ∈ M → wt m y = true → m = y) && !decide (m ∈ T)) = true
    · rw [c] at hc
      rw [Bool.and_eq_true, Bool.not_eq_true', decide_eq_true_iff, decide_eq_false_iff_not] at c
      refine ⟨_, _, (), rfl, Eq.trans (u_seq (u_set e1)) (Eq.trans (u_ifT (hA ▸ hc)) (u_app rfl w_var (by rw [List.length_map]; exact hlt))), T ++ [m], done ++ [m], some (.d (nD m)), some (.l (A.map fun k : Nat => nD k)), t4, ?_, by rw [List.append_assoc]; exact hd, ?_, ?_, fun t => ?_⟩
      · rw [List.map_append, hA]; rfl
      · rw [List.nodup_append]
        exact ⟨nd, by simp, fun a ha b hb e => c.2 (by rw [← List.mem_singleton.mp hb, ← e]; exact ha)⟩
      · rw [List.length_append, List.length_append]; simp; exact hlen
      · rw [List.mem_append, List.mem_append, mem, List.mem_singleton]
        constructor
        · rintro (⟨a, b⟩ | rfl)
          · exact ⟨.inl a, b⟩
          · exact ⟨.inr rfl, c.1⟩
        · rintro ⟨a | rfl, b⟩
          · exact .inl ⟨a, b⟩
          · exact .inr rfl
    · rw [Bool.not_eq_true] at c
      rw [c] at hc
      refine ⟨_, _, (), rfl, Eq.trans (u_seq (u_set e1)) (Eq.trans (u_ifF (hA ▸ hc)) u_nil), T, done ++ [m], some (.d (nD m)), some (.l (A.map fun k : Nat => nD k)), t4, by rw [hA]; rfl, by rw [List.append_assoc]; exact hd, nd, by rw [List.length_append]; omega, fun t => ?_⟩
      rw [mem, List.mem_append, List.mem_singleton]
      constructor
      · rintro ⟨a, b⟩
        exact ⟨.inl a, b⟩
      · rintro ⟨a | rfl, b⟩
        · exact ⟨a, b⟩
        · rw [Bool.and_eq_false_iff, decide_eq_false_iff_not, Bool.not_eq_false', decide_eq_true_iff] at c
          rcases c with z | z
          · exact absurd b z
          · exact (mem t).mp z
/-! ### the draw -/
abbrev Few (g : SrcG) : Prop := g.2.length ≤ 63
theorem drawF_ok {g : SrcG} {top : Int} (h0 : 0 < top) (hl : Few g) : 0 ≤ (drawF g top).1 ∧ (drawF g top).1 < top ∧ Few (drawF g top).2 := by
  unfold drawF
  by_cases c : g.2 = []
  · simp only [if_pos c]
    exact ⟨Int.le_refl _, h0, hl⟩
  · simp only [if_neg c]
    by_cases b : 1000000000000000000 ≤ g.2.getD ((g.1 + 1 + 3) % (g.2.length : Int)).toNat 0
    · rw [if_pos b]
      refine ⟨Int.emod_nonneg _ (by omega), Int.emod_lt_of_pos _ h0, ?_⟩
      show (g.2.set _ _).length ≤ 63
      rw [List.length_set]
      exact hl
    · rw [if_neg b]
      exact ⟨Int.emod_nonneg _ (by omega), Int.emod_lt_of_pos _ h0, hl⟩
theorem e_draw {g : SrcG} {top : Nat} (h0 : 0 < top) (h1 : top < 1073741824) (hl : Few g) : ∃ (z : Nat) (g' : SrcG), v__law_draw C [.h, .d (nD top)] g = .ok (.d (nD z)) g' ∧ z < top ∧ Few g' := by
  obtain ⟨a, b, c⟩ := drawF_ok (g := g) (top := (top : Int)) (by omega) hl
  refine ⟨(drawF g top).1.toNat, (drawF g top).2, ?_, by omega, c⟩
  have hc : 0 < (top : Int) ∧ (top : Int) < 1073741824 ∧ 0 < g.2.length ∧ g.2.length ≤ 63 ∨ g.2 = [] := by
    by_cases e : g.2 = []
    · exact .inr e
    · exact .inl ⟨by omega, by omega, List.length_pos_iff.mpr e, hl⟩
  show (if 0 < (top : Int) ∧ (top : Int) < 1073741824 ∧ 0 < g.2.length ∧ g.2.length ≤ 63 ∨ g.2 = [] then Out.ok (SV.d (.int (drawF g top).1)) (drawF g top).2 else .stuck) = _
  rw [if_pos hc]
  rw [show nD (drawF g top).1.toNat = PyData.int (drawF g top).1 from congrArg PyData.int (by omega)]
/-- the draw in an expression -/
theorem w_draw {ρ : Dn.Env} {g : SrcG} {top : Nat} {i : Nat} (hi : ρ[i]? = some (some .h)) {φ : Fn SrcG} (ht : φ ρ g = .ok (.d (nD top)) g) (h0 : 0 < top) (h1 : top < 1073741824) (hl : Few g) :
    ∃ (z : Nat) (g' : SrcG), (fCallS 2 (v__law_draw C) (aCons (fVar i) (aCons φ aNil)) : Fn SrcG) ρ g = .ok (.d (nD z)) g' ∧ z < top ∧ Few g' := by
  obtain ⟨z, g', e, a, c⟩ := e_draw (C := C) h0 h1 hl
  exact ⟨z, g', w_callS (w_cons (w_varH hi) (w_cons ht w_nil)) rfl rfl e, a, c⟩
theorem few_most : ∀ n, n < 7 → ∀ few, few < 7 → ((List.range (2 ^ n)).filter fun m => decide ((lot n m).length = few)).length ≤ 20 := by decide +kernel
theorem few_there : ∀ n, n < 7 → ∀ few, few ≤ n → ((List.range (2 ^ n)).any fun m => decide ((lot n m).length = few)) = true := by decide +kernel
/-- a good result: marks -/
structure Mk (n : Nat) (M : List Nat) : Prop where
  lt : ∀ m ∈ M, m < 2 ^ n
  ne : M ≠ []
  len : M.length ≤ 22
theorem sub_full {n a : Nat} (ha : a < 2 ^ n) : oSub (.d (nD (2 ^ n - 1))) (.d (nD a)) = some (.d (nD (2 ^ n - 1 - a))) := by
  show some (SV.d (.int (((2 ^ n - 1 : Nat) : Int) - (a : Int)))) = _
  rw [show ((2 ^ n - 1 : Nat) : Int) - (a : Int) = ((2 ^ n - 1 - a : Nat) : Int) by omega]
end K3

set_option Elab.async false
set_option linter.all false
set_option autoImplicit false
set_option maxRecDepth 100000
set_option maxHeartbeats 1000000
namespace K3
open PySem PySem.Spec PyProof.Rows L2 Dn
variable {C : Addr}
/-- the marks of partings -/
abbrev parE (n : Nat) (E : Nat → Bool) : Nat → Bool := fun m => E m && E (2 ^ n - (m + 1))
abbrev pars (n : Nat) (E : Nat → Bool) : List Nat := allF n (parE n E)
theorem rest_lt {n m : Nat} : 2 ^ n - (m + 1) < 2 ^ n := by have := Nat.two_pow_pos n; omega
theorem e_parts {n m : Nat} {E : Nat → Bool} {M : List Nat} (f : Fr n E M) (hm : m < 2 ^ n) : v_parts C [nD n, lsD n M, lD n m] = okB (parE n E m) :=
  run_ret (w_and (w_call (w_cons w_var (w_cons w_var w_nil)) rfl rfl (e_feared_mark f hm)) fun _ => w_call (w_cons w_var (w_cons (w_call (w_cons w_var (w_cons w_var w_nil)) rfl rfl (e_rest_of f.hn hm)) w_nil)) rfl rfl (e_feared_mark f rest_lt))
theorem e_is_parting {n m : Nat} {E : Nat → Bool} {M : List Nat} (f : Fr n E M) (hm : m < 2 ^ n) : v_is_parting C [nD n, lsD n M, lD n m] = okB (parE n E m) := by
  refine run_body ?_
  refine Eq.trans (u_seq (u_drop (w_call (w_cons w_var (w_cons w_var w_nil)) rfl rfl (e_need_fears f.h1 f.hn f.fe)))) ?_
  refine Eq.trans (u_seq (u_drop (w_call (w_cons w_var (w_cons w_var w_nil)) rfl rfl (e_need_lot f.hn)))) ?_
  exact u_ret (w_call (w_cons w_var (w_cons w_var (w_cons w_var w_nil))) rfl rfl (e_parts f hm))
theorem e_all_partings {n : Nat} {E : Nat → Bool} {M : List Nat} (f : Fr n E M) : v_all_partings C [nD n, lsD n M] = okD (lsD n (pars n E)) := by
  obtain ⟨p, hp⟩ : ∃ p : List Int → Bool, p = fun x => (pars n E).any fun m => decide (lot n m = x) := ⟨_, rfl⟩
  have hpm : ∀ m, m < 2 ^ n → p (lot n m) = parE n E m := fun m hm => by
    rw [hp, Bool.eq_iff_iff, List.any_eq_true]
    constructor
    · rintro ⟨k, hk, e⟩
      obtain ⟨k1, k2⟩ := List.mem_filter.mp hk
      rw [← lot_inj (List.mem_range.mp k1) hm (of_decide_eq_true e)]
      exact k2
    · intro h
      exact ⟨m, List.mem_filter.mpr ⟨List.mem_range.mpr hm, h⟩, decide_eq_true rfl⟩
  have ef := filter_lots p (parE n E) hpm
  refine run_ret (w_cb (w_cons (w_lcf (own := [2]) (asg := asgN 2) (lots n (List.range (2 ^ n))) tupD tupD p (w_any (w_frzD (w_call (w_cons w_var w_nil) rfl rfl (e_every_lot n f.h1 f.hn)))) (by rw [lots_len]; have := range_len f.hn; omega) fun x hx => ⟨[some (.d (nD n)), some (.d (lsD n M)), some (.d (tupD x))], rfl, ?_, fun _ => w_var⟩) w_nil) ?_)
  · obtain ⟨m, hm, rfl⟩ := mem_lots.mp hx
    have hm := List.mem_range.mp hm
    rw [hpm m hm]
    exact w_call (w_cons w_var (w_cons w_var (w_cons w_var w_nil))) rfl rfl (e_parts f hm)
  · rw [ef]
    rfl
theorem e_partings_of {n : Nat} {E : Nat → Bool} {M : List Nat} (f : Fr n E M) : v_partings_of C [nD n, lsD n M] = okD (lsD n (pars n E)) := by
  refine run_body ?_
  refine Eq.trans (u_seq (u_drop (w_call (w_cons w_var (w_cons w_var w_nil)) rfl rfl (e_need_fears f.h1 f.hn f.fe)))) ?_
  exact u_ret (w_call (w_cons w_var (w_cons w_var w_nil)) rfl rfl (e_all_partings f))
/-! ### atoms -/
abbrev sameB (P : List Nat) (a b : Nat) : Bool := P.all fun m => m.testBit a == m.testBit b
theorem dec_lot {n m a : Nat} (ha : a < n) : decide ((a : Int) ∈ lot n m) = m.testBit a := by
  rw [Bool.eq_iff_iff, decide_eq_true_iff, bit_mem]
  exact ⟨fun h => h.2, fun h => ⟨ha, h⟩⟩
theorem all_lots {n : Nat} {P : List Nat} (f : List Int → Bool) : (lots n P).all f = P.all fun m => f (lot n m) := by
  rw [Bool.eq_iff_iff, List.all_eq_true, List.all_eq_true]
  exact ⟨fun h m hm => h _ (mem_lots.mpr ⟨m, hm, rfl⟩), fun h x hx => by obtain ⟨m, hm, rfl⟩ := mem_lots.mp hx; exact h m hm⟩
theorem o_eqB (a b : Bool) : oEqS (.d (.bool a)) (.d (.bool b)) = some (.d (.bool (a == b))) := by cases a <;> cases b <;> rfl
theorem e_are_unparted {n a b : Nat} {P : List Nat} (ha : a < n) (hb : b < n) (hl : P.length ≤ 1000) : v_are_unparted C [lsD n P, nD a, nD b] = okB (sameB P a b) := by
  have e := run_ret (N := [("partings" : Str), ("one" : Str), ("other" : Str), ("lot" : Str)]) (ds := [lsD n P, nD a, nD b]) (w_cb (w_cons (w_lc (own := [3]) (Ι := iAny (fVar 0)) (asg := asgN 3) (elt := fOp oEqS (fOp (oInX false) (fVar 1) (fVar 3)) (fOp (oInX false) (fVar 2) (fVar 3))) (lots n P) tupD (fun x => .bool (decide ((a : Int) ∈ x) == decide ((b : Int) ∈ x))) (w_any w_var) (by rw [lots_len]; omega) fun x hx => ⟨[some (.d (lsD n P)), some (.d (nD a)), some (.d (nD b)), some (.d (tupD x))], rfl, w_op (w_op w_var w_var (o_in _ _)) (w_op w_var w_var (o_in _ _)) (o_eqB _ _)⟩) w_nil) (v_all (fun x => decide ((a : Int) ∈ x) == decide ((b : Int) ∈ x)) (lots n P)))
  rw [all_lots] at e
  have e2 : (P.all fun m => decide ((a : Int) ∈ lot n m) == decide ((b : Int) ∈ lot n m)) = sameB P a b := by
    congr 1
    funext m
    rw [dec_lot ha, dec_lot hb]
  rw [e2] at e
  exact e
abbrev atomL (n : Nat) (P : List Nat) (a : Nat) : List Int := ((List.range n).filter fun b => sameB P a b).map fun b : Nat => (b : Int)
theorem e_unparted_from {n a : Nat} {P : List Nat} (hn : n ≤ 6) (ha : a < n) (hl : P.length ≤ 1000) : v_unparted_from C [nD n, lsD n P, nD a] = okD (tupD (atomL n P a)) := by
  refine run_ret (w_cb (w_cons (w_lcf (own := [3]) (asg := asgN 3) (List.range n) (fun k : Nat => .int (k : Int)) (fun k : Nat => .int (k : Int)) (fun b => sameB P a b) (w_rng1 (w_cons w_var w_nil) (by omega)) (by rw [List.length_range]; omega) fun b hb => ⟨[some (.d (nD n)), some (.d (lsD n P)), some (.d (nD a)), some (.d (nD b))], rfl, w_call (w_cons w_var (w_cons w_var (w_cons w_var w_nil))) rfl rfl (e_are_unparted ha (List.mem_range.mp hb) hl), fun _ => w_var⟩) w_nil) ?_)
  show _ = some (SV.d (.tuple ((((List.range n).filter fun b => sameB P a b).map fun b : Nat => (b : Int)).map PyData.int)))
  rw [List.map_map]
  rfl
theorem w_sortSc {γ α : Type} {ρ : Dn.Env} {g : γ} {own : List Nat} {Ι : FnI γ} {asg : Asg} {elt : Fn γ} (xs : List α) (inj : α → PyData) (f : α → List Int) (hi : Ι ρ g = .ok (xs.map inj) g) (hl : xs.length ≤ 64) (h : ∀ x ∈ xs, ∃ ρ1, asg (inj x) (wipeE ρ own) = some ρ1 ∧ elt ρ1 g = .ok (.d (tupD (f x))) g) :
    fSortSc own Ι asg elt ρ g = .ok (.l ((srtL (nubL (xs.map f))).map tupD)) g := by
  unfold fSortSc
  rw [hi]
  show (if (xs.map inj).length ≤ 64 then _ else _) = _
  rw [List.length_map, if_pos hl, lcD_mapM inj (fun x => tupD (f x)) xs fun x hx => by
    obtain ⟨ρ1, e1, e2⟩ := h x hx
    exact ⟨ρ1, e1, rfl, e2⟩]
  show (match tupsD (xs.map fun x => tupD (f x)) with | some nss => _ | none => _) = _
  rw [show (xs.map fun x => tupD (f x)) = (xs.map f).map tupD from by rw [List.map_map]; rfl, tupsD_map]
abbrev atomsL (n : Nat) (P : List Nat) : List (List Int) := srtL (nubL ((List.range n).map (atomL n P)))
theorem pars_len {n : Nat} (hn : n ≤ 6) (E : Nat → Bool) : (pars n E).length ≤ 64 := allF_len hn _
theorem e_all_atoms {n : Nat} {E : Nat → Bool} {M : List Nat} (f : Fr n E M) : v_all_atoms C [nD n, lsD n M] = okD (.tuple ((atomsL n (pars n E)).map tupD)) := by
  have hn := f.hn
  refine run_body (Eq.trans (u_seq (u_set (w_call (w_cons w_var (w_cons w_var w_nil)) rfl rfl (e_all_partings f)))) ?_)
  exact u_ret (w_cb (w_cons (w_sortSc (List.range n) (fun k : Nat => .int (k : Int)) (atomL n (pars n E)) (w_rng1 (w_cons w_var w_nil) (by omega)) (by rw [List.length_range]; omega) fun a ha => ⟨[some (.d (nD n)), some (.d (lsD n M)), some (.d (lsD n (pars n E))), some (.d (nD a))], rfl, w_call (w_cons w_var (w_cons w_var (w_cons w_var w_nil))) rfl rfl (e_unparted_from hn (List.mem_range.mp ha) (by have := pars_len hn E; omega))⟩) w_nil) rfl)
theorem e_atoms_of {n : Nat} {E : Nat → Bool} {M : List Nat} (f : Fr n E M) : v_atoms_of C [nD n, lsD n M] = okD (.tuple ((atomsL n (pars n E)).map tupD)) := by
  refine run_body ?_
  refine Eq.trans (u_seq (u_drop (w_call (w_cons w_var (w_cons w_var w_nil)) rfl rfl (e_need_fears f.h1 f.hn f.fe)))) ?_
  exact u_ret (w_call (w_cons w_var (w_cons w_var w_nil)) rfl rfl (e_all_atoms f))
theorem inR_nat {n a : Nat} (ha : a < n) : inR (n : Int) (nD a) = true := by
  show (decide ((0 : Int) ≤ (a : Int)) && decide ((a : Int) < (n : Int))) = true
  rw [decide_eq_true (by omega), decide_eq_true (by omega)]; rfl
theorem e_need_house {n a : Nat} (ha : a < n) : v_need_house C [nD n, nD a] = okD .none := by
  exact run_drop (w_call (w_cons (w_call (w_cons w_var (w_cons w_var w_nil)) rfl rfl (e_is_index n (nD a))) (w_cons w_c w_nil)) rfl rfl (by rw [inR_nat ha]; exact ok_need "house"))
theorem e_need_two {n a b : Nat} (ha : a < n) (hb : b < n) (ne : a ≠ b) : v_need_two C [nD n, nD a, nD b] = okD .none := by
  exact run_next (Eq.trans (u_seq (u_drop (w_call (w_cons (w_call (w_cons w_var (w_cons w_var w_nil)) rfl rfl (e_is_index n (nD a))) (w_cons w_c w_nil)) rfl rfl (by rw [inR_nat ha]; exact ok_need "one")))) (u_drop (w_call (w_cons (w_and (w_call (w_cons w_var (w_cons w_var w_nil)) rfl rfl (e_is_index n (nD b))) fun _ => w_op w_var w_var (o_neN a b)) (w_cons w_c w_nil)) rfl rfl (by rw [inR_nat hb, decide_eq_false ne]; exact ok_need "other"))))
theorem e_atom_at {n a : Nat} {E : Nat → Bool} {M : List Nat} (f : Fr n E M) (ha : a < n) : v_atom_at C [nD n, lsD n M, nD a] = okD (tupD (atomL n (pars n E) a)) := by
  refine run_body ?_
  refine Eq.trans (u_seq (u_drop (w_call (w_cons w_var (w_cons w_var w_nil)) rfl rfl (e_need_fears f.h1 f.hn f.fe)))) ?_
  refine Eq.trans (u_seq (u_drop (w_call (w_cons w_var (w_cons w_var w_nil)) rfl rfl (e_need_house ha)))) ?_
  exact u_ret (w_call (w_cons w_var (w_cons (w_call (w_cons w_var (w_cons w_var w_nil)) rfl rfl (e_all_partings f)) (w_cons w_var w_nil))) rfl rfl (e_unparted_from f.hn ha (by have := pars_len f.hn E; omega)))
theorem loop_ret {γ : Type} {asg : Asg} {body : SFn γ} {y : PyData} {ys : List PyData} {ρ ρ1 : Dn.Env} {g g1 : γ} {x : SV} (h1 : asg y ρ = some ρ1) (h2 : body ρ1 g = .ret x g1) : loopD asg body (y :: ys) ρ g = .ret x g1 := by
  unfold loopD
  rw [h1]
  simp only [h2]
theorem loop_next {γ : Type} {asg : Asg} {body : SFn γ} {y : PyData} {ys : List PyData} {ρ ρ1 ρ2 : Dn.Env} {g g2 : γ} (h1 : asg y ρ = some ρ1) (h2 : body ρ1 g = .next ρ2 g2) : loopD asg body (y :: ys) ρ g = loopD asg body ys ρ2 g2 := by
  conv => lhs; unfold loopD
  rw [h1]
  simp only [h2]
/-- the first parting with one house and without the other one -/
abbrev cutB (a b : Nat) (x : List Int) : Bool := decide ((a : Int) ∈ x) && !decide ((b : Int) ∈ x)
theorem loop_find {n a b : Nat} {F : PyData} : ∀ (xs : List (List Int)) (t : Option SV), ∃ t', loopD (γ := Unit) (asgN 4) (sIf (fAnd (fOp (oInX false) (fVar 2) (fVar 4)) (fOp (oInX true) (fVar 3) (fVar 4))) (sRetV 4) sNil) (xs.map tupD) [some (.d (nD n)), some (.d F), some (.d (nD a)), some (.d (nD b)), t] () =
    (match xs.find? (cutB a b) with
      | some x => .ret (.d (tupD x)) ()
      | none => .next [some (.d (nD n)), some (.d F), some (.d (nD a)), some (.d (nD b)), t'] ())
  | [], t => ⟨t, rfl⟩
  | x :: r, t => by
    have hc : (fAnd (fOp (oInX false) (fVar 2) (fVar 4)) (fOp (oInX true) (fVar 3) (fVar 4)) : Fn Unit) [some (.d (nD n)), some (.d F), some (.d (nD a)), some (.d (nD b)), some (.d (tupD x))] () = .ok (.d (.bool (cutB a b x))) () :=
      w_and (w_op w_var w_var (o_in _ _)) fun _ => w_op w_var w_var (o_nin _ _)
    cases q : cutB a b x with
    | true =>
      rw [q] at hc
      refine ⟨t, ?_⟩
      rw [List.find?_cons_of_pos (by exact q)]
      exact loop_ret rfl (Eq.trans (u_ifT hc) (u_retv (x := .d (tupD x)) rfl))
    | false =>
      rw [q] at hc
      obtain ⟨t', e⟩ := loop_find (n := n) (a := a) (b := b) (F := F) r (some (.d (tupD x)))
      refine ⟨t', ?_⟩
      rw [List.find?_cons_of_neg (by rw [q]; decide), ← e]
      exact loop_next rfl (Eq.trans (u_ifF hc) u_nil)
abbrev toldD (n : Nat) (P : List Nat) (a b : Nat) : PyData := match (lots n P).find? (cutB a b) with
  | some x => tupD x
  | none => .none
theorem e_parting_of {n a b : Nat} {E : Nat → Bool} {M : List Nat} (f : Fr n E M) (ha : a < n) (hb : b < n) (ne : a ≠ b) : v_parting_of C [nD n, lsD n M, nD a, nD b] = okD (toldD n (pars n E) a b) := by
  refine run_body ?_
  refine Eq.trans (u_seq (u_drop (w_call (w_cons w_var (w_cons w_var w_nil)) rfl rfl (e_need_fears f.h1 f.hn f.fe)))) ?_
  refine Eq.trans (u_seq (u_drop (w_call (w_cons w_var (w_cons w_var (w_cons w_var w_nil))) rfl rfl (e_need_two ha hb ne)))) ?_
  obtain ⟨t', e⟩ := loop_find (n := n) (a := a) (b := b) (F := lsD n M) (lots n (pars n E)) none
  have e2 := Eq.trans (u_for (Ι := iAny (fFrz (fCall 2 (v_all_partings C) (aCons (fVar 0) (aCons (fVar 1) aNil))))) (w_any (w_frzD (w_call (γ := Unit) (ρ := [some (.d (nD n)), some (.d (lsD n M)), some (.d (nD a)), some (.d (nD b)), none]) (w_cons w_var (w_cons w_var w_nil)) rfl rfl (e_all_partings (C := C) f))))) e
  unfold toldD
  cases q : (lots n (pars n E)).find? (cutB a b) with
  | some x =>
    rw [q] at e2
    exact u_seqR e2
  | none =>
    rw [q] at e2
    exact Eq.trans (u_seq e2) (u_ret w_c)
end K3

set_option Elab.async false
set_option linter.all false
set_option autoImplicit false
set_option maxRecDepth 100000
set_option maxHeartbeats 1000000
namespace K3
open PySem PySem.Spec PyProof.Rows L2 Dn
variable {C : Addr}
theorem or_wt (a b : Nat) : decide (a ||| b = b) = wt a b := by
  rw [Bool.eq_iff_iff, wt_iff, decide_eq_true_iff]
  constructor
  · intro h i hi
    rw [← h, Nat.testBit_or, hi]; rfl
  · intro h
    refine Nat.eq_of_testBit_eq fun i => ?_
    rw [Nat.testBit_or]
    cases ha : a.testBit i with
    | false => rfl
    | true => rw [h i ha]; rfl
theorem gr_fr {n : Nat} (h1 : 1 ≤ n) (hn : n ≤ 6) {M T : List Nat} {E : Nat → Bool} (g : Gen n E M) (h0 : E 0 = true) (t : Gr M T) : Fr n E T := by
  have d := g.dc
  have mem : ∀ m, m ∈ T ↔ m ∈ tops n E := fun m => by rw [t.mem, max_tops hn g]
  have fe := fe_tops hn d h0
  have gt := gen_tops hn d
  refine ⟨h1, hn, ⟨fun m hm => fe.lt m ((mem m).mp hm), t.nd, fun z => ?_, fun a ha b hb => fe.anti a ((mem a).mp ha) b ((mem b).mp hb)⟩, ⟨fun m hm => fe.lt m ((mem m).mp hm), fun x hx => ?_⟩⟩
  · obtain ⟨y, hy⟩ := List.exists_mem_of_ne_nil _ fe.ne
    have := (mem y).mpr hy
    rw [z] at this
    cases this
  · rw [gt.2 x hx]
    exact ⟨fun ⟨y, hy, hw⟩ => ⟨y, (mem y).mpr hy, hw⟩, fun ⟨y, hy, hw⟩ => ⟨y, (mem y).mp hy, hw⟩⟩
abbrev cntO (T : List Nat) (m : Nat) : Nat := (T.filter fun h => decide (m ||| h = h)).length
theorem cnt_pos {n : Nat} {E : Nat → Bool} {T : List Nat} (f : Fr n E T) {m : Nat} (hm : m < 2 ^ n) : decide (0 < cntO T m) = E m := by
  rw [Bool.eq_iff_iff, decide_eq_true_iff, f.gen.2 m hm, List.length_pos_iff_exists_mem]
  constructor
  · rintro ⟨y, hy⟩
    obtain ⟨a, b⟩ := List.mem_filter.mp hy
    rw [or_wt] at b
    exact ⟨y, a, b⟩
  · rintro ⟨y, a, b⟩
    exact ⟨y, List.mem_filter.mpr ⟨a, by rw [or_wt]; exact b⟩⟩
theorem full_one (n : Nat) : 2 ^ n - 1 + 1 = 2 ^ n := by have := Nat.two_pow_pos n; omega
theorem pow_mil {n : Nat} (hn : n ≤ 6) : 2 ^ n < 1000000 := Nat.lt_of_le_of_lt (pow_le hn) (by decide)
theorem sub_fullR {n a : Nat} (ha : a < 2 ^ n) : oSub (.d (nD (2 ^ n - 1))) (.d (nD a)) = some (.d (nD (2 ^ n - (a + 1)))) := by
  show some (SV.d (.int (((2 ^ n - 1 : Nat) : Int) - (a : Int)))) = _
  rw [show ((2 ^ n - 1 : Nat) : Int) - (a : Int) = ((2 ^ n - (a + 1) : Nat) : Int) by omega]
theorem ix_map {N k : Nat} {f : Nat → Nat} (h : k < N) : oIx (.b ((List.range N).map fun m => nD (f m))) (.d (nD k)) = some (.d (nD (f k))) := by
  show (atI ((List.range N).map fun m => nD (f m)) (k : Int)).map SV.d = _
  rw [atI_nat (by rw [List.getElem?_map, List.getElem?_range h]; rfl)]
  rfl
theorem e_partings {n : Nat} {E : Nat → Bool} {T : List Nat} (f : Fr n E T) : v__law_partings C [nD n, msD T] = .ok (.l ((pars n E).map fun k : Nat => nD k)) () := by
  have hn := f.hn
  have hl := f.len
  have hp := pow_le hn
  have er : (iRng1F (aCons (fOp oAdd (fVar 2) (fC (.int 1))) aNil) : FnI Unit) = iRng1F (aCons (fOp oAdd (fVar 2) (fC (.int 1))) aNil) := rfl
  have rng : ∀ ρ : Dn.Env, ρ[2]? = some (some (.d (nD (2 ^ n - 1)))) → (iRng1F (aCons (fOp oAdd (fVar 2) (fC (.int 1))) aNil) : FnI Unit) ρ () = .ok ((List.range (2 ^ n)).map fun k : Nat => PyData.int k) () := fun ρ h => w_rng1 (w_cons (w_op (w_var h) w_c (by rw [← full_one n]; exact o_addN _ 1)) w_nil) (pow_mil hn)
  refine run_body (Eq.trans (u_seq (u_set (w_call (w_cons w_var w_nil) rfl rfl (e_full n hn)))) ?_)
  refine Eq.trans (u_seq (u_set (w_lst w_nil rfl (by decide)))) ?_
  have key := loop_rng (γ := Unit) (asg := asgN 4) (body := sApp 3 (fCB bLen (aCons (fLc [5] (iAny (fVar 1)) (asgN 5) (fOp oEqS (fOp oOr (fVar 4) (fVar 5)) (fVar 5)) (fVar 5)) aNil))) (2 ^ n)
    (fun i ρ _ => ∃ t : Option SV, ρ = [some (.d (nD n)), some (.d (msD T)), some (.d (nD (2 ^ n - 1))), some (.l ((List.range i).map fun m => nD (cntO T m))), t, none]) ?_ [some (.d (nD n)), some (.d (msD T)), some (.d (nD (2 ^ n - 1))), some (.l []), none, none] () ⟨none, rfl⟩
  · obtain ⟨ρ', g', e, t, rfl⟩ := key
    refine Eq.trans (u_seq (Eq.trans (u_for (rng _ rfl)) e)) ?_
    have ef : pars n E = (List.range (2 ^ n)).filter fun m => decide (0 < cntO T m) && decide (0 < cntO T (2 ^ n - (m + 1))) := List.filter_congr fun m hm => by
      rw [cnt_pos f (List.mem_range.mp hm), cnt_pos f rest_lt]
    rw [ef]
    refine u_ret (w_lcf (own := [4]) (asg := asgN 4) (List.range (2 ^ n)) (fun k : Nat => .int (k : Int)) (fun k : Nat => nD k) _ (rng _ rfl) (by rw [List.length_range]; omega) fun m hm => ⟨[some (.d (nD n)), some (.d (msD T)), some (.d (nD (2 ^ n - 1))), some (.l ((List.range (2 ^ n)).map fun m => nD (cntO T m))), some (.d (nD m)), none], rfl, ?_, fun _ => w_var⟩)
    have hm := List.mem_range.mp hm
    exact w_and (w_op (w_op w_varL w_var (ix_map hm)) w_c (o_gt0 _)) fun _ => w_op (w_op w_varL (w_op w_var w_var (sub_fullR hm)) (ix_map rest_lt)) w_c (o_gt0 _)
  · rintro i ρ g hi ⟨t, rfl⟩
    refine ⟨_, _, (), rfl, u_app (k := nD (cntO T i)) rfl (w_cb (w_cons (w_lcf (own := [5]) (asg := asgN 5) T (fun k : Nat => nD k) (fun k : Nat => nD k) (fun h => decide (i ||| h = h)) (w_anyL w_var) (by omega) fun h hh => ⟨[some (.d (nD n)), some (.d (msD T)), some (.d (nD (2 ^ n - 1))), some (.l ((List.range i).map fun m => nD (cntO T m))), some (.d (nD i)), some (.d (nD h))], rfl, w_op (w_op w_var w_var (o_or _ _)) w_var (o_eqN _ _), fun _ => w_var⟩) w_nil) ?_) (by rw [List.length_map, List.length_range]; omega), some (.d (nD i)), ?_⟩
    · show some (SV.d (.int ((((T.filter fun h => decide (i ||| h = h)).map fun k : Nat => nD k).length : Nat) : Int))) = _
      rw [List.length_map]
    · rw [List.range_succ, List.map_append]
      rfl
theorem bt_same (m a b : Nat) : decide (bt m a = bt m b) = (m.testBit a == m.testBit b) := by
  unfold bt
  cases m.testBit a <;> cases m.testBit b <;> rfl
theorem apart_zero {P : List Nat} {a b : Nat} : decide ((P.filter fun m => !decide (bt m a = bt m b)).length = 0) = sameB P a b := by
  rw [Bool.eq_iff_iff, decide_eq_true_iff, List.length_eq_zero_iff, List.filter_eq_nil_iff, List.all_eq_true]
  refine forall_congr' fun m => forall_congr' fun hm => ?_
  rw [bt_same]
  cases m.testBit a <;> cases m.testBit b <;> decide
theorem e_atom_of {n h : Nat} {P : List Nat} (hn : n ≤ 6) (hh : h < n) (hl : P.length ≤ 1000) : v__law_atom_of C [nD n, msD P, nD h] = okD (tupD (atomL n P h)) := by
  have key := loop_rng (γ := Unit) (asg := asgN 4) (body := sSeq (sAsg 5 (fLc [6] (iAny (fVar 1)) (asgN 6) (fOp oNeS (fCall 2 (v__law_has C) (aCons (fVar 6) (aCons (fVar 2) aNil))) (fCall 2 (v__law_has C) (aCons (fVar 6) (aCons (fVar 4) aNil)))) (fVar 6)))
      (sIf (fOp oEqS (fCB bLen (aCons (fVar 5) aNil)) (fC (.int 0))) (sApp 3 (fVar 4)) sNil)) n
    (fun i ρ _ => ∃ t u : Option SV, ρ = [some (.d (nD n)), some (.d (msD P)), some (.d (nD h)), some (.l (((List.range i).filter fun b => sameB P h b).map fun b : Nat => nD b)), t, u, none]) ?_ [some (.d (nD n)), some (.d (msD P)), some (.d (nD h)), some (.l []), none, none, none] () ⟨none, none, rfl⟩
  · obtain ⟨ρ', g', e, t, u, rfl⟩ := key
    refine run_body (Eq.trans (u_seq (u_set (w_lst w_nil rfl (by decide)))) (Eq.trans (u_seq (Eq.trans (u_for (w_rng1 (w_cons w_var w_nil) (by omega))) e)) (u_ret (w_cb (w_cons w_varL w_nil) ?_))))
    show _ = some (SV.d (.tuple ((((List.range n).filter fun b => sameB P h b).map fun b : Nat => (b : Int)).map PyData.int)))
    rw [List.map_map]
    rfl
  · rintro i ρ g hi ⟨t, u, rfl⟩
    obtain ⟨A, hA⟩ : ∃ A, A = P.filter fun m => !decide (bt m h = bt m i) := ⟨_, rfl⟩
    obtain ⟨L, hL⟩ : ∃ L, L = ((List.range i).filter fun b => sameB P h b).map fun b : Nat => nD b := ⟨_, rfl⟩
    rw [← hL]
    have e1 : (fLc [6] (iAny (fVar 1)) (asgN 6) (fOp oNeS (fCall 2 (v__law_has C) (aCons (fVar 6) (aCons (fVar 2) aNil))) (fCall 2 (v__law_has C) (aCons (fVar 6) (aCons (fVar 4) aNil)))) (fVar 6) : Fn Unit) [some (.d (nD n)), some (.d (msD P)), some (.d (nD h)), some (.l L), some (.d (nD i)), u, none] () = .ok (.l (A.map fun k : Nat => nD k)) () := by
      rw [hA]
      exact w_lcf (own := [6]) (asg := asgN 6) P (fun k : Nat => nD k) (fun k : Nat => nD k) (fun m => !decide (bt m h = bt m i)) (w_anyL w_var) (by omega) fun m hm => ⟨[some (.d (nD n)), some (.d (msD P)), some (.d (nD h)), some (.l L), some (.d (nD i)), u, some (.d (nD m))], rfl, w_op (w_call (w_cons w_var (w_cons w_var w_nil)) rfl rfl (e_has (by omega))) (w_call (w_cons w_var (w_cons w_var w_nil)) rfl rfl (e_has (by omega))) (o_neI _ _), fun _ => w_var⟩
    have hc : (fOp oEqS (fCB bLen (aCons (fVar 5) aNil)) (fC (.int 0)) : Fn Unit) [some (.d (nD n)), some (.d (msD P)), some (.d (nD h)), some (.l L), some (.d (nD i)), some (.l (A.map fun k : Nat => nD k)), none] () = .ok (.d (.bool (sameB P h i))) () := by
      rw [← apart_zero, ← hA, ← List.length_map (f := fun k : Nat => nD k) (as := A)]
      exact w_op (w_cb (w_cons w_varL w_nil) (len_list _)) w_c (o_eqN _ 0)
    have hlen : L.length < 100000 := by
      rw [hL, List.length_map]
      have := List.length_filter_le (fun b => sameB P h b) (List.range i)
      rw [List.length_range] at this
      omega
    cases hb : sameB P h i with
    | true =>
      rw [hb] at hc
      refine ⟨_, _, (), rfl, Eq.trans (u_seq (u_set e1)) (Eq.trans (u_ifT hc) (u_app rfl w_var hlen)), some (.d (nD i)), some (.l (A.map fun k : Nat => nD k)), ?_⟩
      rw [List.range_succ, List.filter_append, List.filter_cons_of_pos (by exact hb), List.filter_nil, List.map_append, ← hL]
      rfl
    | false =>
      rw [hb] at hc
      refine ⟨_, _, (), rfl, Eq.trans (u_seq (u_set e1)) (Eq.trans (u_ifF hc) u_nil), some (.d (nD i)), some (.l (A.map fun k : Nat => nD k)), ?_⟩
      rw [List.range_succ, List.filter_append, List.filter_cons_of_neg (by rw [hb]; decide), List.filter_nil, List.append_nil, ← hL]
      rfl
abbrev loB (n : Nat) (T : List Nat) (hi : Nat) : Bool := decide (0 < (T.filter fun lo => decide (hi ||| lo = 2 ^ n - 1)).length)
abbrev twoB (n : Nat) (T : List Nat) : Bool := decide (0 < (T.filter (loB n T)).length)
theorem len_b (l : List PyData) : bLen [.l l] = some (.d (nD l.length)) := rfl
theorem e_two {n : Nat} {T : List Nat} (hn : n ≤ 6) (hl : T.length ≤ 1000) : v__law_two_are_all C [nD n, msD T] = okB (twoB n T) := by
  refine run_body (Eq.trans (u_seq (u_set (w_call (w_cons w_var w_nil) rfl rfl (e_full n hn)))) ?_)
  unfold twoB
  rw [← List.length_map (f := fun k : Nat => nD k)]
  refine u_ret (w_op (w_cb (w_cons (w_lcf (own := [3]) (asg := asgN 3) T (fun k : Nat => nD k) (fun k : Nat => nD k) (loB n T) (w_anyL w_var) (by omega) fun hi hh => ⟨[some (.d (nD n)), some (.d (msD T)), some (.d (nD (2 ^ n - 1))), some (.d (nD hi)), none], rfl, ?_, fun _ => w_var⟩) w_nil) (len_b _)) w_c (o_gt0 _))
  unfold loB
  rw [← List.length_map (f := fun k : Nat => nD k)]
  exact w_op (w_cb (w_cons (w_lcf (own := [4]) (asg := asgN 4) T (fun k : Nat => nD k) (fun k : Nat => nD k) (fun lo => decide (hi ||| lo = 2 ^ n - 1)) (w_anyL w_var) (by omega) fun lo hlo => ⟨[some (.d (nD n)), some (.d (msD T)), some (.d (nD (2 ^ n - 1))), some (.d (nD hi)), some (.d (nD lo))], rfl, w_op (w_op w_var w_var (o_or _ _)) w_var (o_eqN _ _), fun _ => w_var⟩) w_nil) (len_b _)) w_c (o_gt0 _)
theorem rest_bit {n m i : Nat} (hm : m < 2 ^ n) : (2 ^ n - (m + 1)).testBit i = (decide (i < n) && !m.testBit i) := Nat.testBit_two_pow_sub_succ hm i
theorem two_iff {n : Nat} {E : Nat → Bool} {T : List Nat} (f : Fr n E T) : decide (0 < (pars n E).length) = twoB n T := by
  rw [Bool.eq_iff_iff, decide_eq_true_iff, decide_eq_true_iff, List.length_pos_iff_exists_mem, List.length_pos_iff_exists_mem]
  constructor
  · rintro ⟨m, hm⟩
    obtain ⟨h1, h2⟩ := List.mem_filter.mp hm
    have h1 := List.mem_range.mp h1
    rw [Bool.and_eq_true] at h2
    obtain ⟨hi, a1, a2⟩ := (f.gen.2 m h1).mp h2.1
    obtain ⟨lo, b1, b2⟩ := (f.gen.2 _ rest_lt).mp h2.2
    refine ⟨hi, List.mem_filter.mpr ⟨a1, decide_eq_true (List.length_pos_iff_exists_mem.mpr ⟨lo, List.mem_filter.mpr ⟨b1, decide_eq_true ?_⟩⟩)⟩⟩
    refine Nat.eq_of_testBit_eq fun i => ?_
    rw [Nat.testBit_or, Nat.testBit_two_pow_sub_one]
    by_cases hi' : i < n
    · rw [decide_eq_true hi', Bool.or_eq_true]
      cases q : m.testBit i with
      | true => exact .inl (wt_iff.mp a2 i q)
      | false => exact .inr (wt_iff.mp b2 i (by rw [rest_bit h1, decide_eq_true hi', q]; rfl))
    · rw [decide_eq_false hi', bit_high (f.fe.lt hi a1) (by omega), bit_high (f.fe.lt lo b1) (by omega)]; rfl
  · rintro ⟨hi, h⟩
    obtain ⟨a1, a2⟩ := List.mem_filter.mp h
    obtain ⟨lo, h2⟩ := List.length_pos_iff_exists_mem.mp (of_decide_eq_true a2)
    obtain ⟨b1, b2⟩ := List.mem_filter.mp h2
    have b2 := of_decide_eq_true b2
    have lt := f.fe.lt hi a1
    refine ⟨hi, List.mem_filter.mpr ⟨List.mem_range.mpr lt, ?_⟩⟩
    show (E hi && E (2 ^ n - (hi + 1))) = true
    rw [(f.gen.2 hi lt).mpr ⟨hi, a1, wt_refl hi⟩, (f.gen.2 _ rest_lt).mpr ⟨lo, b1, wt_iff.mpr fun i hi2 => ?_⟩]
    · rfl
    · rw [rest_bit lt, Bool.and_eq_true, decide_eq_true_iff, Bool.not_eq_true'] at hi2
      have z : (hi ||| lo).testBit i = true := by rw [b2, Nat.testBit_two_pow_sub_one, decide_eq_true hi2.1]
      rw [Nat.testBit_or, hi2.2, Bool.false_or] at z
      exact z
end K3

set_option Elab.async false
set_option linter.all false
set_option autoImplicit false
set_option maxRecDepth 100000
set_option maxHeartbeats 2000000
namespace K3
open PySem PySem.Spec PyProof.Rows L2 Dn
variable {C : Addr}
theorem o_neB (b : Bool) {γ : Type} {ρ : Dn.Env} {g g1 g2 : γ} {φ ψ : Fn γ} (ha : φ ρ g = .ok (.d (.bool b)) g1) (hb : ψ ρ g1 = .ok (.d (.bool b)) g2) : fOp oNeS (fCB bRepr (aCons φ aNil)) (fCB bRepr (aCons ψ aNil)) ρ g = .ok (.d (.bool false)) g2 := w_reprNe (shy_bool b) (by decide) ha hb
theorem o_neBB (b : Bool) : oNeS (.d (.bool b)) (.d (.bool b)) = some (.d (.bool false)) := by cases b <;> rfl
theorem mem_pars {n m : Nat} {E : Nat → Bool} (hm : m < 2 ^ n) : decide (m ∈ pars n E) = parE n E m := by
  rw [Bool.eq_iff_iff, decide_eq_true_iff]
  exact ⟨fun h => (List.mem_filter.mp h).2, fun h => List.mem_filter.mpr ⟨List.mem_range.mpr hm, h⟩⟩
theorem w_rngF {ρ : Dn.Env} {n : Nat} (hn : n ≤ 6) {i : Nat} (h : ρ[i]? = some (some (.d (nD n)))) {γ : Type} {g : γ} : (iRng1F (aCons (fOp oAdd (fCall 1 (v__law_full C) (aCons (fVar i) aNil)) (fC (.int 1))) aNil) : FnI γ) ρ g = .ok ((List.range (2 ^ n)).map fun k : Nat => PyData.int k) g :=
  w_rng1 (w_cons (w_op (w_call (w_cons (w_var h) w_nil) rfl rfl (e_full n hn)) w_c (by rw [← full_one n]; exact o_addN _ 1)) w_nil) (pow_mil hn)
theorem e_partings_hold {n : Nat} {E : Nat → Bool} {T : List Nat} (f : Fr n E T) : v__law_partings_hold C [nD n, lsD n T, msD T, msD (pars n E)] = okB true := by
  have hn := f.hn
  have hp := pow_le hn
  have sh := (shy_lots hn (M := pars n E) (by have := pars_len hn E; omega)).1
  obtain ⟨P, hP⟩ : ∃ P, P = msD (pars n E) := ⟨_, rfl⟩
  obtain ⟨F, hF⟩ : ∃ F, F = lsD n T := ⟨_, rfl⟩
  have key := loop_rng (γ := Unit) (asg := asgN 4) (body := sIf (fOp oNeS (fCB bRepr (aCons (fCall 3 (v_is_parting C) (aCons (fVar 0) (aCons (fVar 1) (aCons (fCall 2 (v__law_lot_of C) (aCons (fVar 0) (aCons (fVar 4) aNil))) aNil)))) aNil)) (fCB bRepr (aCons (fOp (oInX false) (fVar 4) (fVar 3)) aNil))) (sRet (fC (.bool false))) sNil) (2 ^ n)
    (fun i ρ _ => ∃ t : Option SV, ρ = [some (.d (nD n)), some (.d F), some (.d (msD T)), some (.d P), t, none]) ?_ [some (.d (nD n)), some (.d F), some (.d (msD T)), some (.d P), none, none] () ⟨none, rfl⟩
  · obtain ⟨ρ', g', e, t, rfl⟩ := key
    rw [← hP, ← hF]
    refine run_body (Eq.trans (u_seq (Eq.trans (u_for (w_rngF hn rfl)) e)) ?_)
    have hlen : bLen [.d P] = some (.d (nD (pars n E).length)) := by
      rw [hP]
      show some (SV.d (.int ((((pars n E).map fun k : Nat => nD k).length : Nat) : Int))) = _
      rw [List.length_map]
    refine Eq.trans (u_seq (Eq.trans (u_ifF (w_op (w_op (w_cb (w_cons w_var w_nil) hlen) w_c (o_gt0 _)) (w_call (w_cons w_var (w_cons w_var w_nil)) rfl rfl (e_two hn (by have := f.len; omega))) (by rw [two_iff f]; exact o_neBB _))) u_nil)) ?_
    refine Eq.trans (u_seq (u_set (w_cb (w_cons (w_call (w_cons w_var (w_cons w_var w_nil)) rfl rfl (by rw [hP]; exact e_set_of hn _ (by have := pars_len hn E; omega))) w_nil) (v_repr sh (by decide))))) ?_
    refine u_ret (w_and (p := true) (q := true) (w_op (w_cb (w_cons (w_call (w_cons w_var (w_cons w_var w_nil)) rfl rfl (by rw [hF]; exact e_partings_of f)) w_nil) (v_repr sh (by decide))) w_var (o_eqS _)) fun _ => w_op (w_cb (w_cons (w_call (w_cons w_var (w_cons w_var w_nil)) rfl rfl ?_) w_nil) (v_repr sh (by decide))) w_var (o_eqS _))
    rw [hF]
    exact e_partings_of f
  · rintro i ρ g hi ⟨t, rfl⟩
    refine ⟨_, _, (), rfl, Eq.trans (u_ifF (o_neB (parE n E i) (w_call (w_cons w_var (w_cons w_var (w_cons (w_call (w_cons w_var (w_cons w_var w_nil)) rfl rfl (e_lot_of hn)) w_nil))) rfl rfl (by rw [hF]; exact e_is_parting f hi)) (w_op w_var w_var ?_))) u_nil, some (.d (nD i)), rfl⟩
    rw [hP, ← mem_pars hi]
    exact inV_natsD _ _
/-! ### tuples in lists -/
theorem eqvAll_ints : ∀ a b : List Int, PyData.eqvAll (a.map PyData.int) (b.map PyData.int) = decide (a = b)
  | [], [] => rfl
  | [], _ :: _ => rfl
  | _ :: _, [] => rfl
  | x :: a, y :: b => by
    show (PyData.eqv (.int x) (.int y) && PyData.eqvAll (a.map PyData.int) (b.map PyData.int)) = _
    rw [eqvAll_ints a b]
    have : PyData.eqv (.int x) (.int y) = decide (x = y) := by
      show (x == y) = _
      rw [Bool.eq_iff_iff, beq_iff_eq, decide_eq_true_iff]
    rw [this, Bool.eq_iff_iff, Bool.and_eq_true, decide_eq_true_iff, decide_eq_true_iff, decide_eq_true_iff, List.cons.injEq]
theorem eqv_tupD (a b : List Int) : PyData.eqv (tupD a) (tupD b) = decide (a = b) := eqvAll_ints a b
theorem shaped_of {d : PyData} {w : Nat} (h : Shy d w) : SeqAt.shaped d = true := by
  unfold SeqAt.shaped
  rw [h.lay, decide_eq_true (Nat.le_trans h.dep (by decide))]; rfl
/-- x not in xs: of tuples of small ints in a list -/
theorem nin_tups {x : List Int} {xs : List (List Int)} (hx : Shy (tupD x) 54) (hxs : ∀ y ∈ xs, Shy (tupD y) 54 ∧ (tupD y).depth ≤ 8) : oInX true (.d (tupD x)) (.b (xs.map tupD)) = some (.d (.bool (!decide (x ∈ xs)))) := by
  have hl := (shy_tup (ds := xs.map tupD) (w := 54) fun d hd => by
    obtain ⟨y, hy, rfl⟩ := List.mem_map.mp hd
    exact hxs y hy).2
  unfold oInX
  show oInD true (.d (tupD x)) (.b (xs.map tupD)) = _
  show (if SeqAt.shaped (tupD x) = true ∧ SeqAt.shaped (.list (xs.map tupD)) = true then some (SV.d (.bool (if true = true then !(xs.map tupD).any fun z => PyData.eqv z (tupD x) else (xs.map tupD).any fun z => PyData.eqv z (tupD x)))) else none) = _
  rw [if_pos ⟨shaped_of hx, shaped_of hl⟩, if_pos rfl, List.any_map]
  congr 4
  rw [Bool.eq_iff_iff, List.any_eq_true, decide_eq_true_iff]
  constructor
  · rintro ⟨y, hy, e⟩
    have e : PyData.eqv (tupD y) (tupD x) = true := e
    rw [eqv_tupD, decide_eq_true_iff] at e
    rw [← e]; exact hy
  · intro h
    exact ⟨x, h, by show PyData.eqv (tupD x) (tupD x) = true; rw [eqv_tupD, decide_eq_true rfl]⟩
theorem atom_len {n a : Nat} {P : List Nat} : (atomL n P a).length ≤ n := by
  show (((List.range n).filter fun b => sameB P a b).map fun b : Nat => (b : Int)).length ≤ n
  rw [List.length_map]
  exact Nat.le_trans (List.length_filter_le _ _) (by rw [List.length_range]; exact Nat.le_refl _)
theorem shy_atom {n a : Nat} {P : List Nat} (hn : n ≤ 6) : Shy (tupD (atomL n P a)) 54 ∧ (tupD (atomL n P a)).depth ≤ 8 := by
  obtain ⟨p, q⟩ := shy_tI (cs := atomL n P a) fun c hc => by
    obtain ⟨i, hi, rfl⟩ := List.mem_map.mp hc
    have := List.mem_range.mp (List.mem_filter.mp hi).1
    exact ⟨by omega, by omega⟩
  refine ⟨⟨p.lay, p.dep, Nat.le_trans p.wt ?_, p.ish, p.shw⟩, by omega⟩
  have := atom_len (n := n) (a := a) (P := P)
  omega
theorem mem_atomsL {n : Nat} {P : List Nat} {x : List Int} : x ∈ atomsL n P ↔ ∃ h, h < n ∧ x = atomL n P h := by
  rw [(srtL_perm _).mem_iff, mem_nubL, List.mem_map]
  exact ⟨fun ⟨h, a, e⟩ => ⟨h, List.mem_range.mp a, e.symm⟩, fun ⟨h, a, e⟩ => ⟨h, List.mem_range.mpr a, e.symm⟩⟩
theorem nub_len : ∀ l : List (List Int), (nubL l).length ≤ l.length
  | [] => Nat.le_refl _
  | x :: r => by
    have := nub_len r
    unfold nubL
    split
    · rw [List.length_cons]; omega
    · rw [List.length_cons, List.length_cons]; omega
theorem atoms_len {n : Nat} {P : List Nat} : (atomsL n P).length ≤ n := by
  rw [(srtL_perm _).length_eq]
  refine Nat.le_trans (nub_len _) ?_
  rw [List.length_map, List.length_range]
  exact Nat.le_refl _
theorem shy_atoms {n : Nat} {P : List Nat} (hn : n ≤ 6) : Shy (.tuple ((atomsL n P).map tupD)) 60000 := by
  have z := (shy_tup (ds := (atomsL n P).map tupD) (w := 54) fun d hd => by
    obtain ⟨y, hy, rfl⟩ := List.mem_map.mp hd
    obtain ⟨h, _, rfl⟩ := mem_atomsL.mp hy
    exact shy_atom hn).1
  rw [List.length_map] at z
  refine ⟨z.lay, z.dep, Nat.le_trans z.wt (Nat.le_trans (Nat.mul_le_mul_right _ (Nat.le_trans atoms_len hn)) (by decide)), z.ish, z.shw⟩
abbrev matesD (n : Nat) (P : List Nat) : PyData := .list ((List.range n).map fun h => tupD (atomL n P h))
theorem ix_mates {n h : Nat} {P : List Nat} (hh : h < n) : oIx (.d (matesD n P)) (.d (nD h)) = some (.d (tupD (atomL n P h))) := by
  show (atI ((List.range n).map fun h => tupD (atomL n P h)) (h : Int)).map SV.d = _
  rw [atI_nat (by rw [List.getElem?_map, List.getElem?_range hh]; rfl)]
  rfl
/-- the atoms as they come -/
structure At (n : Nat) (P : List Nat) (i : Nat) (L : List (List Int)) : Prop where
  nd : L.Nodup
  mem : ∀ x, x ∈ L ↔ ∃ h, h < i ∧ x = atomL n P h
  len : L.length ≤ i
theorem at_sorted {n : Nat} {P : List Nat} {L : List (List Int)} (a : At n P n L) : srtL L = atomsL n P :=
  sorted_ext (srtL_sorted _) (srtL_sorted _) ((srtL_perm _).nodup_iff.mpr a.nd) ((srtL_perm _).nodup_iff.mpr (nubL_nodup _)) fun x => by
    rw [(srtL_perm _).mem_iff, a.mem, mem_atomsL]
theorem e_atoms_loop {n : Nat} {E : Nat → Bool} {T : List Nat} (f : Fr n E T) : ∃ L t5 t7, loopD (γ := Unit) (asgN 5) (sSeq (sAsg 7 (fOp oIx (fVar 3) (fVar 5)))
      (sSeq (sIf (fOp oNeS (fCB bRepr (aCons (fCall 3 (v_atom_at C) (aCons (fVar 0) (aCons (fVar 1) (aCons (fVar 5) aNil)))) aNil)) (fCB bRepr (aCons (fVar 7) aNil))) (sRet (fC (.bool false))) sNil)
      (sIf (fOp (oInX true) (fVar 7) (fVar 4)) (sApp 4 (fVar 7)) sNil))) ((List.range n).map fun k : Nat => PyData.int (k : Int))
      [some (.d (nD n)), some (.d (lsD n T)), some (.d (msD (pars n E))), some (.d (matesD n (pars n E))), some (.l []), none, none, none, none] () =
      .next [some (.d (nD n)), some (.d (lsD n T)), some (.d (msD (pars n E))), some (.d (matesD n (pars n E))), some (.l (L.map tupD)), t5, none, t7, none] () ∧ At n (pars n E) n L := by
  have hn := f.hn
  obtain ⟨P, hP⟩ : ∃ P, P = pars n E := ⟨_, rfl⟩
  have key := loop_rng (γ := Unit) (asg := asgN 5) (body := sSeq (sAsg 7 (fOp oIx (fVar 3) (fVar 5)))
      (sSeq (sIf (fOp oNeS (fCB bRepr (aCons (fCall 3 (v_atom_at C) (aCons (fVar 0) (aCons (fVar 1) (aCons (fVar 5) aNil)))) aNil)) (fCB bRepr (aCons (fVar 7) aNil))) (sRet (fC (.bool false))) sNil)
      (sIf (fOp (oInX true) (fVar 7) (fVar 4)) (sApp 4 (fVar 7)) sNil))) n
    (fun i ρ _ => ∃ L t5 t7, ρ = [some (.d (nD n)), some (.d (lsD n T)), some (.d (msD P)), some (.d (matesD n P)), some (.l (L.map tupD)), t5, none, t7, none] ∧ At n P i L) ?_ [some (.d (nD n)), some (.d (lsD n T)), some (.d (msD P)), some (.d (matesD n P)), some (.l []), none, none, none, none] () ⟨[], none, none, rfl, List.nodup_nil, fun x => ⟨fun z => (nomatch z), fun ⟨h, a, _⟩ => absurd a (by omega)⟩, Nat.le_refl _⟩
  · obtain ⟨ρ', g', e, L, t5, t7, rfl, a⟩ := key
    rw [hP] at e a
    exact ⟨L, t5, t7, e, a⟩
  · rintro i ρ g hi ⟨L, t5, t7, rfl, a⟩
    have allL : ∀ y ∈ L, Shy (tupD y) 54 ∧ (tupD y).depth ≤ 8 := fun y hy => by
      obtain ⟨h, _, rfl⟩ := (a.mem y).mp hy
      exact shy_atom hn
    have sa := (shy_atom (n := n) (a := i) (P := P) hn).1
    have hc : (fOp (oInX true) (fVar 7) (fVar 4) : Fn Unit) [some (.d (nD n)), some (.d (lsD n T)), some (.d (msD P)), some (.d (matesD n P)), some (.l (L.map tupD)), some (.d (nD i)), none, some (.d (tupD (atomL n P i))), none] () = .ok (.d (.bool (!decide (atomL n P i ∈ L)))) () := w_op w_var w_varL (nin_tups sa allL)
    have pre : ∀ ρ2, sIf (fOp (oInX true) (fVar 7) (fVar 4)) (sApp 4 (fVar 7)) sNil [some (.d (nD n)), some (.d (lsD n T)), some (.d (msD P)), some (.d (matesD n P)), some (.l (L.map tupD)), some (.d (nD i)), none, some (.d (tupD (atomL n P i))), none] () = .next ρ2 () →
      sSeq (sAsg 7 (fOp oIx (fVar 3) (fVar 5)))
      (sSeq (sIf (fOp oNeS (fCB bRepr (aCons (fCall 3 (v_atom_at C) (aCons (fVar 0) (aCons (fVar 1) (aCons (fVar 5) aNil)))) aNil)) (fCB bRepr (aCons (fVar 7) aNil))) (sRet (fC (.bool false))) sNil)
      (sIf (fOp (oInX true) (fVar 7) (fVar 4)) (sApp 4 (fVar 7)) sNil)) [some (.d (nD n)), some (.d (lsD n T)), some (.d (msD P)), some (.d (matesD n P)), some (.l (L.map tupD)), some (.d (nD i)), none, t7, none] () = .next ρ2 () := fun ρ2 h =>
      Eq.trans (u_seq (u_set (w_op w_var w_var (ix_mates hi)))) (Eq.trans (u_seq (Eq.trans (u_ifF (w_reprNe sa (by decide) (w_call (w_cons w_var (w_cons w_var (w_cons w_var w_nil))) rfl rfl (by rw [hP]; exact e_atom_at f hi)) (w_var (x := tupD (atomL n P i)) rfl))) u_nil)) h)
    by_cases c : atomL n P i ∈ L
    · rw [decide_eq_true c] at hc
      refine ⟨_, _, (), rfl, pre _ (Eq.trans (u_ifF hc) u_nil), L, some (.d (nD i)), some (.d (tupD (atomL n P i))), rfl, a.nd, fun x => ?_, Nat.le_succ_of_le a.len⟩
      rw [a.mem]
      constructor
      · rintro ⟨h, h1, h2⟩
        exact ⟨h, by omega, h2⟩
      · rintro ⟨h, h1, h2⟩
        by_cases e : h = i
        · subst e
          exact (a.mem x).mp (by rw [h2]; exact c)
        · exact ⟨h, by omega, h2⟩
    · rw [decide_eq_false c] at hc
      refine ⟨_, _, (), rfl, pre _ (Eq.trans (u_ifT hc) (u_app rfl w_var (by rw [List.length_map]; have := a.len; omega))), L ++ [atomL n P i], some (.d (nD i)), some (.d (tupD (atomL n P i))), ?_, ?_, fun x => ?_, ?_⟩
      · rw [List.map_append]; rfl
      · rw [List.nodup_append]
        exact ⟨a.nd, by simp, fun p hp q hq e => c (by rw [← List.mem_singleton.mp hq, ← e]; exact hp)⟩
      · rw [List.mem_append, List.mem_singleton, a.mem]
        constructor
        · rintro (⟨h, h1, h2⟩ | h)
          · exact ⟨h, by omega, h2⟩
          · exact ⟨i, by omega, h⟩
        · rintro ⟨h, h1, h2⟩
          by_cases e : h = i
          · subst e; exact .inr h2
          · exact .inl ⟨h, by omega, h2⟩
      · rw [List.length_append]; have := a.len; simp; exact this
end K3

set_option Elab.async false
set_option linter.all false
set_option autoImplicit false
set_option maxRecDepth 100000
set_option maxHeartbeats 2000000
namespace K3
open PySem PySem.Spec PyProof.Rows L2 Dn
variable {C : Addr}
theorem sortedT (L : List (List Int)) : bSorted [.b (L.map tupD)] = some (.l ((srtL L).map tupD)) := by
  show (match tupsD (L.map tupD) with | some nss => some (SV.l ((srtL nss).map tupD)) | none => _) = _
  rw [tupsD_map]
theorem u_frzD {ρ : Dn.Env} {i : Nat} {x : PyData} {γ : Type} {ψ : SFn γ} {g : γ} (h : ρ[i]? = some (some (.d x))) : sFrz i ψ ρ g = ψ ρ g := by
  show ψ (frzAt i ρ) g = _
  unfold frzAt
  rw [h]
/-- all houses of an atom stand alike in a parting -/
theorem cnt_atom {n h m : Nat} {P : List Nat} (hm : m ∈ P) : (((List.range n).filter fun b => sameB P h b).filter fun b => m.testBit b) = if m.testBit h = true then (List.range n).filter fun b => sameB P h b else [] := by
  have key : ∀ b ∈ (List.range n).filter (fun b => sameB P h b), m.testBit b = m.testBit h := fun b hb => by
    have z := (List.mem_filter.mp hb).2
    have := List.all_eq_true.mp z m hm
    exact (beq_iff_eq.mp this).symm
  by_cases c : m.testBit h = true
  · rw [if_pos c]
    exact List.filter_eq_self.mpr fun b hb => by rw [key b hb]; exact c
  · rw [if_neg c]
    exact List.filter_eq_nil_iff.mpr fun b hb => by rw [key b hb]; exact c
theorem e_atoms_hold {n : Nat} {E : Nat → Bool} {T : List Nat} (f : Fr n E T) : v__law_atoms_hold C [nD n, lsD n T, msD (pars n E), matesD n (pars n E)] = okB true := by
  have hn := f.hn
  obtain ⟨L, t5, t7, e1, a⟩ := e_atoms_loop (C := C) f
  have sh := shy_atoms (n := n) (P := pars n E) hn
  have ef := e_atoms_of (C := C) f
  obtain ⟨P, hP⟩ : ∃ P, P = pars n E := ⟨_, rfl⟩
  rw [← hP] at e1 a sh ef ⊢
  refine run_body (Eq.trans (u_seq (u_set (w_lst w_nil rfl (by decide)))) (Eq.trans (u_seq (Eq.trans (u_for (w_rng1 (w_cons w_var w_nil) (by omega))) e1)) ?_))
  have es : bTuple [.l ((srtL L).map tupD)] = some (.d (.tuple ((atomsL n P).map tupD))) := by rw [at_sorted a]; rfl
  refine Eq.trans (u_seq (Eq.trans (u_ifF (w_reprNe sh (by decide) (w_call (w_cons w_var (w_cons w_var w_nil)) rfl rfl ef) (w_cb (w_cons (w_cb (w_cons w_varL w_nil) (sortedT L)) w_nil) es))) u_nil)) ?_
  refine Eq.trans (u_seq (Eq.trans (u_ifF (w_reprNe sh (by decide) (w_call (w_cons w_var (w_cons w_var w_nil)) rfl rfl (by exact ef)) (w_cb (w_cons (w_cb (w_cons w_varL w_nil) (sortedT L)) w_nil) es))) u_nil)) ?_
  have hlL : L.length ≤ 6 := Nat.le_trans a.len hn
  -- one mark against all atoms
  have inner : ∀ m ∈ P, ∀ (t5 t7 t8 : Option SV), ∃ t8', loopD (γ := Unit) (asgN 8) (sIf (fOp (oInX true) (fCB bLen (aCons (fLc [5] (iAny (fVar 8)) (asgN 5) (fOp oEqS (fCall 2 (v__law_has C) (aCons (fVar 6) (aCons (fVar 5) aNil))) (fC (.int 1))) (fVar 5)) aNil)) (fTup (aCons (fC (.int 0)) (aCons (fCB bLen (aCons (fVar 8) aNil)) aNil)))) (sRet (fC (.bool false))) sNil) (L.map tupD)
      [some (.d (nD n)), some (.d (lsD n T)), some (.d (msD P)), some (.d (matesD n P)), some (.d (.list (L.map tupD))), t5, some (.d (nD m)), t7, t8] () = .next [some (.d (nD n)), some (.d (lsD n T)), some (.d (msD P)), some (.d (matesD n P)), some (.d (.list (L.map tupD))), t5, some (.d (nD m)), t7, t8'] () := fun m hm t5 t7 t8 => by
    have key := loop_invM (γ := Unit) (asg := asgN 8) (body := sIf (fOp (oInX true) (fCB bLen (aCons (fLc [5] (iAny (fVar 8)) (asgN 5) (fOp oEqS (fCall 2 (v__law_has C) (aCons (fVar 6) (aCons (fVar 5) aNil))) (fC (.int 1))) (fVar 5)) aNil)) (fTup (aCons (fC (.int 0)) (aCons (fCB bLen (aCons (fVar 8) aNil)) aNil)))) (sRet (fC (.bool false))) sNil) tupD
      (fun rest ρ _ => (∀ x ∈ rest, x ∈ L) ∧ ∃ t8', ρ = [some (.d (nD n)), some (.d (lsD n T)), some (.d (msD P)), some (.d (matesD n P)), some (.d (.list (L.map tupD))), t5, some (.d (nD m)), t7, t8']) ?_ L [some (.d (nD n)), some (.d (lsD n T)), some (.d (msD P)), some (.d (matesD n P)), some (.d (.list (L.map tupD))), t5, some (.d (nD m)), t7, t8] () ⟨fun x hx => hx, t8, rfl⟩
    · obtain ⟨ρ', g', e, _, t8', rfl⟩ := key
      exact ⟨t8', e⟩
    · rintro x rest ρ g ⟨hx, t8', rfl⟩
      obtain ⟨h, hh, ex⟩ := (a.mem x).mp (hx x List.mem_cons_self)
      obtain ⟨S, hS⟩ : ∃ S, S = (List.range n).filter fun b => sameB P h b := ⟨_, rfl⟩
      have sl : S.length ≤ n := by
        rw [hS]
        exact Nat.le_trans (List.length_filter_le _ _) (by rw [List.length_range]; exact Nat.le_refl _)
      have sb : ∀ b ∈ S, b < n := fun b hb => by
        rw [hS] at hb
        exact List.mem_range.mp (List.mem_filter.mp hb).1
      have ed : tupD x = .tuple (S.map fun b : Nat => nD b) := by
        rw [ex, hS]
        show PyData.tuple ((((List.range n).filter fun b => sameB P h b).map fun b : Nat => (b : Int)).map PyData.int) = _
        rw [List.map_map]
        rfl
      refine ⟨[some (.d (nD n)), some (.d (lsD n T)), some (.d (msD P)), some (.d (matesD n P)), some (.d (.list (L.map tupD))), t5, some (.d (nD m)), t7, some (.d (tupD x))], _, (), rfl, Eq.trans (u_ifF ?_) u_nil, fun y hy => hx y (List.mem_cons_of_mem _ hy), some (.d (tupD x)), rfl⟩
      rw [ed]
      have el : bLen [.l ((S.filter fun b => m.testBit b).map fun b : Nat => nD b)] = some (.d (nD (S.filter fun b => m.testBit b).length)) := by
        rw [len_b, List.length_map]
      have el2 : bLen [.d (.tuple (S.map fun b : Nat => nD b))] = some (.d (nD S.length)) := by
        show some (SV.d (.int (((S.map fun b : Nat => nD b).length : Nat) : Int))) = _
        rw [List.length_map]
      have hin : oInX true (.d (nD (S.filter fun b => m.testBit b).length)) (.d (.tuple [nD 0, nD S.length])) = some (.d (.bool false)) := by
        have z := o_nin ((S.filter fun b => m.testBit b).length : Int) [0, (S.length : Int)]
        have : decide (((S.filter fun b => m.testBit b).length : Int) ∈ [0, (S.length : Int)]) = true := by
          rw [decide_eq_true_iff, hS, cnt_atom hm, ← hS]
          by_cases c : m.testBit h = true
          · rw [if_pos c]; simp
          · rw [if_neg c]; simp
        rw [this] at z
        exact z
      refine w_op (w_cb (w_cons (w_lcf (own := [5]) (asg := asgN 5) S (fun b : Nat => nD b) (fun b : Nat => nD b) (fun b => m.testBit b) (w_any (w_var (x := .tuple (S.map fun b : Nat => nD b)) rfl)) (by omega) fun b hb => ⟨[some (.d (nD n)), some (.d (lsD n T)), some (.d (msD P)), some (.d (matesD n P)), some (.d (.list (L.map tupD))), some (.d (nD b)), some (.d (nD m)), t7, some (.d (.tuple (S.map fun b : Nat => nD b)))], rfl, ?_, fun _ => w_var⟩) w_nil) el) (w_tup (w_cons w_c (w_cons (w_cb (w_cons w_var w_nil) el2) w_nil)) rfl (by simp)) hin
      rw [← one_eq (m.testBit b)]
      exact w_op (w_call (w_cons w_var (w_cons w_var w_nil)) rfl rfl (e_has (by have := sb b hb; omega))) w_c (o_eqI _ _)
  have key := loop_invM (γ := Unit) (asg := asgN 6) (body := sFrz 4 (sFor (iAny (fVar 4)) (asgN 8) (sIf (fOp (oInX true) (fCB bLen (aCons (fLc [5] (iAny (fVar 8)) (asgN 5) (fOp oEqS (fCall 2 (v__law_has C) (aCons (fVar 6) (aCons (fVar 5) aNil))) (fC (.int 1))) (fVar 5)) aNil)) (fTup (aCons (fC (.int 0)) (aCons (fCB bLen (aCons (fVar 8) aNil)) aNil)))) (sRet (fC (.bool false))) sNil))) (fun k : Nat => nD k)
    (fun rest ρ _ => (∀ m ∈ rest, m ∈ P) ∧ ∃ x t6 t8, (x = .l (L.map tupD) ∨ x = .d (.list (L.map tupD))) ∧ ρ = [some (.d (nD n)), some (.d (lsD n T)), some (.d (msD P)), some (.d (matesD n P)), some x, t5, t6, t7, t8]) ?_ P [some (.d (nD n)), some (.d (lsD n T)), some (.d (msD P)), some (.d (matesD n P)), some (.l (L.map tupD)), t5, none, t7, none] () ⟨fun m hm => hm, _, none, none, .inl rfl, rfl⟩
  · obtain ⟨ρ', g', e, _, x, t6, t8, _, rfl⟩ := key
    exact Eq.trans (u_seq (Eq.trans (u_for (w_anyL w_var)) e)) (u_ret w_c)
  · rintro m rest ρ g ⟨hall, x, t6, t8, hx, rfl⟩
    obtain ⟨t8', e⟩ := inner m (hall m List.mem_cons_self) t5 t7 t8
    refine ⟨[some (.d (nD n)), some (.d (lsD n T)), some (.d (msD P)), some (.d (matesD n P)), some x, t5, some (.d (nD m)), t7, t8], _, (), rfl, ?_, fun y hy => hall y (List.mem_cons_of_mem _ hy), .d (.list (L.map tupD)), some (.d (nD m)), t8', .inr rfl, rfl⟩
    rcases hx with rfl | rfl
    · exact Eq.trans (u_frzL rfl) (Eq.trans (u_for (w_anyL w_var)) e)
    · exact Eq.trans (u_frzD rfl) (Eq.trans (u_for (w_anyL w_var)) e)
/-! ### parting_of -/
abbrev pairD (q : Nat × Nat) : PyData := .tuple [nD q.1, nD q.2]
theorem pars_rest {n m : Nat} {E : Nat → Bool} (h : m ∈ pars n E) : 2 ^ n - (m + 1) ∈ pars n E := by
  obtain ⟨h1, h2⟩ := List.mem_filter.mp h
  have h1 := List.mem_range.mp h1
  refine List.mem_filter.mpr ⟨List.mem_range.mpr rest_lt, ?_⟩
  show (E (2 ^ n - (m + 1)) && E (2 ^ n - (2 ^ n - (m + 1) + 1))) = true
  rw [show 2 ^ n - (2 ^ n - (m + 1) + 1) = m by omega, Bool.and_comm]
  exact h2
theorem cut_lot {n m a b : Nat} (ha : a < n) (hb : b < n) : cutB a b (lot n m) = (m.testBit a && !m.testBit b) := by
  unfold cutB
  rw [dec_lot ha, dec_lot hb]
theorem told_none {n a b : Nat} {P : List Nat} (ha : a < n) (hb : b < n) (h : sameB P a b = true) : (lots n P).find? (cutB a b) = none := by
  rw [List.find?_eq_none]
  intro x hx
  obtain ⟨m, hm, rfl⟩ := mem_lots.mp hx
  rw [cut_lot ha hb]
  have := beq_iff_eq.mp (List.all_eq_true.mp h m hm)
  rw [this]
  cases m.testBit b <;> decide
theorem told_some {n a b : Nat} {E : Nat → Bool} (ha : a < n) (hb : b < n) (h : sameB (pars n E) a b = false) : ∃ x, (lots n (pars n E)).find? (cutB a b) = some x ∧ x ∈ lots n (pars n E) ∧ decide ((a : Int) ∈ x) = true ∧ decide ((b : Int) ∈ x) = false := by
  cases q : (lots n (pars n E)).find? (cutB a b) with
  | none =>
    exfalso
    rw [List.find?_eq_none] at q
    obtain ⟨m, hm, ne⟩ := List.all_eq_false.mp h
    have lt := List.mem_range.mp (List.mem_filter.mp hm).1
    have q1 := q _ (mem_lots.mpr ⟨m, hm, rfl⟩)
    have q2 := q _ (mem_lots.mpr ⟨_, pars_rest hm, rfl⟩)
    rw [cut_lot ha hb] at q1 q2
    rw [rest_bit lt, rest_bit lt, decide_eq_true ha, decide_eq_true hb] at q2
    revert ne q1 q2
    cases m.testBit a <;> cases m.testBit b <;> decide
  | some x =>
    have z := List.find?_some q
    unfold cutB at z
    rw [Bool.and_eq_true, Bool.not_eq_true'] at z
    exact ⟨x, rfl, List.mem_of_find?_eq_some q, z.1, z.2⟩
theorem flat_strs : ∀ ys : List Str, flatAll (ys.map PyData.str) = some (ys.map V.str)
  | [] => rfl
  | y :: r => by
    show (flatD (.str y)).bind (fun v => (flatAll (r.map PyData.str)).map (v :: ·)) = _
    rw [flat_strs r]
    rfl
theorem inV_str (x : Str) : ∀ ys : List Str, x ∈ ys → inV (V.str x) (ys.map V.str) = true
  | [], h => nomatch h
  | y :: r, h => by
    show (eqV (V.str y) (V.str x) || inV (V.str x) (r.map V.str)) = true
    rw [Bool.or_eq_true]
    rcases List.mem_cons.mp h with e | h
    · left
      rw [e]
      show decide (y = y) = true
      exact decide_eq_true rfl
    · exact .inr (inV_str x r h)
theorem nin_strs {x : Str} {ys : List Str} (h : x ∈ ys) : oInX true (.d (.str x)) (.l (ys.map PyData.str)) = some (.d (.bool false)) := by
  refine oInX_of ?_
  show (some (V.str x)).bind (fun v => (flatAll (ys.map PyData.str)).map fun vs => SV.d (.bool (if true = true then !inV v vs else inV v vs))) = _
  rw [flat_strs]
  show some (SV.d (.bool (!inV (V.str x) (ys.map V.str)))) = _
  rw [inV_str x ys h]
  rfl
theorem dec_atom {n a b : Nat} {P : List Nat} (hb : b < n) : decide ((b : Int) ∈ atomL n P a) = sameB P a b := by
  rw [Bool.eq_iff_iff, decide_eq_true_iff, List.mem_map]
  constructor
  · rintro ⟨k, hk, e⟩
    obtain rfl : k = b := by omega
    exact (List.mem_filter.mp hk).2
  · exact fun h => ⟨b, List.mem_filter.mpr ⟨List.mem_range.mpr hb, h⟩, rfl⟩
theorem e_parting_hold {n : Nat} {E : Nat → Bool} {T : List Nat} (f : Fr n E T) (Q : List (Nat × Nat)) (hQ : ∀ q ∈ Q, q.1 < n ∧ q.2 < n ∧ q.1 ≠ q.2) : v__law_parting_hold C [nD n, lsD n T, msD (pars n E), matesD n (pars n E), .list (Q.map pairD)] = okB true := by
  have hn := f.hn
  have hlp := pars_len hn E
  have ep := fun (a b : Nat) (ha : a < n) (hb : b < n) (ne : a ≠ b) => e_parting_of (C := C) f ha hb ne
  have ts := fun (a b : Nat) (ha : a < n) (hb : b < n) => told_some (E := E) ha hb
  obtain ⟨P, hP⟩ : ∃ P, P = pars n E := ⟨_, rfl⟩
  rw [← hP] at hlp ep ts ⊢
  refine run_body (Eq.trans (u_seq (u_set (w_call (w_cons w_var (w_cons w_var w_nil)) rfl rfl (e_set_of hn P (by omega))))) ?_)
  have key := loop_invM (γ := Unit) (asg := asgN 6) (body := sSeq (sAsg 7 (fCall 4 (v_parting_of C) (aCons (fVar 0) (aCons (fVar 1) (aCons (fOp oIx (fVar 6) (fC (.int 0))) (aCons (fOp oIx (fVar 6) (fC (.int 1))) aNil))))))
    (sIf (fOp (oInX false) (fOp oIx (fVar 6) (fC (.int 1))) (fOp oIx (fVar 3) (fOp oIx (fVar 6) (fC (.int 0))))) (sIf (fNotN (fVar 7)) (sRet (fC (.bool false))) sNil) (sSeq (sIf (fOr (fNot (fIsi "tuple" (fVar 7))) (fOp (oInX true) (fCB bRepr (aCons (fVar 7) aNil)) (fLc [8] (iAny (fVar 5)) (asgN 8) fYes (fCB bRepr (aCons (fVar 8) aNil))))) (sRet (fC (.bool false))) sNil)
    (sIf (fOr (fOp (oInX true) (fOp oIx (fVar 6) (fC (.int 0))) (fVar 7)) (fOp (oInX false) (fOp oIx (fVar 6) (fC (.int 1))) (fVar 7))) (sRet (fC (.bool false))) sNil)))) pairD
    (fun rest ρ _ => (∀ q ∈ rest, q ∈ Q) ∧ ∃ t6 t7, ρ = [some (.d (nD n)), some (.d (lsD n T)), some (.d (msD P)), some (.d (matesD n P)), some (.d (.list (Q.map pairD))), some (.d (lsD n P)), t6, t7, none]) ?_ Q [some (.d (nD n)), some (.d (lsD n T)), some (.d (msD P)), some (.d (matesD n P)), some (.d (.list (Q.map pairD))), some (.d (lsD n P)), none, none, none] () ⟨fun q hq => hq, none, none, rfl⟩
  · obtain ⟨ρ', g', e, _, t6, t7, rfl⟩ := key
    exact Eq.trans (u_seq (Eq.trans (u_for (w_anyL w_var)) e)) (u_ret w_c)
  · rintro q rest ρ g ⟨hall, t6, t7, rfl⟩
    obtain ⟨ha, hb, ne⟩ := hQ q (hall q List.mem_cons_self)
    obtain ⟨a, b⟩ := q
    have ha : a < n := ha
    have hb : b < n := hb
    have ne : a ≠ b := ne
    have i0 : ∀ {ρ : Dn.Env}, ρ[6]? = some (some (.d (pairD (a, b)))) → (fOp oIx (fVar 6) (fC (.int 0)) : Fn Unit) ρ () = .ok (.d (nD a)) () := fun h => w_op (w_var h) w_c rfl
    have i1 : ∀ {ρ : Dn.Env}, ρ[6]? = some (some (.d (pairD (a, b)))) → (fOp oIx (fVar 6) (fC (.int 1)) : Fn Unit) ρ () = .ok (.d (nD b)) () := fun h => w_op (w_var h) w_c rfl
    have e1 := u_set (γ := Unit) (i := 7) (ρ := [some (.d (nD n)), some (.d (lsD n T)), some (.d (msD P)), some (.d (matesD n P)), some (.d (.list (Q.map pairD))), some (.d (lsD n P)), some (.d (pairD (a, b))), t7, none]) (g := ()) (w_call (f := v_parting_of C) (w_cons (w_var (i := 0) (x := nD n) rfl) (w_cons (w_var (i := 1) (x := lsD n T) rfl) (w_cons (i0 rfl) (w_cons (i1 rfl) w_nil)))) rfl rfl (ep a b ha hb ne)) rfl
    have hc : (fOp (oInX false) (fOp oIx (fVar 6) (fC (.int 1))) (fOp oIx (fVar 3) (fOp oIx (fVar 6) (fC (.int 0)))) : Fn Unit) [some (.d (nD n)), some (.d (lsD n T)), some (.d (msD P)), some (.d (matesD n P)), some (.d (.list (Q.map pairD))), some (.d (lsD n P)), some (.d (pairD (a, b))), some (.d (toldD n P a b)), none] () = .ok (.d (.bool (sameB P a b))) () := by
      rw [← dec_atom hb]
      exact w_op (i1 rfl) (w_op w_var (i0 rfl) (ix_mates ha)) (o_in _ _)
    refine ⟨[some (.d (nD n)), some (.d (lsD n T)), some (.d (msD P)), some (.d (matesD n P)), some (.d (.list (Q.map pairD))), some (.d (lsD n P)), some (.d (pairD (a, b))), t7, none], [some (.d (nD n)), some (.d (lsD n T)), some (.d (msD P)), some (.d (matesD n P)), some (.d (.list (Q.map pairD))), some (.d (lsD n P)), some (.d (pairD (a, b))), some (.d (toldD n P a b)), none], (), rfl, Eq.trans (u_seq e1) ?_, fun y hy => hall y (List.mem_cons_of_mem _ hy), some (.d (pairD (a, b))), some (.d (toldD n P a b)), rfl⟩
    cases hs : sameB P a b with
    | true =>
      rw [hs] at hc
      have et : toldD n P a b = .none := by unfold toldD; rw [told_none ha hb hs]
      refine Eq.trans (u_ifT hc) ?_
      rw [et]
      exact Eq.trans (u_ifF rfl) u_nil
    | false =>
      rw [hs] at hc
      obtain ⟨x, hx, hm, ba, bb⟩ := ts a b ha hb hs
      have et : toldD n P a b = tupD x := by unfold toldD; rw [hx]
      refine Eq.trans (u_ifF hc) ?_
      rw [et]
      have shl : ∀ y ∈ lots n P, Shy (tupD y) 54 := fun y hy => by
        obtain ⟨m, _, rfl⟩ := mem_lots.mp hy
        exact (shy_lot hn).1
      have el : (fLc [8] (iAny (fVar 5)) (asgN 8) fYes (fCB bRepr (aCons (fVar 8) aNil)) : Fn Unit) [some (.d (nD n)), some (.d (lsD n T)), some (.d (msD P)), some (.d (matesD n P)), some (.d (.list (Q.map pairD))), some (.d (lsD n P)), some (.d (pairD (a, b))), some (.d (tupD x)), none] () = .ok (.l (((lots n P).map fun y => (tupD y).shown).map PyData.str)) () := by
        rw [List.map_map]
        exact w_lc (lots n P) tupD (fun y => .str (tupD y).shown) (w_any w_var) (by rw [lots_len]; omega) fun y hy => ⟨[some (.d (nD n)), some (.d (lsD n T)), some (.d (msD P)), some (.d (matesD n P)), some (.d (.list (Q.map pairD))), some (.d (lsD n P)), some (.d (pairD (a, b))), some (.d (tupD x)), some (.d (tupD y))], rfl, w_cb (w_cons w_var w_nil) (v_repr (shl y hy) (by decide))⟩
      refine Eq.trans (u_seq (Eq.trans (u_ifF (w_or (p := false) (q := false) (w_not (w_isi w_var rfl (isi_tt _))) fun _ => w_op (w_cb (w_cons w_var w_nil) (v_repr (shl x hm) (by decide))) el (nin_strs (List.mem_map.mpr ⟨x, hm, rfl⟩)))) u_nil)) ?_
      refine Eq.trans (u_ifF (w_or (p := false) (q := false) (w_op (i0 rfl) w_var ?_) fun _ => w_op (i1 rfl) w_var ?_)) u_nil
      · have := o_nin (a : Int) x
        rw [ba] at this
        exact this
      · have := o_in (b : Int) x
        rw [bb] at this
        exact this
end K3

set_option Elab.async false
set_option linter.all false
set_option autoImplicit false
set_option maxRecDepth 100000
set_option maxHeartbeats 2000000
namespace K3
open PySem PySem.Spec PyProof.Rows L2 Dn
variable {C : Addr}
/-! ### pairs -/
abbrev goodQ (n : Nat) (Q : List (Nat × Nat)) : Prop := ∀ q ∈ Q, q.1 < n ∧ q.2 < n ∧ q.1 ≠ q.2
theorem e_pairs {n : Nat} {g : SrcG} (hn : n ≤ 6) (hg : Few g) : ∃ (Q : List (Nat × Nat)) (g' : SrcG), v__law_pairs C [.h, .d (nD n)] g = .ok (.l (Q.map pairD)) g' ∧ goodQ n Q ∧ Few g' := by
  have key := loop_rng (γ := SrcG) (asg := asgN 3) (body := sFor (iRng1F (aCons (fVar 1) aNil)) (asgN 4) (sIf (fAnd (fOp oNeS (fVar 3) (fVar 4)) (fOr (fOp oLtS (fVar 1) (fC (.int 5))) (fOp oEqS (fCallS 2 (v__law_draw C) (aCons (fVar 0) (aCons (fC (.int 3)) aNil))) (fC (.int 0))))) (sApp 2 (fTup (aCons (fVar 3) (aCons (fVar 4) aNil)))) sNil)) n
    (fun i ρ g => ∃ Q t u, ρ = [some .h, some (.d (nD n)), some (.l (Q.map pairD)), t, u] ∧ goodQ n Q ∧ Q.length ≤ 6 * i ∧ Few g) ?_ [some .h, some (.d (nD n)), some (.l []), none, none] g ⟨[], none, none, rfl, fun q hq => (nomatch hq), Nat.le_refl _, hg⟩
  · obtain ⟨ρ', g', e, Q, t, u, rfl, hQ, _, hg'⟩ := key
    exact ⟨Q, g', run_s (Eq.trans (u_seq (u_set (w_lst w_nil rfl (by decide)))) (Eq.trans (u_seq (Eq.trans (u_for (w_rng1 (w_cons w_var w_nil) (by omega))) e)) (u_retv rfl))), hQ, hg'⟩
  · rintro i ρ g hi ⟨Q, t, u, rfl, hQ, hl, hg⟩
    have inner := loop_rng (γ := SrcG) (asg := asgN 4) (body := sIf (fAnd (fOp oNeS (fVar 3) (fVar 4)) (fOr (fOp oLtS (fVar 1) (fC (.int 5))) (fOp oEqS (fCallS 2 (v__law_draw C) (aCons (fVar 0) (aCons (fC (.int 3)) aNil))) (fC (.int 0))))) (sApp 2 (fTup (aCons (fVar 3) (aCons (fVar 4) aNil)))) sNil) n
      (fun j ρ g => ∃ Q u, ρ = [some .h, some (.d (nD n)), some (.l (Q.map pairD)), some (.d (nD i)), u] ∧ goodQ n Q ∧ Q.length ≤ 6 * i + j ∧ Few g) ?_ [some .h, some (.d (nD n)), some (.l (Q.map pairD)), some (.d (nD i)), u] g ⟨Q, u, rfl, hQ, hl, hg⟩
    · obtain ⟨ρ', g', e, Q', u', rfl, hQ', hl', hg'⟩ := inner
      exact ⟨[some .h, some (.d (nD n)), some (.l (Q.map pairD)), some (.d (nD i)), u], _, g', rfl, Eq.trans (u_for (w_rng1 (w_cons w_var w_nil) (by omega))) e, Q', some (.d (nD i)), u', rfl, hQ', by omega, hg'⟩
    · rintro j ρ g hj ⟨Q, u, rfl, hQ, hl, hg⟩
      obtain ⟨ρ1, hρ⟩ : ∃ ρ1 : Dn.Env, ρ1 = [some .h, some (.d (nD n)), some (.l (Q.map pairD)), some (.d (nD i)), some (.d (nD j))] := ⟨_, rfl⟩
      have hc : ∃ (p : Bool) (g' : SrcG), (fAnd (fOp oNeS (fVar 3) (fVar 4)) (fOr (fOp oLtS (fVar 1) (fC (.int 5))) (fOp oEqS (fCallS 2 (v__law_draw C) (aCons (fVar 0) (aCons (fC (.int 3)) aNil))) (fC (.int 0)))) : Fn SrcG) ρ1 g = .ok (.d (.bool p)) g' ∧ (p = true → i ≠ j) ∧ Few g' := by
        subst hρ
        by_cases e : i = j
        · refine ⟨false, g, ?_, (fun z => nomatch z), hg⟩
          exact w_and (p := false) (q := false) (w_op w_var w_var (by rw [o_neN, decide_eq_true e]; rfl)) fun z => nomatch z
        · have en : (fOp oNeS (fVar 3) (fVar 4) : Fn SrcG) [some .h, some (.d (nD n)), some (.l (Q.map pairD)), some (.d (nD i)), some (.d (nD j))] g = .ok (.d (.bool true)) g := w_op w_var w_var (by rw [o_neN, decide_eq_false e]; rfl)
          have el : (fOp oLtS (fVar 1) (fC (.int 5)) : Fn SrcG) [some .h, some (.d (nD n)), some (.l (Q.map pairD)), some (.d (nD i)), some (.d (nD j))] g = .ok (.d (.bool (decide ((n : Int) < 5)))) g := w_op w_var w_c rfl
          by_cases h5 : (n : Int) < 5
          · rw [decide_eq_true h5] at el
            exact ⟨true, g, w_and2 en (w_or (p := true) (q := true) el fun z => nomatch z), fun _ => e, hg⟩
          · rw [decide_eq_false h5] at el
            obtain ⟨z, g', ed, _, hg'⟩ := w_draw (C := C) (ρ := [some .h, some (.d (nD n)), some (.l (Q.map pairD)), some (.d (nD i)), some (.d (nD j))]) (g := g) (top := 3) (i := 0) rfl (φ := fC (.int 3)) w_c (by decide) (by decide) hg
            refine ⟨decide (z = 0), g', w_and2 en ?_, fun _ => e, hg'⟩
            unfold fOr
            rw [el]
            exact w_op ed w_c (o_eqN z 0)
      obtain ⟨p, g', ec, hp, hg'⟩ := hc
      cases p with
      | true =>
        rw [hρ] at ec
        refine ⟨_, _, g', rfl, Eq.trans (u_ifT ec) (u_app rfl (w_tup (w_cons w_var (w_cons w_var w_nil)) rfl (by simp)) (by rw [List.length_map]; omega)), Q ++ [(i, j)], some (.d (nD j)), ?_, fun q hq => ?_, ?_, hg'⟩
        · rw [List.map_append]; rfl
        · rcases List.mem_append.mp hq with z | z
          · exact hQ q z
          · rw [List.mem_singleton.mp z]
            exact ⟨hi, hj, hp rfl⟩
        · rw [List.length_append]; simp; omega
      | false =>
        rw [hρ] at ec
        exact ⟨_, _, g', rfl, Eq.trans (u_ifF ec) u_nil, Q, some (.d (nD j)), rfl, hQ, by omega, hg'⟩
/-! ### the houses turned round -/
def tm (n m : Nat) : Nat := (List.range n).foldl (fun s h => if m.testBit h = true then s + 2 ^ (n - 1 - h) else s) 0
theorem tm_lt0 : ∀ n, n < 7 → ∀ m, m < 2 ^ n → tm n m < 2 ^ n := by decide +kernel
theorem tm_bit0 : ∀ n, n < 7 → ∀ m, m < 2 ^ n → ∀ h, h < n → (tm n m).testBit h = m.testBit (n - 1 - h) := by decide +kernel
theorem tm_tm0 : ∀ n, n < 7 → ∀ m, m < 2 ^ n → tm n (tm n m) = m := by decide +kernel
theorem tm_rest0 : ∀ n, n < 7 → ∀ m, m < 2 ^ n → tm n (2 ^ n - (m + 1)) = 2 ^ n - (tm n m + 1) := by decide +kernel
theorem tm_lot0 : ∀ n, n < 7 → ∀ m, m < 2 ^ n → srtI ((lot n m).map fun x => (n : Int) - 1 - x) = lot n (tm n m) := by decide +kernel
section
variable {n : Nat} (hn : n ≤ 6)
include hn
theorem tm_lt {m : Nat} (h : m < 2 ^ n) : tm n m < 2 ^ n := tm_lt0 n (by omega) m h
theorem tm_bit {m h : Nat} (hm : m < 2 ^ n) (hh : h < n) : (tm n m).testBit h = m.testBit (n - 1 - h) := tm_bit0 n (by omega) m hm h hh
theorem tm_tm {m : Nat} (h : m < 2 ^ n) : tm n (tm n m) = m := tm_tm0 n (by omega) m h
theorem tm_rest {m : Nat} (h : m < 2 ^ n) : tm n (2 ^ n - (m + 1)) = 2 ^ n - (tm n m + 1) := tm_rest0 n (by omega) m h
theorem tm_lot {m : Nat} (h : m < 2 ^ n) : srtI ((lot n m).map fun x => (n : Int) - 1 - x) = lot n (tm n m) := tm_lot0 n (by omega) m h
theorem tm_wt1 {a b : Nat} (ha : a < 2 ^ n) (hb : b < 2 ^ n) (h : wt a b = true) : wt (tm n a) (tm n b) = true := wt_iff.mpr fun i hi => by
  have lt : i < n := by
    rcases Nat.lt_or_ge i n with z | z
    · exact z
    · rw [bit_high (tm_lt hn ha) z] at hi; cases hi
  rw [tm_bit hn ha lt] at hi
  rw [tm_bit hn hb lt]
  exact wt_iff.mp h _ hi
theorem tm_wt {a b : Nat} (ha : a < 2 ^ n) (hb : b < 2 ^ n) : wt (tm n a) (tm n b) = wt a b := by
  rw [Bool.eq_iff_iff]
  refine ⟨fun h => ?_, tm_wt1 hn ha hb⟩
  have := tm_wt1 hn (tm_lt hn ha) (tm_lt hn hb) h
  rw [tm_tm hn ha, tm_tm hn hb] at this
  exact this
theorem tm_inj {a b : Nat} (ha : a < 2 ^ n) (hb : b < 2 ^ n) (h : tm n a = tm n b) : a = b := by
  rw [← tm_tm hn ha, h, tm_tm hn hb]
theorem tm_nodup {M : List Nat} (lt : ∀ m ∈ M, m < 2 ^ n) (nd : M.Nodup) : (M.map (tm n)).Nodup :=
  List.pairwise_map.mpr (List.Pairwise.imp_of_mem (fun {a b} ha hb ne e => ne (tm_inj hn (lt a ha) (lt b hb) e)) nd)
end
theorem fr_tm {n : Nat} {E : Nat → Bool} {T : List Nat} (f : Fr n E T) : Fr n (fun m => E (tm n m)) (T.map (tm n)) := by
  have hn := f.hn
  have lt := f.fe.lt
  refine ⟨f.h1, hn, ⟨fun m hm => ?_, tm_nodup hn lt f.fe.nd, fun z => f.fe.ne (List.map_eq_nil_iff.mp z), fun a ha b hb hw => ?_⟩, ⟨fun m hm => ?_, fun x hx => ?_⟩⟩
  · obtain ⟨k, hk, rfl⟩ := List.mem_map.mp hm
    exact tm_lt hn (lt k hk)
  · obtain ⟨x, hx, rfl⟩ := List.mem_map.mp ha
    obtain ⟨y, hy, rfl⟩ := List.mem_map.mp hb
    rw [tm_wt hn (lt x hx) (lt y hy)] at hw
    rw [f.fe.anti x hx y hy hw]
  · obtain ⟨k, hk, rfl⟩ := List.mem_map.mp hm
    exact tm_lt hn (lt k hk)
  · show (E (tm n x) = true ↔ _)
    rw [f.gen.2 _ (tm_lt hn hx)]
    constructor
    · rintro ⟨y, hy, hw⟩
      refine ⟨tm n y, List.mem_map.mpr ⟨y, hy, rfl⟩, ?_⟩
      have := tm_wt1 hn (tm_lt hn hx) (lt y hy) hw
      rw [tm_tm hn hx] at this
      exact this
    · rintro ⟨y, hy, hw⟩
      obtain ⟨k, hk, rfl⟩ := List.mem_map.mp hy
      refine ⟨k, hk, ?_⟩
      have := tm_wt1 hn hx (tm_lt hn (lt k hk)) hw
      rw [tm_tm hn (lt k hk)] at this
      exact this
theorem mem_pars_iff {n m : Nat} {E : Nat → Bool} : m ∈ pars n E ↔ m < 2 ^ n ∧ parE n E m = true := by
  rw [List.mem_filter, List.mem_range]
theorem pars_tm {n : Nat} (hn : n ≤ 6) {E : Nat → Bool} {m : Nat} : m ∈ pars n (fun m => E (tm n m)) ↔ m ∈ (pars n E).map (tm n) := by
  rw [mem_pars_iff, List.mem_map]
  constructor
  · rintro ⟨h1, h2⟩
    refine ⟨tm n m, mem_pars_iff.mpr ⟨tm_lt hn h1, ?_⟩, tm_tm hn h1⟩
    have h2 : (E (tm n m) && E (tm n (2 ^ n - (m + 1)))) = true := h2
    rw [tm_rest hn h1] at h2
    exact h2
  · rintro ⟨k, hk, rfl⟩
    obtain ⟨h1, h2⟩ := mem_pars_iff.mp hk
    refine ⟨tm_lt hn h1, ?_⟩
    show (E (tm n (tm n k)) && E (tm n (2 ^ n - (tm n k + 1)))) = true
    rw [tm_rest hn (tm_lt hn h1), tm_tm hn h1]
    exact h2
theorem pars_nodup (n : Nat) (E : Nat → Bool) : (pars n E).Nodup := List.Pairwise.filter _ List.nodup_range
theorem lots_tm {n : Nat} (hn : n ≤ 6) {E : Nat → Bool} : lots n ((pars n E).map (tm n)) = lots n (pars n fun m => E (tm n m)) := by
  have lt : ∀ m ∈ (pars n E).map (tm n), m < 2 ^ n := fun m hm => by
    obtain ⟨k, hk, rfl⟩ := List.mem_map.mp hm
    exact tm_lt hn (mem_pars_iff.mp hk).1
  refine sorted_ext (lots_sorted _ _) (lots_sorted _ _) (lots_nodup lt (tm_nodup hn (fun k hk => (mem_pars_iff.mp hk).1) (pars_nodup n E))) (lots_nodup (fun m hm => (mem_pars_iff.mp hm).1) (pars_nodup _ _)) fun x => ?_
  rw [mem_lots, mem_lots]
  exact ⟨fun ⟨m, h, e⟩ => ⟨m, (pars_tm hn).mpr h, e⟩, fun ⟨m, h, e⟩ => ⟨m, (pars_tm hn).mp h, e⟩⟩
abbrev tf (n : Nat) (x : List Int) : List Int := srtI (x.map fun y => (n : Int) - 1 - y)
theorem srt_tf {n : Nat} (hn : n ≤ 6) {M : List Nat} (lt : ∀ m ∈ M, m < 2 ^ n) : srtL ((lots n M).map (tf n)) = lots n (M.map (tm n)) := by
  refine sorted_uniq (srtL_sorted _) (srtL_sorted _) ((srtL_perm _).trans (List.Perm.trans ?_ (srtL_perm _).symm))
  have e : (M.map (tm n)).map (lot n) = (M.map (lot n)).map (tf n) := by
    rw [List.map_map, List.map_map]
    exact List.map_congr_left fun m hm => (tm_lot hn (lt m hm)).symm
  rw [e]
  exact (srtL_perm _).map _
theorem sortedI_l (ns : List Int) : bSorted [.l (ns.map PyData.int)] = some (.l ((srtI ns).map PyData.int)) := by
  cases ns with
  | nil => rfl
  | cons x r =>
    show (intsD ((x :: r).map PyData.int)).map (fun ns => SV.l ((srtI ns).map PyData.int)) = _
    rw [intsD_map]
    rfl
theorem e_turned {n : Nat} (xs : List Int) (hl : xs.length ≤ 1000) : v__law_turned C [nD n, tupD xs] = okD (tupD (tf n xs)) := by
  have e : (xs.map fun x => PyData.int ((n : Int) - 1 - x)) = (xs.map fun x => (n : Int) - 1 - x).map PyData.int := by rw [List.map_map]; rfl
  refine run_ret (w_cb (w_cons (w_cb (w_cons (w_lc xs PyData.int (fun x => .int ((n : Int) - 1 - x)) (w_any w_var) (by omega) fun x hx => ⟨[some (.d (nD n)), some (.d (tupD xs)), some (.d (.int x))], rfl, w_op (w_op w_var w_c rfl) w_var rfl⟩) w_nil) (by rw [e]; exact sortedI_l _)) w_nil) rfl)
theorem atom_asc (n : Nat) (P : List Nat) (a : Nat) : (atomL n P a).Pairwise (· < ·) := by
  rw [List.pairwise_map]
  exact (List.Pairwise.filter _ List.pairwise_lt_range).imp fun {a b} h => by omega
theorem atom_tm {n h : Nat} (hn : n ≤ 6) (hh : h < n) {E : Nat → Bool} : tf n (atomL n (pars n E) (n - 1 - h)) = atomL n (pars n fun m => E (tm n m)) h := by
  have nd : ∀ P a, (atomL n P a).Nodup := fun P a => (atom_asc n P a).imp fun {a b} h => by omega
  have same : ∀ b, b < n → sameB (pars n fun m => E (tm n m)) h b = sameB (pars n E) (n - 1 - h) (n - 1 - b) := fun b hb => by
    rw [Bool.eq_iff_iff, List.all_eq_true, List.all_eq_true]
    constructor
    · intro z m hm
      have lt := (mem_pars_iff.mp hm).1
      have := z (tm n m) ((pars_tm hn).mpr (List.mem_map.mpr ⟨m, hm, rfl⟩))
      rw [tm_bit hn lt hh, tm_bit hn lt hb] at this
      exact this
    · intro z m hm
      obtain ⟨k, hk, rfl⟩ := List.mem_map.mp ((pars_tm hn).mp hm)
      have lt := (mem_pars_iff.mp hk).1
      rw [tm_bit hn lt hh, tm_bit hn lt hb]
      exact z k hk
  refine sortedI_uniq (srtI_sorted _) ((atom_asc _ _ _).imp fun {a b} h => by omega) ((srtI_perm _).trans ((List.perm_ext_iff_of_nodup ?_ (nd _ _)).mpr fun x => ?_))
  · refine List.pairwise_map.mpr ((nd _ _).imp fun {a b} ne e => ne (by omega))
  · rw [List.mem_map, List.mem_map]
    constructor
    · rintro ⟨y, hy, rfl⟩
      obtain ⟨b, hb, rfl⟩ := List.mem_map.mp hy
      obtain ⟨b1, b2⟩ := List.mem_filter.mp hb
      have b1 := List.mem_range.mp b1
      refine ⟨n - 1 - b, List.mem_filter.mpr ⟨List.mem_range.mpr (by omega), ?_⟩, by omega⟩
      rw [same _ (by omega), show n - 1 - (n - 1 - b) = b by omega]
      exact b2
    · rintro ⟨b, hb, rfl⟩
      obtain ⟨b1, b2⟩ := List.mem_filter.mp hb
      have b1 := List.mem_range.mp b1
      rw [same b b1] at b2
      exact ⟨((n - 1 - b : Nat) : Int), List.mem_map.mpr ⟨n - 1 - b, List.mem_filter.mpr ⟨List.mem_range.mpr (by omega), b2⟩, rfl⟩, by omega⟩
theorem e_turned_hold {n : Nat} {E : Nat → Bool} {T : List Nat} (f : Fr n E T) : v__law_turned_hold C [nD n, lsD n T, msD (pars n E), matesD n (pars n E)] = okB true := by
  have hn := f.hn
  have f' := fr_tm f
  have lT := f.len
  have lP := pars_len hn E
  have sh := (shy_lots hn (M := (pars n E).map (tm n)) (by rw [List.length_map]; omega)).1
  have e4 : (fCB bTuple (aCons (fCB bSorted (aCons (fLc [8] (iAny (fVar 1)) (asgN 8) fYes (fCall 2 (v__law_turned C) (aCons (fVar 0) (aCons (fVar 8) aNil)))) aNil)) aNil) : Fn Unit) [some (.d (nD n)), some (.d (lsD n T)), some (.d (msD (pars n E))), some (.d (matesD n (pars n E))), none, none, none, none, none, none] () = .ok (.d (lsD n (T.map (tm n)))) () := by
    have e : ((lots n T).map fun x => tupD (tf n x)) = ((lots n T).map (tf n)).map tupD := by rw [List.map_map]; rfl
    refine w_cb (w_cons (w_cb (w_cons (w_lc (lots n T) tupD (fun x => tupD (tf n x)) (w_any w_var) (by rw [lots_len]; omega) fun x hx => ⟨[some (.d (nD n)), some (.d (lsD n T)), some (.d (msD (pars n E))), some (.d (matesD n (pars n E))), none, none, none, none, some (.d (tupD x)), none], rfl, w_call (w_cons w_var (w_cons w_var w_nil)) rfl rfl (e_turned x ?_)⟩) w_nil) (z := .l ((lots n (T.map (tm n))).map tupD)) ?_) w_nil) rfl
    · obtain ⟨m, _, rfl⟩ := mem_lots.mp hx
      exact lot_len1000 hn
    · rw [e]
      show (match tupsD (((lots n T).map (tf n)).map tupD) with | some nss => some (SV.l ((srtL nss).map tupD)) | none => _) = _
      rw [tupsD_map]
      show some (SV.l ((srtL ((lots n T).map (tf n))).map tupD)) = _
      rw [srt_tf hn f.fe.lt]
  have e5 : (fCB bTuple (aCons (fCB bSorted (aCons (fLc [9] (iAny (fVar 2)) (asgN 9) fYes (fCall 2 (v__law_turned C) (aCons (fVar 0) (aCons (fCall 2 (v__law_lot_of C) (aCons (fVar 0) (aCons (fVar 9) aNil))) aNil)))) aNil)) aNil) : Fn Unit) [some (.d (nD n)), some (.d (lsD n T)), some (.d (msD (pars n E))), some (.d (matesD n (pars n E))), some (.d (lsD n (T.map (tm n)))), none, none, none, none, none] () = .ok (.d (lsD n ((pars n E).map (tm n)))) () := by
    have e : ((pars n E).map fun m => tupD (tf n (lot n m))) = (((pars n E).map (tm n)).map (lot n)).map tupD := by
      rw [List.map_map, List.map_map]
      exact List.map_congr_left fun m hm => congrArg tupD (tm_lot hn (mem_pars_iff.mp hm).1)
    refine w_cb (w_cons (w_cb (w_cons (w_lc (pars n E) (fun k : Nat => nD k) (fun m => tupD (tf n (lot n m))) (w_anyL w_var) (by omega) fun m hm => ⟨[some (.d (nD n)), some (.d (lsD n T)), some (.d (msD (pars n E))), some (.d (matesD n (pars n E))), some (.d (lsD n (T.map (tm n)))), none, none, none, none, some (.d (nD m))], rfl, w_call (w_cons w_var (w_cons (w_call (w_cons w_var (w_cons w_var w_nil)) rfl rfl (e_lot_of hn)) w_nil)) rfl rfl (e_turned _ (lot_len1000 hn))⟩) w_nil) (z := .l ((lots n ((pars n E).map (tm n))).map tupD)) ?_) w_nil) rfl
    rw [e]
    show (match tupsD ((((pars n E).map (tm n)).map (lot n)).map tupD) with | some nss => some (SV.l ((srtL nss).map tupD)) | none => _) = _
    rw [tupsD_map]
    rfl
  refine run_body (Eq.trans (u_seq (u_set e4)) (Eq.trans (u_seq (u_set e5)) ?_))
  refine Eq.trans (u_seq (Eq.trans (u_ifF (w_reprNe sh (by decide) (w_call (w_cons w_var (w_cons w_var w_nil)) rfl rfl ?_) (w_var (x := lsD n ((pars n E).map (tm n))) rfl))) u_nil)) ?_
  · have z := e_partings_of (C := C) f'
    have zz : lsD n (pars n fun m => E (tm n m)) = lsD n ((pars n E).map (tm n)) := congrArg (fun l : List (List Int) => PyData.tuple (l.map tupD)) (lots_tm hn).symm
    exact z.trans (congrArg okD zz)
  have key := loop_rng (γ := Unit) (asg := asgN 6) (body := sSeq (sAsg 7 (fCall 2 (v__law_turned C) (aCons (fVar 0) (aCons (fOp oIx (fVar 3) (fOp oSub (fOp oSub (fVar 0) (fC (.int 1))) (fVar 6))) aNil))))
    (sIf (fOp oNeS (fCB bRepr (aCons (fCall 3 (v_atom_at C) (aCons (fVar 0) (aCons (fVar 4) (aCons (fVar 6) aNil)))) aNil)) (fCB bRepr (aCons (fVar 7) aNil))) (sRet (fC (.bool false))) sNil)) n
    (fun i ρ _ => ∃ t6 t7, ρ = [some (.d (nD n)), some (.d (lsD n T)), some (.d (msD (pars n E))), some (.d (matesD n (pars n E))), some (.d (lsD n (T.map (tm n)))), some (.d (lsD n ((pars n E).map (tm n)))), t6, t7, none, none]) ?_ [some (.d (nD n)), some (.d (lsD n T)), some (.d (msD (pars n E))), some (.d (matesD n (pars n E))), some (.d (lsD n (T.map (tm n)))), some (.d (lsD n ((pars n E).map (tm n)))), none, none, none, none] () ⟨none, none, rfl⟩
  · obtain ⟨ρ', g', e, t6, t7, rfl⟩ := key
    exact Eq.trans (u_seq (Eq.trans (u_for (w_rng1 (w_cons w_var w_nil) (by omega))) e)) (u_ret w_c)
  · rintro i ρ g hi ⟨t6, t7, rfl⟩
    have es : oSub (.d (.int ((n : Int) - 1))) (.d (nD i)) = some (.d (nD (n - 1 - i))) := by
      show some (SV.d (.int ((n : Int) - 1 - (i : Int)))) = _
      rw [show (n : Int) - 1 - (i : Int) = ((n - 1 - i : Nat) : Int) by omega]
    have et := e_turned (C := C) (n := n) (atomL n (pars n E) (n - 1 - i)) (Nat.le_trans atom_len (by omega))
    rw [atom_tm hn hi] at et
    have sa := (shy_atom (n := n) (a := i) (P := pars n fun m => E (tm n m)) hn).1
    exact ⟨_, _, (), rfl, Eq.trans (u_seq (u_set (w_call (w_cons w_var (w_cons (w_op w_var (w_op (w_op w_var w_c rfl) w_var es) (ix_mates (by omega))) w_nil)) rfl rfl et))) (Eq.trans (u_ifF (w_reprNe sa (by decide) (w_call (w_cons w_var (w_cons w_var (w_cons w_var w_nil))) rfl rfl (e_atom_at f' hi)) (w_var (x := tupD (atomL n (pars n fun m => E (tm n m)) i)) rfl))) u_nil), some (.d (nD i)), some (.d (tupD (atomL n (pars n fun m => E (tm n m)) i))), rfl⟩
end K3

set_option Elab.async false
set_option linter.all false
set_option autoImplicit false
set_option maxRecDepth 100000
set_option maxHeartbeats 2000000
namespace K3
open PySem PySem.Spec PyProof.Rows L2 Dn
variable {C : Addr}
theorem o_mul2 (a : Nat) (h : a ≤ 100) : oMul (.d (nD a)) (.d (.int 2)) = some (.d (nD (a * 2))) := by
  have l : (a : Int).natAbs.log2 + (2 : Int).natAbs.log2 < 1000000 := by
    have h1 : (a : Int).natAbs = a := by omega
    have h2 : (2 : Int).natAbs.log2 = 1 := by decide +kernel
    rw [h1, h2]
    have := Nat.log2_le_self a
    omega
  show (if (a : Int).natAbs.log2 + (2 : Int).natAbs.log2 < 1000000 then some (PyData.int ((a : Int) * 2)) else none).map SV.d = _
  rw [if_pos l]
  rfl
theorem e_groups {n : Nat} {g : SrcG} (hn : n ≤ 6) (hg : Few g) : ∃ (a b c : Nat) (g' : SrcG), v__law_groups C [.h, .d (nD n)] g = .ok (.l [nD a, nD b, nD c]) g' ∧ a + b + c + 1 = 2 ^ n ∧ Few g' := by
  have key := loop_rng (γ := SrcG) (asg := asgN 4) (body := sSeq (sAsg 5 (fCallS 2 (v__law_draw C) (aCons (fVar 0) (aCons (fC (.int 3)) aNil))))
    (sSeq (sSetI 2 (fVar 5) (fOp oAdd (fOp oIx (fVar 2) (fVar 5)) (fVar 3)))
    (sAsg 3 (fOp oMul (fVar 3) (fC (.int 2)))))) n
    (fun i ρ g => ∃ a b c t u, ρ = [some .h, some (.d (nD n)), some (.l [nD a, nD b, nD c]), some (.d (nD (2 ^ i))), t, u] ∧ a + b + c + 1 = 2 ^ i ∧ Few g) ?_ [some .h, some (.d (nD n)), some (.l [nD 0, nD 0, nD 0]), some (.d (nD 1)), none, none] g ⟨0, 0, 0, none, none, rfl, rfl, hg⟩
  · obtain ⟨ρ', g', e, a, b, c, t, u, rfl, hs, hg'⟩ := key
    exact ⟨a, b, c, g', run_s (Eq.trans (u_seq (u_set (w_lst (w_cons w_c (w_cons w_c (w_cons w_c w_nil))) rfl (by decide)))) (Eq.trans (u_seq (u_set w_c)) (Eq.trans (u_seq (Eq.trans (u_for (w_rng1 (w_cons w_var w_nil) (by omega))) e)) (u_retv rfl)))), hs, hg'⟩
  · rintro i ρ g hi ⟨a, b, c, t, u, rfl, hs, hg⟩
    have hp : 2 ^ i ≤ 64 := pow_le (by omega)
    obtain ⟨z, g', ed, hz, hg'⟩ := w_draw (C := C) (ρ := [some .h, some (.d (nD n)), some (.l [nD a, nD b, nD c]), some (.d (nD (2 ^ i))), some (.d (nD i)), u]) (g := g) (top := 3) (i := 0) rfl (φ := fC (.int 3)) w_c (by decide) (by decide) hg
    have em := o_mul2 (2 ^ i) (by omega)
    rw [← Nat.pow_succ] at em
    have pw : 2 ^ (i + 1) = 2 ^ i + 2 ^ i := by rw [Nat.pow_succ]; omega
    match z, hz with
    | 0, _ => exact ⟨_, _, g', rfl, Eq.trans (u_seq (u_set ed)) (Eq.trans (u_seq (u_seti (k := nD (a + 2 ^ i)) (j := 0) (n := 0) (w_op (w_op w_varL w_var (z := .d (nD a)) rfl) w_var (o_addN _ _)) rfl w_var rfl)) (u_set (w_op w_var w_c em))), a + 2 ^ i, b, c, some (.d (nD i)), some (.d (nD 0)), rfl, by omega, hg'⟩
    | 1, _ => exact ⟨_, _, g', rfl, Eq.trans (u_seq (u_set ed)) (Eq.trans (u_seq (u_seti (k := nD (b + 2 ^ i)) (j := 1) (n := 1) (w_op (w_op w_varL w_var (z := .d (nD b)) rfl) w_var (o_addN _ _)) rfl w_var rfl)) (u_set (w_op w_var w_c em))), a, b + 2 ^ i, c, some (.d (nD i)), some (.d (nD 1)), rfl, by omega, hg'⟩
    | 2, _ => exact ⟨_, _, g', rfl, Eq.trans (u_seq (u_set ed)) (Eq.trans (u_seq (u_seti (k := nD (c + 2 ^ i)) (j := 2) (n := 2) (w_op (w_op w_varL w_var (z := .d (nD c)) rfl) w_var (o_addN _ _)) rfl w_var rfl)) (u_set (w_op w_var w_c em))), a, b, c + 2 ^ i, some (.d (nD i)), some (.d (nD 2)), rfl, by omega, hg'⟩
section
variable {n few : Nat} {a b c d0 d1 d2 d3 : Nat} {g : SrcG}
/-- behind the draws -/
abbrev rhoD (n how few a b c d0 d1 d2 d3 : Nat) : Dn.Env := [some .h, some (.d (nD n)), some (.d (nD (2 ^ n - 1))), some (.d (nD how)), some (.d (nD few)), some (.l [nD a, nD b, nD c]), some (.l [nD d0, nD d1, nD d2, nD d3]), none, none]
abbrev goodM (n : Nat) (o : SOut SrcG) : Prop := ∃ (M : List Nat) (g' : SrcG), o = .ret (.l (M.map fun k : Nat => nD k)) g' ∧ Mk n M ∧ Few g'
theorem is_how (j k : Nat) : (fOp oEqS (fVar 3) (fC (.int (k : Int))) : Fn SrcG) (rhoD n j few a b c d0 d1 d2 d3) g = .ok (.d (.bool (decide ((j : Int) = (k : Int))))) g := w_op w_var w_c (o_eqI _ _)
theorem at_d {ρ : Dn.Env} (i : Nat) (x : Nat) (h : ρ[6]? = some (some (.l [nD d0, nD d1, nD d2, nD d3]))) (e : [nD d0, nD d1, nD d2, nD d3][i]? = some (nD x)) : (fOp oIx (fVar 6) (fC (.int (i : Int))) : Fn SrcG) ρ g = .ok (.d (nD x)) g := by
  refine w_op (w_varL h) w_c ?_
  show (atI [nD d0, nD d1, nD d2, nD d3] (i : Int)).map SV.d = _
  rw [atI_nat e]
  rfl
theorem at_g {ρ : Dn.Env} (i : Nat) (x : Nat) (h : ρ[5]? = some (some (.l [nD a, nD b, nD c]))) (e : [nD a, nD b, nD c][i]? = some (nD x)) : (fOp oIx (fVar 5) (fC (.int (i : Int))) : Fn SrcG) ρ g = .ok (.d (nD x)) g := by
  refine w_op (w_varL h) w_c ?_
  show (atI [nD a, nD b, nD c] (i : Int)).map SV.d = _
  rw [atI_nat e]
  rfl
theorem and_lt {x y : Nat} (hx : x < 2 ^ n) : x &&& y < 2 ^ n := Nat.lt_of_le_of_lt Nat.and_le_left hx
variable (h1 : 1 ≤ n) (hn : n ≤ 6) (f2 : few ≤ n) (hs : a + b + c + 1 = 2 ^ n) (l0 : d0 < 2 ^ n) (l1 : d1 < 2 ^ n) (l2 : d2 < 2 ^ n) (l3 : d3 < 2 ^ n) (hg : Few g)
include h1 hn f2 hs l0 l1 l2 l3 hg
theorem br0 : goodM n (sRet (fLst (aCons (fOp oAdd (fOp oIx (fVar 5) (fC (.int 0))) (fOp oIx (fVar 5) (fC (.int 1)))) (aCons (fOp oAdd (fOp oIx (fVar 5) (fC (.int 1))) (fOp oIx (fVar 5) (fC (.int 2)))) (aCons (fOp oIx (fVar 5) (fC (.int 2))) aNil)))) (rhoD n 0 few a b c d0 d1 d2 d3) g) := by
  refine ⟨[a + b, b + c, c], g, u_ret (w_lst (w_cons (w_op (at_g 0 a rfl rfl) (at_g 1 b rfl rfl) (o_addN _ _)) (w_cons (w_op (at_g 1 b rfl rfl) (at_g 2 c rfl rfl) (o_addN _ _)) (w_cons (at_g 2 c rfl rfl) w_nil))) rfl (by simp)), ⟨fun m hm => ?_, by simp, by simp⟩, hg⟩
  simp only [List.mem_cons, List.not_mem_nil, or_false] at hm
  rcases hm with rfl | rfl | rfl <;> omega
theorem br1 : goodM n (sRet (fLst (aCons (fOp oIx (fVar 5) (fC (.int 0))) (aCons (fOp oIx (fVar 5) (fC (.int 1))) (aCons (fOp oIx (fVar 5) (fC (.int 2))) (aCons (fOp oAnd (fOp oIx (fVar 6) (fC (.int 0))) (fOp oIx (fVar 6) (fC (.int 1)))) aNil))))) (rhoD n 1 few a b c d0 d1 d2 d3) g) := by
  refine ⟨[a, b, c, d0 &&& d1], g, u_ret (w_lst (w_cons (at_g 0 a rfl rfl) (w_cons (at_g 1 b rfl rfl) (w_cons (at_g 2 c rfl rfl) (w_cons (w_op (at_d 0 d0 rfl rfl) (at_d 1 d1 rfl rfl) (o_and _ _)) w_nil)))) rfl (by simp)), ⟨fun m hm => ?_, by simp, by simp⟩, hg⟩
  have := and_lt (y := d1) l0
  simp only [List.mem_cons, List.not_mem_nil, or_false] at hm
  rcases hm with rfl | rfl | rfl | rfl <;> omega
theorem br2 : goodM n (sRet (fLst (aCons (fOp oIx (fVar 6) (fC (.int 0))) (aCons (fOp oSub (fVar 2) (fOp oIx (fVar 6) (fC (.int 0)))) aNil))) (rhoD n 2 few a b c d0 d1 d2 d3) g) := by
  refine ⟨[d0, 2 ^ n - 1 - d0], g, u_ret (w_lst (w_cons (at_d 0 d0 rfl rfl) (w_cons (w_op w_var (at_d 0 d0 rfl rfl) (sub_full l0)) w_nil)) rfl (by simp)), ⟨fun m hm => ?_, by simp, by simp⟩, hg⟩
  simp only [List.mem_cons, List.not_mem_nil, or_false] at hm
  rcases hm with rfl | rfl <;> omega
theorem br3 : goodM n (sRet (fLst (aCons (fOp oIx (fVar 6) (fC (.int 0))) (aCons (fOp oSub (fVar 2) (fOp oIx (fVar 6) (fC (.int 0)))) (aCons (fOp oIx (fVar 6) (fC (.int 1))) (aCons (fOp oSub (fVar 2) (fOp oAnd (fOp oIx (fVar 6) (fC (.int 1))) (fOp oIx (fVar 6) (fC (.int 2))))) aNil))))) (rhoD n 3 few a b c d0 d1 d2 d3) g) := by
  have la := and_lt (y := d2) l1
  refine ⟨[d0, 2 ^ n - 1 - d0, d1, 2 ^ n - 1 - (d1 &&& d2)], g, u_ret (w_lst (w_cons (at_d 0 d0 rfl rfl) (w_cons (w_op w_var (at_d 0 d0 rfl rfl) (sub_full l0)) (w_cons (at_d 1 d1 rfl rfl) (w_cons (w_op w_var (w_op (at_d 1 d1 rfl rfl) (at_d 2 d2 rfl rfl) (o_and _ _)) (sub_full la)) w_nil)))) rfl (by simp)), ⟨fun m hm => ?_, by simp, by simp⟩, hg⟩
  simp only [List.mem_cons, List.not_mem_nil, or_false] at hm
  rcases hm with rfl | rfl | rfl | rfl <;> omega
theorem br4 : goodM n (sRet (fLc [8] (iRng1F (aCons (fOp oAdd (fVar 2) (fC (.int 1))) aNil)) (asgN 8) (fOp oEqS (fCall 2 (v__law_ones C) (aCons (fVar 1) (aCons (fVar 8) aNil))) (fVar 4)) (fVar 8)) (rhoD n 4 few a b c d0 d1 d2 d3) g) := by
  have hp := pow_le hn
  refine ⟨(List.range (2 ^ n)).filter fun m => decide ((lot n m).length = few), g, u_ret (w_lcf (own := [8]) (asg := asgN 8) (List.range (2 ^ n)) (fun m : Nat => .int (m : Int)) (fun m : Nat => nD m) (fun m => decide ((lot n m).length = few)) (w_rng1 (w_cons (w_op w_var w_c (by rw [← full_one n]; exact o_addN _ 1)) w_nil) (pow_mil hn)) (by rw [List.length_range]; omega) fun m hm => ⟨[some .h, some (.d (nD n)), some (.d (nD (2 ^ n - 1))), some (.d (nD 4)), some (.d (nD few)), some (.l [nD a, nD b, nD c]), some (.l [nD d0, nD d1, nD d2, nD d3]), none, some (.d (nD m))], rfl, w_op (w_call (w_cons w_var (w_cons w_var w_nil)) rfl rfl (e_ones hn)) w_var (o_eqN _ _), fun _ => w_var⟩), ⟨fun m hm => List.mem_range.mp (List.mem_filter.mp hm).1, fun z => ?_, Nat.le_trans (few_most n (by omega) few (by omega)) (by decide)⟩, hg⟩
  have z2 := few_there n (by omega) few f2
  rw [List.any_eq_true] at z2
  obtain ⟨m, hm, hp⟩ := z2
  have : m ∈ (List.range (2 ^ n)).filter (fun m => decide ((lot n m).length = few)) := List.mem_filter.mpr ⟨hm, hp⟩
  rw [z] at this
  cases this
theorem br5 : goodM n (sRet (fLst (aCons (fOp oIx (fLst (aCons (fVar 2) (aCons (fC (.int 0)) (aCons (fOp oIx (fVar 6) (fC (.int 0))) aNil)))) (fCallS 2 (v__law_draw C) (aCons (fVar 0) (aCons (fC (.int 3)) aNil)))) aNil)) (rhoD n 5 few a b c d0 d1 d2 d3) g) := by
  obtain ⟨z, g', e, hz, hg'⟩ := w_draw (C := C) (ρ := rhoD n 5 few a b c d0 d1 d2 d3) (g := g) (top := 3) (i := 0) rfl (φ := fC (.int 3)) w_c (by decide) (by decide) hg
  obtain ⟨m, em, lm⟩ : ∃ m, [nD (2 ^ n - 1), nD 0, nD d0][z]? = some (nD m) ∧ m < 2 ^ n := by
    have := Nat.two_pow_pos n
    match z, hz with
    | 0, _ => exact ⟨2 ^ n - 1, rfl, by omega⟩
    | 1, _ => exact ⟨0, rfl, this⟩
    | 2, _ => exact ⟨d0, rfl, l0⟩
  refine ⟨[m], g', u_ret (w_lst (w_cons (w_op (w_lst (w_cons w_var (w_cons w_c (w_cons (at_d 0 d0 rfl rfl) w_nil))) rfl (by simp)) e (z := .d (nD m)) ?_) w_nil) rfl (by simp)), ⟨fun x hx => by rw [List.mem_singleton.mp hx]; exact lm, by simp, by simp⟩, hg'⟩
  show (atI [nD (2 ^ n - 1), nD 0, nD d0] (z : Int)).map SV.d = _
  rw [atI_nat em]
  rfl
theorem br6 : goodM n (sRet (fLst (aCons (fOp oAdd (fOp oIx (fVar 5) (fC (.int 0))) (fOp oIx (fVar 5) (fC (.int 1)))) (aCons (fOp oAdd (fOp oIx (fVar 5) (fC (.int 0))) (fOp oIx (fVar 5) (fC (.int 2)))) (aCons (fOp oAdd (fOp oIx (fVar 5) (fC (.int 1))) (fOp oIx (fVar 5) (fC (.int 2)))) (aCons (fOp oAnd (fOp oIx (fVar 6) (fC (.int 3))) (fOp oIx (fVar 6) (fC (.int 2)))) aNil))))) (rhoD n 6 few a b c d0 d1 d2 d3) g) := by
  have la := and_lt (y := d2) l3
  refine ⟨[a + b, a + c, b + c, d3 &&& d2], g, u_ret (w_lst (w_cons (w_op (at_g 0 a rfl rfl) (at_g 1 b rfl rfl) (o_addN _ _)) (w_cons (w_op (at_g 0 a rfl rfl) (at_g 2 c rfl rfl) (o_addN _ _)) (w_cons (w_op (at_g 1 b rfl rfl) (at_g 2 c rfl rfl) (o_addN _ _)) (w_cons (w_op (at_d 3 d3 rfl rfl) (at_d 2 d2 rfl rfl) (o_and _ _)) w_nil)))) rfl (by simp)), ⟨fun m hm => ?_, by simp, by simp⟩, hg⟩
  simp only [List.mem_cons, List.not_mem_nil, or_false] at hm
  rcases hm with rfl | rfl | rfl | rfl <;> omega
theorem br7 : goodM n (sRet (fOp oAddL (fSl oSl (fVar 6) none (some (fOp oAdd (fC (.int 1)) (fCallS 2 (v__law_draw C) (aCons (fVar 0) (aCons (fC (.int 4)) aNil)))))) (fLst (aCons (fOp oSub (fVar 2) (fOp oIx (fVar 6) (fC (.int 0)))) aNil))) (rhoD n 7 few a b c d0 d1 d2 d3) g) := by
  obtain ⟨z, g', e, hz, hg'⟩ := w_draw (C := C) (ρ := rhoD n 7 few a b c d0 d1 d2 d3) (g := g) (top := 4) (i := 0) rfl (φ := fC (.int 4)) w_c (by decide) (by decide) hg
  have e2 : (fOp oAdd (fC (.int 1)) (fCallS 2 (v__law_draw C) (aCons (fVar 0) (aCons (fC (.int 4)) aNil))) : Fn SrcG) (rhoD n 7 few a b c d0 d1 d2 d3) g = .ok (.d (nD (1 + z))) g' := w_op w_c e rfl
  have es : (fSl oSl (fVar 6) none (some (fOp oAdd (fC (.int 1)) (fCallS 2 (v__law_draw C) (aCons (fVar 0) (aCons (fC (.int 4)) aNil))))) : Fn SrcG) (rhoD n 7 few a b c d0 d1 d2 d3) g = .ok (.l (([d0, d1, d2, d3].take (1 + z)).map fun k : Nat => nD k)) g' := by
    unfold fSl
    match z, hz with
    | 0, _ => rw [show (fVar 6 : Fn SrcG) (rhoD n 7 few a b c d0 d1 d2 d3) g = .ok (.b [nD d0, nD d1, nD d2, nD d3]) g from w_varL]; simp only [Out.bind, e2]; rfl
    | 1, _ => rw [show (fVar 6 : Fn SrcG) (rhoD n 7 few a b c d0 d1 d2 d3) g = .ok (.b [nD d0, nD d1, nD d2, nD d3]) g from w_varL]; simp only [Out.bind, e2]; rfl
    | 2, _ => rw [show (fVar 6 : Fn SrcG) (rhoD n 7 few a b c d0 d1 d2 d3) g = .ok (.b [nD d0, nD d1, nD d2, nD d3]) g from w_varL]; simp only [Out.bind, e2]; rfl
    | 3, _ => rw [show (fVar 6 : Fn SrcG) (rhoD n 7 few a b c d0 d1 d2 d3) g = .ok (.b [nD d0, nD d1, nD d2, nD d3]) g from w_varL]; simp only [Out.bind, e2]; rfl
  obtain ⟨D, hD⟩ : ∃ D, D = [d0, d1, d2, d3].take (1 + z) := ⟨_, rfl⟩
  rw [← hD] at es
  have lD : D.length ≤ 4 := by rw [hD, List.length_take]; exact Nat.le_trans (Nat.min_le_right _ _) (by simp)
  refine ⟨D ++ [2 ^ n - 1 - d0], g', u_ret (w_op es (w_lst (w_cons (w_op w_var (at_d 0 d0 rfl rfl) (sub_full l0)) w_nil) rfl (by simp)) ?_), ⟨fun m hm => ?_, by simp, by rw [List.length_append]; simp; omega⟩, hg'⟩
  · show (if (D.map fun k : Nat => nD k).length + 1 ≤ 100000 then some (SV.l ((D.map fun k : Nat => nD k) ++ [nD (2 ^ n - 1 - d0)])) else none) = _
    rw [if_pos (by rw [List.length_map]; omega), List.map_append]
    rfl
  · rcases List.mem_append.mp hm with y | y
    · rw [hD] at y
      have hm := List.mem_of_mem_take y
      simp only [List.mem_cons, List.not_mem_nil, or_false] at hm
      rcases hm with rfl | rfl | rfl | rfl <;> assumption
    · rw [List.mem_singleton.mp y]; omega
end
theorem list4 {α : Type} {l : List α} (h : l.length = 4) : ∃ a b c d, l = [a, b, c, d] := by
  match l, h with
  | [a, b, c, d], _ => exact ⟨a, b, c, d, rfl⟩
theorem e_drawn_marks {n : Nat} {g : SrcG} (h1 : 1 ≤ n) (hn : n ≤ 6) (hg : Few g) : ∃ (M : List Nat) (g' : SrcG), v__law_drawn_marks C [.h, .d (nD n)] g = .ok (.l (M.map fun k : Nat => nD k)) g' ∧ Mk n M ∧ Few g' := by
  have suff : goodM n (p__law_drawn_marks C [some .h, some (.d (nD n)), none, none, none, none, none, none, none] g) → ∃ (M : List Nat) (g' : SrcG), v__law_drawn_marks C [.h, .d (nD n)] g = .ok (.l (M.map fun k : Nat => nD k)) g' ∧ Mk n M ∧ Few g' := fun ⟨M, g', e, a, b⟩ => ⟨M, g', run_s e, a, b⟩
  refine suff ?_
  have pos := Nat.two_pow_pos n
  have hp := pow_le hn
  obtain ⟨how, g1, e1, hhow, hg1⟩ := w_draw (C := C) (ρ := [some .h, some (.d (nD n)), some (.d (nD (2 ^ n - 1))), none, none, none, none, none, none]) (g := g) (top := 8) (i := 0) rfl (φ := fC (.int 8)) w_c (by decide) (by decide) hg
  obtain ⟨f, g2, e2, hf, hg2⟩ := w_draw (C := C) (ρ := [some .h, some (.d (nD n)), some (.d (nD (2 ^ n - 1))), some (.d (nD how)), none, none, none, none, none]) (g := g1) (top := n + 1) (i := 0) rfl (φ := fOp oAdd (fVar 1) (fC (.int 1))) (w_op w_var w_c (o_addN n 1)) (by omega) (by omega) hg1
  obtain ⟨a, b, c, g3, e3, hs, hg3⟩ := e_groups (C := C) hn hg2
  obtain ⟨ds, g4, e4, hlen, hds, hg4⟩ := w_lcs (γ := SrcG) (ρ := [some .h, some (.d (nD n)), some (.d (nD (2 ^ n - 1))), some (.d (nD how)), some (.d (nD f)), some (.l [nD a, nD b, nD c]), none, none, none]) (g := g3) (own := [7]) (Ι := iRng1F (aCons (fC (.int 4)) aNil)) (asg := asgN 7) (elt := fCallS 2 (v__law_draw C) (aCons (fVar 0) (aCons (fOp oAdd (fVar 2) (fC (.int 1))) aNil))) (List.range 4) (fun k : Nat => .int (k : Int)) (fun z : Nat => nD z) (fun z => z < 2 ^ n) Few (w_rng1 (n := 4) (w_cons w_c w_nil) (by decide)) (by decide) hg3 fun k hk g hg => by
    obtain ⟨z, g', e, hz, hg'⟩ := w_draw (C := C) (ρ := [some .h, some (.d (nD n)), some (.d (nD (2 ^ n - 1))), some (.d (nD how)), some (.d (nD f)), some (.l [nD a, nD b, nD c]), none, some (.d (nD k)), none]) (g := g) (top := 2 ^ n) (i := 0) rfl (φ := fOp oAdd (fVar 2) (fC (.int 1))) (w_op w_var w_c (by rw [← full_one n]; exact o_addN _ 1)) pos (by omega) hg
    exact ⟨_, z, g', rfl, e, hz, hg'⟩
  rw [List.length_range] at hlen
  obtain ⟨d0, d1, d2, d3, rfl⟩ := list4 hlen
  have l0 := hds d0 (by simp)
  have l1 := hds d1 (by simp)
  have l2 := hds d2 (by simp)
  have l3 := hds d3 (by simp)
  have start : ∀ {ψ : SFn SrcG} {o : SOut SrcG}, ψ (rhoD n how f a b c d0 d1 d2 d3) g4 = o → sSeq (sAsg 2 (fCall 1 (v__law_full C) (aCons (fVar 1) aNil))) (sSeq (sAsg 3 (fCallS 2 (v__law_draw C) (aCons (fVar 0) (aCons (fC (.int 8)) aNil)))) (sSeq (sAsg 4 (fCallS 2 (v__law_draw C) (aCons (fVar 0) (aCons (fOp oAdd (fVar 1) (fC (.int 1))) aNil)))) (sSeq (sAsg 5 (fCallS 2 (v__law_groups C) (aCons (fVar 0) (aCons (fVar 1) aNil))))
      (sSeq (sAsg 6 (fLc [7] (iRng1F (aCons (fC (.int 4)) aNil)) (asgN 7) fYes (fCallS 2 (v__law_draw C) (aCons (fVar 0) (aCons (fOp oAdd (fVar 2) (fC (.int 1))) aNil))))) ψ)))) [some .h, some (.d (nD n)), none, none, none, none, none, none, none] g = o := fun h =>
    Eq.trans (u_seq (u_set (w_call (w_cons w_var w_nil) rfl rfl (e_full n hn)))) (Eq.trans (u_seq (u_set e1)) (Eq.trans (u_seq (u_set e2)) (Eq.trans (u_seq (u_set (w_callS (w_cons (w_varH rfl) (w_cons w_var w_nil)) rfl rfl e3))) (Eq.trans (u_seq (u_set e4)) h))))
  have f2 : f ≤ n := by omega
  match how, hhow with
  | 0, _ => exact (br0 h1 hn f2 hs l0 l1 l2 l3 hg4).imp fun M ⟨g', e, a⟩ => ⟨g', start (u_seqR (Eq.trans (u_ifT (is_how 0 0)) e)), a⟩
  | 1, _ => exact (br1 h1 hn f2 hs l0 l1 l2 l3 hg4).imp fun M ⟨g', e, a⟩ => ⟨g', start (Eq.trans (u_seq (Eq.trans (u_ifF (is_how 1 0)) u_nil)) (u_seqR (Eq.trans (u_ifT (is_how 1 1)) e))), a⟩
  | 2, _ => exact (br2 h1 hn f2 hs l0 l1 l2 l3 hg4).imp fun M ⟨g', e, a⟩ => ⟨g', start (Eq.trans (u_seq (Eq.trans (u_ifF (is_how 2 0)) u_nil)) (Eq.trans (u_seq (Eq.trans (u_ifF (is_how 2 1)) u_nil)) (u_seqR (Eq.trans (u_ifT (is_how 2 2)) e)))), a⟩
  | 3, _ => exact (br3 h1 hn f2 hs l0 l1 l2 l3 hg4).imp fun M ⟨g', e, a⟩ => ⟨g', start (Eq.trans (u_seq (Eq.trans (u_ifF (is_how 3 0)) u_nil)) (Eq.trans (u_seq (Eq.trans (u_ifF (is_how 3 1)) u_nil)) (Eq.trans (u_seq (Eq.trans (u_ifF (is_how 3 2)) u_nil)) (u_seqR (Eq.trans (u_ifT (is_how 3 3)) e))))), a⟩
  | 4, _ => exact (br4 (C := C) h1 hn f2 hs l0 l1 l2 l3 hg4).imp fun M ⟨g', e, a⟩ => ⟨g', start (Eq.trans (u_seq (Eq.trans (u_ifF (is_how 4 0)) u_nil)) (Eq.trans (u_seq (Eq.trans (u_ifF (is_how 4 1)) u_nil)) (Eq.trans (u_seq (Eq.trans (u_ifF (is_how 4 2)) u_nil)) (Eq.trans (u_seq (Eq.trans (u_ifF (is_how 4 3)) u_nil)) (u_seqR (Eq.trans (u_ifT (is_how 4 4)) e)))))), a⟩
  | 5, _ => exact (br5 (C := C) h1 hn f2 hs l0 l1 l2 l3 hg4).imp fun M ⟨g', e, a⟩ => ⟨g', start (Eq.trans (u_seq (Eq.trans (u_ifF (is_how 5 0)) u_nil)) (Eq.trans (u_seq (Eq.trans (u_ifF (is_how 5 1)) u_nil)) (Eq.trans (u_seq (Eq.trans (u_ifF (is_how 5 2)) u_nil)) (Eq.trans (u_seq (Eq.trans (u_ifF (is_how 5 3)) u_nil)) (Eq.trans (u_seq (Eq.trans (u_ifF (is_how 5 4)) u_nil)) (u_seqR (Eq.trans (u_ifT (is_how 5 5)) e))))))), a⟩
  | 6, _ => exact (br6 h1 hn f2 hs l0 l1 l2 l3 hg4).imp fun M ⟨g', e, a⟩ => ⟨g', start (Eq.trans (u_seq (Eq.trans (u_ifF (is_how 6 0)) u_nil)) (Eq.trans (u_seq (Eq.trans (u_ifF (is_how 6 1)) u_nil)) (Eq.trans (u_seq (Eq.trans (u_ifF (is_how 6 2)) u_nil)) (Eq.trans (u_seq (Eq.trans (u_ifF (is_how 6 3)) u_nil)) (Eq.trans (u_seq (Eq.trans (u_ifF (is_how 6 4)) u_nil)) (Eq.trans (u_seq (Eq.trans (u_ifF (is_how 6 5)) u_nil)) (u_seqR (Eq.trans (u_ifT (is_how 6 6)) e)))))))), a⟩
  | 7, _ => exact (br7 (C := C) h1 hn f2 hs l0 l1 l2 l3 hg4).imp fun M ⟨g', e, a⟩ => ⟨g', start (Eq.trans (u_seq (Eq.trans (u_ifF (is_how 7 0)) u_nil)) (Eq.trans (u_seq (Eq.trans (u_ifF (is_how 7 1)) u_nil)) (Eq.trans (u_seq (Eq.trans (u_ifF (is_how 7 2)) u_nil)) (Eq.trans (u_seq (Eq.trans (u_ifF (is_how 7 3)) u_nil)) (Eq.trans (u_seq (Eq.trans (u_ifF (is_how 7 4)) u_nil)) (Eq.trans (u_seq (Eq.trans (u_ifF (is_how 7 5)) u_nil)) (Eq.trans (u_seq (Eq.trans (u_ifF (is_how 7 6)) u_nil)) (e)))))))), a⟩
  | k + 8, h => exact absurd h (by omega)
end K3

set_option Elab.async false
set_option linter.all false
set_option autoImplicit false
set_option maxRecDepth 100000
set_option maxHeartbeats 2000000
namespace K3
open PySem PySem.Spec PyProof.Rows L2 Dn
variable {C : Addr}
/-! ### few fears -/
abbrev upE (n few : Nat) : Nat → Bool := fun m => decide ((lot n m).length ≤ few)
theorem few_gen0 : ∀ n, n < 7 → ∀ few, few < 7 → few ≤ n → ∀ x, x < 2 ^ n → upE n few x = (allF n (fewE n few)).any fun y => wt x y := by decide +kernel
theorem few_anti0 : ∀ n, n < 7 → ∀ few, few < 7 → ((allF n (fewE n few)).all fun a => (allF n (fewE n few)).all fun b => !wt a b || decide (a = b)) = true := by decide +kernel
theorem fr_few {n few : Nat} (h1 : 1 ≤ n) (hn : n ≤ 6) (hf : few ≤ n) : Fr n (upE n few) (allF n (fewE n few)) := by
  have lt : ∀ m ∈ allF n (fewE n few), m < 2 ^ n := fun m hm => List.mem_range.mp (List.mem_filter.mp hm).1
  refine ⟨h1, hn, ⟨lt, List.Pairwise.filter _ List.nodup_range, fun z => ?_, fun a ha b hb hw => ?_⟩, ⟨lt, fun x hx => ?_⟩⟩
  · have z2 := few_there n (by omega) few hf
    rw [List.any_eq_true] at z2
    obtain ⟨m, hm, hp⟩ := z2
    have : m ∈ allF n (fewE n few) := List.mem_filter.mpr ⟨hm, hp⟩
    rw [z] at this
    cases this
  · have := List.all_eq_true.mp (List.all_eq_true.mp (few_anti0 n (by omega) few (by omega)) a ha) b hb
    rw [hw, Bool.not_true, Bool.false_or, decide_eq_true_iff] at this
    exact this
  · rw [few_gen0 n (by omega) few (by omega) hf x hx, List.any_eq_true]
theorem few_atomsB : ∀ n, n < 7 → ∀ few, few < 7 → (!decide (few ≤ n) || (if (decide (2 * few < n) || decide (n = 1)) = true then atomsL n (pars n (upE n few)) == [(List.range n).map fun k : Nat => (k : Int)] else atomsL n (pars n (upE n few)) == (List.range n).map fun k : Nat => [(k : Int)])) = true := by decide +kernel
theorem few_atoms0 (n : Nat) (hn : n < 7) (few : Nat) (hf : few < 7) (h : few ≤ n) (c : (decide (2 * few < n) || decide (n = 1)) = true) : atomsL n (pars n (upE n few)) = [(List.range n).map fun k : Nat => (k : Int)] := by
  have z := few_atomsB n hn few hf
  rw [decide_eq_true h, Bool.not_true, Bool.false_or, if_pos c, beq_iff_eq] at z
  exact z
theorem few_atoms1 (n : Nat) (hn : n < 7) (few : Nat) (hf : few < 7) (h : few ≤ n) (c : (decide (2 * few < n) || decide (n = 1)) = false) : atomsL n (pars n (upE n few)) = (List.range n).map fun k : Nat => [(k : Int)] := by
  have z := few_atomsB n hn few hf
  rw [decide_eq_true h, Bool.not_true, Bool.false_or, if_neg (by rw [c]; decide), beq_iff_eq] at z
  exact z
theorem few_pars : ∀ n, n < 7 → ∀ few, few < 7 → few ≤ n → pars n (upE n few) = (List.range (2 ^ n)).filter fun m => decide (n - few ≤ (lot n m).length) && decide ((lot n m).length ≤ few) := by decide +kernel
theorem o_mul2l (a : Nat) (h : a ≤ 100) : oMul (.d (.int 2)) (.d (nD a)) = some (.d (nD (2 * a))) := by
  have l : (2 : Int).natAbs.log2 + (a : Int).natAbs.log2 < 1000000 := by
    have h1 : (a : Int).natAbs = a := by omega
    have h2 : (2 : Int).natAbs.log2 = 1 := by decide +kernel
    rw [h1, h2]
    have := Nat.log2_le_self a
    omega
  show (if (2 : Int).natAbs.log2 + (a : Int).natAbs.log2 < 1000000 then some (PyData.int (2 * (a : Int))) else none).map SV.d = _
  rw [if_pos l]
  rfl
theorem o_ltN (a b : Nat) : oLtS (.d (nD a)) (.d (nD b)) = some (.d (.bool (decide (a < b)))) := by
  show some (SV.d (.bool (decide ((a : Int) < (b : Int))))) = _
  rw [show decide ((a : Int) < (b : Int)) = decide (a < b) from decide_eq_decide.mpr (by omega)]
theorem o_leN (a b : Nat) : oLe (.d (nD a)) (.d (nD b)) = some (.d (.bool (decide (a ≤ b)))) := by
  show some (SV.d (.bool (decide ((a : Int) ≤ (b : Int))))) = _
  rw [show decide ((a : Int) ≤ (b : Int)) = decide (a ≤ b) from decide_eq_decide.mpr (by omega)]
theorem w_tupR {γ : Type} {ρ : Dn.Env} {g : γ} {φ : Fn γ} {n : Nat} (h : φ ρ g = .ok (.d (nD n)) g) (hn : n ≤ 1000) : fTupR φ ρ g = .ok (.d (.tuple ((List.range n).map fun k => .int (k : Nat)))) g := by
  unfold fTupR
  rw [h]
  show (if -1000 ≤ (n : Int) ∧ (n : Int) ≤ 1000 then Out.ok (SV.d (.tuple ((List.range (n : Int).toNat).map fun k => PyData.int (k : Nat)))) g else .stuck) = _
  rw [if_pos (by omega)]
  rfl
theorem e_few_hold {n : Nat} {g : SrcG} (h1 : 1 ≤ n) (hn : n ≤ 6) (hg : Few g) : ∃ g', v__law_few_hold C [.h, .d (nD n)] g = .ok (.d (.bool true)) g' ∧ Few g' := by
  have hp := pow_le hn
  obtain ⟨few, g', ed, hf, hg'⟩ := w_draw (C := C) (ρ := [some .h, some (.d (nD n)), none, none, none, none, none, none]) (g := g) (top := n + 1) (i := 0) rfl (φ := fOp oAdd (fVar 1) (fC (.int 1))) (w_op w_var w_c (o_addN n 1)) (by omega) (by omega) hg
  have hf : few ≤ n := by omega
  have f := fr_few h1 hn hf
  refine ⟨g', run_s ?_, hg'⟩
  obtain ⟨F, hF⟩ : ∃ F, F = lsD n (allF n (fewE n few)) := ⟨_, rfl⟩
  have ea : v_atoms_of C [nD n, F] = okD (.tuple ((atomsL n (pars n (upE n few))).map tupD)) := by rw [hF]; exact e_atoms_of f
  have ep : v_partings_of C [nD n, F] = okD (lsD n (pars n (upE n few))) := by rw [hF]; exact e_partings_of f
  have sa := shy_atoms (n := n) (P := pars n (upE n few)) hn
  have sp := (shy_lots hn (M := pars n (upE n few)) (by have := pars_len hn (upE n few); omega)).1
  refine Eq.trans (u_seq (u_set ed)) ?_
  refine Eq.trans (u_seq (u_set (x := .d F) (w_call (w_cons w_var (w_cons w_var w_nil)) rfl rfl (by rw [hF]; exact e_few_fears h1 hn hf)))) ?_
  have es : (fCB bTuple (aCons (fLc [7] (iRng1F (aCons (fVar 1) aNil)) (asgN 7) fYes (fTup (aCons (fVar 7) aNil))) aNil) : Fn SrcG) [some .h, some (.d (nD n)), some (.d (nD few)), some (.d F), none, none, none, none] g' = .ok (.d (.tuple (((List.range n).map fun k : Nat => [(k : Int)]).map tupD))) g' := by
    rw [List.map_map]
    exact w_cb (w_cons (w_lc (List.range n) (fun k : Nat => .int (k : Int)) (fun k : Nat => tupD [(k : Int)]) (w_rng1 (w_cons w_var w_nil) (by omega)) (by rw [List.length_range]; omega) fun k hk => ⟨[some .h, some (.d (nD n)), some (.d (nD few)), some (.d F), none, none, none, some (.d (nD k))], rfl, w_tup (w_cons w_var w_nil) rfl (by simp)⟩) w_nil) rfl
  refine Eq.trans (u_seq (u_set es)) ?_
  have hc : (fOr (fOp oLtS (fOp oMul (fC (.int 2)) (fVar 2)) (fVar 1)) (fOp oEqS (fVar 1) (fC (.int 1))) : Fn SrcG) [some .h, some (.d (nD n)), some (.d (nD few)), some (.d F), some (.d (.tuple (((List.range n).map fun k : Nat => [(k : Int)]).map tupD))), none, none, none] g' = .ok (.d (.bool (decide (2 * few < n) || decide (n = 1)))) g' :=
    w_or (w_op (w_op w_c w_var (o_mul2l few (by omega))) w_var (o_ltN _ _)) fun _ => w_op w_var w_c (o_eqN n 1)
  by_cases c : 2 * few < n ∨ n = 1
  · have cb : (decide (2 * few < n) || decide (n = 1)) = true := by
      rw [Bool.or_eq_true, decide_eq_true_iff, decide_eq_true_iff]; exact c
    rw [cb] at hc
    have e0 := few_atoms0 n (by omega) few (by omega) hf cb
    rw [e0] at ea sa
    refine u_seqR (Eq.trans (u_ifT hc) (u_ret (w_reprEq sa (by decide) (w_call (w_cons w_var (w_cons w_var w_nil)) rfl rfl ea) (w_tup (w_cons (w_tupR w_var (by omega)) w_nil) ?_ (by simp)))))
    show some [PyData.tuple ((List.range n).map fun k => PyData.int (k : Nat))] = some [PyData.tuple (((List.range n).map fun k : Nat => (k : Int)).map PyData.int)]
    rw [List.map_map]
    rfl
  · have cb : (decide (2 * few < n) || decide (n = 1)) = false := by
      rw [Bool.or_eq_false_iff, decide_eq_false_iff_not, decide_eq_false_iff_not]; exact ⟨fun z => c (.inl z), fun z => c (.inr z)⟩
    rw [cb] at hc
    have e0 := few_atoms1 n (by omega) few (by omega) hf cb
    rw [e0] at ea sa
    refine Eq.trans (u_seq (Eq.trans (u_ifF hc) u_nil)) ?_
    obtain ⟨S, hS⟩ : ∃ S, S = PyData.tuple (((List.range n).map fun k : Nat => [(k : Int)]).map tupD) := ⟨_, rfl⟩
    rw [← hS] at ea sa ⊢
    have em : (fLc [6] (iRng1F (aCons (fOp oAdd (fCall 1 (v__law_full C) (aCons (fVar 1) aNil)) (fC (.int 1))) aNil)) (asgN 6) (fAnd (fOp oLe (fOp oSub (fVar 1) (fVar 2)) (fCall 2 (v__law_ones C) (aCons (fVar 1) (aCons (fVar 6) aNil)))) (fOp oLe (fCall 2 (v__law_ones C) (aCons (fVar 1) (aCons (fVar 6) aNil))) (fVar 2))) (fVar 6) : Fn SrcG) [some .h, some (.d (nD n)), some (.d (nD few)), some (.d F), some (.d S), none, none, none] g' = .ok (.l ((pars n (upE n few)).map fun k : Nat => nD k)) g' := by
      rw [few_pars n (by omega) few (by omega) hf]
      refine w_lcf (own := [6]) (asg := asgN 6) (List.range (2 ^ n)) (fun m : Nat => .int (m : Int)) (fun m : Nat => nD m) (fun m => decide (n - few ≤ (lot n m).length) && decide ((lot n m).length ≤ few)) (w_rngF hn rfl) (by rw [List.length_range]; omega) fun m hm => ⟨[some .h, some (.d (nD n)), some (.d (nD few)), some (.d F), some (.d S), none, some (.d (nD m)), none], rfl, ?_, fun _ => w_var⟩
      have esub : oSub (.d (nD n)) (.d (nD few)) = some (.d (nD (n - few))) := by
        show some (SV.d (.int ((n : Int) - (few : Int)))) = _
        rw [show (n : Int) - (few : Int) = ((n - few : Nat) : Int) by omega]
      exact w_and (w_op (w_op w_var w_var esub) (w_call (w_cons w_var (w_cons w_var w_nil)) rfl rfl (e_ones hn)) (o_leN _ _)) fun _ => w_op (w_call (w_cons w_var (w_cons w_var w_nil)) rfl rfl (e_ones hn)) w_var (o_leN _ _)
    refine Eq.trans (u_seq (u_set em)) (Eq.trans (u_frzL rfl) ?_)
    exact u_ret (w_and (p := true) (q := true) (w_reprEq sa (by decide) (w_call (w_cons w_var (w_cons w_var w_nil)) rfl rfl ea) (w_var (x := S) rfl)) fun _ => w_reprEq sp (by decide) (w_call (w_cons w_var (w_cons w_var w_nil)) rfl rfl ep) (w_call (w_cons w_var (w_cons (w_var (x := msD (pars n (upE n few))) rfl) w_nil)) rfl rfl (e_set_of hn _ (by have := pars_len hn (upE n few); omega))))
end K3

set_option Elab.async false
set_option linter.all false
set_option autoImplicit false
set_option maxRecDepth 1000000
set_option maxHeartbeats 4000000
namespace K3
open PySem PySem.Spec PyProof.Rows L2 Dn
variable {C : Addr}
/-! ### what is refused -/
structure Tell (w s : Str) : Prop where
  shw : (PyData.tuple [.str w, .int (-1)]).showable = true ∧ (PyData.tuple [.str w, .int (-1)]).depth ≤ 60 ∧ (PyData.tuple [.str w, .int (-1)]).shown.length ≤ sizeLine
  eq : (PyData.tuple [.str w, .int (-1)]).shown = s
theorem tell_lot : Tell "lot" "('lot', -1)" := ⟨by decide +kernel, by decide +kernel⟩
theorem tell_one : Tell "one" "('one', -1)" := ⟨by decide +kernel, by decide +kernel⟩
theorem tell_other : Tell "other" "('other', -1)" := ⟨by decide +kernel, by decide +kernel⟩
theorem tell_house : Tell "house" "('house', -1)" := ⟨by decide +kernel, by decide +kernel⟩
theorem tell_fears : Tell "fears" "('fears', -1)" := ⟨by decide +kernel, by decide +kernel⟩
theorem u_tryX {w s : Str} {ψ : SFn Unit} {ρ ρ' : Dn.Env} (t : Tell w s) (h : ψ ρ () = .exc C [("at", .int (-1)), ("word", .str w)] ρ' ()) (hl : 4 < ρ'.length) : sTryR 4 C "word" "at" ψ ρ () = .ret (.d (.str s)) () := by
  unfold sTryR
  rw [h]
  have e1 : List.lookup ("word" : Str) ([(("at" : Str), PyData.int (-1)), (("word" : Str), PyData.str w)] : List (Str × PyData)) = some (.str w) := by
    have a : (("word" : Str) == ("at" : Str)) = false := by decide +kernel
    have b : (("word" : Str) == ("word" : Str)) = true := by decide +kernel
    simp [List.lookup, a, b]
  have e2 : List.lookup ("at" : Str) ([(("at" : Str), PyData.int (-1)), (("word" : Str), PyData.str w)] : List (Str × PyData)) = some (.int (-1)) := by
    have a : (("at" : Str) == ("at" : Str)) = true := by decide +kernel
    simp [List.lookup, a]
  dsimp only
  rw [if_pos ⟨rfl, hl⟩, e1, e2]
  dsimp only
  rw [if_pos t.shw, t.eq]
theorem u_tryN {ψ : SFn Unit} {ρ ρ' : Dn.Env} (h : ψ ρ () = .next ρ' ()) : sTryR 4 C "word" "at" ψ ρ () = .next ρ' () := by
  unfold sTryR
  rw [h]
abbrev rho (j : Nat) (n : Nat) (F w : PyData) : Dn.Env := [some (.d (nD j)), some (.d (nD n)), some (.d F), some (.d w), none]
def brn (C : Addr) : Nat → SFn Unit
  | 0 => sDrop (fCall 3 (v_is_parting C) (aCons (fVar 1) (aCons (fVar 2) (aCons (fVar 3) aNil))))
  | 1 => sDrop (fCall 4 (v_parting_of C) (aCons (fVar 1) (aCons (fVar 2) (aCons (fVar 3) (aCons (fC (.int 0)) aNil)))))
  | 2 => sDrop (fCall 4 (v_parting_of C) (aCons (fVar 1) (aCons (fVar 2) (aCons (fC (.int 0)) (aCons (fVar 3) aNil)))))
  | 3 => sDrop (fCall 3 (v_atom_at C) (aCons (fVar 1) (aCons (fVar 2) (aCons (fVar 3) aNil))))
  | 4 => sDrop (fCall 2 (v_atoms_of C) (aCons (fVar 1) (aCons (fVar 3) aNil)))
  | _ => sDrop (fCall 2 (v_partings_of C) (aCons (fVar 1) (aCons (fVar 3) aNil)))
theorem ifs_at {n : Nat} {F w : PyData} (j : Nat) (hj : j ≤ 5) : (sIf (fOp oEqS (fVar 0) (fC (.int 0))) (brn C 0) (sIf (fOp oEqS (fVar 0) (fC (.int 1))) (brn C 1) (sIf (fOp oEqS (fVar 0) (fC (.int 2))) (brn C 2) (sIf (fOp oEqS (fVar 0) (fC (.int 3))) (brn C 3) (sIf (fOp oEqS (fVar 0) (fC (.int 4))) (brn C 4) (brn C 5)))))) (rho j n F w) () = brn C j (rho j n F w) () := by
  match j, hj with
  | 0, _ => exact u_ifT (w_op w_var w_c rfl)
  | 1, _ => exact Eq.trans (u_ifF (w_op w_var w_c rfl)) (u_ifT (w_op w_var w_c rfl))
  | 2, _ => exact Eq.trans (u_ifF (w_op w_var w_c rfl)) (Eq.trans (u_ifF (w_op w_var w_c rfl)) (u_ifT (w_op w_var w_c rfl)))
  | 3, _ => exact Eq.trans (u_ifF (w_op w_var w_c rfl)) (Eq.trans (u_ifF (w_op w_var w_c rfl)) (Eq.trans (u_ifF (w_op w_var w_c rfl)) (u_ifT (w_op w_var w_c rfl))))
  | 4, _ => exact Eq.trans (u_ifF (w_op w_var w_c rfl)) (Eq.trans (u_ifF (w_op w_var w_c rfl)) (Eq.trans (u_ifF (w_op w_var w_c rfl)) (Eq.trans (u_ifF (w_op w_var w_c rfl)) (u_ifT (w_op w_var w_c rfl)))))
  | 5, _ => exact Eq.trans (u_ifF (w_op w_var w_c rfl)) (Eq.trans (u_ifF (w_op w_var w_c rfl)) (Eq.trans (u_ifF (w_op w_var w_c rfl)) (Eq.trans (u_ifF (w_op w_var w_c rfl)) (u_ifF (w_op w_var w_c rfl)))))
/-- what the ask of that number gives -/
def askV (C : Addr) (n : Nat) (F w : PyData) : Nat → Out Unit
  | 0 => v_is_parting C [nD n, F, w]
  | 1 => v_parting_of C [nD n, F, w, nD 0]
  | 2 => v_parting_of C [nD n, F, nD 0, w]
  | 3 => v_atom_at C [nD n, F, w]
  | 4 => v_atoms_of C [nD n, w]
  | _ => v_partings_of C [nD n, w]
theorem br_ok {n : Nat} {F w d : PyData} (j : Nat) (hj : j ≤ 5) (h : askV C n F w j = okD d) : brn C j (rho j n F w) () = .next (rho j n F w) () := by
  match j, hj with
  | 0, _ => exact u_drop (w_call (w_cons w_var (w_cons w_var (w_cons w_var w_nil))) rfl rfl h)
  | 1, _ => exact u_drop (w_call (w_cons w_var (w_cons w_var (w_cons w_var (w_cons w_c w_nil)))) rfl rfl h)
  | 2, _ => exact u_drop (w_call (w_cons w_var (w_cons w_var (w_cons w_c (w_cons w_var w_nil)))) rfl rfl h)
  | 3, _ => exact u_drop (w_call (w_cons w_var (w_cons w_var (w_cons w_var w_nil))) rfl rfl h)
  | 4, _ => exact u_drop (w_call (w_cons w_var (w_cons w_var w_nil)) rfl rfl h)
  | 5, _ => exact u_drop (w_call (w_cons w_var (w_cons w_var w_nil)) rfl rfl h)
theorem br_x {n : Nat} {F w : PyData} {s : Str} (j : Nat) (hj : j ≤ 5) (h : askV C n F w j = xc C s) : brn C j (rho j n F w) () = .exc C [("at", .int (-1)), ("word", .str s)] (rho j n F w) () := by
  match j, hj with
  | 0, _ => exact u_dropX (w_callX (w_cons w_var (w_cons w_var (w_cons w_var w_nil))) rfl rfl h)
  | 1, _ => exact u_dropX (w_callX (w_cons w_var (w_cons w_var (w_cons w_var (w_cons w_c w_nil)))) rfl rfl h)
  | 2, _ => exact u_dropX (w_callX (w_cons w_var (w_cons w_var (w_cons w_c (w_cons w_var w_nil)))) rfl rfl h)
  | 3, _ => exact u_dropX (w_callX (w_cons w_var (w_cons w_var (w_cons w_var w_nil))) rfl rfl h)
  | 4, _ => exact u_dropX (w_callX (w_cons w_var (w_cons w_var w_nil)) rfl rfl h)
  | 5, _ => exact u_dropX (w_callX (w_cons w_var (w_cons w_var w_nil)) rfl rfl h)
theorem refX {n : Nat} {F w : PyData} {s r : Str} (j : Nat) (hj : j ≤ 5) (t : Tell s r) (h : askV C n F w j = xc C s) : v__law_refused C [nD j, nD n, F, w] = okD (.str r) :=
  run_body (u_seqR (u_tryX t (Eq.trans (ifs_at j hj) (br_x j hj h)) (show 4 < 5 by decide)))
theorem refL {n : Nat} {F w d : PyData} (j : Nat) (hj : j ≤ 5) (h : askV C n F w j = okD d) : v__law_refused C [nD j, nD n, F, w] = okD (.str "let") :=
  run_body (Eq.trans (u_seq (u_tryN (Eq.trans (ifs_at j hj) (br_ok j hj h)))) (u_ret w_c))
/-- an ask and what is due -/
def Good (C : Addr) (n : Nat) (F y : PyData) : Prop := ∃ (j : Nat) (w : PyData) (s : Str), y = .tuple [nD j, w, .str s] ∧ v__law_refused C [nD j, nD n, F, w] = okD (.str s)
theorem goodX {n : Nat} {F w : PyData} {s r : Str} (j : Nat) (hj : j ≤ 5) (t : Tell s r) (h : askV C n F w j = xc C s) : Good C n F (.tuple [nD j, w, .str r]) := ⟨j, w, r, rfl, refX j hj t h⟩
theorem goodL {n : Nat} {F w d : PyData} (j : Nat) (hj : j ≤ 5) (h : askV C n F w j = okD d) : Good C n F (.tuple [nD j, w, .str "let"]) := ⟨j, w, "let", rfl, refL j hj h⟩
theorem lot_bad {n : Nat} {E : Nat → Bool} {T : List Nat} (f : Fr n E T) {w : PyData} (h : v_need_lot C [nD n, w] = xc C "lot") : v_is_parting C [nD n, lsD n T, w] = xc C "lot" :=
  run_bodyX (Eq.trans (u_seq (u_drop (w_call (w_cons w_var (w_cons w_var w_nil)) rfl rfl (e_need_fears f.h1 f.hn f.fe)))) (u_seqX (u_dropX (w_callX (w_cons w_var (w_cons w_var w_nil)) rfl rfl h))))
theorem two_bad {n : Nat} {E : Nat → Bool} {T : List Nat} (f : Fr n E T) {x y : PyData} {s : Str} (h : v_need_two C [nD n, x, y] = xc C s) : v_parting_of C [nD n, lsD n T, x, y] = xc C s :=
  run_bodyX (Eq.trans (u_seq (u_drop (w_call (w_cons w_var (w_cons w_var w_nil)) rfl rfl (e_need_fears f.h1 f.hn f.fe)))) (u_seqX (u_dropX (w_callX (w_cons w_var (w_cons w_var (w_cons w_var w_nil))) rfl rfl h))))
theorem house_bad {n : Nat} {E : Nat → Bool} {T : List Nat} (f : Fr n E T) {w : PyData} (h : v_need_house C [nD n, w] = xc C "house") : v_atom_at C [nD n, lsD n T, w] = xc C "house" :=
  run_bodyX (Eq.trans (u_seq (u_drop (w_call (w_cons w_var (w_cons w_var w_nil)) rfl rfl (e_need_fears f.h1 f.hn f.fe)))) (u_seqX (u_dropX (w_callX (w_cons w_var (w_cons w_var w_nil)) rfl rfl h))))
abbrev endB (C : Addr) : SFn Unit := sIf (fOp oNeS (fCall 4 (v__law_refused C) (aCons (fOp oIx (fVar 4) (fC (.int 0))) (aCons (fVar 0) (aCons (fVar 1) (aCons (fOp oIx (fVar 4) (fC (.int 1))) aNil))))) (fOp oIx (fVar 4) (fC (.int 2)))) (sRet (fC (.bool false))) sNil
theorem ends_loop {n : Nat} {F Y : PyData} {asks : List PyData} (h : ∀ y ∈ asks, Good C n F y) : sSeq (sFor (iAny (fVar 3)) (asgN 4) (endB C)) (sRet (fC (.bool true))) [some (.d (nD n)), some (.d F), some (.d Y), some (.d (.list asks)), none] () = .ret (.d (.bool true)) () := by
  have key := loop_inv (γ := Unit) (asg := asgN 4) (body := endB C) (fun rest ρ _ => ∃ t, ρ = [some (.d (nD n)), some (.d F), some (.d Y), some (.d (.list asks)), t] ∧ ∀ y ∈ rest, Good C n F y) ?_ asks [some (.d (nD n)), some (.d F), some (.d Y), some (.d (.list asks)), none] () ⟨none, rfl, h⟩
  · obtain ⟨ρ', g', e, t, rfl, _⟩ := key
    exact Eq.trans (u_seq (Eq.trans (u_for (w_anyL w_var)) e)) (u_ret w_c)
  · rintro y rest ρ g ⟨t, rfl, hall⟩
    obtain ⟨j, w, s, rfl, e⟩ := hall y List.mem_cons_self
    have e2 : oNeS (.d (.str s)) (.d (.str s)) = some (.d (.bool false)) := o_neS s
    refine ⟨_, [some (.d (nD n)), some (.d F), some (.d Y), some (.d (.list asks)), some (.d (.tuple [nD j, w, .str s]))], (), rfl, Eq.trans (u_ifF (w_op (w_call (w_cons (w_op w_var w_c (z := .d (nD j)) rfl) (w_cons w_var (w_cons w_var (w_cons (w_op w_var w_c (z := .d w) rfl) w_nil)))) rfl rfl e) (w_op w_var w_c (z := .d (.str s)) rfl) e2)) u_nil, _, rfl, fun z hz => hall z (List.mem_cons_of_mem _ hz)⟩
def asks1_0 (F : PyData) : List PyData := [.tuple [.int 0, .tuple [.int 1], .str "('lot', -1)"], .tuple [.int 0, .tuple [.int 0], .str "let"], .tuple [.int 0, .list [.int 0], .str "('lot', -1)"], .tuple [.int 0, .tuple [], .str "let"]]
def asks1_1 (F : PyData) : List PyData := [.tuple [.int 1, .int 1, .str "('one', -1)"], .tuple [.int 1, .int 0, .str "('other', -1)"], .tuple [.int 2, .int 0, .str "('other', -1)"], .tuple [.int 2, .int 1, .str "('other', -1)"]]
def asks1_2 (F : PyData) : List PyData := [.tuple [.int 1, .bool false, .str "('one', -1)"], .tuple [.int 2, .none, .str "('other', -1)"], .tuple [.int 3, .int 0, .str "let"], .tuple [.int 3, .int 1, .str "('house', -1)"]]
def asks1_3 (F : PyData) : List PyData := [.tuple [.int 3, .int (-1), .str "('house', -1)"], .tuple [.int 3, .bool false, .str "('house', -1)"], .tuple [.int 4, .tuple [], .str "('fears', -1)"], .tuple [.int 4, F, .str "let"]]
def asks1_4 (F : PyData) : List PyData := [.tuple [.int 4, .tuple [.tuple [.int 1]], .str "('fears', -1)"], .tuple [.int 5, .tuple [.tuple [.int 0], .tuple [.int 0]], .str "('fears', -1)"], .tuple [.int 5, .tuple [.tuple []], .str "let"]]
theorem build1 (F : PyData) : p__law_ends_hold C [some (.d (nD 1)), some (.d F), none, none, none] () = sSeq (sFor (iAny (fVar 3)) (asgN 4) (endB C)) (sRet (fC (.bool true))) [some (.d (nD 1)), some (.d F), some (.d (.tuple [.int 0])), some (.d (.list ((((asks1_0 F ++ asks1_1 F) ++ asks1_2 F) ++ asks1_3 F) ++ asks1_4 F))), none] () := by
  refine Eq.trans (u_seq (u_set (x := .d (.tuple [.int 0])) rfl)) ?_
  refine Eq.trans (u_seq (u_set (x := .l (asks1_0 F)) rfl)) ?_
  refine Eq.trans (u_seq (u_set (x := .l (asks1_0 F ++ asks1_1 F)) rfl)) ?_
  refine Eq.trans (u_seq (u_set (x := .l ((asks1_0 F ++ asks1_1 F) ++ asks1_2 F)) rfl)) ?_
  refine Eq.trans (u_seq (u_set (x := .l (((asks1_0 F ++ asks1_1 F) ++ asks1_2 F) ++ asks1_3 F)) rfl)) ?_
  refine Eq.trans (u_seq (u_set (x := .l ((((asks1_0 F ++ asks1_1 F) ++ asks1_2 F) ++ asks1_3 F) ++ asks1_4 F)) rfl)) ?_
  refine Eq.trans (u_seq (Eq.trans (u_ifF rfl) u_nil)) ?_
  exact u_frzL rfl
theorem good1 {E : Nat → Bool} {T : List Nat} (f : Fr 1 E T) : ∀ y ∈ (((asks1_0 (lsD 1 T) ++ asks1_1 (lsD 1 T)) ++ asks1_2 (lsD 1 T)) ++ asks1_3 (lsD 1 T)) ++ asks1_4 (lsD 1 T), Good C 1 (lsD 1 T) y := by
  intro y hy
  simp only [List.mem_append, asks1_0, asks1_1, asks1_2, asks1_3, asks1_4, List.mem_cons, List.not_mem_nil, or_false] at hy
  rcases hy with ((((rfl | rfl | rfl | rfl) | (rfl | rfl | rfl | rfl)) | (rfl | rfl | rfl | rfl)) | (rfl | rfl | rfl | rfl)) | (rfl | rfl | rfl)
  · exact goodX 0 (by decide) tell_lot (lot_bad f (show v_need_lot C [nD 1, .tuple [.int 1]] = xc C "lot" from by kernel_rfl))
  · exact goodL 0 (by decide) (show v_is_parting C [nD 1, lsD 1 T, lD 1 1] = _ from e_is_parting f (by decide))
  · exact goodX 0 (by decide) tell_lot (lot_bad f (show v_need_lot C [nD 1, .list [.int 0]] = xc C "lot" from by kernel_rfl))
  · exact goodL 0 (by decide) (show v_is_parting C [nD 1, lsD 1 T, lD 1 0] = _ from e_is_parting f (by decide))
  · exact goodX 1 (by decide) tell_one (two_bad f (show v_need_two C [nD 1, .int 1, nD 0] = xc C "one" from by kernel_rfl))
  · exact goodX 1 (by decide) tell_other (two_bad f (show v_need_two C [nD 1, .int 0, nD 0] = xc C "other" from by kernel_rfl))
  · exact goodX 2 (by decide) tell_other (two_bad f (show v_need_two C [nD 1, nD 0, .int 0] = xc C "other" from by kernel_rfl))
  · exact goodX 2 (by decide) tell_other (two_bad f (show v_need_two C [nD 1, nD 0, .int 1] = xc C "other" from by kernel_rfl))
  · exact goodX 1 (by decide) tell_one (two_bad f (show v_need_two C [nD 1, .bool false, nD 0] = xc C "one" from by kernel_rfl))
  · exact goodX 2 (by decide) tell_other (two_bad f (show v_need_two C [nD 1, nD 0, .none] = xc C "other" from by kernel_rfl))
  · exact goodL 3 (by decide) (show v_atom_at C [nD 1, lsD 1 T, nD 0] = _ from e_atom_at f (by decide))
  · exact goodX 3 (by decide) tell_house (house_bad f (show v_need_house C [nD 1, .int 1] = xc C "house" from by kernel_rfl))
  · exact goodX 3 (by decide) tell_house (house_bad f (show v_need_house C [nD 1, .int (-1)] = xc C "house" from by kernel_rfl))
  · exact goodX 3 (by decide) tell_house (house_bad f (show v_need_house C [nD 1, .bool false] = xc C "house" from by kernel_rfl))
  · exact goodX 4 (by decide) tell_fears (show v_atoms_of C [nD 1, .tuple []] = xc C "fears" from by kernel_rfl)
  · exact goodL 4 (by decide) (show v_atoms_of C [nD 1, lsD 1 T] = _ from e_atoms_of f)
  · exact goodX 4 (by decide) tell_fears (show v_atoms_of C [nD 1, .tuple [.tuple [.int 1]]] = xc C "fears" from by kernel_rfl)
  · exact goodX 5 (by decide) tell_fears (show v_partings_of C [nD 1, .tuple [.tuple [.int 0], .tuple [.int 0]]] = xc C "fears" from by kernel_rfl)
  · exact goodL (d := .tuple []) 5 (by decide) (show v_partings_of C [nD 1, .tuple [.tuple []]] = okD (.tuple []) from by kernel_rfl)
theorem ends1 {E : Nat → Bool} {T : List Nat} (f : Fr 1 E T) : v__law_ends_hold C [nD 1, lsD 1 T] = okB true := run_body (Eq.trans (build1 _) (ends_loop (good1 f)))
def asks2_0 (F : PyData) : List PyData := [.tuple [.int 0, .tuple [.int 2], .str "('lot', -1)"], .tuple [.int 0, .tuple [.int 0, .int 1], .str "let"], .tuple [.int 0, .list [.int 0, .int 1], .str "('lot', -1)"], .tuple [.int 0, .tuple [], .str "let"]]
def asks2_1 (F : PyData) : List PyData := [.tuple [.int 1, .int 2, .str "('one', -1)"], .tuple [.int 1, .int 0, .str "('other', -1)"], .tuple [.int 2, .int 0, .str "('other', -1)"], .tuple [.int 2, .int 2, .str "('other', -1)"]]
def asks2_2 (F : PyData) : List PyData := [.tuple [.int 1, .bool false, .str "('one', -1)"], .tuple [.int 2, .none, .str "('other', -1)"], .tuple [.int 3, .int 1, .str "let"], .tuple [.int 3, .int 2, .str "('house', -1)"]]
def asks2_3 (F : PyData) : List PyData := [.tuple [.int 3, .int (-1), .str "('house', -1)"], .tuple [.int 3, .bool false, .str "('house', -1)"], .tuple [.int 4, .tuple [], .str "('fears', -1)"], .tuple [.int 4, F, .str "let"]]
def asks2_4 (F : PyData) : List PyData := [.tuple [.int 4, .tuple [.tuple [.int 2]], .str "('fears', -1)"], .tuple [.int 5, .tuple [.tuple [.int 0, .int 1], .tuple [.int 0, .int 1]], .str "('fears', -1)"], .tuple [.int 5, .tuple [.tuple []], .str "let"]]
def asks2_5 (F : PyData) : List PyData := [.tuple [.int 1, .int 1, .str "let"], .tuple [.int 2, .int 1, .str "let"], .tuple [.int 5, .tuple [.tuple [.int 0], .tuple [.int 0, .int 1]], .str "('fears', -1)"]]
def asks2_6 (F : PyData) : List PyData := [.tuple [.int 4, .tuple [.tuple [.int 1], .tuple [.int 0]], .str "('fears', -1)"], .tuple [.int 4, .tuple [.tuple [.int 0], .tuple [.int 1]], .str "let"]]
theorem build2 (F : PyData) : p__law_ends_hold C [some (.d (nD 2)), some (.d F), none, none, none] () = sSeq (sFor (iAny (fVar 3)) (asgN 4) (endB C)) (sRet (fC (.bool true))) [some (.d (nD 2)), some (.d F), some (.d (.tuple [.int 0, .int 1])), some (.d (.list ((((((asks2_0 F ++ asks2_1 F) ++ asks2_2 F) ++ asks2_3 F) ++ asks2_4 F) ++ asks2_5 F) ++ asks2_6 F))), none] () := by
  refine Eq.trans (u_seq (u_set (x := .d (.tuple [.int 0, .int 1])) rfl)) ?_
  refine Eq.trans (u_seq (u_set (x := .l (asks2_0 F)) rfl)) ?_
  refine Eq.trans (u_seq (u_set (x := .l (asks2_0 F ++ asks2_1 F)) rfl)) ?_
  refine Eq.trans (u_seq (u_set (x := .l ((asks2_0 F ++ asks2_1 F) ++ asks2_2 F)) rfl)) ?_
  refine Eq.trans (u_seq (u_set (x := .l (((asks2_0 F ++ asks2_1 F) ++ asks2_2 F) ++ asks2_3 F)) rfl)) ?_
  refine Eq.trans (u_seq (u_set (x := .l ((((asks2_0 F ++ asks2_1 F) ++ asks2_2 F) ++ asks2_3 F) ++ asks2_4 F)) rfl)) ?_
  refine Eq.trans (u_seq (Eq.trans (u_ifT rfl) (Eq.trans (u_seq (u_set (x := .l (((((asks2_0 F ++ asks2_1 F) ++ asks2_2 F) ++ asks2_3 F) ++ asks2_4 F) ++ asks2_5 F)) rfl)) (u_set (x := .l ((((((asks2_0 F ++ asks2_1 F) ++ asks2_2 F) ++ asks2_3 F) ++ asks2_4 F) ++ asks2_5 F) ++ asks2_6 F)) rfl)))) ?_
  exact u_frzL rfl
theorem good2 {E : Nat → Bool} {T : List Nat} (f : Fr 2 E T) : ∀ y ∈ (((((asks2_0 (lsD 2 T) ++ asks2_1 (lsD 2 T)) ++ asks2_2 (lsD 2 T)) ++ asks2_3 (lsD 2 T)) ++ asks2_4 (lsD 2 T)) ++ asks2_5 (lsD 2 T)) ++ asks2_6 (lsD 2 T), Good C 2 (lsD 2 T) y := by
  intro y hy
  simp only [List.mem_append, asks2_0, asks2_1, asks2_2, asks2_3, asks2_4, asks2_5, asks2_6, List.mem_cons, List.not_mem_nil, or_false] at hy
  rcases hy with ((((((rfl | rfl | rfl | rfl) | (rfl | rfl | rfl | rfl)) | (rfl | rfl | rfl | rfl)) | (rfl | rfl | rfl | rfl)) | (rfl | rfl | rfl)) | (rfl | rfl | rfl)) | (rfl | rfl)
  · exact goodX 0 (by decide) tell_lot (lot_bad f (show v_need_lot C [nD 2, .tuple [.int 2]] = xc C "lot" from by kernel_rfl))
  · exact goodL 0 (by decide) (show v_is_parting C [nD 2, lsD 2 T, lD 2 3] = _ from e_is_parting f (by decide))
  · exact goodX 0 (by decide) tell_lot (lot_bad f (show v_need_lot C [nD 2, .list [.int 0, .int 1]] = xc C "lot" from by kernel_rfl))
  · exact goodL 0 (by decide) (show v_is_parting C [nD 2, lsD 2 T, lD 2 0] = _ from e_is_parting f (by decide))
  · exact goodX 1 (by decide) tell_one (two_bad f (show v_need_two C [nD 2, .int 2, nD 0] = xc C "one" from by kernel_rfl))
  · exact goodX 1 (by decide) tell_other (two_bad f (show v_need_two C [nD 2, .int 0, nD 0] = xc C "other" from by kernel_rfl))
  · exact goodX 2 (by decide) tell_other (two_bad f (show v_need_two C [nD 2, nD 0, .int 0] = xc C "other" from by kernel_rfl))
  · exact goodX 2 (by decide) tell_other (two_bad f (show v_need_two C [nD 2, nD 0, .int 2] = xc C "other" from by kernel_rfl))
  · exact goodX 1 (by decide) tell_one (two_bad f (show v_need_two C [nD 2, .bool false, nD 0] = xc C "one" from by kernel_rfl))
  · exact goodX 2 (by decide) tell_other (two_bad f (show v_need_two C [nD 2, nD 0, .none] = xc C "other" from by kernel_rfl))
  · exact goodL 3 (by decide) (show v_atom_at C [nD 2, lsD 2 T, nD 1] = _ from e_atom_at f (by decide))
  · exact goodX 3 (by decide) tell_house (house_bad f (show v_need_house C [nD 2, .int 2] = xc C "house" from by kernel_rfl))
  · exact goodX 3 (by decide) tell_house (house_bad f (show v_need_house C [nD 2, .int (-1)] = xc C "house" from by kernel_rfl))
  · exact goodX 3 (by decide) tell_house (house_bad f (show v_need_house C [nD 2, .bool false] = xc C "house" from by kernel_rfl))
  · exact goodX 4 (by decide) tell_fears (show v_atoms_of C [nD 2, .tuple []] = xc C "fears" from by kernel_rfl)
  · exact goodL 4 (by decide) (show v_atoms_of C [nD 2, lsD 2 T] = _ from e_atoms_of f)
  · exact goodX 4 (by decide) tell_fears (show v_atoms_of C [nD 2, .tuple [.tuple [.int 2]]] = xc C "fears" from by kernel_rfl)
  · exact goodX 5 (by decide) tell_fears (show v_partings_of C [nD 2, .tuple [.tuple [.int 0, .int 1], .tuple [.int 0, .int 1]]] = xc C "fears" from by kernel_rfl)
  · exact goodL (d := .tuple []) 5 (by decide) (show v_partings_of C [nD 2, .tuple [.tuple []]] = okD (.tuple []) from by kernel_rfl)
  · exact goodL 1 (by decide) (show v_parting_of C [nD 2, lsD 2 T, nD 1, nD 0] = _ from e_parting_of f (by decide) (by decide) (by decide))
  · exact goodL 2 (by decide) (show v_parting_of C [nD 2, lsD 2 T, nD 0, nD 1] = _ from e_parting_of f (by decide) (by decide) (by decide))
  · exact goodX 5 (by decide) tell_fears (show v_partings_of C [nD 2, .tuple [.tuple [.int 0], .tuple [.int 0, .int 1]]] = xc C "fears" from by kernel_rfl)
  · exact goodX 4 (by decide) tell_fears (show v_atoms_of C [nD 2, .tuple [.tuple [.int 1], .tuple [.int 0]]] = xc C "fears" from by kernel_rfl)
  · exact goodL (d := .tuple [.tuple [.int 0], .tuple [.int 1]]) 4 (by decide) (show v_atoms_of C [nD 2, .tuple [.tuple [.int 0], .tuple [.int 1]]] = okD (.tuple [.tuple [.int 0], .tuple [.int 1]]) from by kernel_rfl)
theorem ends2 {E : Nat → Bool} {T : List Nat} (f : Fr 2 E T) : v__law_ends_hold C [nD 2, lsD 2 T] = okB true := run_body (Eq.trans (build2 _) (ends_loop (good2 f)))
def asks3_0 (F : PyData) : List PyData := [.tuple [.int 0, .tuple [.int 3], .str "('lot', -1)"], .tuple [.int 0, .tuple [.int 0, .int 1, .int 2], .str "let"], .tuple [.int 0, .list [.int 0, .int 1, .int 2], .str "('lot', -1)"], .tuple [.int 0, .tuple [], .str "let"]]
def asks3_1 (F : PyData) : List PyData := [.tuple [.int 1, .int 3, .str "('one', -1)"], .tuple [.int 1, .int 0, .str "('other', -1)"], .tuple [.int 2, .int 0, .str "('other', -1)"], .tuple [.int 2, .int 3, .str "('other', -1)"]]
def asks3_2 (F : PyData) : List PyData := [.tuple [.int 1, .bool false, .str "('one', -1)"], .tuple [.int 2, .none, .str "('other', -1)"], .tuple [.int 3, .int 2, .str "let"], .tuple [.int 3, .int 3, .str "('house', -1)"]]
def asks3_3 (F : PyData) : List PyData := [.tuple [.int 3, .int (-1), .str "('house', -1)"], .tuple [.int 3, .bool false, .str "('house', -1)"], .tuple [.int 4, .tuple [], .str "('fears', -1)"], .tuple [.int 4, F, .str "let"]]
def asks3_4 (F : PyData) : List PyData := [.tuple [.int 4, .tuple [.tuple [.int 3]], .str "('fears', -1)"], .tuple [.int 5, .tuple [.tuple [.int 0, .int 1, .int 2], .tuple [.int 0, .int 1, .int 2]], .str "('fears', -1)"], .tuple [.int 5, .tuple [.tuple []], .str "let"]]
def asks3_5 (F : PyData) : List PyData := [.tuple [.int 1, .int 2, .str "let"], .tuple [.int 2, .int 2, .str "let"], .tuple [.int 5, .tuple [.tuple [.int 0], .tuple [.int 0, .int 2]], .str "('fears', -1)"]]
def asks3_6 (F : PyData) : List PyData := [.tuple [.int 4, .tuple [.tuple [.int 2], .tuple [.int 0]], .str "('fears', -1)"], .tuple [.int 4, .tuple [.tuple [.int 0], .tuple [.int 2]], .str "let"]]
theorem build3 (F : PyData) : p__law_ends_hold C [some (.d (nD 3)), some (.d F), none, none, none] () = sSeq (sFor (iAny (fVar 3)) (asgN 4) (endB C)) (sRet (fC (.bool true))) [some (.d (nD 3)), some (.d F), some (.d (.tuple [.int 0, .int 1, .int 2])), some (.d (.list ((((((asks3_0 F ++ asks3_1 F) ++ asks3_2 F) ++ asks3_3 F) ++ asks3_4 F) ++ asks3_5 F) ++ asks3_6 F))), none] () := by
  refine Eq.trans (u_seq (u_set (x := .d (.tuple [.int 0, .int 1, .int 2])) rfl)) ?_
  refine Eq.trans (u_seq (u_set (x := .l (asks3_0 F)) rfl)) ?_
  refine Eq.trans (u_seq (u_set (x := .l (asks3_0 F ++ asks3_1 F)) rfl)) ?_
  refine Eq.trans (u_seq (u_set (x := .l ((asks3_0 F ++ asks3_1 F) ++ asks3_2 F)) rfl)) ?_
  refine Eq.trans (u_seq (u_set (x := .l (((asks3_0 F ++ asks3_1 F) ++ asks3_2 F) ++ asks3_3 F)) rfl)) ?_
  refine Eq.trans (u_seq (u_set (x := .l ((((asks3_0 F ++ asks3_1 F) ++ asks3_2 F) ++ asks3_3 F) ++ asks3_4 F)) rfl)) ?_
  refine Eq.trans (u_seq (Eq.trans (u_ifT rfl) (Eq.trans (u_seq (u_set (x := .l (((((asks3_0 F ++ asks3_1 F) ++ asks3_2 F) ++ asks3_3 F) ++ asks3_4 F) ++ asks3_5 F)) rfl)) (u_set (x := .l ((((((asks3_0 F ++ asks3_1 F) ++ asks3_2 F) ++ asks3_3 F) ++ asks3_4 F) ++ asks3_5 F) ++ asks3_6 F)) rfl)))) ?_
  exact u_frzL rfl
theorem good3 {E : Nat → Bool} {T : List Nat} (f : Fr 3 E T) : ∀ y ∈ (((((asks3_0 (lsD 3 T) ++ asks3_1 (lsD 3 T)) ++ asks3_2 (lsD 3 T)) ++ asks3_3 (lsD 3 T)) ++ asks3_4 (lsD 3 T)) ++ asks3_5 (lsD 3 T)) ++ asks3_6 (lsD 3 T), Good C 3 (lsD 3 T) y := by
  intro y hy
  simp only [List.mem_append, asks3_0, asks3_1, asks3_2, asks3_3, asks3_4, asks3_5, asks3_6, List.mem_cons, List.not_mem_nil, or_false] at hy
  rcases hy with ((((((rfl | rfl | rfl | rfl) | (rfl | rfl | rfl | rfl)) | (rfl | rfl | rfl | rfl)) | (rfl | rfl | rfl | rfl)) | (rfl | rfl | rfl)) | (rfl | rfl | rfl)) | (rfl | rfl)
  · exact goodX 0 (by decide) tell_lot (lot_bad f (show v_need_lot C [nD 3, .tuple [.int 3]] = xc C "lot" from by kernel_rfl))
  · exact goodL 0 (by decide) (show v_is_parting C [nD 3, lsD 3 T, lD 3 7] = _ from e_is_parting f (by decide))
  · exact goodX 0 (by decide) tell_lot (lot_bad f (show v_need_lot C [nD 3, .list [.int 0, .int 1, .int 2]] = xc C "lot" from by kernel_rfl))
  · exact goodL 0 (by decide) (show v_is_parting C [nD 3, lsD 3 T, lD 3 0] = _ from e_is_parting f (by decide))
  · exact goodX 1 (by decide) tell_one (two_bad f (show v_need_two C [nD 3, .int 3, nD 0] = xc C "one" from by kernel_rfl))
  · exact goodX 1 (by decide) tell_other (two_bad f (show v_need_two C [nD 3, .int 0, nD 0] = xc C "other" from by kernel_rfl))
  · exact goodX 2 (by decide) tell_other (two_bad f (show v_need_two C [nD 3, nD 0, .int 0] = xc C "other" from by kernel_rfl))
  · exact goodX 2 (by decide) tell_other (two_bad f (show v_need_two C [nD 3, nD 0, .int 3] = xc C "other" from by kernel_rfl))
  · exact goodX 1 (by decide) tell_one (two_bad f (show v_need_two C [nD 3, .bool false, nD 0] = xc C "one" from by kernel_rfl))
  · exact goodX 2 (by decide) tell_other (two_bad f (show v_need_two C [nD 3, nD 0, .none] = xc C "other" from by kernel_rfl))
  · exact goodL 3 (by decide) (show v_atom_at C [nD 3, lsD 3 T, nD 2] = _ from e_atom_at f (by decide))
  · exact goodX 3 (by decide) tell_house (house_bad f (show v_need_house C [nD 3, .int 3] = xc C "house" from by kernel_rfl))
  · exact goodX 3 (by decide) tell_house (house_bad f (show v_need_house C [nD 3, .int (-1)] = xc C "house" from by kernel_rfl))
  · exact goodX 3 (by decide) tell_house (house_bad f (show v_need_house C [nD 3, .bool false] = xc C "house" from by kernel_rfl))
  · exact goodX 4 (by decide) tell_fears (show v_atoms_of C [nD 3, .tuple []] = xc C "fears" from by kernel_rfl)
  · exact goodL 4 (by decide) (show v_atoms_of C [nD 3, lsD 3 T] = _ from e_atoms_of f)
  · exact goodX 4 (by decide) tell_fears (show v_atoms_of C [nD 3, .tuple [.tuple [.int 3]]] = xc C "fears" from by kernel_rfl)
  · exact goodX 5 (by decide) tell_fears (show v_partings_of C [nD 3, .tuple [.tuple [.int 0, .int 1, .int 2], .tuple [.int 0, .int 1, .int 2]]] = xc C "fears" from by kernel_rfl)
  · exact goodL (d := .tuple []) 5 (by decide) (show v_partings_of C [nD 3, .tuple [.tuple []]] = okD (.tuple []) from by kernel_rfl)
  · exact goodL 1 (by decide) (show v_parting_of C [nD 3, lsD 3 T, nD 2, nD 0] = _ from e_parting_of f (by decide) (by decide) (by decide))
  · exact goodL 2 (by decide) (show v_parting_of C [nD 3, lsD 3 T, nD 0, nD 2] = _ from e_parting_of f (by decide) (by decide) (by decide))
  · exact goodX 5 (by decide) tell_fears (show v_partings_of C [nD 3, .tuple [.tuple [.int 0], .tuple [.int 0, .int 2]]] = xc C "fears" from by kernel_rfl)
  · exact goodX 4 (by decide) tell_fears (show v_atoms_of C [nD 3, .tuple [.tuple [.int 2], .tuple [.int 0]]] = xc C "fears" from by kernel_rfl)
  · exact goodL (d := .tuple [.tuple [.int 0, .int 1, .int 2]]) 4 (by decide) (show v_atoms_of C [nD 3, .tuple [.tuple [.int 0], .tuple [.int 2]]] = okD (.tuple [.tuple [.int 0, .int 1, .int 2]]) from by kernel_rfl)
theorem ends3 {E : Nat → Bool} {T : List Nat} (f : Fr 3 E T) : v__law_ends_hold C [nD 3, lsD 3 T] = okB true := run_body (Eq.trans (build3 _) (ends_loop (good3 f)))
def asks4_0 (F : PyData) : List PyData := [.tuple [.int 0, .tuple [.int 4], .str "('lot', -1)"], .tuple [.int 0, .tuple [.int 0, .int 1, .int 2, .int 3], .str "let"], .tuple [.int 0, .list [.int 0, .int 1, .int 2, .int 3], .str "('lot', -1)"], .tuple [.int 0, .tuple [], .str "let"]]
def asks4_1 (F : PyData) : List PyData := [.tuple [.int 1, .int 4, .str "('one', -1)"], .tuple [.int 1, .int 0, .str "('other', -1)"], .tuple [.int 2, .int 0, .str "('other', -1)"], .tuple [.int 2, .int 4, .str "('other', -1)"]]
def asks4_2 (F : PyData) : List PyData := [.tuple [.int 1, .bool false, .str "('one', -1)"], .tuple [.int 2, .none, .str "('other', -1)"], .tuple [.int 3, .int 3, .str "let"], .tuple [.int 3, .int 4, .str "('house', -1)"]]
def asks4_3 (F : PyData) : List PyData := [.tuple [.int 3, .int (-1), .str "('house', -1)"], .tuple [.int 3, .bool false, .str "('house', -1)"], .tuple [.int 4, .tuple [], .str "('fears', -1)"], .tuple [.int 4, F, .str "let"]]
def asks4_4 (F : PyData) : List PyData := [.tuple [.int 4, .tuple [.tuple [.int 4]], .str "('fears', -1)"], .tuple [.int 5, .tuple [.tuple [.int 0, .int 1, .int 2, .int 3], .tuple [.int 0, .int 1, .int 2, .int 3]], .str "('fears', -1)"], .tuple [.int 5, .tuple [.tuple []], .str "let"]]
def asks4_5 (F : PyData) : List PyData := [.tuple [.int 1, .int 3, .str "let"], .tuple [.int 2, .int 3, .str "let"], .tuple [.int 5, .tuple [.tuple [.int 0], .tuple [.int 0, .int 3]], .str "('fears', -1)"]]
def asks4_6 (F : PyData) : List PyData := [.tuple [.int 4, .tuple [.tuple [.int 3], .tuple [.int 0]], .str "('fears', -1)"], .tuple [.int 4, .tuple [.tuple [.int 0], .tuple [.int 3]], .str "let"]]
theorem build4 (F : PyData) : p__law_ends_hold C [some (.d (nD 4)), some (.d F), none, none, none] () = sSeq (sFor (iAny (fVar 3)) (asgN 4) (endB C)) (sRet (fC (.bool true))) [some (.d (nD 4)), some (.d F), some (.d (.tuple [.int 0, .int 1, .int 2, .int 3])), some (.d (.list ((((((asks4_0 F ++ asks4_1 F) ++ asks4_2 F) ++ asks4_3 F) ++ asks4_4 F) ++ asks4_5 F) ++ asks4_6 F))), none] () := by
  refine Eq.trans (u_seq (u_set (x := .d (.tuple [.int 0, .int 1, .int 2, .int 3])) rfl)) ?_
  refine Eq.trans (u_seq (u_set (x := .l (asks4_0 F)) rfl)) ?_
  refine Eq.trans (u_seq (u_set (x := .l (asks4_0 F ++ asks4_1 F)) rfl)) ?_
  refine Eq.trans (u_seq (u_set (x := .l ((asks4_0 F ++ asks4_1 F) ++ asks4_2 F)) rfl)) ?_
  refine Eq.trans (u_seq (u_set (x := .l (((asks4_0 F ++ asks4_1 F) ++ asks4_2 F) ++ asks4_3 F)) rfl)) ?_
  refine Eq.trans (u_seq (u_set (x := .l ((((asks4_0 F ++ asks4_1 F) ++ asks4_2 F) ++ asks4_3 F) ++ asks4_4 F)) rfl)) ?_
  refine Eq.trans (u_seq (Eq.trans (u_ifT rfl) (Eq.trans (u_seq (u_set (x := .l (((((asks4_0 F ++ asks4_1 F) ++ asks4_2 F) ++ asks4_3 F) ++ asks4_4 F) ++ asks4_5 F)) rfl)) (u_set (x := .l ((((((asks4_0 F ++ asks4_1 F) ++ asks4_2 F) ++ asks4_3 F) ++ asks4_4 F) ++ asks4_5 F) ++ asks4_6 F)) rfl)))) ?_
  exact u_frzL rfl
theorem good4 {E : Nat → Bool} {T : List Nat} (f : Fr 4 E T) : ∀ y ∈ (((((asks4_0 (lsD 4 T) ++ asks4_1 (lsD 4 T)) ++ asks4_2 (lsD 4 T)) ++ asks4_3 (lsD 4 T)) ++ asks4_4 (lsD 4 T)) ++ asks4_5 (lsD 4 T)) ++ asks4_6 (lsD 4 T), Good C 4 (lsD 4 T) y := by
  intro y hy
  simp only [List.mem_append, asks4_0, asks4_1, asks4_2, asks4_3, asks4_4, asks4_5, asks4_6, List.mem_cons, List.not_mem_nil, or_false] at hy
  rcases hy with ((((((rfl | rfl | rfl | rfl) | (rfl | rfl | rfl | rfl)) | (rfl | rfl | rfl | rfl)) | (rfl | rfl | rfl | rfl)) | (rfl | rfl | rfl)) | (rfl | rfl | rfl)) | (rfl | rfl)
  · exact goodX 0 (by decide) tell_lot (lot_bad f (show v_need_lot C [nD 4, .tuple [.int 4]] = xc C "lot" from by kernel_rfl))
  · exact goodL 0 (by decide) (show v_is_parting C [nD 4, lsD 4 T, lD 4 15] = _ from e_is_parting f (by decide))
  · exact goodX 0 (by decide) tell_lot (lot_bad f (show v_need_lot C [nD 4, .list [.int 0, .int 1, .int 2, .int 3]] = xc C "lot" from by kernel_rfl))
  · exact goodL 0 (by decide) (show v_is_parting C [nD 4, lsD 4 T, lD 4 0] = _ from e_is_parting f (by decide))
  · exact goodX 1 (by decide) tell_one (two_bad f (show v_need_two C [nD 4, .int 4, nD 0] = xc C "one" from by kernel_rfl))
  · exact goodX 1 (by decide) tell_other (two_bad f (show v_need_two C [nD 4, .int 0, nD 0] = xc C "other" from by kernel_rfl))
  · exact goodX 2 (by decide) tell_other (two_bad f (show v_need_two C [nD 4, nD 0, .int 0] = xc C "other" from by kernel_rfl))
  · exact goodX 2 (by decide) tell_other (two_bad f (show v_need_two C [nD 4, nD 0, .int 4] = xc C "other" from by kernel_rfl))
  · exact goodX 1 (by decide) tell_one (two_bad f (show v_need_two C [nD 4, .bool false, nD 0] = xc C "one" from by kernel_rfl))
  · exact goodX 2 (by decide) tell_other (two_bad f (show v_need_two C [nD 4, nD 0, .none] = xc C "other" from by kernel_rfl))
  · exact goodL 3 (by decide) (show v_atom_at C [nD 4, lsD 4 T, nD 3] = _ from e_atom_at f (by decide))
  · exact goodX 3 (by decide) tell_house (house_bad f (show v_need_house C [nD 4, .int 4] = xc C "house" from by kernel_rfl))
  · exact goodX 3 (by decide) tell_house (house_bad f (show v_need_house C [nD 4, .int (-1)] = xc C "house" from by kernel_rfl))
  · exact goodX 3 (by decide) tell_house (house_bad f (show v_need_house C [nD 4, .bool false] = xc C "house" from by kernel_rfl))
  · exact goodX 4 (by decide) tell_fears (show v_atoms_of C [nD 4, .tuple []] = xc C "fears" from by kernel_rfl)
  · exact goodL 4 (by decide) (show v_atoms_of C [nD 4, lsD 4 T] = _ from e_atoms_of f)
  · exact goodX 4 (by decide) tell_fears (show v_atoms_of C [nD 4, .tuple [.tuple [.int 4]]] = xc C "fears" from by kernel_rfl)
  · exact goodX 5 (by decide) tell_fears (show v_partings_of C [nD 4, .tuple [.tuple [.int 0, .int 1, .int 2, .int 3], .tuple [.int 0, .int 1, .int 2, .int 3]]] = xc C "fears" from by kernel_rfl)
  · exact goodL (d := .tuple []) 5 (by decide) (show v_partings_of C [nD 4, .tuple [.tuple []]] = okD (.tuple []) from by kernel_rfl)
  · exact goodL 1 (by decide) (show v_parting_of C [nD 4, lsD 4 T, nD 3, nD 0] = _ from e_parting_of f (by decide) (by decide) (by decide))
  · exact goodL 2 (by decide) (show v_parting_of C [nD 4, lsD 4 T, nD 0, nD 3] = _ from e_parting_of f (by decide) (by decide) (by decide))
  · exact goodX 5 (by decide) tell_fears (show v_partings_of C [nD 4, .tuple [.tuple [.int 0], .tuple [.int 0, .int 3]]] = xc C "fears" from by kernel_rfl)
  · exact goodX 4 (by decide) tell_fears (show v_atoms_of C [nD 4, .tuple [.tuple [.int 3], .tuple [.int 0]]] = xc C "fears" from by kernel_rfl)
  · exact goodL (d := .tuple [.tuple [.int 0, .int 1, .int 2, .int 3]]) 4 (by decide) (show v_atoms_of C [nD 4, .tuple [.tuple [.int 0], .tuple [.int 3]]] = okD (.tuple [.tuple [.int 0, .int 1, .int 2, .int 3]]) from by kernel_rfl)
theorem ends4 {E : Nat → Bool} {T : List Nat} (f : Fr 4 E T) : v__law_ends_hold C [nD 4, lsD 4 T] = okB true := run_body (Eq.trans (build4 _) (ends_loop (good4 f)))
def asks5_0 (F : PyData) : List PyData := [.tuple [.int 0, .tuple [.int 5], .str "('lot', -1)"], .tuple [.int 0, .tuple [.int 0, .int 1, .int 2, .int 3, .int 4], .str "let"], .tuple [.int 0, .list [.int 0, .int 1, .int 2, .int 3, .int 4], .str "('lot', -1)"], .tuple [.int 0, .tuple [], .str "let"]]
def asks5_1 (F : PyData) : List PyData := [.tuple [.int 1, .int 5, .str "('one', -1)"], .tuple [.int 1, .int 0, .str "('other', -1)"], .tuple [.int 2, .int 0, .str "('other', -1)"], .tuple [.int 2, .int 5, .str "('other', -1)"]]
def asks5_2 (F : PyData) : List PyData := [.tuple [.int 1, .bool false, .str "('one', -1)"], .tuple [.int 2, .none, .str "('other', -1)"], .tuple [.int 3, .int 4, .str "let"], .tuple [.int 3, .int 5, .str "('house', -1)"]]
def asks5_3 (F : PyData) : List PyData := [.tuple [.int 3, .int (-1), .str "('house', -1)"], .tuple [.int 3, .bool false, .str "('house', -1)"], .tuple [.int 4, .tuple [], .str "('fears', -1)"], .tuple [.int 4, F, .str "let"]]
def asks5_4 (F : PyData) : List PyData := [.tuple [.int 4, .tuple [.tuple [.int 5]], .str "('fears', -1)"], .tuple [.int 5, .tuple [.tuple [.int 0, .int 1, .int 2, .int 3, .int 4], .tuple [.int 0, .int 1, .int 2, .int 3, .int 4]], .str "('fears', -1)"], .tuple [.int 5, .tuple [.tuple []], .str "let"]]
def asks5_5 (F : PyData) : List PyData := [.tuple [.int 1, .int 4, .str "let"], .tuple [.int 2, .int 4, .str "let"], .tuple [.int 5, .tuple [.tuple [.int 0], .tuple [.int 0, .int 4]], .str "('fears', -1)"]]
def asks5_6 (F : PyData) : List PyData := [.tuple [.int 4, .tuple [.tuple [.int 4], .tuple [.int 0]], .str "('fears', -1)"], .tuple [.int 4, .tuple [.tuple [.int 0], .tuple [.int 4]], .str "let"]]
theorem build5 (F : PyData) : p__law_ends_hold C [some (.d (nD 5)), some (.d F), none, none, none] () = sSeq (sFor (iAny (fVar 3)) (asgN 4) (endB C)) (sRet (fC (.bool true))) [some (.d (nD 5)), some (.d F), some (.d (.tuple [.int 0, .int 1, .int 2, .int 3, .int 4])), some (.d (.list ((((((asks5_0 F ++ asks5_1 F) ++ asks5_2 F) ++ asks5_3 F) ++ asks5_4 F) ++ asks5_5 F) ++ asks5_6 F))), none] () := by
  refine Eq.trans (u_seq (u_set (x := .d (.tuple [.int 0, .int 1, .int 2, .int 3, .int 4])) rfl)) ?_
  refine Eq.trans (u_seq (u_set (x := .l (asks5_0 F)) rfl)) ?_
  refine Eq.trans (u_seq (u_set (x := .l (asks5_0 F ++ asks5_1 F)) rfl)) ?_
  refine Eq.trans (u_seq (u_set (x := .l ((asks5_0 F ++ asks5_1 F) ++ asks5_2 F)) rfl)) ?_
  refine Eq.trans (u_seq (u_set (x := .l (((asks5_0 F ++ asks5_1 F) ++ asks5_2 F) ++ asks5_3 F)) rfl)) ?_
  refine Eq.trans (u_seq (u_set (x := .l ((((asks5_0 F ++ asks5_1 F) ++ asks5_2 F) ++ asks5_3 F) ++ asks5_4 F)) rfl)) ?_
  refine Eq.trans (u_seq (Eq.trans (u_ifT rfl) (Eq.trans (u_seq (u_set (x := .l (((((asks5_0 F ++ asks5_1 F) ++ asks5_2 F) ++ asks5_3 F) ++ asks5_4 F) ++ asks5_5 F)) rfl)) (u_set (x := .l ((((((asks5_0 F ++ asks5_1 F) ++ asks5_2 F) ++ asks5_3 F) ++ asks5_4 F) ++ asks5_5 F) ++ asks5_6 F)) rfl)))) ?_
  exact u_frzL rfl
theorem good5 {E : Nat → Bool} {T : List Nat} (f : Fr 5 E T) : ∀ y ∈ (((((asks5_0 (lsD 5 T) ++ asks5_1 (lsD 5 T)) ++ asks5_2 (lsD 5 T)) ++ asks5_3 (lsD 5 T)) ++ asks5_4 (lsD 5 T)) ++ asks5_5 (lsD 5 T)) ++ asks5_6 (lsD 5 T), Good C 5 (lsD 5 T) y := by
  intro y hy
  simp only [List.mem_append, asks5_0, asks5_1, asks5_2, asks5_3, asks5_4, asks5_5, asks5_6, List.mem_cons, List.not_mem_nil, or_false] at hy
  rcases hy with ((((((rfl | rfl | rfl | rfl) | (rfl | rfl | rfl | rfl)) | (rfl | rfl | rfl | rfl)) | (rfl | rfl | rfl | rfl)) | (rfl | rfl | rfl)) | (rfl | rfl | rfl)) | (rfl | rfl)
  · exact goodX 0 (by decide) tell_lot (lot_bad f (show v_need_lot C [nD 5, .tuple [.int 5]] = xc C "lot" from by kernel_rfl))
  · exact goodL 0 (by decide) (show v_is_parting C [nD 5, lsD 5 T, lD 5 31] = _ from e_is_parting f (by decide))
  · exact goodX 0 (by decide) tell_lot (lot_bad f (show v_need_lot C [nD 5, .list [.int 0, .int 1, .int 2, .int 3, .int 4]] = xc C "lot" from by kernel_rfl))
  · exact goodL 0 (by decide) (show v_is_parting C [nD 5, lsD 5 T, lD 5 0] = _ from e_is_parting f (by decide))
  · exact goodX 1 (by decide) tell_one (two_bad f (show v_need_two C [nD 5, .int 5, nD 0] = xc C "one" from by kernel_rfl))
  · exact goodX 1 (by decide) tell_other (two_bad f (show v_need_two C [nD 5, .int 0, nD 0] = xc C "other" from by kernel_rfl))
  · exact goodX 2 (by decide) tell_other (two_bad f (show v_need_two C [nD 5, nD 0, .int 0] = xc C "other" from by kernel_rfl))
  · exact goodX 2 (by decide) tell_other (two_bad f (show v_need_two C [nD 5, nD 0, .int 5] = xc C "other" from by kernel_rfl))
  · exact goodX 1 (by decide) tell_one (two_bad f (show v_need_two C [nD 5, .bool false, nD 0] = xc C "one" from by kernel_rfl))
  · exact goodX 2 (by decide) tell_other (two_bad f (show v_need_two C [nD 5, nD 0, .none] = xc C "other" from by kernel_rfl))
  · exact goodL 3 (by decide) (show v_atom_at C [nD 5, lsD 5 T, nD 4] = _ from e_atom_at f (by decide))
  · exact goodX 3 (by decide) tell_house (house_bad f (show v_need_house C [nD 5, .int 5] = xc C "house" from by kernel_rfl))
  · exact goodX 3 (by decide) tell_house (house_bad f (show v_need_house C [nD 5, .int (-1)] = xc C "house" from by kernel_rfl))
  · exact goodX 3 (by decide) tell_house (house_bad f (show v_need_house C [nD 5, .bool false] = xc C "house" from by kernel_rfl))
  · exact goodX 4 (by decide) tell_fears (show v_atoms_of C [nD 5, .tuple []] = xc C "fears" from by kernel_rfl)
  · exact goodL 4 (by decide) (show v_atoms_of C [nD 5, lsD 5 T] = _ from e_atoms_of f)
  · exact goodX 4 (by decide) tell_fears (show v_atoms_of C [nD 5, .tuple [.tuple [.int 5]]] = xc C "fears" from by kernel_rfl)
  · exact goodX 5 (by decide) tell_fears (show v_partings_of C [nD 5, .tuple [.tuple [.int 0, .int 1, .int 2, .int 3, .int 4], .tuple [.int 0, .int 1, .int 2, .int 3, .int 4]]] = xc C "fears" from by kernel_rfl)
  · exact goodL (d := .tuple []) 5 (by decide) (show v_partings_of C [nD 5, .tuple [.tuple []]] = okD (.tuple []) from by kernel_rfl)
  · exact goodL 1 (by decide) (show v_parting_of C [nD 5, lsD 5 T, nD 4, nD 0] = _ from e_parting_of f (by decide) (by decide) (by decide))
  · exact goodL 2 (by decide) (show v_parting_of C [nD 5, lsD 5 T, nD 0, nD 4] = _ from e_parting_of f (by decide) (by decide) (by decide))
  · exact goodX 5 (by decide) tell_fears (show v_partings_of C [nD 5, .tuple [.tuple [.int 0], .tuple [.int 0, .int 4]]] = xc C "fears" from by kernel_rfl)
  · exact goodX 4 (by decide) tell_fears (show v_atoms_of C [nD 5, .tuple [.tuple [.int 4], .tuple [.int 0]]] = xc C "fears" from by kernel_rfl)
  · exact goodL (d := .tuple [.tuple [.int 0, .int 1, .int 2, .int 3, .int 4]]) 4 (by decide) (show v_atoms_of C [nD 5, .tuple [.tuple [.int 0], .tuple [.int 4]]] = okD (.tuple [.tuple [.int 0, .int 1, .int 2, .int 3, .int 4]]) from by kernel_rfl)
theorem ends5 {E : Nat → Bool} {T : List Nat} (f : Fr 5 E T) : v__law_ends_hold C [nD 5, lsD 5 T] = okB true := run_body (Eq.trans (build5 _) (ends_loop (good5 f)))
def asks6_0 (F : PyData) : List PyData := [.tuple [.int 0, .tuple [.int 6], .str "('lot', -1)"], .tuple [.int 0, .tuple [.int 0, .int 1, .int 2, .int 3, .int 4, .int 5], .str "let"], .tuple [.int 0, .list [.int 0, .int 1, .int 2, .int 3, .int 4, .int 5], .str "('lot', -1)"], .tuple [.int 0, .tuple [], .str "let"]]
def asks6_1 (F : PyData) : List PyData := [.tuple [.int 1, .int 6, .str "('one', -1)"], .tuple [.int 1, .int 0, .str "('other', -1)"], .tuple [.int 2, .int 0, .str "('other', -1)"], .tuple [.int 2, .int 6, .str "('other', -1)"]]
def asks6_2 (F : PyData) : List PyData := [.tuple [.int 1, .bool false, .str "('one', -1)"], .tuple [.int 2, .none, .str "('other', -1)"], .tuple [.int 3, .int 5, .str "let"], .tuple [.int 3, .int 6, .str "('house', -1)"]]
def asks6_3 (F : PyData) : List PyData := [.tuple [.int 3, .int (-1), .str "('house', -1)"], .tuple [.int 3, .bool false, .str "('house', -1)"], .tuple [.int 4, .tuple [], .str "('fears', -1)"], .tuple [.int 4, F, .str "let"]]
def asks6_4 (F : PyData) : List PyData := [.tuple [.int 4, .tuple [.tuple [.int 6]], .str "('fears', -1)"], .tuple [.int 5, .tuple [.tuple [.int 0, .int 1, .int 2, .int 3, .int 4, .int 5], .tuple [.int 0, .int 1, .int 2, .int 3, .int 4, .int 5]], .str "('fears', -1)"], .tuple [.int 5, .tuple [.tuple []], .str "let"]]
def asks6_5 (F : PyData) : List PyData := [.tuple [.int 1, .int 5, .str "let"], .tuple [.int 2, .int 5, .str "let"], .tuple [.int 5, .tuple [.tuple [.int 0], .tuple [.int 0, .int 5]], .str "('fears', -1)"]]
def asks6_6 (F : PyData) : List PyData := [.tuple [.int 4, .tuple [.tuple [.int 5], .tuple [.int 0]], .str "('fears', -1)"], .tuple [.int 4, .tuple [.tuple [.int 0], .tuple [.int 5]], .str "let"]]
theorem build6 (F : PyData) : p__law_ends_hold C [some (.d (nD 6)), some (.d F), none, none, none] () = sSeq (sFor (iAny (fVar 3)) (asgN 4) (endB C)) (sRet (fC (.bool true))) [some (.d (nD 6)), some (.d F), some (.d (.tuple [.int 0, .int 1, .int 2, .int 3, .int 4, .int 5])), some (.d (.list ((((((asks6_0 F ++ asks6_1 F) ++ asks6_2 F) ++ asks6_3 F) ++ asks6_4 F) ++ asks6_5 F) ++ asks6_6 F))), none] () := by
  refine Eq.trans (u_seq (u_set (x := .d (.tuple [.int 0, .int 1, .int 2, .int 3, .int 4, .int 5])) rfl)) ?_
  refine Eq.trans (u_seq (u_set (x := .l (asks6_0 F)) rfl)) ?_
  refine Eq.trans (u_seq (u_set (x := .l (asks6_0 F ++ asks6_1 F)) rfl)) ?_
  refine Eq.trans (u_seq (u_set (x := .l ((asks6_0 F ++ asks6_1 F) ++ asks6_2 F)) rfl)) ?_
  refine Eq.trans (u_seq (u_set (x := .l (((asks6_0 F ++ asks6_1 F) ++ asks6_2 F) ++ asks6_3 F)) rfl)) ?_
  refine Eq.trans (u_seq (u_set (x := .l ((((asks6_0 F ++ asks6_1 F) ++ asks6_2 F) ++ asks6_3 F) ++ asks6_4 F)) rfl)) ?_
  refine Eq.trans (u_seq (Eq.trans (u_ifT rfl) (Eq.trans (u_seq (u_set (x := .l (((((asks6_0 F ++ asks6_1 F) ++ asks6_2 F) ++ asks6_3 F) ++ asks6_4 F) ++ asks6_5 F)) rfl)) (u_set (x := .l ((((((asks6_0 F ++ asks6_1 F) ++ asks6_2 F) ++ asks6_3 F) ++ asks6_4 F) ++ asks6_5 F) ++ asks6_6 F)) rfl)))) ?_
  exact u_frzL rfl
theorem good6 {E : Nat → Bool} {T : List Nat} (f : Fr 6 E T) : ∀ y ∈ (((((asks6_0 (lsD 6 T) ++ asks6_1 (lsD 6 T)) ++ asks6_2 (lsD 6 T)) ++ asks6_3 (lsD 6 T)) ++ asks6_4 (lsD 6 T)) ++ asks6_5 (lsD 6 T)) ++ asks6_6 (lsD 6 T), Good C 6 (lsD 6 T) y := by
  intro y hy
  simp only [List.mem_append, asks6_0, asks6_1, asks6_2, asks6_3, asks6_4, asks6_5, asks6_6, List.mem_cons, List.not_mem_nil, or_false] at hy
  rcases hy with ((((((rfl | rfl | rfl | rfl) | (rfl | rfl | rfl | rfl)) | (rfl | rfl | rfl | rfl)) | (rfl | rfl | rfl | rfl)) | (rfl | rfl | rfl)) | (rfl | rfl | rfl)) | (rfl | rfl)
  · exact goodX 0 (by decide) tell_lot (lot_bad f (show v_need_lot C [nD 6, .tuple [.int 6]] = xc C "lot" from by kernel_rfl))
  · exact goodL 0 (by decide) (show v_is_parting C [nD 6, lsD 6 T, lD 6 63] = _ from e_is_parting f (by decide))
  · exact goodX 0 (by decide) tell_lot (lot_bad f (show v_need_lot C [nD 6, .list [.int 0, .int 1, .int 2, .int 3, .int 4, .int 5]] = xc C "lot" from by kernel_rfl))
  · exact goodL 0 (by decide) (show v_is_parting C [nD 6, lsD 6 T, lD 6 0] = _ from e_is_parting f (by decide))
  · exact goodX 1 (by decide) tell_one (two_bad f (show v_need_two C [nD 6, .int 6, nD 0] = xc C "one" from by kernel_rfl))
  · exact goodX 1 (by decide) tell_other (two_bad f (show v_need_two C [nD 6, .int 0, nD 0] = xc C "other" from by kernel_rfl))
  · exact goodX 2 (by decide) tell_other (two_bad f (show v_need_two C [nD 6, nD 0, .int 0] = xc C "other" from by kernel_rfl))
  · exact goodX 2 (by decide) tell_other (two_bad f (show v_need_two C [nD 6, nD 0, .int 6] = xc C "other" from by kernel_rfl))
  · exact goodX 1 (by decide) tell_one (two_bad f (show v_need_two C [nD 6, .bool false, nD 0] = xc C "one" from by kernel_rfl))
  · exact goodX 2 (by decide) tell_other (two_bad f (show v_need_two C [nD 6, nD 0, .none] = xc C "other" from by kernel_rfl))
  · exact goodL 3 (by decide) (show v_atom_at C [nD 6, lsD 6 T, nD 5] = _ from e_atom_at f (by decide))
  · exact goodX 3 (by decide) tell_house (house_bad f (show v_need_house C [nD 6, .int 6] = xc C "house" from by kernel_rfl))
  · exact goodX 3 (by decide) tell_house (house_bad f (show v_need_house C [nD 6, .int (-1)] = xc C "house" from by kernel_rfl))
  · exact goodX 3 (by decide) tell_house (house_bad f (show v_need_house C [nD 6, .bool false] = xc C "house" from by kernel_rfl))
  · exact goodX 4 (by decide) tell_fears (show v_atoms_of C [nD 6, .tuple []] = xc C "fears" from by kernel_rfl)
  · exact goodL 4 (by decide) (show v_atoms_of C [nD 6, lsD 6 T] = _ from e_atoms_of f)
  · exact goodX 4 (by decide) tell_fears (show v_atoms_of C [nD 6, .tuple [.tuple [.int 6]]] = xc C "fears" from by kernel_rfl)
  · exact goodX 5 (by decide) tell_fears (show v_partings_of C [nD 6, .tuple [.tuple [.int 0, .int 1, .int 2, .int 3, .int 4, .int 5], .tuple [.int 0, .int 1, .int 2, .int 3, .int 4, .int 5]]] = xc C "fears" from by kernel_rfl)
  · exact goodL (d := .tuple []) 5 (by decide) (show v_partings_of C [nD 6, .tuple [.tuple []]] = okD (.tuple []) from by kernel_rfl)
  · exact goodL 1 (by decide) (show v_parting_of C [nD 6, lsD 6 T, nD 5, nD 0] = _ from e_parting_of f (by decide) (by decide) (by decide))
  · exact goodL 2 (by decide) (show v_parting_of C [nD 6, lsD 6 T, nD 0, nD 5] = _ from e_parting_of f (by decide) (by decide) (by decide))
  · exact goodX 5 (by decide) tell_fears (show v_partings_of C [nD 6, .tuple [.tuple [.int 0], .tuple [.int 0, .int 5]]] = xc C "fears" from by kernel_rfl)
  · exact goodX 4 (by decide) tell_fears (show v_atoms_of C [nD 6, .tuple [.tuple [.int 5], .tuple [.int 0]]] = xc C "fears" from by kernel_rfl)
  · exact goodL (d := .tuple [.tuple [.int 0, .int 1, .int 2, .int 3, .int 4, .int 5]]) 4 (by decide) (show v_atoms_of C [nD 6, .tuple [.tuple [.int 0], .tuple [.int 5]]] = okD (.tuple [.tuple [.int 0, .int 1, .int 2, .int 3, .int 4, .int 5]]) from by kernel_rfl)
theorem ends6 {E : Nat → Bool} {T : List Nat} (f : Fr 6 E T) : v__law_ends_hold C [nD 6, lsD 6 T] = okB true := run_body (Eq.trans (build6 _) (ends_loop (good6 f)))
theorem e_ends_hold {n : Nat} {E : Nat → Bool} {T : List Nat} (f : Fr n E T) : v__law_ends_hold C [nD n, lsD n T] = okB true := by
  have h1 := f.h1
  have hn := f.hn
  match n, f with
  | 0, f => exact absurd f.h1 (by decide)
  | 1, f => exact ends1 f
  | 2, f => exact ends2 f
  | 3, f => exact ends3 f
  | 4, f => exact ends4 f
  | 5, f => exact ends5 f
  | 6, f => exact ends6 f
  | k + 7, f => exact absurd f.hn (by omega)
end K3

set_option Elab.async false
set_option linter.all false
set_option autoImplicit false
set_option maxRecDepth 100000
set_option maxHeartbeats 2000000
namespace K3
open PySem PySem.Spec PyProof.Rows L2 Dn
theorem w_or2 {γ : Type} {ρ : Dn.Env} {g g1 g2 : γ} {a b : Fn γ} {z : SV} (ha : a ρ g = .ok (.d (.bool false)) g1) (hb : b ρ g1 = .ok z g2) : fOr a b ρ g = .ok z g2 := by
  unfold fOr
  rw [ha]
  exact hb
theorem cells : ∀ ns : List Int, ns.length ≤ 63 → pCells (env0 nL [.list (ns.map PyData.int)]) () = .ok (.l (ns.map PyData.int)) () := fun ns h =>
  w_lc ns PyData.int PyData.int (w_anyL w_var) (by omega) fun x hx => ⟨[some (.d (.list (ns.map PyData.int))), none, none, none, none, none, none, none, some (.d (.int x))], rfl, w_var⟩
theorem gen_row {n : Nat} {M : List Nat} (lt : ∀ m ∈ M, m < 2 ^ n) : Gen n (fun x => M.any fun y => wt x y) M := ⟨lt, fun x hx => List.any_eq_true⟩
theorem down_zero {n : Nat} {M : List Nat} (g : Gen n (fun x => M.any fun y => wt x y) M) (ne : M ≠ []) : (fun x => M.any fun y => wt x y) 0 = true := by
  refine (g.2 0 (Nat.two_pow_pos n)).mpr ?_
  cases hM : M with
  | nil => exact absurd hM ne
  | cons m r => exact ⟨m, List.mem_cons_self, wt_iff.mpr fun i hi => by rw [Nat.zero_testBit] at hi; cases hi⟩
/-- the law's own equation -/
theorem main (C : Addr) : ∀ cs : List Int, cs.length ≤ 63 → ∃ g', p_law C (envL cs) (0, cs) = .ret (.d (.bool true)) g' := by
  intro cs hl
  obtain ⟨S, hS⟩ : ∃ S, S = PyData.list (cs.map PyData.int) := ⟨_, rfl⟩
  have env : envL cs = [some (.d S), some .h, none, none, none, none, none, none, none] := by rw [hS]; rfl
  rw [env]
  obtain ⟨z, g1, e1, hz, hg1⟩ := w_draw (C := C) (ρ := [some (.d S), some .h, none, none, none, none, none, none, none]) (g := ((0 : Int), cs)) (top := 8) (i := 1) rfl (φ := fC (.int 8)) w_c (by decide) (by decide) hl
  obtain ⟨n, h1, hn, en⟩ : ∃ n, 1 ≤ n ∧ n ≤ 6 ∧ [PyData.int 3, .int 4, .int 5, .int 6, .int 2, .int 4, .int 1, .int 5][z]? = some (nD n) := by
    match z, hz with
    | 0, _ => exact ⟨3, by decide, by decide, rfl⟩
    | 1, _ => exact ⟨4, by decide, by decide, rfl⟩
    | 2, _ => exact ⟨5, by decide, by decide, rfl⟩
    | 3, _ => exact ⟨6, by decide, by decide, rfl⟩
    | 4, _ => exact ⟨2, by decide, by decide, rfl⟩
    | 5, _ => exact ⟨4, by decide, by decide, rfl⟩
    | 6, _ => exact ⟨1, by decide, by decide, rfl⟩
    | 7, _ => exact ⟨5, by decide, by decide, rfl⟩
  obtain ⟨M, g2, e2, mk, hg2⟩ := e_drawn_marks (C := C) h1 hn hg1
  have gen := gen_row mk.lt
  obtain ⟨E, hE⟩ : ∃ E : Nat → Bool, E = fun x => M.any fun y => wt x y := ⟨_, rfl⟩
  have z0 := down_zero gen mk.ne
  rw [← hE] at gen z0
  obtain ⟨T, eT, gr⟩ := e_greatest (C := C) (M := M) (by have := mk.len; omega)
  have f := gr_fr h1 hn gen z0 gr
  have short := f.len
  have lp := pars_len hn E
  obtain ⟨Q, g3, e3, hQ, hg3⟩ := e_pairs (C := C) hn hg2
  obtain ⟨g4, e4, hg4⟩ := e_few_hold (C := C) h1 hn hg3
  refine ⟨g4, ?_⟩
  have en2 : (fOp oIx (fLst (aCons (fC (.int 3)) (aCons (fC (.int 4)) (aCons (fC (.int 5)) (aCons (fC (.int 6)) (aCons (fC (.int 2)) (aCons (fC (.int 4)) (aCons (fC (.int 1)) (aCons (fC (.int 5)) aNil))))))))) (fCallS 2 (v__law_draw C) (aCons (fVar 1) (aCons (fC (.int 8)) aNil))) : Fn SrcG) [some (.d S), some .h, none, none, none, none, none, none, none] ((0 : Int), cs) = .ok (.d (nD n)) g1 := by
    refine w_op (w_lst (w_cons w_c (w_cons w_c (w_cons w_c (w_cons w_c (w_cons w_c (w_cons w_c (w_cons w_c (w_cons w_c w_nil)))))))) rfl (by decide)) e1 ?_
    show (atI [PyData.int 3, .int 4, .int 5, .int 6, .int 2, .int 4, .int 1, .int 5] (z : Int)).map SV.d = _
    rw [atI_nat en]
    rfl
  refine Eq.trans (u_seq (u_set en2)) ?_
  refine Eq.trans (u_seq (u_set (w_callL (w_cons (w_frzL (w_callS (w_cons (w_varH rfl) (w_cons w_var w_nil)) rfl rfl e2)) w_nil) rfl rfl eT))) (Eq.trans (u_frzL rfl) ?_)
  refine Eq.trans (u_seq (u_set (w_call (w_cons w_var (w_cons (w_var (x := msD T) rfl) w_nil)) rfl rfl (e_set_of hn T (by omega))))) ?_
  refine Eq.trans (u_seq (u_set (w_callL (w_cons w_var (w_cons (w_var (x := msD T) rfl) w_nil)) rfl rfl (e_partings f)))) (Eq.trans (u_frzL rfl) ?_)
  have em : (fLc [7] (iRng1F (aCons (fVar 2) aNil)) (asgN 7) fYes (fCall 3 (v__law_atom_of C) (aCons (fVar 2) (aCons (fVar 5) (aCons (fVar 7) aNil)))) : Fn SrcG) [some (.d S), some .h, some (.d (nD n)), some (.d (msD T)), some (.d (lsD n T)), some (.d (msD (pars n E))), none, none, none] g2 = .ok (.l ((List.range n).map fun h => tupD (atomL n (pars n E) h))) g2 :=
    w_lc (List.range n) (fun k : Nat => .int (k : Int)) (fun h => tupD (atomL n (pars n E) h)) (w_rng1 (w_cons w_var w_nil) (by omega)) (by rw [List.length_range]; omega) fun h hh => ⟨[some (.d S), some .h, some (.d (nD n)), some (.d (msD T)), some (.d (lsD n T)), some (.d (msD (pars n E))), none, some (.d (nD h)), none], rfl, w_call (w_cons w_var (w_cons w_var (w_cons w_var w_nil))) rfl rfl (e_atom_of hn (List.mem_range.mp hh) (by omega))⟩
  refine Eq.trans (u_seq (u_set em)) (Eq.trans (u_frzL rfl) ?_)
  refine Eq.trans (u_seq (Eq.trans (u_ifF (w_or2 (w_not (w_call (w_cons w_var (w_cons w_var (w_cons w_var (w_cons w_var w_nil)))) rfl rfl (e_partings_hold f))) (w_not (w_call (w_cons w_var (w_cons w_var (w_cons w_var (w_cons w_var w_nil)))) rfl rfl (e_atoms_hold f))))) u_nil)) ?_
  refine Eq.trans (u_seq (Eq.trans (u_ifF (w_not (w_call (w_cons w_var (w_cons w_var (w_cons w_var (w_cons w_var (w_cons (w_frzL (w_callS (w_cons (w_varH rfl) (w_cons w_var w_nil)) rfl rfl e3)) w_nil))))) rfl rfl (e_parting_hold f Q hQ)))) u_nil)) ?_
  refine Eq.trans (u_seq (Eq.trans (u_ifF (w_or2 (w_not (w_call (w_cons w_var (w_cons w_var (w_cons w_var (w_cons w_var w_nil)))) rfl rfl (e_turned_hold f))) (w_not (w_callS (w_cons (w_varH rfl) (w_cons w_var w_nil)) rfl rfl e4)))) u_nil)) ?_
  exact u_ret (w_call (w_cons w_var (w_cons w_var w_nil)) rfl rfl (e_ends_hold f))
end K3

set_option Elab.async false
set_option linter.all false
set_option autoImplicit false
set_option maxRecDepth 100000
set_option maxHeartbeats 4000000
namespace K3
open PySem PySem.Spec PyProof.Rows L2 Dn
/-! the end: what the top has written -/
theorem dfn_of {gd : Prop} {P : Program} {w : World} {K : PySem.W.Frag} {mg : Str → Option Value} {base : Heap} {k n : Nat} {x : Str} {st : Stmt} {ps : List Str} {fn : List PyData → Out Unit} (h : Here K mg x st ps) (g : ∀ {f : Addr} {fd : FuncData}, Fun K x x st f fd → FnG gd P w K mg base k f fd ps (spP K n fn)) : Dfn gd P w K mg base k x n fn :=
  let ⟨f, fd, h1, h2, h3⟩ := h.ex
  ⟨f, fd, ps, h1, h2.kp, h3, g h2⟩
theorem dfnS_of {gd : Prop} {γ ι : Type} {Fm : ι → Rs γ} {P : Program} {w : World} {K : PySem.W.Frag} {mg : Str → Option Value} {base : Heap} {k n : Nat} {x : Str} {st : Stmt} {ps : List Str} {fn : List SV → γ → Out γ} (h : Here K mg x st ps) (g : ∀ {f : Addr} {fd : FuncData}, Fun K x x st f fd → FnG gd P w K mg base k f fd ps (spS Fm K n fn)) : DfnS gd P w K mg base Fm k x n fn :=
  let ⟨f, fd, h1, h2, h3⟩ := h.ex
  ⟨f, fd, ps, h1, h2.kp, h3, g h2⟩
theorem dfnK_of {gd : Prop} {P : Program} {w : World} {K : PySem.W.Frag} {mg : Str → Option Value} {base : Heap} {k n : Nat} {x : Str} {st : Stmt} {ps ks : List Str} {fn : List PyData → Out Unit} (h : Here K mg x st ps) (hk : ∀ {f : Addr} {fd : FuncData}, Fun K x x st f fd → KRev K fd ps ks) (g : ∀ {f : Addr} {fd : FuncData}, Fun K x x st f fd → FnG gd P w K mg base k f fd ps (spP K n fn)) : DfnK gd P w K mg base k x ks n fn :=
  let ⟨f, fd, h1, h2, h3⟩ := h.ex
  ⟨f, fd, ps, h1, h2.kp, hk h2, g h2⟩
theorem gdfn_of {P : Program} {w : World} {K : PySem.W.Frag} {mg : Str → Option Value} {base : Heap} {k n : Nat} {x : Str} {st : Stmt} {ps : List Str} {fn : List PyData → OutI Unit} (h : Here K mg x st ps) (g : ∀ {f : Addr} {fd : FuncData}, Fun K x x st f fd → GFn P w K mg base k f fd ps (spG K n fn)) : GDfn P w K mg base k x n fn :=
  let ⟨f, fd, h1, h2, h3⟩ := h.ex
  ⟨f, fd, ps, h1, h2.kp, h3, g h2⟩
theorem gdfnK_of {P : Program} {w : World} {K : PySem.W.Frag} {mg : Str → Option Value} {base : Heap} {k n : Nat} {x : Str} {st : Stmt} {ps ks : List Str} {fn : List PyData → OutI Unit} (h : Here K mg x st ps) (hk : ∀ {f : Addr} {fd : FuncData}, Fun K x x st f fd → KRev K fd ps ks) (g : ∀ {f : Addr} {fd : FuncData}, Fun K x x st f fd → GFn P w K mg base k f fd ps (spG K n fn)) : GDfnK P w K mg base k x ks n fn :=
  let ⟨f, fd, h1, h2, h3⟩ := h.ex
  ⟨f, fd, ps, h1, h2.kp, hk h2, g h2⟩
theorem here_mk {K : PySem.W.Frag} {mg : Str → Option Value} {h : Heap} {x : Str} {st : Stmt} {ps : List Str} {f : Addr} {oc : Value} {od an : Option Addr} {osl : Array (Option Value)} {kV doc pm cdv ct : Value} (X : K.In h) (G : h.Ns mainGlobals mg) (a : PySem.W.nsIn K mainGlobals x = some (some (.ref f)))
    (l : K.lookup f = some ⟨oc, od, .func (PySem.W.fnOf x x (defArgs st) (defBody st) (defScope st) .none kV doc pm an cdv ct), osl⟩) (c : PySem.W.codeIn K cdv x = true) (k : PySem.W.keepIn K (.ref f) = true)
    (hb : ∀ (kV doc pm : Value) (an : Option Addr) (cdv ct : Value) (us : List Value), us.length = ps.length → bindArgs (PySem.W.fnOf x x (defArgs st) (defBody st) (defScope st) .none kV doc pm an cdv ct) ⟨us, []⟩ = pure (ps.zip us)) : Here K mg x st ps :=
  ⟨f, _, PySem.W.mg_of X G a, fun_mk l c k, (fun_mk l c k).binds hb⟩

structure Txt (K : PySem.W.Frag) (mg : Str → Option Value) : Prop where
  h_is_integer : Here K mg "is_integer" s_is_integer [("thing" : Str)]
  h_is_number : Here K mg "is_number" s_is_number [("thing" : Str)]
  h_is_many : Here K mg "is_many" s_is_many [("thing" : Str)]
  h_is_index : Here K mg "is_index" s_is_index [("many" : Str), ("thing" : Str)]
  h_is_ascending : Here K mg "is_ascending" s_is_ascending [("things" : Str)]
  h_is_within : Here K mg "is_within" s_is_within [("lot" : Str), ("other" : Str)]
  h_is_below : Here K mg "is_below" s_is_below [("lot" : Str), ("other" : Str)]
  h_right_lot : Here K mg "right_lot" s_right_lot [("many" : Str), ("thing" : Str)]
  h_right_fears : Here K mg "right_fears" s_right_fears [("many" : Str), ("thing" : Str)]
  h_need : Here K mg "need" s_need [("holds" : Str), ("word" : Str)]
  h_need_many : Here K mg "need_many" s_need_many [("many" : Str)]
  h_need_fears : Here K mg "need_fears" s_need_fears [("many" : Str), ("fears" : Str)]
  h_need_lot : Here K mg "need_lot" s_need_lot [("many" : Str), ("lot" : Str)]
  h_need_house : Here K mg "need_house" s_need_house [("many" : Str), ("house" : Str)]
  h_need_two : Here K mg "need_two" s_need_two [("many" : Str), ("one" : Str), ("other" : Str)]
  h_rest_of : Here K mg "rest_of" s_rest_of [("many" : Str), ("lot" : Str)]
  h_every_lot : Here K mg "every_lot" s_every_lot [("many" : Str)]
  h_lots_of_few : Here K mg "lots_of_few" s_lots_of_few [("many" : Str), ("few" : Str)]
  h_few_fears : Here K mg "few_fears" s_few_fears [("many" : Str), ("few" : Str)]
  h_feared_by : Here K mg "feared_by" s_feared_by [("fears" : Str), ("lot" : Str)]
  h_parts : Here K mg "parts" s_parts [("many" : Str), ("fears" : Str), ("lot" : Str)]
  h_is_parting : Here K mg "is_parting" s_is_parting [("many" : Str), ("fears" : Str), ("lot" : Str)]
  h_all_partings : Here K mg "all_partings" s_all_partings [("many" : Str), ("fears" : Str)]
  h_partings_of : Here K mg "partings_of" s_partings_of [("many" : Str), ("fears" : Str)]
  h_parting_of : Here K mg "parting_of" s_parting_of [("many" : Str), ("fears" : Str), ("one" : Str), ("other" : Str)]
  h_are_unparted : Here K mg "are_unparted" s_are_unparted [("partings" : Str), ("one" : Str), ("other" : Str)]
  h_unparted_from : Here K mg "unparted_from" s_unparted_from [("many" : Str), ("partings" : Str), ("house" : Str)]
  h_all_atoms : Here K mg "all_atoms" s_all_atoms [("many" : Str), ("fears" : Str)]
  h_atoms_of : Here K mg "atoms_of" s_atoms_of [("many" : Str), ("fears" : Str)]
  h_atom_at : Here K mg "atom_at" s_atom_at [("many" : Str), ("fears" : Str), ("house" : Str)]
  h__law_draw : Here K mg "_law_draw" s__law_draw [("_law_source" : Str), ("_law_top" : Str)]
  h__law_has : Here K mg "_law_has" s__law_has [("_law_mark" : Str), ("_law_house" : Str)]
  h__law_lot_of : Here K mg "_law_lot_of" s__law_lot_of [("_law_n" : Str), ("_law_mark" : Str)]
  h__law_full : Here K mg "_law_full" s__law_full [("_law_n" : Str)]
  h__law_ones : Here K mg "_law_ones" s__law_ones [("_law_n" : Str), ("_law_mark" : Str)]
  h__law_greatest : Here K mg "_law_greatest" s__law_greatest [("_law_marks" : Str)]
  h__law_groups : Here K mg "_law_groups" s__law_groups [("_law_source" : Str), ("_law_n" : Str)]
  h__law_drawn_marks : Here K mg "_law_drawn_marks" s__law_drawn_marks [("_law_source" : Str), ("_law_n" : Str)]
  h__law_partings : Here K mg "_law_partings" s__law_partings [("_law_n" : Str), ("_law_tops" : Str)]
  h__law_set_of : Here K mg "_law_set_of" s__law_set_of [("_law_n" : Str), ("_law_marks" : Str)]
  h__law_atom_of : Here K mg "_law_atom_of" s__law_atom_of [("_law_n" : Str), ("_law_parted" : Str), ("_law_house" : Str)]
  h__law_two_are_all : Here K mg "_law_two_are_all" s__law_two_are_all [("_law_n" : Str), ("_law_tops" : Str)]
  h__law_partings_hold : Here K mg "_law_partings_hold" s__law_partings_hold [("_law_n" : Str), ("_law_fears" : Str), ("_law_tops" : Str), ("_law_parted" : Str)]
  h__law_atoms_hold : Here K mg "_law_atoms_hold" s__law_atoms_hold [("_law_n" : Str), ("_law_fears" : Str), ("_law_parted" : Str), ("_law_mates" : Str)]
  h__law_pairs : Here K mg "_law_pairs" s__law_pairs [("_law_source" : Str), ("_law_n" : Str)]
  h__law_parting_hold : Here K mg "_law_parting_hold" s__law_parting_hold [("_law_n" : Str), ("_law_fears" : Str), ("_law_parted" : Str), ("_law_mates" : Str), ("_law_pairs_here" : Str)]
  h__law_turned : Here K mg "_law_turned" s__law_turned [("_law_n" : Str), ("_law_lot" : Str)]
  h__law_turned_hold : Here K mg "_law_turned_hold" s__law_turned_hold [("_law_n" : Str), ("_law_fears" : Str), ("_law_parted" : Str), ("_law_mates" : Str)]
  h__law_few_hold : Here K mg "_law_few_hold" s__law_few_hold [("_law_source" : Str), ("_law_n" : Str)]
  h__law_refused : Here K mg "_law_refused" s__law_refused [("_law_number" : Str), ("_law_n" : Str), ("_law_fears" : Str), ("_law_worth" : Str)]
  h__law_ends_hold : Here K mg "_law_ends_hold" s__law_ends_hold [("_law_n" : Str), ("_law_fears" : Str)]
  h_law : Here K mg "law" s_law [("_law_script" : Str)]
section
variable {P : Program} {w : World} {K : PySem.W.Frag} {mg : Str → Option Value} {base : Heap} {C_NotUsable : Addr}
theorem kr_partings_of {f : Addr} {fd : FuncData} (F : Fun K "partings_of" "partings_of" s_partings_of f fd) : KRev K fd [("many" : Str), ("fears" : Str)] [("fears" : Str), ("many" : Str)] := KRev.of F fun _ _ _ _ _ _ ws hl => match ws, hl with | [_, _], _ => rfl
theorem kr_atoms_of {f : Addr} {fd : FuncData} (F : Fun K "atoms_of" "atoms_of" s_atoms_of f fd) : KRev K fd [("many" : Str), ("fears" : Str)] [("fears" : Str), ("many" : Str)] := KRev.of F fun _ _ _ _ _ _ ws hl => match ws, hl with | [_, _], _ => rfl
theorem chain (T : Txt K mg) (B : Bk mg) (e_NotUsable : Ex2 P w K mg base "NotUsable" C_NotUsable "word" "at") (eqt : Quiet K C_NotUsable) (cells : ∀ ns : List Int, ns.length ≤ 63 → pCells (env0 nL [.list (ns.map PyData.int)]) () = .ok (.l (ns.map PyData.int)) ()) (main : ∀ ns : List Int, ns.length ≤ 63 → ∃ g', p_law C_NotUsable (envL ns) (0, ns) = .ret (.d (.bool true)) g') :
    ∀ {f : Addr} {fd : FuncData}, Fun K "law" "law" s_law f fd → FnG True P w K mg base 10 f fd [("_law_script" : Str)] (spLaw K) := by
  have c_is_integer : Dfn True P w K mg base 1 "is_integer" 1 (v_is_integer C_NotUsable) := dfn_of T.h_is_integer fun F => f_is_integer B e_NotUsable F
  have c_is_number : Dfn True P w K mg base 2 "is_number" 1 (v_is_number C_NotUsable) := dfn_of T.h_is_number fun F => f_is_number B e_NotUsable c_is_integer F
  have c_is_many : Dfn True P w K mg base 2 "is_many" 1 (v_is_many C_NotUsable) := dfn_of T.h_is_many fun F => f_is_many B e_NotUsable c_is_integer F
  have c_is_index : Dfn True P w K mg base 3 "is_index" 2 (v_is_index C_NotUsable) := dfn_of T.h_is_index fun F => f_is_index B e_NotUsable c_is_number F
  have c_is_ascending : Dfn True P w K mg base 1 "is_ascending" 1 (v_is_ascending C_NotUsable) := dfn_of T.h_is_ascending fun F => f_is_ascending B e_NotUsable F
  have c_is_within : Dfn True P w K mg base 1 "is_within" 2 (v_is_within C_NotUsable) := dfn_of T.h_is_within fun F => f_is_within B e_NotUsable F
  have c_is_below : Dfn True P w K mg base 2 "is_below" 2 (v_is_below C_NotUsable) := dfn_of T.h_is_below fun F => f_is_below B e_NotUsable c_is_within F
  have c_right_lot : Dfn True P w K mg base 4 "right_lot" 2 (v_right_lot C_NotUsable) := dfn_of T.h_right_lot fun F => f_right_lot B e_NotUsable c_is_ascending c_is_index F
  have c_right_fears : Dfn True P w K mg base 5 "right_fears" 2 (v_right_fears C_NotUsable) := dfn_of T.h_right_fears fun F => f_right_fears B e_NotUsable c_is_ascending c_is_below c_right_lot F
  have c_need : Dfn True P w K mg base 3 "need" 2 (v_need C_NotUsable) := dfn_of T.h_need fun F => f_need B e_NotUsable F
  have c_need_many : Dfn True P w K mg base 4 "need_many" 1 (v_need_many C_NotUsable) := dfn_of T.h_need_many fun F => f_need_many B e_NotUsable c_is_many c_need F
  have c_need_fears : Dfn True P w K mg base 6 "need_fears" 2 (v_need_fears C_NotUsable) := dfn_of T.h_need_fears fun F => f_need_fears B e_NotUsable c_need c_need_many c_right_fears F
  have c_need_lot : Dfn True P w K mg base 5 "need_lot" 2 (v_need_lot C_NotUsable) := dfn_of T.h_need_lot fun F => f_need_lot B e_NotUsable c_need c_right_lot F
  have c_need_house : Dfn True P w K mg base 4 "need_house" 2 (v_need_house C_NotUsable) := dfn_of T.h_need_house fun F => f_need_house B e_NotUsable c_is_index c_need F
  have c_need_two : Dfn True P w K mg base 4 "need_two" 3 (v_need_two C_NotUsable) := dfn_of T.h_need_two fun F => f_need_two B e_NotUsable c_is_index c_need F
  have c_rest_of : Dfn True P w K mg base 1 "rest_of" 2 (v_rest_of C_NotUsable) := dfn_of T.h_rest_of fun F => f_rest_of B e_NotUsable F
  have c_every_lot : Dfn True P w K mg base 1 "every_lot" 1 (v_every_lot C_NotUsable) := dfn_of T.h_every_lot fun F => f_every_lot B e_NotUsable F
  have c_lots_of_few : Dfn True P w K mg base 2 "lots_of_few" 2 (v_lots_of_few C_NotUsable) := dfn_of T.h_lots_of_few fun F => f_lots_of_few B e_NotUsable c_every_lot F
  have c_few_fears : Dfn True P w K mg base 5 "few_fears" 2 (v_few_fears C_NotUsable) := dfn_of T.h_few_fears fun F => f_few_fears B e_NotUsable c_is_number c_lots_of_few c_need c_need_many F
  have c_feared_by : Dfn True P w K mg base 2 "feared_by" 2 (v_feared_by C_NotUsable) := dfn_of T.h_feared_by fun F => f_feared_by B e_NotUsable c_is_within F
  have c_parts : Dfn True P w K mg base 3 "parts" 3 (v_parts C_NotUsable) := dfn_of T.h_parts fun F => f_parts B e_NotUsable c_feared_by c_rest_of F
  have c_is_parting : Dfn True P w K mg base 7 "is_parting" 3 (v_is_parting C_NotUsable) := dfn_of T.h_is_parting fun F => f_is_parting B e_NotUsable c_need_fears c_need_lot c_parts F
  have c_all_partings : Dfn True P w K mg base 4 "all_partings" 2 (v_all_partings C_NotUsable) := dfn_of T.h_all_partings fun F => f_all_partings B e_NotUsable c_every_lot c_parts F
  have c_partings_of : Dfn True P w K mg base 7 "partings_of" 2 (v_partings_of C_NotUsable) := dfn_of T.h_partings_of fun F => f_partings_of B e_NotUsable c_all_partings c_need_fears F
  have k_partings_of : DfnK True P w K mg base 7 "partings_of" [("fears" : Str), ("many" : Str)] 2 (v_partings_of C_NotUsable) := dfnK_of T.h_partings_of kr_partings_of fun F => f_partings_of B e_NotUsable c_all_partings c_need_fears F
  have c_parting_of : Dfn True P w K mg base 7 "parting_of" 4 (v_parting_of C_NotUsable) := dfn_of T.h_parting_of fun F => f_parting_of B e_NotUsable c_all_partings c_need_fears c_need_two F
  have c_are_unparted : Dfn True P w K mg base 1 "are_unparted" 3 (v_are_unparted C_NotUsable) := dfn_of T.h_are_unparted fun F => f_are_unparted B e_NotUsable F
  have c_unparted_from : Dfn True P w K mg base 2 "unparted_from" 3 (v_unparted_from C_NotUsable) := dfn_of T.h_unparted_from fun F => f_unparted_from B e_NotUsable c_are_unparted F
  have c_all_atoms : Dfn True P w K mg base 5 "all_atoms" 2 (v_all_atoms C_NotUsable) := dfn_of T.h_all_atoms fun F => f_all_atoms B e_NotUsable c_all_partings c_unparted_from F
  have c_atoms_of : Dfn True P w K mg base 7 "atoms_of" 2 (v_atoms_of C_NotUsable) := dfn_of T.h_atoms_of fun F => f_atoms_of B e_NotUsable c_all_atoms c_need_fears F
  have k_atoms_of : DfnK True P w K mg base 7 "atoms_of" [("fears" : Str), ("many" : Str)] 2 (v_atoms_of C_NotUsable) := dfnK_of T.h_atoms_of kr_atoms_of fun F => f_atoms_of B e_NotUsable c_all_atoms c_need_fears F
  have c_atom_at : Dfn True P w K mg base 7 "atom_at" 3 (v_atom_at C_NotUsable) := dfn_of T.h_atom_at fun F => f_atom_at B e_NotUsable c_all_partings c_need_fears c_need_house c_unparted_from F
  have c__law_draw : DfnS True P w K mg base Fm 1 "_law_draw" 2 (v__law_draw C_NotUsable) := dfnS_of T.h__law_draw fun F => f__law_draw B F
  have c__law_has : Dfn True P w K mg base 1 "_law_has" 2 (v__law_has C_NotUsable) := dfn_of T.h__law_has fun F => f__law_has B e_NotUsable F
  have c__law_lot_of : Dfn True P w K mg base 2 "_law_lot_of" 2 (v__law_lot_of C_NotUsable) := dfn_of T.h__law_lot_of fun F => f__law_lot_of B e_NotUsable c__law_has F
  have c__law_full : Dfn True P w K mg base 1 "_law_full" 1 (v__law_full C_NotUsable) := dfn_of T.h__law_full fun F => f__law_full B e_NotUsable F
  have c__law_ones : Dfn True P w K mg base 2 "_law_ones" 2 (v__law_ones C_NotUsable) := dfn_of T.h__law_ones fun F => f__law_ones B e_NotUsable c__law_has F
  have c__law_greatest : Dfn True P w K mg base 1 "_law_greatest" 1 (v__law_greatest C_NotUsable) := dfn_of T.h__law_greatest fun F => f__law_greatest B e_NotUsable F
  have c__law_groups : DfnS True P w K mg base Fm 2 "_law_groups" 2 (v__law_groups C_NotUsable) := dfnS_of T.h__law_groups fun F => f__law_groups B e_NotUsable c__law_draw F
  have c__law_drawn_marks : DfnS True P w K mg base Fm 3 "_law_drawn_marks" 2 (v__law_drawn_marks C_NotUsable) := dfnS_of T.h__law_drawn_marks fun F => f__law_drawn_marks B e_NotUsable c__law_draw c__law_full c__law_groups c__law_ones F
  have c__law_partings : Dfn True P w K mg base 2 "_law_partings" 2 (v__law_partings C_NotUsable) := dfn_of T.h__law_partings fun F => f__law_partings B e_NotUsable c__law_full F
  have c__law_set_of : Dfn True P w K mg base 3 "_law_set_of" 2 (v__law_set_of C_NotUsable) := dfn_of T.h__law_set_of fun F => f__law_set_of B e_NotUsable c__law_lot_of F
  have c__law_atom_of : Dfn True P w K mg base 2 "_law_atom_of" 3 (v__law_atom_of C_NotUsable) := dfn_of T.h__law_atom_of fun F => f__law_atom_of B e_NotUsable c__law_has F
  have c__law_two_are_all : Dfn True P w K mg base 2 "_law_two_are_all" 2 (v__law_two_are_all C_NotUsable) := dfn_of T.h__law_two_are_all fun F => f__law_two_are_all B e_NotUsable c__law_full F
  have c__law_partings_hold : Dfn True P w K mg base 8 "_law_partings_hold" 4 (v__law_partings_hold C_NotUsable) := dfn_of T.h__law_partings_hold fun F => f__law_partings_hold B e_NotUsable c__law_full c__law_lot_of c__law_set_of c__law_two_are_all c_is_parting c_partings_of k_partings_of F
  have c__law_atoms_hold : Dfn True P w K mg base 8 "_law_atoms_hold" 4 (v__law_atoms_hold C_NotUsable) := dfn_of T.h__law_atoms_hold fun F => f__law_atoms_hold B e_NotUsable c__law_has c_atom_at c_atoms_of k_atoms_of F
  have c__law_pairs : DfnS True P w K mg base Fm 2 "_law_pairs" 2 (v__law_pairs C_NotUsable) := dfnS_of T.h__law_pairs fun F => f__law_pairs B e_NotUsable c__law_draw F
  have c__law_parting_hold : Dfn True P w K mg base 8 "_law_parting_hold" 5 (v__law_parting_hold C_NotUsable) := dfn_of T.h__law_parting_hold fun F => f__law_parting_hold B e_NotUsable c__law_set_of c_parting_of F
  have c__law_turned : Dfn True P w K mg base 1 "_law_turned" 2 (v__law_turned C_NotUsable) := dfn_of T.h__law_turned fun F => f__law_turned B e_NotUsable F
  have c__law_turned_hold : Dfn True P w K mg base 8 "_law_turned_hold" 4 (v__law_turned_hold C_NotUsable) := dfn_of T.h__law_turned_hold fun F => f__law_turned_hold B e_NotUsable c__law_lot_of c__law_turned c_atom_at c_partings_of F
  have c__law_few_hold : DfnS True P w K mg base Fm 8 "_law_few_hold" 2 (v__law_few_hold C_NotUsable) := dfnS_of T.h__law_few_hold fun F => f__law_few_hold B e_NotUsable c__law_draw c__law_full c__law_ones c__law_set_of c_atoms_of c_few_fears c_partings_of F
  have c__law_refused : Dfn True P w K mg base 8 "_law_refused" 4 (v__law_refused C_NotUsable) := dfn_of T.h__law_refused fun F => f__law_refused B e_NotUsable c_atom_at c_atoms_of c_is_parting c_parting_of c_partings_of F
  have c__law_ends_hold : Dfn True P w K mg base 9 "_law_ends_hold" 2 (v__law_ends_hold C_NotUsable) := dfn_of T.h__law_ends_hold fun F => f__law_ends_hold B e_NotUsable c__law_refused F
  intro f fd F
  exact f_law B e_NotUsable eqt c__law_atom_of c__law_atoms_hold c__law_draw c__law_drawn_marks c__law_ends_hold c__law_few_hold c__law_greatest c__law_pairs c__law_parting_hold c__law_partings c__law_partings_hold c__law_set_of c__law_turned_hold F cells main
end
/-! the class -/
abbrev s_init : Stmt := inClass (top 3) 0
theorem sc_init : FnScope [("self" : Str), ("word" : Str), ("at" : Str)] [("self" : Str), ("word" : Str), ("at" : Str)] (defScope s_init) := ⟨rfl, rfl, rfl, by decide +kernel, rfl, by decide +kernel, by decide +kernel⟩

theorem ex2_mk {K : PySem.W.Frag} {mg : Str → Option Value} {h : Heap} {C fI : Addr} {nm q : Str} {N : Addr} {bs bm : List Value} {sn : List Str} {sub : List Value} {ab : Bool} {col : Option Bool} {dd : Option Addr} {m0 m1 m2 m3 m5 : Option Value}
    {oc : Value} {od an : Option Addr} {osl : Array (Option Value)} {kV doc pm cdv ct : Value} (X : K.In h) (G : h.Ns mainGlobals mg) (aC : PySem.W.nsIn K mainGlobals "NotUsable" = some (some (.ref C)))
    (xL : K.lookup C = some (excClassObj nm q C N bs bm true sn sub ab col dd m0 m1 m2 m3 m5 "ValueError.__new__")) (sa : PySem.W.findIn K (.ref C) "__setattr__" = some (some (.builtin "object.__setattr__")))
    (ga : PySem.W.findIn K (.ref C) "__getattribute__" = some (some (.builtin "BaseException.__getattribute__"))) (gg : PySem.W.findIn K (.ref C) "__getattr__" = some none) (n1 : PySem.W.findIn K (.ref C) "word" = some none) (n2 : PySem.W.findIn K (.ref C) "at" = some none)
    (a1 : PySem.W.findIn K (.ref C) "__init__" = some (some (.ref fI))) (t1 : PySem.W.typeIn K (.ref fI) = some (.type "function")) (l1 : K.lookup fI = some ⟨oc, od, .func (PySem.W.fnOf "__init__" "NotUsable.__init__" (defArgs s_init) (defBody s_init) (defScope s_init) .none kV doc pm an cdv ct), osl⟩)
    (c1 : PySem.W.codeIn K cdv "NotUsable.__init__" = true) (k1 : PySem.W.keepIn K (.ref fI) = true) (kC : PySem.W.keepIn K (.ref C) = true) (eC : PySem.W.subIn K (.ref C) (.type "BaseException") = some true) (tC : PySem.W.typeIn K (.ref C) = some (.type "type")) (hC : PySem.W.hasDictIn K C = true)
    (sC : PySem.W.subIn K (.ref C) (.ref C) = some true) (vE : PySem.HandSPX.refsVE bm = true) (P : Program) (w : World) (base : Heap) : Ex2 P w K mg base "NotUsable" C "word" "at" := by
  have oex : OexC K C := ⟨⟨nm, q, N, bs, bm, sn, sub, ab, col, dd, m0, m1, m2, m3, m5, xL, vE⟩, sa, eC, tC, kC⟩
  have F := fun_mk (st := s_init) l1 c1 k1
  refine ⟨PySem.W.mg_of X G aC, oex, ⟨ga, gg, eC, hC⟩, n1, n2, PySem.W.exm_ref eC hC tC sC, fI, _, [("self" : Str), ("word" : Str), ("at" : Str)], a1, t1, ?_, F.binds fun _ _ _ _ _ _ us hl => match us, hl with | [_, _, _], _ => rfl⟩
  refine F.ok sc_init (fun vs H Q E h => ?_) fun cdv A outer s H vs Q E hr h => ⟨_, pss_cons (ps_ost (pv 0) (pv 1)) (pss_one (ps_ost (pv 0) (pv 2))), init2_reads rfl h⟩
  obtain ⟨a, u, v, rfl, _⟩ := h
  rfl
theorem all_mk {l : PySem.W.OpenLaw} {w : World} {K : PySem.W.Frag} {mg : Str → Option Value} {h : Heap} {fa : Addr} (X : K.In h) (G : h.Ns mainGlobals mg) (hfa : mg "law" = some (.ref fa))
    {f0 : Addr} {oc0 kV0 dc0 pm0 cd0 ct0 : Value} {od0 an0 : Option Addr} {sl0 : Array (Option Value)}
    (a0 : PySem.W.nsIn K mainGlobals "is_integer" = some (some (.ref f0))) (l0 : K.lookup f0 = some ⟨oc0, od0, .func (PySem.W.fnOf "is_integer" "is_integer" (defArgs s_is_integer) (defBody s_is_integer) (defScope s_is_integer) .none kV0 dc0 pm0 an0 cd0 ct0), sl0⟩) (c0 : PySem.W.codeIn K cd0 "is_integer" = true) (k0 : PySem.W.keepIn K (.ref f0) = true)
    {f1 : Addr} {oc1 kV1 dc1 pm1 cd1 ct1 : Value} {od1 an1 : Option Addr} {sl1 : Array (Option Value)}
    (a1 : PySem.W.nsIn K mainGlobals "is_number" = some (some (.ref f1))) (l1 : K.lookup f1 = some ⟨oc1, od1, .func (PySem.W.fnOf "is_number" "is_number" (defArgs s_is_number) (defBody s_is_number) (defScope s_is_number) .none kV1 dc1 pm1 an1 cd1 ct1), sl1⟩) (c1 : PySem.W.codeIn K cd1 "is_number" = true) (k1 : PySem.W.keepIn K (.ref f1) = true)
    {f2 : Addr} {oc2 kV2 dc2 pm2 cd2 ct2 : Value} {od2 an2 : Option Addr} {sl2 : Array (Option Value)}
    (a2 : PySem.W.nsIn K mainGlobals "is_many" = some (some (.ref f2))) (l2 : K.lookup f2 = some ⟨oc2, od2, .func (PySem.W.fnOf "is_many" "is_many" (defArgs s_is_many) (defBody s_is_many) (defScope s_is_many) .none kV2 dc2 pm2 an2 cd2 ct2), sl2⟩) (c2 : PySem.W.codeIn K cd2 "is_many" = true) (k2 : PySem.W.keepIn K (.ref f2) = true)
    {f3 : Addr} {oc3 kV3 dc3 pm3 cd3 ct3 : Value} {od3 an3 : Option Addr} {sl3 : Array (Option Value)}
    (a3 : PySem.W.nsIn K mainGlobals "is_index" = some (some (.ref f3))) (l3 : K.lookup f3 = some ⟨oc3, od3, .func (PySem.W.fnOf "is_index" "is_index" (defArgs s_is_index) (defBody s_is_index) (defScope s_is_index) .none kV3 dc3 pm3 an3 cd3 ct3), sl3⟩) (c3 : PySem.W.codeIn K cd3 "is_index" = true) (k3 : PySem.W.keepIn K (.ref f3) = true)
    {f4 : Addr} {oc4 kV4 dc4 pm4 cd4 ct4 : Value} {od4 an4 : Option Addr} {sl4 : Array (Option Value)}
    (a4 : PySem.W.nsIn K mainGlobals "is_ascending" = some (some (.ref f4))) (l4 : K.lookup f4 = some ⟨oc4, od4, .func (PySem.W.fnOf "is_ascending" "is_ascending" (defArgs s_is_ascending) (defBody s_is_ascending) (defScope s_is_ascending) .none kV4 dc4 pm4 an4 cd4 ct4), sl4⟩) (c4 : PySem.W.codeIn K cd4 "is_ascending" = true) (k4 : PySem.W.keepIn K (.ref f4) = true)
    {f5 : Addr} {oc5 kV5 dc5 pm5 cd5 ct5 : Value} {od5 an5 : Option Addr} {sl5 : Array (Option Value)}
    (a5 : PySem.W.nsIn K mainGlobals "is_within" = some (some (.ref f5))) (l5 : K.lookup f5 = some ⟨oc5, od5, .func (PySem.W.fnOf "is_within" "is_within" (defArgs s_is_within) (defBody s_is_within) (defScope s_is_within) .none kV5 dc5 pm5 an5 cd5 ct5), sl5⟩) (c5 : PySem.W.codeIn K cd5 "is_within" = true) (k5 : PySem.W.keepIn K (.ref f5) = true)
    {f6 : Addr} {oc6 kV6 dc6 pm6 cd6 ct6 : Value} {od6 an6 : Option Addr} {sl6 : Array (Option Value)}
    (a6 : PySem.W.nsIn K mainGlobals "is_below" = some (some (.ref f6))) (l6 : K.lookup f6 = some ⟨oc6, od6, .func (PySem.W.fnOf "is_below" "is_below" (defArgs s_is_below) (defBody s_is_below) (defScope s_is_below) .none kV6 dc6 pm6 an6 cd6 ct6), sl6⟩) (c6 : PySem.W.codeIn K cd6 "is_below" = true) (k6 : PySem.W.keepIn K (.ref f6) = true)
    {f7 : Addr} {oc7 kV7 dc7 pm7 cd7 ct7 : Value} {od7 an7 : Option Addr} {sl7 : Array (Option Value)}
    (a7 : PySem.W.nsIn K mainGlobals "right_lot" = some (some (.ref f7))) (l7 : K.lookup f7 = some ⟨oc7, od7, .func (PySem.W.fnOf "right_lot" "right_lot" (defArgs s_right_lot) (defBody s_right_lot) (defScope s_right_lot) .none kV7 dc7 pm7 an7 cd7 ct7), sl7⟩) (c7 : PySem.W.codeIn K cd7 "right_lot" = true) (k7 : PySem.W.keepIn K (.ref f7) = true)
    {f8 : Addr} {oc8 kV8 dc8 pm8 cd8 ct8 : Value} {od8 an8 : Option Addr} {sl8 : Array (Option Value)}
    (a8 : PySem.W.nsIn K mainGlobals "right_fears" = some (some (.ref f8))) (l8 : K.lookup f8 = some ⟨oc8, od8, .func (PySem.W.fnOf "right_fears" "right_fears" (defArgs s_right_fears) (defBody s_right_fears) (defScope s_right_fears) .none kV8 dc8 pm8 an8 cd8 ct8), sl8⟩) (c8 : PySem.W.codeIn K cd8 "right_fears" = true) (k8 : PySem.W.keepIn K (.ref f8) = true)
    {f9 : Addr} {oc9 kV9 dc9 pm9 cd9 ct9 : Value} {od9 an9 : Option Addr} {sl9 : Array (Option Value)}
    (a9 : PySem.W.nsIn K mainGlobals "need" = some (some (.ref f9))) (l9 : K.lookup f9 = some ⟨oc9, od9, .func (PySem.W.fnOf "need" "need" (defArgs s_need) (defBody s_need) (defScope s_need) .none kV9 dc9 pm9 an9 cd9 ct9), sl9⟩) (c9 : PySem.W.codeIn K cd9 "need" = true) (k9 : PySem.W.keepIn K (.ref f9) = true)
    {f10 : Addr} {oc10 kV10 dc10 pm10 cd10 ct10 : Value} {od10 an10 : Option Addr} {sl10 : Array (Option Value)}
    (a10 : PySem.W.nsIn K mainGlobals "need_many" = some (some (.ref f10))) (l10 : K.lookup f10 = some ⟨oc10, od10, .func (PySem.W.fnOf "need_many" "need_many" (defArgs s_need_many) (defBody s_need_many) (defScope s_need_many) .none kV10 dc10 pm10 an10 cd10 ct10), sl10⟩) (c10 : PySem.W.codeIn K cd10 "need_many" = true) (k10 : PySem.W.keepIn K (.ref f10) = true)
    {f11 : Addr} {oc11 kV11 dc11 pm11 cd11 ct11 : Value} {od11 an11 : Option Addr} {sl11 : Array (Option Value)}
    (a11 : PySem.W.nsIn K mainGlobals "need_fears" = some (some (.ref f11))) (l11 : K.lookup f11 = some ⟨oc11, od11, .func (PySem.W.fnOf "need_fears" "need_fears" (defArgs s_need_fears) (defBody s_need_fears) (defScope s_need_fears) .none kV11 dc11 pm11 an11 cd11 ct11), sl11⟩) (c11 : PySem.W.codeIn K cd11 "need_fears" = true) (k11 : PySem.W.keepIn K (.ref f11) = true)
    {f12 : Addr} {oc12 kV12 dc12 pm12 cd12 ct12 : Value} {od12 an12 : Option Addr} {sl12 : Array (Option Value)}
    (a12 : PySem.W.nsIn K mainGlobals "need_lot" = some (some (.ref f12))) (l12 : K.lookup f12 = some ⟨oc12, od12, .func (PySem.W.fnOf "need_lot" "need_lot" (defArgs s_need_lot) (defBody s_need_lot) (defScope s_need_lot) .none kV12 dc12 pm12 an12 cd12 ct12), sl12⟩) (c12 : PySem.W.codeIn K cd12 "need_lot" = true) (k12 : PySem.W.keepIn K (.ref f12) = true)
    {f13 : Addr} {oc13 kV13 dc13 pm13 cd13 ct13 : Value} {od13 an13 : Option Addr} {sl13 : Array (Option Value)}
    (a13 : PySem.W.nsIn K mainGlobals "need_house" = some (some (.ref f13))) (l13 : K.lookup f13 = some ⟨oc13, od13, .func (PySem.W.fnOf "need_house" "need_house" (defArgs s_need_house) (defBody s_need_house) (defScope s_need_house) .none kV13 dc13 pm13 an13 cd13 ct13), sl13⟩) (c13 : PySem.W.codeIn K cd13 "need_house" = true) (k13 : PySem.W.keepIn K (.ref f13) = true)
    {f14 : Addr} {oc14 kV14 dc14 pm14 cd14 ct14 : Value} {od14 an14 : Option Addr} {sl14 : Array (Option Value)}
    (a14 : PySem.W.nsIn K mainGlobals "need_two" = some (some (.ref f14))) (l14 : K.lookup f14 = some ⟨oc14, od14, .func (PySem.W.fnOf "need_two" "need_two" (defArgs s_need_two) (defBody s_need_two) (defScope s_need_two) .none kV14 dc14 pm14 an14 cd14 ct14), sl14⟩) (c14 : PySem.W.codeIn K cd14 "need_two" = true) (k14 : PySem.W.keepIn K (.ref f14) = true)
    {f15 : Addr} {oc15 kV15 dc15 pm15 cd15 ct15 : Value} {od15 an15 : Option Addr} {sl15 : Array (Option Value)}
    (a15 : PySem.W.nsIn K mainGlobals "rest_of" = some (some (.ref f15))) (l15 : K.lookup f15 = some ⟨oc15, od15, .func (PySem.W.fnOf "rest_of" "rest_of" (defArgs s_rest_of) (defBody s_rest_of) (defScope s_rest_of) .none kV15 dc15 pm15 an15 cd15 ct15), sl15⟩) (c15 : PySem.W.codeIn K cd15 "rest_of" = true) (k15 : PySem.W.keepIn K (.ref f15) = true)
    {f16 : Addr} {oc16 kV16 dc16 pm16 cd16 ct16 : Value} {od16 an16 : Option Addr} {sl16 : Array (Option Value)}
    (a16 : PySem.W.nsIn K mainGlobals "every_lot" = some (some (.ref f16))) (l16 : K.lookup f16 = some ⟨oc16, od16, .func (PySem.W.fnOf "every_lot" "every_lot" (defArgs s_every_lot) (defBody s_every_lot) (defScope s_every_lot) .none kV16 dc16 pm16 an16 cd16 ct16), sl16⟩) (c16 : PySem.W.codeIn K cd16 "every_lot" = true) (k16 : PySem.W.keepIn K (.ref f16) = true)
    {f17 : Addr} {oc17 kV17 dc17 pm17 cd17 ct17 : Value} {od17 an17 : Option Addr} {sl17 : Array (Option Value)}
    (a17 : PySem.W.nsIn K mainGlobals "lots_of_few" = some (some (.ref f17))) (l17 : K.lookup f17 = some ⟨oc17, od17, .func (PySem.W.fnOf "lots_of_few" "lots_of_few" (defArgs s_lots_of_few) (defBody s_lots_of_few) (defScope s_lots_of_few) .none kV17 dc17 pm17 an17 cd17 ct17), sl17⟩) (c17 : PySem.W.codeIn K cd17 "lots_of_few" = true) (k17 : PySem.W.keepIn K (.ref f17) = true)
    {f18 : Addr} {oc18 kV18 dc18 pm18 cd18 ct18 : Value} {od18 an18 : Option Addr} {sl18 : Array (Option Value)}
    (a18 : PySem.W.nsIn K mainGlobals "few_fears" = some (some (.ref f18))) (l18 : K.lookup f18 = some ⟨oc18, od18, .func (PySem.W.fnOf "few_fears" "few_fears" (defArgs s_few_fears) (defBody s_few_fears) (defScope s_few_fears) .none kV18 dc18 pm18 an18 cd18 ct18), sl18⟩) (c18 : PySem.W.codeIn K cd18 "few_fears" = true) (k18 : PySem.W.keepIn K (.ref f18) = true)
    {f19 : Addr} {oc19 kV19 dc19 pm19 cd19 ct19 : Value} {od19 an19 : Option Addr} {sl19 : Array (Option Value)}
    (a19 : PySem.W.nsIn K mainGlobals "feared_by" = some (some (.ref f19))) (l19 : K.lookup f19 = some ⟨oc19, od19, .func (PySem.W.fnOf "feared_by" "feared_by" (defArgs s_feared_by) (defBody s_feared_by) (defScope s_feared_by) .none kV19 dc19 pm19 an19 cd19 ct19), sl19⟩) (c19 : PySem.W.codeIn K cd19 "feared_by" = true) (k19 : PySem.W.keepIn K (.ref f19) = true)
    {f20 : Addr} {oc20 kV20 dc20 pm20 cd20 ct20 : Value} {od20 an20 : Option Addr} {sl20 : Array (Option Value)}
    (a20 : PySem.W.nsIn K mainGlobals "parts" = some (some (.ref f20))) (l20 : K.lookup f20 = some ⟨oc20, od20, .func (PySem.W.fnOf "parts" "parts" (defArgs s_parts) (defBody s_parts) (defScope s_parts) .none kV20 dc20 pm20 an20 cd20 ct20), sl20⟩) (c20 : PySem.W.codeIn K cd20 "parts" = true) (k20 : PySem.W.keepIn K (.ref f20) = true)
    {f21 : Addr} {oc21 kV21 dc21 pm21 cd21 ct21 : Value} {od21 an21 : Option Addr} {sl21 : Array (Option Value)}
    (a21 : PySem.W.nsIn K mainGlobals "is_parting" = some (some (.ref f21))) (l21 : K.lookup f21 = some ⟨oc21, od21, .func (PySem.W.fnOf "is_parting" "is_parting" (defArgs s_is_parting) (defBody s_is_parting) (defScope s_is_parting) .none kV21 dc21 pm21 an21 cd21 ct21), sl21⟩) (c21 : PySem.W.codeIn K cd21 "is_parting" = true) (k21 : PySem.W.keepIn K (.ref f21) = true)
    {f22 : Addr} {oc22 kV22 dc22 pm22 cd22 ct22 : Value} {od22 an22 : Option Addr} {sl22 : Array (Option Value)}
    (a22 : PySem.W.nsIn K mainGlobals "all_partings" = some (some (.ref f22))) (l22 : K.lookup f22 = some ⟨oc22, od22, .func (PySem.W.fnOf "all_partings" "all_partings" (defArgs s_all_partings) (defBody s_all_partings) (defScope s_all_partings) .none kV22 dc22 pm22 an22 cd22 ct22), sl22⟩) (c22 : PySem.W.codeIn K cd22 "all_partings" = true) (k22 : PySem.W.keepIn K (.ref f22) = true)
    {f23 : Addr} {oc23 kV23 dc23 pm23 cd23 ct23 : Value} {od23 an23 : Option Addr} {sl23 : Array (Option Value)}
    (a23 : PySem.W.nsIn K mainGlobals "partings_of" = some (some (.ref f23))) (l23 : K.lookup f23 = some ⟨oc23, od23, .func (PySem.W.fnOf "partings_of" "partings_of" (defArgs s_partings_of) (defBody s_partings_of) (defScope s_partings_of) .none kV23 dc23 pm23 an23 cd23 ct23), sl23⟩) (c23 : PySem.W.codeIn K cd23 "partings_of" = true) (k23 : PySem.W.keepIn K (.ref f23) = true)
    {f24 : Addr} {oc24 kV24 dc24 pm24 cd24 ct24 : Value} {od24 an24 : Option Addr} {sl24 : Array (Option Value)}
    (a24 : PySem.W.nsIn K mainGlobals "parting_of" = some (some (.ref f24))) (l24 : K.lookup f24 = some ⟨oc24, od24, .func (PySem.W.fnOf "parting_of" "parting_of" (defArgs s_parting_of) (defBody s_parting_of) (defScope s_parting_of) .none kV24 dc24 pm24 an24 cd24 ct24), sl24⟩) (c24 : PySem.W.codeIn K cd24 "parting_of" = true) (k24 : PySem.W.keepIn K (.ref f24) = true)
    {f25 : Addr} {oc25 kV25 dc25 pm25 cd25 ct25 : Value} {od25 an25 : Option Addr} {sl25 : Array (Option Value)}
    (a25 : PySem.W.nsIn K mainGlobals "are_unparted" = some (some (.ref f25))) (l25 : K.lookup f25 = some ⟨oc25, od25, .func (PySem.W.fnOf "are_unparted" "are_unparted" (defArgs s_are_unparted) (defBody s_are_unparted) (defScope s_are_unparted) .none kV25 dc25 pm25 an25 cd25 ct25), sl25⟩) (c25 : PySem.W.codeIn K cd25 "are_unparted" = true) (k25 : PySem.W.keepIn K (.ref f25) = true)
    {f26 : Addr} {oc26 kV26 dc26 pm26 cd26 ct26 : Value} {od26 an26 : Option Addr} {sl26 : Array (Option Value)}
    (a26 : PySem.W.nsIn K mainGlobals "unparted_from" = some (some (.ref f26))) (l26 : K.lookup f26 = some ⟨oc26, od26, .func (PySem.W.fnOf "unparted_from" "unparted_from" (defArgs s_unparted_from) (defBody s_unparted_from) (defScope s_unparted_from) .none kV26 dc26 pm26 an26 cd26 ct26), sl26⟩) (c26 : PySem.W.codeIn K cd26 "unparted_from" = true) (k26 : PySem.W.keepIn K (.ref f26) = true)
    {f27 : Addr} {oc27 kV27 dc27 pm27 cd27 ct27 : Value} {od27 an27 : Option Addr} {sl27 : Array (Option Value)}
    (a27 : PySem.W.nsIn K mainGlobals "all_atoms" = some (some (.ref f27))) (l27 : K.lookup f27 = some ⟨oc27, od27, .func (PySem.W.fnOf "all_atoms" "all_atoms" (defArgs s_all_atoms) (defBody s_all_atoms) (defScope s_all_atoms) .none kV27 dc27 pm27 an27 cd27 ct27), sl27⟩) (c27 : PySem.W.codeIn K cd27 "all_atoms" = true) (k27 : PySem.W.keepIn K (.ref f27) = true)
    {f28 : Addr} {oc28 kV28 dc28 pm28 cd28 ct28 : Value} {od28 an28 : Option Addr} {sl28 : Array (Option Value)}
    (a28 : PySem.W.nsIn K mainGlobals "atoms_of" = some (some (.ref f28))) (l28 : K.lookup f28 = some ⟨oc28, od28, .func (PySem.W.fnOf "atoms_of" "atoms_of" (defArgs s_atoms_of) (defBody s_atoms_of) (defScope s_atoms_of) .none kV28 dc28 pm28 an28 cd28 ct28), sl28⟩) (c28 : PySem.W.codeIn K cd28 "atoms_of" = true) (k28 : PySem.W.keepIn K (.ref f28) = true)
    {f29 : Addr} {oc29 kV29 dc29 pm29 cd29 ct29 : Value} {od29 an29 : Option Addr} {sl29 : Array (Option Value)}
    (a29 : PySem.W.nsIn K mainGlobals "atom_at" = some (some (.ref f29))) (l29 : K.lookup f29 = some ⟨oc29, od29, .func (PySem.W.fnOf "atom_at" "atom_at" (defArgs s_atom_at) (defBody s_atom_at) (defScope s_atom_at) .none kV29 dc29 pm29 an29 cd29 ct29), sl29⟩) (c29 : PySem.W.codeIn K cd29 "atom_at" = true) (k29 : PySem.W.keepIn K (.ref f29) = true)
    {f30 : Addr} {oc30 kV30 dc30 pm30 cd30 ct30 : Value} {od30 an30 : Option Addr} {sl30 : Array (Option Value)}
    (a30 : PySem.W.nsIn K mainGlobals "_law_draw" = some (some (.ref f30))) (l30 : K.lookup f30 = some ⟨oc30, od30, .func (PySem.W.fnOf "_law_draw" "_law_draw" (defArgs s__law_draw) (defBody s__law_draw) (defScope s__law_draw) .none kV30 dc30 pm30 an30 cd30 ct30), sl30⟩) (c30 : PySem.W.codeIn K cd30 "_law_draw" = true) (k30 : PySem.W.keepIn K (.ref f30) = true)
    {f31 : Addr} {oc31 kV31 dc31 pm31 cd31 ct31 : Value} {od31 an31 : Option Addr} {sl31 : Array (Option Value)}
    (a31 : PySem.W.nsIn K mainGlobals "_law_has" = some (some (.ref f31))) (l31 : K.lookup f31 = some ⟨oc31, od31, .func (PySem.W.fnOf "_law_has" "_law_has" (defArgs s__law_has) (defBody s__law_has) (defScope s__law_has) .none kV31 dc31 pm31 an31 cd31 ct31), sl31⟩) (c31 : PySem.W.codeIn K cd31 "_law_has" = true) (k31 : PySem.W.keepIn K (.ref f31) = true)
    {f32 : Addr} {oc32 kV32 dc32 pm32 cd32 ct32 : Value} {od32 an32 : Option Addr} {sl32 : Array (Option Value)}
    (a32 : PySem.W.nsIn K mainGlobals "_law_lot_of" = some (some (.ref f32))) (l32 : K.lookup f32 = some ⟨oc32, od32, .func (PySem.W.fnOf "_law_lot_of" "_law_lot_of" (defArgs s__law_lot_of) (defBody s__law_lot_of) (defScope s__law_lot_of) .none kV32 dc32 pm32 an32 cd32 ct32), sl32⟩) (c32 : PySem.W.codeIn K cd32 "_law_lot_of" = true) (k32 : PySem.W.keepIn K (.ref f32) = true)
    {f33 : Addr} {oc33 kV33 dc33 pm33 cd33 ct33 : Value} {od33 an33 : Option Addr} {sl33 : Array (Option Value)}
    (a33 : PySem.W.nsIn K mainGlobals "_law_full" = some (some (.ref f33))) (l33 : K.lookup f33 = some ⟨oc33, od33, .func (PySem.W.fnOf "_law_full" "_law_full" (defArgs s__law_full) (defBody s__law_full) (defScope s__law_full) .none kV33 dc33 pm33 an33 cd33 ct33), sl33⟩) (c33 : PySem.W.codeIn K cd33 "_law_full" = true) (k33 : PySem.W.keepIn K (.ref f33) = true)
    {f34 : Addr} {oc34 kV34 dc34 pm34 cd34 ct34 : Value} {od34 an34 : Option Addr} {sl34 : Array (Option Value)}
    (a34 : PySem.W.nsIn K mainGlobals "_law_ones" = some (some (.ref f34))) (l34 : K.lookup f34 = some ⟨oc34, od34, .func (PySem.W.fnOf "_law_ones" "_law_ones" (defArgs s__law_ones) (defBody s__law_ones) (defScope s__law_ones) .none kV34 dc34 pm34 an34 cd34 ct34), sl34⟩) (c34 : PySem.W.codeIn K cd34 "_law_ones" = true) (k34 : PySem.W.keepIn K (.ref f34) = true)
    {f35 : Addr} {oc35 kV35 dc35 pm35 cd35 ct35 : Value} {od35 an35 : Option Addr} {sl35 : Array (Option Value)}
    (a35 : PySem.W.nsIn K mainGlobals "_law_greatest" = some (some (.ref f35))) (l35 : K.lookup f35 = some ⟨oc35, od35, .func (PySem.W.fnOf "_law_greatest" "_law_greatest" (defArgs s__law_greatest) (defBody s__law_greatest) (defScope s__law_greatest) .none kV35 dc35 pm35 an35 cd35 ct35), sl35⟩) (c35 : PySem.W.codeIn K cd35 "_law_greatest" = true) (k35 : PySem.W.keepIn K (.ref f35) = true)
    {f36 : Addr} {oc36 kV36 dc36 pm36 cd36 ct36 : Value} {od36 an36 : Option Addr} {sl36 : Array (Option Value)}
    (a36 : PySem.W.nsIn K mainGlobals "_law_groups" = some (some (.ref f36))) (l36 : K.lookup f36 = some ⟨oc36, od36, .func (PySem.W.fnOf "_law_groups" "_law_groups" (defArgs s__law_groups) (defBody s__law_groups) (defScope s__law_groups) .none kV36 dc36 pm36 an36 cd36 ct36), sl36⟩) (c36 : PySem.W.codeIn K cd36 "_law_groups" = true) (k36 : PySem.W.keepIn K (.ref f36) = true)
    {f37 : Addr} {oc37 kV37 dc37 pm37 cd37 ct37 : Value} {od37 an37 : Option Addr} {sl37 : Array (Option Value)}
    (a37 : PySem.W.nsIn K mainGlobals "_law_drawn_marks" = some (some (.ref f37))) (l37 : K.lookup f37 = some ⟨oc37, od37, .func (PySem.W.fnOf "_law_drawn_marks" "_law_drawn_marks" (defArgs s__law_drawn_marks) (defBody s__law_drawn_marks) (defScope s__law_drawn_marks) .none kV37 dc37 pm37 an37 cd37 ct37), sl37⟩) (c37 : PySem.W.codeIn K cd37 "_law_drawn_marks" = true) (k37 : PySem.W.keepIn K (.ref f37) = true)
    {f38 : Addr} {oc38 kV38 dc38 pm38 cd38 ct38 : Value} {od38 an38 : Option Addr} {sl38 : Array (Option Value)}
    (a38 : PySem.W.nsIn K mainGlobals "_law_partings" = some (some (.ref f38))) (l38 : K.lookup f38 = some ⟨oc38, od38, .func (PySem.W.fnOf "_law_partings" "_law_partings" (defArgs s__law_partings) (defBody s__law_partings) (defScope s__law_partings) .none kV38 dc38 pm38 an38 cd38 ct38), sl38⟩) (c38 : PySem.W.codeIn K cd38 "_law_partings" = true) (k38 : PySem.W.keepIn K (.ref f38) = true)
    {f39 : Addr} {oc39 kV39 dc39 pm39 cd39 ct39 : Value} {od39 an39 : Option Addr} {sl39 : Array (Option Value)}
    (a39 : PySem.W.nsIn K mainGlobals "_law_set_of" = some (some (.ref f39))) (l39 : K.lookup f39 = some ⟨oc39, od39, .func (PySem.W.fnOf "_law_set_of" "_law_set_of" (defArgs s__law_set_of) (defBody s__law_set_of) (defScope s__law_set_of) .none kV39 dc39 pm39 an39 cd39 ct39), sl39⟩) (c39 : PySem.W.codeIn K cd39 "_law_set_of" = true) (k39 : PySem.W.keepIn K (.ref f39) = true)
    {f40 : Addr} {oc40 kV40 dc40 pm40 cd40 ct40 : Value} {od40 an40 : Option Addr} {sl40 : Array (Option Value)}
    (a40 : PySem.W.nsIn K mainGlobals "_law_atom_of" = some (some (.ref f40))) (l40 : K.lookup f40 = some ⟨oc40, od40, .func (PySem.W.fnOf "_law_atom_of" "_law_atom_of" (defArgs s__law_atom_of) (defBody s__law_atom_of) (defScope s__law_atom_of) .none kV40 dc40 pm40 an40 cd40 ct40), sl40⟩) (c40 : PySem.W.codeIn K cd40 "_law_atom_of" = true) (k40 : PySem.W.keepIn K (.ref f40) = true)
    {f41 : Addr} {oc41 kV41 dc41 pm41 cd41 ct41 : Value} {od41 an41 : Option Addr} {sl41 : Array (Option Value)}
    (a41 : PySem.W.nsIn K mainGlobals "_law_two_are_all" = some (some (.ref f41))) (l41 : K.lookup f41 = some ⟨oc41, od41, .func (PySem.W.fnOf "_law_two_are_all" "_law_two_are_all" (defArgs s__law_two_are_all) (defBody s__law_two_are_all) (defScope s__law_two_are_all) .none kV41 dc41 pm41 an41 cd41 ct41), sl41⟩) (c41 : PySem.W.codeIn K cd41 "_law_two_are_all" = true) (k41 : PySem.W.keepIn K (.ref f41) = true)
    {f42 : Addr} {oc42 kV42 dc42 pm42 cd42 ct42 : Value} {od42 an42 : Option Addr} {sl42 : Array (Option Value)}
    (a42 : PySem.W.nsIn K mainGlobals "_law_partings_hold" = some (some (.ref f42))) (l42 : K.lookup f42 = some ⟨oc42, od42, .func (PySem.W.fnOf "_law_partings_hold" "_law_partings_hold" (defArgs s__law_partings_hold) (defBody s__law_partings_hold) (defScope s__law_partings_hold) .none kV42 dc42 pm42 an42 cd42 ct42), sl42⟩) (c42 : PySem.W.codeIn K cd42 "_law_partings_hold" = true) (k42 : PySem.W.keepIn K (.ref f42) = true)
    {f43 : Addr} {oc43 kV43 dc43 pm43 cd43 ct43 : Value} {od43 an43 : Option Addr} {sl43 : Array (Option Value)}
    (a43 : PySem.W.nsIn K mainGlobals "_law_atoms_hold" = some (some (.ref f43))) (l43 : K.lookup f43 = some ⟨oc43, od43, .func (PySem.W.fnOf "_law_atoms_hold" "_law_atoms_hold" (defArgs s__law_atoms_hold) (defBody s__law_atoms_hold) (defScope s__law_atoms_hold) .none kV43 dc43 pm43 an43 cd43 ct43), sl43⟩) (c43 : PySem.W.codeIn K cd43 "_law_atoms_hold" = true) (k43 : PySem.W.keepIn K (.ref f43) = true)
    {f44 : Addr} {oc44 kV44 dc44 pm44 cd44 ct44 : Value} {od44 an44 : Option Addr} {sl44 : Array (Option Value)}
    (a44 : PySem.W.nsIn K mainGlobals "_law_pairs" = some (some (.ref f44))) (l44 : K.lookup f44 = some ⟨oc44, od44, .func (PySem.W.fnOf "_law_pairs" "_law_pairs" (defArgs s__law_pairs) (defBody s__law_pairs) (defScope s__law_pairs) .none kV44 dc44 pm44 an44 cd44 ct44), sl44⟩) (c44 : PySem.W.codeIn K cd44 "_law_pairs" = true) (k44 : PySem.W.keepIn K (.ref f44) = true)
    {f45 : Addr} {oc45 kV45 dc45 pm45 cd45 ct45 : Value} {od45 an45 : Option Addr} {sl45 : Array (Option Value)}
    (a45 : PySem.W.nsIn K mainGlobals "_law_parting_hold" = some (some (.ref f45))) (l45 : K.lookup f45 = some ⟨oc45, od45, .func (PySem.W.fnOf "_law_parting_hold" "_law_parting_hold" (defArgs s__law_parting_hold) (defBody s__law_parting_hold) (defScope s__law_parting_hold) .none kV45 dc45 pm45 an45 cd45 ct45), sl45⟩) (c45 : PySem.W.codeIn K cd45 "_law_parting_hold" = true) (k45 : PySem.W.keepIn K (.ref f45) = true)
    {f46 : Addr} {oc46 kV46 dc46 pm46 cd46 ct46 : Value} {od46 an46 : Option Addr} {sl46 : Array (Option Value)}
    (a46 : PySem.W.nsIn K mainGlobals "_law_turned" = some (some (.ref f46))) (l46 : K.lookup f46 = some ⟨oc46, od46, .func (PySem.W.fnOf "_law_turned" "_law_turned" (defArgs s__law_turned) (defBody s__law_turned) (defScope s__law_turned) .none kV46 dc46 pm46 an46 cd46 ct46), sl46⟩) (c46 : PySem.W.codeIn K cd46 "_law_turned" = true) (k46 : PySem.W.keepIn K (.ref f46) = true)
    {f47 : Addr} {oc47 kV47 dc47 pm47 cd47 ct47 : Value} {od47 an47 : Option Addr} {sl47 : Array (Option Value)}
    (a47 : PySem.W.nsIn K mainGlobals "_law_turned_hold" = some (some (.ref f47))) (l47 : K.lookup f47 = some ⟨oc47, od47, .func (PySem.W.fnOf "_law_turned_hold" "_law_turned_hold" (defArgs s__law_turned_hold) (defBody s__law_turned_hold) (defScope s__law_turned_hold) .none kV47 dc47 pm47 an47 cd47 ct47), sl47⟩) (c47 : PySem.W.codeIn K cd47 "_law_turned_hold" = true) (k47 : PySem.W.keepIn K (.ref f47) = true)
    {f48 : Addr} {oc48 kV48 dc48 pm48 cd48 ct48 : Value} {od48 an48 : Option Addr} {sl48 : Array (Option Value)}
    (a48 : PySem.W.nsIn K mainGlobals "_law_few_hold" = some (some (.ref f48))) (l48 : K.lookup f48 = some ⟨oc48, od48, .func (PySem.W.fnOf "_law_few_hold" "_law_few_hold" (defArgs s__law_few_hold) (defBody s__law_few_hold) (defScope s__law_few_hold) .none kV48 dc48 pm48 an48 cd48 ct48), sl48⟩) (c48 : PySem.W.codeIn K cd48 "_law_few_hold" = true) (k48 : PySem.W.keepIn K (.ref f48) = true)
    {f49 : Addr} {oc49 kV49 dc49 pm49 cd49 ct49 : Value} {od49 an49 : Option Addr} {sl49 : Array (Option Value)}
    (a49 : PySem.W.nsIn K mainGlobals "_law_refused" = some (some (.ref f49))) (l49 : K.lookup f49 = some ⟨oc49, od49, .func (PySem.W.fnOf "_law_refused" "_law_refused" (defArgs s__law_refused) (defBody s__law_refused) (defScope s__law_refused) .none kV49 dc49 pm49 an49 cd49 ct49), sl49⟩) (c49 : PySem.W.codeIn K cd49 "_law_refused" = true) (k49 : PySem.W.keepIn K (.ref f49) = true)
    {f50 : Addr} {oc50 kV50 dc50 pm50 cd50 ct50 : Value} {od50 an50 : Option Addr} {sl50 : Array (Option Value)}
    (a50 : PySem.W.nsIn K mainGlobals "_law_ends_hold" = some (some (.ref f50))) (l50 : K.lookup f50 = some ⟨oc50, od50, .func (PySem.W.fnOf "_law_ends_hold" "_law_ends_hold" (defArgs s__law_ends_hold) (defBody s__law_ends_hold) (defScope s__law_ends_hold) .none kV50 dc50 pm50 an50 cd50 ct50), sl50⟩) (c50 : PySem.W.codeIn K cd50 "_law_ends_hold" = true) (k50 : PySem.W.keepIn K (.ref f50) = true)
    {f51 : Addr} {oc51 kV51 dc51 pm51 cd51 ct51 : Value} {od51 an51 : Option Addr} {sl51 : Array (Option Value)}
    (a51 : PySem.W.nsIn K mainGlobals "law" = some (some (.ref f51))) (l51 : K.lookup f51 = some ⟨oc51, od51, .func (PySem.W.fnOf "law" "law" (defArgs s_law) (defBody s_law) (defScope s_law) .none kV51 dc51 pm51 an51 cd51 ct51), sl51⟩) (c51 : PySem.W.codeIn K cd51 "law" = true) (k51 : PySem.W.keepIn K (.ref f51) = true)
    (z0 : PySem.W.nsIn K mainGlobals "len" = some none)
    (z1 : PySem.W.nsIn K mainGlobals "all" = some none)
    (z2 : PySem.W.nsIn K mainGlobals "any" = some none)
    (z3 : PySem.W.nsIn K mainGlobals "repr" = some none)
    (z4 : PySem.W.nsIn K mainGlobals "abs" = some none)
    (z5 : PySem.W.nsIn K mainGlobals "max" = some none)
    (z6 : PySem.W.nsIn K mainGlobals "min" = some none)
    (z7 : PySem.W.nsIn K mainGlobals "divmod" = some none)
    (z8 : PySem.W.nsIn K mainGlobals "int" = some none)
    (z9 : PySem.W.nsIn K mainGlobals "bool" = some none)
    (z10 : PySem.W.nsIn K mainGlobals "str" = some none)
    (z11 : PySem.W.nsIn K mainGlobals "tuple" = some none)
    (z12 : PySem.W.nsIn K mainGlobals "list" = some none)
    (z13 : PySem.W.nsIn K mainGlobals "isinstance" = some none)
    (z14 : PySem.W.nsIn K mainGlobals "range" = some none)
    (z15 : PySem.W.nsIn K mainGlobals "zip" = some none)
    (z16 : PySem.W.nsIn K mainGlobals "enumerate" = some none)
    (z17 : PySem.W.nsIn K mainGlobals "sorted" = some none)
    (z18 : PySem.W.nsIn K mainGlobals "set" = some none)
    (z19 : PySem.W.nsIn K mainGlobals "sum" = some none)
    {C fI : Addr} {nm q : Str} {N : Addr} {bs bm : List Value} {sn : List Str} {sub : List Value} {ab : Bool} {col : Option Bool} {dd : Option Addr} {m0 m1 m2 m3 m5 : Option Value}
    {oc : Value} {od an : Option Addr} {osl : Array (Option Value)} {kV doc pm cdv ct : Value} (aC : PySem.W.nsIn K mainGlobals "NotUsable" = some (some (.ref C)))
    (xL : K.lookup C = some (excClassObj nm q C N bs bm true sn sub ab col dd m0 m1 m2 m3 m5 "ValueError.__new__")) (sa : PySem.W.findIn K (.ref C) "__setattr__" = some (some (.builtin "object.__setattr__")))
    (ga : PySem.W.findIn K (.ref C) "__getattribute__" = some (some (.builtin "BaseException.__getattribute__"))) (gg : PySem.W.findIn K (.ref C) "__getattr__" = some none) (n1 : PySem.W.findIn K (.ref C) "word" = some none) (n2 : PySem.W.findIn K (.ref C) "at" = some none)
    (aI : PySem.W.findIn K (.ref C) "__init__" = some (some (.ref fI))) (t1 : PySem.W.typeIn K (.ref fI) = some (.type "function")) (lI : K.lookup fI = some ⟨oc, od, .func (PySem.W.fnOf "__init__" "NotUsable.__init__" (defArgs s_init) (defBody s_init) (defScope s_init) .none kV doc pm an cdv ct), osl⟩)
    (cI : PySem.W.codeIn K cdv "NotUsable.__init__" = true) (kI : PySem.W.keepIn K (.ref fI) = true) (kC : PySem.W.keepIn K (.ref C) = true) (eC : PySem.W.subIn K (.ref C) (.type "BaseException") = some true) (tC : PySem.W.typeIn K (.ref C) = some (.type "type")) (hC : PySem.W.hasDictIn K C = true)
    (sC : PySem.W.subIn K (.ref C) (.ref C) = some true) (vE : PySem.HandSPX.refsVE bm = true) (eqt : PySem.W.subIn K (.ref C) (.type "StopIteration") = some false) :
    ∃ fd : FuncData, (∀ (s : Shared) (u : Value), BindsTo s fd ⟨[u], []⟩ [(("_law_script" : Str), u)]) ∧ ∀ base : Heap, K.In base → base.Ns mainGlobals mg → FnG True l.prog w K mg base 10 fa fd [("_law_script" : Str)] (spLaw K) := by
  have e := hfa.symm.trans (PySem.W.mg_of X G a51)
  cases e
  have h0 := here_mk (st := s_is_integer) (ps := [("thing" : Str)]) X G a0 l0 c0 k0 (fun _ _ _ _ _ _ us hl => match us, hl with | [_], _ => rfl)
  have h1 := here_mk (st := s_is_number) (ps := [("thing" : Str)]) X G a1 l1 c1 k1 (fun _ _ _ _ _ _ us hl => match us, hl with | [_], _ => rfl)
  have h2 := here_mk (st := s_is_many) (ps := [("thing" : Str)]) X G a2 l2 c2 k2 (fun _ _ _ _ _ _ us hl => match us, hl with | [_], _ => rfl)
  have h3 := here_mk (st := s_is_index) (ps := [("many" : Str), ("thing" : Str)]) X G a3 l3 c3 k3 (fun _ _ _ _ _ _ us hl => match us, hl with | [_, _], _ => rfl)
  have h4 := here_mk (st := s_is_ascending) (ps := [("things" : Str)]) X G a4 l4 c4 k4 (fun _ _ _ _ _ _ us hl => match us, hl with | [_], _ => rfl)
  have h5 := here_mk (st := s_is_within) (ps := [("lot" : Str), ("other" : Str)]) X G a5 l5 c5 k5 (fun _ _ _ _ _ _ us hl => match us, hl with | [_, _], _ => rfl)
  have h6 := here_mk (st := s_is_below) (ps := [("lot" : Str), ("other" : Str)]) X G a6 l6 c6 k6 (fun _ _ _ _ _ _ us hl => match us, hl with | [_, _], _ => rfl)
  have h7 := here_mk (st := s_right_lot) (ps := [("many" : Str), ("thing" : Str)]) X G a7 l7 c7 k7 (fun _ _ _ _ _ _ us hl => match us, hl with | [_, _], _ => rfl)
  have h8 := here_mk (st := s_right_fears) (ps := [("many" : Str), ("thing" : Str)]) X G a8 l8 c8 k8 (fun _ _ _ _ _ _ us hl => match us, hl with | [_, _], _ => rfl)
  have h9 := here_mk (st := s_need) (ps := [("holds" : Str), ("word" : Str)]) X G a9 l9 c9 k9 (fun _ _ _ _ _ _ us hl => match us, hl with | [_, _], _ => rfl)
  have h10 := here_mk (st := s_need_many) (ps := [("many" : Str)]) X G a10 l10 c10 k10 (fun _ _ _ _ _ _ us hl => match us, hl with | [_], _ => rfl)
  have h11 := here_mk (st := s_need_fears) (ps := [("many" : Str), ("fears" : Str)]) X G a11 l11 c11 k11 (fun _ _ _ _ _ _ us hl => match us, hl with | [_, _], _ => rfl)
  have h12 := here_mk (st := s_need_lot) (ps := [("many" : Str), ("lot" : Str)]) X G a12 l12 c12 k12 (fun _ _ _ _ _ _ us hl => match us, hl with | [_, _], _ => rfl)
  have h13 := here_mk (st := s_need_house) (ps := [("many" : Str), ("house" : Str)]) X G a13 l13 c13 k13 (fun _ _ _ _ _ _ us hl => match us, hl with | [_, _], _ => rfl)
  have h14 := here_mk (st := s_need_two) (ps := [("many" : Str), ("one" : Str), ("other" : Str)]) X G a14 l14 c14 k14 (fun _ _ _ _ _ _ us hl => match us, hl with | [_, _, _], _ => rfl)
  have h15 := here_mk (st := s_rest_of) (ps := [("many" : Str), ("lot" : Str)]) X G a15 l15 c15 k15 (fun _ _ _ _ _ _ us hl => match us, hl with | [_, _], _ => rfl)
  have h16 := here_mk (st := s_every_lot) (ps := [("many" : Str)]) X G a16 l16 c16 k16 (fun _ _ _ _ _ _ us hl => match us, hl with | [_], _ => rfl)
  have h17 := here_mk (st := s_lots_of_few) (ps := [("many" : Str), ("few" : Str)]) X G a17 l17 c17 k17 (fun _ _ _ _ _ _ us hl => match us, hl with | [_, _], _ => rfl)
  have h18 := here_mk (st := s_few_fears) (ps := [("many" : Str), ("few" : Str)]) X G a18 l18 c18 k18 (fun _ _ _ _ _ _ us hl => match us, hl with | [_, _], _ => rfl)
  have h19 := here_mk (st := s_feared_by) (ps := [("fears" : Str), ("lot" : Str)]) X G a19 l19 c19 k19 (fun _ _ _ _ _ _ us hl => match us, hl with | [_, _], _ => rfl)
  have h20 := here_mk (st := s_parts) (ps := [("many" : Str), ("fears" : Str), ("lot" : Str)]) X G a20 l20 c20 k20 (fun _ _ _ _ _ _ us hl => match us, hl with | [_, _, _], _ => rfl)
  have h21 := here_mk (st := s_is_parting) (ps := [("many" : Str), ("fears" : Str), ("lot" : Str)]) X G a21 l21 c21 k21 (fun _ _ _ _ _ _ us hl => match us, hl with | [_, _, _], _ => rfl)
  have h22 := here_mk (st := s_all_partings) (ps := [("many" : Str), ("fears" : Str)]) X G a22 l22 c22 k22 (fun _ _ _ _ _ _ us hl => match us, hl with | [_, _], _ => rfl)
  have h23 := here_mk (st := s_partings_of) (ps := [("many" : Str), ("fears" : Str)]) X G a23 l23 c23 k23 (fun _ _ _ _ _ _ us hl => match us, hl with | [_, _], _ => rfl)
  have h24 := here_mk (st := s_parting_of) (ps := [("many" : Str), ("fears" : Str), ("one" : Str), ("other" : Str)]) X G a24 l24 c24 k24 (fun _ _ _ _ _ _ us hl => match us, hl with | [_, _, _, _], _ => rfl)
  have h25 := here_mk (st := s_are_unparted) (ps := [("partings" : Str), ("one" : Str), ("other" : Str)]) X G a25 l25 c25 k25 (fun _ _ _ _ _ _ us hl => match us, hl with | [_, _, _], _ => rfl)
  have h26 := here_mk (st := s_unparted_from) (ps := [("many" : Str), ("partings" : Str), ("house" : Str)]) X G a26 l26 c26 k26 (fun _ _ _ _ _ _ us hl => match us, hl with | [_, _, _], _ => rfl)
  have h27 := here_mk (st := s_all_atoms) (ps := [("many" : Str), ("fears" : Str)]) X G a27 l27 c27 k27 (fun _ _ _ _ _ _ us hl => match us, hl with | [_, _], _ => rfl)
  have h28 := here_mk (st := s_atoms_of) (ps := [("many" : Str), ("fears" : Str)]) X G a28 l28 c28 k28 (fun _ _ _ _ _ _ us hl => match us, hl with | [_, _], _ => rfl)
  have h29 := here_mk (st := s_atom_at) (ps := [("many" : Str), ("fears" : Str), ("house" : Str)]) X G a29 l29 c29 k29 (fun _ _ _ _ _ _ us hl => match us, hl with | [_, _, _], _ => rfl)
  have h30 := here_mk (st := s__law_draw) (ps := [("_law_source" : Str), ("_law_top" : Str)]) X G a30 l30 c30 k30 (fun _ _ _ _ _ _ us hl => match us, hl with | [_, _], _ => rfl)
  have h31 := here_mk (st := s__law_has) (ps := [("_law_mark" : Str), ("_law_house" : Str)]) X G a31 l31 c31 k31 (fun _ _ _ _ _ _ us hl => match us, hl with | [_, _], _ => rfl)
  have h32 := here_mk (st := s__law_lot_of) (ps := [("_law_n" : Str), ("_law_mark" : Str)]) X G a32 l32 c32 k32 (fun _ _ _ _ _ _ us hl => match us, hl with | [_, _], _ => rfl)
  have h33 := here_mk (st := s__law_full) (ps := [("_law_n" : Str)]) X G a33 l33 c33 k33 (fun _ _ _ _ _ _ us hl => match us, hl with | [_], _ => rfl)
  have h34 := here_mk (st := s__law_ones) (ps := [("_law_n" : Str), ("_law_mark" : Str)]) X G a34 l34 c34 k34 (fun _ _ _ _ _ _ us hl => match us, hl with | [_, _], _ => rfl)
  have h35 := here_mk (st := s__law_greatest) (ps := [("_law_marks" : Str)]) X G a35 l35 c35 k35 (fun _ _ _ _ _ _ us hl => match us, hl with | [_], _ => rfl)
  have h36 := here_mk (st := s__law_groups) (ps := [("_law_source" : Str), ("_law_n" : Str)]) X G a36 l36 c36 k36 (fun _ _ _ _ _ _ us hl => match us, hl with | [_, _], _ => rfl)
  have h37 := here_mk (st := s__law_drawn_marks) (ps := [("_law_source" : Str), ("_law_n" : Str)]) X G a37 l37 c37 k37 (fun _ _ _ _ _ _ us hl => match us, hl with | [_, _], _ => rfl)
  have h38 := here_mk (st := s__law_partings) (ps := [("_law_n" : Str), ("_law_tops" : Str)]) X G a38 l38 c38 k38 (fun _ _ _ _ _ _ us hl => match us, hl with | [_, _], _ => rfl)
  have h39 := here_mk (st := s__law_set_of) (ps := [("_law_n" : Str), ("_law_marks" : Str)]) X G a39 l39 c39 k39 (fun _ _ _ _ _ _ us hl => match us, hl with | [_, _], _ => rfl)
  have h40 := here_mk (st := s__law_atom_of) (ps := [("_law_n" : Str), ("_law_parted" : Str), ("_law_house" : Str)]) X G a40 l40 c40 k40 (fun _ _ _ _ _ _ us hl => match us, hl with | [_, _, _], _ => rfl)
  have h41 := here_mk (st := s__law_two_are_all) (ps := [("_law_n" : Str), ("_law_tops" : Str)]) X G a41 l41 c41 k41 (fun _ _ _ _ _ _ us hl => match us, hl with | [_, _], _ => rfl)
  have h42 := here_mk (st := s__law_partings_hold) (ps := [("_law_n" : Str), ("_law_fears" : Str), ("_law_tops" : Str), ("_law_parted" : Str)]) X G a42 l42 c42 k42 (fun _ _ _ _ _ _ us hl => match us, hl with | [_, _, _, _], _ => rfl)
  have h43 := here_mk (st := s__law_atoms_hold) (ps := [("_law_n" : Str), ("_law_fears" : Str), ("_law_parted" : Str), ("_law_mates" : Str)]) X G a43 l43 c43 k43 (fun _ _ _ _ _ _ us hl => match us, hl with | [_, _, _, _], _ => rfl)
  have h44 := here_mk (st := s__law_pairs) (ps := [("_law_source" : Str), ("_law_n" : Str)]) X G a44 l44 c44 k44 (fun _ _ _ _ _ _ us hl => match us, hl with | [_, _], _ => rfl)
  have h45 := here_mk (st := s__law_parting_hold) (ps := [("_law_n" : Str), ("_law_fears" : Str), ("_law_parted" : Str), ("_law_mates" : Str), ("_law_pairs_here" : Str)]) X G a45 l45 c45 k45 (fun _ _ _ _ _ _ us hl => match us, hl with | [_, _, _, _, _], _ => rfl)
  have h46 := here_mk (st := s__law_turned) (ps := [("_law_n" : Str), ("_law_lot" : Str)]) X G a46 l46 c46 k46 (fun _ _ _ _ _ _ us hl => match us, hl with | [_, _], _ => rfl)
  have h47 := here_mk (st := s__law_turned_hold) (ps := [("_law_n" : Str), ("_law_fears" : Str), ("_law_parted" : Str), ("_law_mates" : Str)]) X G a47 l47 c47 k47 (fun _ _ _ _ _ _ us hl => match us, hl with | [_, _, _, _], _ => rfl)
  have h48 := here_mk (st := s__law_few_hold) (ps := [("_law_source" : Str), ("_law_n" : Str)]) X G a48 l48 c48 k48 (fun _ _ _ _ _ _ us hl => match us, hl with | [_, _], _ => rfl)
  have h49 := here_mk (st := s__law_refused) (ps := [("_law_number" : Str), ("_law_n" : Str), ("_law_fears" : Str), ("_law_worth" : Str)]) X G a49 l49 c49 k49 (fun _ _ _ _ _ _ us hl => match us, hl with | [_, _, _, _], _ => rfl)
  have h50 := here_mk (st := s__law_ends_hold) (ps := [("_law_n" : Str), ("_law_fears" : Str)]) X G a50 l50 c50 k50 (fun _ _ _ _ _ _ us hl => match us, hl with | [_, _], _ => rfl)
  have h51 := here_mk (st := s_law) (ps := [("_law_script" : Str)]) X G a51 l51 c51 k51 (fun _ _ _ _ _ _ us hl => match us, hl with | [_], _ => rfl)
  have T : Txt K mg := ⟨h0, h1, h2, h3, h4, h5, h6, h7, h8, h9, h10, h11, h12, h13, h14, h15, h16, h17, h18, h19, h20, h21, h22, h23, h24, h25, h26, h27, h28, h29, h30, h31, h32, h33, h34, h35, h36, h37, h38, h39, h40, h41, h42, h43, h44, h45, h46, h47, h48, h49, h50, h51⟩
  have B : Bk mg := ⟨⟨PySem.W.mg_none_of X G z0, PySem.W.mg_none_of X G z1, PySem.W.mg_none_of X G z2, PySem.W.mg_none_of X G z3, PySem.W.mg_none_of X G z4, PySem.W.mg_none_of X G z5, PySem.W.mg_none_of X G z6, PySem.W.mg_none_of X G z7, PySem.W.mg_none_of X G z8, PySem.W.mg_none_of X G z9, PySem.W.mg_none_of X G z10, PySem.W.mg_none_of X G z11, PySem.W.mg_none_of X G z12, PySem.W.mg_none_of X G z13, PySem.W.mg_none_of X G z14, PySem.W.mg_none_of X G z15, PySem.W.mg_none_of X G z16, PySem.W.mg_none_of X G z17, PySem.W.mg_none_of X G z18, PySem.W.mg_none_of X G z19⟩⟩
  have F := fun_mk (st := s_law) l51 c51 k51
  exact ⟨_, fun s u => .of_eq rfl, fun base _ _ => chain T B (ex2_mk X G aC xL sa ga gg n1 n2 aI t1 lI cI kI kC eC tC hC sC vE l.prog w base) eqt cells (main C) F⟩
end K3

open PySem PySem.W PyProof.Rows
set_option Elab.async false
set_option linter.all false
set_option maxRecDepth 100000 in
set_option maxHeartbeats 0 in
theorem PySem.Challenge.cw_closereckoned_k03_whole_partings_and_ato_holds : PySem.Challenge.rw_closereckoned_k03_whole_partings_and_ato.Holds := by
  w_on; o_law; k_head; (case hw => w_witness2)
  k_fill
  refine Dn.walkG (l := PySem.Challenge.rw_closereckoned_k03_whole_partings_and_ato) (n := 63) (k := 10) (x := "_law_script") (sp := K3.spLaw) rfl (by decide) rfl ⟨rfl, by decide, by decide⟩ (fun w h Y => PySem.W.kIn_of Y) ?F (fun K H a ns hl _ hS => ⟨a, ns, rfl, hS, hl, fun _ => rfl⟩)
  case F =>
    intro w mg fa h KX G hmg
    refine' K3.all_mk KX G hmg ?a0 ?l0 ?c0 ?k0 ?a1 ?l1 ?c1 ?k1 ?a2 ?l2 ?c2 ?k2 ?a3 ?l3 ?c3 ?k3 ?a4 ?l4 ?c4 ?k4 ?a5 ?l5 ?c5 ?k5 ?a6 ?l6 ?c6 ?k6 ?a7 ?l7 ?c7 ?k7 ?a8 ?l8 ?c8 ?k8 ?a9 ?l9 ?c9 ?k9 ?a10 ?l10 ?c10 ?k10 ?a11 ?l11 ?c11 ?k11 ?a12 ?l12 ?c12 ?k12 ?a13 ?l13 ?c13 ?k13 ?a14 ?l14 ?c14 ?k14 ?a15 ?l15 ?c15 ?k15 ?a16 ?l16 ?c16 ?k16 ?a17 ?l17 ?c17 ?k17 ?a18 ?l18 ?c18 ?k18 ?a19 ?l19 ?c19 ?k19 ?a20 ?l20 ?c20 ?k20 ?a21 ?l21 ?c21 ?k21 ?a22 ?l22 ?c22 ?k22 ?a23 ?l23 ?c23 ?k23 ?a24 ?l24 ?c24 ?k24 ?a25 ?l25 ?c25 ?k25 ?a26 ?l26 ?c26 ?k26 ?a27 ?l27 ?c27 ?k27 ?a28 ?l28 ?c28 ?k28 ?a29 ?l29 ?c29 ?k29 ?a30 ?l30 ?c30 ?k30 ?a31 ?l31 ?c31 ?k31 ?a32 ?l32 ?c32 ?k32 ?a33 ?l33 ?c33 ?k33 ?a34 ?l34 ?c34 ?k34 ?a35 ?l35 ?c35 ?k35 ?a36 ?l36 ?c36 ?k36 ?a37 ?l37 ?c37 ?k37 ?a38 ?l38 ?c38 ?k38 ?a39 ?l39 ?c39 ?k39 ?a40 ?l40 ?c40 ?k40 ?a41 ?l41 ?c41 ?k41 ?a42 ?l42 ?c42 ?k42 ?a43 ?l43 ?c43 ?k43 ?a44 ?l44 ?c44 ?k44 ?a45 ?l45 ?c45 ?k45 ?a46 ?l46 ?c46 ?k46 ?a47 ?l47 ?c47 ?k47 ?a48 ?l48 ?c48 ?k48 ?a49 ?l49 ?c49 ?k49 ?a50 ?l50 ?c50 ?k50 ?a51 ?l51 ?c51 ?k51 ?z0 ?z1 ?z2 ?z3 ?z4 ?z5 ?z6 ?z7 ?z8 ?z9 ?z10 ?z11 ?z12 ?z13 ?z14 ?z15 ?z16 ?z17 ?z18 ?z19 ?aC ?xL ?sa ?ga ?gg ?n1 ?n2 ?aI ?t1 ?lI ?cI ?kI ?kC ?eC ?tC ?hC ?sC ?vE ?eqt
    (case a0 => k_is)
    (case l0 => k_is)
    (case c0 => k_is)
    (case k0 => k_is)
    (case a1 => k_is)
    (case l1 => k_is)
    (case c1 => k_is)
    (case k1 => k_is)
    (case a2 => k_is)
    (case l2 => k_is)
    (case c2 => k_is)
    (case k2 => k_is)
    (case a3 => k_is)
    (case l3 => k_is)
    (case c3 => k_is)
    (case k3 => k_is)
    (case a4 => k_is)
    (case l4 => k_is)
    (case c4 => k_is)
    (case k4 => k_is)
    (case a5 => k_is)
    (case l5 => k_is)
    (case c5 => k_is)
    (case k5 => k_is)
    (case a6 => k_is)
    (case l6 => k_is)
    (case c6 => k_is)
    (case k6 => k_is)
    (case a7 => k_is)
    (case l7 => k_is)
    (case c7 => k_is)
    (case k7 => k_is)
    (case a8 => k_is)
    (case l8 => k_is)
    (case c8 => k_is)
    (case k8 => k_is)
    (case a9 => k_is)
    (case l9 => k_is)
    (case c9 => k_is)
    (case k9 => k_is)
    (case a10 => k_is)
    (case l10 => k_is)
    (case c10 => k_is)
    (case k10 => k_is)
    (case a11 => k_is)
    (case l11 => k_is)
    (case c11 => k_is)
    (case k11 => k_is)
    (case a12 => k_is)
    (case l12 => k_is)
    (case c12 => k_is)
    (case k12 => k_is)
    (case a13 => k_is)
    (case l13 => k_is)
    (case c13 => k_is)
    (case k13 => k_is)
    (case a14 => k_is)
    (case l14 => k_is)
    (case c14 => k_is)
    (case k14 => k_is)
    (case a15 => k_is)
    (case l15 => k_is)
    (case c15 => k_is)
    (case k15 => k_is)
    (case a16 => k_is)
    (case l16 => k_is)
    (case c16 => k_is)
    (case k16 => k_is)
    (case a17 => k_is)
    (case l17 => k_is)
    (case c17 => k_is)
    (case k17 => k_is)
    (case a18 => k_is)
    (case l18 => k_is)
    (case c18 => k_is)
    (case k18 => k_is)
    (case a19 => k_is)
    (case l19 => k_is)
    (case c19 => k_is)
    (case k19 => k_is)
    (case a20 => k_is)
    (case l20 => k_is)
    (case c20 => k_is)
    (case k20 => k_is)
    (case a21 => k_is)
    (case l21 => k_is)
    (case c21 => k_is)
    (case k21 => k_is)
    (case a22 => k_is)
    (case l22 => k_is)
    (case c22 => k_is)
    (case k22 => k_is)
    (case a23 => k_is)
    (case l23 => k_is)
    (case c23 => k_is)
    (case k23 => k_is)
    (case a24 => k_is)
    (case l24 => k_is)
    (case c24 => k_is)
    (case k24 => k_is)
    (case a25 => k_is)
    (case l25 => k_is)
    (case c25 => k_is)
    (case k25 => k_is)
    (case a26 => k_is)
    (case l26 => k_is)
    (case c26 => k_is)
    (case k26 => k_is)
    (case a27 => k_is)
    (case l27 => k_is)
    (case c27 => k_is)
    (case k27 => k_is)
    (case a28 => k_is)
    (case l28 => k_is)
    (case c28 => k_is)
    (case k28 => k_is)
    (case a29 => k_is)
    (case l29 => k_is)
    (case c29 => k_is)
    (case k29 => k_is)
    (case a30 => k_is)
    (case l30 => k_is)
    (case c30 => k_is)
    (case k30 => k_is)
    (case a31 => k_is)
    (case l31 => k_is)
    (case c31 => k_is)
    (case k31 => k_is)
    (case a32 => k_is)
    (case l32 => k_is)
    (case c32 => k_is)
    (case k32 => k_is)
    (case a33 => k_is)
    (case l33 => k_is)
    (case c33 => k_is)
    (case k33 => k_is)
    (case a34 => k_is)
    (case l34 => k_is)
    (case c34 => k_is)
    (case k34 => k_is)
    (case a35 => k_is)
    (case l35 => k_is)
    (case c35 => k_is)
    (case k35 => k_is)
    (case a36 => k_is)
    (case l36 => k_is)
    (case c36 => k_is)
    (case k36 => k_is)
    (case a37 => k_is)
    (case l37 => k_is)
    (case c37 => k_is)
    (case k37 => k_is)
    (case a38 => k_is)
    (case l38 => k_is)
    (case c38 => k_is)
    (case k38 => k_is)
    (case a39 => k_is)
    (case l39 => k_is)
    (case c39 => k_is)
    (case k39 => k_is)
    (case a40 => k_is)
    (case l40 => k_is)
    (case c40 => k_is)
    (case k40 => k_is)
    (case a41 => k_is)
    (case l41 => k_is)
    (case c41 => k_is)
    (case k41 => k_is)
    (case a42 => k_is)
    (case l42 => k_is)
    (case c42 => k_is)
    (case k42 => k_is)
    (case a43 => k_is)
    (case l43 => k_is)
    (case c43 => k_is)
    (case k43 => k_is)
    (case a44 => k_is)
    (case l44 => k_is)
    (case c44 => k_is)
    (case k44 => k_is)
    (case a45 => k_is)
    (case l45 => k_is)
    (case c45 => k_is)
    (case k45 => k_is)
    (case a46 => k_is)
    (case l46 => k_is)
    (case c46 => k_is)
    (case k46 => k_is)
    (case a47 => k_is)
    (case l47 => k_is)
    (case c47 => k_is)
    (case k47 => k_is)
    (case a48 => k_is)
    (case l48 => k_is)
    (case c48 => k_is)
    (case k48 => k_is)
    (case a49 => k_is)
    (case l49 => k_is)
    (case c49 => k_is)
    (case k49 => k_is)
    (case a50 => k_is)
    (case l50 => k_is)
    (case c50 => k_is)
    (case k50 => k_is)
    (case a51 => k_is)
    (case l51 => k_is)
    (case c51 => k_is)
    (case k51 => k_is)
    (case z0 => k_is)
    (case z1 => k_is)
    (case z2 => k_is)
    (case z3 => k_is)
    (case z4 => k_is)
    (case z5 => k_is)
    (case z6 => k_is)
    (case z7 => k_is)
    (case z8 => k_is)
    (case z9 => k_is)
    (case z10 => k_is)
    (case z11 => k_is)
    (case z12 => k_is)
    (case z13 => k_is)
    (case z14 => k_is)
    (case z15 => k_is)
    (case z16 => k_is)
    (case z17 => k_is)
    (case z18 => k_is)
    (case z19 => k_is)
    (case aC => k_is)
    (case xL => k_is)
    (case sa => k_is)
    (case ga => k_is)
    (case gg => k_is)
    (case n1 => k_is)
    (case n2 => k_is)
    (case aI => k_is)
    (case t1 => k_is)
    (case lI => k_is)
    (case cI => k_is)
    (case kI => k_is)
    (case kC => k_is)
    (case eC => k_is)
    (case tC => k_is)
    (case hC => k_is)
    (case sC => first | k_is | rfl)
    (case vE => decide +kernel)
    (case eqt => k_is)

