import PyProof.Rows.All
import HandS.ForMost
import HandS.ForExc
import HandS.Walk
import HandS.Strs
import HandS.Conv
import PyProof.Rows.SetFrom
import HandS.IsInst
import HandS.ExcIs
import HandS.ExcOwn
import KE.SortData
import HandS.SortInts
import HandS.SortKw
import KE.SortKeyHeap
import KE.LtData
import HandS.TupMul
import HandS.Zip
import HandS.Dict
import HandS.More
import KE.KDictWalk
import KE.KDictSum
import HandS.Style
import HandS.TupLe
import HandS.DictComp
import KE.KDictDisplayH
import KE.DataMinMax
import HandS.List
import KE.DataMinKey
import HandS.Deep
import HandS.Codes
import PyProof.Draws
import PyProof.TupleIter
import HandS.FStr
import HandS.SetBool
import HandS.TupSets
import HandS.Star
import HandS.MapObj
import HandS.SetFor
import HandS.SetKeys
import HandS.Iter
import KE.GoesMore
import KE.GoesZip
import KE.GoesEnum
import HandS.WideBits
import KE.IntBitsLaws
import PySem.Challenge.RW_standingpowers_k59_machines_that_step
set_option Elab.async false
set_option linter.all false
set_option maxRecDepth 100000
namespace Dn
open PySem L2

def Le (H H' : Hp) : Prop := ∀ a o, H a = some o → H' a = some o
theorem Le.refl (H : Hp) : Le H H := fun _ _ h => h
theorem Le.trans {A B C : Hp} (h : Le A B) (g : Le B C) : Le A C := fun a o e => g a o (h a o e)
theorem Le.put {H : Hp} {p : Addr} {o : HO} (h : H p = none) : Le H (upd H p o) := fun a u e => by
  rw [upd_ne (ne_of_none e h)]
  exact e
theorem Le.put2 {B H : Hp} {p : Addr} {o : HO} (h : Le B H) : Le (upd B p o) (upd H p o) := fun a u e => by
  by_cases q : a = p
  · subst q
    rw [upd_same] at e ⊢
    exact e
  · rw [upd_ne q] at e ⊢
    exact h a u e
theorem Le.none {B H : Hp} (h : Le B H) {a : Addr} (e : H a = none) : B a = none := by
  cases q : B a with
  | none => rfl
  | some o =>
    rw [h a o q] at e
    cases e
structure Grow (B H B' H' : Hp) : Prop where
  b : Le B B'
  bh : Le B' H'
  h : Le H H'
  f : ∀ a, B a = none → ¬ H a = none → B' a = none
theorem Grow.refl {B H : Hp} (h : Le B H) : Grow B H B H := ⟨Le.refl _, h, Le.refl _, fun _ e _ => e⟩
theorem Grow.trans {B H B1 H1 B2 H2 : Hp} (g : Grow B H B1 H1) (k : Grow B1 H1 B2 H2) : Grow B H B2 H2 :=
  ⟨g.b.trans k.b, k.bh, g.h.trans k.h, fun a e n => k.f a (g.f a e n) fun z => n (g.h.none z)⟩
theorem Grow.new {B H : Hp} {p : Addr} {o : HO} (h : Le B H) (n : H p = none) : Grow B H (upd B p o) (upd H p o) :=
  ⟨Le.put (h.none n), h.put2, Le.put n, fun a e z => by
    rw [upd_ne (fun q => z (by rw [q]; exact n))]
    exact e⟩
theorem Grow.free {B H : Hp} {p : Addr} {o : HO} (h : Le B H) (n : H p = none) : Grow B H B (upd H p o) :=
  ⟨Le.refl _, h.trans (Le.put n), Le.put n, fun _ e _ => e⟩
theorem Grow.none {B H B' H' : Hp} (g : Grow B H B' H') {a : Addr} (h : H' a = Option.none) : H a = Option.none := g.h.none h

class Rep (α : Type) where
  rep : PySem.W.Frag → Hp → V → α → Prop
  mono : ∀ {K : PySem.W.Frag} {B B' : Hp} {v : V} {x : α}, Le B B' → rep K B v x → rep K B' v x
open Rep (rep)
class ORep (β : Type) where
  orep : PySem.W.Frag → Hp → HO → β → Prop
  omono : ∀ {K : PySem.W.Frag} {B B' : Hp} {o : HO} {x : β}, Le B B' → orep K B o x → orep K B' o x
open ORep (orep)

instance : Rep Int := ⟨fun _ _ v x => v = .int x, fun _ h => h⟩
instance : Rep Bool := ⟨fun _ _ v x => v = .bl x, fun _ h => h⟩
instance : Rep Str := ⟨fun _ _ v x => v = .str x, fun _ h => h⟩
instance : Rep Unit := ⟨fun _ _ v _ => v = .non, fun _ h => h⟩
theorem Le.rd {H H' : Hp} {a : Addr} {u : HO} (e : Le H H') (h : Rd H a u) : Rd H' a u := by
  rcases h with h | ⟨o, h⟩
  · exact Or.inl (e a _ h)
  · exact Or.inr ⟨o, e a _ h⟩
theorem Le.l {K : PySem.W.Frag} {H H' : Hp} {a : Addr} {xs : List V} (e : Le H H') (h : SqL K H a xs) : SqL K H' a xs := by
  rcases h with h | h
  · exact Or.inl (e.rd h)
  · exact Or.inr h
theorem Le.t {K : PySem.W.Frag} {H H' : Hp} {a : Addr} {xs : List V} (e : Le H H') (h : SqT K H a xs) : SqT K H' a xs := by
  rcases h with h | h
  · exact Or.inl (e.rd h)
  · exact Or.inr h
section
variable {α β : Type} [Rep α] [Rep β] {K : PySem.W.Frag} {B B' : Hp}
abbrev Reps (K : PySem.W.Frag) (B : Hp) : List V → List α → Prop := Paired (fun v x => rep K B v x)
theorem Reps.mono (e : Le B B') {vs : List V} {xs : List α} (h : Reps K B vs xs) : Reps K B' vs xs := Paired.mapP h fun _ _ q => Rep.mono e q
theorem Reps.get {vs : List V} {xs : List α} (h : Reps K B vs xs) : ∀ {i : Nat} {v : V}, vs[i]? = some v → ∃ x, xs[i]? = some x ∧ rep K B v x := by
  induction h with
  | nil => intro i v e; simp at e
  | cons r _ ih =>
    intro i v e
    cases i with
    | zero =>
      simp at e
      subst e
      exact ⟨_, rfl, r⟩
    | succ i =>
      simp at e
      obtain ⟨x, e1, e2⟩ := ih e
      exact ⟨x, by simpa using e1, e2⟩
theorem Reps.get' {vs : List V} {xs : List α} (h : Reps K B vs xs) : ∀ {i : Nat} {x : α}, xs[i]? = some x → ∃ v, vs[i]? = some v ∧ rep K B v x := by
  induction h with
  | nil => intro i v e; simp at e
  | cons r _ ih =>
    intro i v e
    cases i with
    | zero =>
      simp at e
      subst e
      exact ⟨_, rfl, r⟩
    | succ i =>
      simp at e
      obtain ⟨x, e1, e2⟩ := ih e
      exact ⟨x, by simpa using e1, e2⟩
theorem Reps.len {vs : List V} {xs : List α} (h : Reps K B vs xs) : vs.length = xs.length := Paired.length h
theorem Reps.append {vs ws : List V} {xs ys : List α} (h : Reps K B vs xs) (g : Reps K B ws ys) : Reps K B (vs ++ ws) (xs ++ ys) := by
  induction h with
  | nil => exact g
  | cons r _ ih => exact .cons r ih
theorem Reps.drop {vs : List V} {xs : List α} (h : Reps K B vs xs) : ∀ n : Nat, Reps K B (vs.drop n) (xs.drop n) := by
  induction h with
  | nil => intro n; simp; exact .nil
  | cons r t ih =>
    intro n
    cases n with
    | zero => exact .cons r t
    | succ n => exact ih n
theorem Reps.take {vs : List V} {xs : List α} (h : Reps K B vs xs) : ∀ n : Nat, Reps K B (vs.take n) (xs.take n) := by
  induction h with
  | nil => intro n; simp; exact .nil
  | cons r t ih =>
    intro n
    cases n with
    | zero => exact .nil
    | succ n => exact .cons r (ih n)
theorem Reps.set {vs : List V} {xs : List α} (h : Reps K B vs xs) : ∀ (n : Nat) {v : V} {x : α}, rep K B v x → Reps K B (vs.set n v) (xs.set n x) := by
  induction h with
  | nil => intro n v x r; exact .nil
  | cons r t ih =>
    intro n v x q
    cases n with
    | zero => exact .cons q t
    | succ n => exact .cons r (ih n q)
theorem Reps.reverse {vs : List V} {xs : List α} (h : Reps K B vs xs) : Reps K B vs.reverse xs.reverse := by
  induction h with
  | nil => exact .nil
  | cons r t ih =>
    rw [List.reverse_cons, List.reverse_cons]
    exact ih.append (.cons r .nil)
theorem Reps.replicate {v : V} {x : α} (r : rep K B v x) : ∀ n : Nat, Reps K B (List.replicate n v) (List.replicate n x)
  | 0 => .nil
  | n + 1 => .cons r (Reps.replicate r n)
end
structure Tup (α : Type) where
  l : List α
  deriving DecidableEq
section
variable {α β γ : Type} [Rep α] [Rep β] [Rep γ]
instance : ORep (List α) := ⟨fun K B o xs => ∃ vs, o = .lst vs ∧ Reps K B vs xs, fun e ⟨vs, h, r⟩ => ⟨vs, h, r.mono e⟩⟩
instance : Rep (List α) := ⟨fun K B v xs => ∃ a vs, v = .ref a ∧ SqL K B a vs ∧ Reps K B vs xs, fun e ⟨a, vs, h, s, r⟩ => ⟨a, vs, h, e.l s, r.mono e⟩⟩
instance : Rep (Tup α) := ⟨fun K B v xs => ∃ a vs, v = .ref a ∧ SqT K B a vs ∧ Reps K B vs xs.l, fun e ⟨a, vs, h, s, r⟩ => ⟨a, vs, h, e.t s, r.mono e⟩⟩
instance : Rep (α × β) := ⟨fun K B v x => ∃ a v1 v2, v = .ref a ∧ SqT K B a [v1, v2] ∧ rep K B v1 x.1 ∧ rep K B v2 x.2, fun e ⟨a, v1, v2, h, s, r, q⟩ => ⟨a, v1, v2, h, e.t s, Rep.mono e r, Rep.mono e q⟩⟩
instance : Rep (Option α) := ⟨fun K B v x => match x with | none => v = .non | some y => rep K B v y, fun {K B B' v x} e h => by
  cases x with
  | none => exact h
  | some y => exact Rep.mono (α := α) e h⟩
end

inductive Slot : Type 1 where
  | any
  | val {α : Type} [Rep α] (x : α)
  | obj (φ : PySem.W.Frag → Hp → Addr → HO → Prop) (hm : ∀ K B B' a o, Le B B' → φ K B a o → φ K B' a o)
  /-- an owned object at a that refers to further owned ones: all of them stand at cs -/
  | deep (ψ : PySem.W.Frag → Hp → Hp → Addr → List Addr → Prop) (hm : ∀ K B B' H H' a cs, Le B B' → (∀ c ∈ cs, H' c = H c) → ψ K B H a cs → ψ K B' H' a cs)
abbrev Slot.own {β : Type} [ORep β] (x : β) : Slot := .obj (fun K B _ o => orep K B o x) (fun _ _ _ _ _ e h => ORep.omono e h)
def SlotOk (K : PySem.W.Frag) (B H : Hp) (v : Option (Option V)) : Slot → Prop
  | .any => True
  | @Slot.val α i x => ∃ u, v = some (some u) ∧ rep K B u x
  | .obj φ _ => ∃ a o, v = some (some (.ref a)) ∧ H a = some o ∧ B a = none ∧ φ K B a o
  | .deep _ _ => True
def isOwn : Slot → Bool
  | .obj _ _ => true
  | _ => false
def isDeep : Slot → Bool
  | .deep _ _ => true
  | _ => false
structure Env (K : PySem.W.Frag) (B H : Hp) (σ : St) (env : List Slot) : Prop where
  bh : Le B H
  len : σ.length = env.length
  at_ : ∀ (i : Nat) (s : Slot), env[i]? = some s → SlotOk K B H σ[i]? s
  ap : ∀ (i j : Nat) (s t : Slot), env[i]? = some s → env[j]? = some t → isOwn s = true → isOwn t = true → σ[i]? = σ[j]? → i = j
theorem SlotOk.grow {K : PySem.W.Frag} {B H B' H' : Hp} {v : Option (Option V)} {s : Slot} (g : Grow B H B' H') (h : SlotOk K B H v s) : SlotOk K B' H' v s := by
  cases s with
  | any => trivial
  | @val α i x =>
    obtain ⟨u, e, r⟩ := h
    exact ⟨u, e, Rep.mono g.b r⟩
  | obj φ hm =>
    obtain ⟨a, o, e, h1, h2, r⟩ := h
    exact ⟨a, o, e, g.h a o h1, g.f a h2 (by rw [h1]; exact fun z => nomatch z), hm _ _ _ _ _ g.b r⟩
  | deep ψ hm => trivial
theorem Env.grow {K : PySem.W.Frag} {B H B' H' : Hp} {σ : St} {env : List Slot} (E : Env K B H σ env) (g : Grow B H B' H') : Env K B' H' σ env :=
  ⟨g.bh, E.len, fun i s h => (E.at_ i s h).grow g, E.ap⟩
theorem Env.val {K : PySem.W.Frag} {B H : Hp} {σ : St} {env : List Slot} (E : Env K B H σ env) {i : Nat} {α : Type} [Rep α] {x : α} (h : env[i]? = some (.val x)) : ∃ u, σ[i]? = some (some u) ∧ rep K B u x := E.at_ i _ h
theorem Env.obj {K : PySem.W.Frag} {B H : Hp} {σ : St} {env : List Slot} (E : Env K B H σ env) {i : Nat} {φ : PySem.W.Frag → Hp → Addr → HO → Prop} {hm : ∀ K B B' a o, Le B B' → φ K B a o → φ K B' a o} (h : env[i]? = some (.obj φ hm)) :
    ∃ a o, σ[i]? = some (some (.ref a)) ∧ H a = some o ∧ B a = none ∧ φ K B a o := E.at_ i _ h
theorem Env.own {K : PySem.W.Frag} {B H : Hp} {σ : St} {env : List Slot} (E : Env K B H σ env) {i : Nat} {β : Type} [ORep β] {x : β} (h : env[i]? = some (.own x)) :
    ∃ a o, σ[i]? = some (some (.ref a)) ∧ H a = some o ∧ B a = none ∧ orep K B o x := E.at_ i _ h

structure Ct where
  P : Program
  w : World
  K : PySem.W.Frag
  mg : Str → Option Value
  base : Heap
  k : Nat
  N : List Str
  sc : Scope
  fn : Str → Bool
  df : Bool
structure Fits (c : Ct) (X : Cx) : Prop where
  P : X.prog = c.P
  w : X.w = c.w
  K : X.K = c.K
  mg : X.mg = c.mg
  base : X.base = c.base
  N : X.N = c.N
  sc : X.env.scope = c.sc
  fn : X.fn = c.fn
  calm : X.calm = true
  room : Room c.k X.A
  xe : X.xe = fun _ _ => False
  top : c.df = true → X.stack = X.env :: X.outer ∧ X.env.frame = some X.env.locals ∧ X.ex = []
def Ct.blk (c : Ct) (scope : Scope) : Ct := { c with sc := relS scope c.sc, fn := fun x => scope.names.lookup x == some .cell, df := false }
theorem Fits.blk {c : Ct} {X : Cx} (F : Fits c X) (s : Shared) (H : Hp) (scope : Scope) (C : Addr) (cl : List (Str × Addr)) (fp : List Addr) : Fits (c.blk scope) (X.blk s H scope (compEnvC scope cl C X.env) fp) :=
  ⟨F.P, F.w, F.K, F.mg, F.base, F.N, by show relS scope X.env.scope = relS scope c.sc; rw [F.sc], rfl, F.calm, F.room, rfl, fun h => nomatch h⟩

def EvE (K : PySem.W.Frag) (env : List Slot) {α : Type} [Rep α] (t : TE) (x : α) : Prop :=
  ∀ (B H : Hp) (σ : St), Env K B H σ env → ∀ Q : VK, (∀ v B' H', Grow B H B' H' → rep K B' v x → Q v H') → t σ H Q
def De (c : Ct) (env : List Slot) (e : Expr) {α : Type} [Rep α] (m : Option α) : Prop := ∃ t, (∀ X, Fits c X → PE X e t) ∧ ∀ x, m = some x → EvE c.K env t x
def EvN (K : PySem.W.Frag) (env : List Slot) {β : Type} [ORep β] (t : TE) (x : β) : Prop :=
  ∀ (B H : Hp) (σ : St), Env K B H σ env → ∀ Q : VK, (∀ p o B' H', H p = none → Grow B H B' H' → B' p = none → H' p = some o → orep K B' o x → Q (.ref p) H') → t σ H Q
def DeN (c : Ct) (env : List Slot) (e : Expr) {β : Type} [ORep β] (m : Option β) : Prop := ∃ t, (∀ X, Fits c X → PE X e t) ∧ ∀ x, m = some x → EvN c.K env t x
def EvT (K : PySem.W.Frag) (env : List Slot) (t : TT) (b : Bool) : Prop :=
  ∀ (B H : Hp) (σ : St), Env K B H σ env → ∀ Q : Bool → Hp → Prop, (∀ B' H', Grow B H B' H' → Q b H') → t σ H Q
def DeT (c : Ct) (env : List Slot) (e : Expr) (m : Option Bool) : Prop := ∃ t, (∀ X, Fits c X → PT X e t) ∧ ∀ b, m = some b → EvT c.K env t b
def DeW (c : Ct) (env : List Slot) (e : Expr) (m : Option Bool) : Prop := ∃ t, (∀ X, Fits c X → PW X e t) ∧ ∀ b, m = some b → EvT c.K env t b
inductive Args (K : PySem.W.Frag) (B : Hp) : List V → List Slot → Prop where
  | nil : Args K B [] []
  | cons {α : Type} [Rep α] {v : V} {x : α} {vs : List V} {xs : List Slot} : rep K B v x → Args K B vs xs → Args K B (v :: vs) (.val x :: xs)
theorem Args.mono {K : PySem.W.Frag} {B B' : Hp} (e : Le B B') {vs : List V} {xs : List Slot} (h : Args K B vs xs) : Args K B' vs xs := by
  induction h with
  | nil => exact .nil
  | cons r _ ih => exact .cons (Rep.mono e r) ih
theorem Args.len {K : PySem.W.Frag} {B : Hp} {vs : List V} {xs : List Slot} (h : Args K B vs xs) : vs.length = xs.length := by
  induction h with
  | nil => rfl
  | cons r _ ih => rw [List.length_cons, List.length_cons, ih]
theorem Args.get {K : PySem.W.Frag} {B : Hp} {vs : List V} {xs : List Slot} (h : Args K B vs xs) : ∀ {i : Nat} {s : Slot}, xs[i]? = some s → SlotOk K B B (vs.map some)[i]? s ∧ isOwn s = false := by
  induction h with
  | nil => intro i s e; simp at e
  | cons r _ ih =>
    intro i s e
    cases i with
    | zero =>
      simp at e
      subst e
      exact ⟨⟨_, rfl, r⟩, rfl⟩
    | succ i =>
      simp at e
      simpa using ih e
def EvA (K : PySem.W.Frag) (env : List Slot) (t : TA) (xs : List Slot) : Prop :=
  ∀ (B H : Hp) (σ : St), Env K B H σ env → ∀ Q : List V → Hp → Prop, (∀ vs B' H', Grow B H B' H' → Args K B' vs xs → Q vs H') → t σ H Q
def EvL (K : PySem.W.Frag) (env : List Slot) {α : Type} [Rep α] (t : TE) (xs : List α) : Prop :=
  ∀ (B H : Hp) (σ : St), Env K B H σ env → ∀ Q : VK, (∀ a vs B' H', Grow B H B' H' → SqL K H' a vs → Reps K B' vs xs → Q (.ref a) H') → t σ H Q
def DeL (c : Ct) (env : List Slot) (e : Expr) {α : Type} [Rep α] (m : Option (List α)) : Prop := ∃ t, (∀ X, Fits c X → PE X e t) ∧ ∀ x, m = some x → EvL c.K env t x

section
variable {c : Ct} {env : List Slot} {e a b : Expr} {α β γ : Type} [Rep α] [Rep β] [Rep γ]
theorem De.of {m m' : Option α} (h : De c env e m) (q : m = m') : De c env e m' := q ▸ h
theorem EvN.de {K : PySem.W.Frag} {t : TE} {xs : List α} (h2 : EvN K env t xs) : EvE K env t xs := by
  refine fun B H σ E Q q => h2 B H σ E Q fun p o B' H' np g nb hp r => ?_
  obtain ⟨vs, rfl, r⟩ := r
  have hB : Le (upd B' p (.lst vs)) H' := fun a u z => by
    by_cases k : a = p
    · subst k
      rw [upd_same] at z
      rw [hp, z]
    · rw [upd_ne k] at z
      exact g.bh a u z
  refine q (.ref p) (upd B' p (.lst vs)) H' ⟨g.b.trans (Le.put nb), hB, g.h, fun a z n => ?_⟩ ⟨p, vs, rfl, SqL.of upd_same, r.mono (Le.put nb)⟩
  rw [upd_ne (fun k => n (by rw [k]; exact np))]
  exact g.f a z n
theorem DeN.de {m : Option (List α)} (h : DeN c env e m) : De c env e m := by
  obtain ⟨t, h1, h2⟩ := h
  exact ⟨t, h1, fun x hx => (h2 x hx).de⟩
theorem De.l {m : Option (List α)} (h : De c env e m) : DeL c env e m := by
  obtain ⟨t, h1, h2⟩ := h
  refine ⟨t, h1, fun x hx B H σ E Q q => h2 x hx B H σ E Q fun v B' H' g r => ?_⟩
  obtain ⟨a, vs, rfl, s, r⟩ := r
  exact q a vs B' H' g (g.bh.l s) r
theorem DeN.l {m : Option (List α)} (h : DeN c env e m) : DeL c env e m := h.de.l

theorem fits_ix {c : Ct} {X : Cx} (F : Fits c X) {i : Nat} {x : Str} (h : c.N[i]? = some x) : X.N[i]? = some x := by rw [F.N]; exact h
theorem fits_vis {c : Ct} {X : Cx} (F : Fits c X) {x : Str} (h : Vis c.sc x) : Vis X.env.scope x := by rw [F.sc]; exact h
theorem fits_loc {c : Ct} {X : Cx} (F : Fits c X) {x : Str} (h : Loc c.sc x) : Loc X.env.scope x := by rw [F.sc]; exact h
def Gv (c : Ct) (x : Str) : Prop := c.sc.names.lookup x = some .globalImplicit
theorem fits_gl {c : Ct} {X : Cx} (F : Fits c X) {x : Str} (h : Gv c x) : Gl X x := by
  show X.env.scope.names.lookup x = some .globalImplicit
  rw [F.sc]; exact h
theorem de_var (i : Nat) {x : Str} {pos : Pos} {y : α} (he : env[i]? = some (.val y)) (hN : c.N[i]? = some x) (hv : Vis c.sc x) (hd : (x == ("__debug__" : Str)) = false := by decide) (hcd : (x == ("__classdict__" : Str)) = false := by decide) :
    De c env (.Name x pos) (some y) := by
  refine ⟨tVar i, fun X F => pe_var (fits_ix F hN) (fits_vis F hv) hd hcd, fun x hx B H σ E Q q => ?_⟩
  cases hx
  obtain ⟨u, e1, r⟩ := E.val he
  exact ⟨u, e1, q u B H (Grow.refl E.bh) r⟩
theorem dl_own (i : Nat) {x : Str} {pos : Pos} {ys : List α} (he : env[i]? = some (.own ys)) (hN : c.N[i]? = some x) (hv : Vis c.sc x) (hd : (x == ("__debug__" : Str)) = false := by decide) (hcd : (x == ("__classdict__" : Str)) = false := by decide) :
    DeL c env (.Name x pos) (some ys) := by
  refine ⟨tVar i, fun X F => pe_var (fits_ix F hN) (fits_vis F hv) hd hcd, fun x hx B H σ E Q q => ?_⟩
  cases hx
  obtain ⟨a, o, e1, e2, e3, vs, rfl, r⟩ := E.own he
  exact ⟨.ref a, e1, q a vs B H (Grow.refl E.bh) (SqL.of e2) r⟩
theorem de_int {i : Int} {j pos} : De c env (.Constant (.int i) j pos) (some i) := ⟨tC (.int i), fun _ _ => pe_int, fun x hx B H σ E Q q => by cases hx; exact q _ B H (Grow.refl E.bh) rfl⟩
theorem de_bl {b : Bool} {j pos} : De c env (.Constant (.bool b) j pos) (some b) := ⟨tC (.bl b), fun _ _ => pe_bl, fun x hx B H σ E Q q => by cases hx; exact q _ B H (Grow.refl E.bh) rfl⟩
theorem de_str {z : Str} {j pos} : De c env (.Constant (.str z) j pos) (some z) := ⟨tC (.str z), fun _ _ => pe_str, fun x hx B H σ E Q q => by cases hx; exact q _ B H (Grow.refl E.bh) rfl⟩
theorem de_non {j pos} : De c env (.Constant .none j pos) (some ()) := ⟨tC .non, fun _ _ => pe_non, fun x hx B H σ E Q q => by cases hx; exact q _ B H (Grow.refl E.bh) rfl⟩
theorem De.opt {m : Option α} (h : De c env e m) : De c env e (m.map Option.some) := by
  obtain ⟨t, h1, h2⟩ := h
  refine ⟨t, h1, fun x hx => ?_⟩
  cases m with
  | none => cases hx
  | some y =>
    cases hx
    exact fun B H σ E Q q => h2 y rfl B H σ E Q fun v B' H' g r => q v B' H' g r
theorem de_none {j pos} : De c env (.Constant .none j pos) (some (none : Option α)) := ⟨tC .non, fun _ _ => pe_non, fun x hx B H σ E Q q => by cases hx; exact q _ B H (Grow.refl E.bh) rfl⟩
theorem de_glob {x : Str} {pos : Pos} {y : α} {v : V} {u : Value} (hg : Gv c x) (hm : c.mg x = some u) (r : RelV v u) (hr : ∀ B, rep c.K B v y) (hd : (x == ("__debug__" : Str)) = false := by decide) : De c env (.Name x pos) (some y) :=
  ⟨tC v, fun X F => pe_glob (fits_gl F hg) (by rw [F.mg]; exact hm) r hd, fun x hx B H σ E Q q => by cases hx; exact q _ B H (Grow.refl E.bh) (hr B)⟩

theorem bind_some.{u, v} {α : Type u} {β : Type v} {m : Option α} {f : α → Option β} {z : β} (h : (m.bind f) = some z) : ∃ x, m = some x ∧ f x = some z := by
  cases m with
  | none => cases h
  | some x => exact ⟨x, rfl, h⟩
def OpS (K : PySem.W.Frag) (r : R2) (f : α → β → Option γ) : Prop := ∀ (x : α) (y : β) (z : γ), f x y = some z → ∀ (B H : Hp) (v u : V), Le B H → rep K B v x → rep K B u y → ∀ Q : VK, (∀ w B' H', Grow B H B' H' → rep K B' w z → Q w H') → r v u H Q
theorem ev_op {ta tb : TE} {r : R2} {f : α → β → Option γ} {x : α} {y : β} {z : γ} (ha : EvE c.K env ta x) (hb : EvE c.K env tb y) (hr : OpS c.K r f) (hz : f x y = some z) : EvE c.K env (tOp r ta tb) z := fun B H σ E Q q =>
  ha B H σ E _ fun v B1 H1 g1 r1 => hb B1 H1 σ (E.grow g1) _ fun u B2 H2 g2 r2 => hr x y z hz B2 H2 v u g2.bh (Rep.mono g2.b r1) r2 Q fun w B3 H3 g3 r3 => q w B3 H3 ((g1.trans g2).trans g3) r3
theorem de_op {op : Operator} {r : R2} {pos : Pos} {f : α → β → Option γ} {ma : Option α} {mb : Option β} (ho : ∀ X, Fits c X → OpR X (binaryOp op) r) (hr : OpS c.K r f) (ha : De c env a ma) (hb : De c env b mb) :
    De c env (.BinOp a op b pos) (ma.bind fun x => mb.bind fun y => f x y) := by
  obtain ⟨ta, a1, a2⟩ := ha
  obtain ⟨tb, b1, b2⟩ := hb
  refine ⟨_, fun X F => pe_op (ho X F) (a1 X F) (b1 X F), fun z hz => ?_⟩
  obtain ⟨x, ex, hz⟩ := bind_some hz
  obtain ⟨y, ey, hz⟩ := bind_some hz
  exact ev_op (a2 x ex) (b2 y ey) hr hz
theorem de_cmp {op : CmpOp} {r : R2} {pos : Pos} {f : α → β → Option γ} {ma : Option α} {mb : Option β} (ho : ∀ X, Fits c X → OpR X (compareOp op) r) (hr : OpS c.K r f) (ha : De c env a ma) (hb : De c env b mb) (hm : behindInMarks op b = false) :
    De c env (.Compare a [op] [b] pos) (ma.bind fun x => mb.bind fun y => f x y) := by
  obtain ⟨ta, a1, a2⟩ := ha
  obtain ⟨tb, b1, b2⟩ := hb
  refine ⟨_, fun X F => pe_cmpR (ho X F) (a1 X F) (b1 X F) hm, fun z hz => ?_⟩
  obtain ⟨x, ex, hz⟩ := bind_some hz
  obtain ⟨y, ey, hz⟩ := bind_some hz
  exact ev_op (a2 x ex) (b2 y ey) hr hz
theorem ops_I0 {K : PySem.W.Frag} {g : Int → Int → Int} : OpS K (rI0 fun i j => .int (g i j)) (fun (i j : Int) => some (g i j)) := fun x y z hz B H v u hB r1 r2 Q q => by
  cases hz; cases r1; cases r2
  exact ⟨x, y, rfl, rfl, q _ B H (Grow.refl hB) rfl⟩
theorem ops_B0 {K : PySem.W.Frag} {g : Int → Int → Bool} : OpS K (rI0 fun i j => .bl (g i j)) (fun (i j : Int) => some (g i j)) := fun x y z hz B H v u hB r1 r2 Q q => by
  cases hz; cases r1; cases r2
  exact ⟨x, y, rfl, rfl, q _ B H (Grow.refl hB) rfl⟩
theorem ops_I {K : PySem.W.Frag} {C : Int → Int → Prop} {p : Int → Int → Bool} {g : Int → Int → Int} (hp : ∀ i j, p i j = true → C i j) : OpS K (rI C fun i j => .int (g i j)) (fun (i j : Int) => if p i j = true then some (g i j) else none) := fun x y z hz B H v u hB r1 r2 Q q => by
  cases r1; cases r2
  replace hz : (if p x y = true then some (g x y) else none) = some z := hz
  by_cases h : p x y = true
  · rw [if_pos h] at hz
    cases hz
    exact ⟨x, y, rfl, rfl, hp _ _ h, q _ B H (Grow.refl hB) rfl⟩
  · rw [if_neg h] at hz
    cases hz
def small (i : Int) : Bool := decide (-(2 ^ 64) < i) && decide (i < 2 ^ 64)
def mulI (i j : Int) : Option Int := if (small i || small j) = true then some (i * j) else none
def modI (i j : Int) : Option Int := if decide (0 < j) = true then some (i % j) else none
def divI (i j : Int) : Option Int := if (decide (0 < j) && decide (j < 1073741824)) = true then some (i / j) else none
def powI (i j : Int) : Option Int := if (decide (0 ≤ j) && decide (j ≤ 1000000) && decide (i.natAbs < 2 ^ 64)) = true then some (i ^ j.toNat) else none
theorem de_add {pos : Pos} {ma mb : Option Int} (ha : De c env a ma) (hb : De c env b mb) : De c env (.BinOp a .Add b pos) (ma.bind fun x => mb.bind fun y => some (x + y)) := de_op (fun _ _ => op_add) ops_I0 ha hb
theorem de_sub {pos : Pos} {ma mb : Option Int} (ha : De c env a ma) (hb : De c env b mb) : De c env (.BinOp a .Sub b pos) (ma.bind fun x => mb.bind fun y => some (x - y)) := de_op (fun _ _ => op_sub) ops_I0 ha hb
theorem de_mul {pos : Pos} {ma mb : Option Int} (ha : De c env a ma) (hb : De c env b mb) : De c env (.BinOp a .Mult b pos) (ma.bind fun x => mb.bind fun y => mulI x y) :=
  de_op (fun _ _ => op_mul) (ops_I (p := fun i j => small i || small j) fun i j h => by
    rcases Bool.or_eq_true _ _ ▸ h with h | h <;> unfold small at h <;> simp only [Bool.and_eq_true, decide_eq_true_eq] at h
    · exact .inl h
    · exact .inr h) ha hb
theorem de_mod {pos : Pos} {ma mb : Option Int} (ha : De c env a ma) (hb : De c env b mb) : De c env (.BinOp a .Mod b pos) (ma.bind fun x => mb.bind fun y => modI x y) :=
  de_op (fun _ _ => op_mod) (ops_I (p := fun _ j => decide (0 < j)) fun i j h => of_decide_eq_true h) ha hb
theorem de_div {pos : Pos} {ma mb : Option Int} (ha : De c env a ma) (hb : De c env b mb) : De c env (.BinOp a .FloorDiv b pos) (ma.bind fun x => mb.bind fun y => divI x y) :=
  de_op (fun _ _ => op_fdiv) (ops_I (p := fun _ j => decide (0 < j) && decide (j < 1073741824)) fun i j h => by simpa [CDiv] using h) ha hb
theorem de_pow {pos : Pos} {ma mb : Option Int} (ha : De c env a ma) (hb : De c env b mb) : De c env (.BinOp a .Pow b pos) (ma.bind fun x => mb.bind fun y => powI x y) :=
  de_op (fun _ _ => op_pow) (ops_I (p := fun i j => decide (0 ≤ j) && decide (j ≤ 1000000) && decide (i.natAbs < 2 ^ 64)) fun i j h => by
    simp only [Bool.and_eq_true, decide_eq_true_eq] at h
    exact ⟨h.1.1, h.1.2, h.2⟩) ha hb
class Scal (α : Type) extends Rep α where
  v : α → V
  is : ∀ {K : PySem.W.Frag} {B : Hp} {u : V} {x : α}, Rep.rep K B u x → u = v x
  inj : ∀ {x y : α}, v x = v y → x = y
  sc : ∀ x y, scal (v x) (v y) = true
end
end Dn

set_option Elab.async false
set_option linter.all false
set_option maxRecDepth 100000
namespace Dn
open PySem L2
open Rep (rep)
open ORep (orep)

class Dat (α : Type) extends Rep α where
  toD : α → PyData
  dp : ∀ {K : PySem.W.Frag} {B : Hp} {v : V} {x : α}, Rep.rep K B v x → Dp K B v (toD x)
  dep : Nat
  hdep : ∀ x, (toD x).depth ≤ dep
  dec : DecidableEq α
  eqv : ∀ x y, PyData.eqv (toD x) (toD y) = decide (x = y)
def lay {α : Type} [Dat α] (x : α) : Bool := (Dat.toD x).canLay0
instance : Dat Int := { toD := .int, dp := fun h => by cases h; exact .int _, dep := 0, hdep := fun _ => Nat.le_of_eq rfl, dec := inferInstance, eqv := fun x y => by simp [PyData.eqv]; exact Bool.beq_eq_decide_eq x y }
instance : Dat Bool := { toD := .bool, dp := fun h => by cases h; exact .bl _, dep := 0, hdep := fun _ => Nat.le_of_eq rfl, dec := inferInstance, eqv := fun x y => by simp [PyData.eqv]; exact Bool.beq_eq_decide_eq x y }
instance : Dat Str := { toD := .str, dp := fun h => by cases h; exact .str _, dep := 0, hdep := fun _ => Nat.le_of_eq rfl, dec := inferInstance, eqv := fun x y => by simp [PyData.eqv]; exact Bool.beq_eq_decide_eq x y }
section
variable {α β : Type} [Dat α] [Dat β]
theorem dpAll {K : PySem.W.Frag} {B : Hp} {vs : List V} {xs : List α} (h : Reps K B vs xs) : DpAll K B vs (xs.map Dat.toD) := by
  induction h with
  | nil => exact .nil
  | cons r _ ih => exact .cons (Dat.dp r) ih
theorem depAll (xs : List α) : PyData.depthAll (xs.map Dat.toD) ≤ Dat.dep α := by
  induction xs with
  | nil => simp [PyData.depthAll]
  | cons x xs ih =>
    rw [List.map_cons, PyData.depthAll]
    have := Dat.hdep x
    omega
theorem eqvAll (xs ys : List α) (d : DecidableEq α) : PyData.eqvAll (xs.map Dat.toD) (ys.map Dat.toD) = decide (xs = ys) := by
  induction xs generalizing ys with
  | nil => cases ys <;> simp [PyData.eqvAll]
  | cons x xs ih =>
    cases ys with
    | nil => simp [PyData.eqvAll]
    | cons y ys =>
      rw [List.map_cons, List.map_cons, PyData.eqvAll, ih, Dat.eqv]
      by_cases h : x = y <;> by_cases g : xs = ys <;> simp [h, g]
instance : Dat (List α) where
  toD := fun xs => .list (xs.map Dat.toD)
  dp := fun h => by
    obtain ⟨a, vs, rfl, s, r⟩ := h
    exact .lst s (dpAll r)
  dep := Dat.dep α + 1
  hdep := fun xs => by rw [PyData.depth]; exact Nat.succ_le_succ (depAll xs)
  dec := letI := Dat.dec (α := α); inferInstance
  eqv := fun x y => by
    rw [PyData.eqv, eqvAll x y Dat.dec]
    all_goals exact decide_eq_decide.mpr Iff.rfl
instance : Dat (Tup α) where
  toD := fun xs => .tuple (xs.l.map Dat.toD)
  dp := fun h => by
    obtain ⟨a, vs, rfl, s, r⟩ := h
    exact .tup s (dpAll r)
  dep := Dat.dep α + 1
  hdep := fun xs => by rw [PyData.depth]; exact Nat.succ_le_succ (depAll xs.l)
  dec := letI := Dat.dec (α := α); inferInstance
  eqv := fun x y => by
    rw [PyData.eqv, eqvAll x.l y.l Dat.dec]
    all_goals exact decide_eq_decide.mpr ⟨fun h => by cases x; cases y; cases h; rfl, fun h => by rw [h]⟩
instance : Dat (α × β) where
  toD := fun x => .tuple [Dat.toD x.1, Dat.toD x.2]
  dp := fun h => by
    obtain ⟨a, v1, v2, rfl, s, r, q⟩ := h
    exact .tup s (.cons (Dat.dp r) (.cons (Dat.dp q) .nil))
  dep := max (Dat.dep α) (Dat.dep β) + 1
  hdep := fun x => by
    have h1 := Dat.hdep x.1
    have h2 := Dat.hdep x.2
    simp only [PyData.depth, PyData.depthAll]
    omega
  dec := letI := Dat.dec (α := α); letI := Dat.dec (α := β); inferInstance
  eqv := fun x y => by
    obtain ⟨x1, x2⟩ := x
    obtain ⟨y1, y2⟩ := y
    rw [PyData.eqv, PyData.eqvAll, PyData.eqvAll, PyData.eqvAll, Dat.eqv, Dat.eqv]
    letI := Dat.dec (α := α)
    letI := Dat.dec (α := β)
    by_cases h : x1 = y1 <;> by_cases g : x2 = y2 <;> simp [h, g]
end
instance {α : Type} [Dat α] : DecidableEq α := Dat.dec

section
variable {c : Ct} {env : List Slot} {e a b d : Expr} {es : List Expr} {α β γ : Type} [Rep α] [Rep β] [Rep γ]
theorem fits_units {X : Cx} (F : Fits c X) : X.A.units + 64 < cLine := F.room.units
def neI {α : Type} [Dat α] (x y : α) : Option Bool := if (lay x && lay y && decide (Dat.dep α ≤ 64)) = true then some (!decide (x = y)) else none
theorem lay_sh {α : Type} [Dat α] {x : α} (h : lay x = true) (g : Dat.dep α ≤ 64) : SeqAt.shaped (Dat.toD x) = true := by
  unfold SeqAt.shaped
  rw [Bool.and_eq_true]
  exact ⟨h, decide_eq_true (Nat.le_trans (Dat.hdep x) g)⟩
def len1 (n : Nat) : Bool := decide (n ≤ 100000)
theorem len1_ok {n : Nat} (h : len1 n = true) : n ≤ sizeLine := Nat.le_trans (of_decide_eq_true h) (by decide)
def inS (x y : Str) : Option Bool := some (!(Builtin.Str.occurrences y x 0 y.length 1).isEmpty)
class Flat (α : Type) extends Rep α where
  v : α → V
  is : ∀ {K : PySem.W.Frag} {B : Hp} {u : V} {x : α}, Rep.rep K B u x → u = v x
  flat : ∀ x, flatV (v x) = true
  eq : ∀ x y, eqV (v x) (v y) = decide (v x = v y)
  inj : ∀ x y, v x = v y → x = y
instance : Flat Int := ⟨V.int, fun h => h, fun _ => rfl, fun x y => by simp [eqV]; exact Bool.beq_eq_decide_eq x y, fun x y h => by injection h⟩
instance : Flat Str := ⟨V.str, fun h => h, fun _ => rfl, fun x y => by simp [eqV]; exact Bool.beq_eq_decide_eq x y, fun x y h => by injection h⟩
theorem Reps.flat {α : Type} [Flat α] {K : PySem.W.Frag} {B : Hp} {vs : List V} {xs : List α} (h : Reps K B vs xs) : vs = xs.map Flat.v := by
  induction h with
  | nil => rfl
  | cons r _ ih => rw [List.map_cons, ← ih, Flat.is r]
theorem inV_map {α : Type} [Flat α] [DecidableEq α] (x : α) (xs : List α) : inV (Flat.v x) (xs.map Flat.v) = decide (x ∈ xs) := by
  unfold inV
  induction xs with
  | nil => simp
  | cons y ys ih =>
    rw [List.map_cons, List.any_cons, ih, Flat.eq]
    by_cases h : y = x
    · subst h; simp
    · have h' : ¬ Flat.v y = Flat.v x := fun q => h (Flat.inj _ _ q)
      have h2 : ¬ x = y := fun q => h q.symm
      simp [h', h2]
theorem flat_all {α : Type} [Flat α] (xs : List α) : (xs.map Flat.v).all flatV = true := by
  rw [List.all_eq_true]
  intro v hv
  obtain ⟨x, _, rfl⟩ := List.mem_map.mp hv
  exact Flat.flat x
theorem pt_of {X : Cx} {e : Expr} {t : TE} (h : PE X e t) (he : ∀ env whole, isTrue e env whole = (do let v ← whole; standAt e.pos; holding [v] (truthy v))) : PT X e (tB t) := pt_val h (he _)
theorem dt_of {m : Option Bool} (h : De c env e m) (he : ∀ env whole, isTrue e env whole = (do let v ← whole; standAt e.pos; holding [v] (truthy v)) := by intro _ _; rfl) : DeT c env e m := by
  obtain ⟨t, h1, h2⟩ := h
  refine ⟨_, fun X F => pt_of (h1 X F) he, fun b hb B H σ E Q q => h2 b hb B H σ E _ fun v B' H' g r => ?_⟩
  cases r
  exact ⟨b, rfl, q B' H' g⟩
theorem dt_cmp {op : CmpOp} {b : Expr} {r : R2} {pos : Pos} {f : α → β → Option Bool} {ma : Option α} {mb : Option β} (ho : ∀ X, Fits c X → OpR X (compareOp op) r) (hr : OpS c.K r f) (ha : De c env a ma) (hb : De c env b mb) (hm : behindInMarks op b = false) :
    DeT c env (.Compare a [op] [b] pos) (ma.bind fun x => mb.bind fun y => f x y) := by
  obtain ⟨ta, a1, a2⟩ := ha
  obtain ⟨tb, b1, b2⟩ := hb
  refine ⟨_, fun X F => pt_cmpR (ho X F) (a1 X F) (b1 X F) hm, fun z hz => ?_⟩
  obtain ⟨x, ex, hz⟩ := bind_some hz
  obtain ⟨y, ey, hz⟩ := bind_some hz
  exact fun B H σ E Q q => ev_op (a2 x ex) (b2 y ey) hr hz B H σ E _ fun v B' H' g r => by
    cases r
    exact ⟨z, rfl, q B' H' g⟩
theorem dt_not {pos : Pos} {m : Option Bool} (h : DeT c env a m) : DeT c env (.UnaryOp .Not a pos) (m.bind fun x => some (!x)) := by
  obtain ⟨t, h1, h2⟩ := h
  refine ⟨_, fun X F => pt_not (h1 X F), fun z hz B H σ E Q q => ?_⟩
  obtain ⟨x, ex, hz⟩ := bind_some hz
  cases hz
  exact h2 x ex B H σ E _ fun B' H' g => q B' H' g
variable {rest : List Expr}
def orO (m n : Option Bool) : Option Bool := m.bind fun x => if x = true then some true else n
theorem DeW.t {m : Option Bool} (h : DeW c env e m) : DeT c env e m := by
  obtain ⟨t, h1, h2⟩ := h
  exact ⟨t, fun X F => (h1 X F).pt, h2⟩
theorem dw_or1 {pos : Pos} {m : Option Bool} (h : DeT c env a m) : DeW c env (.BoolOp .Or [a] pos) m := by
  obtain ⟨t, h1, h2⟩ := h
  exact ⟨t, fun X F => pw_or1 (h1 X F), h2⟩
theorem dw_or {pos : Pos} {m n : Option Bool} (h : DeT c env a m) (g : DeW c env (.BoolOp .Or (b :: rest) pos) n) : DeW c env (.BoolOp .Or (a :: b :: rest) pos) (orO m n) := by
  obtain ⟨t, h1, h2⟩ := h
  obtain ⟨u, g1, g2⟩ := g
  refine ⟨_, fun X F => pw_or (h1 X F) (g1 X F), fun z hz B H σ E Q q => ?_⟩
  obtain ⟨x, ex, hz⟩ := bind_some hz
  refine h2 x ex B H σ E _ fun B' H' g => ?_
  cases x with
  | false =>
    show u σ H' Q
    exact g2 z hz B' H' σ (E.grow g) Q fun B2 H2 k => q B2 H2 (g.trans k)
  | true =>
    cases hz
    exact q B' H' g
end
end Dn

set_option Elab.async false
set_option linter.all false
set_option maxRecDepth 100000
namespace Dn
open PySem PySem.Spec PyProof.Rows L2
def uniq {κ : Type} [DecidableEq κ] (ks : List κ) : List κ := ks.foldl (fun acc k => if k ∈ acc then acc else acc ++ [k]) []
section
variable {κ : Type} [DecidableEq κ]
theorem uniq_more (ks : List κ) (k : κ) : uniq (ks ++ [k]) = if k ∈ uniq ks then uniq ks else uniq ks ++ [k] := by
  unfold uniq
  rw [List.foldl_append]
  rfl
theorem uniq_grows (ks : List κ) : (uniq ks).length ≤ ks.length := by
  have gen : ∀ (l acc : List κ), (l.foldl (fun acc k => if k ∈ acc then acc else acc ++ [k]) acc).length ≤ acc.length + l.length := by
    intro l
    induction l with
    | nil => intro acc; exact Nat.le_refl _
    | cons k l ih =>
      intro acc
      rw [List.foldl_cons, List.length_cons]
      refine Nat.le_trans (ih _) ?_
      split
      · omega
      · rw [List.length_append, List.length_singleton]
        omega
  have h := gen ks []
  rw [List.length_nil, Nat.zero_add] at h
  exact h
end
section
variable {prog : Program} {w : World} {A : Around} {κ : Type} [DecidableEq κ] {knd : KeyKind prog w κ}
abbrev Holds (knd : KeyKind prog w κ) (h : Heap) (S : Addr) (ks : List κ) : Prop := h.SetOf knd S (fun k => decide (k ∈ uniq ks)) (uniq ks).length
theorem Holds.other {h h' : Heap} {S : Addr} {ks : List κ} (q : Holds knd h S ks) (k : ∀ o, h.get? S = some o → h'.get? S = some o) : Holds knd h' S ks :=
  let ⟨o, es, ep, t, ho, r⟩ := q
  ⟨o, es, ep, t, k o ho, r⟩
theorem Holds.cast {h : Heap} {S : Addr} {ks : List κ} {f : κ → Bool} {n : Nat} (q : h.SetOf knd S f n) (e1 : ∀ k, f k = decide (k ∈ uniq ks)) (e2 : n = (uniq ks).length) : Holds knd h S ks := by
  have e : f = fun k => decide (k ∈ uniq ks) := funext e1
  rw [e, e2] at q
  exact q
theorem fill_set {R : Result → Shared → Prop} {it S : Addr} {fp wr : List Addr} {G : Array GenState → Array GenState → Prop} {Pv : Nat → Value → Prop} {St : Nat → Shared → Prop} {ks : List κ}
    (W : WalksS prog w A.in1 it fp wr G ks.length Pv St) (out : S ∉ fp) (ok : ∀ i v, Pv i v → v.scannable = true ∧ ∃ k, ks[i]? = some k ∧ knd.is k v = true) (few : ks.length + 1 < scanBound) :
    ∀ (left i : Nat) (s : Shared), i + left = ks.length → St i s → Holds knd s.heap S (ks.take i) →
      (∀ s', Moved (S :: wr) G s s' → Holds knd s'.heap S ks → R (.ok (.ret .none)) s') → codeAny (model prog w) A (.builtin "set.update.loop" ⟨[.ref S, .ref it], []⟩) R s := by
  have outw : S ∉ wr := fun z => out (W.sub _ z)
  have more : ∀ b ∈ wr, b ∈ S :: wr := fun b hb => List.mem_cons_of_mem _ hb
  intro left
  induction left with
  | zero =>
    intro i s hi st hS fin
    have e : i = ks.length := hi
    subst e
    rw [List.take_length] at hS
    refine codeAny_builtin PyProof.Rows.F.entry_set_update_loop ?_
    rw [Around.under_plainId PyProof.Rows.F.plain_set_update_loop _]
    show wpAny _ A.in1 (pyNext (.ref it) >>= _) _ _ s
    refine wpAny_bind (W.done s _ _ st fun s1 mv => ?_)
    show wpAny _ A.in1 (ret Value.none) _ _ s1
    exact wpAny_pure (fin s1 (mv.mono more) (hS.other fun o ho => mv.heap S o outw ho))
  | succ left ih =>
    intro i s hi st hS fin
    have lt : i < ks.length := by omega
    refine codeAny_builtin PyProof.Rows.F.entry_set_update_loop ?_
    rw [Around.under_plainId PyProof.Rows.F.plain_set_update_loop _]
    show wpAny _ A.in1 (pyNext (.ref it) >>= _) _ _ s
    refine wpAny_bind (W.item i s _ _ lt st fun v s1 pv st1 mv => ?_)
    obtain ⟨sc, k, ek, isk⟩ := ok i v pv
    have hS1 := hS.other (h' := s1.heap) fun o ho => mv.heap S o outw ho
    show wpAny _ A.in1 (holding [v] (setAdd S v) >>= _) _ _ s1
    refine wpAny_bind (wpAny_holding ?_)
    unfold setAdd
    refine wpAny_holding (wpAny_bind (knd.pyHash isk ?_))
    have room : (uniq (ks.take i)).length + 1 < scanBound := by
      have h1 := uniq_grows (ks.take i)
      rw [List.length_take] at h1
      omega
    refine wpAny_setAddHashed_of (knd := knd) (s := { s1 with toks := s1.toks + 1 }) isk sc hS1 room fun h2 same hS2 => ?_
    have tk : ks.take (i + 1) = ks.take i ++ [k] := by
      rw [List.take_add_one, ek]
      rfl
    have hS3 : Holds knd h2 S (ks.take (i + 1)) := Holds.cast hS2 (fun k' => by
      rw [tk, uniq_more]
      by_cases c : k ∈ uniq (ks.take i)
      · rw [if_pos c]
        by_cases z : k' = k
        · subst z; simp [c]
        · simp [z]
      · rw [if_neg c]
        by_cases z : k' = k
        · subst z; simp
        · simp [z]) (by
      rw [tk, uniq_more]
      by_cases c : k ∈ uniq (ks.take i) <;> simp [c])
    refine wpAny_pure ⟨plainId_quiet PyProof.Rows.F.plain_set_update_loop _, ih (i + 1) _ (by omega) (W.frame _ s1 _ _ st1 (Nat.le_succ _) fun b hb o e => ?_) hS3 fun s4 mv4 hS4 => fin s4 (Moved.trans W.gtrans ((mv.mono more).then_heap (Nat.le_succ _) fun b o hb e => ?_) mv4) hS4⟩
    · rw [same.2 b fun z => out (by rw [← z]; exact hb)]
      exact e
    · rw [same.2 b fun z => hb (by rw [z]; exact List.mem_cons_self)]
      exact e

set_option maxHeartbeats 4000000 in
theorem set_call {E : Value → Shared → Prop} {s : Shared} {l : Addr} {items : Array Value} {ks : List κ} {Q : Value → Shared → Prop} (calm : A.handled = none) (hl : s.heap.IsList l items)
    (len : ks.length = items.size) (ok : ∀ (i : Nat) (v : Value), items[i]? = some v → v.scannable = true ∧ ∃ k, ks[i]? = some k ∧ knd.is k v = true) (few : ks.length + 1 < scanBound)
    (fin : ∀ (h' : Heap) (tk : Nat), Holds knd h' s.heap.objs.size ks → (∀ b o, b < s.heap.objs.size → s.heap.get? b = some o → h'.get? b = some o) → Q (.ref s.heap.objs.size) { s with heap := h', toks := tk }) :
    wpAny (model prog w) A (call (.type "set") [.ref l]) Q E s := by
  obtain ⟨cm, tm, hmro⟩ := PySem.F.called_set.mro
  have hmade := PySem.F.called_set.made
  have hsub := PySem.F.called_set.sub
  refine wpAny_call (codeAny_of_tree ?_)
  show wpAny _ _ (callAny (.type "set") _) _ _ _
  refine wpAny_pure ⟨Code.quiet_builtin _ (by decide +kernel), codeAny_builtin PySem.F.entry_type_call ?_⟩
  rw [Around.under_plain (weight_type_call_type "set" [.ref l] []) rfl]
  have a1 := PySem.F.called_set.notType
  have a2 := PySem.F.called_set.canCreate
  have a3 := PySem.F.typeCall_set_1 (.ref l)
  repeat (any_goals (first | assumption | wp_step))
  generalize hS0 : s.heap.objs.size = S at *
  have mk : ∀ led : Bool, (s.heap.push { cls := .type "set", dict := none, data := .set #[] 0 (.fresh 0 0 led) }).get? S = some { cls := .type "set", dict := none, data := .set #[] 0 (.fresh 0 0 led) } := fun led => by rw [← hS0]; exact Heap.get?_push_size _ rfl
  refine codeAny_mono (code_set_new_1 (.ref l) (E := E) (Q₁ := fun v s1 => ∃ led : Bool, v = .ref S ∧ s1 = { s with heap := s.heap.push { cls := .type "set", dict := none, data := .set #[] 0 (.fresh 0 0 led) } }) fun led => ⟨led, by rw [hS0], rfl⟩) fun r s1 hr => ?_
  cases r with
  | error e => exact hr
  | ok fl =>
    cases fl with
    | ret v =>
      obtain ⟨led, rfl, rfl⟩ := hr
      have at_S := mk led
      have ty : Shared.TypeIs { s with heap := s.heap.push { cls := .type "set", dict := none, data := .set #[] 0 (.fresh 0 0 led) } } (.ref S) "set" := ⟨_, at_S, rfl⟩
      have b1 := PySem.F.called_set.init.lookup
      have b2 := PySem.F.called_set.init.bind (.ref S)
      repeat (any_goals (first | assumption | wp_step))
      refine codeAny_mono (codeAny_call_builtin (R := wants (fun r s2 => r = .none ∧ ∃ h' tk, s2 = { s with heap := h', toks := tk } ∧ Holds knd h' S ks ∧ (∀ b o, b < S → s.heap.get? b = some o → h'.get? b = some o)) E)
        PySem.F.called_set.init.plain PySem.F.entry_set_init (check_set_init_1 ty ?_)) fun r2 s2 hr2 => ?_
      · obtain ⟨⟨ocls, odict, odata, oslots⟩, hol, hcl, nl, hdl⟩ := hl
        simp only at hcl hdl
        subst hcl hdl
        have lS : l < S := by
          rw [← hS0]
          exact Heap.lt_size hol
        have hol' : (s.heap.push { cls := .type "set", dict := none, data := .set #[] 0 (.fresh 0 0 led) }).get? l = some { cls := .type "list", dict := odict, data := .seq items nl, slots := oslots } := Heap.get?_push_of_some _ hol
        have c1 := PySem.F.sub_list_set
        have c2 := PySem.F.sub_list_frozenset
        have c3 : (Value.type "list" == Value.type "dict") = false := by decide
        have hl1 : (s.heap.push { cls := .type "set", dict := none, data := .set #[] 0 (.fresh 0 0 led) }).IsList l items := ⟨_, hol', rfl, nl, rfl⟩
        unfold Builtin.«set.__init__» noKeywords Builtin.Frozenset.updateFrom
        generalize hit : pyIter = PI
        wp_walk
        subst hit
        refine wpAny_pyIter_list hl1 (wpAny_bind (wpAny_runValue ?_))
        have sz : (s.heap.push { cls := .type "set", dict := none, data := .set #[] 0 (.fresh 0 0 led) }).objs.size = S + 1 := by rw [Heap.size_push, hS0]
        rw [sz]
        have calm3 : A.in1.in1.in1.handled = none := by simp [calm]
        have out : S ∉ [S + 1, l] := by
          simp only [List.mem_cons, List.not_mem_nil, or_false, not_or]
          exact ⟨Nat.ne_of_lt (Nat.lt_succ_self _), Nat.ne_of_gt lS⟩
        have WW := (Walks.list (prog := prog) (w := w) calm3 (S + 1) l (Nat.ne_of_lt (Nat.lt_succ_of_lt lS)) items).toS
        rw [← len] at WW
        have it1 : ((s.heap.push { cls := .type "set", dict := none, data := .set #[] 0 (.fresh 0 0 led) }).push { cls := .type "list_iterator", data := .fields #[.ref l, .int 0 0] }).get? (S + 1) = some { cls := .type "list_iterator", data := .fields #[.ref l, .int 0 0] } := by
          rw [← sz]
          exact Heap.get?_push_size _ rfl
        refine fill_set WW out ok few ks.length 0 _ (by omega) ⟨⟨_, it1, rfl, rfl⟩, (hl1.push _)⟩ ?_ ?_
        · have g := Heap.get?_push_of_some { cls := .type "list_iterator", data := .fields #[.ref l, .int 0 0] } at_S
          exact Holds.cast ((PyProof.Rows.setObjOf_fresh (knd := knd) led).setOf g (by unfold scanBound; omega)) (fun _ => rfl) rfl
        · intro s5 mv hS5
          obtain ⟨h5, g5, d5, t5, o5⟩ := s5
          have e1 : g5 = s.gens := mv.gens
          have e2 : d5 = s.drawn := mv.drawn
          have e3 : o5 = s.os := mv.os
          subst e1 e2 e3
          show wpAny _ _ _ _ _ _
          refine wpAny_pure ?_
          show wpAny _ _ (ret Value.none) _ _ _
          refine wpAny_pure ⟨rfl, h5, t5, rfl, hS5, fun b o hb e => mv.heap b o ?_ (Heap.get?_push_of_some _ (Heap.get?_push_of_some _ e))⟩
          simp only [List.mem_cons, List.not_mem_nil, or_false, not_or]
          exact ⟨Nat.ne_of_lt hb, Nat.ne_of_lt (Nat.lt_succ_of_lt hb)⟩
      · cases r2 with
        | error e => exact hr2
        | ok fl2 =>
          cases fl2 with
          | ret r =>
            obtain ⟨rfl, h', tk, rfl, hS', k'⟩ := hr2
            repeat (any_goals (first | assumption | wp_step))
            exact fin _ _ hS' k'
          | _ => exact hr2.elim
    | _ => exact hr.elim
end
section
variable {X : Cx} {a : Expr} {ta : TE}
def tLenUniq (K : PySem.W.Frag) (ta : TE) : TE := fun σ H Q => ta σ H fun x H1 => ∃ (l : Addr) (xs : List Str), x = .ref l ∧ SqL K H1 l (xs.map V.str) ∧ xs.length ≤ 4000 ∧ Q (.int ((uniq xs).length : Nat)) H1
theorem pe_lenUniq {p p2 q pos : Pos} (hg : Gl X "len") (hm : X.mg "len" = none) (hg2 : Gl X "set") (hm2 : X.mg "set" = none) (ha : PE X a ta) (hc : X.calm = true)
    (na : starEach [a] X.env = (false, eval a X.env) :: starEach [] X.env) : PE X (.Call (.Name "len" p) [.Call (.Name "set" p2) [a] [] q] [] pos) (tLenUniq X.K ta) := by
  refine ⟨fun pins s σ H Q I h => ?_⟩
  refine Call_ (ld_blt I hg hm PySem.boot_len ?_)
  refine PyProof.Rows.callWith_builtin1 (PyProof.Rows.args_cons ?_ rfl) rfl rfl
  refine Call_ (ld_blt I hg2 hm2 PyProof.Rows.boot_set ?_)
  refine PyProof.Rows.callWith_type1 (PyProof.Rows.args_cons (thn (ha.run pins s σ H _ I h) fun v s1 ⟨x, H1, I1, r1, q1⟩ => PyProof.Rows.args_nil ?_) na) na rfl
  obtain ⟨l, xs, rfl, hq, few, q1⟩ := q1
  cases r1
  obtain ⟨its, r, pl, hz⟩ := I1.list hq
  have len : xs.length = its.toArray.size := by rw [List.size_toArray, ← r.length, List.length_map]
  refine set_call (knd := strKind X.prog X.w) (ks := xs) (I1.ok.hd hc) pl.isList len (fun i v e => ?_) (by unfold scanBound; omega) fun h' tk hS k => PyProof.Rows.args_nil ?_
  · rw [List.getElem?_toArray] at e
    have il : i < its.length := (List.getElem?_eq_some_iff.mp e).1
    have ix : i < xs.length := by
      rw [len, List.size_toArray]
      exact il
    have ex : (xs.map V.str)[i]? = some (.str xs[i]) := by rw [List.getElem?_map, List.getElem?_eq_getElem ix]; rfl
    obtain ⟨u, eu, ru⟩ := r.get ex
    rw [e] at eu
    cases eu
    obtain ⟨t, rfl⟩ := ru
    exact ⟨rfl, xs[i], List.getElem?_eq_getElem ix, by show Value.isStrOf xs[i] (.str xs[i] t) = true; simp [Value.isStrOf]⟩
  · have le := uniq_grows xs
    obtain ⟨o, es, ep, t, ho, hex, hd, _, _, _, hf, hn⟩ := hS
    have I2 : Inv X pins σ H1 { s1 with heap := h', toks := tk } := I1.kept fun b o e => k b o (Heap.lt_size e) e
    exact call_len_set ho hex hd hf (by rw [hn] <;> omega) ⟨.int (uniq xs).length, H1, I2.tok _, ⟨_, by rw [hn]⟩, q1⟩
end
end Dn

set_option Elab.async false
set_option linter.all false
set_option maxRecDepth 100000
namespace Dn
open PySem L2
open Rep (rep)
open ORep (orep)

section
variable {c : Ct} {env : List Slot} {e a b d : Expr} {es : List Expr} {α β γ : Type} [Rep α] [Rep β] [Rep γ]
def DeI (c : Ct) (env : List Slot) (es : List Expr) {α : Type} [Rep α] (m : Option (List α)) : Prop :=
  ∃ t, (∀ X, Fits c X → PA X es t) ∧ ∀ xs, m = some xs → ∀ (B H : Hp) (σ : St), Env c.K B H σ env → ∀ Q : List V → Hp → Prop, (∀ vs B' H', Grow B H B' H' → Reps c.K B' vs xs → Q vs H') → t σ H Q
theorem di_nil : DeI c env [] (some ([] : List α)) := ⟨tNil, fun _ _ => pa_nil, fun xs hx B H σ E Q q => by
  cases hx
  exact q [] B H (Grow.refl E.bh) .nil⟩
theorem di_cons {m : Option α} {n : Option (List α)} (h : De c env e m) (g : DeI c env es n) (hs : ∀ env, starEach (e :: es) env = (false, eval e env) :: starEach es env := by intro _; rfl) :
    DeI c env (e :: es) (m.bind fun x => n.bind fun xs => some (x :: xs)) := by
  obtain ⟨t, h1, h2⟩ := h
  obtain ⟨u, g1, g2⟩ := g
  refine ⟨_, fun X F => pa_cons (h1 X F) (g1 X F) (hs _), fun z hz B H σ E Q q => ?_⟩
  obtain ⟨x, ex, hz⟩ := bind_some hz
  obtain ⟨xs, exs, hz⟩ := bind_some hz
  cases hz
  exact h2 x ex B H σ E _ fun v B1 H1 k1 r1 => g2 xs exs B1 H1 σ (E.grow k1) _ fun vs B2 H2 k2 r2 => q (v :: vs) B2 H2 (k1.trans k2) (.cons (Rep.mono k2.b r1) r2)
def capL {α : Type} (xs : List α) : Option (List α) := if len1 xs.length = true then some xs else none
theorem capL_some {α : Type} {xs ys : List α} (h : capL xs = some ys) : ys = xs ∧ xs.length ≤ 100000 := by
  unfold capL at h
  split at h
  · rename_i g
    cases h
    exact ⟨rfl, of_decide_eq_true g⟩
  · cases h
theorem line_of {n : Nat} (h : n ≤ 100000) : n ≤ sizeLine := Nat.le_trans h (by decide)
theorem dn_lst {m : Option (List α)} {pos : Pos} (h : DeI c env es m) : DeN c env (.List es pos) (m.bind capL) := by
  obtain ⟨t, h1, h2⟩ := h
  refine ⟨_, fun X F => pe_lst (h1 X F), fun z hz B H σ E Q q => ?_⟩
  obtain ⟨x, ex, hz⟩ := bind_some hz
  obtain ⟨rfl, hl⟩ := capL_some hz
  exact h2 _ ex B H σ E _ fun vs B' H' g r => ⟨by rw [r.len]; exact line_of hl, fun p np => q p _ B' _ (g.none np) (g.trans (Grow.free g.bh np)) (g.bh.none np) upd_same ⟨vs, rfl, r⟩⟩
theorem de_tupH {m : Option (List α)} {pos : Pos} {x1} (h : DeI c env es m) : De c env (.Tuple es x1 pos) (m.bind fun xs => (capL xs).map Tup.mk) := by
  obtain ⟨t, h1, h2⟩ := h
  refine ⟨_, fun X F => pe_tup (h1 X F), fun z hz B H σ E Q q => ?_⟩
  obtain ⟨x, ex, hz⟩ := bind_some hz
  have hz' : ∃ y, capL x = some y ∧ z = Tup.mk y := by
    cases g : capL x with
    | none => rw [g] at hz; cases hz
    | some y =>
      rw [g] at hz
      cases hz
      exact ⟨y, rfl, rfl⟩
  obtain ⟨y, ey, rfl⟩ := hz'
  obtain ⟨rfl, hl⟩ := capL_some ey
  exact h2 _ ex B H σ E _ fun vs B' H' g r => ⟨by rw [r.len]; exact line_of hl, fun p np => q (.ref p) _ _ (g.trans (Grow.new g.bh np)) ⟨p, vs, rfl, SqT.of upd_same, r.mono (Le.put (g.bh.none np))⟩⟩
theorem de_pair {m : Option α} {n : Option β} {pos : Pos} {x1} (ha : De c env a m) (hb : De c env b n) (hs : ∀ env, starEach [a, b] env = (false, eval a env) :: starEach [b] env := by intro _; rfl) (hs2 : ∀ env, starEach [b] env = (false, eval b env) :: starEach [] env := by intro _; rfl) :
    De c env (.Tuple [a, b] x1 pos) (m.bind fun x => n.bind fun y => some (x, y)) := by
  obtain ⟨t, h1, h2⟩ := ha
  obtain ⟨u, g1, g2⟩ := hb
  refine ⟨_, fun X F => pe_tup (pa_cons (h1 X F) (pa_cons (g1 X F) pa_nil (hs2 _)) (hs _)), fun z hz B H σ E Q q => ?_⟩
  obtain ⟨x, ex, hz⟩ := bind_some hz
  obtain ⟨y, ey, hz⟩ := bind_some hz
  cases hz
  exact h2 x ex B H σ E _ fun v B1 H1 k1 r1 => g2 y ey B1 H1 σ (E.grow k1) _ fun w B2 H2 k2 r2 =>
    ⟨by show 2 ≤ sizeLine; decide, fun p np => q (.ref p) _ _ ((k1.trans k2).trans (Grow.new k2.bh np)) ⟨p, v, w, rfl, SqT.of upd_same, Rep.mono (k2.b.trans (Le.put (k2.bh.none np))) r1, Rep.mono (Le.put (k2.bh.none np)) r2⟩⟩
theorem Reps.at {K : PySem.W.Frag} {B : Hp} {vs : List V} {xs : List α} (h : Reps K B vs xs) {i : Int} {x : α} (e : atI xs i = some x) : ∃ v, atI vs i = some v ∧ rep K B v x := by
  unfold atI at e ⊢
  rw [h.len]
  obtain ⟨j, ej, e⟩ := bind_some e
  obtain ⟨v, ev, r⟩ := h.get' e
  exact ⟨v, by rw [ej]; exact ev, r⟩
theorem de_ixL {pos : Pos} {m : Option (List α)} {n : Option Int} (h : DeL c env a m) (g : De c env b n) (hs : PlainIx b := by exact fun _ _ => rfl) : De c env (.Subscript a b pos) (m.bind fun xs => n.bind fun i => atI xs i) := by
  obtain ⟨t, h1, h2⟩ := h
  obtain ⟨u, g1, g2⟩ := g
  refine ⟨tOp (rIxL c.K) t u, fun X F => pe_ix (by rw [← F.K]; exact ix_list) (h1 X F) (g1 X F) hs, fun z hz B H σ E Q q => ?_⟩
  obtain ⟨x, ex, hz⟩ := bind_some hz
  obtain ⟨i, ei, hz⟩ := bind_some hz
  refine h2 x ex B H σ E _ fun p vs B1 H1 k1 s r => g2 i ei B1 H1 σ (E.grow k1) _ fun w B2 H2 k2 r2 => ?_
  cases r2
  obtain ⟨v, ev, rv⟩ := r.at hz
  exact ⟨p, vs, i, v, rfl, rfl, k2.h.l s, ev, q v B2 H2 (k1.trans k2) (Rep.mono k2.b rv)⟩
theorem de_ixT {pos : Pos} {m : Option (Tup α)} {n : Option Int} (h : De c env a m) (g : De c env b n) (hs : PlainIx b := by exact fun _ _ => rfl) : De c env (.Subscript a b pos) (m.bind fun xs => n.bind fun i => atI xs.l i) := by
  obtain ⟨t, h1, h2⟩ := h
  obtain ⟨u, g1, g2⟩ := g
  refine ⟨tOp (rIxT c.K) t u, fun X F => pe_ix (by rw [← F.K]; exact ix_tup) (h1 X F) (g1 X F) hs, fun z hz B H σ E Q q => ?_⟩
  obtain ⟨x, ex, hz⟩ := bind_some hz
  obtain ⟨i, ei, hz⟩ := bind_some hz
  refine h2 x ex B H σ E _ fun y B1 H1 k1 r => g2 i ei B1 H1 σ (E.grow k1) _ fun w B2 H2 k2 r2 => ?_
  cases r2
  obtain ⟨p, vs, rfl, s, r⟩ := r
  obtain ⟨v, ev, rv⟩ := r.at hz
  exact ⟨p, vs, i, v, rfl, rfl, k2.bh.t (k2.b.t s), ev, q v B2 H2 (k1.trans k2) (Rep.mono k2.b rv)⟩
theorem de_fst {pos p2 : Pos} {k : Nat} {m : Option (α × β)} (h : De c env a m) : De c env (.Subscript a (.Constant (.int 0) k p2) pos) (m.map (·.1)) := by
  obtain ⟨t, h1, h2⟩ := h
  refine ⟨tOp (rIxT c.K) t (tC (.int 0)), fun X F => pe_ix (by rw [← F.K]; exact ix_tup) (h1 X F) pe_int (fun _ _ => rfl), fun z hz B H σ E Q q => ?_⟩
  cases m with
  | none => cases hz
  | some x =>
    cases hz
    refine h2 x rfl B H σ E _ fun y B1 H1 k1 r => ?_
    obtain ⟨p, v1, v2, rfl, s, r1, r2⟩ := r
    exact ⟨p, [v1, v2], 0, v1, rfl, rfl, k1.bh.t s, rfl, q v1 B1 H1 k1 r1⟩
theorem de_snd {pos p2 : Pos} {k : Nat} {m : Option (α × β)} (h : De c env a m) : De c env (.Subscript a (.Constant (.int 1) k p2) pos) (m.map (·.2)) := by
  obtain ⟨t, h1, h2⟩ := h
  refine ⟨tOp (rIxT c.K) t (tC (.int 1)), fun X F => pe_ix (by rw [← F.K]; exact ix_tup) (h1 X F) pe_int (fun _ _ => rfl), fun z hz B H σ E Q q => ?_⟩
  cases m with
  | none => cases hz
  | some x =>
    cases hz
    refine h2 x rfl B H σ E _ fun y B1 H1 k1 r => ?_
    obtain ⟨p, v1, v2, rfl, s, r1, r2⟩ := r
    exact ⟨p, [v1, v2], 1, v2, rfl, rfl, k1.bh.t s, rfl, q v2 B1 H1 k1 r2⟩
def atS (z : Str) (i : Int) : Option Str := if len1 z.length = true then (atI z.cps.toList i).map fun ch => ⟨#[ch]⟩ else none
theorem de_ixS {pos : Pos} {m : Option Str} {n : Option Int} (h : De c env a m) (g : De c env b n) (hs : PlainIx b := by exact fun _ _ => rfl) : De c env (.Subscript a b pos) (m.bind fun xs => n.bind fun i => atS xs i) := by
  obtain ⟨t, h1, h2⟩ := h
  obtain ⟨u, g1, g2⟩ := g
  refine ⟨tOp rIxS t u, fun X F => pe_ix ix_str (h1 X F) (g1 X F) hs, fun z hz B H σ E Q q => ?_⟩
  obtain ⟨x, ex, hz⟩ := bind_some hz
  obtain ⟨i, ei, hz⟩ := bind_some hz
  refine h2 x ex B H σ E _ fun y B1 H1 k1 r => g2 i ei B1 H1 σ (E.grow k1) _ fun w B2 H2 k2 r2 => ?_
  cases r2
  cases r
  unfold atS at hz
  split at hz
  · rename_i hl
    cases g : atI x.cps.toList i with
    | none => rw [g] at hz; cases hz
    | some ch =>
      rw [g] at hz
      cases hz
      exact ⟨x, i, ch, rfl, rfl, len1_ok hl, g, q _ B2 H2 (k1.trans k2) rfl⟩
  · cases hz
def DeO (c : Ct) (env : List Slot) (e : Option Expr) (m : Option (Option Int)) : Prop :=
  ∃ t, (∀ X, Fits c X → PO X e t) ∧ ∀ x, m = some x → ∀ (B H : Hp) (σ : St), Env c.K B H σ env → ∀ Q : Option Int → Hp → Prop, (∀ B' H', Grow B H B' H' → Q x H') → t σ H Q
theorem do_none : DeO c env none (some none) := ⟨_, fun _ _ => po_none, fun x hx B H σ E Q q => by cases hx; exact q B H (Grow.refl E.bh)⟩
theorem do_some {m : Option Int} (h : De c env e m) : DeO c env (some e) (m.map some) := by
  obtain ⟨t, h1, h2⟩ := h
  refine ⟨_, fun X F => po_some (h1 X F), fun x hx B H σ E Q q => ?_⟩
  cases m with
  | none => cases hx
  | some y =>
    cases hx
    exact h2 y rfl B H σ E _ fun v B' H' g r => by
      cases r
      exact ⟨y, rfl, q B' H' g⟩
def cutG {α : Type} (xs : List α) (lo hi : Option Int) : List α := (xs.drop (HT.sIx xs.length 0 lo)).take (HT.sIx xs.length xs.length hi - HT.sIx xs.length 0 lo)
theorem Reps.cut {K : PySem.W.Frag} {B : Hp} {vs : List V} {xs : List α} (h : Reps K B vs xs) (lo hi : Option Int) : Reps K B (cutV vs lo hi) (cutG xs lo hi) := by
  unfold cutV cutG
  rw [h.len]
  exact (h.drop _).take _
theorem dn_slL {pos p2 : Pos} {lo hi : Option Expr} {m : Option (List α)} {ml mh : Option (Option Int)} (h : DeL c env a m) (hl : DeO c env lo ml) (hh : DeO c env hi mh) :
    DeN c env (.Subscript a (.Slice lo hi none p2) pos) (m.bind fun xs => ml.bind fun l => mh.bind fun u => some (cutG xs l u)) := by
  obtain ⟨t, h1, h2⟩ := h
  obtain ⟨tl, l1, l2⟩ := hl
  obtain ⟨th, u1, u2⟩ := hh
  refine ⟨tSl (rSlL c.K) t tl th, fun X F => pe_slice (by rw [← F.K]; exact sl_list) (h1 X F) (l1 X F) (u1 X F), fun z hz B H σ E Q q => ?_⟩
  obtain ⟨x, ex, hz⟩ := bind_some hz
  obtain ⟨l, el, hz⟩ := bind_some hz
  obtain ⟨u, eu, hz⟩ := bind_some hz
  cases hz
  refine h2 x ex B H σ E _ fun p vs B1 H1 k1 s r => l2 l el B1 H1 σ (E.grow k1) _ fun B2 H2 k2 => u2 u eu B2 H2 σ (E.grow (k1.trans k2)) _ fun B3 H3 k3 => ?_
  refine ⟨p, vs, rfl, k3.h.l (k2.h.l s), fun n hn => ?_⟩
  have g := (k1.trans k2).trans k3
  exact q n _ B3 _ (g.none hn) (g.trans (Grow.free g.bh hn)) (g.bh.none hn) upd_same ⟨_, rfl, (r.mono (k2.b.trans k3.b)).cut l u⟩
theorem de_b1 {x : Str} {id : String} {p pos : Pos} {r : List V → Hp → VK → Prop} {f : α → Option β} {m : Option α} (hc : ∀ X, Fits c X → CallR X (.builtin id) r)
    (hr : ∀ (y : α) (z : β), f y = some z → ∀ (B H : Hp) (v : V), Le B H → rep c.K B v y → ∀ Q : VK, (∀ w B' H', Grow B H B' H' → rep c.K B' w z → Q w H') → r [v] H Q)
    (hg : Gv c x) (hm : c.mg x = none) (hv : bootBuiltins x = some (.builtin id)) (h : De c env a m) (hn : x ≠ "__name__") (hdb : (x == ("__debug__" : Str)) = false)
    (hs : ∀ env, starEach [a] env = (false, eval a env) :: starEach [] env) : De c env (.Call (.Name x p) [a] [] pos) (m.bind f) := by
  obtain ⟨t, h1, h2⟩ := h
  refine ⟨_, fun X F => pe_callB (hc X F) (fits_gl F hg) (by rw [F.mg]; exact hm) hv (pa_cons (h1 X F) pa_nil (hs _)) hn hdb (hs _) rfl, fun z hz B H σ E Q q => ?_⟩
  obtain ⟨y, ey, hz⟩ := bind_some hz
  exact h2 y ey B H σ E _ fun v B1 H1 k1 r1 => hr y z hz B1 H1 v k1.bh r1 Q fun w B2 H2 k2 r2 => q w B2 H2 (k1.trans k2) r2
theorem de_ty1 {x : Str} {T : String} {p pos : Pos} {r : List V → Hp → VK → Prop} {f : α → Option β} {m : Option α} (hc : ∀ X, Fits c X → CallR X (.type T) r)
    (hr : ∀ (y : α) (z : β), f y = some z → ∀ (B H : Hp) (v : V), Le B H → rep c.K B v y → ∀ Q : VK, (∀ w B' H', Grow B H B' H' → rep c.K B' w z → Q w H') → r [v] H Q)
    (hg : Gv c x) (hm : c.mg x = none) (hv : bootBuiltins x = some (.type T)) (h : De c env a m) (hn : x ≠ "__name__") (hdb : (x == ("__debug__" : Str)) = false)
    (hs : ∀ env, starEach [a] env = (false, eval a env) :: starEach [] env) : De c env (.Call (.Name x p) [a] [] pos) (m.bind f) := by
  obtain ⟨t, h1, h2⟩ := h
  refine ⟨_, fun X F => pe_callTy (hc X F) (fits_gl F hg) (by rw [F.mg]; exact hm) hv (pa_cons (h1 X F) pa_nil (hs _)) hn hdb (hs _) rfl, fun z hz B H σ E Q q => ?_⟩
  obtain ⟨y, ey, hz⟩ := bind_some hz
  exact h2 y ey B H σ E _ fun v B1 H1 k1 r1 => hr y z hz B1 H1 v k1.bh r1 Q fun w B2 H2 k2 r2 => q w B2 H2 (k1.trans k2) r2
theorem de_bL {x : Str} {id : String} {p pos : Pos} {r : List V → Hp → VK → Prop} {f : List α → Option β} {m : Option (List α)} (hc : ∀ X, Fits c X → CallR X (.builtin id) r)
    (hr : ∀ (y : List α) (z : β), f y = some z → ∀ (B H : Hp) (l : Addr) (vs : List V), Le B H → SqL c.K H l vs → Reps c.K B vs y → ∀ Q : VK, (∀ w B' H', Grow B H B' H' → rep c.K B' w z → Q w H') → r [.ref l] H Q)
    (hg : Gv c x) (hm : c.mg x = none) (hv : bootBuiltins x = some (.builtin id)) (h : DeL c env a m) (hn : x ≠ "__name__") (hdb : (x == ("__debug__" : Str)) = false)
    (hs : ∀ env, starEach [a] env = (false, eval a env) :: starEach [] env) : De c env (.Call (.Name x p) [a] [] pos) (m.bind f) := by
  obtain ⟨t, h1, h2⟩ := h
  refine ⟨_, fun X F => pe_callB (hc X F) (fits_gl F hg) (by rw [F.mg]; exact hm) hv (pa_cons (h1 X F) pa_nil (hs _)) hn hdb (hs _) rfl, fun z hz B H σ E Q q => ?_⟩
  obtain ⟨y, ey, hz⟩ := bind_some hz
  exact h2 y ey B H σ E _ fun l vs B1 H1 k1 s r1 => hr y z hz B1 H1 l vs k1.bh s r1 Q fun w B2 H2 k2 r2 => q w B2 H2 (k1.trans k2) r2
theorem de_lenL {p pos : Pos} {m : Option (List α)} (hm : c.mg "len" = none) (h : DeL c env a m) (hg : Gv c "len" := by rfl) (hs : ∀ env, starEach [a] env = (false, eval a env) :: starEach [] env := by intro _; rfl) :
    De c env (.Call (.Name "len" p) [a] [] pos) (m.bind fun xs => some (xs.length : Int)) :=
  de_bL (r := fun xs H Q => ∃ p ys, xs = [.ref p] ∧ (SqL c.K H p ys ∨ SqT c.K H p ys) ∧ Q (.int ys.length) H) (fun X F => by rw [← F.K]; exact call_len_seq)
    (fun y z hz B H l vs hB s r Q q => by
      cases hz
      refine ⟨l, vs, rfl, .inl s, ?_⟩
      rw [r.len]
      exact q _ B H (Grow.refl hB) rfl) hg hm PySem.boot_len h (by decide) (by decide) hs
theorem de_lenU {p pos : Pos} {m : Option (Tup α)} (hm : c.mg "len" = none) (h : De c env a m) (hg : Gv c "len" := by rfl) (hs : ∀ env, starEach [a] env = (false, eval a env) :: starEach [] env := by intro _; rfl) :
    De c env (.Call (.Name "len" p) [a] [] pos) (m.bind fun xs => some (xs.l.length : Int)) :=
  de_b1 (r := fun xs H Q => ∃ p ys, xs = [.ref p] ∧ (SqL c.K H p ys ∨ SqT c.K H p ys) ∧ Q (.int ys.length) H) (fun X F => by rw [← F.K]; exact call_len_seq)
    (fun y z hz B H v hB r Q q => by
      cases hz
      obtain ⟨l, vs, rfl, s, r⟩ := r
      refine ⟨l, vs, rfl, .inr (hB.t s), ?_⟩
      rw [r.len]
      exact q _ B H (Grow.refl hB) rfl) hg hm PySem.boot_len h (by decide) (by decide) hs
theorem de_lenS {p pos : Pos} {m : Option Str} (hm : c.mg "len" = none) (h : De c env a m) (hg : Gv c "len" := by rfl) (hs : ∀ env, starEach [a] env = (false, eval a env) :: starEach [] env := by intro _; rfl) :
    De c env (.Call (.Name "len" p) [a] [] pos) (m.bind fun z => if len1 z.length = true then some (z.length : Int) else none) :=
  de_b1 (fun X F => call_len_str)
    (fun y z hz B H v hB r Q q => by
      split at hz
      · rename_i hl
        cases hz
        cases r
        exact ⟨y, rfl, len1_ok hl, q _ B H (Grow.refl hB) rfl⟩
      · cases hz) hg hm PySem.boot_len h (by decide) (by decide) hs
theorem de_intI {p pos : Pos} {m : Option Int} (hm : c.mg "int" = none) (h : De c env a m) (hg : Gv c "int" := by rfl) (hs : ∀ env, starEach [a] env = (false, eval a env) :: starEach [] env := by intro _; rfl) :
    De c env (.Call (.Name "int" p) [a] [] pos) (m.bind fun i => some i) :=
  de_ty1 (fun X F => call_int1)
    (fun y z hz B H v hB r Q q => by
      cases hz
      cases r
      exact .inl ⟨y, rfl, q _ B H (Grow.refl hB) rfl⟩) hg hm (by decide +kernel) h (by decide) (by decide) hs
theorem de_intB {p pos : Pos} {m : Option Bool} (hm : c.mg "int" = none) (h : De c env a m) (hg : Gv c "int" := by rfl) (hs : ∀ env, starEach [a] env = (false, eval a env) :: starEach [] env := by intro _; rfl) :
    De c env (.Call (.Name "int" p) [a] [] pos) (m.bind fun k => some (if k then (1 : Int) else 0)) :=
  de_ty1 (fun X F => call_int1)
    (fun y z hz B H v hB r Q q => by
      cases hz
      cases r
      exact .inr ⟨y, rfl, q _ B H (Grow.refl hB) rfl⟩) hg hm (by decide +kernel) h (by decide) (by decide) hs
theorem reps_bl {K : PySem.W.Frag} {B : Hp} {vs : List V} {bs : List Bool} (h : Reps K B vs bs) : vs = bs.map V.bl := by
  induction h with
  | nil => rfl
  | cons r _ ih => rw [List.map_cons, ← ih]; cases r; rfl
theorem reps_str {K : PySem.W.Frag} {B : Hp} {vs : List V} {bs : List Str} (h : Reps K B vs bs) : vs = bs.map V.str := by
  induction h with
  | nil => rfl
  | cons r _ ih => rw [List.map_cons, ← ih]; cases r; rfl
theorem de_all {p pos : Pos} {m : Option (List Bool)} (hm : c.mg "all" = none) (h : DeL c env a m) (hg : Gv c "all" := by rfl) (hs : ∀ env, starEach [a] env = (false, eval a env) :: starEach [] env := by intro _; rfl) :
    De c env (.Call (.Name "all" p) [a] [] pos) (m.bind fun bs => some (bs.all id)) :=
  de_bL (r := rAll c.K) (fun X F => by rw [← F.K]; exact cr_all F.calm)
    (fun y z hz B H l vs hB s r Q q => by
      cases hz
      have e := reps_bl r
      subst e
      exact ⟨l, y, rfl, s, q _ B H (Grow.refl hB) rfl⟩) hg hm (by decide +kernel) h (by decide) (by decide) hs
theorem dn_list {p pos : Pos} {m : Option (List α)} (hm : c.mg "list" = none) (h : DeL c env a m) (hg : Gv c "list" := by rfl) (hs : ∀ env, starEach [a] env = (false, eval a env) :: starEach [] env := by intro _; rfl) :
    DeN c env (.Call (.Name "list" p) [a] [] pos) m := by
  obtain ⟨t, h1, h2⟩ := h
  refine ⟨tCB (fun xs H Q => ∃ p ys, xs = [.ref p] ∧ (SqL c.K H p ys ∨ SqT c.K H p ys) ∧ ∀ l, H l = none → Q (.ref l) (upd H l (.lst ys))) (tCons t tNil),
    fun X F => pe_callTy (by rw [← F.K]; exact call_list_of) (fits_gl F hg) (by rw [F.mg]; exact hm) (by decide +kernel) (pa_cons (h1 X F) pa_nil (hs _)) (by decide) (by decide) (hs _) rfl, fun z hz B H σ E Q q => ?_⟩
  exact h2 z hz B H σ E _ fun l vs B1 H1 k1 s r => ⟨l, vs, rfl, .inl s, fun n hn => q n _ B1 _ (k1.none hn) (k1.trans (Grow.free k1.bh hn)) (k1.bh.none hn) upd_same ⟨vs, rfl, r⟩⟩
theorem de_tupOf {p pos : Pos} {m : Option (List α)} (hm : c.mg "tuple" = none) (h : DeL c env a m) (hg : Gv c "tuple" := by rfl) (hs : ∀ env, starEach [a] env = (false, eval a env) :: starEach [] env := by intro _; rfl) :
    De c env (.Call (.Name "tuple" p) [a] [] pos) (m.map Tup.mk) := by
  obtain ⟨t, h1, h2⟩ := h
  refine ⟨tThen t (kTup c.K), fun X F => by rw [← F.K]; exact pe_tupleOf (fits_gl F hg) (by rw [F.mg]; exact hm) (h1 X F) (hs _), fun z hz B H σ E Q q => ?_⟩
  cases m with
  | none => cases hz
  | some x =>
    cases hz
    exact h2 x rfl B H σ E _ fun l vs B1 H1 k1 s r => .inl ⟨l, vs, rfl, s, fun n hn => q (.ref n) _ _ (k1.trans (Grow.new k1.bh hn)) ⟨n, vs, rfl, SqT.of upd_same, r.mono (Le.put (k1.bh.none hn))⟩⟩
theorem de_lenSet {p p2 q0 pos : Pos} {m : Option (List Str)} (hm : c.mg "len" = none) (hm2 : c.mg "set" = none) (h : DeL c env a m) (hg : Gv c "len" := by rfl) (hg2 : Gv c "set" := by rfl) (hs : ∀ env, starEach [a] env = (false, eval a env) :: starEach [] env := by intro _; rfl) :
    De c env (.Call (.Name "len" p) [.Call (.Name "set" p2) [a] [] q0] [] pos) (m.bind fun xs => if xs.length ≤ 4000 then some ((uniq xs).length : Int) else none) := by
  obtain ⟨t, h1, h2⟩ := h
  refine ⟨tLenUniq c.K t, fun X F => by rw [← F.K]; exact pe_lenUniq (fits_gl F hg) (by rw [F.mg]; exact hm) (fits_gl F hg2) (by rw [F.mg]; exact hm2) (h1 X F) F.calm (hs _), fun z hz B H σ E Q q => ?_⟩
  obtain ⟨y, ey, hz⟩ := bind_some hz
  split at hz
  · rename_i hl
    cases hz
    exact h2 y ey B H σ E _ fun l vs B1 H1 k1 s r => by
      have e := reps_str r
      subst e
      exact ⟨l, y, rfl, s, hl, q _ B1 H1 k1 rfl⟩
  · cases hz
end
end Dn

set_option Elab.async false
set_option linter.all false
set_option maxRecDepth 100000
namespace Dn
open PySem L2
open Rep (rep)
open ORep (orep)

def cE (c : Ct) (e : Expr) : TE := fun σ H Q => ∀ X, Fits c X → ∀ pins s, Inv X pins σ H s → wpAny (model X.prog X.w) X.A (eval e X.env) (EP X pins σ Q) X.xe s
theorem cE_pe {c : Ct} {e : Expr} : ∀ X, Fits c X → PE X e (cE c e) := fun X F => ⟨fun pins s σ H Q I h => h X F pins s I⟩
theorem cE_of {c : Ct} {e : Expr} {t : TE} (h : ∀ X, Fits c X → PE X e t) {σ : St} {H : Hp} {Q : VK} (q : t σ H Q) : cE c e σ H Q := fun X F pins s I => (h X F).run pins s σ H Q I q
def cT (c : Ct) (e : Expr) : TT := fun σ H Q => ∀ X, Fits c X → ∀ pins s, Inv X pins σ H s → wpAny (model X.prog X.w) X.A (isTrue e X.env (eval e X.env)) (TP X pins σ Q) X.xe s
theorem cT_pt {c : Ct} {e : Expr} : ∀ X, Fits c X → PT X e (cT c e) := fun X F => ⟨fun pins s σ H Q I h => h X F pins s I⟩
theorem cT_of {c : Ct} {e : Expr} {t : TT} (h : ∀ X, Fits c X → PT X e t) {σ : St} {H : Hp} {Q : Bool → Hp → Prop} (q : t σ H Q) : cT c e σ H Q := fun X F pins s I => (h X F).run pins s σ H Q I q
def cS (c : Ct) (b : List Stmt) : TS := fun D σ H => ∀ X, Fits c X → ∀ pins s, Inv X pins σ H s → wpAny (model X.prog X.w) X.A (execs b X.env) (SP X pins D) X.xe s
theorem cS_ps {c : Ct} {b : List Stmt} : ∀ X, Fits c X → PSs X b (cS c b) := fun X F => ⟨fun pins s σ H D I h => h X F pins s I⟩
theorem cS_of {c : Ct} {b : List Stmt} {t : TS} (h : ∀ X, Fits c X → PSs X b t) {D : Ends} {σ : St} {H : Hp} (q : t D σ H) : cS c b D σ H := fun X F pins s I => (h X F).run pins s σ H D I q

section
variable {c : Ct} {env : List Slot} {e a b d : Expr} {es : List Expr} {α β γ : Type} [Rep α] [Rep β] [Rep γ]
theorem De.can {m : Option α} (h : De c env e m) : ∀ x, m = some x → EvE c.K env (cE c e) x := fun x hx B H σ E Q q => by
  obtain ⟨t, h1, h2⟩ := h
  exact cE_of h1 (h2 x hx B H σ E Q q)
theorem DeT.can {m : Option Bool} (h : DeT c env e m) : ∀ x, m = some x → EvT c.K env (cT c e) x := fun x hx B H σ E Q q => by
  obtain ⟨t, h1, h2⟩ := h
  exact cT_of h1 (h2 x hx B H σ E Q q)

def DWalk (K : PySem.W.Frag) (B : Hp) (J : It) {α : Type} [Rep α] (xs : List α) : Prop :=
  ∃ (G : Hp → Prop) (Y : Nat → Hp → V → Hp → Prop), Walk J xs.length G Y ∧ (∀ H, Le B H → G H) ∧
    ∀ (i : Nat) (B1 H : Hp) (v : V) (H' : Hp), i < xs.length → Le B B1 → Le B1 H → Y i H v H' → ∃ B2 x, Grow B1 H B2 H' ∧ xs[i]? = some x ∧ rep K B2 v x
def DeIt (c : Ct) (env : List Slot) (e : Expr) {α : Type} [Rep α] (m : Option (List α)) : Prop :=
  ∃ wi, (∀ X, Fits c X → ∀ tg, PI X tg e wi) ∧ ∀ xs, m = some xs → ∀ (B H : Hp) (σ : St), Env c.K B H σ env → ∀ R : It → Hp → Prop, (∀ J B' H', Grow B H B' H' → DWalk c.K B' J xs → R J H') → wi σ H R
theorem di_list {m : Option (List α)} (h : De c env e m) : DeIt c env e m := by
  obtain ⟨t, h1, h2⟩ := h
  refine ⟨iList c.K t, fun X F tg => by rw [← F.K]; exact pi_list (h1 X F), fun xs hx B H σ E R q => ?_⟩
  refine h2 xs hx B H σ E _ fun v B1 H1 k1 r => ?_
  obtain ⟨p, vs, rfl, s, r⟩ := r
  refine ⟨p, rfl, ⟨vs, k1.bh.l s⟩, q _ B1 H1 k1 ⟨fun H => SqL c.K H p vs, YAt vs, by rw [← r.len]; exact walk_list, fun H l => l.l s, fun i B2 H v H' hi l1 l2 y => ?_⟩⟩
  obtain ⟨rfl, y⟩ := y
  obtain ⟨x, ex, rx⟩ := r.get y
  exact ⟨B2, x, Grow.refl l2, ex, Rep.mono l1 rx⟩
theorem di_tup {m : Option (Tup α)} (h : De c env e m) : DeIt c env e (m.map (·.l)) := by
  obtain ⟨t, h1, h2⟩ := h
  refine ⟨iTup c.K t, fun X F tg => by rw [← F.K]; exact pi_tup (h1 X F), fun xs hx B H σ E R q => ?_⟩
  cases m with
  | none => cases hx
  | some y =>
    cases hx
    refine h2 y rfl B H σ E _ fun v B1 H1 k1 r => ?_
    obtain ⟨p, vs, rfl, s, r⟩ := r
    refine ⟨p, rfl, ⟨vs, k1.bh.t s⟩, q _ B1 H1 k1 ⟨fun H => SqT c.K H p vs, YAt vs, by rw [← r.len]; exact walk_tup, fun H l => l.t s, fun i B2 H v H' hi l1 l2 y => ?_⟩⟩
    obtain ⟨rfl, y⟩ := y
    obtain ⟨x, ex, rx⟩ := r.get y
    exact ⟨B2, x, Grow.refl l2, ex, Rep.mono l1 rx⟩
def b62 (i : Int) : Bool := decide (-(2 ^ 62) ≤ i) && decide (i < 2 ^ 62)
def upto (lo : Int) (n : Nat) : List Int := (List.range n).map fun (i : Nat) => lo + (i : Int)
theorem upto_len (lo : Int) (n : Nat) : (upto lo n).length = n := by unfold upto; simp
theorem dwalk_range {K : PySem.W.Frag} {B : Hp} {lo : Int} {n : Nat} : DWalk K B (Itr lo n) (upto lo n) := by
  refine ⟨fun _ => True, _, by rw [upto_len]; exact walk_range, fun _ _ => trivial, fun i B1 H v H' hi l1 l2 y => ?_⟩
  obtain ⟨rfl, rfl⟩ := y
  rw [upto_len] at hi
  exact ⟨B1, lo + i, Grow.refl l2, by unfold upto; simp [hi], rfl⟩
def rangeI (j : Int) : Option (List Int) := if b62 j = true then some (upto 0 j.toNat) else none
theorem b62_of {i : Int} (h : b62 i = true) : -(2 ^ 62) ≤ i ∧ i < 2 ^ 62 := by
  unfold b62 at h
  simpa using h
theorem di_range {p pos : Pos} {m : Option Int} (hm : c.mg "range" = none) (h : De c env a m) (hg : Gv c "range" := by rfl) (hs : ∀ env, starEach [a] env = (false, eval a env) :: starEach [] env := by intro _; rfl) :
    DeIt c env (.Call (.Name "range" p) [a] [] pos) (m.bind rangeI) := by
  obtain ⟨t, h1, h2⟩ := h
  refine ⟨_, fun X F tg => pi_range1 (fits_gl F hg) (by rw [F.mg]; exact hm) (pa_cons (h1 X F) pa_nil (hs _)) (hs _), fun xs hx B H σ E R q => ?_⟩
  obtain ⟨j, ej, hx⟩ := bind_some hx
  unfold rangeI at hx
  split at hx
  · rename_i hb
    cases hx
    refine h2 j ej B H σ E _ fun v B1 H1 k1 r => ?_
    cases r
    exact ⟨j, rfl, (b62_of hb).1, (b62_of hb).2, q _ B1 H1 k1 dwalk_range⟩
  · cases hx
def signs (z : Str) : List Str := z.cps.toList.map fun ch => (⟨#[ch]⟩ : Str)
theorem di_str {m : Option Str} (h : De c env e m) : DeIt c env e (m.map signs) := by
  obtain ⟨t, h1, h2⟩ := h
  refine ⟨_, fun X F tg => pi_str (h1 X F), fun xs hx B H σ E R q => ?_⟩
  cases m with
  | none => cases hx
  | some y =>
    cases hx
    refine h2 y rfl B H σ E _ fun v B1 H1 k1 r => ?_
    cases r
    refine ⟨y, rfl, q _ B1 H1 k1 ⟨fun _ => True, _, by rw [show (signs y).length = y.cps.size by unfold signs; simp]; exact walk_str, fun _ _ => trivial, fun i B2 H v H' hi l1 l2 yy => ?_⟩⟩
    obtain ⟨rfl, ch, e1, rfl⟩ := yy
    refine ⟨B2, ⟨#[ch]⟩, Grow.refl l2, ?_, rfl⟩
    unfold signs
    rw [List.getElem?_map, Array.getElem?_toList, e1]
    rfl
theorem Env.setV {K : PySem.W.Frag} {B H : Hp} {σ : St} {env : List Slot} (E : Env K B H σ env) (i : Nat) {v : V} {x : α} (r : rep K B v x) : Env K B H (σ.set i (some v)) (env.set i (.val x)) := by
  refine ⟨E.bh, by rw [List.length_set, List.length_set]; exact E.len, fun j s h => ?_, fun j k s t h1 h2 o1 o2 e => ?_⟩
  · by_cases q : i = j
    · subst q
      by_cases hl : i < env.length
      · rw [List.getElem?_set_self hl] at h
        cases h
        rw [List.getElem?_set_self (by rw [E.len]; exact hl)]
        exact ⟨v, rfl, r⟩
      · rw [List.getElem?_eq_none (by rw [List.length_set]; omega)] at h
        cases h
    · rw [List.getElem?_set_ne q] at h ⊢
      exact E.at_ j s h
  · have n1 : i ≠ j := fun q => by
      subst q
      by_cases hl : i < env.length
      · rw [List.getElem?_set_self hl] at h1
        cases h1
        cases o1
      · rw [List.getElem?_eq_none (by rw [List.length_set]; omega)] at h1
        cases h1
    have n2 : i ≠ k := fun q => by
      subst q
      by_cases hl : i < env.length
      · rw [List.getElem?_set_self hl] at h2
        cases h2
        cases o2
      · rw [List.getElem?_eq_none (by rw [List.length_set]; omega)] at h2
        cases h2
    rw [List.getElem?_set_ne n1] at h1
    rw [List.getElem?_set_ne n2] at h2
    rw [List.getElem?_set_ne n1, List.getElem?_set_ne n2] at e
    exact E.ap j k s t h1 h2 o1 o2 e
structure TgS (K : PySem.W.Frag) (g : TG) {α : Type} [Rep α] (f : α → List Slot → List Slot) (is : List Nat) : Prop where
  run : ∀ (x : α) (env : List Slot) (B H : Hp) (σ : St) (v : V), Env K B H σ env → rep K B v x → ∀ Q : St → Hp → Prop, (∀ σ', Env K B H σ' (f x env) → σ'.length = σ.length → (∀ i, i ∉ is → σ'[i]? = σ[i]? ∧ (f x env)[i]? = env[i]?) → (∀ i s, i ∈ is → (f x env)[i]? = some s → isOwn s = false ∧ isDeep s = false) → Q σ' H) → g v σ H Q
def DeTg (c : Ct) (tg : Expr) {α : Type} [Rep α] (f : α → List Slot → List Slot) (is : List Nat) : Prop := ∃ g, (∀ X, Fits c X → PG X tg g) ∧ TgS c.K g f is
theorem dg_name (i : Nat) {x : Str} {pos : Pos} (nd : c.N.Nodup) (hN : c.N[i]? = some x) (hx : Loc c.sc x) (hf : c.fn x = true ∨ c.sc.names.lookup x = some .local) : DeTg c (.Name x pos) (fun (x : α) env => env.set i (.val x)) [i] := by
  refine ⟨gName i, fun X F => pg_name (by rw [F.N]; exact nd) (fits_ix F hN) (fits_loc F hx) (by rw [F.fn, F.sc]; exact hf), ⟨fun x env B H σ v E r Q q => ?_⟩⟩
  refine q _ (E.setV i r) (List.length_set ..) (fun j hj => ?_) fun j s hj hs => ?_
  · have n : i ≠ j := fun z => hj (by rw [z]; exact List.mem_singleton_self _)
    exact ⟨List.getElem?_set_ne n, List.getElem?_set_ne n⟩
  · have e : j = i := by simpa using hj
    subst e
    by_cases hl : j < env.length
    · rw [List.getElem?_set_self hl] at hs
      cases hs
      exact ⟨rfl, rfl⟩
    · rw [List.getElem?_eq_none (by rw [List.length_set]; omega)] at hs
      cases hs
theorem dg_pair {t1 t2 : Expr} {pos : Pos} {k : Nat} {f : α → List Slot → List Slot} {g : β → List Slot → List Slot} {is js : List Nat} (h : DeTg c t1 f is) (h' : DeTg c t2 g js)
    (hs : ∀ env, (assignEach [t1, t2] env).map (·.2) = assign t1 env :: (assignEach [t2] env).map (·.2) := by intro _; rfl) (hs2 : ∀ env, (assignEach [t2] env).map (·.2) = assign t2 env :: (assignEach [] env).map (·.2) := by intro _; rfl)
    (hn : ∀ env, (assignEach [t1, t2] env).length = 2 := by intro _; rfl) (hst : ∀ env, (assignEach [t1, t2] env).findIdx? (·.1) = none := by intro _; rfl) :
    DeTg c (.Tuple [t1, t2] k pos) (fun (x : α × β) env => g x.2 (f x.1 env)) (is ++ js) := by
  obtain ⟨u, h1, h2⟩ := h
  obtain ⟨w, g1, g2⟩ := h'
  refine ⟨gTup c.K 2 (gCons u (gCons w gNil)), fun X F => by rw [← F.K]; exact pg_tup F.calm (pgs_cons (h1 X F) (pgs_cons (g1 X F) pgs_nil (hs2 _)) (hs _)) (hn _) (hst _), ⟨fun x env B H σ v E r Q q => ?_⟩⟩
  obtain ⟨p, v1, v2, rfl, s, r1, r2⟩ := r
  refine ⟨p, [v1, v2], rfl, E.bh.t s, rfl, v1, [v2], rfl, ?_⟩
  refine h2.run x.1 env B H σ v1 E r1 _ fun σ1 E1 l1 k1 o1 => ⟨v2, [], rfl, ?_⟩
  refine g2.run x.2 _ B H σ1 v2 E1 r2 _ fun σ2 E2 l2 k2 o2 => ⟨rfl, q σ2 E2 (l2.trans l1) (fun i hi => ?_) fun i s hi hs => ?_⟩
  · have n1 : i ∉ is := fun z => hi (List.mem_append_left _ z)
    have n2 : i ∉ js := fun z => hi (List.mem_append_right _ z)
    exact ⟨(k2 i n2).1.trans (k1 i n1).1, (k2 i n2).2.trans (k1 i n1).2⟩
  · by_cases z : i ∈ js
    · exact o2 i s z hs
    · rw [(k2 i z).2] at hs
      exact o1 i s ((List.mem_append.mp hi).resolve_right z) hs
end
end Dn

set_option Elab.async false
set_option linter.all false
set_option maxRecDepth 100000
namespace Dn
open PySem L2
open Rep (rep)
open ORep (orep)

def wipeE (env : List Slot) : List Nat → List Slot
  | [] => env
  | v :: vs => (wipeE env vs).set v .any
theorem wipe_get (σ : St) : ∀ (vs : List Nat) (i : Nat), (wipe σ vs)[i]? = if i ∈ vs then σ[i]?.map fun _ => none else σ[i]?
  | [], i => by simp [wipe]
  | v :: vs, i => by
    unfold wipe
    by_cases h : v = i
    · subst h
      rw [if_pos (List.mem_cons_self ..)]
      by_cases hl : v < σ.length
      · rw [List.getElem?_set_self (by rw [wipe_length]; exact hl), List.getElem?_eq_getElem hl]
        rfl
      · rw [List.getElem?_eq_none (by rw [List.length_set, wipe_length]; omega), List.getElem?_eq_none (by omega)]
        rfl
    · rw [List.getElem?_set_ne h, wipe_get σ vs i]
      by_cases q : i ∈ vs
      · rw [if_pos q, if_pos (List.mem_cons_of_mem _ q)]
      · rw [if_neg q, if_neg fun z => (List.mem_cons.mp z).elim (fun k => h k.symm) q]
theorem wipeE_len (env : List Slot) : ∀ vs : List Nat, (wipeE env vs).length = env.length
  | [] => rfl
  | v :: vs => by unfold wipeE; rw [List.length_set, wipeE_len env vs]
theorem wipeE_get {env : List Slot} : ∀ {vs : List Nat} {i : Nat} {s : Slot}, (wipeE env vs)[i]? = some s → s = .any ∨ (i ∉ vs ∧ env[i]? = some s)
  | [], i, s, h => .inr ⟨by simp, h⟩
  | v :: vs, i, s, h => by
    unfold wipeE at h
    by_cases q : v = i
    · subst q
      by_cases hl : v < (wipeE env vs).length
      · rw [List.getElem?_set_self hl] at h
        cases h
        exact .inl rfl
      · rw [List.getElem?_eq_none (by rw [List.length_set]; omega)] at h
        cases h
    · rw [List.getElem?_set_ne q] at h
      rcases wipeE_get h with e | ⟨e1, e2⟩
      · exact .inl e
      · exact .inr ⟨by rw [List.mem_cons]; exact fun z => z.elim (fun z => q z.symm) e1, e2⟩
theorem Env.wipe {K : PySem.W.Frag} {B H : Hp} {σ : St} {env : List Slot} (E : Env K B H σ env) (vs : List Nat) : Env K B H (wipe σ vs) (wipeE env vs) := by
  have key : ∀ (i : Nat) (s : Slot), (wipeE env vs)[i]? = some s → isOwn s = true → (L2.wipe σ vs)[i]? = σ[i]? ∧ env[i]? = some s := fun i s h o => by
    rcases wipeE_get h with rfl | ⟨h1, h2⟩
    · cases o
    · rw [wipe_get, if_neg h1]
      exact ⟨rfl, h2⟩
  refine ⟨E.bh, by rw [wipe_length, wipeE_len]; exact E.len, fun i s h => ?_, fun i j s t h1 h2 o1 o2 e => ?_⟩
  · rcases wipeE_get h with rfl | ⟨h1, h2⟩
    · trivial
    · rw [wipe_get, if_neg h1]
      exact E.at_ i s h2
  · obtain ⟨a1, a2⟩ := key i s h1 o1
    obtain ⟨b1, b2⟩ := key j t h2 o2
    rw [a1, b1] at e
    exact E.ap i j s t a2 b2 o1 o2 e
theorem wipe_same {σ σ' : St} {vs is : List Nat} (h : σ'.length = σ.length) (k : ∀ i, i ∉ is → σ'[i]? = (wipe σ vs)[i]?) (sub : ∀ i ∈ is, i ∈ vs) : wipe σ' vs = wipe σ vs := by
  refine List.ext_getElem? fun i => ?_
  rw [wipe_get, wipe_get]
  by_cases q : i ∈ vs
  · rw [if_pos q, if_pos q]
    by_cases hl : i < σ.length
    · rw [List.getElem?_eq_getElem hl, List.getElem?_eq_getElem (by rw [h]; exact hl)]
      rfl
    · rw [List.getElem?_eq_none (by omega), List.getElem?_eq_none (by omega)]
  · rw [if_neg q, if_neg q]
    have e := k i fun z => q (sub i z)
    rw [wipe_get, if_neg q] at e
    exact e
section
variable {α γ : Type}
def compO (h : α → Option (Option γ)) : List α → Option (List γ)
  | [] => some []
  | x :: xs => (h x).bind fun o => (compO h xs).bind fun ys => some (match o with | none => ys | some y => y :: ys)
theorem compO_snoc (h : α → Option (Option γ)) (x : α) : ∀ xs : List α, compO h (xs ++ [x]) = (compO h xs).bind fun ys => (h x).bind fun o => some (match o with | none => ys | some y => ys ++ [y])
  | [] => by
    show (h x).bind _ = (h x).bind _
    cases h x with
    | none => rfl
    | some o => cases o <;> rfl
  | z :: zs => by
    show (h z).bind _ = ((h z).bind _).bind _
    cases h z with
    | none => rfl
    | some o =>
      show (compO h (zs ++ [x])).bind _ = ((compO h zs).bind _).bind _
      rw [compO_snoc h x zs]
      cases compO h zs with
      | none => rfl
      | some ys =>
        show ((h x).bind _).bind _ = (h x).bind _
        cases h x with
        | none => rfl
        | some o' => cases o <;> cases o' <;> rfl
theorem compO_len {h : α → Option (Option γ)} : ∀ {xs : List α} {ys : List γ}, compO h xs = some ys → ys.length ≤ xs.length
  | [], ys, e => by cases e; exact Nat.le_refl _
  | x :: xs, ys, e => by
    obtain ⟨o, _, e⟩ := bind_some e
    obtain ⟨zs, e1, e⟩ := bind_some e
    have ih := compO_len e1
    cases o with
    | none => cases e; exact Nat.le_succ_of_le ih
    | some y => cases e; exact Nat.succ_le_succ ih
theorem compO_take {h : α → Option (Option γ)} {xs : List α} {ys : List γ} (e : compO h xs = some ys) : ∀ i, ∃ zs, compO h (xs.take i) = some zs := by
  intro i
  induction xs generalizing ys i with
  | nil => exact ⟨[], by simp [compO]⟩
  | cons x xs ih =>
    cases i with
    | zero => exact ⟨[], rfl⟩
    | succ i =>
      obtain ⟨o, e1, e⟩ := bind_some e
      obtain ⟨ws, e2, e⟩ := bind_some e
      obtain ⟨zs, ez⟩ := ih e2 i
      show ∃ zs, (h x).bind _ = some zs
      rw [e1]
      show ∃ zs, (compO h (xs.take i)).bind _ = some zs
      rw [ez]
      exact ⟨_, rfl⟩
def mapO (h : α → Option γ) : List α → Option (List γ)
  | [] => some []
  | x :: xs => (h x).bind fun y => (mapO h xs).bind fun ys => some (y :: ys)
theorem mapO_comp (h : α → Option γ) : ∀ xs : List α, compO (fun x => (h x).map some) xs = mapO h xs
  | [] => rfl
  | x :: xs => by
    show ((h x).map some).bind _ = (h x).bind _
    cases h x with
    | none => rfl
    | some y =>
      show (compO _ xs).bind _ = (mapO h xs).bind _
      rw [mapO_comp h xs]
end
section
variable {c : Ct} {env : List Slot} {e a b d elt iter tg : Expr} {es : List Expr} {α β γ : Type} [Rep α] [Rep β] [Rep γ]
theorem ev_comp {K : PySem.W.Frag} {wi : TI} {g : TG} {tt : TT} {te : TE} {vs is : List Nat} {f : α → List Slot → List Slot} {xs : List α} {ys : List γ} {h : α → Option (Option γ)}
    (hi : ∀ (B H : Hp) (σ : St), Env K B H σ env → ∀ R : It → Hp → Prop, (∀ J B' H', Grow B H B' H' → DWalk K B' J xs → R J H') → wi σ H R) (hg : TgS K g f is) (sub : ∀ i ∈ is, i ∈ vs)
    (ht : ∀ x o, h x = some o → EvT K (f x (wipeE env vs)) tt o.isSome) (he : ∀ x y, h x = some (some y) → EvE K (f x (wipeE env vs)) te y) (hl : xs.length ≤ 100000) (hz : compO h xs = some ys) :
    EvN K env (tLc wi g tt te vs) ys := by
  intro B H σ E Q q
  refine hi B H σ E _ fun J B1 H1 k1 ⟨G, Y, W, hG, hY⟩ D hD => ?_
  have nB1 : B1 D = none := k1.bh.none hD
  have E1 := (E.grow k1).wipe vs
  refine lc_it W (fun i H2 => ∃ B2 acc zs, Grow B1 H1 B2 H2 ∧ B2 D = none ∧ H2 D = some (.lst acc) ∧ compO h (xs.take i) = some zs ∧ Reps K B2 acc zs)
    ⟨B1, [], [], Grow.free k1.bh hD, nB1, upd_same, rfl, .nil⟩ (fun i H2 _ ⟨B2, acc, zs, g2, _⟩ => hG H2 (g2.b.trans g2.bh)) (fun i v H2 H3 hi ⟨B2, acc, zs, g2, n2, eD, ez, r⟩ y => ?_) fun H2 ⟨B2, acc, zs, g2, n2, eD, ez, r⟩ => ?_
  · obtain ⟨B3, x, g3, ex, rx⟩ := hY i B2 H2 v H3 hi g2.b g2.bh y
    have eD3 := g3.h D _ eD
    have n3 : B3 D = none := g3.f D n2 (by rw [eD]; exact fun z => nomatch z)
    have tk : xs.take (i + 1) = xs.take i ++ [x] := by rw [List.take_add_one, ex]; rfl
    obtain ⟨zs', ez'⟩ := compO_take hz (i + 1)
    rw [tk, compO_snoc, ez] at ez'
    obtain ⟨o, eo, ez'⟩ := bind_some (m := h x) ez'
    have g13 := g2.trans g3
    refine hg.run x _ B3 H3 _ v (E1.grow g13) rx _ fun σ' E' l' k' o' => ⟨wipe_same (l'.trans (wipe_length ..)) (fun i hi => (k' i hi).1) sub, ?_⟩
    refine ht x o eo B3 H3 σ' E' _ fun B4 H4 g4 => ?_
    have eD4 := g4.h D _ eD3
    have n4 : B4 D = none := g4.f D n3 (by rw [eD3]; exact fun z => nomatch z)
    cases o with
    | none =>
      show ∃ _ _ _, _
      cases ez'
      refine ⟨B4, acc, zs, g13.trans g4, n4, eD4, ?_, r.mono (g3.b.trans g4.b)⟩
      rw [tk, compO_snoc, ez]
      show (h x).bind _ = _
      rw [eo]
      rfl
    | some y0 =>
      refine iteT (he x y0 eo B4 H4 σ' (E'.grow g4) _ fun w B5 H5 g5 rw5 => ?_)
      have eD5 := g5.h D _ eD4
      have n5 : B5 D = none := g5.f D n4 (by rw [eD4]; exact fun z => nomatch z)
      have la : acc.length < 100001 := by
        rw [r.len]
        have := compO_len ez
        rw [List.length_take] at this
        omega
      refine ⟨acc, eD5, Nat.lt_of_lt_of_le la (by decide), B5, acc ++ [w], zs ++ [y0], ?_, n5, upd_same, ?_, (r.mono ((g3.b.trans g4.b).trans g5.b)).append (.cons rw5 .nil)⟩
      · have g := (g13.trans g4).trans g5
        refine ⟨g.b, fun a u z => ?_, fun a u z => ?_, g.f⟩
        · rw [upd_ne (fun k => by rw [k, n5] at z; cases z)]
          exact g.bh a u z
        · rw [upd_ne (fun k => by rw [k, hD] at z; cases z)]
          exact g.h a u z
      · rw [tk, compO_snoc, ez]
        show (h x).bind _ = _
        rw [eo]
        rfl
  · rw [List.take_length, hz] at ez
    cases ez
    exact q D _ B2 H2 (k1.none hD) (k1.trans g2) n2 eD ⟨acc, rfl, r⟩
def capI {α : Type} (xs : List α) : Option (List α) := if len1 xs.length = true then some xs else none
theorem dn_comp {scope : Scope} {own : List (Str × Nat)} {pos : Pos} {is : List Nat} {f : α → List Slot → List Slot} {m : Option (List α)} {h : α → Option γ} (nd : c.N.Nodup) (hi : DeIt c env iter m) (ok : BlkOk c.N c.sc scope own) (hg : DeTg (c.blk scope) tg f is) (sub : ∀ i ∈ is, i ∈ own.map (·.2))
    (he : ∀ x, De (c.blk scope) (f x (wipeE env (own.map (·.2)))) elt (h x)) (hs : ∀ env x, foldedSetIterable iter env x = pure x := by intro _ _; rfl) :
    DeN c env (.ListComp elt [⟨tg, iter, [], 0⟩] scope pos) (m.bind fun xs => (capI xs).bind fun xs => mapO h xs) := by
  obtain ⟨wi, i1, i2⟩ := hi
  obtain ⟨g, g1, g2⟩ := hg
  refine ⟨_, fun X F => pe_lc F.calm (by rw [F.N]; exact nd) (i1 X F tg) (by rw [F.N, F.sc]; exact ok) (fun s H C cl fp => g1 _ (F.blk s H scope C cl fp)) (fun s H C cl fp => pts_nil) (fun s H C cl fp => cE_pe _ (F.blk s H scope C cl fp)) (hs _), fun z hz => ?_⟩
  obtain ⟨xs, ex, hz⟩ := bind_some hz
  obtain ⟨xs', hc, hz⟩ := bind_some hz
  unfold capI at hc
  split at hc
  · rename_i hl
    cases hc
    rw [← mapO_comp] at hz
    refine ev_comp (i2 xs ex) g2 sub (fun x o eo B H σ E Q q => ?_) (fun x y ey => (he x).can y ?_) (of_decide_eq_true hl) hz
    · cases o with
      | none =>
        cases g : h x with
        | none => rw [g] at eo; cases eo
        | some y => rw [g] at eo; cases eo
      | some y => exact q B H (Grow.refl E.bh)
    · cases g : h x with
      | none => rw [g] at ey; cases ey
      | some y' => rw [g] at ey; cases ey; rfl
  · cases hc
theorem dn_compIf {t : Expr} {scope : Scope} {own : List (Str × Nat)} {pos : Pos} {is : List Nat} {f : α → List Slot → List Slot} {m : Option (List α)} {p : α → Option Bool} {h : α → Option γ} (nd : c.N.Nodup) (hi : DeIt c env iter m) (ok : BlkOk c.N c.sc scope own) (hg : DeTg (c.blk scope) tg f is) (sub : ∀ i ∈ is, i ∈ own.map (·.2))
    (ht : ∀ x, DeT (c.blk scope) (f x (wipeE env (own.map (·.2)))) t (p x)) (he : ∀ x, De (c.blk scope) (f x (wipeE env (own.map (·.2)))) elt (h x)) (hs : ∀ env x, foldedSetIterable iter env x = pure x := by intro _ _; rfl) :
    DeN c env (.ListComp elt [⟨tg, iter, [t], 0⟩] scope pos) (m.bind fun xs => (capI xs).bind fun xs => compO (fun x => (p x).bind fun k => if k = true then (h x).map some else some none) xs) := by
  obtain ⟨wi, i1, i2⟩ := hi
  obtain ⟨g, g1, g2⟩ := hg
  refine ⟨_, fun X F => pe_lc F.calm (by rw [F.N]; exact nd) (i1 X F tg) (by rw [F.N, F.sc]; exact ok) (fun s H C cl fp => g1 _ (F.blk s H scope C cl fp)) (fun s H C cl fp => pts_one (cT_pt _ (F.blk s H scope C cl fp))) (fun s H C cl fp => cE_pe _ (F.blk s H scope C cl fp)) (hs _), fun z hz => ?_⟩
  obtain ⟨xs, ex, hz⟩ := bind_some hz
  obtain ⟨xs', hc, hz⟩ := bind_some hz
  unfold capI at hc
  split at hc
  · rename_i hl
    cases hc
    refine ev_comp (i2 xs ex) g2 sub (fun x o eo => (ht x).can _ ?_) (fun x y ey => (he x).can y ?_) (of_decide_eq_true hl) hz
    · obtain ⟨k, ek, eo⟩ := bind_some eo
      rw [ek]
      cases k with
      | false => cases eo; rfl
      | true =>
        have eo : (h x).map some = some o := eo
        cases g : h x with
        | none => rw [g] at eo; cases eo
        | some y => rw [g] at eo; cases eo; rfl
    · obtain ⟨k, ek, ey⟩ := bind_some ey
      cases k with
      | false => cases ey
      | true =>
        have ey : (h x).map some = some (some y) := ey
        cases g : h x with
        | none => rw [g] at ey; cases ey
        | some y' => rw [g] at ey; cases ey; rfl
  · cases hc
end
end Dn

set_option Elab.async false
set_option linter.all false
set_option maxRecDepth 100000
namespace Dn
open PySem L2
open Rep (rep)
open ORep (orep)

inductive Fl (S L R : Type) where
  | err | nx (s : S) | rt (r : R) | bk (s : L) | ct (s : L)
namespace Fl
variable {S T L M R α : Type}
def bindO (m : Option α) (k : α → Fl S L R) : Fl S L R := match m with
  | none => .err
  | some x => k x
def bind (m : Fl T L R) (k : T → Fl S L R) : Fl S L R := match m with
  | .err => .err
  | .nx s => k s
  | .rt r => .rt r
  | .bk s => .bk s
  | .ct s => .ct s
def loop (f : α → S → Fl S S R) : List α → S → Fl S L R
  | [], s => .nx s
  | x :: xs, s => match f x s with
    | .err => .err
    | .nx s' => loop f xs s'
    | .ct s' => loop f xs s'
    | .bk s' => .nx s'
    | .rt r => .rt r
def fin (en : Option R) (m : Fl S L R) : Option R := match m with
  | .rt r => some r
  | .nx _ => en
  | _ => none
end Fl

section
def DeepOk (K : PySem.W.Frag) (H0 B H : Hp) (σ : St) (env : List Slot) (i : Nat) (ψ : PySem.W.Frag → Hp → Hp → Addr → List Addr → Prop) : Prop :=
  ∃ a cs, σ[i]? = some (some (.ref a)) ∧ (∀ c ∈ cs, ¬ H c = none ∧ B c = none ∧ H0 c = none) ∧ (∀ (j : Nat) (s : Slot) (c : Addr), env[j]? = some s → isOwn s = true → σ[j]? = some (some (.ref c)) → c ∉ cs) ∧ ψ K B H a cs
structure StOk (K : PySem.W.Frag) (B0 H0 B H : Hp) (σ : St) (env : List Slot) : Prop where
  en : Env K B H σ env
  g : Grow B0 H0 B H
  nw : ∀ (i : Nat) (s : Slot) (a : Addr), env[i]? = some s → isOwn s = true → σ[i]? = some (some (.ref a)) → H0 a = none
  rd : ∀ (i : Nat) ψ hm, env[i]? = some (.deep ψ hm) → DeepOk K H0 B H σ env i ψ
variable {K : PySem.W.Frag} {B0 H0 B H B' H' : Hp} {σ : St} {env env' : List Slot} {α β γ : Type} [Rep α] [Rep β] [Rep γ]
theorem DeepOk.grow {ψ : PySem.W.Frag → Hp → Hp → Addr → List Addr → Prop} (hm : ∀ K B B' H H' a cs, Le B B' → (∀ c ∈ cs, H' c = H c) → ψ K B H a cs → ψ K B' H' a cs) {i : Nat} (h : DeepOk K H0 B H σ env i ψ) (g : Grow B H B' H') : DeepOk K H0 B' H' σ env i ψ := by
  obtain ⟨a, cs, e1, e2, e3, e4⟩ := h
  have same : ∀ c ∈ cs, H' c = H c := fun c hc => by
    cases z : H c with
    | none => exact absurd z (e2 c hc).1
    | some o => exact g.h c o z
  exact ⟨a, cs, e1, fun c hc => ⟨by rw [same c hc]; exact (e2 c hc).1, g.f c (e2 c hc).2.1 (e2 c hc).1, (e2 c hc).2.2⟩, e3, hm _ _ _ _ _ _ _ g.b same e4⟩
theorem StOk.grow (S : StOk K B0 H0 B H σ env) (g : Grow B H B' H') : StOk K B0 H0 B' H' σ env := ⟨S.en.grow g, S.g.trans g, S.nw, fun i ψ hm h => (S.rd i ψ hm h).grow hm g⟩
theorem DeepOk.growPut {ψ : PySem.W.Frag → Hp → Hp → Addr → List Addr → Prop} {q : Addr} {o : HO} (hm : ∀ K B B' H H' a cs, Le B B' → (∀ c ∈ cs, H' c = H c) → ψ K B H a cs → ψ K B' H' a cs) {i : Nat} (h : DeepOk K H0 B H σ env i ψ) (g : Grow B H B' H') (hq : H q = none) : DeepOk K H0 B' (upd H' q o) σ env i ψ := by
  obtain ⟨a, cs, e1, e2, e3, e4⟩ := h
  have same : ∀ c ∈ cs, upd H' q o c = H c := fun c hc => by
    rw [upd_ne (fun z => (e2 c hc).1 (by rw [z]; exact hq))]
    cases z : H c with
    | none => exact absurd z (e2 c hc).1
    | some o => exact g.h c o z
  exact ⟨a, cs, e1, fun c hc => ⟨by rw [same c hc]; exact (e2 c hc).1, g.f c (e2 c hc).2.1 (e2 c hc).1, (e2 c hc).2.2⟩, e3, hm _ _ _ _ _ _ _ g.b same e4⟩
theorem DeepOk.other {ψ : PySem.W.Frag → Hp → Hp → Addr → List Addr → Prop} {i k : Nat} {v : Option V} {s : Slot} (ik : i ≠ k) (h : DeepOk K H0 B H σ env k ψ) (n : ∀ c, isOwn s = true → v = some (.ref c) → H c = none ∨ ∃ s', env[i]? = some s' ∧ isOwn s' = true ∧ σ[i]? = some (some (.ref c))) : DeepOk K H0 B H (σ.set i v) (env.set i s) k ψ := by
  obtain ⟨a, cs, e1, e2, e3, e4⟩ := h
  refine ⟨a, cs, by rw [List.getElem?_set_ne ik]; exact e1, e2, fun j t c h1 h2 h3 m => ?_, e4⟩
  by_cases q : i = j
  · subst q
    have hs : t = s := by
      by_cases hl : i < env.length
      · rw [List.getElem?_set_self hl] at h1
        exact (Option.some.inj h1).symm
      · rw [List.getElem?_eq_none (by rw [List.length_set]; omega)] at h1
        cases h1
    subst hs
    have hv : v = some (.ref c) := by
      by_cases hl : i < σ.length
      · rw [List.getElem?_set_self hl] at h3
        exact Option.some.inj h3
      · rw [List.getElem?_eq_none (by rw [List.length_set]; omega)] at h3
        cases h3
    rcases n c h2 hv with z | ⟨s', g1, g2, g3⟩
    · exact (e2 c m).1 z
    · exact e3 i s' c g1 g2 g3 m
  · rw [List.getElem?_set_ne q] at h1 h3
    exact e3 j t c h1 h2 h3 m
theorem deep_set {i k : Nat} {s : Slot} {ψ : PySem.W.Frag → Hp → Hp → Addr → List Addr → Prop} {hm} (nd : ∀ ψ hm, s ≠ .deep ψ hm) (h : (env.set i s)[k]? = some (.deep ψ hm)) : i ≠ k ∧ env[k]? = some (.deep ψ hm) := by
  by_cases q : i = k
  · subst q
    by_cases hl : i < env.length
    · rw [List.getElem?_set_self hl] at h
      exact absurd (Option.some.inj h) (nd ψ hm)
    · rw [List.getElem?_eq_none (by rw [List.length_set]; omega)] at h
      cases h
  · rw [List.getElem?_set_ne q] at h
    exact ⟨q, h⟩
inductive Wk : List Slot → List Slot → Prop where
  | nil : Wk [] []
  | same {s : Slot} {l l' : List Slot} : Wk l l' → Wk (s :: l) (s :: l')
  | any {s : Slot} {l l' : List Slot} : Wk l l' → Wk (s :: l) (.any :: l')
theorem Wk.refl : ∀ l : List Slot, Wk l l
  | [] => .nil
  | _ :: l => .same (Wk.refl l)
theorem Wk.len {l l' : List Slot} (w : Wk l l') : l.length = l'.length := by
  induction w with
  | nil => rfl
  | same _ ih => rw [List.length_cons, List.length_cons, ih]
  | any _ ih => rw [List.length_cons, List.length_cons, ih]
theorem Wk.get {l l' : List Slot} (w : Wk l l') : ∀ {i : Nat} {s : Slot}, l'[i]? = some s → s = .any ∨ l[i]? = some s := by
  induction w with
  | nil => intro i s h; exact .inr h
  | same _ ih =>
    intro i s h
    cases i with
    | zero => exact .inr h
    | succ i => exact ih h
  | any _ ih =>
    intro i s h
    cases i with
    | zero =>
      simp at h
      exact .inl h.symm
    | succ i => exact ih h
theorem Env.wk (E : Env K B H σ env) (w : Wk env env') : Env K B H σ env' := by
  refine ⟨E.bh, E.len.trans w.len, fun i s h => ?_, fun i j s t h1 h2 o1 o2 e => ?_⟩
  · rcases w.get h with rfl | h
    · trivial
    · exact E.at_ i s h
  · rcases w.get h1 with rfl | h1
    · cases o1
    · rcases w.get h2 with rfl | h2
      · cases o2
      · exact E.ap i j s t h1 h2 o1 o2 e
theorem StOk.wk (S : StOk K B0 H0 B H σ env) (w : Wk env env') : StOk K B0 H0 B H σ env' := ⟨S.en.wk w, S.g, fun i s a h o e => by
  rcases w.get h with rfl | h
  · cases o
  · exact S.nw i s a h o e, fun i ψ hm h => by
  rcases w.get h with z | h
  · cases z
  · obtain ⟨a, cs, e1, e2, e3, e4⟩ := S.rd i ψ hm h
    refine ⟨a, cs, e1, e2, fun j s c h1 h2 h3 => ?_, e4⟩
    rcases w.get h1 with rfl | h1
    · cases h2
    · exact e3 j s c h1 h2 h3⟩
theorem StOk.retarget (O : StOk K B0 H0 B H σ env) {σ' : St} {is : List Nat} (E' : Env K B H σ' env') (kp : ∀ i, i ∉ is → σ'[i]? = σ[i]? ∧ env'[i]? = env[i]?) (no : ∀ i s, i ∈ is → env'[i]? = some s → isOwn s = false ∧ isDeep s = false) : StOk K B0 H0 B H σ' env' := by
  have back : ∀ (j : Nat) (s : Slot), env'[j]? = some s → isOwn s = true ∨ isDeep s = true → σ'[j]? = σ[j]? ∧ env[j]? = some s := fun j s h o => by
    by_cases z : j ∈ is
    · obtain ⟨n1, n2⟩ := no j s z h
      rw [n1, n2] at o
      rcases o with o | o <;> cases o
    · rw [(kp j z).2] at h
      exact ⟨(kp j z).1, h⟩
  refine ⟨E', O.g, fun j s a h o q => ?_, fun k ψ hm h => ?_⟩
  · obtain ⟨b1, b2⟩ := back j s h (.inl o)
    rw [b1] at q
    exact O.nw j s a b2 o q
  · obtain ⟨b1, b2⟩ := back k _ h (.inr rfl)
    obtain ⟨a, cs, e1, e2, e3, e4⟩ := O.rd k ψ hm b2
    refine ⟨a, cs, by rw [b1]; exact e1, e2, fun j s c h1 h2 h3 => ?_, e4⟩
    obtain ⟨c1, c2⟩ := back j s h1 (.inl h2)
    rw [c1] at h3
    exact e3 j s c c2 h2 h3
theorem StOk.setV (S : StOk K B0 H0 B H σ env) (i : Nat) {v : V} {x : α} (r : rep K B v x) : StOk K B0 H0 B H (σ.set i (some v)) (env.set i (.val x)) := ⟨S.en.setV i r, S.g, fun j s a h o e => by
  by_cases q : i = j
  · subst q
    by_cases hl : i < env.length
    · rw [List.getElem?_set_self hl] at h
      cases h
      cases o
    · rw [List.getElem?_eq_none (by rw [List.length_set]; omega)] at h
      cases h
  · rw [List.getElem?_set_ne q] at h e
    exact S.nw j s a h o e, fun k ψ hm h => by
  obtain ⟨ik, h⟩ := deep_set (by intro _ _ z; cases z) h
  exact (S.rd k ψ hm h).other ik fun c o => nomatch o⟩
theorem StOk.setN {β : Type} [ORep β] {B1 H1 : Hp} (S : StOk K B0 H0 B H σ env) (i : Nat) {p : Addr} {o : HO} {x : β} (np : H p = none) (g : Grow B H B1 H1) (nb : B1 p = none) (hp : H1 p = some o) (r : orep K B1 o x) :
    StOk K B0 H0 B1 H1 (σ.set i (some (.ref p))) (env.set i (.own x)) := by
  have S1 := S.grow g
  have old : ∀ (j : Nat) (s : Slot), env[j]? = some s → isOwn s = true → σ[j]? ≠ some (some (.ref p)) := fun j s h o e => by
    cases s with
    | any => cases o
    | val _ => cases o
    | obj φ hm =>
      obtain ⟨a, ob, e1, e2, _⟩ := S.en.obj h
      rw [e] at e1
      cases e1
      rw [np] at e2
      cases e2
    | deep ψ hm => cases o
  refine ⟨⟨g.bh, by rw [List.length_set, List.length_set]; exact S.en.len, fun j s h => ?_, fun j k s t h1 h2 o1 o2 e => ?_⟩, S1.g, fun j s a h o e => ?_, fun k ψ hm h => by
    obtain ⟨ik, h⟩ := deep_set (by intro _ _ z; cases z) h
    exact ((S.rd k ψ hm h).other (v := some (.ref p)) (s := .own x) ik fun c _ e => by cases e; exact .inl np).grow hm g⟩
  · by_cases q : i = j
    · subst q
      by_cases hl : i < env.length
      · rw [List.getElem?_set_self hl] at h
        cases h
        rw [List.getElem?_set_self (by rw [S.en.len]; exact hl)]
        exact ⟨p, o, rfl, hp, nb, r⟩
      · rw [List.getElem?_eq_none (by rw [List.length_set]; omega)] at h
        cases h
    · rw [List.getElem?_set_ne q] at h ⊢
      exact S1.en.at_ j s h
  · by_cases q1 : i = j
    · by_cases q2 : i = k
      · rw [← q1, ← q2]
      · subst q1
        rw [List.getElem?_set_ne q2] at h2 e
        by_cases hl : i < env.length
        · rw [List.getElem?_set_self (by rw [S.en.len]; exact hl)] at e
          exact absurd e.symm (old k t h2 o2)
        · rw [List.getElem?_eq_none (by rw [List.length_set]; omega)] at h1
          cases h1
    · rw [List.getElem?_set_ne q1] at h1 e
      by_cases q2 : i = k
      · subst q2
        by_cases hl : i < env.length
        · rw [List.getElem?_set_self (by rw [S.en.len]; exact hl)] at e
          exact absurd e (old j s h1 o1)
        · rw [List.getElem?_eq_none (by rw [List.length_set]; omega)] at h2
          cases h2
      · rw [List.getElem?_set_ne q2] at h2 e
        exact S1.en.ap j k s t h1 h2 o1 o2 e
  · by_cases q : i = j
    · subst q
      by_cases hl : i < env.length
      · rw [List.getElem?_set_self (by rw [S.en.len]; exact hl)] at e
        cases e
        exact S.g.h.none np
      · rw [List.getElem?_eq_none (by rw [List.length_set]; omega)] at h
        cases h
    · rw [List.getElem?_set_ne q] at h e
      exact S.nw j s a h o e
theorem StOk.freeze {xs : List α} (S : StOk K B0 H0 B H σ env) (i : Nat) (hi : env[i]? = some (.own xs)) : ∃ B1, StOk K B0 H0 B1 H σ (env.set i (.val xs)) ∧ Le B B1 := by
  obtain ⟨a, o, e1, e2, e3, vs, rfl, r⟩ := S.en.own hi
  have nw := S.nw i _ a hi rfl e1
  have hl : i < env.length := (List.getElem?_eq_some_iff.mp hi).1
  have l1 : Le B (upd B a (.lst vs)) := Le.put e3
  have l2 : Le (upd B a (.lst vs)) H := fun b u z => by
    by_cases k : b = a
    · subst k
      rw [upd_same] at z
      rw [e2, z]
    · rw [upd_ne k] at z
      exact S.en.bh b u z
  have other : ∀ (j : Nat) (s : Slot), i ≠ j → env[j]? = some s → isOwn s = true → σ[j]? ≠ some (some (.ref a)) := fun j s n h o e => n (S.en.ap i j _ s hi h rfl o (e1.trans e.symm))
  refine ⟨upd B a (.lst vs), ⟨⟨l2, by rw [List.length_set]; exact S.en.len, fun j s h => ?_, fun j k s t h1 h2 o1 o2 e => ?_⟩, ⟨S.g.b.trans l1, l2, S.g.h, fun b z n => ?_⟩, fun j s b h o e => ?_, fun k ψ hm h => by
    obtain ⟨ik, h⟩ := deep_set (by intro _ _ z; cases z) h
    obtain ⟨a2, cs, f1, f2, f3, f4⟩ := S.rd k ψ hm h
    refine ⟨a2, cs, f1, fun c hc => ⟨(f2 c hc).1, ?_, (f2 c hc).2.2⟩, fun j s c h1 h2 h3 => ?_, hm _ _ _ _ _ _ _ l1 (fun _ _ => rfl) f4⟩
    · rw [upd_ne (fun z => f3 i _ a hi rfl e1 (by rw [← z]; exact hc))]
      exact (f2 c hc).2.1
    · by_cases q : i = j
      · subst q
        rw [List.getElem?_set_self hl] at h1
        cases h1
        cases h2
      · rw [List.getElem?_set_ne q] at h1
        exact f3 j s c h1 h2 h3⟩, l1⟩
  · by_cases q : i = j
    · subst q
      rw [List.getElem?_set_self hl] at h
      cases h
      exact ⟨_, e1, a, vs, rfl, SqL.of upd_same, r.mono l1⟩
    · rw [List.getElem?_set_ne q] at h
      have z := S.en.at_ j s h
      cases s with
      | any => trivial
      | @val α' i' y =>
        obtain ⟨u, f1, f2⟩ := z
        exact ⟨u, f1, Rep.mono l1 f2⟩
      | obj φ hm =>
        obtain ⟨b, ob, f1, f2, f3, f4⟩ := z
        refine ⟨b, ob, f1, f2, ?_, hm _ _ _ _ _ l1 f4⟩
        rw [upd_ne (fun k => other j _ q h rfl (by rw [f1, k]))]
        exact f3
      | deep ψ hm => trivial
  · by_cases q1 : i = j
    · subst q1
      rw [List.getElem?_set_self hl] at h1
      cases h1
      cases o1
    · by_cases q2 : i = k
      · subst q2
        rw [List.getElem?_set_self hl] at h2
        cases h2
        cases o2
      · rw [List.getElem?_set_ne q1] at h1
        rw [List.getElem?_set_ne q2] at h2
        exact S.en.ap j k s t h1 h2 o1 o2 e
  · rw [upd_ne (fun k => n (by rw [k]; exact nw))]
    exact S.g.f b z n
  · by_cases q : i = j
    · subst q
      rw [List.getElem?_set_self hl] at h
      cases h
      cases o
    · rw [List.getElem?_set_ne q] at h
      exact S.nw j s b h o e
theorem StOk.change {φ ψ : PySem.W.Frag → Hp → Addr → HO → Prop} {hm : ∀ K B B' a o, Le B B' → φ K B a o → φ K B' a o} {hm' : ∀ K B B' a o, Le B B' → ψ K B a o → ψ K B' a o} (S : StOk K B0 H0 B H σ env) (i : Nat) {a : Addr} {o' : HO} (hi : env[i]? = some (.obj φ hm)) (ha : σ[i]? = some (some (.ref a))) (r : ψ K B a o') :
    StOk K B0 H0 B (upd H a o') σ (env.set i (.obj ψ hm')) := by
  obtain ⟨a', o, e1, e2, e3, _⟩ := S.en.obj hi
  rw [ha] at e1
  cases e1
  have nw := S.nw i _ a hi rfl ha
  have hl : i < env.length := (List.getElem?_eq_some_iff.mp hi).1
  have lB : Le B (upd H a o') := fun b u z => by
    rw [upd_ne (fun k => by rw [k, e3] at z; cases z)]
    exact S.en.bh b u z
  have l0 : Le H0 (upd H a o') := fun b u z => by
    rw [upd_ne (fun k => by rw [k, nw] at z; cases z)]
    exact S.g.h b u z
  have other : ∀ (j : Nat) (s : Slot), i ≠ j → env[j]? = some s → isOwn s = true → σ[j]? ≠ some (some (.ref a)) := fun j s n h o e => n (S.en.ap i j _ s hi h rfl o (ha.trans e.symm))
  refine ⟨⟨lB, by rw [List.length_set]; exact S.en.len, fun j s h => ?_, fun j k s t h1 h2 o1 o2 e => ?_⟩, ⟨S.g.b, lB, l0, S.g.f⟩, fun j s b h o e => ?_, fun k ψ hm h => by
    obtain ⟨ik, h⟩ := deep_set (by intro _ _ z; cases z) h
    obtain ⟨a2, cs, f1, f2, f3, f4⟩ := S.rd k ψ hm h
    have na : ∀ c ∈ cs, c ≠ a := fun c hc z => f3 i _ a hi rfl ha (by rw [← z]; exact hc)
    refine ⟨a2, cs, f1, fun c hc => ⟨by rw [upd_ne (na c hc)]; exact (f2 c hc).1, (f2 c hc).2⟩, fun j s c h1 h2 h3 => ?_, hm _ _ _ _ _ _ _ (Le.refl _) (fun c hc => upd_ne (na c hc)) f4⟩
    by_cases q : i = j
    · subst q
      exact f3 i _ c hi rfl h3
    · rw [List.getElem?_set_ne q] at h1
      exact f3 j s c h1 h2 h3⟩
  · by_cases q : i = j
    · subst q
      rw [List.getElem?_set_self hl] at h
      cases h
      exact ⟨a, o', ha, upd_same, e3, r⟩
    · rw [List.getElem?_set_ne q] at h
      have z := S.en.at_ j s h
      cases s with
      | any => trivial
      | @val α' i' w => exact z
      | obj φ' hm' =>
        obtain ⟨b, ob, f1, f2, f3, f4⟩ := z
        refine ⟨b, ob, f1, ?_, f3, f4⟩
        rw [upd_ne (fun k => other j _ q h rfl (by rw [f1, k]))]
        exact f2
      | deep ψ hm => trivial
  · have back : ∀ (m : Nat) (s : Slot), (env.set i (.obj ψ hm'))[m]? = some s → isOwn s = true → ∃ s', env[m]? = some s' ∧ isOwn s' = true := fun m s h o => by
      by_cases q : i = m
      · subst q
        exact ⟨_, hi, rfl⟩
      · rw [List.getElem?_set_ne q] at h
        exact ⟨s, h, o⟩
    obtain ⟨s', g1, p1⟩ := back j s h1 o1
    obtain ⟨t', g2, p2⟩ := back k t h2 o2
    exact S.en.ap j k s' t' g1 g2 p1 p2 e
  · by_cases q : i = j
    · subst q
      rw [ha] at e
      cases e
      exact nw
    · rw [List.getElem?_set_ne q] at h
      exact S.nw j s b h o e
end

section
variable {S T L R : Type} [Rep R]
def Post (K : PySem.W.Frag) (B0 H0 Bs : Hp) (mk : S → List Slot) (lk : L → List Slot) (D : Ends) (m : Fl S L R) : Prop := match m with
  | .err => False
  | .nx s => ∀ B H σ, Le Bs B → StOk K B0 H0 B H σ (mk s) → D.nx σ H
  | .rt r => ∀ B H v, Grow B0 H0 B H → rep K B v r → D.rt v H
  | .bk s => ∀ B H σ, Le Bs B → StOk K B0 H0 B H σ (lk s) → D.bk σ H
  | .ct s => ∀ B H σ, Le Bs B → StOk K B0 H0 B H σ (lk s) → D.ct σ H
structure DeS (c : Ct) (env : List Slot) (b : List Stmt) (mk : S → List Slot) (lk : L → List Slot) (m : Fl S L R) : Prop where
  ok : ∀ (B0 H0 B H : Hp) (σ : St), StOk c.K B0 H0 B H σ env → ∀ D : Ends, Post c.K B0 H0 B mk lk D m → cS c b D σ H
instance {c : Ct} {env : List Slot} {b : List Stmt} {mk : S → List Slot} {lk : L → List Slot} {m : Fl S L R} : CoeFun (DeS c env b mk lk m) (fun _ => ∀ (B0 H0 B H : Hp) (σ : St), StOk c.K B0 H0 B H σ env → ∀ D : Ends, Post c.K B0 H0 B mk lk D m → cS c b D σ H) := ⟨DeS.ok⟩
theorem Post.mono {K : PySem.W.Frag} {B0 H0 B1 B2 : Hp} {mk : S → List Slot} {lk : L → List Slot} {D : Ends} {m : Fl S L R} (l : Le B1 B2) (P : Post K B0 H0 B1 mk lk D m) : Post K B0 H0 B2 mk lk D m := by
  cases m with
  | err => exact P
  | nx s => exact fun B H σ k => P B H σ (l.trans k)
  | rt r => exact P
  | bk s => exact fun B H σ k => P B H σ (l.trans k)
  | ct s => exact fun B H σ k => P B H σ (l.trans k)
variable {c : Ct} {env env' : List Slot} {st : Stmt} {rest b b' : List Stmt} {e a d : Expr} {mk : S → List Slot} {lk : L → List Slot} {α β γ : Type} [Rep α] [Rep β] [Rep γ]
theorem cS_cons {t : TS} (h : ∀ X, Fits c X → PS X st t) {D : Ends} {σ : St} {H : Hp} (q : t { D with nx := cS c rest D } σ H) : cS c (st :: rest) D σ H :=
  cS_of (fun X F => pss_cons (h X F) (cS_ps X F)) (show tSeq t (cS c rest) D σ H from q)
theorem ds_end {s : S} (w : Wk env (mk s)) : DeS c env [] mk lk (.nx s : Fl S L R) := .mk fun B0 H0 B H σ O D P =>
  cS_of (fun X F => pss_nil) (show tNext D σ H from P B H σ (Le.refl _) (O.wk w))
theorem ds_freeze {xs : List α} {m : Fl S L R} (i : Nat) (hi : env[i]? = some (.own xs)) (h : DeS c (env.set i (.val xs)) b mk lk m) : DeS c env b mk lk m := .mk fun B0 H0 B H σ O D P => by
  obtain ⟨B1, O1, l⟩ := O.freeze i hi
  exact h B0 H0 B1 H σ O1 D (P.mono l)
theorem ds_err : DeS c env b mk lk (.err : Fl S L R) := .mk fun B0 H0 B H σ O D P => P.elim
theorem post_bindO {A : Type} {K : PySem.W.Frag} {B0 H0 Bs : Hp} {D : Ends} {m : Option A} {k : A → Fl S L R} (P : Post K B0 H0 Bs mk lk D (Fl.bindO m k)) : ∃ x, m = some x ∧ Post K B0 H0 Bs mk lk D (k x) := by
  cases m with
  | none => exact P.elim
  | some x => exact ⟨x, rfl, P⟩
def AsE (c : Ct) (env : List Slot) (st : Stmt) (i : Nat) {α : Type} [Rep α] (m : Option α) : Prop := ∃ te, (∀ X, Fits c X → PS X st (tAsg te (gName i))) ∧ ∀ x, m = some x → EvE c.K env te x
def AsN (c : Ct) (env : List Slot) (st : Stmt) (i : Nat) {β : Type} [ORep β] (m : Option β) : Prop := ∃ te, (∀ X, Fits c X → PS X st (tAsg te (gName i))) ∧ ∀ x, m = some x → EvN c.K env te x
theorem as_e {m : Option α} (i : Nat) {x : Str} {pos pos' : Pos} (h : De c env e m) (nd : c.N.Nodup) (hN : c.N[i]? = some x) (hx : Loc c.sc x) (hf : c.fn x = true ∨ c.sc.names.lookup x = some .local) (hs : ∀ env : PySem.Env, env.scope = c.sc → swapsWith e (some (.Name x pos')) pos.line env = pure false) :
    AsE c env (.Assign [.Name x pos'] e pos) i m := by
  obtain ⟨t, h1, h2⟩ := h
  exact ⟨t, fun X F => ps_set (by rw [F.N]; exact nd) (fits_ix F hN) (fits_loc F hx) (h1 X F) (hs _ F.sc) (by rw [F.fn, F.sc]; exact hf), h2⟩
theorem as_n {β : Type} [ORep β] {m : Option β} (i : Nat) {x : Str} {pos pos' : Pos} (h : DeN c env e m) (nd : c.N.Nodup) (hN : c.N[i]? = some x) (hx : Loc c.sc x) (hf : c.fn x = true ∨ c.sc.names.lookup x = some .local) (hs : ∀ env : PySem.Env, env.scope = c.sc → swapsWith e (some (.Name x pos')) pos.line env = pure false) :
    AsN c env (.Assign [.Name x pos'] e pos) i m := by
  obtain ⟨t, h1, h2⟩ := h
  exact ⟨t, fun X F => ps_set (by rw [F.N]; exact nd) (fits_ix F hN) (fits_loc F hx) (h1 X F) (hs _ F.sc) (by rw [F.fn, F.sc]; exact hf), h2⟩
theorem AsN.toE {m : Option (List α)} {i : Nat} (h : AsN c env st i m) : AsE c env st i m := by
  obtain ⟨t, h1, h2⟩ := h
  exact ⟨t, h1, fun x hx => (h2 x hx).de⟩
theorem ds_set {i : Nat} {m : Option α} {k : α → Fl S L R} (h : AsE c env st i m) (g : ∀ x, DeS c (env.set i (.val x)) rest mk lk (k x)) : DeS c env (st :: rest) mk lk (Fl.bindO m k) := .mk fun B0 H0 B H σ O D P => by
  obtain ⟨x, ex, P⟩ := post_bindO P
  obtain ⟨t, h1, h2⟩ := h
  refine cS_cons h1 ?_
  exact h2 x ex B H σ O.en _ fun v B1 H1 k1 r => g x B0 H0 B1 H1 _ ((O.grow k1).setV i r) D (P.mono k1.b)
theorem ds_own {β : Type} [ORep β] {i : Nat} {m : Option β} {k : β → Fl S L R} (h : AsN c env st i m) (g : ∀ x, DeS c (env.set i (.own x)) rest mk lk (k x)) : DeS c env (st :: rest) mk lk (Fl.bindO m k) := .mk fun B0 H0 B H σ O D P => by
  obtain ⟨x, ex, P⟩ := post_bindO P
  obtain ⟨t, h1, h2⟩ := h
  refine cS_cons h1 ?_
  exact h2 x ex B H σ O.en _ fun p o B1 H1 np k1 nb hp r => g x B0 H0 B1 H1 _ (O.setN i np k1 nb hp r) D (P.mono k1.b)
theorem ds_unpack {f : α → List Slot → List Slot} {is : List Nat} {tg : Expr} {pos : Pos} {m : Option α} {k : α → Fl S L R} (h : De c env e m) (hg : DeTg c tg f is) (g : ∀ x, DeS c (f x env) rest mk lk (k x))
    (hs : ∀ env, swapsWithSole [tg] e pos.line env = pure false := by intro _; rfl) (hw : ∀ env, swappedStores [tg] e env = pure none := by intro _; rfl) (h1 : ∀ env, (assignEach [tg] env).map (·.2) = [assign tg env] := by intro _; rfl) :
    DeS c env (.Assign [tg] e pos :: rest) mk lk (Fl.bindO m k) := .mk fun B0 H0 B H σ O D P => by
  obtain ⟨x, ex, P⟩ := post_bindO P
  obtain ⟨t, e1, e2⟩ := h
  obtain ⟨w, g1, g2⟩ := hg
  refine cS_cons (fun X F => ps_asg (e1 X F) (g1 X F) (hs _) (hw _) (h1 _)) ?_
  refine e2 x ex B H σ O.en _ fun v B1 H1 k1 r => g2.run x env B1 H1 σ v (O.en.grow k1) r _ fun σ' E' _ kp no => ?_
  exact g x B0 H0 B1 H1 σ' ((O.grow k1).retarget E' kp no) D (P.mono k1.b)
theorem ds_ret {pos : Pos} {m : Option R} (h : De c env e m) : DeS c env (.Return (some e) pos :: rest) mk lk (Fl.bindO m fun x => (.rt x : Fl S L R)) := .mk fun B0 H0 B H σ O D P => by
  obtain ⟨x, ex, P⟩ := post_bindO P
  obtain ⟨t, h1, h2⟩ := h
  refine cS_cons (fun X F => ps_ret (h1 X F)) ?_
  exact h2 x ex B H σ O.en _ fun v B1 H1 k1 r => P B1 H1 v (O.g.trans k1) r
theorem ds_append (i : Nat) {x : Str} {p1 p2 p3 pos : Pos} {xs : List α} {m : Option α} {k : List α → Fl S L R} (hi : env[i]? = some (.own xs)) (hN : c.N[i]? = some x) (hv : Vis c.sc x) (h : De c env e m) (g : ∀ y, DeS c (env.set i (.own (xs ++ [y]))) rest mk lk (k (xs ++ [y])))
    (hd : (x == ("__debug__" : Str)) = false := by decide) (hcd : (x == ("__classdict__" : Str)) = false := by decide) (hs : ∀ env, starEach [e] env = (false, eval e env) :: starEach [] env := by intro _; rfl)
    (hsw : ∀ env, swapsWith (.Call (.Attribute (.Name x p1) "append" p2) [e] [] p3) none pos.line env = pure false := by intro _; rfl)
    (hpe : ∀ X to t, PE X (.Name x p1) to → PE X e t → PE X (.Call (.Attribute (.Name x p1) "append" p2) [e] [] p3) (tBM X.K "list" rAppend to (tCons t tNil)) := by
      intro X to t ho ht; exact pe_bm PySem.F.plainAttrs_list PySem.F.slot_list_append PySem.F.type_list_append mt_append ho (pa_cons ht pa_nil)) :
    DeS c env (.Expr (.Call (.Attribute (.Name x p1) "append" p2) [e] [] p3) pos :: rest) mk lk (Fl.bindO m fun y => if len1 xs.length = true then k (xs ++ [y]) else .err) := .mk fun B0 H0 B H σ O D P => by
  obtain ⟨y, ey, P⟩ := post_bindO P
  obtain ⟨t, h1, h2⟩ := h
  split at P
  · rename_i hl
    refine cS_cons (t := tDrop (tBM c.K "list" rAppend (tVar i) (tCons t tNil))) (fun X F => by rw [← F.K]; exact ps_expr (hpe X _ t (pe_var (fits_ix F hN) (fits_vis F hv) hd hcd) (h1 X F)) (hsw _)) ?_
    obtain ⟨a, o, e1, e2, e3, vs, rfl, r⟩ := O.en.own hi
    refine ⟨.ref a, e1, .inl ⟨rfl, _, SqL.of e2⟩, ?_⟩
    refine h2 y ey B H σ O.en _ fun v B1 H1 k1 rv => ?_
    have O1 := O.grow k1
    refine ⟨a, vs, v, rfl, rfl, k1.h a _ e2, ?_, ?_⟩
    · rw [r.len]
      exact Nat.lt_of_le_of_lt (of_decide_eq_true hl) (by decide)
    · exact g y B0 H0 B1 _ σ (O1.change i hi e1 ⟨_, rfl, (r.mono k1.b).append (.cons rv .nil)⟩) D (P.mono k1.b)
  · exact P.elim
theorem post_bind {J : Type} {jk : J → List Slot} {K : PySem.W.Frag} {B0 H0 Bs : Hp} {D : Ends} {m : Fl J L R} {k : J → Fl S L R} (P : Post K B0 H0 Bs mk lk D (m.bind k)) {next : St → Hp → Prop} (hn : ∀ j, m = .nx j → Post K B0 H0 Bs mk lk D (k j) → ∀ B H σ, Le Bs B → StOk K B0 H0 B H σ (jk j) → next σ H) :
    Post K B0 H0 Bs jk lk { D with nx := next } m := by
  cases m with
  | err => exact P
  | nx j => exact hn j rfl P
  | rt r => exact P
  | bk s => exact P
  | ct s => exact P
theorem ds_if {J : Type} {jk : J → List Slot} {t : Expr} {pos : Pos} {mt : Option Bool} {m1 m2 : Fl J L R} {k : J → Fl S L R} (ht : DeT c env t mt) (h1 : DeS c env b jk lk m1) (h2 : DeS c env b' jk lk m2) (g : ∀ j, DeS c (jk j) rest mk lk (k j)) :
    DeS c env (.If t b b' pos :: rest) mk lk (Fl.bindO mt fun x => (if x = true then m1 else m2).bind k) := .mk fun B0 H0 B H σ O D P => by
  obtain ⟨x, ex, P⟩ := post_bindO P
  obtain ⟨u, t1, t2⟩ := ht
  refine cS_cons (fun X F => ps_if (t1 X F) (cS_ps X F) (cS_ps X F)) ?_
  refine t2 x ex B H σ O.en _ fun B1 H1 k1 => ?_
  have O1 := O.grow k1
  cases x with
  | true =>
    show cS c b { D with nx := cS c rest D } σ H1
    exact h1 B0 H0 B1 H1 σ O1 _ (post_bind (P.mono k1.b) fun j _ Pj B2 H2 σ2 l2 O2 => g j B0 H0 B2 H2 σ2 O2 D (Pj.mono l2))
  | false =>
    show cS c b' { D with nx := cS c rest D } σ H1
    exact h2 B0 H0 B1 H1 σ O1 _ (post_bind (P.mono k1.b) fun j _ Pj B2 H2 σ2 l2 O2 => g j B0 H0 B2 H2 σ2 O2 D (Pj.mono l2))
theorem loop_take {f : α → T → Fl T T R} {xs : List α} {i : Nat} {x : α} {s : T} (e : xs[i]? = some x) : (Fl.loop f (xs.drop i) s : Fl T L R) = match f x s with
    | .err => .err
    | .nx s' => Fl.loop f (xs.drop (i + 1)) s'
    | .ct s' => Fl.loop f (xs.drop (i + 1)) s'
    | .bk s' => .nx s'
    | .rt r => .rt r := by
  have hl := (List.getElem?_eq_some_iff.mp e).1
  have hx := (List.getElem?_eq_some_iff.mp e).2
  rw [List.drop_eq_getElem_cons hl, hx]
  rfl
theorem ds_for {f' : α → List Slot → List Slot} {is : List Nat} {tg iter : Expr} {pos : Pos} {m : Option (List α)} {sk : T → List Slot} {s0 : T} {f : α → T → Fl T T R} {k : T → Fl S L R} (hi : DeIt c env iter m) (hg : DeTg c tg f' is) (w : Wk env (sk s0))
    (hb : ∀ x s, DeS c (f' x (sk s)) b sk sk (f x s)) (g : ∀ s, DeS c (sk s) rest mk lk (k s)) (hs : ∀ env x, foldedSetIterable iter env x = pure x := by intro _ _; rfl) :
    DeS c env (.For tg iter b [] pos :: rest) mk lk (Fl.bindO m fun xs => (Fl.loop f xs s0 : Fl T L R).bind k) := .mk fun B0 H0 B H σ O D P => by
  obtain ⟨xs, exs, P⟩ := post_bindO P
  obtain ⟨wi, i1, i2⟩ := hi
  obtain ⟨gt, g1, g2⟩ := hg
  refine cS_cons (fun X F => ps_for (by rw [F.xe]; exact PassesOwn.never) F.calm (i1 X F tg) (g1 X F) (cS_ps X F) (hs _)) ?_
  refine i2 xs exs B H σ O.en _ fun J B1 H1 k1 ⟨G, Y, W, hG, hY⟩ => ?_
  generalize hm : (Fl.loop f xs s0 : Fl T L R) = total at P
  refine for_it W (fun i σ' H' => ∃ B' s, StOk c.K B0 H0 B' H' σ' (sk s) ∧ Le B1 B' ∧ (Fl.loop f (xs.drop i) s : Fl T L R) = total) ⟨B1, s0, (O.grow k1).wk w, Le.refl _, hm⟩
    (fun i σ' H' _ ⟨B', s, O', l', _⟩ => hG H' (l'.trans O'.en.bh)) (fun i v σ' H' H2 hi ⟨B', s, O', l', ht⟩ y => ?_) fun σ' H' ⟨B', s, O', l', ht⟩ => ?_
  · obtain ⟨B2, x, k2, ex, rx⟩ := hY i B' H' v H2 hi l' O'.en.bh y
    have O2 := O'.grow k2
    refine g2.run x (sk s) B2 H2 σ' v O2.en rx _ fun σ3 E3 _ kp no => ?_
    have O3 : StOk c.K B0 H0 B2 H2 σ3 (f' x (sk s)) := O2.retarget E3 kp no
    rw [loop_take ex] at ht
    refine hb x s B0 H0 B2 H2 σ3 O3 _ ?_
    cases hf : f x s with
    | err =>
      rw [hf] at ht
      rw [← ht] at P
      exact P
    | nx s' =>
      rw [hf] at ht
      exact fun B4 H4 σ4 l4 O4 => ⟨B4, s', O4, (l'.trans k2.b).trans l4, ht⟩
    | ct s' =>
      rw [hf] at ht
      exact fun B4 H4 σ4 l4 O4 => ⟨B4, s', O4, (l'.trans k2.b).trans l4, ht⟩
    | bk s' =>
      rw [hf] at ht
      rw [← ht] at P
      exact fun B4 H4 σ4 l4 O4 => g s' B0 H0 B4 H4 σ4 O4 D (P.mono ((k1.b.trans (l'.trans k2.b)).trans l4))
    | rt r =>
      rw [hf] at ht
      rw [← ht] at P
      exact P
  · rw [List.drop_length] at ht
    rw [← ht] at P
    exact g s B0 H0 B' H' σ' O' D (P.mono (k1.b.trans l'))
end
end Dn

set_option Elab.async false
set_option linter.all false
set_option maxRecDepth 100000
namespace Dn
open PySem PySem.Spec L2
open Rep (rep)
open ORep (orep)

class Pk (P : Type) where
  sl : P → List Slot
  val : ∀ (p : P) (s : Slot), s ∈ sl p → isOwn s = false
instance : Pk Unit := ⟨fun _ => [], fun _ _ h => nomatch h⟩
instance {α β : Type} [Rep α] [Pk β] : Pk (α × β) := ⟨fun p => .val p.1 :: Pk.sl p.2, fun p s h => by
  rcases List.mem_cons.mp h with rfl | h
  · rfl
  · exact Pk.val _ s h⟩
def spF (K : PySem.W.Frag) {P R : Type} [Pk P] [Rep R] (f : P → Option R) : Sp := fun vs H Q _ => ∃ (p : P) (r : R) (B : Hp), f p = some r ∧ Le B H ∧ Args K B vs (Pk.sl p) ∧ ∀ v B' H', Grow B H B' H' → rep K B' v r → Q v H'
section
variable {P : Program} {w : World} {K : PySem.W.Frag} {mg : Str → Option Value} {base : Heap}
theorem start_len {N : List Str} {vs : List V} (h : vs.length ≤ N.length) : (L2.start N vs).length = N.length := by
  unfold L2.start
  rw [List.length_append, List.length_map, List.length_replicate]
  omega
theorem start_get {N : List Str} {vs : List V} {i : Nat} (h : i < vs.length) : (L2.start N vs)[i]? = (vs.map some)[i]? := by
  unfold L2.start
  rw [List.getElem?_append_left (by rw [List.length_map]; exact h)]
theorem _root_.Dn.Args.noDeep {B : Hp} {vs : List V} {xs : List Slot} (h : Args K B vs xs) : ∀ (i : Nat) ψ hm, xs[i]? ≠ some (Slot.deep ψ hm) := by
  induction h with
  | nil => intro i ψ hm e; cases e
  | cons r _ ih =>
    intro i ψ hm e
    cases i with
    | zero => cases e
    | succ i => exact ih i ψ hm e
theorem st_start {K : PySem.W.Frag} {B H : Hp} {N : List Str} {vs : List V} {xs : List Slot} (lB : Le B H) (ha : Args K B vs xs) (hl : vs.length ≤ N.length) : StOk K B H B H (L2.start N vs) (xs ++ List.replicate (N.length - xs.length) .any) := by
  have len := ha.len
  have key : ∀ (i : Nat) (s : Slot), (xs ++ List.replicate (N.length - xs.length) Slot.any)[i]? = some s → s = .any ∨ (i < xs.length ∧ xs[i]? = some s) := fun i s h => by
    by_cases q : i < xs.length
    · rw [List.getElem?_append_left q] at h
      exact .inr ⟨q, h⟩
    · rw [List.getElem?_append_right (by omega)] at h
      exact .inl (List.eq_of_mem_replicate (List.mem_of_getElem? h))
  have no : ∀ (i : Nat) (s : Slot), (xs ++ List.replicate (N.length - xs.length) Slot.any)[i]? = some s → isOwn s = false := fun i s h => by
    rcases key i s h with rfl | ⟨_, h⟩
    · rfl
    · exact (ha.get h).2
  refine ⟨⟨lB, ?_, fun i s h => ?_, fun i j s t h1 _ o1 _ _ => ?_⟩, Grow.refl lB, fun i s a h o _ => ?_, fun i ψ hm h => by
    rcases key i _ h with z | ⟨_, h⟩
    · cases z
    · exact absurd h (ha.noDeep i ψ hm)⟩
  · rw [start_len hl, List.length_append, List.length_replicate]
    omega
  · rcases key i s h with rfl | ⟨q, h⟩
    · trivial
    · rw [start_get (by omega)]
      have z := (ha.get h).1
      cases s with
      | any => trivial
      | @val α' i' x => exact z
      | obj φ hm =>
        have := (ha.get h).2
        cases this
      | deep ψ hm => trivial
  · rw [no i s h1] at o1
    cases o1
  · rw [no i s h] at o
    cases o
def ctOf (P : Program) (w : World) (K : PySem.W.Frag) (mg : Str → Option Value) (base : Heap) (k : Nat) (N : List Str) (sc : Scope) : Ct := ⟨P, w, K, mg, base, k, N, sc, fun _ => true, true⟩
theorem fits_def {CX : CXT} {k : Nat} {N : List Str} {qual : Str} {sc : Scope} {f : Addr} {cd : Value} {A : Around} {outer : List PySem.Env} {s : Shared} {H : Hp} {E : XK} (hr : Room k (A.deeper (PyProof.Rows.envOfC qual sc s.heap.objs.size f cd))) :
    Fits (ctOf P w K mg base k N sc) (cxOf CX P w K mg base N qual sc f cd A outer s H E).nox := ⟨rfl, rfl, rfl, rfl, rfl, rfl, rfl, rfl, rfl, hr, rfl, fun _ => ⟨rfl, rfl, rfl⟩⟩
theorem fn_ok {Pp S L R : Type} [Pk Pp] [Rep R] {x qual : Str} {st : Stmt} {f : Addr} {fd : FuncData} {N ps : List Str} {k : Nat} {mk : S → List Slot} {lk : L → List Slot} {m : Pp → Fl S L R} {en : Option R} (F : Fun K x qual st f fd) (Sc : FnScope N ps (defScope st)) (np : ps.length ≤ N.length)
    (hn : ∀ p : Pp, (Pk.sl p).length = ps.length) (hen : ∀ r, en = some r → ∀ B, rep K B .non r)
    (hb : ∀ p : Pp, DeS (ctOf P w K mg base k N (defScope st)) (Pk.sl p ++ List.replicate (N.length - (Pk.sl p).length) .any) (defBody st) mk lk (m p)) :
    FnOk P w K mg base CX0 (k + 1) f fd ps (spF K fun p => (m p).fin en) := by
  refine F.ok Sc (fun vs H Q E h => ?_) (fun cdv A outer s H vs Q E hr h => ?_)
  · obtain ⟨p, r, B, _, _, ha, _⟩ := h
    exact ha.len.trans (hn p)
  · obtain ⟨p, r, B, hf, lB, ha, q⟩ := h
    have hl : vs.length ≤ N.length := by
      rw [ha.len, hn p]
      exact np
    refine ⟨_, cS_ps _ (fits_def hr), ?_⟩
    refine hb p B H B H _ (st_start lB ha hl) _ ?_
    replace hf : Fl.fin en (m p) = some r := hf
    cases hm : m p with
    | err => rw [hm] at hf; cases hf
    | nx s' =>
      rw [hm] at hf
      exact fun B' H' σ' _ O => q .non B' H' O.g (hen r hf B')
    | rt r' =>
      rw [hm] at hf
      cases hf
      exact fun B' H' v g rv => q v B' H' g rv
    | bk s' => rw [hm] at hf; cases hf
    | ct s' => rw [hm] at hf; cases hf
end
section
variable {c : Ct} {env : List Slot} {e o : Expr} {es : List Expr} {α β γ δ ε ζ R : Type} [Rep α] [Rep β] [Rep γ] [Rep δ] [Rep ε] [Rep ζ] [Rep R]
def DeP (c : Ct) (env : List Slot) (es : List Expr) {P : Type} [Pk P] (m : Option P) : Prop := ∃ t, (∀ X, Fits c X → PA X es t) ∧ ∀ p, m = some p → EvA c.K env t (Pk.sl p)
theorem dp_nil : DeP c env [] (some ()) := ⟨tNil, fun _ _ => pa_nil, fun p hp B H σ E Q q => q [] B H (Grow.refl E.bh) .nil⟩
theorem dp_cons {P : Type} [Pk P] {m : Option α} {n : Option P} (h : De c env e m) (g : DeP c env es n) (hs : ∀ env, starEach (e :: es) env = (false, eval e env) :: starEach es env := by intro _; rfl) :
    DeP c env (e :: es) (m.bind fun x => n.bind fun xs => some (x, xs)) := by
  obtain ⟨t, h1, h2⟩ := h
  obtain ⟨u, g1, g2⟩ := g
  refine ⟨_, fun X F => pa_cons (h1 X F) (g1 X F) (hs _), fun z hz B H σ E Q q => ?_⟩
  obtain ⟨x, ex, hz⟩ := bind_some hz
  obtain ⟨xs, exs, hz⟩ := bind_some hz
  cases hz
  exact h2 x ex B H σ E _ fun v B1 H1 k1 r1 => g2 xs exs B1 H1 σ (E.grow k1) _ fun vs B2 H2 k2 r2 => q (v :: vs) B2 H2 (k1.trans k2) (.cons (Rep.mono k2.b r1) r2)
structure Df (c : Ct) (x : Str) {P R : Type} [Pk P] [Rep R] (f : P → Option R) : Prop where
  ok : ∃ (j : Nat) (fa : Addr) (fd : FuncData) (ps : List Str), FnOk c.P c.w c.K c.mg c.base CX0 j fa fd ps (spF c.K f) ∧ j ≤ c.k ∧ c.mg x = some (.ref fa) ∧ PySem.W.keepIn c.K (.ref fa) = true ∧ Binds c.K fd ps []
theorem Df.blk {x : Str} {P R : Type} [Pk P] [Rep R] {f : P → Option R} (D : Df c x f) (scope : Scope) : Df (c.blk scope) x f := ⟨D.ok⟩
theorem de_call {P : Type} [Pk P] {f : P → Option R} {x : Str} {p pos : Pos} {m : Option P} (D : Df c x f) (h : DeP c env (e :: es) m) (hg : Gv c x := by rfl) (hdb : (x == ("__debug__" : Str)) = false := by decide)
    (he : ∀ env, starEach (e :: es) env = (false, eval e env) :: starEach es env := by intro _; rfl) (hpl : ∀ env, (backTo pos (starEach es env)).any (·.1) = false := by intro _; rfl) : De c env (.Call (.Name x p) (e :: es) [] pos) (m.bind f) := by
  obtain ⟨j, fa, fd, ps, F, hj, hm, hk, hb⟩ := D.ok
  obtain ⟨t, h1, h2⟩ := h
  refine ⟨tCall (spF c.K f) [] E0 t, fun X Fx => ?_, fun z hz B H σ E Q q => ?_⟩
  · refine pe_call (CX := CX0) (k := j) (f := fa) (fd := fd) (ps := ps) (ds := []) ?_ (Fx.room.mono hj) (fits_gl Fx hg) (by rw [Fx.mg]; exact hm) (by rw [Fx.K]; exact hk) (by rw [Fx.K]; exact hb) .nil pass0 (h1 X Fx) hdb (he _) (hpl _)
    rw [Fx.P, Fx.w, Fx.K, Fx.mg, Fx.base]
    exact F
  · obtain ⟨y, ey, hz⟩ := bind_some hz
    refine h2 y ey B H σ E _ fun vs B1 H1 k1 ha => ?_
    rw [List.append_nil]
    exact ⟨y, z, B1, hz, k1.bh, ha, fun v B2 H2 k2 r => q v B2 H2 (k1.trans k2) r⟩
theorem bind1 {A : Type} {m : Option α} {f : α × Unit → Option A} : ((m.bind fun x => (some ()).bind fun y => some (x, y)).bind f) = m.bind fun x => f (x, ()) := by cases m <;> rfl
theorem bind2 {A : Type} {m : Option α} {n : Option β} {f : α × β × Unit → Option A} : ((m.bind fun x => (n.bind fun x => (some ()).bind fun y => some (x, y)).bind fun y => some (x, y)).bind f) = m.bind fun x => n.bind fun y => f (x, y, ()) := by cases m <;> cases n <;> rfl
theorem bind3 {A : Type} {m : Option α} {n : Option β} {o : Option γ} {f : α × β × γ × Unit → Option A} : ((m.bind fun x => (n.bind fun x => (o.bind fun x => (some ()).bind fun y => some (x, y)).bind fun y => some (x, y)).bind fun y => some (x, y)).bind f) = m.bind fun x => n.bind fun y => o.bind fun z => f (x, y, z, ()) := by cases m <;> cases n <;> cases o <;> rfl
theorem de_call1 {f : α × Unit → Option R} {x : Str} {p pos : Pos} {e1 : Expr} {m1 : Option α} (D : Df c x f) (h1 : De c env e1 m1) (hg : Gv c x := by rfl) (hdb : (x == ("__debug__" : Str)) = false := by decide)
    (he : ∀ env, starEach [e1] env = (false, eval e1 env) :: starEach [] env := by intro _; rfl) : De c env (.Call (.Name x p) [e1] [] pos) (m1.bind fun a1 => f (a1, ())) := (de_call D (dp_cons h1 dp_nil he) hg hdb he (fun _ => rfl)).of bind1
theorem de_call2 {f : α × β × Unit → Option R} {x : Str} {p pos : Pos} {e1 e2 : Expr} {m1 : Option α} {m2 : Option β} (D : Df c x f) (h1 : De c env e1 m1) (h2 : De c env e2 m2) (hg : Gv c x := by rfl) (hdb : (x == ("__debug__" : Str)) = false := by decide)
    (he : ∀ env, starEach [e1, e2] env = (false, eval e1 env) :: starEach [e2] env := by intro _; rfl) (he2 : ∀ env, starEach [e2] env = (false, eval e2 env) :: starEach [] env := by intro _; rfl) : De c env (.Call (.Name x p) [e1, e2] [] pos) (m1.bind fun a1 => m2.bind fun a2 => f (a1, a2, ())) :=
  (de_call D (dp_cons h1 (dp_cons h2 dp_nil he2) he) hg hdb he (fun _ => by rw [he2]; rfl)).of bind2
theorem de_call3 {f : α × β × γ × Unit → Option R} {x : Str} {p pos : Pos} {e1 e2 e3 : Expr} {m1 : Option α} {m2 : Option β} {m3 : Option γ} (D : Df c x f) (h1 : De c env e1 m1) (h2 : De c env e2 m2) (h3 : De c env e3 m3) (hg : Gv c x := by rfl) (hdb : (x == ("__debug__" : Str)) = false := by decide)
    (he : ∀ env, starEach [e1, e2, e3] env = (false, eval e1 env) :: starEach [e2, e3] env := by intro _; rfl) (he2 : ∀ env, starEach [e2, e3] env = (false, eval e2 env) :: starEach [e3] env := by intro _; rfl) (he3 : ∀ env, starEach [e3] env = (false, eval e3 env) :: starEach [] env := by intro _; rfl) :
    De c env (.Call (.Name x p) [e1, e2, e3] [] pos) (m1.bind fun a1 => m2.bind fun a2 => m3.bind fun a3 => f (a1, a2, a3, ())) :=
  (de_call D (dp_cons h1 (dp_cons h2 (dp_cons h3 dp_nil he3) he2) he) hg hdb he (fun _ => by rw [he2, he3]; rfl)).of bind3
def HasF (K : PySem.W.Frag) (f : Str) (g : α → β) : Prop := ∀ (B : Hp) (v : V) (x : α), rep K B v x → ∃ a C dx fs u, v = .ref a ∧ B a = some (.ins C dx fs) ∧ Cls K C ∧ NoAttr K C f ∧ fs.lookup f = some u ∧ rep K B u (g x)
theorem de_fld {g : α → β} {f : Str} {pos : Pos} {m : Option α} (hf : HasF c.K f g) (h : De c env o m) (hb : ∀ env, attributeBase o f env (eval o env) = eval o env := by intro _; rfl) : De c env (.Attribute o f pos) (m.map g) := by
  obtain ⟨t, h1, h2⟩ := h
  refine ⟨tFld c.K t f, fun X F => by rw [← F.K]; exact pe_fld (h1 X F) (hb _), fun z hz B H σ E Q q => ?_⟩
  cases m with
  | none => cases hz
  | some y =>
    cases hz
    refine h2 y rfl B H σ E _ fun v B1 H1 k1 r => ?_
    obtain ⟨a, C, dx, fs, u, rfl, e1, e2, e3, e4, r2⟩ := hf B1 v y r
    exact ⟨a, C, dx, fs, u, rfl, k1.bh a _ e1, e2, e3, e4, q u B1 H1 k1 r2⟩
structure Mt (c : Ct) (α : Type) [Rep α] (x : Str) {P R : Type} [Pk P] [Rep R] (f : α × P → Option R) : Prop where
  ok : ∃ (C : Addr) (j : Nat) (fa : Addr) (fd : FuncData) (ps : List Str), FnOk c.P c.w c.K c.mg c.base CX0 j fa fd ps (spF c.K f) ∧ j ≤ c.k ∧ Cls c.K C ∧ Meth c.K C x fa ∧ Binds c.K fd ps [] ∧
    ∀ (B : Hp) (v : V) (y : α), rep c.K B v y → ∃ a dx fs, v = .ref a ∧ B a = some (.ins C dx fs) ∧ fs.lookup x = none
theorem Mt.blk {x : Str} {P R : Type} [Pk P] [Rep R] {f : α × P → Option R} (D : Mt c α x f) (scope : Scope) : Mt (c.blk scope) α x f := ⟨D.ok⟩
theorem de_meth1 {f : α × β × Unit → Option R} {x : Str} {p pos : Pos} {e1 : Expr} {m : Option α} {n : Option β} (D : Mt c α x f) (h : De c env o m) (g : De c env e1 n)
    (hpe : ∀ (X : Cx) (t u : TE) (C fa : Addr) (j : Nat) (fd : FuncData) (ps : List Str), PE X o t → PE X e1 u → Cls X.K C → Meth X.K C x fa → FnOk X.prog X.w X.K X.mg X.base CX0 j fa fd ps (spF X.K f) → Room j X.A → Binds X.K fd ps [] → PE X (.Call (.Attribute o x p) [e1] [] pos) (tMeth C x (spF X.K f) [] E0 t (tCons u tNil)) := by
      intro X t u C fa j fd ps h1 h0 h2 h3 h4 h5 h6; exact pe_meth h1 h2 h3 h4 h5 h6 .nil pass0 (pa_cons h0 pa_nil)) : De c env (.Call (.Attribute o x p) [e1] [] pos) (m.bind fun y => n.bind fun z => f (y, z, ())) := by
  obtain ⟨C, j, fa, fd, ps, F, hj, hc, hm, hb, hl⟩ := D.ok
  obtain ⟨t, h1, h2⟩ := h
  obtain ⟨u, g1, g2⟩ := g
  refine ⟨tMeth C x (spF c.K f) [] E0 t (tCons u tNil), fun X Fx => ?_, fun z hz B H σ E Q q => ?_⟩
  · rw [← Fx.K]
    refine hpe X t u C fa j fd ps (h1 X Fx) (g1 X Fx) (by rw [Fx.K]; exact hc) (by rw [Fx.K]; exact hm) ?_ (Fx.room.mono hj) (by rw [Fx.K]; exact hb)
    rw [Fx.P, Fx.w, Fx.K, Fx.mg, Fx.base]
    exact F
  · obtain ⟨y, ey, hz⟩ := bind_some hz
    obtain ⟨y2, ey2, hz⟩ := bind_some hz
    refine h2 y ey B H σ E _ fun v B1 H1 k1 r => ?_
    obtain ⟨a, dx, fs, rfl, e1, e2⟩ := hl B1 v y r
    refine ⟨a, dx, fs, rfl, k1.bh a _ e1, e2, ?_⟩
    refine g2 y2 ey2 B1 H1 σ (E.grow k1) _ fun v2 B2 H2 k2 r2 => ?_
    exact ⟨(y, y2, ()), z, B2, hz, k2.bh, .cons (Rep.mono k2.b r) (.cons r2 .nil), fun v B3 H3 k3 r => q v B3 H3 ((k1.trans k2).trans k3) r⟩
inductive Pr2.{u, v} {A : Type u} {B : Type v} (F : A → B → Prop) : List A → List B → Prop where
  | nil : Pr2 F [] []
  | cons {x : A} {y : B} {xs : List A} {ys : List B} : F x y → Pr2 F xs ys → Pr2 F (x :: xs) (y :: ys)
theorem Pr2.imp.{u, v} {A : Type u} {B : Type v} {F G : A → B → Prop} {xs : List A} {ys : List B} (p : Pr2 F xs ys) (h : ∀ x y, F x y → G x y) : Pr2 G xs ys := by
  induction p with
  | nil => exact .nil
  | cons r _ ih => exact .cons (h _ _ r) ih
theorem Pr2.snoc.{u, v} {A : Type u} {B : Type v} {F : A → B → Prop} {l1 : List A} {l2 : List B} {x : A} {y : B} (p : Pr2 F l1 l2) (h : F x y) : Pr2 F (l1 ++ [x]) (l2 ++ [y]) := by
  induction p with
  | nil => exact .cons h .nil
  | cons r _ ih => exact .cons r ih
def FldOk (K : PySem.W.Frag) (B : Hp) (p : Str × V) (q : Str × Slot) : Prop := p.1 = q.1 ∧ SlotOk K B B (some (some p.2)) q.2 ∧ isOwn q.2 = false
def insφ (C y : Addr) (l : List (Str × Slot)) : PySem.W.Frag → Hp → Addr → HO → Prop := fun K B a o => a = y ∧ ∃ dx fs, o = .ins C dx fs ∧ Pr2 (FldOk K B) fs l
theorem SlotOk.monoV {K : PySem.W.Frag} {B B' : Hp} {v : V} {s : Slot} (e : Le B B') (n : isOwn s = false) (h : SlotOk K B B (some (some v)) s) : SlotOk K B' B' (some (some v)) s := by
  cases s with
  | any => trivial
  | @val α' i' x =>
    obtain ⟨u, e1, r⟩ := h
    exact ⟨u, e1, Rep.mono e r⟩
  | obj φ hm => cases n
  | deep ψ hm => trivial
theorem insφ_mono (C y : Addr) (l : List (Str × Slot)) : ∀ K B B' a o, Le B B' → insφ C y l K B a o → insφ C y l K B' a o := fun K B B' a o e ⟨ha, dx, fs, h, p⟩ => ⟨ha, dx, fs, h, p.imp fun _ _ ⟨q1, q2, q3⟩ => ⟨q1, q2.monoV e q3, q3⟩⟩
abbrev Slot.ins (C y : Addr) (l : List (Str × Slot)) : Slot := .obj (insφ C y l) (insφ_mono C y l)
theorem putF_new {f : Str} {v : V} : ∀ {fs : List (Str × V)}, f ∉ fs.map (·.1) → putF f v fs = fs ++ [(f, v)]
  | [], _ => rfl
  | (g, u) :: r, h => by
    have n : ¬ g = f := fun q => h (by rw [q]; exact List.mem_cons_self ..)
    have ih := putF_new (f := f) (v := v) (fs := r) fun q => h (List.mem_cons_of_mem _ q)
    show (if g = f then _ else _) = _
    rw [if_neg n, ih]
    rfl
theorem fld_names {K : PySem.W.Frag} {B : Hp} {fs : List (Str × V)} {l : List (Str × Slot)} (p : Pr2 (FldOk K B) fs l) : fs.map (·.1) = l.map (·.1) := by
  induction p with
  | nil => rfl
  | cons r _ ih => rw [List.map_cons, List.map_cons, ih, r.1]
end
section
variable {S L R : Type} [Rep R] {c : Ct} {env : List Slot} {rest : List Stmt} {e : Expr} {mk : S → List Slot} {lk : L → List Slot} {α : Type} [Rep α]
theorem ds_fld (i : Nat) {x f : Str} {C y0 : Addr} {l : List (Str × Slot)} {p1 p2 pos : Pos} {m : Option α} {k : α → Fl S L R} (hi : env[i]? = some (.ins C y0 l)) (hN : c.N[i]? = some x) (hv : Vis c.sc x) (hc : Cls c.K C) (hna : NoAttr c.K C f) (hl : l.length < 1000) (hf : f ∉ l.map (·.1))
    (h : De c env e m) (g : ∀ y, DeS c (env.set i (.ins C y0 (l ++ [(f, .val y)]))) rest mk lk (k y)) (hs : ∀ env : PySem.Env, env.scope = c.sc → swapsWith e (some (.Attribute (.Name x p1) f p2)) pos.line env = pure false) (hd : (x == ("__debug__" : Str)) = false := by decide) (hcd : (x == ("__classdict__" : Str)) = false := by decide) :
    DeS c env (.Assign [.Attribute (.Name x p1) f p2] e pos :: rest) mk lk (Fl.bindO m k) := .mk fun B0 H0 B H σ O D P => by
  obtain ⟨y, ey, P⟩ := post_bindO P
  obtain ⟨t, h1, h2⟩ := h
  refine cS_cons (t := sFld c.K (tVar i) t f) (fun X F => by rw [← F.K]; exact ps_fld (pe_var (fits_ix F hN) (fits_vis F hv) hd hcd) (h1 X F) (hs _ F.sc)) ?_
  refine h2 y ey B H σ O.en _ fun v B1 H1 k1 rv => ?_
  have O1 := O.grow k1
  obtain ⟨a, ob, e1, e2, e3, rfl, dx, fs, rfl, pr⟩ := O1.en.obj hi
  have nm := fld_names pr
  have ln : fs.length = l.length := by
    have := congrArg List.length nm
    simpa using this
  refine ⟨.ref a, e1, a, C, dx, fs, rfl, e2, hc, hna, by rw [ln]; exact hl, ?_⟩
  refine g y B0 H0 B1 _ σ (O1.change i hi e1 ⟨rfl, dx, _, rfl, ?_⟩) D (P.mono k1.b)
  rw [putF_new (by rw [nm]; exact hf)]
  exact pr.snoc ⟨rfl, ⟨v, rfl, rv⟩, rfl⟩
end
def spI (K : PySem.W.Frag) (C : Addr) {P R : Type} [Pk P] (fl : R → List (Str × Slot)) (f : P → Option R) : Sp := fun vs H Q _ => ∃ (p : P) (r : R) (B : Hp) (x dx : Addr) (ws : List V), vs = .ref x :: ws ∧ f p = some r ∧ Le B H ∧ Args K B ws (Pk.sl p) ∧ H x = some (.ins C dx []) ∧ B x = none ∧
  ∀ o B' H', Le B B' → Le B' H' → (∀ a u, a ≠ x → H a = some u → H' a = some u) → (∀ a, B a = none → ¬ H a = none → B' a = none) → H' x = some o → insφ C x (fl r) K B' x o → Q .non H'
theorem st_init {K : PySem.W.Frag} {Pp : Type} [Pk Pp] {C y dx : Addr} {B H : Hp} {N : List Str} {ws : List V} {p : Pp} (lB : Le B H) (ha : Args K B ws (Pk.sl p)) (hy : H y = some (.ins C dx [])) (by0 : B y = none) (hl : (V.ref y :: ws).length ≤ N.length) :
    StOk K B (fun a => if a = y then none else H a) B H (L2.start N (V.ref y :: ws)) (.ins C y [] :: (Pk.sl p ++ List.replicate (N.length - (Pk.sl p).length - 1) .any)) := by
  have lB0 : Le B (fun a => if a = y then none else H a) := fun a u z => by
    have n : a ≠ y := fun k => by rw [k, by0] at z; cases z
    show (if a = y then none else H a) = some u
    rw [if_neg n]
    exact lB a u z
  have l0 : Le (fun a => if a = y then none else H a) H := fun a u z => by
    have z : (if a = y then none else H a) = some u := z
    split at z
    · cases z
    · exact z
  have st0 := st_start (N := N) lB ha (Nat.le_trans (Nat.le_succ _) hl)
  have at0 : ∀ i : Nat, (L2.start N (V.ref y :: ws))[i + 1]? = (ws.map some ++ List.replicate (N.length - (ws.length + 1)) none)[i]? := fun i => rfl
  have O : StOk K B (fun a => if a = y then none else H a) B H (L2.start N (V.ref y :: ws)) (.ins C y [] :: (Pk.sl p ++ List.replicate (N.length - (Pk.sl p).length - 1) .any)) := by
    have key : ∀ (i : Nat) (s : Slot), (Pk.sl p ++ List.replicate (N.length - (Pk.sl p).length - 1) Slot.any)[i]? = some s → s = .any ∨ (i < (Pk.sl p).length ∧ (Pk.sl p)[i]? = some s) := fun i s h => by
      by_cases q : i < (Pk.sl p).length
      · rw [List.getElem?_append_left q] at h
        exact .inr ⟨q, h⟩
      · rw [List.getElem?_append_right (by omega)] at h
        exact .inl (List.eq_of_mem_replicate (List.mem_of_getElem? h))
    have no : ∀ (i : Nat) (s : Slot), (Slot.ins C y [] :: (Pk.sl p ++ List.replicate (N.length - (Pk.sl p).length - 1) Slot.any))[i]? = some s → isOwn s = true → i = 0 := fun i s h o => by
      cases i with
      | zero => rfl
      | succ i =>
        rcases key i s (by simpa using h) with rfl | ⟨_, h⟩
        · cases o
        · rw [(ha.get h).2] at o
          cases o
    refine ⟨⟨lB, ?_, fun i s h => ?_, fun i j s t h1 h2 o1 o2 _ => ?_⟩, ⟨Le.refl _, lB, l0, fun _ z _ => z⟩, fun i s a h o e => ?_, fun i ψ hm h => by
      cases i with
      | zero => cases h
      | succ i =>
        rcases key i _ (by simpa using h) with z | ⟨_, h⟩
        · cases z
        · exact absurd h (ha.noDeep i ψ hm)⟩
    · rw [start_len hl, List.length_cons, List.length_append, List.length_replicate]
      rw [List.length_cons, ha.len] at hl
      omega
    · cases i with
      | zero =>
        cases h
        exact ⟨y, _, rfl, hy, by0, rfl, dx, [], rfl, .nil⟩
      | succ i =>
        rcases key i s (by simpa using h) with rfl | ⟨q, h⟩
        · trivial
        · rw [at0, List.getElem?_append_left (by rw [List.length_map, ha.len]; exact q)]
          have z := (ha.get h).1
          cases s with
          | any => trivial
          | @val α' i' x => exact z
          | obj φ hm =>
            have := (ha.get h).2
            cases this
          | deep ψ hm => trivial
    · rw [no i s h1 o1, no j t h2 o2]
    · have e0 := no i s h o
      subst e0
      cases e
      show (if y = y then none else H y) = none
      rw [if_pos rfl]
  exact O
theorem init_ok {P : Program} {w : World} {K : PySem.W.Frag} {mg : Str → Option Value} {base : Heap} {Pp S L R : Type} [Pk Pp] {x qual : Str} {st : Stmt} {f C : Addr} {fd : FuncData} {N ps : List Str} {k : Nat} {mk : Addr → S → List Slot} {lk : L → List Slot} {m : Pp → Fl S L Unit} {fl : R → List (Str × Slot)} {r : S → R}
    (F : Fun K x qual st f fd) (Sc : FnScope N ps (defScope st)) (np : ps.length ≤ N.length) (hn : ∀ p : Pp, (Pk.sl p).length + 1 = ps.length) (hmk : ∀ y s, (mk y s)[0]? = some (.ins C y (fl (r s))))
    (hb : ∀ (p : Pp) (y : Addr), DeS (ctOf P w K mg base k N (defScope st)) (.ins C y [] :: (Pk.sl p ++ List.replicate (N.length - (Pk.sl p).length - 1) .any)) (defBody st) (mk y) lk (m p)) :
    FnOk P w K mg base CX0 (k + 1) f fd ps (spI K C fl fun p => match m p with | .nx s => some (r s) | _ => none) := by
  refine F.ok Sc (fun vs H Q E h => ?_) (fun cdv A outer s H vs Q E hr h => ?_)
  · obtain ⟨p, r, B, y, dx, ws, rfl, _, _, ha, _⟩ := h
    rw [List.length_cons, ha.len, hn p]
  · obtain ⟨p, r', B, y, dx, ws, rfl, hf, lB, ha, hy, by0, q⟩ := h
    have hl : (V.ref y :: ws).length ≤ N.length := by
      rw [List.length_cons, ha.len, hn p]
      exact np
    refine ⟨_, cS_ps _ (fits_def hr), ?_⟩
    have O := st_init (C := C) (N := N) (p := p) lB ha hy by0 hl
    refine hb p y B _ B H _ O _ ?_
    replace hf : (match m p with | .nx s => some (r s) | _ => none) = some r' := hf
    cases hm : m p with
    | err => rw [hm] at hf; cases hf
    | nx s' =>
      rw [hm] at hf
      cases hf
      intro B' H' σ' lb O'
      obtain ⟨a, o, e1, e2, e3, e4⟩ := O'.en.obj (hmk y s')
      obtain ⟨rfl, _⟩ := id e4
      refine q o B' H' lb O'.en.bh (fun b u n z => O'.g.h b u ?_) (fun b z n => ?_) e2 e4
      · show (if b = a then none else H b) = some u
        rw [if_neg n]
        exact z
      · by_cases k : b = a
        · rw [k]
          exact e3
        · refine O'.g.f b z fun t => n ?_
          have t : (if b = a then none else H b) = none := t
          rw [if_neg k] at t
          exact t
    | rt r' => rw [hm] at hf; cases hf
    | bk s' => rw [hm] at hf; cases hf
    | ct s' => rw [hm] at hf; cases hf
end Dn

set_option Elab.async false
set_option linter.all false
set_option maxRecDepth 100000
namespace Dn
open PySem PySem.Spec L2
open Rep (rep)
open ORep (orep)
section
variable {c : Ct} {env : List Slot} {e a b d elt iter tg t : Expr} {es : List Expr} {α β γ R : Type} [Rep α] [Rep β] [Rep γ] [Rep R]
theorem sw_cell {gs : List Comprehension} {scope : Scope} {pos py : Pos} {y : Str} {l : Nat} {sc : Scope} (hy : sc.names.lookup y = some .cell) : ∀ env : PySem.Env, env.scope = sc → swapsWith (.ListComp elt gs scope pos) (some (.Name y py)) l env = pure false := by
  intro env h
  have k : env.kindOf y = some .cell := by
    show env.scope.names.lookup y = some .cell
    rw [h]
    exact hy
  have z : (NameKind.cell == NameKind.local) = false := by decide
  unfold swapsWith
  simp [k, z]
theorem as_comp (i : Nat) {y : Str} {py pos spos : Pos} {scope : Scope} {own : List (Str × Nat)} {is : List Nat} {f : α → List Slot → List Slot} {m : Option (List α)} {h : α → Option γ} (nd : c.N.Nodup) (hN : c.N[i]? = some y) (hy : c.sc.names.lookup y = some .local) (hk : c.sc.kind = .function) (hl : (py.line == pos.line) = true)
    (hn : (scope.names.any fun (n, k) => n == y && (k == .local || k == .cell)) = false) (hi : DeIt c env iter m) (ok : BlkOk c.N c.sc scope own) (hg : DeTg (c.blk scope) tg f is) (sub : ∀ i ∈ is, i ∈ own.map (·.2))
    (he : ∀ x, De (c.blk scope) (f x (wipeE env (own.map (·.2)))) elt (h x)) (hs : ∀ env x, foldedSetIterable iter env x = pure x := by intro _ _; rfl) :
    AsN c env (.Assign [.Name y py] (.ListComp elt [⟨tg, iter, [], 0⟩] scope pos) spos) i (m.bind fun xs => (capI xs).bind fun xs => mapO h xs) := by
  obtain ⟨wi, i1, i2⟩ := hi
  obtain ⟨g, g1, g2⟩ := hg
  refine ⟨_, fun X F => ps_setLc F.calm (by rw [F.N]; exact nd) (fits_ix F hN) (by rw [F.sc]; exact hy) (sw_true (by rw [F.sc]; exact hk) (by rw [F.sc]; exact hy) hl hn) (i1 X F tg) (by rw [F.N, F.sc]; exact ok) (fun s H C cl fp => g1 _ (F.blk s H scope C cl fp)) (fun s H C cl fp => pts_nil) (fun s H C cl fp => cE_pe _ (F.blk s H scope C cl fp)) (hs _), fun z hz => ?_⟩
  obtain ⟨xs, ex, hz⟩ := bind_some hz
  obtain ⟨xs', hc, hz⟩ := bind_some hz
  unfold capI at hc
  split at hc
  · rename_i hl
    cases hc
    rw [← mapO_comp] at hz
    refine ev_comp (i2 xs ex) g2 sub (fun x o eo B H σ E Q q => ?_) (fun x y ey => (he x).can y ?_) (of_decide_eq_true hl) hz
    · cases o with
      | none =>
        cases g : h x with
        | none => rw [g] at eo; cases eo
        | some y => rw [g] at eo; cases eo
      | some y => exact q B H (Grow.refl E.bh)
    · cases g : h x with
      | none => rw [g] at ey; cases ey
      | some y' => rw [g] at ey; cases ey; rfl
  · cases hc
structure Md (c : Ct) (x : Str) (C : Addr) {P R : Type} [Pk P] (fl : R → List (Str × Slot)) (f : P → Option R) : Prop where
  ok : ∃ (j : Nat) (fa : Addr) (fd : FuncData) (ps : List Str), FnOk c.P c.w c.K c.mg c.base CX0 j fa fd ps (spI c.K C fl f) ∧ j + 1 ≤ c.k ∧ c.mg x = some (.ref C) ∧ Mk c.K C fa ∧ Binds c.K fd ps []
theorem de_make {P : Type} [Pk P] {C : Addr} {fl : R → List (Str × Slot)} {f : P → Option R} {x : Str} {p pos : Pos} {m : Option P} (D : Md c x C fl f) (hr : ∀ (B : Hp) (a dx : Addr) (fs : List (Str × V)) (r : R), B a = some (.ins C dx fs) → Pr2 (FldOk c.K B) fs (fl r) → rep c.K B (.ref a) r)
    (h : DeP c env (e :: es) m) (hg : Gv c x := by rfl) (hdb : (x == ("__debug__" : Str)) = false := by decide) (he : ∀ env, starEach (e :: es) env = (false, eval e env) :: starEach es env := by intro _; rfl) (hpl : ∀ env, (backTo pos (starEach es env)).any (·.1) = false := by intro _; rfl) :
    De c env (.Call (.Name x p) (e :: es) [] pos) (m.bind f) := by
  obtain ⟨j, fa, fd, ps, F, hj, hm, mk, hb⟩ := D.ok
  obtain ⟨t, h1, h2⟩ := h
  refine ⟨tMake C (spI c.K C fl f) [] E0 t, fun X Fx => ?_, fun z hz B H σ E Q q => ?_⟩
  · refine pe_make (CX := CX0) (k := j) (f := fa) (fd := fd) (ps := ps) (ds := []) (by rw [Fx.K]; exact mk) ?_ (Fx.room.mono hj) (fits_gl Fx hg) (by rw [Fx.mg]; exact hm) (by rw [Fx.K]; exact hb) .nil pass0 (h1 X Fx) hdb (he _) (hpl _)
    rw [Fx.P, Fx.w, Fx.K, Fx.mg, Fx.base]
    exact F
  · obtain ⟨y, ey, hz⟩ := bind_some hz
    refine h2 y ey B H σ E _ fun vs B1 H1 k1 ha x dx nx nd ne => ?_
    rw [List.append_nil]
    have ex : ∀ u, u ≠ x → u ≠ dx → (upd (upd H1 dx (.own x)) x (.ins C dx [])) u = H1 u := fun u h1 h2 => by rw [upd_ne h1, upd_ne h2]
    have l1 : Le H1 (upd (upd H1 dx (.own x)) x (.ins C dx [])) := fun u o z => by
      rw [ex u (fun k => by rw [k, nx] at z; cases z) (fun k => by rw [k, nd] at z; cases z)]
      exact z
    refine ⟨y, z, B1, x, dx, vs, rfl, hz, k1.bh.trans l1, ha, upd_same, k1.bh.none nx, fun o B2 H2 b12 b2 hh hf ho hi => ⟨rfl, ?_⟩⟩
    obtain ⟨_, dx', fs, rfl, pr⟩ := id hi
    have nb2 : B2 x = none := hf x (k1.bh.none nx) (by rw [upd_same]; exact fun z => nomatch z)
    have lB : Le (upd B2 x (.ins C dx' fs)) H2 := fun u o z => by
      by_cases k : u = x
      · rw [k, upd_same] at z
        rw [k, ho, z]
      · rw [upd_ne k] at z
        exact b2 u o z
    refine q (.ref x) (upd B2 x (.ins C dx' fs)) H2 (k1.trans ⟨b12.trans (Le.put nb2), lB, fun u o z => hh u o (fun k => by rw [k, nx] at z; cases z) (l1 u o z), fun u z n => ?_⟩) (hr _ x dx' fs z upd_same (pr.imp fun _ _ ⟨q1, q2, q3⟩ => ⟨q1, q2.monoV (Le.put nb2) q3, q3⟩))
    rw [upd_ne (fun k => n (by rw [k]; exact nx))]
    refine hf u z fun w => n ?_
    rw [ex u (fun k => n (by rw [k]; exact nx)) (fun k => n (by rw [k]; exact nd))] at w
    exact w
end
section
variable {S L R : Type} [Rep R] {c : Ct} {env : List Slot} {rest : List Stmt} {e i : Expr} {mk : S → List Slot} {lk : L → List Slot} {α : Type} [Rep α]
end
end Dn

set_option Elab.async false
set_option linter.all false
set_option maxRecDepth 100000
namespace Dn
open PySem PySem.Spec L2
open Rep (rep)
open ORep (orep)
section
variable {c : Ct} {env : List Slot} {e a b d : Expr} {es : List Expr} {α β γ δ ε ζ R : Type} [Rep α] [Rep β] [Rep γ] [Rep δ] [Rep ε] [Rep ζ] [Rep R]
structure Cmp (c : Ct) (op : CmpOp) (f : α → β → Option Bool) : Prop where
  ok : ∃ r, (∀ X, Fits c X → OpR X (compareOp op) r) ∧ OpS c.K r f
theorem cmp_lt : Cmp c .Lt (fun x y : Int => some (decide (x < y))) := ⟨_, fun _ _ => op_lt, ops_B0⟩
theorem cmp_le : Cmp c .LtE (fun x y : Int => some (decide (x ≤ y))) := ⟨_, fun _ _ => op_le, ops_B0⟩
theorem cmp_gt : Cmp c .Gt (fun x y : Int => some (decide (y < x))) := ⟨_, fun _ _ => op_gt, ops_B0 (g := fun x y => decide (y < x))⟩
theorem cmp_ge : Cmp c .GtE (fun x y : Int => some (decide (y ≤ x))) := ⟨_, fun _ _ => op_ge, ops_B0 (g := fun x y => decide (y ≤ x))⟩
theorem cmp_eqI : Cmp c .Eq (fun x y : Int => some (decide (x = y))) := ⟨_, fun _ _ => op_eq, fun x y z hz B H v u hB r1 r2 Q q => by
  cases hz; cases r1; cases r2
  refine ⟨rfl, q _ B H (Grow.refl hB) ?_⟩
  show V.bl _ = V.bl _
  rw [dec_int, Bool.beq_eq_decide_eq]⟩
theorem cmp_neI : Cmp c .NotEq (fun x y : Int => some (!decide (x = y))) := ⟨_, fun _ _ => op_ne, fun x y z hz B H v u hB r1 r2 Q q => by
  cases hz; cases r1; cases r2
  refine ⟨rfl, q _ B H (Grow.refl hB) ?_⟩
  show V.bl _ = V.bl _
  rw [dec_int, Bool.beq_eq_decide_eq]⟩
theorem cmp_eqS : Cmp c .Eq (fun x y : Str => some (decide (x = y))) := ⟨_, fun _ _ => op_eq, fun x y z hz B H v u hB r1 r2 Q q => by
  cases hz; cases r1; cases r2
  refine ⟨rfl, q _ B H (Grow.refl hB) ?_⟩
  show V.bl _ = V.bl _
  rw [dec_str, Bool.beq_eq_decide_eq]⟩
theorem cmp_neD {α : Type} [Dat α] : Cmp c .NotEq (fun x y : α => neI x y) := ⟨rNeD c.K, fun X F => by rw [← F.K]; exact op_neD (fits_units F), fun x y z hz B H v u hB r1 r2 Q q => by
  replace hz : neI x y = some z := hz
  unfold neI at hz
  split at hz
  · rename_i h
    cases hz
    simp only [Bool.and_eq_true, decide_eq_true_eq] at h
    refine ⟨_, _, Dat.dp (Rep.mono hB r1), Dat.dp (Rep.mono hB r2), lay_sh h.1.1 h.2, lay_sh h.1.2 h.2, ?_⟩
    rw [Dat.eqv]
    refine q _ B H (Grow.refl hB) ?_
    show V.bl _ = V.bl _
    exact congrArg V.bl (congrArg Bool.not (decide_eq_decide.mpr Iff.rfl))
  · cases hz⟩
theorem cmp_inS : Cmp c .In (fun x y : Str => inS x y) := ⟨_, fun _ _ => op_in_str, fun x y z hz B H v u hB r1 r2 Q q => by
  cases hz; cases r1; cases r2
  exact ⟨x, y, rfl, rfl, q _ B H (Grow.refl hB) rfl⟩⟩
theorem cmp_ninS : Cmp c .NotIn (fun x y : Str => (inS x y).map (!·)) := ⟨_, fun _ _ => op_notin_str, fun x y z hz B H v u hB r1 r2 Q q => by
  cases hz; cases r1; cases r2
  exact ⟨x, y, rfl, rfl, q _ B H (Grow.refl hB) rfl⟩⟩
theorem inq {α : Type} [Flat α] [DecidableEq α] {K : PySem.W.Frag} {B : Hp} {v u : V} {vs : List V} {x : α} {ys : List α} (r1 : rep K B v x) (r : Reps K B vs ys) : flatV v = true ∧ vs.all flatV = true ∧ inV v vs = decide (x ∈ ys) := by
  have e := Flat.is r1
  subst e
  have e := r.flat
  subst e
  exact ⟨Flat.flat x, flat_all ys, inV_map x ys⟩
theorem cmp_ninU {α : Type} [Flat α] [DecidableEq α] : Cmp c .NotIn (fun (x : α) (y : Tup α) => some (!decide (x ∈ y.l))) := ⟨rIn c.K true, fun X F => by rw [← F.K]; exact op_notIn_seq, fun x y z hz B H v u hB r1 r2 Q q => by
  cases hz
  obtain ⟨p, vs, rfl, s, r⟩ := r2
  obtain ⟨h1, h2, h3⟩ := inq (u := .ref p) r1 r
  refine ⟨p, vs, rfl, .inr (hB.t s), h1, h2, ?_⟩
  show Q (.bl (!inV _ _)) H
  rw [h3]
  exact q _ B H (Grow.refl hB) rfl⟩
theorem de_c {op : CmpOp} {pos : Pos} {f : α → β → Option Bool} {ma : Option α} {mb : Option β} (C : Cmp c op f) (ha : De c env a ma) (hb : De c env b mb) (hm : behindInMarks op b = false := by first | exact nomark _ | rfl) :
    De c env (.Compare a [op] [b] pos) (ma.bind fun x => mb.bind fun y => f x y) := by
  obtain ⟨r, h1, h2⟩ := C.ok
  exact de_cmp h1 h2 ha hb hm
theorem dt_c1 {op : CmpOp} {pos : Pos} {f : α → β → Option Bool} {ma : Option α} {mb : Option β} (C : Cmp c op f) (ha : De c env a ma) (hb : De c env b mb) (hm : behindInMarks op b = false := by first | exact nomark _ | rfl) :
    DeT c env (.Compare a [op] [b] pos) (ma.bind fun x => mb.bind fun y => f x y) := by
  obtain ⟨r, h1, h2⟩ := C.ok
  exact dt_cmp h1 h2 ha hb hm
def chO {α β γ : Type} (f : α → β → Option Bool) (g : β → γ → Option Bool) (ma : Option α) (mb : Option β) (mc : Option γ) : Option Bool := ma.bind fun x => mb.bind fun y => (f x y).bind fun k => if k = true then mc.bind fun z => g y z else some false
theorem ev_chain {K : PySem.W.Frag} {r r' : R2} {f : α → β → Option Bool} {g : β → γ → Option Bool} {ta tb tc : TE} {ma : Option α} {mb : Option β} {mc : Option γ} {k : Bool} (hr : OpS K r f) (hr' : OpS K r' g) (h1 : ∀ x, ma = some x → EvE K env ta x) (h2 : ∀ x, mb = some x → EvE K env tb x) (h3 : ∀ x, mc = some x → EvE K env tc x)
    (hz : chO f g ma mb mc = some k) : EvE K env (tChain r r' ta tb tc) k := fun B H σ E Q q => by
  obtain ⟨x, ex, hz⟩ := bind_some hz
  obtain ⟨y, ey, hz⟩ := bind_some hz
  obtain ⟨j, ej, hz⟩ := bind_some hz
  refine h1 x ex B H σ E _ fun v B1 H1 k1 r1 => h2 y ey B1 H1 σ (E.grow k1) _ fun u B2 H2 k2 r2 => hr x y j ej B2 H2 v u k2.bh (Rep.mono k2.b r1) r2 _ fun w B3 H3 k3 r3 => ?_
  cases r3
  have g3 := (k1.trans k2).trans k3
  refine ⟨j, rfl, ?_⟩
  cases j with
  | true =>
    obtain ⟨z, ez, hz⟩ := bind_some hz
    exact iteT (h3 z ez B3 H3 σ (E.grow g3) _ fun w4 B4 H4 k4 r4 => hr' y z k hz B4 H4 u w4 k4.bh (Rep.mono (k3.b.trans k4.b) r2) r4 Q fun w5 B5 H5 k5 r5 => q w5 B5 H5 ((g3.trans k4).trans k5) r5)
  | false =>
    cases hz
    exact iteF (q _ B3 H3 g3 rfl)
theorem dt_chain {op op' : CmpOp} {pos : Pos} {f : α → β → Option Bool} {g : β → γ → Option Bool} {ma : Option α} {mb : Option β} {mc : Option γ} (C : Cmp c op f) (C' : Cmp c op' g) (ha : De c env a ma) (hb : De c env b mb) (hd : De c env d mc) (hm : lastMarks [op, op'] [b, d] = false := by with_unfolding_all rfl) :
    DeT c env (.Compare a [op, op'] [b, d] pos) (chO f g ma mb mc) := by
  obtain ⟨r, c1, c2⟩ := C.ok
  obtain ⟨r', d1, d2⟩ := C'.ok
  obtain ⟨ta, a1, a2⟩ := ha
  obtain ⟨tb, b1, b2⟩ := hb
  obtain ⟨tc, e1, e2⟩ := hd
  refine ⟨_, fun X F => pt_chain (c1 X F) (d1 X F) (a1 X F) (b1 X F) (e1 X F) hm, fun z hz B H σ E Q q => ev_chain c2 d2 a2 b2 e2 hz B H σ E _ fun v B' H' g r => ?_⟩
  cases r
  exact ⟨z, rfl, q B' H' g⟩
end
structure Tf (K : PySem.W.Frag) (mg : Str → Option Value) (x : Str) (st : Stmt) (ps : List Str) : Prop where
  ok : ∃ (fa : Addr) (fd : FuncData), mg x = some (.ref fa) ∧ Fun K x x st fa fd ∧ Binds K fd ps []
structure Gd (P : Program) (w : World) (K : PySem.W.Frag) (mg : Str → Option Value) (base : Heap) (j : Nat) (x : Str) {Q R : Type} [Pk Q] [Rep R] (f : Q → Option R) : Prop where
  ok : ∃ (fa : Addr) (fd : FuncData) (ps : List Str), FnOk P w K mg base CX0 j fa fd ps (spF K f) ∧ mg x = some (.ref fa) ∧ PySem.W.keepIn K (.ref fa) = true ∧ Binds K fd ps []
theorem Gd.df {P : Program} {w : World} {K : PySem.W.Frag} {mg : Str → Option Value} {base : Heap} {j : Nat} {x : Str} {Q R : Type} [Pk Q] [Rep R] {f : Q → Option R} (G : Gd P w K mg base j x f) {c : Ct} (hP : c.P = P := by rfl) (hw : c.w = w := by rfl) (hK : c.K = K := by rfl) (hmg : c.mg = mg := by rfl) (hb : c.base = base := by rfl) (hj : j ≤ c.k := by exact Nat.le_of_ble_eq_true rfl) : Df c x f := by
  obtain ⟨P', w', K', mg', base', k, N, sc, fn, df⟩ := c
  cases hP; cases hw; cases hK; cases hmg; cases hb
  obtain ⟨fa, fd, ps, h1, h2, h3, h4⟩ := G.ok
  exact ⟨j, fa, fd, ps, h1, hj, h2, h3, h4⟩
theorem Tf.gd {P : Program} {w : World} {K : PySem.W.Frag} {mg : Str → Option Value} {base : Heap} {x : Str} {st : Stmt} {Pp S L R : Type} [Pk Pp] [Rep R] {N ps : List Str} {k : Nat} {mk : S → List Slot} {lk : L → List Slot} {m : Pp → Fl S L R} {en : Option R} (T : Tf K mg x st ps) (Sc : FnScope N ps (defScope st)) (np : ps.length ≤ N.length)
    (hn : ∀ p : Pp, (Pk.sl p).length = ps.length) (hen : ∀ r, en = some r → ∀ B, rep K B .non r)
    (hb : ∀ p : Pp, DeS (ctOf P w K mg base k N (defScope st)) (Pk.sl p ++ List.replicate (N.length - (Pk.sl p).length) .any) (defBody st) mk lk (m p)) : Gd P w K mg base (k + 1) x (fun p => (m p).fin en) := by
  obtain ⟨fa, fd, hm, F, hb'⟩ := T.ok
  exact ⟨fa, fd, ps, fn_ok F Sc np hn hen hb, hm, F.kp, hb'⟩
end Dn

set_option Elab.async false
set_option linter.all false
set_option maxRecDepth 100000
namespace Dn
open PySem PySem.Spec L2
open Rep (rep)
open ORep (orep)
section
variable {X : Cx}
def rCat0 (K : PySem.W.Frag) : R2 := fun x y H Q => ∃ a b xs ys, x = .ref a ∧ y = .ref b ∧ SqT K H a xs ∧ SqT K H b ys ∧ xs.length + ys.length ≤ sizeLine ∧
  (xs = [] → Q (.ref b) H) ∧ (xs ≠ [] → ys = [] → Q (.ref a) H) ∧ (xs ≠ [] → ys ≠ [] → ∀ p, H p = none → Q (.ref p) (upd H p (.tup (xs ++ ys))))
theorem op_cat0 : OpR X (binaryOp .Add) (rCat0 X.K) := by
  intro pins s σ H x y v u Q I rx ry h
  obtain ⟨a, b, xs, ys, rfl, rfl, ha, hb, hz, q0, q1, q2⟩ := h
  by_cases hx : xs = []
  · cases rx
    cases ry
    obtain ⟨its, r1, p1, _⟩ := I.tuple ha
    obtain ⟨its2, r2, p2, _⟩ := I.tuple hb
    obtain ⟨⟨cls, dd, data, sl⟩, ho, hc, n, hd⟩ := id p1
    obtain ⟨⟨cls2, dd2, data2, sl2⟩, ho2, hc2, n2, hd2⟩ := id p2
    simp only at hc hd hc2 hd2
    subst hc hd hc2 hd2
    have e : its = [] := r1.nil_iff.mpr hx
    exact concat_meets ⟨_, ho, rfl⟩ ⟨_, ho2, rfl⟩ noFill_tuple_add seq_tuple_add PySem.F.slot_tuple_add PySem.F.entry_tuple_add (PySem.F.args_tuple_add_2 _ _)
      (PyProof.Rows.tuple_addW0 a b its.toArray its2.toArray n n2 dd dd2 sl sl2 (by rw [e]; rfl)) ⟨ho, ho2, ⟨.ref b, H, I, rfl, q0 hx⟩⟩
  · exact op_catT pins s σ H (.ref a) (.ref b) v u Q I rx ry ⟨a, b, xs, ys, rfl, rfl, ha, hb, hx, hz, q1 hx, q2 hx⟩
end
section
variable {c : Ct} {env : List Slot} {e a b d elt iter tg iter1 tg1 : Expr} {es : List Expr} {α β γ δ : Type} [Rep α] [Rep β] [Rep γ] [Rep δ]
def catU {α : Type} (x y : Tup α) : Option (Tup α) := if len1 (x.l.length + y.l.length) = true then some ⟨x.l ++ y.l⟩ else none
theorem ops_cat : OpS c.K (rCat0 c.K) (catU (α := α)) := fun x y z hz B H v u hB r1 r2 Q q => by
  unfold catU at hz
  split at hz
  · rename_i hl
    cases hz
    obtain ⟨p1, vs, rfl, s1, r1⟩ := r1
    obtain ⟨p2, ws, rfl, s2, r2⟩ := r2
    have l1 := r1.len
    have l2 := r2.len
    refine ⟨p1, p2, vs, ws, rfl, rfl, hB.t s1, hB.t s2, by rw [l1, l2]; exact len1_ok hl, fun e => ?_, fun _ e => ?_, fun _ _ p hp => ?_⟩
    · subst e
      have e2 : x.l = [] := List.length_eq_zero_iff.mp l1.symm
      refine q (.ref p2) B H (Grow.refl hB) ⟨p2, ws, rfl, s2, ?_⟩
      show Reps c.K B ws (x.l ++ y.l)
      rw [e2]
      exact r2
    · subst e
      have e2 : y.l = [] := List.length_eq_zero_iff.mp l2.symm
      refine q (.ref p1) B H (Grow.refl hB) ⟨p1, vs, rfl, s1, ?_⟩
      show Reps c.K B vs (x.l ++ y.l)
      rw [e2, List.append_nil]
      exact r1
    · exact q (.ref p) _ _ (Grow.new hB hp) ⟨p, vs ++ ws, rfl, SqT.of upd_same, (r1.append r2).mono (Le.put (hB.none hp))⟩
  · cases hz
theorem de_catU {pos : Pos} {ma mb : Option (Tup α)} (ha : De c env a ma) (hb : De c env b mb) : De c env (.BinOp a .Add b pos) (ma.bind fun x => mb.bind fun y => catU x y) :=
  de_op (r := rCat0 c.K) (fun X F => by rw [← F.K]; exact op_cat0) ops_cat ha hb
def mapO2 {α β γ : Type} (f : α → Option (List β)) (h : α → β → Option γ) (xs : List α) : Option (List γ) := (mapO (fun x => (f x).bind fun ys => mapO (h x) ys) xs).map List.flatten
theorem mapO_len {α γ : Type} {h : α → Option γ} : ∀ {xs : List α} {ys : List γ}, mapO h xs = some ys → ys.length = xs.length
  | [], ys, e => by cases e; rfl
  | x :: xs, ys, e => by
    obtain ⟨y, e1, e⟩ := bind_some e
    obtain ⟨zs, e2, e⟩ := bind_some e
    cases e
    rw [List.length_cons, List.length_cons, mapO_len e2]
theorem mapO_at {α γ : Type} {h : α → Option γ} : ∀ {xs : List α} {ys : List γ} {i : Nat} {x : α}, mapO h xs = some ys → xs[i]? = some x → ∃ y, h x = some y ∧ ys[i]? = some y
  | [], ys, i, x, e, ex => by simp at ex
  | z :: xs, ys, i, x, e, ex => by
    obtain ⟨y, e1, e⟩ := bind_some e
    obtain ⟨zs, e2, e⟩ := bind_some e
    cases e
    cases i with
    | zero =>
      simp at ex
      subst ex
      exact ⟨y, e1, rfl⟩
    | succ i =>
      simp at ex
      obtain ⟨w, h1, h2⟩ := mapO_at e2 ex
      exact ⟨w, h1, by simpa using h2⟩
def cI (c : Ct) (e : Expr) : TI := fun σ H R => ∀ X, Fits c X → ∀ tg pins s, Inv X pins σ H s → wpAny (model X.prog X.w) X.A (eval e X.env) (fun v s1 => wpAny (model X.prog X.w) X.A (pyIter v) (PIE X pins σ tg R) X.xe s1) X.xe s
theorem cI_pi {c : Ct} {e : Expr} : ∀ X, Fits c X → ∀ tg, PI X tg e (cI c e) := fun X F tg => ⟨fun pins s σ H R I h => h X F tg pins s I⟩
theorem DeIt.can {m : Option (List α)} (h : DeIt c env e m) : ∀ xs, m = some xs → ∀ (B H : Hp) (σ : St), Env c.K B H σ env → ∀ R : It → Hp → Prop, (∀ J B' H', Grow B H B' H' → DWalk c.K B' J xs → R J H') → cI c e σ H R := fun xs hx B H σ E R q X F tg pins s I => by
  obtain ⟨wi, h1, h2⟩ := h
  exact (h1 X F tg).run pins s σ H R I (h2 xs hx B H σ E R q)
theorem flat_take {γ : Type} : ∀ {yss : List (List γ)} {i : Nat} {ys : List γ}, yss[i]? = some ys → (yss.take (i + 1)).flatten = (yss.take i).flatten ++ ys
  | [], i, ys, e => by simp at e
  | z :: zs, 0, ys, e => by
    simp at e
    subst e
    simp
  | z :: zs, i + 1, ys, e => by
    simp at e
    have ih := flat_take e
    rw [List.take_succ_cons, List.take_succ_cons, List.flatten_cons, List.flatten_cons, ih, List.append_assoc]
theorem flat_le {γ : Type} (yss : List (List γ)) (i : Nat) : (yss.take i).flatten.length ≤ yss.flatten.length := by
  have e : yss.flatten = (yss.take i).flatten ++ (yss.drop i).flatten := by rw [← List.flatten_append, List.take_append_drop]
  rw [e, List.length_append]
  omega
theorem Env.put {K : PySem.W.Frag} {B H : Hp} {σ : St} {env : List Slot} {D : Addr} {o : HO} (E : Env K B H σ env) (nD : B D = none) (ne : ∀ (i : Nat) (s : Slot) (a : Addr), env[i]? = some s → isOwn s = true → σ[i]? = some (some (.ref a)) → a ≠ D) : Env K B (upd H D o) σ env :=
  ⟨fun a u z => by
    rw [upd_ne (fun k => by rw [k, nD] at z; cases z)]
    exact E.bh a u z, E.len, fun i s h => by
    have z := E.at_ i s h
    cases s with
    | any => trivial
    | @val α' i' x => exact z
    | obj φ hm =>
      obtain ⟨a, ob, e1, e2, e3, e4⟩ := z
      exact ⟨a, ob, e1, by rw [upd_ne (ne i _ a h rfl e1)]; exact e2, e3, e4⟩
    | deep ψ hm => trivial, E.ap⟩
theorem ev_comp2 {K : PySem.W.Frag} {wi wi1 : TI} {g g1 : TG} {te : TE} {vs vs1 is js : List Nat} {f : α → List Slot → List Slot} {f1 : β → List Slot → List Slot} {xs : List α} {zs : List γ} {inner : α → Option (List β)} {h : α → β → Option γ}
    (hi : ∀ (B H : Hp) (σ : St), Env K B H σ env → ∀ R : It → Hp → Prop, (∀ J B' H', Grow B H B' H' → DWalk K B' J xs → R J H') → wi σ H R) (hg : TgS K g f is) (sub : ∀ i ∈ is, i ∈ vs)
    (hi1 : ∀ x ys, inner x = some ys → ∀ (B H : Hp) (σ : St), Env K B H σ (f x (wipeE env vs)) → ∀ R : It → Hp → Prop, (∀ J B' H', Grow B H B' H' → DWalk K B' J ys → R J H') → wi1 σ H R) (hg1 : TgS K g1 f1 js) (sub1 : ∀ i ∈ js, i ∈ vs1)
    (he : ∀ x y z, h x y = some z → EvE K (f1 y (wipeE (f x (wipeE env vs)) vs1)) te z) (hl : zs.length ≤ 100000) (hz : mapO2 inner h xs = some zs) :
    EvN K env (tLc2 wi g tYes wi1 g1 tYes te vs vs1) zs := by
  intro B H σ E Q q
  have hz' : ∃ yss, mapO (fun x => (inner x).bind fun ys => mapO (h x) ys) xs = some yss ∧ yss.flatten = zs := by
    unfold mapO2 at hz
    cases e : mapO (fun x => (inner x).bind fun ys => mapO (h x) ys) xs with
    | none => rw [e] at hz; cases hz
    | some yss =>
      rw [e] at hz
      cases hz
      exact ⟨yss, rfl, rfl⟩
  obtain ⟨yss, hm, hfl⟩ := hz'
  refine hi B H σ E _ fun J B1 H1 k1 ⟨G, Y, W, hG, hY⟩ D hD => ?_
  have nB1 : B1 D = none := k1.bh.none hD
  have E1 := (E.grow k1).wipe vs
  have ne1 : ∀ (i : Nat) (s : Slot) (a : Addr), (wipeE env vs)[i]? = some s → isOwn s = true → (L2.wipe σ vs)[i]? = some (some (.ref a)) → a ≠ D := fun i s a h1 o1 e1 k => by
    cases s with
    | any => cases o1
    | val _ => cases o1
    | obj φ hm =>
      obtain ⟨a', ob, f1, f2, _⟩ := E1.obj h1
      rw [e1] at f1
      cases f1
      rw [k, hD] at f2
      cases f2
    | deep ψ hm => cases o1
  refine ⟨fun i m H2 => m = xs.length - i ∧ i ≤ xs.length ∧ ∃ B2 acc, Grow B1 H1 B2 H2 ∧ B2 D = none ∧ H2 D = some (.lst acc) ∧ Reps K B2 acc (yss.take i).flatten,
    ⟨xs.length, rfl, Nat.zero_le _, B1, [], Grow.free k1.bh hD, nB1, upd_same, .nil⟩, ?_⟩
  rintro i m H2 ⟨rfl, hi', B2, acc, g2, n2, eD, r⟩
  have hGH := hG H2 (g2.b.trans g2.bh)
  by_cases hlt : i < xs.length
  · refine .inr ⟨W.goes i H2 hlt hGH, fun H3 => i + 1 ≤ xs.length ∧ ∃ B2 acc, Grow B1 H1 B2 H3 ∧ B2 D = none ∧ H3 D = some (.lst acc) ∧ Reps K B2 acc (yss.take (i + 1)).flatten, fun H' ⟨p1, p2⟩ => ⟨xs.length - (i + 1), by omega, rfl, p1, p2⟩, fun v H3 y => ?_⟩
    obtain ⟨B3, x, g3, ex, rx⟩ := hY i B2 H2 v H3 hlt g2.b g2.bh (W.yields i H2 v H3 hlt hGH y)
    have eD3 := g3.h D _ eD
    have n3 : B3 D = none := g3.f D n2 (by rw [eD]; exact fun z => nomatch z)
    have g13 := g2.trans g3
    refine hg.run x _ B3 H3 _ v (E1.grow g13) rx _ fun σ' E' l' k' o' => ⟨wipe_same (l'.trans (wipe_length ..)) (fun i hi => (k' i hi).1) sub, ?_⟩
    refine iteT (B := i + 1 ≤ xs.length ∧ ∃ B2 acc, Grow B1 H1 B2 H3 ∧ B2 D = none ∧ H3 D = some (.lst acc) ∧ Reps K B2 acc (yss.take (i + 1)).flatten) ?_
    have ne' : ∀ (j : Nat) (s : Slot) (a : Addr), (f x (wipeE env vs))[j]? = some s → isOwn s = true → σ'[j]? = some (some (.ref a)) → a ≠ D := fun j s a h1 o1 e1 => by
      by_cases hj : j ∈ is
      · rw [(o' j s hj h1).1] at o1
        cases o1
      · rw [(k' j hj).2] at h1
        rw [(k' j hj).1] at e1
        exact ne1 j s a h1 o1 e1
    have ne2 : ∀ (j : Nat) (s : Slot) (a : Addr), (wipeE (f x (wipeE env vs)) vs1)[j]? = some s → isOwn s = true → (L2.wipe σ' vs1)[j]? = some (some (.ref a)) → a ≠ D := fun j s a h1 o1 e1 => by
      rcases wipeE_get h1 with rfl | ⟨h2, h3⟩
      · cases o1
      · rw [wipe_get, if_neg h2] at e1
        exact ne' j s a h3 o1 e1
    obtain ⟨ys, eys, eyi⟩ := mapO_at hm ex
    obtain ⟨bs, ebs, eys⟩ := bind_some eys
    refine hi1 x bs ebs B3 H3 σ' E' _ fun J1 B4 H4 k4 ⟨G1, Y1, W1, hG1, hY1⟩ => ?_
    have eD4 := k4.h D _ eD3
    have n4 : B4 D = none := k4.f D n3 (by rw [eD3]; exact fun z => nomatch z)
    have g14 := g13.trans k4
    have E4 := (E'.grow k4).wipe vs1
    have tkf := flat_take eyi
    have lys : ys.length = bs.length := mapO_len eys
    refine ⟨fun j k H5 => k = bs.length - j ∧ j ≤ bs.length ∧ ∃ B5 acc, Grow B1 H1 B5 H5 ∧ Le B4 B5 ∧ B5 D = none ∧ H5 D = some (.lst acc) ∧ Reps K B5 acc ((yss.take i).flatten ++ ys.take j) ∧ Env K B5 H5 (L2.wipe σ' vs1) (wipeE (f x (wipeE env vs)) vs1),
      ⟨bs.length, rfl, Nat.zero_le _, B4, acc, g14, Le.refl _, n4, eD4, by rw [List.take_zero, List.append_nil]; exact r.mono (g3.b.trans k4.b), E4⟩, ?_⟩
    rintro j k H5 ⟨rfl, hj', B5, acc5, g5, l45, n5, eD5, r5, E5⟩
    have hG1H := hG1 H5 (l45.trans g5.bh)
    by_cases hjl : j < bs.length
    · refine .inr ⟨W1.goes j H5 hjl hG1H, fun H6 => j + 1 ≤ bs.length ∧ ∃ B5 acc, Grow B1 H1 B5 H6 ∧ Le B4 B5 ∧ B5 D = none ∧ H6 D = some (.lst acc) ∧ Reps K B5 acc ((yss.take i).flatten ++ ys.take (j + 1)) ∧ Env K B5 H6 (L2.wipe σ' vs1) (wipeE (f x (wipeE env vs)) vs1), fun H' ⟨p1, p2⟩ => ⟨bs.length - (j + 1), by omega, rfl, p1, p2⟩, fun v6 H6 y6 => ?_⟩
      obtain ⟨B6, x6, g6, ex6, rx6⟩ := hY1 j B5 H5 v6 H6 hjl l45 g5.bh (W1.yields j H5 v6 H6 hjl hG1H y6)
      have eD6 := g6.h D _ eD5
      have n6 : B6 D = none := g6.f D n5 (by rw [eD5]; exact fun z => nomatch z)
      refine hg1.run x6 _ B6 H6 _ v6 (E5.grow g6) rx6 _ fun σ7 E7 l7 k7 o7 => ⟨wipe_same (l7.trans (wipe_length ..)) (fun i hi => (k7 i hi).1) sub1, ?_⟩
      refine iteT (B := j + 1 ≤ bs.length ∧ ∃ B5 acc, Grow B1 H1 B5 H6 ∧ Le B4 B5 ∧ B5 D = none ∧ H6 D = some (.lst acc) ∧ Reps K B5 acc ((yss.take i).flatten ++ ys.take (j + 1)) ∧ Env K B5 H6 (L2.wipe σ' vs1) (wipeE (f x (wipeE env vs)) vs1)) ?_
      obtain ⟨z, ez, ezi⟩ := mapO_at eys ex6
      refine he x x6 z ez B6 H6 σ7 E7 _ fun w B8 H8 g8 rw8 => ?_
      have eD8 := g8.h D _ eD6
      have n8 : B8 D = none := g8.f D n6 (by rw [eD6]; exact fun z => nomatch z)
      have hjy : j < ys.length := by omega
      have la : acc5.length < 100001 := by
        rw [r5.len, List.length_append, List.length_take]
        have h1 := flat_le yss (i + 1)
        rw [tkf, hfl, List.length_append] at h1
        omega
      have tot := (g5.trans g6).trans g8
      refine ⟨acc5, eD8, Nat.lt_of_lt_of_le la (by decide), hjl, B8, acc5 ++ [w], ?_, l45.trans (g6.b.trans g8.b), n8, upd_same, ?_, ((E5.grow g6).grow g8).put n8 ne2⟩
      · refine ⟨tot.b, fun a u z => ?_, fun a u z => ?_, tot.f⟩
        · rw [upd_ne (fun k => by rw [k, n8] at z; cases z)]
          exact tot.bh a u z
        · rw [upd_ne (fun k => by rw [k, hD] at z; cases z)]
          exact tot.h a u z
      · rw [List.take_add_one, ezi, ← List.append_assoc]
        exact (r5.mono (g6.b.trans g8.b)).append (.cons rw8 .nil)
    · have e : j = bs.length := by omega
      subst e
      refine .inl ⟨W1.stops H5 hG1H, hlt, B5, acc5, g5, n5, eD5, ?_⟩
      rw [← lys, List.take_length] at r5
      rw [tkf]
      exact r5
  · have e : i = xs.length := by omega
    subst e
    refine .inl ⟨W.stops H2 hGH, ?_⟩
    rw [← mapO_len hm, List.take_length, hfl] at r
    exact q D _ B2 H2 (k1.none hD) (k1.trans g2) n2 eD ⟨acc, rfl, r⟩
theorem dn_comp2 {scope : Scope} {own : List (Str × Nat)} {vs1 : List Nat} {pos : Pos} {is js : List Nat} {f : α → List Slot → List Slot} {f1 : β → List Slot → List Slot} {m : Option (List α)} {inner : α → Option (List β)} {h : α → β → Option γ} (nd : c.N.Nodup) (hi : DeIt c env iter m) (ok : BlkOk c.N c.sc scope own) (hv : ∀ i ∈ vs1, i ∈ own.map (·.2))
    (hg : DeTg (c.blk scope) tg f is) (sub : ∀ i ∈ is, i ∈ own.map (·.2)) (hi1 : ∀ x, DeIt (c.blk scope) (f x (wipeE env (own.map (·.2)))) iter1 (inner x)) (hg1 : DeTg (c.blk scope) tg1 f1 js) (sub1 : ∀ i ∈ js, i ∈ vs1)
    (he : ∀ x y, De (c.blk scope) (f1 y (wipeE (f x (wipeE env (own.map (·.2)))) vs1)) elt (h x y)) (hs : ∀ env x, foldedSetIterable iter env x = pure x := by intro _ _; rfl) (hs1 : ∀ env x, foldedSetIterable iter1 env x = pure x := by intro _ _; rfl) :
    DeN c env (.ListComp elt [⟨tg, iter, [], 0⟩, ⟨tg1, iter1, [], 0⟩] scope pos) (m.bind fun xs => (mapO2 inner h xs).bind capI) := by
  obtain ⟨wi, i1, i2⟩ := hi
  obtain ⟨g, g1, g2⟩ := hg
  obtain ⟨g', g1', g2'⟩ := hg1
  refine ⟨_, fun X F => pe_lc2 F.calm (by rw [F.N]; exact nd) (i1 X F tg) (by rw [F.N, F.sc]; exact ok) hv (fun s H C cl fp => g1 _ (F.blk s H scope C cl fp)) (fun s H C cl fp => pts_nil) (wi1 := cI (c.blk scope) iter1) (fun s H C cl fp => cI_pi _ (F.blk s H scope C cl fp) _) (fun s H C cl fp => g1' _ (F.blk s H scope C cl fp)) (fun s H C cl fp => pts_nil) (fun s H C cl fp => cE_pe _ (F.blk s H scope C cl fp)) (hs _) hs1, fun z hz => ?_⟩
  obtain ⟨xs, ex, hz⟩ := bind_some hz
  obtain ⟨zs, ez, hz⟩ := bind_some hz
  unfold capI at hz
  split at hz
  · rename_i hl
    cases hz
    exact ev_comp2 (i2 xs ex) g2 sub (fun x ys hy => (hi1 x).can ys hy) g2' sub1 (fun x y z hz => (he x y).can z hz) (of_decide_eq_true hl) ez
  · cases hz
theorem as_comp2 (i : Nat) {y : Str} {py pos spos : Pos} {scope : Scope} {own : List (Str × Nat)} {vs1 : List Nat} {is js : List Nat} {f : α → List Slot → List Slot} {f1 : β → List Slot → List Slot} {m : Option (List α)} {inner : α → Option (List β)} {h : α → β → Option γ}
    (nd : c.N.Nodup) (hN : c.N[i]? = some y) (hy : c.sc.names.lookup y = some .local) (hk : c.sc.kind = .function) (hl : (py.line == pos.line) = true)
    (hn : (scope.names.any fun (n, k) => n == y && (k == .local || k == .cell)) = false) (hi : DeIt c env iter m) (ok : BlkOk c.N c.sc scope own) (hv : ∀ i ∈ vs1, i ∈ own.map (·.2))
    (hg : DeTg (c.blk scope) tg f is) (sub : ∀ i ∈ is, i ∈ own.map (·.2)) (hi1 : ∀ x, DeIt (c.blk scope) (f x (wipeE env (own.map (·.2)))) iter1 (inner x)) (hg1 : DeTg (c.blk scope) tg1 f1 js) (sub1 : ∀ i ∈ js, i ∈ vs1)
    (he : ∀ x y, De (c.blk scope) (f1 y (wipeE (f x (wipeE env (own.map (·.2)))) vs1)) elt (h x y)) (hs : ∀ env x, foldedSetIterable iter env x = pure x := by intro _ _; rfl) (hs1 : ∀ env x, foldedSetIterable iter1 env x = pure x := by intro _ _; rfl) :
    AsN c env (.Assign [.Name y py] (.ListComp elt [⟨tg, iter, [], 0⟩, ⟨tg1, iter1, [], 0⟩] scope pos) spos) i (m.bind fun xs => (mapO2 inner h xs).bind capI) := by
  obtain ⟨wi, i1, i2⟩ := hi
  obtain ⟨g, g1, g2⟩ := hg
  obtain ⟨g', g1', g2'⟩ := hg1
  refine ⟨_, fun X F => ps_setLc2 F.calm (by rw [F.N]; exact nd) (fits_ix F hN) (by rw [F.sc]; exact hy) (sw_true (by rw [F.sc]; exact hk) (by rw [F.sc]; exact hy) hl hn) (i1 X F tg) (by rw [F.N, F.sc]; exact ok) hv (fun s H C cl fp => g1 _ (F.blk s H scope C cl fp)) (fun s H C cl fp => pts_nil) (wi1 := cI (c.blk scope) iter1) (fun s H C cl fp => cI_pi _ (F.blk s H scope C cl fp) _) (fun s H C cl fp => g1' _ (F.blk s H scope C cl fp)) (fun s H C cl fp => pts_nil) (fun s H C cl fp => cE_pe _ (F.blk s H scope C cl fp)) (hs _) hs1, fun z hz => ?_⟩
  obtain ⟨xs, ex, hz⟩ := bind_some hz
  obtain ⟨zs, ez, hz⟩ := bind_some hz
  unfold capI at hz
  split at hz
  · rename_i hl
    cases hz
    exact ev_comp2 (i2 xs ex) g2 sub (fun x ys hy => (hi1 x).can ys hy) g2' sub1 (fun x y z hz => (he x y).can z hz) (of_decide_eq_true hl) ez
  · cases hz
end
end Dn

set_option Elab.async false
set_option linter.all false
set_option maxRecDepth 100000
namespace Dn
open PySem PySem.Spec L2
open Rep (rep)
open ORep (orep)
def spIX (K : PySem.W.Frag) (C CE : Addr) {P R : Type} [Pk P] (fl : R → List (Str × Slot)) (f : P → Option (Option R)) : Sp := fun vs H Q E => ∃ (p : P) (B : Hp) (x dx : Addr) (ws : List V), vs = .ref x :: ws ∧ Le B H ∧ Args K B ws (Pk.sl p) ∧ H x = some (.ins C dx []) ∧ B x = none ∧
  ((∃ r, f p = some (some r) ∧ ∀ o B' H', Le B B' → Le B' H' → (∀ a u, a ≠ x → H a = some u → H' a = some u) → (∀ a, B a = none → ¬ H a = none → B' a = none) → H' x = some o → insφ C x (fl r) K B' x o → Q .non H') ∨
    (f p = some none ∧ ∀ B' H', Grow B H B' H' → E (.ref CE) none H'))
structure ExK (K : PySem.W.Frag) (mg : Str → Option Value) (x : Str) (CE : Addr) : Prop where
  g : mg x = some (.ref CE)
  ex : PySem.W.excIn K CE [.type "ValueError", .type "Exception", .type "BaseException", .type "object"] "ValueError.__new__" = true
  kp : PySem.W.keepIn K (.ref CE) = true
  sb : PySem.W.subIn K (.ref CE) (.type "BaseException") = some true
  ty : PySem.W.typeIn K (.ref CE) = some (.type "type")
  me : PySem.W.exmOne K (.ref CE) (.ref CE) = some true
section
variable {X : Cx} {k : Nat} {f C : Addr} {fd : FuncData} {ps : List Str} {sp : Sp} {E : St → XK} {x : Str} {p pos : Pos} {e : Expr} {es : List Expr} {t : TA}
end
structure MdX (c : Ct) (x : Str) (C CE : Addr) {P R : Type} [Pk P] (fl : R → List (Str × Slot)) (f : P → Option (Option R)) : Prop where
  ok : ∃ (j : Nat) (fa : Addr) (fd : FuncData) (ps : List Str), FnOk c.P c.w c.K c.mg c.base (L2.CX c.P c.w) j fa fd ps (spIX c.K C CE fl f) ∧ j + 1 ≤ c.k ∧ c.mg x = some (.ref C) ∧ Mk c.K C fa ∧ Binds c.K fd ps []
section
variable {S L R0 : Type} {c : Ct} {env : List Slot} {rest suite : List Stmt} {b0 : Stmt} {e : Expr} {es : List Expr} {mk : S → List Slot} {lk : L → List Slot} [Rep R0]
end
end Dn

set_option Elab.async false
set_option linter.all false
set_option maxRecDepth 100000
namespace Dn
open PySem PySem.Spec L2
open Rep (rep)
open ORep (orep)
abbrev Slot.ownAt (g : Addr) {β : Type} [ORep β] (x : β) : Slot := .obj (fun K B a o => a = g ∧ orep K B o x) (fun _ _ _ _ _ e h => ⟨h.1, ORep.omono e h.2⟩)
section
variable {c : Ct} {env : List Slot} {e : Expr} {α β : Type} [Rep α] [Rep β]
theorem dl_obj (i : Nat) {x : Str} {pos : Pos} {ys : List α} {φ : PySem.W.Frag → Hp → Addr → HO → Prop} {hm : ∀ K B B' a o, Le B B' → φ K B a o → φ K B' a o} (he : env[i]? = some (.obj φ hm)) (hφ : ∀ K B a o, φ K B a o → orep K B o ys) (hN : c.N[i]? = some x) (hv : Vis c.sc x) (hd : (x == ("__debug__" : Str)) = false := by decide) (hcd : (x == ("__classdict__" : Str)) = false := by decide) :
    DeL c env (.Name x pos) (some ys) := by
  refine ⟨tVar i, fun X F => pe_var (fits_ix F hN) (fits_vis F hv) hd hcd, fun x hx B H σ E Q q => ?_⟩
  cases hx
  obtain ⟨a, o, e1, e2, e3, r0⟩ := E.obj he
  obtain ⟨vs, rfl, r⟩ := hφ _ _ _ _ r0
  exact ⟨.ref a, e1, q a vs B H (Grow.refl E.bh) (SqL.of e2) r⟩
class FlatR (α : Type) [Rep α] : Prop where
  any : ∀ {K : PySem.W.Frag} {B B' : Hp} {v : V} {x : α}, rep K B v x → rep K B' v x
instance : FlatR Int := ⟨fun h => h⟩
instance : FlatR Bool := ⟨fun h => h⟩
instance : FlatR Str := ⟨fun h => h⟩
theorem env_thaw {K : PySem.W.Frag} {B H : Hp} {σ : St} {φ : PySem.W.Frag → Hp → Addr → HO → Prop} {hm : ∀ K B B' a o, Le B B' → φ K B a o → φ K B' a o} {xs : List α} {i : Nat} (E : Env K B H σ env) (he : env[i]? = some (.obj φ hm)) (hφ : ∀ K B a o, φ K B a o → orep K B o xs) :
    ∃ a vs, B a = none ∧ H a = some (.lst vs) ∧ Env K (upd B a (.lst vs)) H σ (env.set i (.val xs)) := by
  obtain ⟨a, o, e1, e2, e3, r0⟩ := E.obj he
  obtain ⟨vs, rfl, r⟩ := hφ _ _ _ _ r0
  have l1 : Le B (upd B a (.lst vs)) := Le.put e3
  have l2 : Le (upd B a (.lst vs)) H := fun b u z => by
    by_cases k : b = a
    · subst k
      rw [upd_same] at z
      rw [e2, z]
    · rw [upd_ne k] at z
      exact E.bh b u z
  have hl : i < env.length := (List.getElem?_eq_some_iff.mp he).1
  have other : ∀ (j : Nat) (s : Slot), i ≠ j → env[j]? = some s → isOwn s = true → σ[j]? ≠ some (some (.ref a)) := fun j s n h o e => n (E.ap i j _ s he h rfl o (e1.trans e.symm))
  refine ⟨a, vs, e3, e2, l2, by rw [List.length_set]; exact E.len, fun j s h => ?_, fun j k s t h1 h2 o1 o2 e => ?_⟩
  · by_cases q : i = j
    · subst q
      rw [List.getElem?_set_self hl] at h
      cases h
      exact ⟨_, e1, a, vs, rfl, SqL.of upd_same, r.mono l1⟩
    · rw [List.getElem?_set_ne q] at h
      have z := E.at_ j s h
      cases s with
      | any => trivial
      | @val α' i' y =>
        obtain ⟨u, f1, f2⟩ := z
        exact ⟨u, f1, Rep.mono l1 f2⟩
      | obj φ' hm' =>
        obtain ⟨b, ob, f1, f2, f3, f4⟩ := z
        refine ⟨b, ob, f1, f2, ?_, hm' _ _ _ _ _ l1 f4⟩
        rw [upd_ne (fun k => other j _ q h rfl (by rw [f1, k]))]
        exact f3
      | deep ψ hm => trivial
  · by_cases q1 : i = j
    · subst q1
      rw [List.getElem?_set_self hl] at h1
      cases h1
      cases o1
    · by_cases q2 : i = k
      · subst q2
        rw [List.getElem?_set_self hl] at h2
        cases h2
        cases o2
      · rw [List.getElem?_set_ne q1] at h1
        rw [List.getElem?_set_ne q2] at h2
        exact E.ap j k s t h1 h2 o1 o2 e
theorem grow_thaw {B H B' H' : Hp} {a : Addr} {o : HO} (nb : B a = none) (g : Grow (upd B a o) H B' H') : Grow B H (fun u => if u = a then none else B' u) H' :=
  ⟨fun u x z => by
    have n : u ≠ a := fun k => by rw [k, nb] at z; cases z
    show (if u = a then none else B' u) = some x
    rw [if_neg n]
    exact g.b u x (by rw [upd_ne n]; exact z), fun u x z => by
    have z : (if u = a then none else B' u) = some x := z
    split at z
    · cases z
    · exact g.bh u x z, g.h, fun u z n => by
    show (if u = a then none else B' u) = none
    by_cases k : u = a
    · rw [if_pos k]
    · rw [if_neg k]
      exact g.f u (by rw [upd_ne k]; exact z) n⟩
end
def spIXo (K : PySem.W.Frag) (C CE : Addr) {α β R : Type} [Rep α] [Rep β] (fl : R → List (Str × Slot)) (f : α → List β → Option (Option R)) : Sp := fun vs H Q E => ∃ (p : α) (names : List β) (B : Hp) (x dx g : Addr) (vp : V) (ls : List V), vs = [.ref x, vp, .ref g] ∧ rep K B vp p ∧ Le B H ∧ H g = some (.lst ls) ∧ B g = none ∧ Reps K B ls names ∧ H x = some (.ins C dx []) ∧ B x = none ∧
  ((∃ r, f p names = some (some r) ∧ ∀ o B' H' ls', Le B B' → Le B' H' → (∀ a u, a ≠ x → a ≠ g → H a = some u → H' a = some u) → (∀ a, B a = none → ¬ H a = none → B' a = none) → H' x = some o → insφ C x (fl r) K B' x o → H' g = some (.lst ls') → B' g = none → Reps K B' ls' names → Q .non H') ∨
    (f p names = some none ∧ ∀ B' H', Grow B H B' H' → E (.ref CE) none H'))
structure MdXo (c : Ct) (x : Str) (C CE : Addr) {α β R : Type} [Rep α] [Rep β] (fl : R → List (Str × Slot)) (f : α → List β → Option (Option R)) : Prop where
  ok : ∃ (j : Nat) (fa : Addr) (fd : FuncData) (ps : List Str), FnOk c.P c.w c.K c.mg c.base (L2.CX c.P c.w) j fa fd ps (spIXo c.K C CE fl f) ∧ j + 1 ≤ c.k ∧ c.mg x = some (.ref C) ∧ Mk c.K C fa ∧ Binds c.K fd ps []
section
variable {S L R0 α β : Type} [Rep α] [Rep β] {c : Ct} {env : List Slot} {rest suite : List Stmt} {b0 : Stmt} {e : Expr} {mk : S → List Slot} {lk : L → List Slot} [Rep R0]
end
end Dn

set_option Elab.async false
set_option linter.all false
set_option maxRecDepth 100000
namespace Dn
open PySem PySem.Spec L2
open Rep (rep)
open ORep (orep)
def neTup : PyData → Bool
  | .tuple (_ :: _) => true
  | _ => false
def plainD : PyData → Bool
  | .none => false
  | .tuple _ => false
  | _ => true
def okSort (ds : List PyData) : Bool := ds.all (fun d => ds.all fun e => W.alike d e) && (ds.all neTup || ds.all plainD) && decide (ds.length ≤ 100000) && ds.all fun d => decide (d.depth ≤ 60)
theorem neTup_of {d : PyData} (h : neTup d = true) : ∃ x r, d = .tuple (x :: r) := by
  unfold neTup at h
  split at h
  · exact ⟨_, _, rfl⟩
  · cases h
theorem plainD_of {d : PyData} (h : plainD d = true) : d ≠ .none ∧ ∀ xs, d ≠ .tuple xs := by
  unfold plainD at h
  split at h
  · cases h
  · cases h
  · rename_i h1 h2
    exact ⟨h1, h2⟩
theorem okSort_of {ds : List PyData} (h : okSort ds = true) : W.AllAlike ds ∧ W.Sortable ds ∧ ds.length ≤ 100000 ∧ ∀ d ∈ ds, d.depth ≤ 60 := by
  unfold okSort at h
  simp only [Bool.and_eq_true, List.all_eq_true, Bool.or_eq_true, decide_eq_true_eq] at h
  obtain ⟨⟨⟨h1, h2⟩, h3⟩, h4⟩ := h
  refine ⟨fun d m e n => h1 d m e n, ?_, h3, h4⟩
  rcases h2 with h2 | h2
  · exact .inl fun d m => neTup_of (h2 d m)
  · exact .inr fun d m => plainD_of (h2 d m)
def sortD {α : Type} [Dat α] (xs : List α) : List α := xs.mergeSort (W.dataLe false Dat.toD)
def rSortD (K : PySem.W.Frag) {α : Type} [Dat α] : List V → Hp → VK → Prop := fun vs H Q => ∃ (a : Addr) (ws : List V) (xs : List α), vs = [.ref a] ∧ SqL K H a ws ∧ DpAll K H ws (xs.map Dat.toD) ∧ okSort (xs.map Dat.toD) = true ∧
  ∀ (zs : List (V × α)) (p : Addr), zs.Perm (ws.zip xs) → zs.map (·.2) = sortD xs → H p = none → Q (.ref p) (upd H p (.lst (zs.map (·.1))))
theorem dpAll_zip {K : PySem.W.Frag} {H : Hp} {α : Type} [Dat α] : ∀ {ws : List V} {xs : List α}, DpAll K H ws (xs.map Dat.toD) → ws.length = xs.length ∧ ∀ b ∈ ws.zip xs, Dp K H b.1 (Dat.toD b.2)
  | [], [], _ => ⟨rfl, fun _ h => nomatch h⟩
  | w :: ws, x :: xs, h => by
    cases h with
    | cons h1 h2 =>
      obtain ⟨l, g⟩ := dpAll_zip h2
      refine ⟨by rw [List.length_cons, List.length_cons, l], fun b m => ?_⟩
      cases m with
      | head => exact h1
      | tail _ m => exact g b m
  | [], _ :: _, h => nomatch h
  | _ :: _, [], h => nomatch h
theorem zip_snd {α β : Type} : ∀ {xs : List α} {ys : List β}, xs.length = ys.length → (xs.zip ys).map (·.2) = ys
  | [], [], _ => rfl
  | x :: xs, y :: ys, h => by
    show y :: (xs.zip ys).map (·.2) = y :: ys
    rw [zip_snd (Nat.succ.inj h)]
theorem each_zip {α : Type} (S : List (V × α)) : ∀ {ws : List V} {its : List Value} {xs : List α}, Vals ws its → ws.length = xs.length → (∀ b ∈ ws.zip xs, b ∈ S) → W.EachIs (fun (v : Value) (b : V × α) => RelV b.1 v ∧ b ∈ S) its (ws.zip xs) := by
  intro ws its xs r
  induction r generalizing xs with
  | nil =>
    intro h _
    cases xs with
    | nil => exact .nil
    | cons _ _ => cases h
  | cons r0 _ ih =>
    intro h m
    cases xs with
    | nil => cases h
    | cons x xs => exact .cons ⟨r0, m _ (List.mem_cons_self ..)⟩ (ih (Nat.succ.inj h) fun b hb => m b (List.mem_cons_of_mem _ hb))
theorem each_vals {α : Type} : ∀ {its : List Value} {bs : List (V × α)}, W.EachIs (fun (v : Value) (b : V × α) => RelV b.1 v) its bs → Vals (bs.map (·.1)) its := by
  intro its bs h
  induction h with
  | nil => exact .nil
  | cons r _ ih => exact .cons r ih
theorem dataLe_comp {α β : Type} (f : α → β) (k : β → PyData) (x y : α) : W.dataLe false (fun a => k (f a)) x y = W.dataLe false k (f x) (f y) := by
  rw [W.dataLe_eq, W.dataLe_eq]
theorem cr_sortD {X : Cx} {α : Type} [Dat α] (hu : X.A.units + 64 < cLine) : CallR X (.builtin "sorted") (rSortD X.K (α := α)) := by
  intro pins s σ H vs us Q I rv h
  obtain ⟨a, ws, xs, rfl, hq, hd, ok, q⟩ := h
  obtain ⟨h1, h2, h3, h4⟩ := okSort_of ok
  rw [List.length_map] at h3
  cases rv with
  | cons r0 rn =>
    cases rn
    cases r0
    obtain ⟨its, r, pl, hz⟩ := I.list hq
    obtain ⟨le, hz2⟩ := dpAll_zip hd
    have key := each_zip (ws.zip xs) r le fun b h => h
    have em : (ws.zip xs).map (fun b => Dat.toD b.2) = xs.map Dat.toD := by
      rw [← zip_snd le, List.map_map, zip_snd le]
      rfl
    have zl : (ws.zip xs).length = xs.length := by rw [List.length_zip, le, Nat.min_self]
    refine W.sorted_data (β := V × α) (bs := ws.zip xs) (enc := fun b => Dat.toD b.2) (R := fun v b => RelV b.1 v) pl.isList (key.mono fun _ _ h => h.1) (key.mono fun v b h => Dp.reads I _ _ _ (hz2 b h.2) h.1) ?_ ?_ ?_ ?_ ?_
    · rw [em]
      exact h1
    · rw [em]
      exact h2
    · rw [zl]
      exact Nat.le_trans h3 (by decide)
    · intro b m
      have := h4 (Dat.toD b.2) (by rw [← em]; exact List.mem_map.mpr ⟨b, m, rfl⟩)
      omega
    · intro out lo eo
      have vo := each_vals eo
      obtain ⟨e, he⟩ := PyProof.Rows.sortedAll_at s.heap its out.toArray
      have perm := List.mergeSort_perm (ws.zip xs) (W.dataLe false fun b => Dat.toD b.2)
      have hs : ((ws.zip xs).mergeSort (W.dataLe false fun b => Dat.toD b.2)).map (·.2) = sortD xs := by
        unfold sortD
        rw [List.map_mergeSort (s := W.dataLe false Dat.toD) (fun x _ y _ => dataLe_comp (·.2) Dat.toD x y), zip_snd le]
      have fr : H (s.heap.objs.size + 1) = none := I.hok.fresh (Nat.le_succ _)
      refine ⟨.ref (s.heap.objs.size + 1), _, I.laid (o := .lst (((ws.zip xs).mergeSort (W.dataLe false fun b => Dat.toD b.2)).map (·.1))) (fun b u h => PyProof.Rows.sortedAll_old h) (Nat.le_succ _) ?_, rfl, q _ _ perm hs fr⟩
      unfold ObjOk
      refine ⟨?_, out, e, vo, he⟩
      rw [List.length_map, perm.length_eq, zl]
      exact Nat.le_trans h3 (by decide)
theorem Reps.pairs {α : Type} [Rep α] {K : PySem.W.Frag} {B : Hp} : ∀ {ws : List V} {xs : List α}, Reps K B ws xs → ∀ b ∈ ws.zip xs, rep K B b.1 b.2 := by
  intro ws xs h
  induction h with
  | nil => exact fun b m => nomatch m
  | cons r _ ih =>
    intro b m
    cases m with
    | head => exact r
    | tail _ m => exact ih b m
theorem Reps.unzip {α : Type} [Rep α] {K : PySem.W.Frag} {B : Hp} : ∀ {zs : List (V × α)}, (∀ b ∈ zs, rep K B b.1 b.2) → Reps K B (zs.map (·.1)) (zs.map (·.2))
  | [], _ => .nil
  | b :: zs, h => .cons (h b (List.mem_cons_self ..)) (Reps.unzip fun c m => h c (List.mem_cons_of_mem _ m))
section
variable {c : Ct} {env : List Slot} {a : Expr} {α : Type} [Dat α]
theorem dn_sorted {p pos : Pos} {m : Option (List α)} (hm : c.mg "sorted" = none) (h : DeL c env a m) (hg : Gv c "sorted" := by rfl) (hs : ∀ env, starEach [a] env = (false, eval a env) :: starEach [] env := by intro _; rfl) :
    DeN c env (.Call (.Name "sorted" p) [a] [] pos) (m.bind fun xs => if okSort (xs.map Dat.toD) = true then some (sortD xs) else none) := by
  obtain ⟨t, h1, h2⟩ := h
  refine ⟨tCB (rSortD c.K (α := α)) (tCons t tNil), fun X F => pe_callB (by rw [← F.K]; exact cr_sortD (fits_units F)) (fits_gl F hg) (by rw [F.mg]; exact hm) (by decide +kernel) (pa_cons (h1 X F) pa_nil (hs _)) (by decide) (by decide) (hs _) rfl, fun z hz B H σ E Q q => ?_⟩
  obtain ⟨xs, ex, hz⟩ := bind_some hz
  split at hz
  · rename_i ok
    cases hz
    exact h2 xs ex B H σ E _ fun l vs B1 H1 k1 s r => ⟨l, vs, xs, rfl, s, dpAll (r.mono k1.bh), ok, fun zs p perm hz hn => q p _ B1 _ (k1.none hn) (k1.trans (Grow.free k1.bh hn)) (k1.bh.none hn) upd_same ⟨_, rfl, by
      rw [← hz]
      exact Reps.unzip fun b m => Reps.pairs r b (perm.mem_iff.mp m)⟩⟩
  · cases hz
end
end Dn

set_option Elab.async false
set_option linter.all false
set_option maxRecDepth 100000
namespace Dn
open PySem PySem.Spec PyProof.Rows L2
open Rep (rep)
open ORep (orep)
theorem preSum_take (ns : List Int) : ∀ n : Nat, n ≤ ns.length → preSum (fun i => ns.getD i 0) n = (ns.take n).sum
  | 0, _ => by simp [preSum]
  | n + 1, h => by
    have ih := preSum_take ns n (by omega)
    have e : preSum (fun i => ns.getD i 0) (n + 1) = preSum (fun i => ns.getD i 0) n + ns.getD n 0 := by rfl
    rw [e, ih, List.take_succ, List.sum_append, List.getD_eq_getElem?_getD, List.getElem?_eq_getElem (by omega : n < ns.length)]
    simp
theorem ints_get {its : List Value} {ns : List Int} (r : Vals (ns.map V.int) its) {i : Nat} {v : Value} (e : its[i]? = some v) : ∃ t, v = .int (ns.getD i 0) t := by
  have hl : i < its.length := (List.getElem?_eq_some_iff.mp e).1
  have hn : i < ns.length := by rw [← r.length, List.length_map] at hl; exact hl
  obtain ⟨u, eu, ru⟩ := r.get (i := i) (x := V.int ns[i]) (by rw [List.getElem?_map, List.getElem?_eq_getElem hn]; rfl)
  rw [e] at eu
  cases eu
  obtain ⟨t, rfl⟩ := ru
  exact ⟨t, by rw [List.getD_eq_getElem?_getD, List.getElem?_eq_getElem hn]; rfl⟩
theorem sumT_raw {prog : Program} {w : World} {A : Around} {E : Value → Shared → Prop} {s : Shared} {l : Addr} {its : List Value} {ns : List Int} {Q : Value → Shared → Prop} (hh : A.handled = none) (hl : IsTup s.heap l its.toArray) (r : Vals (ns.map V.int) its)
    (h : ∀ h' tk t', (∀ b o, s.heap.get? b = some o → h'.get? b = some o) → Q (.int ns.sum t') { s with heap := h', toks := tk }) : wpAny (model prog w) A (call (.builtin "sum") [.ref l]) Q E s := by
  have lS : l < s.heap.objs.size := by
    obtain ⟨o, e, _⟩ := hl
    exact Heap.lt_size e
  have hl' : s.heap.IsTuple l its.toArray := hl
  refine call_sum_walkG (wpAny_pyIter_tuple hl' ?_)
  have hh2 : A.in1.handled = none := hh
  refine ⟨s.heap.objs.size, [s.heap.objs.size, l], [s.heap.objs.size], its.toArray.size, _, _, fun i => ns.getD i 0, rfl, Walks.tuple hh2 _ l (Nat.ne_of_lt lS) its.toArray, ⟨⟨_, Heap.get?_push_size _ rfl, rfl, rfl⟩, ?_⟩, fun b hb => ?_, fun i v e => ?_, fun h' tk t' k => ?_⟩
  · obtain ⟨o, e, z⟩ := hl
    exact ⟨o, Heap.get?_push_of_some _ e, z⟩
  · show b < (s.heap.push _).objs.size
    rw [Heap.size_push]
    rcases List.mem_cons.mp hb with rfl | hb
    · exact Nat.lt_succ_self _
    · rw [List.mem_singleton.mp hb]
      exact Nat.lt_succ_of_lt lS
  · rw [List.getElem?_toArray] at e
    exact ints_get r e
  · have e1 : its.toArray.size = ns.length := by rw [List.size_toArray, ← r.length, List.length_map]
    rw [e1, preSum_take ns _ (Nat.le_refl _), List.take_length]
    refine h h' tk t' fun b o e => k b o (fun m => ?_) (Heap.get?_push_of_some _ e)
    cases List.mem_singleton.mp m
    exact absurd (Heap.lt_size e) (Nat.lt_irrefl _)
def rSumT (K : PySem.W.Frag) : List V → Hp → VK → Prop := fun vs H Q => ∃ (a : Addr) (ns : List Int), vs = [V.ref a] ∧ SqT K H a (ns.map V.int) ∧ Q (.int ns.sum) H
theorem cr_sumT {X : Cx} (hc : X.calm = true) : CallR X (.builtin "sum") (rSumT X.K) := by
  intro pins s σ H vs us Q I rv h
  obtain ⟨a, ns, rfl, hq, q⟩ := h
  cases rv with
  | cons r0 rn =>
    cases rn
    cases r0
    obtain ⟨its, r, pl, hz⟩ := I.tuple hq
    refine sumT_raw (I.ok.hd hc) pl r fun h' tk t' k => ?_
    exact ⟨.int ns.sum, H, I.kept fun b o e => k b o e, ⟨t', rfl⟩, q⟩
section
variable {c : Ct} {env : List Slot} {a : Expr}
theorem reps_intm {K : PySem.W.Frag} {B : Hp} : ∀ {vs : List V} {ns : List Int}, Reps K B vs ns → vs = ns.map V.int := by
  intro vs ns h
  induction h with
  | nil => rfl
  | cons r _ ih =>
    rw [List.map_cons, ← ih]
    cases r
    rfl
theorem de_sumU {p pos : Pos} {m : Option (Tup Int)} (hm : c.mg "sum" = none) (h : De c env a m) (hcalm : ∀ X, Fits c X → X.calm = true := by exact fun _ F => F.calm) (hg : Gv c "sum" := by rfl) (hs : ∀ env, starEach [a] env = (false, eval a env) :: starEach [] env := by intro _; rfl) :
    De c env (.Call (.Name "sum" p) [a] [] pos) (m.map fun t => t.l.sum) := by
  obtain ⟨t, h1, h2⟩ := h
  refine ⟨tCB (rSumT c.K) (tCons t tNil), fun X F => pe_callB (by rw [← F.K]; exact cr_sumT (hcalm X F)) (fits_gl F hg) (by rw [F.mg]; exact hm) (by decide +kernel) (pa_cons (h1 X F) pa_nil (hs _)) (by decide) (by decide) (hs _) rfl, fun z hz B H σ E Q q => ?_⟩
  cases m with
  | none => cases hz
  | some y =>
    cases hz
    exact h2 y rfl B H σ E _ fun v B1 H1 k1 r => by
      obtain ⟨b, vs, rfl, s, r⟩ := r
      have e := reps_intm r
      subst e
      exact ⟨b, y.l, rfl, k1.bh.t s, q _ B1 H1 k1 rfl⟩
end
theorem key_sum {X : Cx} {pins : List (Addr × Obj)} {σ : L2.St} {H : Hp} {s : Shared} {A : Around} {x qual pn : Str} {st : Stmt} {f l : Addr} {fd : FuncData} {ns : List Int} {p1 p2 p3 p4 : Pos}
    (F : Fun X.K x qual st f fd) (Sc : FnScope [pn] [pn] (defScope st)) (hb : Binds X.K fd [pn] []) (hst : defBody st = [.Return (some (.Call (.Name "sum" p1) [.Name pn p2] [] p3)) p4]) (hg : (defScope st).names.lookup ("sum" : Str) = some NameKind.globalImplicit) (hln : (defScope st).names.lookup pn = some NameKind.local) (hm : X.mg "sum" = none) (hd : (pn == ("__debug__" : Str)) = false)
    (hA : A.frames = X.A.frames) (hh : A.handled = none) (hr : A.depth < recursionLimit) (I : L2.Inv X pins σ H s) (hT : SqT X.K H l (ns.map V.int)) :
    wpAny (model X.prog X.w) A (call (.ref f) [.ref l]) (W.KeyPure (.int ns.sum) s) (fun _ _ => False) s := by
  have e := I.env0
  have e0 : Env0 X.prog X.w X.K X.mg X.base A X.stack s H := ⟨by rw [hA]; exact e.frames, e.mod, e.bs, e.bsz, e.funs, e.frf, e.hok, e.bare⟩
  obtain ⟨its, r, pl, hz⟩ := I.tuple hT
  obtain ⟨oc, od, kV, doc, pm, an, cdv, ct, osl, rfl, hl, hc⟩ := F.ex
  refine wpAny_call (Att.call_fn (binds := [(pn, .ref l)]) I.kIn I.nolimit hl hc hr (hb s [.ref l] I.kIn rfl) (by simp [hln]) (fun s₁ IC => ?_) Sc.co Sc.gen Sc.kind)
  have I0 := inv_start (CX := CX0) (E := fun _ _ _ => False) (cd := cdv) (f := f) (qual := qual) Sc hh e0 (vs := [.ref l]) rfl (.cons rfl .nil) IC
  obtain ⟨h₁, tk₁, rfl⟩ := IC.toInCall.same
  have kp := IC.toInCall.keep
  rw [hst]
  refine wpAny_execs_cons (wpAny_Return_some ?_)
  refine Call_ (ld_blt I0 hg hm (by decide +kernel : bootBuiltins ("sum" : Str) = some (.builtin "sum")) ?_)
  refine PyProof.Rows.callWith_builtin1 (PyProof.Rows.args_cons (wpAny_Name (wpAny_loadName_local Sc.kind hln IC.toInCall.ns (v := .ref l) ?_ (PyProof.Rows.args_nil ?_)) hd) rfl) rfl rfl
  · have hk : (PyProof.Rows.envOfC qual (defScope st) s.heap.objs.size f cdv).kindOf pn = some .local := hln
    simp [bindL, hk]
  · have pl2 : IsTup h₁ l its.toArray := by
      obtain ⟨o, e, z⟩ := pl
      exact ⟨o, kp l o e, z⟩
    refine sumT_raw hh pl2 r fun h' tk t' k => ?_
    exact ⟨h', tk, rfl, fun b o e => k b o (kp b o e), Reads.int _ _⟩
def sumKey (t : Tup Int) : PyData := .int t.l.sum
def sortS (xs : List (Tup Int)) : List (Tup Int) := xs.mergeSort (W.dataLe false sumKey)
def rSortKS (K : PySem.W.Frag) (f : Addr) : List V → List V → Hp → VK → Prop := fun vs zs H Q => ∃ (a : Addr) (ws : List V) (xs : List (Tup Int)), vs = [.ref a] ∧ zs = [.ref f] ∧ SqL K H a ws ∧ Reps K H ws xs ∧ xs.length ≤ 100000 ∧
  ∀ (zs : List (V × Tup Int)) (p : Addr), zs.Perm (ws.zip xs) → zs.map (·.2) = sortS xs → H p = none → Q (.ref p) (upd H p (.lst (zs.map (·.1))))
theorem cr_sortKS {X : Cx} {x qual pn : Str} {st : Stmt} {f : Addr} {fd : FuncData} {p1 p2 p3 p4 : Pos}
    (F : Fun X.K x qual st f fd) (Sc : FnScope [pn] [pn] (defScope st)) (hb : Binds X.K fd [pn] []) (hst : defBody st = [.Return (some (.Call (.Name "sum" p1) [.Name pn p2] [] p3)) p4]) (hg : (defScope st).names.lookup ("sum" : Str) = some NameKind.globalImplicit) (hln : (defScope st).names.lookup pn = some NameKind.local) (hm : X.mg "sum" = none) (hd : (pn == ("__debug__" : Str)) = false)
    (hh : X.A.handled = none) (hr : X.A.depth < recursionLimit) (hu : X.A.units + 64 < cLine) : CallRK X (.builtin "sorted") ["key"] (rSortKS X.K f) := by
  intro pins s σ H vs zs us ws0 Q I rv rz h
  obtain ⟨a, ws, xs, rfl, rfl, hq, rep0, h3, q⟩ := h
  cases rv with
  | cons r0 rn =>
    cases rn
    cases r0
    cases rz with
    | cons z0 zn =>
      cases zn
      cases z0
      obtain ⟨its, r, pl, hz⟩ := I.list hq
      have le := rep0.len
      have key := each_zip (ws.zip xs) r le fun b h => h
      have zl : (ws.zip xs).length = xs.length := by rw [List.length_zip, le, Nat.min_self]
      refine W.sorted_key_data (β := V × Tup Int) (bs := ws.zip xs) (R := fun v b => RelV b.1 v ∧ b ∈ ws.zip xs) (b := false) (f := .ref f) (fun b => sumKey b.2) pl.isList key ?_ ?_ ?_ ?_ ?_ ?_ ?_ ?_ ?_
      · intro d m e n
        obtain ⟨b, _, rfl⟩ := List.mem_map.mp m
        obtain ⟨b2, _, rfl⟩ := List.mem_map.mp n
        rfl
      · refine .inr fun d m => ?_
        obtain ⟨b, _, rfl⟩ := List.mem_map.mp m
        exact ⟨(fun h => nomatch h), fun xs h => nomatch h⟩
      · rw [zl]
        exact Nat.le_trans h3 (by decide)
      · intro b m
        show X.A.units + 2 + PyData.depth (.int _) < cLine
        rw [PyData.depth]
        omega
      · first | rfl
      · intro z
        first | rfl
      · intro z
        first | rfl
      · intro v b hR hm' h' tk k
        obtain ⟨hv, mb⟩ := hR
        have rb := Reps.pairs rep0 b mb
        obtain ⟨l, vs2, e1, sT, r2⟩ := rb
        have e2 := reps_intm r2
        subst e2
        rw [e1] at hv
        cases hv
        exact key_sum F Sc hb hst hg hln hm hd rfl hh hr (I.kept (h' := h') (t' := tk) k) sT
      · intro out cc h' tk k fr0 he lo eo
        have vo := each_vals (eo.mono fun _ _ h => h.1)
        have perm := List.mergeSort_perm (ws.zip xs) (W.dataLe false fun b => sumKey b.2)
        have hs : ((ws.zip xs).mergeSort (W.dataLe false fun b => sumKey b.2)).map (·.2) = sortS xs := by
          unfold sortS
          rw [List.map_mergeSort (s := W.dataLe false sumKey) (fun x _ y _ => dataLe_comp (·.2) sumKey x y), zip_snd le]
        have fr : H (s.heap.objs.size + 1) = none := I.hok.fresh (Nat.le_succ _)
        refine ⟨.ref (s.heap.objs.size + 1), _, I.laid (o := .lst (((ws.zip xs).mergeSort (W.dataLe false fun b => sumKey b.2)).map (·.1))) k (Nat.le_succ _) ?_, rfl, q _ _ perm hs fr⟩
        unfold ObjOk
        refine ⟨?_, out, cc, vo, he⟩
        rw [List.length_map, perm.length_eq, zl]
        exact Nat.le_trans h3 (by decide)
theorem dn_sortedKS {c : Ct} {env : List Slot} {a : Expr} {x pn : Str} {st : Stmt} {p px pk pos p1 p2 p3 p4 : Pos} {m : Option (List (Tup Int))} (T : Tf c.K c.mg x st [pn]) (Sc : FnScope [pn] [pn] (defScope st)) (hst : defBody st = [.Return (some (.Call (.Name "sum" p1) [.Name pn p2] [] p3)) p4]) (hgs : (defScope st).names.lookup ("sum" : Str) = some NameKind.globalImplicit) (hln : (defScope st).names.lookup pn = some NameKind.local)
    (hms : c.mg "sum" = none) (hm : c.mg "sorted" = none) (h : DeL c env a m) (hg : Gv c "sorted" := by rfl) (hgx : Gv c x := by rfl) (hpd : (pn == ("__debug__" : Str)) = false := by decide) (hxd : (x == ("__debug__" : Str)) = false := by decide)
    (hs : ∀ env, starEach [a] env = (false, eval a env) :: starEach [] env := by intro _; rfl) 
    (hpe : ∀ (X : Cx) (t tk : TA) (r : List V → List V → Hp → VK → Prop), CallRK X (.builtin "sorted") ["key"] r → Gl X "sorted" → X.mg "sorted" = none → PA X [a] t → PK X [⟨some "key", .Name x px, pk⟩] tk → PE X (.Call (.Name "sorted" p) [a] [⟨some "key", .Name x px, pk⟩] pos) (tCKw r t tk) := by
      intro X t tk r h1 h2 h3 h4 h5; exact pe_callBK h1 h2 h3 (by decide +kernel) h4 h5) :
    DeN c env (.Call (.Name "sorted" p) [a] [⟨some "key", .Name x px, pk⟩] pos) (m.bind fun xs => if xs.length ≤ 100000 then some (sortS xs) else none) := by
  obtain ⟨t, h1, h2⟩ := h
  obtain ⟨fa, fd, hmg, F, hb⟩ := T.ok
  refine ⟨tCKw (rSortKS c.K fa) (tCons t tNil) (tCons (tC (.ref fa)) tNil), fun X Fx => ?_, fun z hz B H σ E Q q => ?_⟩
  · have Fk : Fun X.K x x st fa fd := by rw [Fx.K]; exact F
    have hb' : Binds X.K fd [pn] [] := by rw [Fx.K]; exact hb
    have hd := Fx.room.dp
    refine hpe X _ _ _ (by rw [← Fx.K]; exact cr_sortKS Fk Sc hb' hst hgs hln (by rw [Fx.mg]; exact hms) hpd Fx.room.hd (by omega) (fits_units Fx)) (fits_gl Fx hg) (by rw [Fx.mg]; exact hm) (pa_cons (h1 X Fx) pa_nil (hs _)) (pk_cons (pe_glob (fits_gl Fx hgx) (by rw [Fx.mg]; exact hmg) rfl hxd) pk_nil)
  · obtain ⟨xs, ex, hz⟩ := bind_some hz
    split at hz
    · rename_i ok
      cases hz
      exact h2 xs ex B H σ E _ fun l vs B1 H1 k1 s r => ⟨l, vs, xs, rfl, rfl, s, r.mono k1.bh, ok, fun zs p perm hz hn => q p _ B1 _ (k1.none hn) (k1.trans (Grow.free k1.bh hn)) (k1.bh.none hn) upd_same ⟨_, rfl, by
        rw [← hz]
        exact Reps.unzip fun b m => Reps.pairs r b (perm.mem_iff.mp m)⟩⟩
    · cases hz
end Dn

set_option Elab.async false
set_option linter.all false
set_option maxRecDepth 100000
namespace Dn
open PySem PySem.Spec L2
open Rep (rep)
open ORep (orep)
section
variable {c : Ct} {env : List Slot} {a b : Expr} {α : Type} [Rep α]
theorem Reps.reps {K : PySem.W.Frag} {B : Hp} {vs : List V} {xs : List α} (r : Reps K B vs xs) : ∀ n : Nat, Reps K B (List.replicate n vs).flatten (List.replicate n xs).flatten
  | 0 => .nil
  | n + 1 => by
    rw [List.replicate_succ, List.replicate_succ, List.flatten_cons, List.flatten_cons]
    exact r.append (Reps.reps r n)
def repI {α : Type} (xs : List α) (k : Int) : Option (List α) := if (decide (-1000000 ≤ k) && decide (k ≤ 1000000) && len1 (xs.length * k.toNat)) = true then some (List.replicate k.toNat xs).flatten else none
theorem dn_rep {pos : Pos} {m : Option (List α)} {n : Option Int} (h : DeN c env a m) (g : De c env b n) : DeN c env (.BinOp a .Mult b pos) (m.bind fun x => n.bind fun y => repI x y) := by
  obtain ⟨t, h1, h2⟩ := h
  obtain ⟨u, g1, g2⟩ := g
  refine ⟨_, fun X F => pe_op op_rep (h1 X F) (g1 X F), fun z hz B H σ E Q q => ?_⟩
  obtain ⟨x, ex, hz⟩ := bind_some hz
  obtain ⟨y, ey, hz⟩ := bind_some hz
  unfold repI at hz
  split at hz
  · rename_i hl
    cases hz
    simp only [Bool.and_eq_true, decide_eq_true_eq] at hl
    exact h2 x ex B H σ E _ fun p o B1 H1 np k1 nb hp r => g2 y ey B1 H1 σ (E.grow k1) _ fun v B2 H2 k2 r2 => by
      obtain ⟨vs, rfl, r⟩ := r
      cases r2
      have r := r.mono k2.b
      have kk := k1.trans k2
      exact ⟨p, y, vs, rfl, rfl, k2.h p _ hp, by omega, by omega, by rw [r.len]; exact len1_ok hl.2, fun p3 hn => q p3 _ B2 _ (kk.none hn) (kk.trans (Grow.free kk.bh hn)) (kk.bh.none hn) upd_same ⟨_, rfl, r.reps _⟩⟩
  · cases hz
end
section
variable {S L R : Type} [Rep R] {c : Ct} {env : List Slot} {rest : List Stmt} {e : Expr} {mk : S → List Slot} {lk : L → List Slot} {α : Type} [Rep α]
theorem ds_extend (i : Nat) {x : Str} {p1 p2 p3 pos : Pos} {xs : List α} {m : Option (List α)} {k : List α → Fl S L R} (hi : env[i]? = some (.own xs)) (hN : c.N[i]? = some x) (hv : Vis c.sc x) (h : DeN c env e m) (g : ∀ y, DeS c (env.set i (.own (xs ++ y))) rest mk lk (k (xs ++ y)))
    (hd : (x == ("__debug__" : Str)) = false := by decide) (hcd : (x == ("__classdict__" : Str)) = false := by decide) (hs : ∀ env, starEach [e] env = (false, eval e env) :: starEach [] env := by intro _; rfl)
    (hsw : ∀ env, swapsWith (.Call (.Attribute (.Name x p1) "extend" p2) [e] [] p3) none pos.line env = pure false := by intro _; rfl)
    (hpe : ∀ X to t, PE X (.Name x p1) to → PE X e t → PE X (.Call (.Attribute (.Name x p1) "extend" p2) [e] [] p3) (tBM X.K "list" rExtend to (tCons t tNil)) := by
      intro X to t ho ht; exact pe_bm PySem.F.plainAttrs_list PySem.F.slot_list_extend PySem.F.type_list_extend mt_extend ho (pa_cons ht pa_nil)) :
    DeS c env (.Expr (.Call (.Attribute (.Name x p1) "extend" p2) [e] [] p3) pos :: rest) mk lk (Fl.bindO m fun y => if len1 (xs.length + y.length) = true then k (xs ++ y) else .err) := .mk fun B0 H0 B H σ O D P => by
  obtain ⟨y, ey, P⟩ := post_bindO P
  obtain ⟨t, h1, h2⟩ := h
  split at P
  · rename_i hl
    refine cS_cons (t := tDrop (tBM c.K "list" rExtend (tVar i) (tCons t tNil))) (fun X F => by rw [← F.K]; exact ps_expr (hpe X _ t (pe_var (fits_ix F hN) (fits_vis F hv) hd hcd) (h1 X F)) (hsw _)) ?_
    obtain ⟨a, o, e1, e2, e3, vs, rfl, r⟩ := O.en.own hi
    refine ⟨.ref a, e1, .inl ⟨rfl, _, SqL.of e2⟩, ?_⟩
    refine h2 y ey B H σ O.en _ fun p o B1 H1 np k1 nb hp ro => ?_
    obtain ⟨ws, rfl, rw⟩ := ro
    have O1 := O.grow k1
    refine ⟨a, p, vs, ws, rfl, rfl, k1.h a _ e2, hp, ?_, ?_⟩
    · rw [r.len, rw.len]
      exact len1_ok hl
    · exact g y B0 H0 B1 _ σ (O1.change i hi e1 ⟨_, rfl, (r.mono k1.b).append rw⟩) D (P.mono k1.b)
  · exact P.elim
end
end Dn

set_option Elab.async false
set_option linter.all false
set_option maxRecDepth 100000
namespace Dn
section
open PySem PySem.Spec PyProof.Rows L2
theorem tuple_mul1 (l : Addr) (items : Array Value) (n : Nat) (dd : Option Addr) (sl : Array (Option Value)) (u : Tok) :
  Meets (Builtin.«tuple.__mul__» { pos := [Value.ref l, Value.int 1 u] }) fun _ R s =>
                s.heap.get? l = some { cls := Value.type "tuple", dict := dd, data := Data.seq items n, slots := sl } ∧
                  R (Except.ok (Flow.ret (Value.ref l))) s := by
  intro prog w A R s h
  obtain ⟨h1, h2⟩ := h
  unfold Builtin.«tuple.__mul__»
  wp_walk
  exact h2
theorem mul1_raw {prog : Program} {w : World} {A : Around} {E : Value → Shared → Prop} {s : Shared} {Q : Value → Shared → Prop} (l : Addr) (items : Array Value) (n : Nat) (dd : Option Addr) (sl : Array (Option Value)) (u : Tok)
  (hl : s.heap.get? l = some { cls := Value.type "tuple", dict := dd, data := Data.seq items n, slots := sl })
  (hq : Q (.ref l) s) : wpAny (model prog w) A (binaryOp .Mult (.ref l) (.int 1 u)) Q E s := by
  have hfi : fillsNumberSlot (Value.type "int") "mul" = pure true := by rfl
  have ty : s.TypeIs (.ref l) "tuple" := ⟨_, hl, rfl⟩
  have tyi : s.TypeIs (.int 1 u) "int" := rfl
  have nf := noFill_tuple_mul
  have rp := repeat_tuple
  rw [binaryOp.eq_1]
  unfold binaryOp1
  have e : Operator.Mult.info = ("*", "mul") := rfl
  simp only [e]
  generalize hF : fillsNumberSlot = F at *
  generalize hG : numberSlotInPython = G at *
  generalize hT : tryMethod = T at *
  generalize hS : sequenceRepeat = SR at *
  generalize hR : seqRepeat? = RR at *
  wp_walk
  subst hT
  unfold tryMethod
  have s1 := PySem.F.slot_int_rmul.lookup
  have s2 := PySem.F.slot_int_rmul.bind (.int 1 u)
  wp_walk
  refine codeAny_mono (codeAny_call_builtin (R := wants (fun v s1 => v = .notImplemented ∧ s1 = s) E) PySem.F.slot_int_rmul.plain PySem.F.entry_int_rmul (PySem.F.slot_int_rmul.check _ _ _ _ _ _ _ _ tyi (PySem.F.args_int_rmul_2 _ _) (int_rmul_tuple 1 u l items n dd sl _ _ _ _ _ ⟨hl, rfl, rfl⟩))) fun r s' hr => ?_
  cases r with
  | error e => exact hr
  | ok fl =>
    cases fl with
    | ret v =>
      obtain ⟨rfl, rfl⟩ := hr
      show wpAny _ _ _ _ _ _
      subst hS
      unfold sequenceRepeat
      have s3 : typeLookup (Value.type "int") (Str.ofString "__index__") = pure (some (.builtin "int.__index__")) := by rfl
      wp_walk
      refine codeAny_mono (codeAny_call_builtin (R := wants (fun v s1 => v = .ref l ∧ s1 = s') E) PySem.F.slot_tuple_mul.plain PySem.F.entry_tuple_mul (PySem.F.slot_tuple_mul.check _ _ _ _ _ _ _ _ ty (PySem.F.args_tuple_mul_2 _ _) (tuple_mul1 l items n dd sl u _ _ _ _ _ ⟨hl, rfl, rfl⟩))) fun r s2 hr => ?_
      cases r with
      | error e => exact hr
      | ok fl =>
        cases fl with
        | ret v =>
          obtain ⟨rfl, rfl⟩ := hr
          exact hq
        | _ => exact hr.elim
    | _ => exact hr.elim

end
section
open PySem PySem.Spec L2
open Rep (rep)
def rRep1 (K : PySem.W.Frag) : R2 := fun x y H Q => ∃ (l : Addr) (k : Int) (xs : List V), x = .ref l ∧ y = .int k ∧ SqT K H l xs ∧ xs ≠ [] ∧ 1 ≤ k ∧ k ≤ 1000 ∧ xs.length ≤ 1000 ∧ (k = 1 → Q (.ref l) H) ∧ (2 ≤ k → ∀ p, H p = none → Q (.ref p) (upd H p (.tup (List.replicate k.toNat xs).flatten)))
theorem op_rep1 {X : Cx} : OpR X (binaryOp .Mult) (rRep1 X.K) := by
  intro pins s σ H x y v u Q I rx ry h
  obtain ⟨l, k, xs, rfl, rfl, hs, ne, k1, k2, hl, q1, q2⟩ := h
  by_cases e : k = 1
  · subst e
    cases rx
    obtain ⟨t, rfl⟩ := ry
    obtain ⟨its, r, p, _⟩ := I.tuple hs
    obtain ⟨⟨cls, dd, data, sl⟩, ho, hc, n, hd⟩ := id p
    simp only at hc hd
    subst hc hd
    exact mul1_raw l its.toArray n dd sl t ho ⟨.ref l, H, I, rfl, q1 rfl⟩
  · exact op_repT pins s σ H (.ref l) (.int k) v u Q I rx ry ⟨l, k, xs, rfl, rfl, hs, ne, by omega, k2, hl, q2 (by omega)⟩
variable {c : Ct} {env : List Slot} {a b : Expr} {α : Type} [Rep α]
def repU {α : Type} (x : Tup α) (k : Int) : Option (Tup α) := if (!x.l.isEmpty && decide (1 ≤ k) && decide (k ≤ 1000) && decide (x.l.length ≤ 1000)) = true then some ⟨(List.replicate k.toNat x.l).flatten⟩ else none
theorem ops_repU : OpS c.K (rRep1 c.K) (repU (α := α)) := fun x y z hz B H v u hB r1 r2 Q q => by
  unfold repU at hz
  split at hz
  · rename_i h
    cases hz
    simp only [Bool.and_eq_true, decide_eq_true_eq, Bool.not_eq_true'] at h
    obtain ⟨⟨⟨h1, h2⟩, h3⟩, h4⟩ := h
    obtain ⟨p1, vs, rfl, s1, r1⟩ := r1
    cases r2
    have l1 := r1.len
    refine ⟨p1, y, vs, rfl, rfl, hB.t s1, fun e => ?_, h2, h3, by omega, fun e => ?_, fun _ p hp => ?_⟩
    · subst e
      have e2 : x.l = [] := List.length_eq_zero_iff.mp l1.symm
      rw [e2] at h1
      cases h1
    · subst e
      refine q (.ref p1) B H (Grow.refl hB) ⟨p1, vs, rfl, s1, ?_⟩
      show Reps c.K B vs (List.replicate (Int.toNat 1) x.l).flatten
      simpa using r1
    · exact q (.ref p) _ _ (Grow.new hB hp) ⟨p, _, rfl, SqT.of upd_same, (r1.reps _).mono (Le.put (hB.none hp))⟩
  · cases hz
theorem de_repU {pos : Pos} {m : Option (Tup α)} {n : Option Int} (ha : De c env a m) (hb : De c env b n) : De c env (.BinOp a .Mult b pos) (m.bind fun x => n.bind fun y => repU x y) :=
  de_op (r := rRep1 c.K) (fun X F => by rw [← F.K]; exact op_rep1) ops_repU ha hb
end
end Dn

set_option Elab.async false
set_option linter.all false
set_option maxRecDepth 100000
namespace Dn
open PySem PySem.Spec L2
open Rep (rep)
open ORep (orep)
section
variable {c : Ct} {env : List Slot} {e a b d elt iter tg : Expr} {es : List Expr} {α β γ : Type} [Rep α] [Rep β] [Rep γ]
def DeItT (c : Ct) (env : List Slot) (tg e : Expr) {α : Type} [Rep α] (m : Option (List α)) : Prop :=
  ∃ wi, (∀ X, Fits c X → PI X tg e wi) ∧ ∀ xs, m = some xs → ∀ (B H : Hp) (σ : St), Env c.K B H σ env → ∀ R : It → Hp → Prop, (∀ J B' H', Grow B H B' H' → DWalk c.K B' J xs → R J H') → wi σ H R
theorem DeIt.t {m : Option (List α)} (h : DeIt c env e m) : DeItT c env tg e m := by
  obtain ⟨wi, h1, h2⟩ := h
  exact ⟨wi, fun X F => h1 X F tg, h2⟩
theorem dn_compT {scope : Scope} {own : List (Str × Nat)} {pos : Pos} {is : List Nat} {f : α → List Slot → List Slot} {m : Option (List α)} {h : α → Option γ} (nd : c.N.Nodup) (hi : DeItT c env tg iter m) (ok : BlkOk c.N c.sc scope own) (hg : DeTg (c.blk scope) tg f is) (sub : ∀ i ∈ is, i ∈ own.map (·.2))
    (he : ∀ x, De (c.blk scope) (f x (wipeE env (own.map (·.2)))) elt (h x)) (hs : ∀ env x, foldedSetIterable iter env x = pure x := by intro _ _; rfl) :
    DeN c env (.ListComp elt [⟨tg, iter, [], 0⟩] scope pos) (m.bind fun xs => (capI xs).bind fun xs => mapO h xs) := by
  obtain ⟨wi, i1, i2⟩ := hi
  obtain ⟨g, g1, g2⟩ := hg
  refine ⟨_, fun X F => pe_lc F.calm (by rw [F.N]; exact nd) (i1 X F) (by rw [F.N, F.sc]; exact ok) (fun s H C cl fp => g1 _ (F.blk s H scope C cl fp)) (fun s H C cl fp => pts_nil) (fun s H C cl fp => cE_pe _ (F.blk s H scope C cl fp)) (hs _), fun z hz => ?_⟩
  obtain ⟨xs, ex, hz⟩ := bind_some hz
  obtain ⟨xs', hc, hz⟩ := bind_some hz
  unfold capI at hc
  split at hc
  · rename_i hl
    cases hc
    rw [← mapO_comp] at hz
    refine ev_comp (i2 xs ex) g2 sub (fun x o eo B H σ E Q q => ?_) (fun x y ey => (he x).can y ?_) (of_decide_eq_true hl) hz
    · cases o with
      | none =>
        cases g : h x with
        | none => rw [g] at eo; cases eo
        | some y => rw [g] at eo; cases eo
      | some y => exact q B H (Grow.refl E.bh)
    · cases g : h x with
      | none => rw [g] at ey; cases ey
      | some y' => rw [g] at ey; cases ey; rfl
  · cases hc
theorem dn_compIfT {t : Expr} {scope : Scope} {own : List (Str × Nat)} {pos : Pos} {is : List Nat} {f : α → List Slot → List Slot} {m : Option (List α)} {p : α → Option Bool} {h : α → Option γ} (nd : c.N.Nodup) (hi : DeItT c env tg iter m) (ok : BlkOk c.N c.sc scope own) (hg : DeTg (c.blk scope) tg f is) (sub : ∀ i ∈ is, i ∈ own.map (·.2))
    (ht : ∀ x, DeT (c.blk scope) (f x (wipeE env (own.map (·.2)))) t (p x)) (he : ∀ x, De (c.blk scope) (f x (wipeE env (own.map (·.2)))) elt (h x)) (hs : ∀ env x, foldedSetIterable iter env x = pure x := by intro _ _; rfl) :
    DeN c env (.ListComp elt [⟨tg, iter, [t], 0⟩] scope pos) (m.bind fun xs => (capI xs).bind fun xs => compO (fun x => (p x).bind fun k => if k = true then (h x).map some else some none) xs) := by
  obtain ⟨wi, i1, i2⟩ := hi
  obtain ⟨g, g1, g2⟩ := hg
  refine ⟨_, fun X F => pe_lc F.calm (by rw [F.N]; exact nd) (i1 X F) (by rw [F.N, F.sc]; exact ok) (fun s H C cl fp => g1 _ (F.blk s H scope C cl fp)) (fun s H C cl fp => pts_one (cT_pt _ (F.blk s H scope C cl fp))) (fun s H C cl fp => cE_pe _ (F.blk s H scope C cl fp)) (hs _), fun z hz => ?_⟩
  obtain ⟨xs, ex, hz⟩ := bind_some hz
  obtain ⟨xs', hc, hz⟩ := bind_some hz
  unfold capI at hc
  split at hc
  · rename_i hl
    cases hc
    refine ev_comp (i2 xs ex) g2 sub (fun x o eo => (ht x).can _ ?_) (fun x y ey => (he x).can y ?_) (of_decide_eq_true hl) hz
    · obtain ⟨k, ek, eo⟩ := bind_some eo
      rw [ek]
      cases k with
      | false => cases eo; rfl
      | true =>
        have eo : (h x).map some = some o := eo
        cases g : h x with
        | none => rw [g] at eo; cases eo
        | some y => rw [g] at eo; cases eo; rfl
    · obtain ⟨k, ek, ey⟩ := bind_some ey
      cases k with
      | false => cases ey
      | true =>
        have ey : (h x).map some = some (some y) := ey
        cases g : h x with
        | none => rw [g] at ey; cases ey
        | some y' => rw [g] at ey; cases ey; rfl
  · cases hc
theorem dwalk_pair {K : PySem.W.Frag} {B : Hp} {J : It} {G : Hp → Prop} {vs ws : List V} {xs : List α} {ys : List β} (W : Walk J (min vs.length ws.length) G (YPair (fun i => vs[i]?) fun i => ws[i]?)) (hG : ∀ H, Le B H → G H) (r1 : Reps K B vs xs) (r2 : Reps K B ws ys) : DWalk K B J (xs.zip ys) := by
  refine ⟨G, _, by rw [List.length_zip, ← r1.len, ← r2.len]; exact W, hG, fun i B1 H v H' hi l1 l2 y => ?_⟩
  obtain ⟨T, x, y', rfl, hT, rfl, g1, g2⟩ := y
  obtain ⟨p, ep, rp⟩ := r1.get g1
  obtain ⟨q, eq, rq⟩ := r2.get g2
  refine ⟨upd B1 T (.tup [x, y']), (p, q), Grow.new l2 hT, ?_, T, x, y', rfl, SqT.of upd_same, Rep.mono (l1.trans (Le.put (l2.none hT))) rp, Rep.mono (l1.trans (Le.put (l2.none hT))) rq⟩
  rw [List.getElem?_zip_eq_some]
  exact ⟨ep, eq⟩
theorem di_zipL {elts : List Expr} {k : Nat} {tpos p pos : Pos} {m : Option (List α)} {n : Option (List β)} (hm : c.mg "zip" = none) (h : De c env a m) (g : De c env b n) (hg : Gv c "zip" := by rfl) (hs : ∀ env, starEach [a, b] env = (false, eval a env) :: starEach [b] env := by intro _; rfl) (hs2 : ∀ env, starEach [b] env = (false, eval b env) :: starEach [] env := by intro _; rfl)
    (hpe : ∀ (X : Cx) (t u : TE), PE X a t → PE X b u → Gl X "zip" → X.mg "zip" = none → PI X (.Tuple elts k tpos) (.Call (.Name "zip" p) [a, b] [] pos) (RZ.iZipA X.K (tCons t (tCons u tNil))) := by
      intro X t u h1 h2 h3 h4; exact RZ.pi_zipA h3 h4 (pa_cons h1 (pa_cons h2 pa_nil))) :
    DeItT c env (.Tuple elts k tpos) (.Call (.Name "zip" p) [a, b] [] pos) (m.bind fun x => n.bind fun y => some (x.zip y)) := by
  obtain ⟨t, h1, h2⟩ := h
  obtain ⟨u, g1, g2⟩ := g
  refine ⟨RZ.iZipA c.K (tCons t (tCons u tNil)), fun X F => by rw [← F.K]; exact hpe X t u (h1 X F) (g1 X F) (fits_gl F hg) (by rw [F.mg]; exact hm), fun xs hx B H σ E R q => ?_⟩
  obtain ⟨x, ex, hx⟩ := bind_some hx
  obtain ⟨y, ey, hx⟩ := bind_some hx
  cases hx
  refine h2 x ex B H σ E _ fun v B1 H1 k1 r => g2 y ey B1 H1 σ (E.grow k1) _ fun v2 B2 H2 k2 r2 => ?_
  obtain ⟨p1, vs, rfl, s1, r⟩ := r
  obtain ⟨p2, ws, rfl, s2, r2⟩ := r2
  have s1' := k2.b.l s1
  refine ⟨p1, p2, vs, ws, rfl, .inl ⟨k2.bh.l s1', k2.bh.l s2, q _ B2 H2 (k1.trans k2) (dwalk_pair (walk_zip rfl) (fun H l => ⟨l.l s1', l.l s2⟩) (r.mono k2.b) r2)⟩⟩
end
section
variable {S T L R : Type} [Rep R]
variable {c : Ct} {env env' : List Slot} {st : Stmt} {rest b b' : List Stmt} {e a d : Expr} {mk : S → List Slot} {lk : L → List Slot} {α β γ : Type} [Rep α] [Rep β] [Rep γ]
theorem ds_forT {f' : α → List Slot → List Slot} {is : List Nat} {tg iter : Expr} {pos : Pos} {m : Option (List α)} {sk : T → List Slot} {s0 : T} {f : α → T → Fl T T R} {k : T → Fl S L R} (hi : DeItT c env tg iter m) (hg : DeTg c tg f' is) (w : Wk env (sk s0))
    (hb : ∀ x s, DeS c (f' x (sk s)) b sk sk (f x s)) (g : ∀ s, DeS c (sk s) rest mk lk (k s)) (hs : ∀ env x, foldedSetIterable iter env x = pure x := by intro _ _; rfl) :
    DeS c env (.For tg iter b [] pos :: rest) mk lk (Fl.bindO m fun xs => (Fl.loop f xs s0 : Fl T L R).bind k) := .mk fun B0 H0 B H σ O D P => by
  obtain ⟨xs, exs, P⟩ := post_bindO P
  obtain ⟨wi, i1, i2⟩ := hi
  obtain ⟨gt, g1, g2⟩ := hg
  refine cS_cons (fun X F => ps_for (by rw [F.xe]; exact PassesOwn.never) F.calm (i1 X F) (g1 X F) (cS_ps X F) (hs _)) ?_
  refine i2 xs exs B H σ O.en _ fun J B1 H1 k1 ⟨G, Y, W, hG, hY⟩ => ?_
  generalize hm : (Fl.loop f xs s0 : Fl T L R) = total at P
  refine for_it W (fun i σ' H' => ∃ B' s, StOk c.K B0 H0 B' H' σ' (sk s) ∧ Le B1 B' ∧ (Fl.loop f (xs.drop i) s : Fl T L R) = total) ⟨B1, s0, (O.grow k1).wk w, Le.refl _, hm⟩
    (fun i σ' H' _ ⟨B', s, O', l', _⟩ => hG H' (l'.trans O'.en.bh)) (fun i v σ' H' H2 hi ⟨B', s, O', l', ht⟩ y => ?_) fun σ' H' ⟨B', s, O', l', ht⟩ => ?_
  · obtain ⟨B2, x, k2, ex, rx⟩ := hY i B' H' v H2 hi l' O'.en.bh y
    have O2 := O'.grow k2
    refine g2.run x (sk s) B2 H2 σ' v O2.en rx _ fun σ3 E3 _ kp no => ?_
    have O3 : StOk c.K B0 H0 B2 H2 σ3 (f' x (sk s)) := O2.retarget E3 kp no
    rw [loop_take ex] at ht
    refine hb x s B0 H0 B2 H2 σ3 O3 _ ?_
    cases hf : f x s with
    | err =>
      rw [hf] at ht
      rw [← ht] at P
      exact P
    | nx s' =>
      rw [hf] at ht
      exact fun B4 H4 σ4 l4 O4 => ⟨B4, s', O4, (l'.trans k2.b).trans l4, ht⟩
    | ct s' =>
      rw [hf] at ht
      exact fun B4 H4 σ4 l4 O4 => ⟨B4, s', O4, (l'.trans k2.b).trans l4, ht⟩
    | bk s' =>
      rw [hf] at ht
      rw [← ht] at P
      exact fun B4 H4 σ4 l4 O4 => g s' B0 H0 B4 H4 σ4 O4 D (P.mono ((k1.b.trans (l'.trans k2.b)).trans l4))
    | rt r =>
      rw [hf] at ht
      rw [← ht] at P
      exact P
  · rw [List.drop_length] at ht
    rw [← ht] at P
    exact g s B0 H0 B' H' σ' O' D (P.mono (k1.b.trans l'))
end
end Dn

set_option Elab.async false
set_option linter.all false
set_option maxRecDepth 100000
namespace Dn
open PySem PySem.Spec L2
open Rep (rep)
open ORep (orep)
section
variable {c : Ct} {env : List Slot} {a b e o e1 e2 e3 e4 : Expr} {es : List Expr} {α β γ δ R : Type} [Rep α] [Rep β] [Rep γ] [Rep δ] [Rep R]
theorem de_fldP {g : α → β} {f : Str} {pos : Pos} {x : α} (hf : HasF c.K f g) (h : De c env o (some x)) (hb : ∀ env, attributeBase o f env (eval o env) = eval o env := by intro _; rfl) : De c env (.Attribute o f pos) (some (g x)) := de_fld hf h hb
theorem de_pairP {x : α} {y : β} {pos : Pos} {x1} (ha : De c env a (some x)) (hb : De c env b (some y)) (hs : ∀ env, starEach [a, b] env = (false, eval a env) :: starEach [b] env := by intro _; rfl) (hs2 : ∀ env, starEach [b] env = (false, eval b env) :: starEach [] env := by intro _; rfl) : De c env (.Tuple [a, b] x1 pos) (some (x, y)) := de_pair ha hb hs hs2
theorem di_consP {x : α} {xs : List α} (h : De c env e (some x)) (g : DeI c env es (some xs)) (hs : ∀ env, starEach (e :: es) env = (false, eval e env) :: starEach es env := by intro _; rfl) : DeI c env (e :: es) (some (x :: xs)) := di_cons h g hs
theorem dn_lstP {xs : List α} {pos : Pos} (h : DeI c env es (some xs)) (hl : len1 xs.length = true := by rfl) : DeN c env (.List es pos) (some xs) := by
  have := dn_lst (pos := pos) h
  rw [Option.bind_some] at this
  unfold capL at this
  rw [if_pos hl] at this
  exact this
theorem de_lenLP {p pos : Pos} {x : List α} (hm : c.mg "len" = none) (h : DeL c env a (some x)) (hg : Gv c "len" := by rfl) (hs : ∀ env, starEach [a] env = (false, eval a env) :: starEach [] env := by intro _; rfl) : De c env (.Call (.Name "len" p) [a] [] pos) (some (x.length : Int)) := de_lenL hm h hg hs
theorem de_lenUP {p pos : Pos} {x : Tup α} (hm : c.mg "len" = none) (h : De c env a (some x)) (hg : Gv c "len" := by rfl) (hs : ∀ env, starEach [a] env = (false, eval a env) :: starEach [] env := by intro _; rfl) : De c env (.Call (.Name "len" p) [a] [] pos) (some (x.l.length : Int)) := de_lenU hm h hg hs
theorem de_sumUP {p pos : Pos} {x : Tup Int} (hm : c.mg "sum" = none) (h : De c env a (some x)) (hg : Gv c "sum" := by rfl) (hs : ∀ env, starEach [a] env = (false, eval a env) :: starEach [] env := by intro _; rfl) : De c env (.Call (.Name "sum" p) [a] [] pos) (some x.l.sum) := de_sumU hm h (hg := hg) (hs := hs)
theorem di_rangeP {p pos : Pos} {j : Int} (hm : c.mg "range" = none) (h : De c env a (some j)) (hg : Gv c "range" := by rfl) (hs : ∀ env, starEach [a] env = (false, eval a env) :: starEach [] env := by intro _; rfl) : DeIt c env (.Call (.Name "range" p) [a] [] pos) (rangeI j) := di_range hm h hg hs
theorem de_call1P {f : α × Unit → Option R} {x : Str} {p pos : Pos} {a1 : α} (D : Df c x f) (h1 : De c env e1 (some a1)) (hg : Gv c x := by rfl) (hdb : (x == ("__debug__" : Str)) = false := by decide) (he : ∀ env, starEach [e1] env = (false, eval e1 env) :: starEach [] env := by intro _; rfl) : De c env (.Call (.Name x p) [e1] [] pos) (f (a1, ())) := de_call1 D h1 hg hdb he
theorem de_call2P {f : α × β × Unit → Option R} {x : Str} {p pos : Pos} {a1 : α} {a2 : β} (D : Df c x f) (h1 : De c env e1 (some a1)) (h2 : De c env e2 (some a2)) (hg : Gv c x := by rfl) (hdb : (x == ("__debug__" : Str)) = false := by decide) (he : ∀ env, starEach [e1, e2] env = (false, eval e1 env) :: starEach [e2] env := by intro _; rfl) (he2 : ∀ env, starEach [e2] env = (false, eval e2 env) :: starEach [] env := by intro _; rfl) :
    De c env (.Call (.Name x p) [e1, e2] [] pos) (f (a1, a2, ())) := de_call2 D h1 h2 hg hdb he he2
theorem de_call3P {f : α × β × γ × Unit → Option R} {x : Str} {p pos : Pos} {a1 : α} {a2 : β} {a3 : γ} (D : Df c x f) (h1 : De c env e1 (some a1)) (h2 : De c env e2 (some a2)) (h3 : De c env e3 (some a3)) (hg : Gv c x := by rfl) (hdb : (x == ("__debug__" : Str)) = false := by decide) (he : ∀ env, starEach [e1, e2, e3] env = (false, eval e1 env) :: starEach [e2, e3] env := by intro _; rfl) (he2 : ∀ env, starEach [e2, e3] env = (false, eval e2 env) :: starEach [e3] env := by intro _; rfl) (he3 : ∀ env, starEach [e3] env = (false, eval e3 env) :: starEach [] env := by intro _; rfl) :
    De c env (.Call (.Name x p) [e1, e2, e3] [] pos) (f (a1, a2, a3, ())) := de_call3 D h1 h2 h3 hg hdb he he2 he3
end
end Dn

set_option Elab.async false
set_option linter.all false
set_option maxRecDepth 100000
namespace Dn
open PySem PySem.Spec L2
open Rep (rep)
open ORep (orep)
section
variable {S T L β : Type} [ORep β]
def PostN (K : PySem.W.Frag) (B0 H0 Bs : Hp) (mk : S → List Slot) (lk : L → List Slot) (D : Ends) (m : Fl S L β) : Prop := match m with
  | .err => False
  | .nx s => ∀ B H σ, Le Bs B → StOk K B0 H0 B H σ (mk s) → D.nx σ H
  | .rt r => ∀ p o B H, H0 p = none → Grow B0 H0 B H → B p = none → H p = some o → orep K B o r → D.rt (.ref p) H
  | .bk s => ∀ B H σ, Le Bs B → StOk K B0 H0 B H σ (lk s) → D.bk σ H
  | .ct s => ∀ B H σ, Le Bs B → StOk K B0 H0 B H σ (lk s) → D.ct σ H
structure DeSN (c : Ct) (env : List Slot) (b : List Stmt) (mk : S → List Slot) (lk : L → List Slot) (m : Fl S L β) : Prop where
  ok : ∀ (B0 H0 B H : Hp) (σ : St), StOk c.K B0 H0 B H σ env → ∀ D : Ends, PostN c.K B0 H0 B mk lk D m → cS c b D σ H
instance {c : Ct} {env : List Slot} {b : List Stmt} {mk : S → List Slot} {lk : L → List Slot} {m : Fl S L β} : CoeFun (DeSN c env b mk lk m) (fun _ => ∀ (B0 H0 B H : Hp) (σ : St), StOk c.K B0 H0 B H σ env → ∀ D : Ends, PostN c.K B0 H0 B mk lk D m → cS c b D σ H) := ⟨DeSN.ok⟩
theorem PostN.mono {K : PySem.W.Frag} {B0 H0 B1 B2 : Hp} {mk : S → List Slot} {lk : L → List Slot} {D : Ends} {m : Fl S L β} (l : Le B1 B2) (P : PostN K B0 H0 B1 mk lk D m) : PostN K B0 H0 B2 mk lk D m := by
  cases m with
  | err => exact P
  | nx s => exact fun B H σ k => P B H σ (l.trans k)
  | rt r => exact P
  | bk s => exact fun B H σ k => P B H σ (l.trans k)
  | ct s => exact fun B H σ k => P B H σ (l.trans k)
variable {c : Ct} {env env' : List Slot} {st : Stmt} {rest b b' : List Stmt} {e a d : Expr} {mk : S → List Slot} {lk : L → List Slot}
theorem postN_bindO {A : Type} {K : PySem.W.Frag} {B0 H0 Bs : Hp} {D : Ends} {m : Option A} {k : A → Fl S L β} (P : PostN K B0 H0 Bs mk lk D (Fl.bindO m k)) : ∃ x, m = some x ∧ PostN K B0 H0 Bs mk lk D (k x) := by
  cases m with
  | none => exact P.elim
  | some x => exact ⟨x, rfl, P⟩
theorem dsn_end {s : S} (w : Wk env (mk s)) : DeSN c env [] mk lk (.nx s : Fl S L β) := .mk fun B0 H0 B H σ O D P =>
  cS_of (fun X F => pss_nil) (show tNext D σ H from P B H σ (Le.refl _) (O.wk w))
theorem dsn_ret {pos : Pos} {m : Option β} (h : DeN c env e m) : DeSN c env (.Return (some e) pos :: rest) mk lk (Fl.bindO m fun x => (.rt x : Fl S L β)) := .mk fun B0 H0 B H σ O D P => by
  obtain ⟨x, ex, P⟩ := postN_bindO P
  obtain ⟨t, h1, h2⟩ := h
  refine cS_cons (fun X F => ps_ret (h1 X F)) ?_
  exact h2 x ex B H σ O.en _ fun p o B1 H1 np k1 nb hp r => P p o B1 H1 (O.g.none np) (O.g.trans k1) nb hp r
theorem postN_bind {J : Type} {jk : J → List Slot} {K : PySem.W.Frag} {B0 H0 Bs : Hp} {D : Ends} {m : Fl J L β} {k : J → Fl S L β} (P : PostN K B0 H0 Bs mk lk D (m.bind k)) {next : St → Hp → Prop} (hn : ∀ j, m = .nx j → PostN K B0 H0 Bs mk lk D (k j) → ∀ B H σ, Le Bs B → StOk K B0 H0 B H σ (jk j) → next σ H) :
    PostN K B0 H0 Bs jk lk { D with nx := next } m := by
  cases m with
  | err => exact P
  | nx j => exact hn j rfl P
  | rt r => exact P
  | bk s => exact P
  | ct s => exact P
theorem dsn_if {J : Type} {jk : J → List Slot} {t : Expr} {pos : Pos} {mt : Option Bool} {m1 m2 : Fl J L β} {k : J → Fl S L β} (ht : DeT c env t mt) (h1 : DeSN c env b jk lk m1) (h2 : DeSN c env b' jk lk m2) (g : ∀ j, DeSN c (jk j) rest mk lk (k j)) :
    DeSN c env (.If t b b' pos :: rest) mk lk (Fl.bindO mt fun x => (if x = true then m1 else m2).bind k) := .mk fun B0 H0 B H σ O D P => by
  obtain ⟨x, ex, P⟩ := postN_bindO P
  obtain ⟨u, t1, t2⟩ := ht
  refine cS_cons (fun X F => ps_if (t1 X F) (cS_ps X F) (cS_ps X F)) ?_
  refine t2 x ex B H σ O.en _ fun B1 H1 k1 => ?_
  have O1 := O.grow k1
  cases x with
  | true =>
    show cS c b { D with nx := cS c rest D } σ H1
    exact h1 B0 H0 B1 H1 σ O1 _ (postN_bind (P.mono k1.b) fun j _ Pj B2 H2 σ2 l2 O2 => g j B0 H0 B2 H2 σ2 O2 D (Pj.mono l2))
  | false =>
    show cS c b' { D with nx := cS c rest D } σ H1
    exact h2 B0 H0 B1 H1 σ O1 _ (postN_bind (P.mono k1.b) fun j _ Pj B2 H2 σ2 l2 O2 => g j B0 H0 B2 H2 σ2 O2 D (Pj.mono l2))
end
def spN (K : PySem.W.Frag) {P R : Type} [Pk P] [ORep R] (f : P → Option R) : Sp := fun vs H Q _ => ∃ (p : P) (r : R) (B : Hp), f p = some r ∧ Le B H ∧ Args K B vs (Pk.sl p) ∧ ∀ q o B' H', H q = none → Grow B H B' H' → B' q = none → H' q = some o → orep K B' o r → Q (.ref q) H'
section
variable {P : Program} {w : World} {K : PySem.W.Frag} {mg : Str → Option Value} {base : Heap}
theorem fn_okN {Pp S L R : Type} [Pk Pp] [ORep R] {x qual : Str} {st : Stmt} {f : Addr} {fd : FuncData} {N ps : List Str} {k : Nat} {mk : S → List Slot} {lk : L → List Slot} {m : Pp → Fl S L R} (F : Fun K x qual st f fd) (Sc : FnScope N ps (defScope st)) (np : ps.length ≤ N.length)
    (hn : ∀ p : Pp, (Pk.sl p).length = ps.length)
    (hb : ∀ p : Pp, DeSN (ctOf P w K mg base k N (defScope st)) (Pk.sl p ++ List.replicate (N.length - (Pk.sl p).length) .any) (defBody st) mk lk (m p)) :
    FnOk P w K mg base CX0 (k + 1) f fd ps (spN K fun p => (m p).fin none) := by
  refine F.ok Sc (fun vs H Q E h => ?_) (fun cdv A outer s H vs Q E hr h => ?_)
  · obtain ⟨p, r, B, _, _, ha, _⟩ := h
    exact ha.len.trans (hn p)
  · obtain ⟨p, r, B, hf, lB, ha, q⟩ := h
    have hl : vs.length ≤ N.length := by
      rw [ha.len, hn p]
      exact np
    refine ⟨_, cS_ps _ (fits_def hr), ?_⟩
    refine hb p B H B H _ (st_start lB ha hl) _ ?_
    replace hf : Fl.fin none (m p) = some r := hf
    cases hm : m p with
    | err => rw [hm] at hf; cases hf
    | nx s' => rw [hm] at hf; cases hf
    | rt r' =>
      rw [hm] at hf
      cases hf
      exact fun p' o B' H' n g nb hp rv => q p' o B' H' n g nb hp rv
    | bk s' => rw [hm] at hf; cases hf
    | ct s' => rw [hm] at hf; cases hf
end
section
variable {c : Ct} {env : List Slot} {e o : Expr} {es : List Expr} {α β γ R : Type} [Rep α] [Rep β] [ORep R]
structure MtN (c : Ct) (α : Type) [Rep α] (x : Str) {P R : Type} [Pk P] [ORep R] (f : α × P → Option R) : Prop where
  ok : ∃ (C : Addr) (j : Nat) (fa : Addr) (fd : FuncData) (ps : List Str), FnOk c.P c.w c.K c.mg c.base CX0 j fa fd ps (spN c.K f) ∧ j ≤ c.k ∧ Cls c.K C ∧ Meth c.K C x fa ∧ Binds c.K fd ps [] ∧
    ∀ (B : Hp) (v : V) (y : α), rep c.K B v y → ∃ a dx fs, v = .ref a ∧ B a = some (.ins C dx fs) ∧ fs.lookup x = none
theorem dn_meth0 {f : α × Unit → Option R} {x : Str} {p pos : Pos} {y : α} (D : MtN c α x f) (h : De c env o (some y))
    (hpe : ∀ (X : Cx) (t : TE) (C fa : Addr) (j : Nat) (fd : FuncData) (ps : List Str), PE X o t → Cls X.K C → Meth X.K C x fa → FnOk X.prog X.w X.K X.mg X.base CX0 j fa fd ps (spN X.K f) → Room j X.A → Binds X.K fd ps [] → PE X (.Call (.Attribute o x p) [] [] pos) (tMeth C x (spN X.K f) [] E0 t tNil) := by
      intro X t C fa j fd ps h1 h2 h3 h4 h5 h6; exact pe_meth0 h1 h2 h3 h4 h5 h6 .nil pass0) : DeN c env (.Call (.Attribute o x p) [] [] pos) (f (y, ())) := by
  obtain ⟨C, j, fa, fd, ps, F, hj, hc, hm, hb, hl⟩ := D.ok
  obtain ⟨t, h1, h2⟩ := h
  refine ⟨tMeth C x (spN c.K f) [] E0 t tNil, fun X Fx => ?_, fun z hz B H σ E Q q => ?_⟩
  · rw [← Fx.K]
    refine hpe X t C fa j fd ps (h1 X Fx) (by rw [Fx.K]; exact hc) (by rw [Fx.K]; exact hm) ?_ (Fx.room.mono hj) (by rw [Fx.K]; exact hb)
    rw [Fx.P, Fx.w, Fx.K, Fx.mg, Fx.base]
    exact F
  · refine h2 y rfl B H σ E _ fun v B1 H1 k1 r => ?_
    obtain ⟨a, dx, fs, rfl, e1, e2⟩ := hl B1 v y r
    exact ⟨a, dx, fs, rfl, k1.bh a _ e1, e2, (y, ()), z, B1, hz, k1.bh, .cons r .nil, fun p' o' B2 H2 np k2 nb hp r2 => q p' o' B2 H2 (k1.none np) (k1.trans k2) nb hp r2⟩
theorem dn_meth1 {f : α × β × Unit → Option R} {x : Str} {p pos : Pos} {e1 : Expr} {y : α} {y2 : β} (D : MtN c α x f) (h : De c env o (some y)) (g : De c env e1 (some y2))
    (hpe : ∀ (X : Cx) (t u : TE) (C fa : Addr) (j : Nat) (fd : FuncData) (ps : List Str), PE X o t → PE X e1 u → Cls X.K C → Meth X.K C x fa → FnOk X.prog X.w X.K X.mg X.base CX0 j fa fd ps (spN X.K f) → Room j X.A → Binds X.K fd ps [] → PE X (.Call (.Attribute o x p) [e1] [] pos) (tMeth C x (spN X.K f) [] E0 t (tCons u tNil)) := by
      intro X t u C fa j fd ps h1 h0 h2 h3 h4 h5 h6; exact pe_meth h1 h2 h3 h4 h5 h6 .nil pass0 (pa_cons h0 pa_nil)) : DeN c env (.Call (.Attribute o x p) [e1] [] pos) (f (y, y2, ())) := by
  obtain ⟨C, j, fa, fd, ps, F, hj, hc, hm, hb, hl⟩ := D.ok
  obtain ⟨t, h1, h2⟩ := h
  obtain ⟨u, g1, g2⟩ := g
  refine ⟨tMeth C x (spN c.K f) [] E0 t (tCons u tNil), fun X Fx => ?_, fun z hz B H σ E Q q => ?_⟩
  · rw [← Fx.K]
    refine hpe X t u C fa j fd ps (h1 X Fx) (g1 X Fx) (by rw [Fx.K]; exact hc) (by rw [Fx.K]; exact hm) ?_ (Fx.room.mono hj) (by rw [Fx.K]; exact hb)
    rw [Fx.P, Fx.w, Fx.K, Fx.mg, Fx.base]
    exact F
  · refine h2 y rfl B H σ E _ fun v B1 H1 k1 r => ?_
    obtain ⟨a, dx, fs, rfl, e1, e2⟩ := hl B1 v y r
    refine ⟨a, dx, fs, rfl, k1.bh a _ e1, e2, ?_⟩
    refine g2 y2 rfl B1 H1 σ (E.grow k1) _ fun v2 B2 H2 k2 r2 => ?_
    exact ⟨(y, y2, ()), z, B2, hz, k2.bh, .cons (Rep.mono k2.b r) (.cons r2 .nil), fun p' o' B3 H3 np k3 nb hp r3 => q p' o' B3 H3 ((k1.trans k2).none np) ((k1.trans k2).trans k3) nb hp r3⟩
end
section
variable {S L R α : Type} [Rep R] [Rep α] {c : Ct} {env : List Slot} {rest : List Stmt} {e e0 : Expr} {mk : S → List Slot} {lk : L → List Slot}
theorem ds_tmpAppend {p2 p3 pos : Pos} {m0 : Option (List α)} {m : Option α} {k : Fl S L R} (h0 : DeN c env e0 m0) (h : De c env e m) (g : DeS c env rest mk lk k)
    (hsw : ∀ env, swapsWith (.Call (.Attribute e0 "append" p2) [e] [] p3) none pos.line env = pure false := by intro _; rfl)
    (hpe : ∀ X to t, PE X e0 to → PE X e t → PE X (.Call (.Attribute e0 "append" p2) [e] [] p3) (tBM X.K "list" rAppend to (tCons t tNil)) := by
      intro X to t ho ht; exact pe_bm PySem.F.plainAttrs_list PySem.F.slot_list_append PySem.F.type_list_append mt_append ho (pa_cons ht pa_nil)) :
    DeS c env (.Expr (.Call (.Attribute e0 "append" p2) [e] [] p3) pos :: rest) mk lk (Fl.bindO m0 fun xs => Fl.bindO m fun y => if len1 xs.length = true then k else .err) := .mk fun B0 H0 B H σ O D P => by
  obtain ⟨xs, exs, P⟩ := post_bindO P
  obtain ⟨y, ey, P⟩ := post_bindO P
  obtain ⟨t0, a1, a2⟩ := h0
  obtain ⟨t, h1, h2⟩ := h
  split at P
  · rename_i hl
    refine cS_cons (t := tDrop (tBM c.K "list" rAppend t0 (tCons t tNil))) (fun X F => by rw [← F.K]; exact ps_expr (hpe X _ t (a1 X F) (h1 X F)) (hsw _)) ?_
    refine a2 xs exs B H σ O.en _ fun q o B1 H1 np k1 nb hp r => ?_
    obtain ⟨vs, rfl, r⟩ := r
    refine ⟨.inl ⟨rfl, _, SqL.of hp⟩, ?_⟩
    refine h2 y ey B1 H1 σ (O.en.grow k1) _ fun v B2 H2 k2 rv => ?_
    have O2 := (O.grow k1).grow k2
    have nb2 : B2 q = none := k2.f q nb (by rw [hp]; exact fun z => nomatch z)
    have n0 : H0 q = none := O.g.none np
    refine ⟨q, vs, v, rfl, rfl, k2.h q _ hp, ?_, ?_⟩
    · rw [r.len]
      exact Nat.lt_of_le_of_lt (of_decide_eq_true hl) (by decide)
    · refine g B0 H0 B2 _ σ ⟨O2.en.put nb2 (fun i s a hi hs ha z => ?_), ⟨O2.g.b, fun a u z => ?_, fun a u z => ?_, O2.g.f⟩, O2.nw, fun k ψ hm h => (O.rd k ψ hm h).growPut hm (k1.trans k2) np⟩ D (P.mono (k1.b.trans k2.b))
      · subst z
        cases s with
        | any => cases hs
        | val x => cases hs
        | obj φ hm =>
          obtain ⟨b, ob, f1, f2, f3, f4⟩ := O.en.obj hi
          rw [ha] at f1
          cases f1
          rw [np] at f2
          cases f2
        | deep ψ hm => cases hs
      · rw [upd_ne (fun w => by rw [w, nb2] at z; cases z)]
        exact O2.g.bh a u z
      · rw [upd_ne (fun w => by rw [w, n0] at z; cases z)]
        exact O2.g.h a u z
  · exact P.elim
end
end Dn

set_option Elab.async false
set_option linter.all false
set_option maxRecDepth 100000
namespace Dn
open PySem PySem.Spec L2
open Rep (rep)
open ORep (orep)
structure Tm (K : PySem.W.Frag) (C : Addr) (x qual : Str) (st : Stmt) (ps : List Str) : Prop where
  ok : ∃ (fa : Addr) (fd : FuncData), Fun K x qual st fa fd ∧ Meth K C x fa ∧ Binds K fd ps []
def FldNo (K : PySem.W.Frag) (C : Addr) (α : Type) [Rep α] (x : Str) : Prop := ∀ (B : Hp) (v : V) (y : α), rep K B v y → ∃ a dx fs, v = .ref a ∧ B a = some (.ins C dx fs) ∧ fs.lookup x = none
structure Gm (P : Program) (w : World) (K : PySem.W.Frag) (mg : Str → Option Value) (base : Heap) (j : Nat) (α : Type) [Rep α] (x : Str) {Q R : Type} [Pk Q] [Rep R] (f : α × Q → Option R) : Prop where
  ok : ∃ (C fa : Addr) (fd : FuncData) (ps : List Str), FnOk P w K mg base CX0 j fa fd ps (spF K f) ∧ Cls K C ∧ Meth K C x fa ∧ Binds K fd ps [] ∧ FldNo K C α x
structure GmN (P : Program) (w : World) (K : PySem.W.Frag) (mg : Str → Option Value) (base : Heap) (j : Nat) (α : Type) [Rep α] (x : Str) {Q R : Type} [Pk Q] [ORep R] (f : α × Q → Option R) : Prop where
  ok : ∃ (C fa : Addr) (fd : FuncData) (ps : List Str), FnOk P w K mg base CX0 j fa fd ps (spN K f) ∧ Cls K C ∧ Meth K C x fa ∧ Binds K fd ps [] ∧ FldNo K C α x
section
variable {P : Program} {w : World} {K : PySem.W.Frag} {mg : Str → Option Value} {base : Heap} {j : Nat} {α : Type} [Rep α] {x : Str}
theorem Gm.mt {Q R : Type} [Pk Q] [Rep R] {f : α × Q → Option R} (G : Gm P w K mg base j α x f) {c : Ct} (hP : c.P = P := by rfl) (hw : c.w = w := by rfl) (hK : c.K = K := by rfl) (hmg : c.mg = mg := by rfl) (hb : c.base = base := by rfl) (hj : j ≤ c.k := by exact Nat.le_of_ble_eq_true rfl) : Mt c α x f := by
  obtain ⟨P', w', K', mg', base', k, N, sc, fn, df⟩ := c
  cases hP; cases hw; cases hK; cases hmg; cases hb
  obtain ⟨C, fa, fd, ps, h1, h2, h3, h4, h5⟩ := G.ok
  exact ⟨C, j, fa, fd, ps, h1, hj, h2, h3, h4, h5⟩
theorem GmN.mt {Q R : Type} [Pk Q] [ORep R] {f : α × Q → Option R} (G : GmN P w K mg base j α x f) {c : Ct} (hP : c.P = P := by rfl) (hw : c.w = w := by rfl) (hK : c.K = K := by rfl) (hmg : c.mg = mg := by rfl) (hb : c.base = base := by rfl) (hj : j ≤ c.k := by exact Nat.le_of_ble_eq_true rfl) : MtN c α x f := by
  obtain ⟨P', w', K', mg', base', k, N, sc, fn, df⟩ := c
  cases hP; cases hw; cases hK; cases hmg; cases hb
  obtain ⟨C, fa, fd, ps, h1, h2, h3, h4, h5⟩ := G.ok
  exact ⟨C, j, fa, fd, ps, h1, hj, h2, h3, h4, h5⟩
theorem Tm.gm {C : Addr} {qual : Str} {st : Stmt} {Q S L R : Type} [Pk Q] [Rep R] {N ps : List Str} {k : Nat} {mk : S → List Slot} {lk : L → List Slot} {m : α × Q → Fl S L R} {en : Option R} (T : Tm K C x qual st ps) (hc : Cls K C) (no : FldNo K C α x) (Sc : FnScope N ps (defScope st)) (np : ps.length ≤ N.length)
    (hn : ∀ p : α × Q, (Pk.sl p).length = ps.length) (hen : ∀ r, en = some r → ∀ B, rep K B .non r)
    (hb : ∀ p : α × Q, DeS (ctOf P w K mg base k N (defScope st)) (Pk.sl p ++ List.replicate (N.length - (Pk.sl p).length) .any) (defBody st) mk lk (m p)) : Gm P w K mg base (k + 1) α x (fun p => (m p).fin en) := by
  obtain ⟨fa, fd, F, hm, hb'⟩ := T.ok
  exact ⟨C, fa, fd, ps, fn_ok F Sc np hn hen hb, hc, hm, hb', no⟩
theorem Tm.gmN {C : Addr} {qual : Str} {st : Stmt} {Q S L R : Type} [Pk Q] [ORep R] {N ps : List Str} {k : Nat} {mk : S → List Slot} {lk : L → List Slot} {m : α × Q → Fl S L R} (T : Tm K C x qual st ps) (hc : Cls K C) (no : FldNo K C α x) (Sc : FnScope N ps (defScope st)) (np : ps.length ≤ N.length)
    (hn : ∀ p : α × Q, (Pk.sl p).length = ps.length)
    (hb : ∀ p : α × Q, DeSN (ctOf P w K mg base k N (defScope st)) (Pk.sl p ++ List.replicate (N.length - (Pk.sl p).length) .any) (defBody st) mk lk (m p)) : GmN P w K mg base (k + 1) α x (fun p => (m p).fin none) := by
  obtain ⟨fa, fd, F, hm, hb'⟩ := T.ok
  exact ⟨C, fa, fd, ps, fn_okN F Sc np hn hb, hc, hm, hb', no⟩
end
def initG {S L R : Type} (r : S → R) (m : Fl S L Unit) : Option R := match m with | .nx s => some (r s) | _ => none
structure Gk (P : Program) (w : World) (K : PySem.W.Frag) (mg : Str → Option Value) (base : Heap) (j : Nat) (x : Str) (C : Addr) {Q R : Type} [Pk Q] (fl : R → List (Str × Slot)) (f : Q → Option R) : Prop where
  ok : ∃ (fa : Addr) (fd : FuncData) (ps : List Str), FnOk P w K mg base CX0 j fa fd ps (spI K C fl f) ∧ mg x = some (.ref C) ∧ Mk K C fa ∧ Binds K fd ps []
theorem Gk.md {P : Program} {w : World} {K : PySem.W.Frag} {mg : Str → Option Value} {base : Heap} {j : Nat} {x : Str} {C : Addr} {Q R : Type} [Pk Q] {fl : R → List (Str × Slot)} {f : Q → Option R} (G : Gk P w K mg base j x C fl f) {c : Ct} (hP : c.P = P := by rfl) (hw : c.w = w := by rfl) (hK : c.K = K := by rfl) (hmg : c.mg = mg := by rfl) (hb : c.base = base := by rfl) (hj : j + 1 ≤ c.k := by exact Nat.le_of_ble_eq_true rfl) : Md c x C fl f := by
  obtain ⟨P', w', K', mg', base', k, N, sc, fn, df⟩ := c
  cases hP; cases hw; cases hK; cases hmg; cases hb
  obtain ⟨fa, fd, ps, h1, h2, h3, h4⟩ := G.ok
  exact ⟨j, fa, fd, ps, h1, hj, h2, h3, h4⟩
theorem init_okG {P : Program} {w : World} {K : PySem.W.Frag} {mg : Str → Option Value} {base : Heap} {Pp S L R : Type} [Pk Pp] {x qual : Str} {st : Stmt} {f C : Addr} {fd : FuncData} {N ps : List Str} {k : Nat} {mk : Addr → S → List Slot} {lk : L → List Slot} {m : Pp → Fl S L Unit} {fl : R → List (Str × Slot)} {r : S → R}
    (F : Fun K x qual st f fd) (Sc : FnScope N ps (defScope st)) (np : ps.length ≤ N.length) (hn : ∀ p : Pp, (Pk.sl p).length + 1 = ps.length) (hmk : ∀ y s, (mk y s)[0]? = some (.ins C y (fl (r s))))
    (hb : ∀ (p : Pp) (y : Addr), DeS (ctOf P w K mg base k N (defScope st)) (.ins C y [] :: (Pk.sl p ++ List.replicate (N.length - (Pk.sl p).length - 1) .any)) (defBody st) (mk y) lk (m p)) :
    FnOk P w K mg base CX0 (k + 1) f fd ps (spI K C fl fun p => initG r (m p)) := init_ok F Sc np hn hmk hb
theorem de_make2 {c : Ct} {env : List Slot} {e1 e2 : Expr} {α β R : Type} [Rep α] [Rep β] [Rep R] {C : Addr} {fl : R → List (Str × Slot)} {f : α × β × Unit → Option R} {x : Str} {p pos : Pos} {m1 : Option α} {m2 : Option β} (D : Md c x C fl f) (hr : ∀ (B : Hp) (a dx : Addr) (fs : List (Str × V)) (r : R), B a = some (.ins C dx fs) → Pr2 (FldOk c.K B) fs (fl r) → rep c.K B (.ref a) r)
    (h1 : De c env e1 m1) (h2 : De c env e2 m2) (hg : Gv c x := by rfl) (hdb : (x == ("__debug__" : Str)) = false := by decide) (he : ∀ env, starEach [e1, e2] env = (false, eval e1 env) :: starEach [e2] env := by intro _; rfl) (he2 : ∀ env, starEach [e2] env = (false, eval e2 env) :: starEach [] env := by intro _; rfl) :
    De c env (.Call (.Name x p) [e1, e2] [] pos) (m1.bind fun a1 => m2.bind fun a2 => f (a1, a2, ())) :=
  (de_make D hr (dp_cons h1 (dp_cons h2 dp_nil he2) he) hg hdb he (fun _ => by rw [he2]; rfl)).of bind2
end Dn

set_option maxRecDepth 100000
set_option linter.all false
namespace Dn
open PySem PySem.Spec L2
section
variable {S L R T α β : Type}
theorem bO {x : α} {k : α → Fl S L R} : Fl.bindO (some x) k = k x := rfl
theorem bN {s : T} {k : T → Fl S L R} : Fl.bind (.nx s : Fl T L R) k = k s := rfl
theorem bR {r : R} {k : T → Fl S L R} : Fl.bind (.rt r : Fl T L R) k = .rt r := rfl
theorem loop_inv {f : α → S → Fl S S R} (I : Nat → S → Prop) (N : Nat) : ∀ (xs : List α) (n : Nat) (s : S), (∀ x ∈ xs, ∀ (m : Nat) (s : S), m < N → I m s → ∃ s', f x s = .nx s' ∧ I (m + 1) s') → n + xs.length ≤ N → I n s → ∃ s', (Fl.loop f xs s : Fl S L R) = .nx s' ∧ I (n + xs.length) s'
  | [], n, s, _, _, h => ⟨s, rfl, h⟩
  | x :: xs, n, s, hf, hN, h => by
    rw [List.length_cons] at hN
    obtain ⟨s1, e1, h1⟩ := hf x (List.mem_cons_self ..) n s (by omega) h
    obtain ⟨s2, e2, h2⟩ := loop_inv I N xs (n + 1) s1 (fun y hy => hf y (List.mem_cons_of_mem _ hy)) (by omega) h1
    refine ⟨s2, ?_, by rw [List.length_cons]; have : n + (xs.length + 1) = n + 1 + xs.length := by omega
                       rw [this]; exact h2⟩
    show (match f x s with | .err => .err | .nx s' => Fl.loop f xs s' | .ct s' => Fl.loop f xs s' | .bk s' => .nx s' | .rt r => .rt r : Fl S L R) = _
    rw [e1]
    exact e2
theorem loop_fin {f : α → T → Fl T T R} (I : Nat → T → Prop) {xs : List α} {s : T} {k : T → Fl S L R} {en : Option R} {Q : R → Prop} (hf : ∀ x ∈ xs, ∀ (m : Nat) (s : T), m < xs.length → I m s → ∃ s', f x s = .nx s' ∧ I (m + 1) s') (h : I 0 s) (hk : ∀ s', I xs.length s' → ∃ r, (k s').fin en = some r ∧ Q r) : ∃ r, (Fl.bind (Fl.loop f xs s) k).fin en = some r ∧ Q r := by
  obtain ⟨s', e, h2⟩ := loop_inv (L := L) I xs.length xs 0 s hf (by omega) h
  rw [e, bN]
  exact hk s' (by rw [Nat.zero_add] at h2; exact h2)
theorem mapO_all {h : α → Option β} (P : β → Prop) : ∀ xs : List α, (∀ x ∈ xs, ∃ y, h x = some y ∧ P y) → ∃ ys, mapO h xs = some ys ∧ ys.length = xs.length ∧ ∀ y ∈ ys, P y
  | [], _ => ⟨[], rfl, rfl, fun _ h => nomatch h⟩
  | x :: xs, hh => by
    obtain ⟨y, e, p⟩ := hh x (List.mem_cons_self ..)
    obtain ⟨ys, e2, l, p2⟩ := mapO_all P xs fun z hz => hh z (List.mem_cons_of_mem _ hz)
    refine ⟨y :: ys, ?_, by rw [List.length_cons, List.length_cons, l], fun z hz => ?_⟩
    · show (h x).bind _ = _
      rw [e, Option.bind_some, e2, Option.bind_some]
    · cases hz with
      | head => exact p
      | tail _ hz => exact p2 z hz
theorem capI_ok {xs : List α} (h : xs.length ≤ 100000) : capI xs = some xs := by
  unfold capI len1
  rw [if_pos (decide_eq_true h)]
theorem len1_of {n : Nat} (h : n ≤ 100000) : len1 n = true := decide_eq_true h
theorem atI_ge {xs : List α} {i : Int} (h0 : 0 ≤ i) (h1 : i < xs.length) : ∃ v, atI xs i = some v ∧ v ∈ xs := by
  obtain ⟨n, rfl⟩ := Int.eq_ofNat_of_zero_le h0
  have hn : n < xs.length := by omega
  exact ⟨xs[n], atI_nat (List.getElem?_eq_getElem hn), List.getElem_mem hn⟩
theorem rangeI_ok {j : Int} (h : j < 1000000) (h0 : 0 ≤ j) : rangeI j = some (upto 0 j.toNat) := by
  have e : b62 j = true := by
    unfold b62
    rw [decide_eq_true (by omega), decide_eq_true (by omega)]
    rfl
  unfold rangeI
  rw [if_pos e]
theorem upto_mem {lo : Int} {n : Nat} {x : Int} (h : x ∈ upto lo n) : lo ≤ x ∧ x < lo + n := by
  unfold upto at h
  obtain ⟨i, hi, rfl⟩ := List.mem_map.mp h
  have := List.mem_range.mp hi
  omega
theorem small_of {i : Int} (h0 : -1000000000000 ≤ i) (h : i ≤ 1000000000000) : small i = true := by
  unfold small
  rw [decide_eq_true (by omega), decide_eq_true (by omega)]
  rfl
theorem mulR {i j : Int} (h0 : -1000000000000 ≤ j) (h : j ≤ 1000000000000) : mulI i j = some (i * j) := by
  unfold mulI
  rw [small_of h0 h, Bool.or_true, if_pos rfl]
theorem mulL {i j : Int} (h0 : -1000000000000 ≤ i) (h : i ≤ 1000000000000) : mulI i j = some (i * j) := by
  unfold mulI
  rw [small_of h0 h, Bool.true_or, if_pos rfl]
theorem modI_ok {i j : Int} (h : 0 < j) : modI i j = some (i % j) := by
  unfold modI
  rw [if_pos (decide_eq_true h)]
theorem divI_ok {i j : Int} (h : 0 < j) (h2 : j < 1073741824) : divI i j = some (i / j) := by
  unfold divI
  rw [decide_eq_true h, decide_eq_true h2]
  rfl
end
theorem orFa {n : Option Bool} : orO (some false) n = n := rfl
section
variable {α : Type} (le : α → α → Bool)
def mg : Nat → List α → List α → List α
  | 0, xs, ys => xs ++ ys
  | n + 1, xs, ys => match xs, ys with
    | [], ys => ys
    | x :: xs, [] => x :: xs
    | x :: xs, y :: ys => if le x y = true then x :: mg n xs (y :: ys) else y :: mg n (x :: xs) ys
def ms : Nat → List α → List α
  | 0, l => l
  | n + 1, l => match l with
    | [] => []
    | [a] => [a]
    | a :: b :: xs => mg le (xs.length + 2) (ms n ((a :: b :: xs).take ((xs.length + 2 + 1) / 2))) (ms n ((a :: b :: xs).drop ((xs.length + 2 + 1) / 2)))
end
end Dn

set_option Elab.async false
set_option linter.all false
set_option maxRecDepth 100000
namespace Dn
open PySem PySem.Spec L2
open Rep (rep)
theorem tf_mk {K : PySem.W.Frag} {h : Heap} {mg : Str → Option Value} {x : Str} {st : Stmt} {f : Addr} {ps : List Str} {od an : Option Addr} {sl : Array (Option Value)} {oc kV dc pm cd ct : Value} (X : K.In h) (G : h.Ns mainGlobals mg) (a : PySem.W.nsIn K mainGlobals x = some (some (.ref f)))
    (l : K.lookup f = some ⟨oc, od, .func (PySem.W.fnOf x x (defArgs st) (defBody st) (defScope st) .none kV dc pm an cd ct), sl⟩) (c : PySem.W.codeIn K cd x = true) (k : PySem.W.keepIn K (.ref f) = true)
    (hb : ∀ (kV doc pm : Value) (an : Option Addr) (cdv ct : Value) (us : List Value), us.length = ps.length → bindArgs (PySem.W.fnOf x x (defArgs st) (defBody st) (defScope st) .none kV doc pm an cdv ct) { pos := us } = pure (ps.zip us)) : Tf K mg x st ps :=
  ⟨f, _, PySem.W.mg_of X G a, fun_mk l c k, (fun_mk l c k).binds hb⟩
theorem tm_mk {K : PySem.W.Frag} {C : Addr} {x qual : Str} {st : Stmt} {f : Addr} {ps : List Str} {od an : Option Addr} {sl : Array (Option Value)} {oc kV dc pm cd ct : Value} (a : PySem.W.findIn K (.ref C) x = some (some (.ref f)))
    (l : K.lookup f = some ⟨oc, od, .func (PySem.W.fnOf x qual (defArgs st) (defBody st) (defScope st) .none kV dc pm an cd ct), sl⟩) (c : PySem.W.codeIn K cd qual = true) (k : PySem.W.keepIn K (.ref f) = true) (n : PySem.W.isFn K (.ref f) = true)
    (hb : ∀ (kV doc pm : Value) (an : Option Addr) (cdv ct : Value) (us : List Value), us.length = ps.length → bindArgs (PySem.W.fnOf x qual (defArgs st) (defBody st) (defScope st) .none kV doc pm an cdv ct) { pos := us } = pure (ps.zip us)) : Tm K C x qual st ps :=
  ⟨f, _, fun_mk l c k, ⟨a, n, k⟩, (fun_mk l c k).binds hb⟩
def spK (K : PySem.W.Frag) : Sp := spF K (fun p : List Int × Unit => if p.1.length ≤ 63 then some true else none)
theorem sp_weakG {K : PySem.W.Frag} {g : List Int → Option Bool} (hl : ∀ ns : List Int, ns.length ≤ 63 → g ns = some true) {vs : List V} {H : Hp} {Q : VK} {E : XK} (h : spK K vs H Q E) : spF K (fun p : List Int × Unit => g p.1) vs H Q E := by
  obtain ⟨p, r, B, e, l, a, q⟩ := h
  refine ⟨p, r, B, ?_, l, a, q⟩
  replace e : (if p.1.length ≤ 63 then some true else none) = some r := e
  split at e
  · rename_i hl2
    cases e
    exact hl p.1 hl2
  · cases e
theorem reps_ints {K : PySem.W.Frag} {B : Hp} : ∀ ns : List Int, Reps K B (ns.map V.int) ns
  | [] => .nil
  | _ :: r => .cons rfl (reps_ints r)
theorem sp_script {K : PySem.W.Frag} {H : Hp} {a : Addr} {ns : List Int} (hl : ns.length ≤ 63) (hS : SqL K H a (ns.map V.int)) : spK K [V.ref a] H (fun v _ => v = V.bl true) (fun _ _ _ => False) := by
  have r : Rep.rep K H (V.ref a) ns := ⟨a, _, rfl, hS, reps_ints ns⟩
  refine ⟨(ns, ()), true, H, if_pos hl, Le.refl H, ?_, fun v B' H' g r => r⟩
  show Args K H [V.ref a] [Slot.val ns]
  exact .cons r .nil
end Dn

set_option Elab.async false
set_option linter.all false
set_option maxRecDepth 100000
namespace Dn
section
open PySem PySem.Spec L2
open PySem.W (KdlSrc kdl_hint_dict kdu_collect)
abbrev Ent := List Int × Addr × V
def EntRel (p : Ent) (q : List Int × Addr × Value) : Prop := p.1 = q.1 ∧ p.2.1 = q.2.1 ∧ RelV p.2.2 q.2.2
def dPhi (a : Addr) (xs : List Ent) : Heap → Prop := fun h => xs.length ≤ sizeLine ∧ (a == sysModules) = false ∧ ∃ us, Paired EntRel xs us ∧ ∃ o es ep, h.get? a = some o ∧ o.ExactDict ∧ o.data = .dict es ep ∧ (∀ P w, es.toList = us.map (entryOfKey (tupleKind (intKind P w)))) ∧ (us.map (·.1)).Nodup
abbrev dHO (a : Addr) (xs : List Ent) : HO := .ext (dPhi a xs)
theorem dPhi.ok {P : Program} {w : World} {H : Hp} {h : Heap} {a : Addr} {xs : List Ent} (x : dPhi a xs h) : ObjOk P w H h a (dHO a xs) :=
  ⟨x, let ⟨_, _, _, _, o, _, _, e, _⟩ := x; ⟨o, e⟩, fun h1 h2 ⟨z, lo, us, r, o, es, ep, e, t⟩ k => ⟨z, lo, us, r, o, es, ep, k o e, t⟩⟩
def KeyAt (K : PySem.W.Frag) (H : Hp) (p : Ent) : Prop := SqT K H p.2.1 (p.1.map V.int)
section
variable {X : Cx} {pins : List (Addr × Obj)} {σ : St} {H : Hp} {s : Shared} {a b : Addr} {xs : List Ent} {k : List Int}
theorem int_items {P : Program} {w : World} : ∀ {ks : List Int} {its : List Value}, Vals (ks.map V.int) its → ItemsAre (intKind P w) ks its
  | [], _, r => by cases r; exact .nil
  | i :: ks, _, r => by
    rw [List.map_cons] at r
    cases r with
    | cons h t =>
      obtain ⟨t1, rfl⟩ := (show ∃ t, _ = Value.int i t from h)
      exact .cons (decide_eq_true rfl) (int_items t)
theorem isKey (I : Inv X pins σ H s) (h : SqT X.K H b (k.map V.int)) : (tupleKind (intKind X.prog X.w)).is s.heap k b := by
  obtain ⟨its, r, ⟨o, e1, e2, n, e3⟩, _⟩ := I.tuple h
  exact ⟨o, its.toArray, n, e1, e2, e3, by simpa using int_items r⟩
theorem dH (I : Inv X pins σ H s) (e : H a = some (dHO a xs)) (hk : ∀ p ∈ xs, KeyAt X.K H p) : xs.length ≤ sizeLine ∧ (a == sysModules) = false ∧ ∃ us, Paired EntRel xs us ∧ s.heap.DictOfH (tupleKind (intKind X.prog X.w)) a us := by
  obtain ⟨z, lo, us, r, o, es, ep, e1, e2, e3, e4, e5⟩ := (show ObjOk X.prog X.w H s.heap a (dHO a xs) from I.hok a _ e).1
  refine ⟨z, lo, us, r, o, es, ep, e1, e2, e3, e4 _ _, ?_, e5⟩
  clear e4 e5 e1 e2 e3 z e
  induction r with
  | nil => exact fun x hx => nomatch hx
  | @cons p q ps qs h t ih =>
    intro x hx
    cases hx with
    | head =>
      have := hk p (List.mem_cons_self ..)
      unfold KeyAt at this
      rw [h.1, h.2.1] at this
      exact isKey I this
    | tail _ hx => exact ih (fun p hp => hk p (List.mem_cons_of_mem _ hp)) x hx
def atE (xs : List Ent) (k : List Int) : Option V := (xs.find? fun x => decide (x.1 = k)).map (·.2.2)
theorem at_rel {us : List (List Int × Addr × Value)} (r : Paired EntRel xs us) (k : List Int) : RelO (atE xs k) ((atKey us k).map (·.2)) := by
  induction r with
  | nil => exact True.intro
  | @cons p q ps qs h t ih =>
    obtain ⟨h1, _, h2⟩ := h
    unfold atE atKey at ih ⊢
    by_cases e : p.1 = k
    · have e' : q.1 = k := h1.symm.trans e
      simp [List.find?_cons, e, e', h2]
      exact h2
    · have e' : ¬ q.1 = k := fun z => e (h1.trans z)
      simp only [List.find?_cons, e, e', decide_false]
      exact ih
def putE (xs : List Ent) (k : List Int) (b : Addr) (v : V) : List Ent := if (atE xs k).isSome = true then xs.map (fun x => if x.1 = k then (x.1, x.2.1, v) else x) else xs ++ [(k, b, v)]
theorem putE_len (xs : List Ent) (k : List Int) (b : Addr) (v : V) : (putE xs k b v).length ≤ xs.length + 1 := by
  unfold putE
  split
  · rw [List.length_map]; omega
  · rw [List.length_append]; exact Nat.le_refl _
theorem put_rel {us : List (List Int × Addr × Value)} (r : Paired EntRel xs us) (k : List Int) (b : Addr) {v : V} {u : Value} (rv : RelV v u) : Paired EntRel (putE xs k b v) (storedH us k b u) := by
  have e : (atE xs k).isSome = (atKey us k).isSome := by rw [(at_rel r k).isSome_eq, Option.isSome_map]
  unfold putE storedH
  rw [e]
  by_cases q : (atKey us k).isSome = true
  · rw [if_pos q, if_pos q]
    clear e q
    induction r with
    | nil => exact .nil
    | @cons p q ps qs h t ih =>
      rw [List.map_cons, List.map_cons]
      refine .cons ?_ ih
      obtain ⟨h1, h2, h3⟩ := h
      unfold putAt
      by_cases e : p.1 = k
      · rw [if_pos e, if_pos (h1.symm.trans e)]; exact ⟨h1, h2, rv⟩
      · rw [if_neg e, if_neg (fun z => e (h1.trans z))]; exact ⟨h1, h2, h3⟩
  · rw [if_neg q, if_neg q]; exact Paired.snoc r ⟨rfl, rfl, rv⟩
theorem dict_isE (I : Inv X pins σ H s) (e : H a = some (dHO a xs)) : s.TypeIs (.ref a) "dict" ∧ (∀ b, Value.ref a = .ref b → ∃ ob, s.heap.get? b = some ob ∧ ob.dict = none) := by
  obtain ⟨z, lo, us, r, o, es, ep, e1, e2, e3, e4, e5⟩ := (show ObjOk X.prog X.w H s.heap a (dHO a xs) from I.hok a _ e).1
  refine ⟨⟨o, e1, e2.1⟩, fun b q => ?_⟩
  cases q
  exact ⟨o, e1, e2.2.1⟩
end
def tENew : TE := fun _ H Q => ∀ p, H p = none → Q (.ref p) (upd H p (dHO p []))
theorem pe_enew {X : Cx} {pos : Pos} : PE X (.Dict [] [] pos) tENew := ⟨fun pins s σ H Q I h => by
  have hd : (s.heap.objs.size == sysModules) = false := beq_eq_false_iff_ne.mpr (Ne.symm (Nat.ne_of_lt I.big))
  exact wpAny_Dict_empty ⟨.ref s.heap.objs.size, _, I.laid (a := s.heap.objs.size) (o := dHO s.heap.objs.size []) (t' := s.toks) (fun _ _ q => Heap.get?_push_of_some _ q) (Nat.le_refl _) (dPhi.ok ⟨Nat.zero_le _, hd, [], .nil, _, #[], 0, Heap.get?_push_size _ rfl, ⟨rfl, rfl, rfl⟩, rfl, fun _ _ => rfl, List.nodup_nil⟩), rfl, h _ (I.hok.fresh (Nat.le_refl _))⟩⟩
def tEGet (K : PySem.W.Frag) (td ty : TE) : TE := fun σ H Q => td σ H fun x H1 => ty σ H1 fun y H2 => ∃ a xs b k v, x = .ref a ∧ H2 a = some (dHO a xs) ∧ y = .ref b ∧ SqT K H2 b (k.map V.int) ∧ (∀ p ∈ xs, KeyAt K H2 p) ∧ atE xs k = some v ∧ Q v H2
def tEGet2 (K : PySem.W.Frag) (td ty tx : TE) : TE := fun σ H Q => td σ H fun x H1 => ∃ a xs0, x = .ref a ∧ H1 a = some (dHO a xs0) ∧ ty σ H1 fun y H2 => tx σ H2 fun z H3 => ∃ xs b k, H3 a = some (dHO a xs) ∧ y = .ref b ∧ SqT K H3 b (k.map V.int) ∧ (∀ p ∈ xs, KeyAt K H3 p) ∧ Q ((atE xs k).getD z) H3
def sEPut (K : PySem.W.Frag) (td ty tv : TE) : TS := fun D σ H => tv σ H fun v H1 => td σ H1 fun x H2 => ty σ H2 fun y H3 => ∃ a xs b k, x = .ref a ∧ H3 a = some (dHO a xs) ∧ y = .ref b ∧ SqT K H3 b (k.map V.int) ∧ (∀ p ∈ xs, KeyAt K H3 p) ∧ xs.length < sizeLine ∧ D.nx σ (upd H3 a (dHO a (putE xs k b v)))
section
variable {X : Cx} {o i e f value : Expr} {pos pos' apos cpos : Pos} {td ty tv tx : TE}
theorem pe_eget (hu : X.A.units + 1 < cLine) (ho : PE X o td) (hi : PE X i ty) (hs : NoSl i) : PE X (.Subscript o i pos) (tEGet X.K td ty) := by
  refine ⟨fun pins s σ H Q I h => ?_⟩
  refine subD_of PySem.F.slot_dict_getitem.lookup hs (thn (ho.run pins s σ H _ I h) fun u s1 ⟨x, H1, I1, rx, q1⟩ => thn (hi.run pins s1 σ H1 _ I1 q1) fun iv s2 ⟨y, H2, I2, ry, a, xs, b, k, v, ex, ea, ey, kb, hk, l, q2⟩ => ?_)
  subst ex ey
  obtain rfl : u = Value.ref a := rx
  obtain rfl : iv = Value.ref b := ry
  obtain ⟨z, lo, us, r, dd⟩ := dH I2 ea hk
  obtain ⟨w', hw, rw'⟩ := RelO.some_of (v := v) (o := (atKey us k).map (·.2)) (by rw [← l]; exact at_rel r k)
  obtain ⟨p, hp, hp2⟩ := Option.map_eq_some_iff.mp hw
  refine ⟨(dict_isE I2 ea).1, wpAny_getItem_heap (tupleKind_room_in1 hu) (isKey I2 kb) dd hp ?_⟩
  rw [hp2]
  exact ⟨v, H2, I2.tok _, rw', q2⟩
theorem pe_eget2 (hu : X.A.units + 1 < cLine) (ho : PE X o td) (he : PE X e ty) (hf : PE X f tx) (m : M2 X o "get" apos e f cpos) : PE X (.Call (.Attribute o "get" apos) [e, f] [] cpos) (tEGet2 X.K td ty tx) := by
  refine ⟨fun pins s σ H Q I h => ?_⟩
  refine wpAny_Call_method m.base m.few m.line PySem.F.plainAttrs_dict PySem.F.slot_dict_get PySem.F.type_dict_get (thn (ho.run pins s σ H _ I h) fun u s1 ⟨x, H1, I1, rx, a, xs0, ex, d, q1⟩ => ?_)
  subst ex
  obtain rfl : u = Value.ref a := rx
  obtain ⟨t1, t2⟩ := dict_isE I1 d
  refine ⟨t1, t2, ?_⟩
  rw [m.trees]
  refine Calls.callWith_builtin rfl (Calls.evalArgs_plain (Calls.spliced_cons (thn (he.run pins s1 σ H1 _ I1 q1) fun iv s2 ⟨y, H2, I2, ry, q2⟩ =>
    Calls.spliced_cons (thn (hf.run pins s2 σ H2 _ I2 q2) fun fv s3 ⟨z, H3, I3, rz, xs, b, k, ea, ey, kb, hk, q3⟩ => Calls.spliced_nil ?_))))
  subst ey
  obtain rfl : iv = Value.ref b := ry
  obtain ⟨_, lo, us, r, dd⟩ := dH I3 ea hk
  refine call_meetsIn PySem.F.slot_dict_get dd.typeIs PySem.F.entry_dict_get (PySem.F.args_dict_get_3 _ _ _) (meetsH_dict_get_default (tupleKind (intKind X.prog X.w)) a b lo fv) ⟨tupleKind_room_in1 hu, k, us, isKey I3 kb, dd, ?_⟩
  exact ⟨_, H3, I3.tok _, (at_rel r k).getD rz, q3⟩
theorem ps_eput (hu : X.A.units + 1 < cLine) (ho : PE X o td) (hi : PE X i ty) (hv : PE X value tv) (hs : swapsWith value (some (.Subscript o i pos')) pos.line X.env = pure false) :
    PS X (.Assign [.Subscript o i pos'] value pos) (sEPut X.K td ty tv) := by
  refine ⟨fun pins s σ H D I h => ?_⟩
  refine wpAny_Assign_Subscript (thn (hv.run pins s σ H _ I h) fun r s1 ⟨v, H1, I1, rv, q1⟩ => thn (ho.run pins s1 σ H1 _ I1 q1) fun u s2 ⟨x, H2, I2, rx, q2⟩ => thn (hi.run pins s2 σ H2 _ I2 q2) fun iv s3 ⟨y, H3, I3, ry, a, xs, b, k, ex, ea, ey, kb, hk, hl, q3⟩ => ?_) hs
  subst ex ey
  obtain rfl : u = Value.ref a := rx
  obtain rfl : iv = Value.ref b := ry
  obtain ⟨z, lo, us, rel, dd⟩ := dH I3 ea hk
  refine wpAny_setItem_heap (hsz := by rw [← Paired.length rel]; exact z) (tupleKind_room_in1 hu) (isKey I3 kb) dd fun h' dd' hs => ?_
  obtain ⟨ob, es, ep, hq, h2, h3, h4, _, h5⟩ := dd'
  refine ⟨σ, _, d_write I3 (by rw [ea]; exact True.intro) hs ⟨ob, hq⟩ (dPhi.ok ⟨by have := putE_len xs k b v; omega, lo, _, put_rel rel k b rv, ob, es, ep, hq, h2, h3, fun P w => h4, h5⟩), q3⟩
end
end
end Dn

set_option Elab.async false
set_option linter.all false
set_option maxRecDepth 100000
namespace Dn
section
open PySem PySem.Spec L2
open PySem.W (KdlSrc kdl_hint_dict kdu_collect)
open PyProof.Rows (seqObj)
theorem kdl_dictH {prog : Program} {w : World} {knd : HeapKind prog w (List Int)} {d : Addr} {xs : List (List Int × Addr × Value)} {es : Array DictEntry} {ep : Nat} (lo : (d == sysModules) = false) (he : es.toList = xs.map (entryOfKey knd)) :
    KdlSrc prog w "dict" d d es.size (fun i v => ∃ y, xs[i]? = some y ∧ v = Value.ref y.2.1) (fun h => h.DictRaw d es ep) where
  type := fun _ hm => hm.typeIs
  there := fun _ ⟨_, ho, _⟩ => ⟨Heap.lt_size ho, Heap.lt_size ho⟩
  keep := fun _ _ hm hk => hm.at fun o e => hk d (.inl rfl) o e
  notList := by decide
  notTuple := by decide
  hint := fun _ _ _ _ hm hq => kdl_hint_dict hm.typeIs hq
  iter := fun _ _ hh hm => ⟨_, _, (fun _ _ hq => wpAny_pyIter_dict_raw lo hm hq), Walks.keysH hh _ d (Nat.ne_of_lt (let ⟨_, ho, _⟩ := hm; Heap.lt_size ho)) es ep (fun i hi => by
    have hx : i < xs.length := size_of_entries he ▸ hi
    have e := entry_at he i
    rw [Array.getElem?_eq_getElem hi, List.getElem?_eq_getElem hx, Option.map_some] at e
    have e' := Option.some.inj e
    exact ⟨xs[i], List.getElem?_eq_getElem hx, by rw [e']; rfl, by rw [e']; rfl⟩), ⟨⟨_, Heap.get?_push_size _ rfl, rfl, rfl⟩, hm.at fun o e => Heap.get?_push_of_some _ e⟩⟩
theorem readsAll_ints {h : Heap} : ∀ {ks : List Int} {its : List Value}, Vals (ks.map V.int) its → ReadsAll h its (ks.map PyData.int) []
  | [], _, r => by cases r; exact .nil
  | i :: ks, _, r => by
    rw [List.map_cons] at r
    cases r with
    | cons h t =>
      obtain ⟨t1, rfl⟩ := (show ∃ t, _ = Value.int i t from h)
      exact ReadsAll.cons (as := []) (bs := []) (.int i t1) (readsAll_ints t)
abbrev keyD (k : List Int) : PyData := Dat.toD (⟨k⟩ : Tup Int)
def rSortE (K : PySem.W.Frag) : List V → Hp → VK → Prop := fun vs H Q => ∃ (a : Addr) (xs : List Ent), vs = [.ref a] ∧ H a = some (dHO a xs) ∧ (∀ p ∈ xs, KeyAt K H p) ∧ okSort (xs.map fun p => keyD p.1) = true ∧
  ∀ (zs : List Ent) (p : Addr), zs.Perm xs → zs = xs.mergeSort (W.dataLe false fun p => keyD p.1) → H p = none → Q (.ref p) (upd H p (.lst (zs.map fun z => V.ref z.2.1)))
theorem vals_refs (zs : List Ent) : ∀ {out : List Value}, W.EachIs (fun (v : Value) (p : Ent) => v = .ref p.2.1) out zs → Vals (zs.map fun z => V.ref z.2.1) out := by
  intro out h
  induction h with
  | nil => exact .nil
  | cons r _ ih => exact .cons r ih
theorem each_refs {xs : List Ent} {us : List (List Int × Addr × Value)} (r : Paired EntRel xs us) : ∀ (vs : List Value), vs.length = us.length → (∀ (j : Nat) (v : Value), vs[j]? = some v → ∃ y, us[j]? = some y ∧ v = .ref y.2.1) → W.EachIs (fun (v : Value) (p : Ent) => v = .ref p.2.1) vs xs := by
  induction r with
  | nil =>
    intro vs hl _
    have : vs = [] := List.length_eq_zero_iff.mp (by simpa using hl)
    subst this
    exact .nil
  | @cons p q ps qs h t ih =>
    intro vs hl hv
    cases vs with
    | nil => simp at hl
    | cons v vs =>
      obtain ⟨y, e1, e2⟩ := hv 0 v rfl
      have e1' : q = y := Option.some.inj e1
      subst e1'
      refine .cons (by rw [e2, h.2.1]) (ih vs (by simpa using hl) fun j w e => ?_)
      obtain ⟨y, a, b⟩ := hv (j + 1) w (by simpa using e)
      exact ⟨y, by simpa using a, b⟩
theorem each_add {α β : Type} {R S : α → β → Prop} : ∀ {as : List α} {bs : List β}, W.EachIs R as bs → (∀ a b, b ∈ bs → R a b → S a b) → W.EachIs S as bs := by
  intro as bs h
  induction h with
  | nil => exact fun _ => .nil
  | cons r _ ih => exact fun k => .cons (k _ _ (List.mem_cons_self ..) r) (ih fun a b m q => k a b (List.mem_cons_of_mem _ m) q)
theorem cr_sortE {X : Cx} (hcalm : X.calm = true) (hu : X.A.units + 64 < cLine) : CallR X (.builtin "sorted") (rSortE X.K) := by
  intro pins s σ H xs0 us0 Q I r q
  obtain ⟨a, xs, ex, ha, hk, ok, q⟩ := q
  subst ex
  obtain ⟨u, eu, rx⟩ := vals1 r
  subst eu
  cases rx
  obtain ⟨h1, h2, h3, h4⟩ := okSort_of ok
  rw [List.length_map] at h3
  obtain ⟨z, lo, us, rel, o, es, ep, e1, e2, e3, e4, e5, e6⟩ := dH I ha hk
  have hl : us.length = xs.length := (Paired.length rel).symm
  have hes : es.size = us.length := size_of_entries e4
  have h16 : es.size ≤ sizeLine := by rw [hes, hl]; exact z
  refine Calls.call_function_entry PyProof.Rows.kind_sorted PyProof.Rows.plain_sorted PyProof.Rows.entry_sorted (PyProof.Rows.args_sorted1 _) ?_
  unfold Builtin.«sorted»
  refine wpAny_bind (m := checkCount "sorted" 1 1 _) (wpAny_pure ?_)
  refine wpAny_bind (kdu_collect (A := X.A.in1) (kdl_dictH lo e4) (I.ok.hd hcalm) ⟨o, e1, e2, e3⟩ h16 fun h' tk acc hk' hacc => ?_)
  have hal : acc.toList.length = us.length := by rw [Array.length_toList, hacc.1, hes]
  have hE : W.EachIs (fun (v : Value) (p : Ent) => v = .ref p.2.1) acc.toList xs := each_refs rel acc.toList hal fun j v e => hacc.2 j v (by rw [← Array.getElem?_toList]; exact e)
  have I1 : Inv X pins σ H { s with heap := h', toks := tk } := I.kept hk'
  refine wpAny_bind (wpAny_newList ?_ (by rw [hal, hl]; exact z))
  have hoL : (h'.push (seqObj "list" acc.toList.toArray 0)).get? h'.objs.size = some (seqObj "list" acc.toList.toArray 0) := Heap.get?_push_size _ rfl
  show wpAny _ _ _ _ _ { s with heap := h'.push (seqObj "list" acc.toList.toArray 0), toks := tk }
  refine wpAny_bind (wpAny_holding ?_)
  refine W.list_sort_data (s := { s with heap := h'.push (seqObj "list" acc.toList.toArray 0), toks := tk }) (enc := fun p : Ent => keyD p.1) (R := fun (v : Value) (p : Ent) => v = .ref p.2.1) hoL hE ?_ ?_ ?_ ?_ ?_ ?_
  · refine each_add hE fun v p m e => ⟨[], ?_, by simp⟩
    subst e
    obtain ⟨its, rv, ⟨ob, f1, f2, n, f3⟩, _⟩ := I.tuple (hk p m)
    refine Reads.tuple (h := h'.push (seqObj "list" acc.toList.toArray 0)) (xs := p.1.map PyData.int) (Heap.get?_push_of_some _ (hk' _ _ f1)) f2 f3 ?_
    simpa using readsAll_ints rv
  · exact h1
  · exact h2
  · exact Nat.le_trans h3 (by decide)
  · intro b m
    have := h4 (keyD b.1) (List.mem_map.mpr ⟨b, m, rfl⟩)
    show X.A.units + 1 + 1 + (keyD b.1).depth < cLine
    omega
  · intro out lo2 eo
    refine wpAny_pure ?_
    have vo := vals_refs _ eo
    have perm := List.mergeSort_perm xs (W.dataLe false fun p : Ent => keyD p.1)
    obtain ⟨e', he'⟩ := PyProof.Rows.sortedHeap_at (vs := acc.toList) (out := out.toArray) hoL
    refine ⟨_, rfl, .ref h'.objs.size, upd H h'.objs.size (.lst ((xs.mergeSort (W.dataLe false fun p : Ent => keyD p.1)).map fun z => V.ref z.2.1)), I1.laid (t' := tk) (fun b u e => ?_) (Nat.le_refl _) ?_, rfl, q _ _ perm rfl (I1.hok.fresh (Nat.le_refl _))⟩
    · have hb : b < h'.objs.size := Heap.lt_size e
      rw [PyProof.Rows.sortedHeap_old (Nat.ne_of_lt hb) (Nat.lt_of_lt_of_le hb (Nat.le_of_lt (Heap.lt_size hoL)))]
      exact Heap.get?_push_of_some _ e
    · refine ⟨?_, out, e', vo, he'⟩
      rw [List.length_map, perm.length_eq]
      exact z
end
end Dn

set_option Elab.async false
set_option linter.all false
set_option maxRecDepth 100000
namespace Dn
open PySem PySem.Spec L2
open Rep (rep)
open ORep (orep)
section
variable {K : PySem.W.Frag} {B0 H0 B H B' H' : Hp} {σ : St} {env env' : List Slot} {α : Type} [Rep α]
theorem StOk.setG {φ : PySem.W.Frag → Hp → Addr → HO → Prop} {hm : ∀ K B B' a o, Le B B' → φ K B a o → φ K B' a o} {B1 H1 : Hp} (S : StOk K B0 H0 B H σ env) (i : Nat) {p : Addr} {o : HO} (np : H p = none) (g : Grow B H B1 H1) (nb : B1 p = none) (hp : H1 p = some o) (r : φ K B1 p o) :
    StOk K B0 H0 B1 H1 (σ.set i (some (.ref p))) (env.set i (.obj φ hm)) := by
  have S1 := S.grow g
  have old : ∀ (j : Nat) (s : Slot), env[j]? = some s → isOwn s = true → σ[j]? ≠ some (some (.ref p)) := fun j s h o e => by
    cases s with
    | any => cases o
    | val _ => cases o
    | obj φ2 hm2 =>
      obtain ⟨a, ob, e1, e2, _⟩ := S.en.obj h
      rw [e] at e1
      cases e1
      rw [np] at e2
      cases e2
    | deep ψ hm => cases o
  refine ⟨⟨g.bh, by rw [List.length_set, List.length_set]; exact S.en.len, fun j s h => ?_, fun j k s t h1 h2 o1 o2 e => ?_⟩, S1.g, fun j s a h o e => ?_, fun k ψ hm' h => by
    obtain ⟨ik, h⟩ := deep_set (by intro _ _ z; cases z) h
    exact ((S.rd k ψ hm' h).other (v := some (.ref p)) (s := .obj φ hm) ik fun c _ e => by cases e; exact .inl np).grow hm' g⟩
  · by_cases q : i = j
    · subst q
      by_cases hl : i < env.length
      · rw [List.getElem?_set_self hl] at h
        cases h
        rw [List.getElem?_set_self (by rw [S.en.len]; exact hl)]
        exact ⟨p, o, rfl, hp, nb, r⟩
      · rw [List.getElem?_eq_none (by rw [List.length_set]; omega)] at h
        cases h
    · rw [List.getElem?_set_ne q] at h ⊢
      exact S1.en.at_ j s h
  · by_cases q1 : i = j
    · by_cases q2 : i = k
      · rw [← q1, ← q2]
      · subst q1
        rw [List.getElem?_set_ne q2] at h2 e
        by_cases hl : i < env.length
        · rw [List.getElem?_set_self (by rw [S.en.len]; exact hl)] at e
          exact absurd e.symm (old k t h2 o2)
        · rw [List.getElem?_eq_none (by rw [List.length_set]; omega)] at h1
          cases h1
    · rw [List.getElem?_set_ne q1] at h1 e
      by_cases q2 : i = k
      · subst q2
        by_cases hl : i < env.length
        · rw [List.getElem?_set_self (by rw [S.en.len]; exact hl)] at e
          exact absurd e (old j s h1 o1)
        · rw [List.getElem?_eq_none (by rw [List.length_set]; omega)] at h2
          cases h2
      · rw [List.getElem?_set_ne q2] at h2 e
        exact S1.en.ap j k s t h1 h2 o1 o2 e
  · by_cases q : i = j
    · subst q
      by_cases hl : i < env.length
      · rw [List.getElem?_set_self (by rw [S.en.len]; exact hl)] at e
        cases e
        exact S.g.h.none np
      · rw [List.getElem?_eq_none (by rw [List.length_set]; omega)] at h
        cases h
    · rw [List.getElem?_set_ne q] at h e
      exact S.nw j s a h o e
theorem StOk.freezeG {β : Type} [Rep β] {y : β} {φ : PySem.W.Frag → Hp → Addr → HO → Prop} {hm : ∀ K B B' a o, Le B B' → φ K B a o → φ K B' a o} (S : StOk K B0 H0 B H σ env) (i : Nat) (hi : env[i]? = some (.obj φ hm)) (hy : ∀ a o B1, φ K B a o → Le B B1 → B1 a = some o → rep K B1 (.ref a) y) : ∃ B1, StOk K B0 H0 B1 H σ (env.set i (.val y)) ∧ Le B B1 := by
  obtain ⟨a, o, e1, e2, e3, r⟩ := S.en.obj hi
  have nw := S.nw i _ a hi rfl e1
  have hl : i < env.length := (List.getElem?_eq_some_iff.mp hi).1
  have l1 : Le B (upd B a o) := Le.put e3
  have l2 : Le (upd B a o) H := fun b u z => by
    by_cases k : b = a
    · subst k
      rw [upd_same] at z
      rw [e2, z]
    · rw [upd_ne k] at z
      exact S.en.bh b u z
  have other : ∀ (j : Nat) (s : Slot), i ≠ j → env[j]? = some s → isOwn s = true → σ[j]? ≠ some (some (.ref a)) := fun j s n h o e => n (S.en.ap i j _ s hi h rfl o (e1.trans e.symm))
  refine ⟨upd B a o, ⟨⟨l2, by rw [List.length_set]; exact S.en.len, fun j s h => ?_, fun j k s t h1 h2 o1 o2 e => ?_⟩, ⟨S.g.b.trans l1, l2, S.g.h, fun b z n => ?_⟩, fun j s b h o e => ?_, fun k ψ hm' h => by
    obtain ⟨ik, h⟩ := deep_set (by intro _ _ z; cases z) h
    obtain ⟨a2, cs, f1, f2, f3, f4⟩ := S.rd k ψ hm' h
    refine ⟨a2, cs, f1, fun c hc => ⟨(f2 c hc).1, ?_, (f2 c hc).2.2⟩, fun j s c h1 h2 h3 => ?_, hm' _ _ _ _ _ _ _ l1 (fun _ _ => rfl) f4⟩
    · rw [upd_ne (fun z => f3 i _ a hi rfl e1 (by rw [← z]; exact hc))]
      exact (f2 c hc).2.1
    · by_cases q : i = j
      · subst q
        rw [List.getElem?_set_self hl] at h1
        cases h1
        cases h2
      · rw [List.getElem?_set_ne q] at h1
        exact f3 j s c h1 h2 h3⟩, l1⟩
  · by_cases q : i = j
    · subst q
      rw [List.getElem?_set_self hl] at h
      cases h
      exact ⟨_, e1, hy a o _ r l1 upd_same⟩
    · rw [List.getElem?_set_ne q] at h
      have z := S.en.at_ j s h
      cases s with
      | any => trivial
      | @val α' i' y =>
        obtain ⟨u, f1, f2⟩ := z
        exact ⟨u, f1, Rep.mono l1 f2⟩
      | obj φ2 hm2 =>
        obtain ⟨b, ob, f1, f2, f3, f4⟩ := z
        refine ⟨b, ob, f1, f2, ?_, hm2 _ _ _ _ _ l1 f4⟩
        rw [upd_ne (fun k => other j _ q h rfl (by rw [f1, k]))]
        exact f3
      | deep ψ hm => trivial
  · by_cases q1 : i = j
    · subst q1
      rw [List.getElem?_set_self hl] at h1
      cases h1
      cases o1
    · by_cases q2 : i = k
      · subst q2
        rw [List.getElem?_set_self hl] at h2
        cases h2
        cases o2
      · rw [List.getElem?_set_ne q1] at h1
        rw [List.getElem?_set_ne q2] at h2
        exact S.en.ap j k s t h1 h2 o1 o2 e
  · rw [upd_ne (fun k => n (by rw [k]; exact nw))]
    exact S.g.f b z n
  · by_cases q : i = j
    · subst q
      rw [List.getElem?_set_self hl] at h
      cases h
      cases o
    · rw [List.getElem?_set_ne q] at h
      exact S.nw j s b h o e
end
structure Dct (α : Type) where
  l : List (Tup Int × α)
section
variable {α : Type}
def Dct.get (d : Dct α) (k : Tup Int) : Option α := (d.l.find? fun p => decide (p.1 = k)).map (·.2)
def Dct.put (d : Dct α) (k : Tup Int) (v : α) : Dct α := if (d.get k).isSome = true then ⟨d.l.map fun p => if p.1 = k then (p.1, v) else p⟩ else ⟨d.l ++ [(k, v)]⟩
theorem tup_eq {x y : Tup Int} : (x.l = y.l) ↔ x = y := by
  cases x; cases y
  constructor
  · intro h; cases h; rfl
  · intro h; cases h; rfl
variable [Rep α] {K : PySem.W.Frag} {B B' : Hp}
def DRel (K : PySem.W.Frag) (B : Hp) (xs : List Ent) (l : List (Tup Int × α)) : Prop := Paired (fun (x : Ent) (p : Tup Int × α) => x.1 = p.1.l ∧ SqT K B x.2.1 (x.1.map V.int) ∧ rep K B x.2.2 p.2) xs l
theorem DRel.mono (e : Le B B') {xs : List Ent} {l : List (Tup Int × α)} (r : DRel K B xs l) : DRel K B' xs l := Paired.mapP r fun _ _ h => ⟨h.1, e.t h.2.1, Rep.mono e h.2.2⟩
theorem DRel.keys {xs : List Ent} {l : List (Tup Int × α)} (r : DRel K B xs l) : ∀ p ∈ xs, KeyAt K B p := by
  unfold DRel at r
  induction r with
  | nil => exact fun _ h => nomatch h
  | cons h _ ih =>
    intro p m
    cases m with
    | head => exact h.2.1
    | tail _ m => exact ih p m
theorem DRel.at_ {xs : List Ent} {l : List (Tup Int × α)} (r : DRel K B xs l) (k : Tup Int) : (∀ y, (⟨l⟩ : Dct α).get k = some y → ∃ v, atE xs k.l = some v ∧ rep K B v y) ∧ ((⟨l⟩ : Dct α).get k = none → atE xs k.l = none) := by
  unfold DRel at r
  unfold Dct.get atE
  induction r with
  | nil => exact ⟨fun y h => (nomatch (show (none : Option α) = some y from h)), fun _ => rfl⟩
  | @cons x p xs ps h t ih =>
    by_cases e : p.1 = k
    · have e' : x.1 = k.l := by rw [h.1, e]
      have a1 : List.find? (fun q : Tup Int × α => decide (q.1 = k)) (p :: ps) = some p := by simp [List.find?_cons, e]
      have a2 : List.find? (fun q : Ent => decide (q.1 = k.l)) (x :: xs) = some x := by simp [List.find?_cons, e']
      rw [a1, a2]
      exact ⟨fun y hy => ⟨_, rfl, by cases hy; exact h.2.2⟩, fun h => nomatch h⟩
    · have e' : ¬ x.1 = k.l := fun z => e (tup_eq.mp (h.1.symm.trans z))
      have a1 : List.find? (fun q : Tup Int × α => decide (q.1 = k)) (p :: ps) = List.find? (fun q : Tup Int × α => decide (q.1 = k)) ps := by simp [List.find?_cons, e]
      have a2 : List.find? (fun q : Ent => decide (q.1 = k.l)) (x :: xs) = List.find? (fun q : Ent => decide (q.1 = k.l)) xs := by simp [List.find?_cons, e']
      rw [a1, a2]
      exact ih
theorem DRel.map_keys {xs : List Ent} {l : List (Tup Int × α)} (r : DRel K B xs l) : xs.map (fun z => (⟨z.1⟩ : Tup Int)) = l.map (·.1) := by
  unfold DRel at r
  induction r with
  | nil => rfl
  | @cons x p xs ps h t ih =>
    rw [List.map_cons, List.map_cons, tup_eq.mp (show (⟨x.1⟩ : Tup Int).l = p.1.l from h.1)]
    exact congrArg _ ih
theorem DRel.put {xs : List Ent} {l : List (Tup Int × α)} (r : DRel K B xs l) {k : Tup Int} {b : Addr} {v : V} {y : α} (hk : SqT K B b (k.l.map V.int)) (hv : rep K B v y) : DRel K B (putE xs k.l b v) ((⟨l⟩ : Dct α).put k y).l := by
  have e : (atE xs k.l).isSome = ((⟨l⟩ : Dct α).get k).isSome := by
    obtain ⟨h1, h2⟩ := r.at_ k
    cases q : (⟨l⟩ : Dct α).get k with
    | none => rw [h2 q]; rfl
    | some z => obtain ⟨w, e, _⟩ := h1 z q; rw [e]; rfl
  unfold putE Dct.put
  rw [e]
  by_cases q : ((⟨l⟩ : Dct α).get k).isSome = true
  · rw [if_pos q, if_pos q]
    clear e q
    unfold DRel at r ⊢
    induction r with
    | nil => exact .nil
    | @cons x p xs ps h t ih =>
      rw [List.map_cons]
      refine .cons ?_ ih
      by_cases e : p.1 = k
      · have e1 : (if x.1 = k.l then (x.1, x.2.1, v) else x) = (x.1, x.2.1, v) := if_pos (by rw [h.1, e])
        have e2 : (if p.1 = k then (p.1, y) else p) = (p.1, y) := if_pos e
        show (if x.1 = k.l then (x.1, x.2.1, v) else x).1 = (if p.1 = k then (p.1, y) else p).1.l ∧ SqT K B (if x.1 = k.l then (x.1, x.2.1, v) else x).2.1 ((if x.1 = k.l then (x.1, x.2.1, v) else x).1.map V.int) ∧ rep K B (if x.1 = k.l then (x.1, x.2.1, v) else x).2.2 (if p.1 = k then (p.1, y) else p).2
        rw [e1, e2]
        exact ⟨h.1, h.2.1, hv⟩
      · have e1 : (if x.1 = k.l then (x.1, x.2.1, v) else x) = x := if_neg (fun z => e (tup_eq.mp (h.1.symm.trans z)))
        have e2 : (if p.1 = k then (p.1, y) else p) = p := if_neg e
        show (if x.1 = k.l then (x.1, x.2.1, v) else x).1 = (if p.1 = k then (p.1, y) else p).1.l ∧ SqT K B (if x.1 = k.l then (x.1, x.2.1, v) else x).2.1 ((if x.1 = k.l then (x.1, x.2.1, v) else x).1.map V.int) ∧ rep K B (if x.1 = k.l then (x.1, x.2.1, v) else x).2.2 (if p.1 = k then (p.1, y) else p).2
        rw [e1, e2]
        exact h
  · rw [if_neg q, if_neg q]
    exact Paired.snoc r ⟨rfl, hk, hv⟩
end
section
variable {α : Type} [Rep α]
def dSlot (d : Dct α) : PySem.W.Frag → Hp → Addr → HO → Prop := fun K B a o => ∃ xs, o = dHO a xs ∧ DRel K B xs d.l
theorem dSlot_mono (d : Dct α) : ∀ K B B' a o, Le B B' → dSlot d K B a o → dSlot d K B' a o := fun _ _ _ _ _ e ⟨xs, h, r⟩ => ⟨xs, h, r.mono e⟩
abbrev Slot.dct (d : Dct α) : Slot := .obj (dSlot d) (dSlot_mono d)
instance : Rep (Dct α) := ⟨fun K B v d => ∃ a xs, v = .ref a ∧ B a = some (dHO a xs) ∧ DRel K B xs d.l, fun e ⟨a, xs, h, s, r⟩ => ⟨a, xs, h, e a _ s, r.mono e⟩⟩
end
theorem ints_vals {K : PySem.W.Frag} {B : Hp} : ∀ {vs : List V} {xs : List Int}, Reps K B vs xs → vs = xs.map V.int := by
  intro vs xs h
  induction h with
  | nil => rfl
  | cons r _ ih => rw [List.map_cons, ← ih, show _ = V.int _ from r]
theorem tup_key {K : PySem.W.Frag} {B : Hp} {v : V} {k : Tup Int} (r : rep K B v k) : ∃ b, v = .ref b ∧ SqT K B b (k.l.map V.int) := by
  obtain ⟨b, vs, e, s, r⟩ := r
  exact ⟨b, e, by rw [← ints_vals r]; exact s⟩
section
variable {S L R : Type} [Rep R] {c : Ct} {env : List Slot} {rest : List Stmt} {e i o f a : Expr} {mk : S → List Slot} {lk : L → List Slot} {α : Type} [Rep α]
theorem ds_newD (j : Nat) {x : Str} {p1 p2 pos : Pos} {k : Fl S L R} (nd : c.N.Nodup) (hN : c.N[j]? = some x) (hx : Loc c.sc x) (hf : c.fn x = true ∨ c.sc.names.lookup x = some .local) (g : DeS c (env.set j (.dct (⟨[]⟩ : Dct α))) rest mk lk k)
    (hs : ∀ env : PySem.Env, env.scope = c.sc → swapsWith (.Dict [] [] p2) (some (.Name x p1)) pos.line env = pure false := by intro _ _; rfl) : DeS c env (.Assign [.Name x p1] (.Dict [] [] p2) pos :: rest) mk lk k := .mk fun B0 H0 B H σ O D P => by
  refine cS_cons (t := tAsg tENew (gName j)) (fun X F => ps_set (by rw [F.N]; exact nd) (fits_ix F hN) (fits_loc F hx) pe_enew (hs _ F.sc) (by rw [F.fn, F.sc]; exact hf)) ?_
  intro p np
  exact g B0 H0 B _ _ (O.setG j np (Grow.free O.en.bh np) (O.en.bh.none np) upd_same ⟨[], rfl, .nil⟩) D P
theorem ds_putD (j : Nat) {x : Str} {p1 p2 pos : Pos} {d : Dct α} {m : Option α} {n : Option (Tup Int)} {k : Dct α → Fl S L R} (hj : env[j]? = some (.dct d)) (hN : c.N[j]? = some x) (hv : Vis c.sc x) (h : De c env e m) (hi : De c env i n) (g : ∀ d' : Dct α, DeS c (env.set j (.dct d')) rest mk lk (k d'))
    (hd : (x == ("__debug__" : Str)) = false := by decide) (hcd : (x == ("__classdict__" : Str)) = false := by decide)
    (hs : ∀ env, swapsWith e (some (.Subscript (.Name x p1) i p2)) pos.line env = pure false := by intro _; rfl) :
    DeS c env (.Assign [.Subscript (.Name x p1) i p2] e pos :: rest) mk lk (Fl.bindO m fun y => Fl.bindO n fun z => if len1 d.l.length = true then k (d.put z y) else .err) := .mk fun B0 H0 B H σ O D P => by
  obtain ⟨y, ey, P⟩ := post_bindO P
  obtain ⟨z, ez, P⟩ := post_bindO P
  obtain ⟨t, t1, t2⟩ := h
  obtain ⟨u, u1, u2⟩ := hi
  split at P
  · rename_i hl
    refine cS_cons (t := sEPut c.K (tVar j) u t) (fun X F => by rw [← F.K]; exact ps_eput (Nat.lt_of_le_of_lt (Nat.add_le_add_left (by decide) _) (fits_units F)) (pe_var (fits_ix F hN) (fits_vis F hv) hd hcd) (u1 X F) (t1 X F) (hs _)) ?_
    refine t2 y ey B H σ O.en _ fun v B1 H1 k1 rv => ?_
    have O1 := O.grow k1
    obtain ⟨a, ob, e1, e2, e3, xs, rfl, r⟩ := O1.en.obj hj
    refine ⟨.ref a, e1, ?_⟩
    refine u2 z ez B1 H1 σ O1.en _ fun w B2 H2 k2 rw2 => ?_
    have O2 := O1.grow k2
    obtain ⟨b, rfl, sb⟩ := tup_key rw2
    have r2 := r.mono k2.b
    refine ⟨a, xs, b, z.l, rfl, k2.h a _ e2, rfl, k2.bh.t sb, fun p m => k2.bh.t (r2.keys p m), ?_, ?_⟩
    · rw [Paired.length r]
      exact Nat.lt_of_le_of_lt (of_decide_eq_true hl) (by decide)
    · exact g (d.put z y) B0 H0 B2 _ σ (O2.change j hj e1 ⟨_, rfl, r2.put sb (Rep.mono k2.b rv)⟩) D (P.mono (k1.b.trans k2.b))
  · exact P.elim
theorem ds_freezeD {d : Dct α} {m : Fl S L R} {b : List Stmt} (j : Nat) (hi : env[j]? = some (.dct d)) (h : DeS c (env.set j (.val d)) b mk lk m) : DeS c env b mk lk m := .mk fun B0 H0 B H σ O D P => by
  obtain ⟨B1, O1, l⟩ := O.freezeG (β := Dct α) (y := d) (φ := dSlot d) j hi (fun a o B1 h l q => by
    obtain ⟨xs, e, r⟩ := h
    show ∃ a' xs, V.ref a = .ref a' ∧ B1 a' = some (dHO a' xs) ∧ DRel c.K B1 xs d.l
    exact ⟨a, xs, rfl, by rw [q, e], r.mono l⟩)
  exact h B0 H0 B1 H σ O1 D (P.mono l)
theorem de_getD {pos : Pos} {m : Option (Dct α)} {n : Option (Tup Int)} (h : De c env o m) (hi : De c env i n) (hs : NoSl i := by intro _ _; rfl) : De c env (.Subscript o i pos) (m.bind fun d => n.bind fun k => d.get k) := by
  obtain ⟨t, t1, t2⟩ := h
  obtain ⟨u, u1, u2⟩ := hi
  refine ⟨tEGet c.K t u, fun X F => by rw [← F.K]; exact pe_eget (Nat.lt_of_le_of_lt (Nat.add_le_add_left (by decide) _) (fits_units F)) (t1 X F) (u1 X F) hs, fun z hz B H σ E Q q => ?_⟩
  obtain ⟨d, ed, hz⟩ := bind_some hz
  obtain ⟨k, ek, hz⟩ := bind_some hz
  refine t2 d ed B H σ E _ fun v B1 H1 k1 r1 => ?_
  refine u2 k ek B1 H1 σ (E.grow k1) _ fun w B2 H2 k2 r2 => ?_
  obtain ⟨a, xs, rfl, e1, r⟩ := Rep.mono k2.b r1
  obtain ⟨b, rfl, sb⟩ := tup_key r2
  obtain ⟨v2, e2, rv⟩ := (r.at_ k).1 z hz
  exact ⟨a, xs, b, k.l, v2, rfl, k2.bh a _ e1, rfl, k2.bh.t sb, fun p m => k2.bh.t (r.keys p m), e2, q v2 B2 H2 (k1.trans k2) rv⟩
theorem getD_rel {K : PySem.W.Frag} {B : Hp} {xs : List Ent} {d : Dct α} (r : DRel K B xs d.l) (k : Tup Int) {v : V} {y : α} (rv : rep K B v y) : rep K B ((atE xs k.l).getD v) ((d.get k).getD y) := by
  obtain ⟨h1, h2⟩ := r.at_ k
  have h1 : ∀ y, d.get k = some y → ∃ v, atE xs k.l = some v ∧ rep K B v y := h1
  have h2 : d.get k = none → atE xs k.l = none := h2
  cases q : d.get k with
  | none => rw [h2 q]; exact rv
  | some z => obtain ⟨w, e, rw⟩ := h1 z q; rw [e]; exact rw
theorem de_get2 {apos pos : Pos} {m : Option (Dct α)} {n : Option (Tup Int)} {l : Option α} (h : De c env o m) (hi : De c env i n) (hf : De c env f l) (hM : ∀ X : Cx, M2 X o "get" apos i f pos := by intro _; exact ⟨rfl, rfl, rfl, rfl⟩) : De c env (.Call (.Attribute o "get" apos) [i, f] [] pos) (m.bind fun d => n.bind fun k => l.bind fun y => some ((d.get k).getD y)) := by
  obtain ⟨t, t1, t2⟩ := h
  obtain ⟨u, u1, u2⟩ := hi
  obtain ⟨s, s1, s2⟩ := hf
  refine ⟨tEGet2 c.K t u s, fun X F => by rw [← F.K]; exact pe_eget2 (Nat.lt_of_le_of_lt (Nat.add_le_add_left (by decide) _) (fits_units F)) (t1 X F) (u1 X F) (s1 X F) (hM X), fun z hz B H σ E Q q => ?_⟩
  obtain ⟨d, ed, hz⟩ := bind_some hz
  obtain ⟨k, ek, hz⟩ := bind_some hz
  obtain ⟨y, ey, hz⟩ := bind_some hz
  cases hz
  refine t2 d ed B H σ E _ fun v B1 H1 k1 r1 => ?_
  obtain ⟨a, xs, rfl, e1, r⟩ := r1
  refine ⟨a, xs, rfl, k1.bh a _ e1, ?_⟩
  refine u2 k ek B1 H1 σ (E.grow k1) _ fun w B2 H2 k2 r2 => ?_
  refine s2 y ey B2 H2 σ ((E.grow k1).grow k2) _ fun v3 B3 H3 k3 r3 => ?_
  obtain ⟨b, rfl, sb⟩ := tup_key r2
  have r' := (r.mono k2.b).mono k3.b
  exact ⟨xs, b, k.l, k3.bh a _ (k3.b a _ (k2.b a _ e1)), rfl, k3.bh.t (k3.b.t sb), fun p m => k3.bh.t (r'.keys p m), q _ B3 H3 ((k1.trans k2).trans k3) (getD_rel r' k r3)⟩
theorem de_get2O (j : Nat) {x : Str} {p1 apos pos : Pos} {d : Dct α} {n : Option (Tup Int)} {l : Option α} (hj : env[j]? = some (.dct d)) (hN : c.N[j]? = some x) (hv : Vis c.sc x) (hi : De c env i n) (hf : De c env f l)
    (hd : (x == ("__debug__" : Str)) = false := by decide) (hcd : (x == ("__classdict__" : Str)) = false := by decide) (hM : ∀ X : Cx, M2 X (.Name x p1) "get" apos i f pos := by intro _; exact ⟨rfl, rfl, rfl, rfl⟩) : De c env (.Call (.Attribute (.Name x p1) "get" apos) [i, f] [] pos) (n.bind fun k => l.bind fun y => some ((d.get k).getD y)) := by
  obtain ⟨u, u1, u2⟩ := hi
  obtain ⟨s, s1, s2⟩ := hf
  refine ⟨tEGet2 c.K (tVar j) u s, fun X F => by rw [← F.K]; exact pe_eget2 (Nat.lt_of_le_of_lt (Nat.add_le_add_left (by decide) _) (fits_units F)) (pe_var (fits_ix F hN) (fits_vis F hv) hd hcd) (u1 X F) (s1 X F) (hM X), fun z hz B H σ E Q q => ?_⟩
  obtain ⟨k, ek, hz⟩ := bind_some hz
  obtain ⟨y, ey, hz⟩ := bind_some hz
  cases hz
  obtain ⟨a, ob, e1, e2, e3, xs, rfl, r⟩ := E.obj hj
  refine ⟨.ref a, e1, a, xs, rfl, e2, ?_⟩
  refine u2 k ek B H σ E _ fun w B2 H2 k2 r2 => ?_
  refine s2 y ey B2 H2 σ (E.grow k2) _ fun v3 B3 H3 k3 r3 => ?_
  obtain ⟨b, rfl, sb⟩ := tup_key r2
  have r' := (r.mono k2.b).mono k3.b
  exact ⟨xs, b, k.l, k3.h a _ (k2.h a _ e2), rfl, k3.bh.t (k3.b.t sb), fun p m => k3.bh.t (r'.keys p m), q _ B3 H3 (k2.trans k3) (getD_rel r' k r3)⟩
theorem dn_sortedE {p pos : Pos} {m : Option (Dct α)} (hm : c.mg "sorted" = none) (h : De c env a m) (hg : Gv c "sorted" := by rfl) (hs : ∀ env, starEach [a] env = (false, eval a env) :: starEach [] env := by intro _; rfl) :
    DeN c env (.Call (.Name "sorted" p) [a] [] pos) (m.bind fun d => if okSort (d.l.map fun p => Dat.toD p.1) = true then some (sortD (d.l.map (·.1))) else none) := by
  obtain ⟨t, h1, h2⟩ := h
  refine ⟨tCB (rSortE c.K) (tCons t tNil), fun X F => pe_callB (by rw [← F.K]; exact cr_sortE F.calm (fits_units F)) (fits_gl F hg) (by rw [F.mg]; exact hm) (by decide +kernel) (pa_cons (h1 X F) pa_nil (hs _)) (by decide) (by decide) (hs _) rfl, fun z hz B H σ E Q q => ?_⟩
  obtain ⟨d, ed, hz⟩ := bind_some hz
  split at hz
  · rename_i ok
    cases hz
    refine h2 d ed B H σ E _ fun v B1 H1 k1 r1 => ?_
    obtain ⟨a, xs, rfl, e1, r⟩ := r1
    have ek : xs.map (fun z => (⟨z.1⟩ : Tup Int)) = d.l.map (·.1) := r.map_keys
    have eo : xs.map (fun p => keyD p.1) = d.l.map fun p => Dat.toD p.1 := by
      have := congrArg (List.map (Dat.toD : Tup Int → PyData)) ek
      rw [List.map_map, List.map_map] at this
      exact this
    refine ⟨a, xs, rfl, k1.bh a _ e1, fun p m => k1.bh.t (r.keys p m), by rw [eo]; exact ok, fun zs p perm hz hn => ?_⟩
    refine q p _ B1 _ (k1.none hn) (k1.trans (Grow.free k1.bh hn)) (k1.bh.none hn) upd_same ⟨_, rfl, ?_⟩
    have e3 : zs.map (fun z => (⟨z.1⟩ : Tup Int)) = sortD (d.l.map (·.1)) := by
      rw [hz, ← ek]
      unfold sortD
      rw [List.map_mergeSort (s := W.dataLe false Dat.toD) (fun x _ y _ => dataLe_comp (fun z : Ent => (⟨z.1⟩ : Tup Int)) Dat.toD x y)]
    rw [← e3]
    have hk := fun z (m : z ∈ zs) => r.keys z (perm.mem_iff.mp m)
    clear e3 perm hz
    induction zs with
    | nil => exact .nil
    | cons z zs ih =>
      refine .cons ⟨z.2.1, _, rfl, hk z (List.mem_cons_self ..), reps_ints z.1⟩ (ih fun z m => hk z (List.mem_cons_of_mem _ m))
  · cases hz
end
end Dn

set_option Elab.async false
set_option linter.all false
set_option maxRecDepth 100000
namespace Dn
section
open PySem PySem.Spec PyProof.Rows L2
variable {prog : Program} {w : World} {A : Around} {E : Value → Shared → Prop} {s : Shared}
end
open PySem PySem.Spec L2
open Rep (rep)
open ORep (orep)
section
variable {c : Ct} {env : List Slot} {a b e : Expr} {α : Type} [Rep α]
theorem dn_revL {k : Nat} {p1 p2 p3 pos : Pos} {m : Option (List α)} (h : DeL c env e m) : DeN c env (.Subscript e (.Slice none none (some (.UnaryOp .USub (.Constant (.int 1) k p1) p2)) p3) pos) (m.bind fun xs => some xs.reverse) := by
  obtain ⟨t, h1, h2⟩ := h
  refine ⟨tRevL c.K t, fun X F => by rw [← F.K]; exact pe_revL (h1 X F), fun z hz B H σ E Q q => ?_⟩
  obtain ⟨xs, ex, hz⟩ := bind_some hz
  cases hz
  exact h2 xs ex B H σ E _ fun l vs B1 H1 k1 s r => ⟨l, vs, rfl, s, fun p hn => q p _ B1 _ (k1.none hn) (k1.trans (Grow.free k1.bh hn)) (k1.bh.none hn) upd_same ⟨_, rfl, r.reverse⟩⟩
end
section
variable {c : Ct}
end
end Dn

set_option Elab.async false
set_option linter.all false
set_option maxRecDepth 100000
namespace Dn
section
open PySem PySem.Spec PyProof.Rows L2
variable {prog : Program} {w : World} {A : Around} {E : Value → Shared → Prop} {s : Shared}
theorem getItem_tuple_whole {t sl : Addr} {items : Array Value} {vl vu : Value} {lo hi : Option Int} {Q : Value → Shared → Prop} (ht : IsTup s.heap t items) (hs : s.heap.IsSliceOf sl vl vu .none) (pl : IsPart vl lo) (pu : IsPart vu hi)
    (hw : HT.sIx items.size 0 lo = 0 ∧ HT.sIx items.size items.size hi = items.size) (h : Q (.ref t) s) : wpAny (model prog w) A (getItem (.ref t) (.ref sl)) Q E s := by
  obtain ⟨os, hos, hcs, hds⟩ := id hs
  have hTs : s.TypeIs (.ref sl) "slice" := ⟨os, hos, hcs⟩
  unfold getItem
  try with_reducible refine wpAny_holding ?_
  first | refine wpAny_bind (wpAny_pure ?_) | skip
  refine wpAny_bind (wpAny_sequenceKey ht.typeIs (by decide) ?_)
  refine wpAny_bind (wpAny_callSpecial?_slot (name := Str.ofString "__getitem__") ht.typeIs PyProof.Rows.slot_tuple_getitem
    (wpAny_call_entry PyProof.Rows.slot_tuple_getitem ht.typeIs entry_tuple_getitem ?_ (args_tuple_getitem _ _)))
  show wpAny _ _ (Builtin.Tuple.tupleItemsOf (.ref t) >>= _) _ _ s
  refine wpAny_bind (tupleItemsOf_ ht ?_)
  refine wpAny_bind (wpAny_typeOf hTs ?_)
  rw [if_pos (by decide)]
  refine wpAny_bind (HT.sliceApplied_gen hs pl pu ?_)
  have hyes : (((HT.sIx items.size 0 lo : Nat) : Int) == 0 && (1 : Int) == 1 && (HT.sIx items.size items.size hi - HT.sIx items.size 0 lo) == items.size) = true := by
    rw [hw.1, hw.2]
    simp
  show wpAny _ _ (if (((HT.sIx items.size 0 lo : Nat) : Int) == 0 && (1 : Int) == 1 && (HT.sIx items.size items.size hi - HT.sIx items.size 0 lo) == items.size) = true then _ else _) _ _ s
  rw [if_pos hyes]
  unfold Builtin.Tuple.tupleIsExact
  refine wpAny_bind (wpAny_bind (wpAny_typeOf ht.typeIs (wpAny_pure ?_)))
  rw [if_pos (by decide)]
  exact wpAny_bind (wpAny_rule (wpAny_pure ⟨_, rfl, wpAny_pure h⟩))
end
open PySem PySem.Spec L2
open Rep (rep)
def rSlU (K : PySem.W.Frag) : V → Option Int → Option Int → Hp → VK → Prop := fun x lo hi H Q => ∃ a xs, x = .ref a ∧ SqT K H a xs ∧
  ((HT.sIx xs.length 0 lo = 0 ∧ HT.sIx xs.length xs.length hi = xs.length) → Q (.ref a) H) ∧ (¬ (HT.sIx xs.length 0 lo = 0 ∧ HT.sIx xs.length xs.length hi = xs.length) → ∀ p, H p = none → Q (.ref p) (upd H p (.tup (cutV xs lo hi))))
theorem sl_tupU {X : Cx} : SlR X (rSlU X.K) := by
  intro pins s σ H x v vl vu lo hi sl Q I rx hs pl pu h
  obtain ⟨a, xs, rfl, hx, q1, q2⟩ := h
  by_cases hw : HT.sIx xs.length 0 lo = 0 ∧ HT.sIx xs.length xs.length hi = xs.length
  · cases rx
    obtain ⟨its, r, ht, hz⟩ := I.tuple hx
    have hlen : its.toArray.size = xs.length := by rw [List.size_toArray]; exact r.length.symm
    exact ⟨"tuple", _, PyProof.Rows.slot_tuple_getitem.lookup, ht.typeIs, getItem_tuple_whole ht hs pl pu (by rw [hlen]; exact hw) ⟨.ref a, H, I, rfl, q1 hw⟩⟩
  · exact sl_tup pins s σ H (.ref a) v vl vu lo hi sl Q I rx hs pl pu ⟨a, xs, rfl, hx, hw, q2 hw⟩
section
variable {c : Ct} {env : List Slot} {a : Expr} {α : Type} [Rep α]
theorem cutG_whole {xs : List α} {lo hi : Option Int} (h : HT.sIx xs.length 0 lo = 0 ∧ HT.sIx xs.length xs.length hi = xs.length) : cutG xs lo hi = xs := by
  unfold cutG
  rw [h.1, h.2, List.drop_zero, Nat.sub_zero, List.take_length]
theorem de_slT {pos p2 : Pos} {lo hi : Option Expr} {m : Option (Tup α)} {ml mh : Option (Option Int)} (h : De c env a m) (hl : DeO c env lo ml) (hh : DeO c env hi mh) :
    De c env (.Subscript a (.Slice lo hi none p2) pos) (m.bind fun x => ml.bind fun l => mh.bind fun u => some (⟨cutG x.l l u⟩ : Tup α)) := by
  obtain ⟨t, h1, h2⟩ := h
  obtain ⟨tl, l1, l2⟩ := hl
  obtain ⟨th, u1, u2⟩ := hh
  refine ⟨tSl (rSlU c.K) t tl th, fun X F => pe_slice (by rw [← F.K]; exact sl_tupU) (h1 X F) (l1 X F) (u1 X F), fun z hz B H σ E Q q => ?_⟩
  obtain ⟨x, ex, hz⟩ := bind_some hz
  obtain ⟨l, el, hz⟩ := bind_some hz
  obtain ⟨u, eu, hz⟩ := bind_some hz
  cases hz
  refine h2 x ex B H σ E _ fun v B1 H1 k1 r => l2 l el B1 H1 σ (E.grow k1) _ fun B2 H2 k2 => u2 u eu B2 H2 σ (E.grow (k1.trans k2)) _ fun B3 H3 k3 => ?_
  obtain ⟨p, vs, rfl, s1, r1⟩ := Rep.mono (k2.b.trans k3.b) r
  have g := (k1.trans k2).trans k3
  have len := r1.len
  refine ⟨p, vs, rfl, g.bh.t s1, fun hw => ?_, fun _ n hn => ?_⟩
  · rw [len] at hw
    exact q (.ref p) B3 H3 g ⟨p, vs, rfl, s1, by rw [cutG_whole hw]; exact r1⟩
  · exact q (.ref n) _ _ (g.trans (Grow.new g.bh hn)) ⟨n, _, rfl, SqT.of upd_same, (r1.cut l u).mono (Le.put (g.bh.none hn))⟩
end
end Dn

set_option Elab.async false
set_option linter.all false
set_option maxRecDepth 100000
namespace Dn
open PySem PySem.Spec L2
open Rep (rep)
section
variable {c : Ct} {env : List Slot} {a b e o i f : Expr} {α β γ : Type} [Rep α] [Rep β] [Rep γ] {pos p : Pos}
theorem de_mulP {x y : Int} (ha : De c env a (some x)) (hb : De c env b (some y)) : De c env (.BinOp a .Mult b pos) (mulI x y) := de_mul ha hb
theorem de_modP {x y : Int} (ha : De c env a (some x)) (hb : De c env b (some y)) : De c env (.BinOp a .Mod b pos) (modI x y) := de_mod ha hb
theorem de_divP {x y : Int} (ha : De c env a (some x)) (hb : De c env b (some y)) : De c env (.BinOp a .FloorDiv b pos) (divI x y) := de_div ha hb
theorem de_powP {x y : Int} (ha : De c env a (some x)) (hb : De c env b (some y)) : De c env (.BinOp a .Pow b pos) (powI x y) := de_pow ha hb
theorem de_addP {x y : Int} (ha : De c env a (some x)) (hb : De c env b (some y)) : De c env (.BinOp a .Add b pos) (some (x + y)) := de_add ha hb
theorem de_subP {x y : Int} (ha : De c env a (some x)) (hb : De c env b (some y)) : De c env (.BinOp a .Sub b pos) (some (x - y)) := de_sub ha hb
theorem de_catUP {x y : Tup α} (ha : De c env a (some x)) (hb : De c env b (some y)) : De c env (.BinOp a .Add b pos) (catU x y) := de_catU ha hb
theorem de_repUP {x : Tup α} {y : Int} (ha : De c env a (some x)) (hb : De c env b (some y)) : De c env (.BinOp a .Mult b pos) (repU x y) := de_repU ha hb
theorem de_ixLP {x : List α} {y : Int} (h : DeL c env a (some x)) (g : De c env b (some y)) (hs : PlainIx b := by exact fun _ _ => rfl) : De c env (.Subscript a b pos) (atI x y) := de_ixL h g hs
theorem de_ixTP {x : Tup α} {y : Int} (h : De c env a (some x)) (g : De c env b (some y)) (hs : PlainIx b := by exact fun _ _ => rfl) : De c env (.Subscript a b pos) (atI x.l y) := de_ixT h g hs
theorem de_ixSP {x : Str} {y : Int} (h : De c env a (some x)) (g : De c env b (some y)) (hs : PlainIx b := by exact fun _ _ => rfl) : De c env (.Subscript a b pos) (atS x y) := de_ixS h g hs
theorem de_getDP {d : Dct α} {k : Tup Int} (h : De c env o (some d)) (hi : De c env i (some k)) (hs : NoSl i := by intro _ _; rfl) : De c env (.Subscript o i pos) (d.get k) := de_getD h hi hs
theorem de_cP {op : CmpOp} {f : α → β → Option Bool} {x : α} {y : β} (C : Cmp c op f) (ha : De c env a (some x)) (hb : De c env b (some y)) (hm : behindInMarks op b = false := by first | rfl | exact nomark _) : De c env (.Compare a [op] [b] pos) (f x y) := de_c C ha hb hm
theorem dt_c1P {op : CmpOp} {f : α → β → Option Bool} {x : α} {y : β} (C : Cmp c op f) (ha : De c env a (some x)) (hb : De c env b (some y)) (hm : behindInMarks op b = false := by first | rfl | exact nomark _) : DeT c env (.Compare a [op] [b] pos) (f x y) := dt_c1 C ha hb hm
theorem de_intIP {x : Int} (hm : c.mg "int" = none) (h : De c env a (some x)) (hg : Gv c "int" := by rfl) (hs : ∀ env, starEach [a] env = (false, eval a env) :: starEach [] env := by intro _; rfl) : De c env (.Call (.Name "int" p) [a] [] pos) (some x) := de_intI hm h hg hs
theorem do_someP {x : Int} (h : De c env e (some x)) : DeO c env (some e) (some (some x)) := do_some h
theorem de_slTP {p2 : Pos} {lo hi : Option Expr} {x : Tup α} {l u : Option Int} (h : De c env a (some x)) (hl : DeO c env lo (some l)) (hh : DeO c env hi (some u)) : De c env (.Subscript a (.Slice lo hi none p2) pos) (some (⟨cutG x.l l u⟩ : Tup α)) := de_slT h hl hh
theorem de_fstP {p2 : Pos} {k : Nat} {x : α × β} (h : De c env a (some x)) : De c env (.Subscript a (.Constant (.int 0) k p2) pos) (some x.1) := de_fst h
theorem de_sndP {p2 : Pos} {k : Nat} {x : α × β} (h : De c env a (some x)) : De c env (.Subscript a (.Constant (.int 1) k p2) pos) (some x.2) := de_snd h
theorem de_tupHP {es : List Expr} {x1} {xs : List α} (h : DeI c env es (some xs)) (hl : len1 xs.length = true := by rfl) : De c env (.Tuple es x1 pos) (some (⟨xs⟩ : Tup α)) := by
  have := de_tupH (pos := pos) (x1 := x1) h
  rw [Option.bind_some] at this
  unfold capL at this
  rw [if_pos hl] at this
  exact this
end
end Dn

set_option Elab.async false
set_option linter.all false
set_option maxRecDepth 100000
namespace Dn
open PySem PySem.Spec L2
theorem okSort_tups (ks : List (Tup Int)) (h : ∀ k ∈ ks, 1 ≤ k.l.length) (hl : ks.length ≤ 100000) : okSort (ks.map Dat.toD) = true := by
  unfold okSort
  simp only [Bool.and_eq_true, List.all_eq_true, Bool.or_eq_true, decide_eq_true_eq, List.length_map]
  refine ⟨⟨⟨?_, Or.inl ?_⟩, hl⟩, ?_⟩
  · intro d hd e he
    obtain ⟨x, _, rfl⟩ := List.mem_map.mp hd
    obtain ⟨y, _, rfl⟩ := List.mem_map.mp he
    show W.alike (.tuple (x.l.map PyData.int)) (.tuple (y.l.map PyData.int)) = true
    rw [W.alike]
    exact W.alike_ints x.l y.l
  · intro d hd
    obtain ⟨x, hx, rfl⟩ := List.mem_map.mp hd
    have := h x hx
    obtain ⟨l⟩ := x
    cases l with
    | nil => exact absurd this (by decide)
    | cons _ _ => rfl
  · intro d hd
    obtain ⟨x, _, rfl⟩ := List.mem_map.mp hd
    show (PyData.tuple (x.l.map PyData.int)).depth ≤ 60
    rw [PyData.depth, W.depth_ints]
    decide
theorem okSort_keys {α : Type} (d : Dct α) (h : ∀ q ∈ d.l, 1 ≤ q.1.l.length) (hl : d.l.length ≤ 100000) : okSort (d.l.map fun p => Dat.toD p.1) = true := by
  have := okSort_tups (d.l.map (·.1)) (fun k hk => by
    obtain ⟨q, hq, rfl⟩ := List.mem_map.mp hk
    exact h q hq) (by rw [List.length_map]; exact hl)
  rw [List.map_map] at this
  exact this
section
variable {α : Type}
theorem Dct.get_mem {d : Dct α} {k : Tup Int} (h : k ∈ d.l.map (·.1)) : ∃ v, d.get k = some v := by
  obtain ⟨q, hq, rfl⟩ := List.mem_map.mp h
  unfold Dct.get
  have : (d.l.find? fun p => decide (p.1 = q.1)).isSome = true := by
    rw [List.find?_isSome]
    exact ⟨q, hq, decide_eq_true rfl⟩
  obtain ⟨p, hp⟩ := Option.isSome_iff_exists.mp this
  exact ⟨p.2, by rw [hp]; rfl⟩
theorem Dct.put_len (d : Dct α) (k : Tup Int) (v : α) : (d.put k v).l.length ≤ d.l.length + 1 := by
  unfold Dct.put
  split
  · rw [List.length_map]; omega
  · rw [List.length_append]; exact Nat.le_refl _
theorem Dct.put_mem {d : Dct α} {k : Tup Int} {v : α} {q : Tup Int × α} (h : q ∈ (d.put k v).l) : q.1 = k ∨ ∃ p ∈ d.l, p.1 = q.1 := by
  unfold Dct.put at h
  split at h
  · obtain ⟨p, hp, e⟩ := List.mem_map.mp h
    by_cases z : p.1 = k
    · rw [if_pos z] at e
      rw [← e]
      exact .inl z
    · rw [if_neg z] at e
      rw [← e]
      exact .inr ⟨p, hp, rfl⟩
  · rcases List.mem_append.mp h with h | h
    · exact .inr ⟨q, h, rfl⟩
    · cases List.mem_singleton.mp h
      exact .inl rfl
end
theorem sortD_perm {α : Type} [Dat α] (xs : List α) : (sortD xs).Perm xs := List.mergeSort_perm xs _
theorem cutG_len {α : Type} {xs : List α} {a b : Int} (h0 : 0 ≤ a) (h1 : a ≤ b) (h2 : b ≤ xs.length) : ((cutG xs (some a) (some b)).length : Int) = b - a := by
  obtain ⟨m, rfl⟩ := Int.eq_ofNat_of_zero_le h0
  obtain ⟨n, rfl⟩ := Int.eq_ofNat_of_zero_le (Int.le_trans h0 h1)
  unfold cutG
  rw [List.length_take, List.length_drop, HT.sIx_nat, HT.sIx_nat]
  omega
theorem cutG_sub {α : Type} (xs : List α) (lo hi : Option Int) : (cutG xs lo hi).length ≤ xs.length ∧ ∀ y ∈ cutG xs lo hi, y ∈ xs := by
  unfold cutG
  refine ⟨?_, fun y m => ?_⟩
  · simp only [List.length_take, List.length_drop]
    omega
  · exact List.mem_of_mem_drop (List.mem_of_mem_take m)
theorem catU_ok {α : Type} {x y : Tup α} (h : x.l.length + y.l.length ≤ 100000) : catU x y = some ⟨x.l ++ y.l⟩ := by
  unfold catU
  rw [if_pos (len1_of h)]
end Dn

set_option Elab.async false
set_option linter.all false
set_option maxRecDepth 100000
namespace Dn
section
open PySem PySem.Spec L2
open PySem.W (KdlSrc kdl_hint_dict kdu_collect)
open PyProof.Rows (seqObj)
def sortDR {α : Type} [Dat α] (xs : List α) : List α := xs.mergeSort (W.dataLe true Dat.toD)
end
open PySem PySem.Spec L2
open Rep (rep)
open ORep (orep)
section
variable {c : Ct} {env : List Slot} {a : Expr} {α : Type} [Rep α]
end
end Dn

set_option Elab.async false
set_option linter.all false
set_option maxRecDepth 100000
namespace L2
section
open PySem PySem.Spec PyProof.Rows
open Dn (Ent dHO KeyAt putE putE_len put_rel dH isKey dPhi)
theorem e_dictSet {X : Cx} {pins : List (Addr × Obj)} {σ : St} {H : Hp} {s : Shared} {E : Value → Shared → Prop} {D b : Addr} {xs : List Ent} {k : List Int} {v : V} {r : Value} {Q : Unit → Shared → Prop} (hu : X.A.units + 1 < cLine) (I : Inv X pins σ H s) (hD : H D = some (dHO D xs)) (hk : ∀ p ∈ xs, KeyAt X.K H p) (kb : SqT X.K H b (k.map V.int)) (hz : xs.length < sizeLine)
    (rv : RelV v r) (h : ∀ s', Inv X pins σ (upd H D (dHO D (putE xs k b v))) s' → Q () s') : wpAny (model X.prog X.w) X.A (dictSet D (.ref b) r) Q E s := by
  obtain ⟨z, lo, us, rel, dd⟩ := dH I hD hk
  refine wpAny_dictSet_heap (knd := tupleKind (intKind X.prog X.w)) (hsz := by rw [← Paired.length rel]; exact z) (by show X.A.units < cLine; omega) (isKey I kb) dd fun h' dd' hs => h _ ?_
  obtain ⟨ob, es, ep, hq, h2, h3, h4, _, h5⟩ := dd'
  exact d_write I (by rw [hD]; exact True.intro) hs ⟨ob, hq⟩ (dPhi.ok ⟨by have := putE_len xs k b v; omega, lo, _, put_rel rel k b rv, ob, es, ep, hq, h2, h3, fun P w => h4, h5⟩)
def dTurn (K : PySem.W.Frag) (tk tv : TE) (σ2 : St) (H3 : Hp) (D : Addr) (Nx : Hp → Prop) : Prop := tk σ2 H3 fun y H4 => tv σ2 H4 fun z H5 => ∃ xs k b, y = .ref b ∧ H5 D = some (dHO D xs) ∧ (∀ p ∈ xs, KeyAt K H5 p) ∧ SqT K H5 b (k.map V.int) ∧ xs.length < sizeLine ∧ Nx (upd H5 D (dHO D (putE xs k b z)))
def tEc (K : PySem.W.Frag) (wi : TI) (g : TG) (tk tv : TE) (vs : List Nat) : TE := fun σ H Q => wi σ H fun J H1 => ∀ D, H1 D = none → ∃ W : Nat → Nat → Hp → Prop, (∃ m, W 0 m (upd H1 D (dHO D []))) ∧ ∀ i m H, W i m H →
  (J.stop i H ∧ Q (.ref D) H) ∨ (J.go i H ∧ ∃ Nx : Hp → Prop, (∀ H', Nx H' → ∃ m', m' < m ∧ W (i + 1) m' H') ∧ ∀ x H', J.yld i H x H' → g x (wipe σ vs) H' fun σ2 H2 => wipe σ2 vs = wipe σ vs ∧ dTurn K tk tv σ2 H2 D Nx)
section
variable {X : Cx}
theorem ec_core {pins : List (Addr × Obj)} {s : Shared} {σ : St} {H : Hp} {Q : VK} {kx vx tg iter : Expr} {scope : Scope} {own : List (Str × Nat)} {pos pos' : Pos} {wi : TI} {g : TG} {tk tv : TE} {use : Option (Value → Sem Unit)} {Qf : Value → Shared → Prop}
    (hc : X.calm = true) (hu : X.A.units + 1 < cLine) (hN : X.N.Nodup) (I : Inv X pins σ H s) (hi : PI X tg iter wi) (ok : BlkOk X.N X.env.scope scope own)
    (hg : ∀ (s : Shared) (H : Hp) (C : Addr) (cl : List (Str × Addr)) (fp : List Addr), PG (X.blk s H scope (compEnvC scope cl C X.env) fp) tg g)
    (hk : ∀ (s : Shared) (H : Hp) (C : Addr) (cl : List (Str × Addr)) (fp : List Addr), PE (X.blk s H scope (compEnvC scope cl C X.env) fp) kx tk)
    (hv : ∀ (s : Shared) (H : Hp) (C : Addr) (cl : List (Str × Addr)) (fp : List Addr), PE (X.blk s H scope (compEnvC scope cl C X.env) fp) vx tv) (hs : ∀ x, foldedSetIterable iter X.env x = pure x)
    (h : tEc X.K wi g tk tv (own.map (·.2)) σ H Q)
    (fin0 : ∀ D C s' m H', Inv X pins σ H' s' → Q (.ref D) H' → s'.heap.Ns C m → FpOk X pins H' C → compPost (model X.prog X.w) X.A X.xe use Qf (.ref D) C (.ok .next) s') :
    wpAny (model X.prog X.w) X.A (comprehension (.DictComp kx vx [⟨tg, iter, [], 0⟩] scope pos) scope X.env pos' newDict false (eval iter X.env) use) Qf X.xe s := by
  refine wpAny_comprehension_free (use := use) rfl hs (closure_ok fun y hy e => ?_) ok.kind (fun y hy e => by rw [ok.uniq y hy, e]) (thn (hi.run pins s σ H _ I h) fun xv s1 hx => thn hx fun itv s2 h2 => ?_)
  · rcases ok.free y hy e with k | k
    · exact I.ok.has _ (.inl k)
    · exact I.ok.has _ (.inr k)
  obtain ⟨it, fp, tn, J, H2, rfl, I2, T, st2, f2, q⟩ := h2
  refine wpAny_newObj_type (newEnv_comp ?_)
  have hDn : H2 s2.heap.objs.size = none := I2.hok.fresh (Nat.le_refl _)
  obtain ⟨W, ⟨m0, w0⟩, turn⟩ := q _ hDn
  have big : (s2.heap.objs.size == sysModules) = false := beq_eq_false_iff_ne.mpr (Ne.symm (Nat.ne_of_lt I2.big))
  have sz : ∀ b ∈ fp, b < s2.heap.objs.size := fun b hb => let ⟨_, e, _⟩ := T.obj _ _ st2 b hb; Heap.lt_size e
  generalize hD : s2.heap.objs.size = D at hDn w0 turn big sz
  generalize hs3 : ({ s2 with heap := s2.heap.push { cls := .type "dict", data := .dict #[] } } : Shared) = s3
  have h3 : s3.heap = s2.heap.push { cls := .type "dict", data := .dict #[] } := by rw [← hs3]
  have I3 : Inv X pins σ (upd H2 D (dHO D [])) s3 := by
    rw [← hs3]
    refine I2.laid (t' := s2.toks) (fun b o e => Heap.get?_push_of_some _ e) (Nat.le_of_eq hD) (dPhi.ok ⟨Nat.zero_le _, big, [], .nil, ({ cls := .type "dict", data := .dict #[] } : Obj), #[], 0, ?_, ⟨rfl, rfl, rfl⟩, rfl, fun _ _ => rfl, List.nodup_nil⟩)
    rw [← hD]
    exact Heap.get?_push_size _ rfl
  have f3 : ∀ b ∈ fp, FpOk X pins (upd H2 D (dHO D [])) b ∧ b < s3.heap.objs.size := fun b hb => by
    refine ⟨⟨?_, (f2 b hb).2⟩, by rw [h3, Heap.size_push, hD]; exact Nat.lt_succ_of_lt (sz b hb)⟩
    rw [upd_ne (Nat.ne_of_lt (sz b hb))]
    exact (f2 b hb).1
  have st3 : tn 0 s3.heap := T.keep _ _ _ st2 fun b _ o e => by rw [h3]; exact Heap.get?_push_of_some _ e
  have I4 := block_start I3 ok hN f3
  show codeAny _ _ (.compStart (.DictComp kx vx [⟨tg, iter, [], 0⟩] scope pos) 0 (.ref it) (.ref D) (compEnvC scope (cellsFrom (s3.heap.objs.size + 1) scope.names (cloFrom X.env.cells scope.names [])) s3.heap.objs.size X.env)) (compPost (model X.prog X.w) X.A X.xe use Qf (.ref D) s3.heap.objs.size) { s3 with heap := pushCells (s3.heap.push { cls := .type "dict", data := .dict #[] }) scope.names }
  generalize hcl : cellsFrom (s3.heap.objs.size + 1) scope.names (cloFrom X.env.cells scope.names []) = cl at I4 ⊢
  have pg := hg s3 (upd H2 D (dHO D [])) s3.heap.objs.size cl fp
  have pk := hk s3 (upd H2 D (dHO D [])) s3.heap.objs.size cl fp
  have pv := hv s3 (upd H2 D (dHO D [])) s3.heap.objs.size cl fp
  have nfp : ∀ b ∈ fp, (upd H2 D (dHO D [])) b = none := fun b hb => (f3 b hb).1.1
  generalize hce : compEnvC scope cl s3.heap.objs.size X.env = ce at I4 pg pk pv ⊢
  have cL : ce.locals = s3.heap.objs.size := by subst hce; rfl
  generalize hH3 : upd H2 D (dHO D []) = H3 at I3 I4 pg pk pv w0 nfp f3
  generalize hs4 : ({ s3 with heap := pushCells (s3.heap.push { cls := .type "dict", data := .dict #[] }) scope.names } : Shared) = s4 at I4 ⊢
  have st4 : tn 0 s4.heap := T.keep _ _ _ st3 fun b _ o e => by rw [← hs4]; exact pushCells_keeps _ _ _ _ (Heap.get?_push_of_some _ e)
  let Y := X.blk s3 H3 scope ce fp
  have stat : ∀ {σ' : St} {H' : Hp} {s' : Shared}, Inv Y [] σ' H' s' → (∀ b ∈ fp, H' b = none) → ∀ b ∈ fp, FpOk Y [] H' b := fun {σ' H' s'} I' hn b hb =>
    ⟨hn b hb, (I'.ok.exf b hb).1, I'.ok.exfs b hb, .inl hb, fun x c e => (I'.ok.exf b hb).2 x c e, fun p hp => by cases hp⟩
  have loop : codeAny (model X.prog X.w) X.A (.compLoop (.DictComp kx vx [⟨tg, iter, [], 0⟩] scope pos) 0 (.ref it) (.ref D) ce) (compPost (model X.prog X.w) X.A X.xe use Qf (.ref D) s3.heap.objs.size) s4 := by
    refine compLoop_anyD (fun n s' => ∃ i H', Inv Y [] (wipe σ (own.map (·.2))) H' s' ∧ tn i s'.heap ∧ (∀ b ∈ fp, H' b = none) ∧ W i n H') (fun n s5 hI => ?_) m0 ⟨0, H3, I4, st4, nfp, w0⟩
    obtain ⟨i, H5, I5, st5, n5, w5⟩ := hI
    rcases turn i n H5 w5 with ⟨stop, qq⟩ | ⟨go, Nx, hNx, step⟩
    · refine thnF (T.done Y rfl rfl rfl hc i [] s5 _ H5 (fun _ _ => False) I5 (stat I5 n5) st5 stop) fun r s6 h6 => ?_
      obtain ⟨rfl, I6⟩ := h6
      obtain ⟨m, hn, _⟩ := I6.loc
      have nC : H5 ce.locals = none := I6.free
      have hn : s6.heap.Ns ce.locals m := hn
      rw [cL] at hn nC
      exact fin0 D s3.heap.objs.size s6 m H5 (I3.call' (ch := fp) I6.os I6.base I6.hok I6.bare fun b hb => ⟨(f3 b hb).1.2.2.2.1, (f3 b hb).1.2.1, (f3 b hb).1.2.2.2.2.1, (f3 b hb).1.2.2.2.2.2⟩) qq hn (I3.fpOk (Nat.le_refl _) nC)
    · refine thnF (T.item Y rfl rfl rfl hc i [] s5 _ H5 (fun _ _ => False) I5 (stat I5 n5) st5 go) fun r s6 h6 => ?_
      obtain ⟨u, rfl, h6⟩ := h6
      refine thnF h6 fun _ s7 h7 => ?_
      obtain ⟨x, H7, I7, r7, y7, st7, n7⟩ := h7
      refine thnF (pg.run _ s7 _ H7 x u _ (I7.pinned (stat I7 n7) (T.obj _ _ st7)) r7 (step x H7 y7)) fun _ s8 h8 => ?_
      obtain ⟨σ8, H8, I8, hw8, q8⟩ := h8
      have last : ∀ {s' : Shared} {H' : Hp}, Inv Y ([] ++ pinsAt fp s7.heap) σ8 H' s' → Nx H' → ∃ m, m < n ∧ ∃ i H', Inv Y [] (wipe σ (own.map (·.2))) H' s' ∧ tn i s'.heap ∧ (∀ b ∈ fp, H' b = none) ∧ W i m H' := fun {s' H'} I' nx => by
        obtain ⟨m', hm, w'⟩ := hNx H' nx
        have pin' : ∀ b ∈ fp, ∀ o, s7.heap.get? b = some o → s'.heap.get? b = some o ∧ H' b = none := fun b hb o e =>
          let z := I'.pin (b, o) (List.mem_append_right _ (List.mem_append_right _ (mem_pinsAt hb e)))
          ⟨z.1, z.2.1⟩
        refine ⟨m', hm, i + 1, H', (I'.unpinned (pins := [])).weak (by rw [← hw8, wipe_length]) (fun j v e => ?_), T.keep _ _ _ st7 fun b hb o e => (pin' b hb o e).1, fun b hb => ?_, w'⟩
        · rw [← hw8] at e
          exact (wipe_some e).1
        · obtain ⟨o, e, _⟩ := T.obj _ _ st7 b hb
          exact (pin' b hb o e).2
      refine thnF ((pts_nil (X := Y)).run _ s8 σ8 H8 (fun b H => b = true ∧ dTurn X.K tk tv σ8 H D Nx) I8 ⟨rfl, q8⟩) fun b s9 h9 => ?_
      obtain ⟨H9, I9, rfl, q9⟩ := h9
      simp only [if_true]
      refine thnF (pk.run _ s9 σ8 H9 _ I9 q9) fun z s10 h10 => ?_
      obtain ⟨yk, H10, I10, r10, q10⟩ := h10
      refine thnF (pv.run _ s10 σ8 H10 _ I10 q10) fun z2 s11 h11 => ?_
      obtain ⟨yv, H11, I11, r11, xs, k, b, rfl, hD11, hk11, kb11, hz11, nx⟩ := h11
      obtain rfl : z = Value.ref b := r10
      exact e_dictSet (X := Y) hu I11 hD11 hk11 kb11 hz11 r11 fun s12 I12 => last I12 nx
  exact codeAny_compStart_dict loop (T.self X.A 0 _ _ _ st4 loop)
theorem pe_ec {kx vx tg iter : Expr} {scope : Scope} {own : List (Str × Nat)} {pos : Pos} {wi : TI} {g : TG} {tk tv : TE} (hc : X.calm = true) (hu : X.A.units + 1 < cLine) (hN : X.N.Nodup) (hi : PI X tg iter wi) (ok : BlkOk X.N X.env.scope scope own)
    (hg : ∀ (s : Shared) (H : Hp) (C : Addr) (cl : List (Str × Addr)) (fp : List Addr), PG (X.blk s H scope (compEnvC scope cl C X.env) fp) tg g)
    (hk : ∀ (s : Shared) (H : Hp) (C : Addr) (cl : List (Str × Addr)) (fp : List Addr), PE (X.blk s H scope (compEnvC scope cl C X.env) fp) kx tk)
    (hv : ∀ (s : Shared) (H : Hp) (C : Addr) (cl : List (Str × Addr)) (fp : List Addr), PE (X.blk s H scope (compEnvC scope cl C X.env) fp) vx tv) (hs : ∀ x, foldedSetIterable iter X.env x = pure x) :
    PE X (.DictComp kx vx [⟨tg, iter, [], 0⟩] scope pos) (tEc X.K wi g tk tv (own.map (·.2))) := by
  refine ⟨fun pins s σ H Q I h => ?_⟩
  rw [arm_eval_DictComp]
  refine ec_core hc hu hN I hi ok hg hk hv hs h fun D C s' m H' I' q hn f => ⟨m, hn, fun h'' sb => ?_⟩
  obtain ⟨f0, f1, f2, f3, f4, f5⟩ := f
  exact ⟨.ref D, H', I'.turned (t' := s'.toks) (fun b o hb e => (sb.2 b hb).trans e) f0 f1 f3 f4 f5, rfl, q⟩
theorem ps_setEc {i : Nat} {y : Str} {py : Pos} {kx vx tg iter : Expr} {scope : Scope} {own : List (Str × Nat)} {pos spos : Pos} {wi : TI} {g : TG} {tk tv : TE} (hc : X.calm = true) (hu : X.A.units + 1 < cLine) (hN : X.N.Nodup) (hy : X.N[i]? = some y) (hyl : X.env.scope.names.lookup y = some .local)
    (hsw : swapsWith (.DictComp kx vx [⟨tg, iter, [], 0⟩] scope pos) (some (.Name y py)) spos.line X.env = pure true) (hi : PI X tg iter wi) (ok : BlkOk X.N X.env.scope scope own)
    (hg : ∀ (s : Shared) (H : Hp) (C : Addr) (cl : List (Str × Addr)) (fp : List Addr), PG (X.blk s H scope (compEnvC scope cl C X.env) fp) tg g)
    (hk : ∀ (s : Shared) (H : Hp) (C : Addr) (cl : List (Str × Addr)) (fp : List Addr), PE (X.blk s H scope (compEnvC scope cl C X.env) fp) kx tk)
    (hv : ∀ (s : Shared) (H : Hp) (C : Addr) (cl : List (Str × Addr)) (fp : List Addr), PE (X.blk s H scope (compEnvC scope cl C X.env) fp) vx tv) (hs : ∀ x, foldedSetIterable iter X.env x = pure x) :
    PS X (.Assign [.Name y py] (.DictComp kx vx [⟨tg, iter, [], 0⟩] scope pos) spos) (tAsg (tEc X.K wi g tk tv (own.map (·.2))) (gName i)) := by
  refine ⟨fun pins s σ H D I h => ?_⟩
  rw [exec_Assign_Name_used _ _ _ _ hsw]
  refine wpAny_bind (wpAny_standAt (wpAny_bind ?_))
  show wpAny _ X.A (do let _ ← comprehension (.DictComp kx vx [⟨tg, iter, [], 0⟩] scope pos) scope X.env (firstIterPos [⟨tg, iter, [], 0⟩] pos) newDict false (eval iter X.env) (some (assign (.Name y py) X.env))) _ _ s
  have h : tEc X.K wi g tk tv (own.map (·.2)) σ H (fun x H1 => gName i x σ H1 D.nx) := h
  refine wpAny_bind (thn (ec_core (Qf := fun _ s' => SP X pins D .next s') hc hu hN I hi ok hg hk hv hs h fun L C s' m H' I' q hn f => ?_) fun _ s' hq => wpAny_pure (wpAny_pure hq))
  show wpAny _ _ (assign (.Name y py) X.env (.ref L)) _ _ _
  obtain ⟨f0, f1, f2, f3, f4, f5⟩ := f
  refine wpAny_assign_Name (store_ok2 (v := V.ref L) I' hN hy (.inl hyl) rfl (fun s2 I2 h2 => ?_) (.inr hyl))
  obtain ⟨a, sb, ha⟩ := h2
  have haC : C ≠ a := by
    rcases ha with z | z
    · rw [z]; exact f1
    · exact fun e => f4 y a z e.symm
  exact ⟨m, hn.sameBut sb haC, fun h3 sb3 => ⟨_, H', I2.turned (t' := s2.toks) (fun b o hb e => (sb3.2 b hb).trans e) f0 f1 f3 f4 f5, q⟩⟩
theorem sw_trueE {kx vx : Expr} {gs : List Comprehension} {scope : Scope} {pos py : Pos} {y : Str} {l : Nat} {env : PySem.Env} (hk : env.scope.kind = .function) (hy : env.scope.names.lookup y = some .local) (hl : (py.line == pos.line) = true)
    (ha : (scope.names.any fun (n, k) => n == y && (k == .local || k == .cell)) = false) : swapsWith (.DictComp kx vx gs scope pos) (some (.Name y py)) l env = pure true := by
  have ky : env.kindOf y = some .local := hy
  have hb : env.blockKind = .function := by unfold Env.blockKind; rw [hk]; rfl
  unfold swapsWith
  simp only [hb, ky, ha, Expr.pos, hl]
  rfl
theorem ec_it {K : PySem.W.Frag} {J : It} {n : Nat} {G : Hp → Prop} {Y : Nat → Hp → V → Hp → Prop} (w : Walk J n G Y) {g : TG} {tk tv : TE} {vs : List Nat} {σ : St} {H1 : Hp} {D : Addr} {Qd : Hp → Prop} (Pv : Nat → Hp → Prop) (h0 : Pv 0 (upd H1 D (dHO D []))) (hG : ∀ i H, i ≤ n → Pv i H → G H)
    (hs : ∀ i x H H', i < n → Pv i H → Y i H x H' → g x (wipe σ vs) H' fun σ2 H2 => wipe σ2 vs = wipe σ vs ∧ dTurn K tk tv σ2 H2 D (Pv (i + 1))) (hd : ∀ H, Pv n H → Qd H) :
    ∃ W : Nat → Nat → Hp → Prop, (∃ m, W 0 m (upd H1 D (dHO D []))) ∧ ∀ i m H, W i m H →
      (J.stop i H ∧ Qd H) ∨ (J.go i H ∧ ∃ Nx : Hp → Prop, (∀ H', Nx H' → ∃ m', m' < m ∧ W (i + 1) m' H') ∧ ∀ x H', J.yld i H x H' → g x (wipe σ vs) H' fun σ2 H2 => wipe σ2 vs = wipe σ vs ∧ dTurn K tk tv σ2 H2 D Nx) := by
  refine ⟨fun i m H => m = n - i ∧ i ≤ n ∧ Pv i H, ⟨n, (Nat.sub_zero n).symm, Nat.zero_le _, h0⟩, fun i m H h => ?_⟩
  obtain ⟨rfl, hi, p⟩ := h
  have q := hG i H hi p
  rcases Nat.lt_or_ge i n with hlt | hge
  · exact .inr ⟨w.goes i H hlt q, Pv (i + 1), fun H' p' => ⟨n - (i + 1), by omega, rfl, hlt, p'⟩, fun x H' y => hs i x H H' hlt p (w.yields i H x H' hlt q y)⟩
  · obtain rfl : i = n := by omega
    exact .inl ⟨w.stops H q, hd H p⟩
end
end
end L2

set_option Elab.async false
set_option linter.all false
set_option maxRecDepth 100000
namespace Dn
open PySem PySem.Spec L2
open Rep (rep)
open ORep (orep)
section
variable {c : Ct} {env : List Slot} {e kx vx iter tg : Expr} {α β : Type} [Rep α] [Rep β]
def EvM (K : PySem.W.Frag) (env : List Slot) (t : TE) (d : Dct β) : Prop := ∀ (B H : Hp) (σ : St), Env K B H σ env → ∀ Q : VK, (∀ p xs B' H', H p = none → Grow B H B' H' → B' p = none → H' p = some (dHO p xs) → DRel K B' xs d.l → Q (.ref p) H') → t σ H Q
def DeM (c : Ct) (env : List Slot) (e : Expr) (m : Option (Dct β)) : Prop := ∃ t, (∀ X, Fits c X → PE X e t) ∧ ∀ d, m = some d → EvM c.K env t d
theorem EvM.de {K : PySem.W.Frag} {t : TE} {d : Dct β} (h2 : EvM K env t d) : EvE K env t d := by
  refine fun B H σ E Q q => h2 B H σ E Q fun p xs B' H' np g nb hp r => ?_
  have hB : Le (upd B' p (dHO p xs)) H' := fun a u z => by
    by_cases k : a = p
    · subst k
      rw [upd_same] at z
      rw [hp, z]
    · rw [upd_ne k] at z
      exact g.bh a u z
  refine q (.ref p) (upd B' p (dHO p xs)) H' ⟨g.b.trans (Le.put nb), hB, g.h, fun a z n => ?_⟩ ⟨p, xs, rfl, upd_same, r.mono (Le.put nb)⟩
  rw [upd_ne (fun k => n (by rw [k]; exact np))]
  exact g.f a z n
theorem DeM.de {m : Option (Dct β)} (h : DeM c env e m) : De c env e m := by
  obtain ⟨t, h1, h2⟩ := h
  exact ⟨t, h1, fun x hx => (h2 x hx).de⟩
def dctO (hk : α → Option (Tup Int)) (hv : α → Option β) : List α → Dct β → Option (Dct β)
  | [], d => some d
  | x :: xs, d => (hk x).bind fun k => (hv x).bind fun v => dctO hk hv xs (d.put k v)
theorem dctO_snoc (hk : α → Option (Tup Int)) (hv : α → Option β) (x : α) : ∀ (xs : List α) (d : Dct β), dctO hk hv (xs ++ [x]) d = (dctO hk hv xs d).bind fun d2 => (hk x).bind fun k => (hv x).bind fun v => some (d2.put k v)
  | [], d => rfl
  | y :: ys, d => by
    show (hk y).bind (fun k => (hv y).bind fun v => dctO hk hv (ys ++ [x]) (d.put k v)) = ((hk y).bind fun k => (hv y).bind fun v => dctO hk hv ys (d.put k v)).bind _
    cases hk y with
    | none => rfl
    | some k =>
      cases hv y with
      | none => rfl
      | some v => exact dctO_snoc hk hv x ys (d.put k v)
theorem dctO_take {hk : α → Option (Tup Int)} {hv : α → Option β} : ∀ {xs : List α} {d d2 : Dct β}, dctO hk hv xs d = some d2 → ∀ i, ∃ d3, dctO hk hv (xs.take i) d = some d3
  | [], d, d2, _, i => ⟨d, by rw [List.take_nil]; rfl⟩
  | x :: xs, d, d2, e, i => by
    cases i with
    | zero => exact ⟨d, rfl⟩
    | succ i =>
      obtain ⟨k, ek, e⟩ := bind_some (show (hk x).bind (fun k => (hv x).bind fun v => dctO hk hv xs (d.put k v)) = some d2 from e)
      obtain ⟨v, ev, e⟩ := bind_some e
      obtain ⟨d3, e3⟩ := dctO_take e i
      refine ⟨d3, ?_⟩
      show (hk x).bind (fun k => (hv x).bind fun v => dctO hk hv (xs.take i) (d.put k v)) = some d3
      rw [ek, Option.bind_some, ev, Option.bind_some]
      exact e3
theorem put_len' (d : Dct β) (k : Tup Int) (v : β) : (d.put k v).l.length ≤ d.l.length + 1 := by
  unfold Dct.put
  split
  · rw [List.length_map]; omega
  · rw [List.length_append]; exact Nat.le_refl _
theorem ev_ec {K : PySem.W.Frag} {wi : TI} {g : TG} {tk tv : TE} {vs is : List Nat} {f : α → List Slot → List Slot} {xs : List α} {d0 : Dct β} {hk : α → Option (Tup Int)} {hv : α → Option β}
    (hi : ∀ (B H : Hp) (σ : St), Env K B H σ env → ∀ R : It → Hp → Prop, (∀ J B' H', Grow B H B' H' → DWalk K B' J xs → R J H') → wi σ H R) (hg : TgS K g f is) (sub : ∀ i ∈ is, i ∈ vs)
    (ek : ∀ x k, hk x = some k → EvE K (f x (wipeE env vs)) tk k) (ev : ∀ x y, hv x = some y → EvE K (f x (wipeE env vs)) tv y) (hl : xs.length ≤ 100000) (hz : dctO hk hv xs ⟨[]⟩ = some d0) :
    EvM K env (tEc K wi g tk tv vs) d0 := by
  intro B H σ E Q q
  refine hi B H σ E _ fun J B1 H1 k1 ⟨G, Y, W, hG, hY⟩ D hD => ?_
  have nB1 : B1 D = none := k1.bh.none hD
  have E1 := (E.grow k1).wipe vs
  refine ec_it W (fun i H2 => ∃ B2 es d, Grow B1 H1 B2 H2 ∧ B2 D = none ∧ H2 D = some (dHO D es) ∧ dctO hk hv (xs.take i) ⟨[]⟩ = some d ∧ DRel K B2 es d.l ∧ d.l.length ≤ i)
    ⟨B1, [], ⟨[]⟩, Grow.free k1.bh hD, nB1, upd_same, rfl, .nil, Nat.le_refl _⟩ (fun i H2 _ ⟨B2, es, d, g2, _⟩ => hG H2 (g2.b.trans g2.bh)) (fun i v H2 H3 hi ⟨B2, es, d, g2, n2, eD, ez, r, dl⟩ y => ?_) fun H2 ⟨B2, es, d, g2, n2, eD, ez, r, _⟩ => ?_
  · obtain ⟨B3, x, g3, ex, rx⟩ := hY i B2 H2 v H3 hi g2.b g2.bh y
    have eD3 := g3.h D _ eD
    have n3 : B3 D = none := g3.f D n2 (by rw [eD]; exact fun z => nomatch z)
    have tk1 : xs.take (i + 1) = xs.take i ++ [x] := by rw [List.take_add_one, ex]; rfl
    obtain ⟨d', ed'⟩ := dctO_take hz (i + 1)
    rw [tk1, dctO_snoc, ez] at ed'
    obtain ⟨k, hkx, ed'⟩ := bind_some (m := hk x) ed'
    obtain ⟨w, hvx, ed'⟩ := bind_some (m := hv x) ed'
    cases ed'
    have g13 := g2.trans g3
    refine hg.run x _ B3 H3 _ v (E1.grow g13) rx _ fun σ' E' l' k' o' => ⟨wipe_same (l'.trans (wipe_length ..)) (fun i hi => (k' i hi).1) sub, ?_⟩
    refine ek x k hkx B3 H3 σ' E' _ fun u1 B4 H4 g4 ru1 => ?_
    have eD4 := g4.h D _ eD3
    have n4 : B4 D = none := g4.f D n3 (by rw [eD3]; exact fun z => nomatch z)
    refine ev x w hvx B4 H4 σ' (E'.grow g4) _ fun u2 B5 H5 g5 ru2 => ?_
    have eD5 := g5.h D _ eD4
    have n5 : B5 D = none := g5.f D n4 (by rw [eD4]; exact fun z => nomatch z)
    obtain ⟨b, rfl, sb⟩ := tup_key ru1
    have r5 := ((r.mono g3.b).mono g4.b).mono g5.b
    have sb5 := g5.b.t sb
    refine ⟨es, k.l, b, rfl, eD5, fun p m => g5.bh.t (r5.keys p m), g5.bh.t sb5, ?_, B5, putE es k.l b u2, d.put k w, ?_, n5, upd_same, ?_, r5.put sb5 ru2, ?_⟩
    · rw [Paired.length r]
      have : d.l.length ≤ 100000 := by omega
      exact Nat.lt_of_le_of_lt this (by decide)
    · have g := (g13.trans g4).trans g5
      refine ⟨g.b, fun a u z => ?_, fun a u z => ?_, g.f⟩
      · rw [upd_ne (fun k => by rw [k, n5] at z; cases z)]
        exact g.bh a u z
      · rw [upd_ne (fun k => by rw [k, hD] at z; cases z)]
        exact g.h a u z
    · rw [tk1, dctO_snoc, ez, Option.bind_some, hkx, Option.bind_some, hvx, Option.bind_some]
    · have := put_len' d k w
      omega
  · rw [List.take_length, hz] at ez
    cases ez
    exact q D es B2 H2 (k1.none hD) (k1.trans g2) n2 eD r
theorem dm_comp {scope : Scope} {own : List (Str × Nat)} {pos : Pos} {is : List Nat} {f : α → List Slot → List Slot} {m : Option (List α)} {hk : α → Option (Tup Int)} {hv : α → Option β} (nd : c.N.Nodup) (hi : DeIt c env iter m) (ok : BlkOk c.N c.sc scope own) (hg : DeTg (c.blk scope) tg f is) (sub : ∀ i ∈ is, i ∈ own.map (·.2))
    (hkk : ∀ x, De (c.blk scope) (f x (wipeE env (own.map (·.2)))) kx (hk x)) (hvv : ∀ x, De (c.blk scope) (f x (wipeE env (own.map (·.2)))) vx (hv x)) (hs : ∀ env x, foldedSetIterable iter env x = pure x := by intro _ _; rfl) :
    DeM c env (.DictComp kx vx [⟨tg, iter, [], 0⟩] scope pos) (m.bind fun xs => (capI xs).bind fun xs => dctO hk hv xs ⟨[]⟩) := by
  obtain ⟨wi, i1, i2⟩ := hi
  obtain ⟨g, g1, g2⟩ := hg
  refine ⟨tEc c.K wi g (cE (c.blk scope) kx) (cE (c.blk scope) vx) (own.map (·.2)), fun X F => by rw [← F.K]; exact pe_ec F.calm (Nat.lt_of_le_of_lt (Nat.add_le_add_left (by decide) _) (fits_units F)) (by rw [F.N]; exact nd) (i1 X F tg) (by rw [F.N, F.sc]; exact ok) (fun s H C cl fp => g1 _ (F.blk s H scope C cl fp)) (fun s H C cl fp => cE_pe _ (F.blk s H scope C cl fp)) (fun s H C cl fp => cE_pe _ (F.blk s H scope C cl fp)) (hs _), fun z hz => ?_⟩
  obtain ⟨xs, ex, hz⟩ := bind_some hz
  obtain ⟨xs', hc, hz⟩ := bind_some hz
  unfold capI at hc
  split at hc
  · rename_i hl
    cases hc
    exact ev_ec (K := c.K) (i2 xs ex) g2 sub (fun x k h => (hkk x).can k h) (fun x y h => (hvv x).can y h) (of_decide_eq_true hl) hz
  · cases hc
def AsM (c : Ct) (env : List Slot) (st : Stmt) (i : Nat) (m : Option (Dct β)) : Prop := ∃ te, (∀ X, Fits c X → PS X st (tAsg te (gName i))) ∧ ∀ d, m = some d → EvM c.K env te d
theorem as_mcomp (i : Nat) {y : Str} {py pos spos : Pos} {scope : Scope} {own : List (Str × Nat)} {is : List Nat} {f : α → List Slot → List Slot} {m : Option (List α)} {hk : α → Option (Tup Int)} {hv : α → Option β} (nd : c.N.Nodup) (hN : c.N[i]? = some y) (hy : c.sc.names.lookup y = some .local) (hkd : c.sc.kind = .function) (hln : (py.line == pos.line) = true)
    (hn : (scope.names.any fun (n, k) => n == y && (k == .local || k == .cell)) = false) (hi : DeIt c env iter m) (ok : BlkOk c.N c.sc scope own) (hg : DeTg (c.blk scope) tg f is) (sub : ∀ i ∈ is, i ∈ own.map (·.2))
    (hkk : ∀ x, De (c.blk scope) (f x (wipeE env (own.map (·.2)))) kx (hk x)) (hvv : ∀ x, De (c.blk scope) (f x (wipeE env (own.map (·.2)))) vx (hv x)) (hs : ∀ env x, foldedSetIterable iter env x = pure x := by intro _ _; rfl) :
    AsM c env (.Assign [.Name y py] (.DictComp kx vx [⟨tg, iter, [], 0⟩] scope pos) spos) i (m.bind fun xs => (capI xs).bind fun xs => dctO hk hv xs ⟨[]⟩) := by
  obtain ⟨wi, i1, i2⟩ := hi
  obtain ⟨g, g1, g2⟩ := hg
  refine ⟨tEc c.K wi g (cE (c.blk scope) kx) (cE (c.blk scope) vx) (own.map (·.2)), fun X F => by rw [← F.K]; exact ps_setEc F.calm (Nat.lt_of_le_of_lt (Nat.add_le_add_left (by decide) _) (fits_units F)) (by rw [F.N]; exact nd) (fits_ix F hN) (by rw [F.sc]; exact hy) (sw_trueE (by rw [F.sc]; exact hkd) (by rw [F.sc]; exact hy) hln hn) (i1 X F tg) (by rw [F.N, F.sc]; exact ok) (fun s H C cl fp => g1 _ (F.blk s H scope C cl fp)) (fun s H C cl fp => cE_pe _ (F.blk s H scope C cl fp)) (fun s H C cl fp => cE_pe _ (F.blk s H scope C cl fp)) (hs _), fun z hz => ?_⟩
  obtain ⟨xs, ex, hz⟩ := bind_some hz
  obtain ⟨xs', hc, hz⟩ := bind_some hz
  unfold capI at hc
  split at hc
  · rename_i hl
    cases hc
    exact ev_ec (K := c.K) (i2 xs ex) g2 sub (fun x k h => (hkk x).can k h) (fun x y h => (hvv x).can y h) (of_decide_eq_true hl) hz
  · cases hc
theorem as_m {m : Option (Dct β)} (i : Nat) {x : Str} {pos pos' : Pos} (h : DeM c env e m) (nd : c.N.Nodup) (hN : c.N[i]? = some x) (hx : Loc c.sc x) (hf : c.fn x = true ∨ c.sc.names.lookup x = some .local) (hs : ∀ env : PySem.Env, env.scope = c.sc → swapsWith e (some (.Name x pos')) pos.line env = pure false) : AsM c env (.Assign [.Name x pos'] e pos) i m := by
  obtain ⟨t, h1, h2⟩ := h
  exact ⟨t, fun X F => ps_set (by rw [F.N]; exact nd) (fits_ix F hN) (fits_loc F hx) (h1 X F) (hs _ F.sc) (by rw [F.fn, F.sc]; exact hf), h2⟩
end
section
variable {S L R : Type} [Rep R] {c : Ct} {env : List Slot} {st : Stmt} {rest : List Stmt} {mk : S → List Slot} {lk : L → List Slot} {β : Type} [Rep β]
theorem ds_ownM {i : Nat} {m : Option (Dct β)} {k : Dct β → Fl S L R} (h : AsM c env st i m) (g : ∀ x, DeS c (env.set i (.dct x)) rest mk lk (k x)) : DeS c env (st :: rest) mk lk (Fl.bindO m k) := .mk fun B0 H0 B H σ O D P => by
  obtain ⟨x, ex, P⟩ := post_bindO P
  obtain ⟨t, h1, h2⟩ := h
  refine cS_cons h1 ?_
  exact h2 x ex B H σ O.en _ fun p xs B1 H1 np k1 nb hp r => g x B0 H0 B1 H1 _ (O.setG (φ := dSlot x) (hm := dSlot_mono x) i np k1 nb hp ⟨xs, rfl, r⟩) D (P.mono k1.b)
end
end Dn

set_option Elab.async false
set_option linter.all false
set_option maxRecDepth 100000
namespace L2
section
open PySem PySem.Spec PyProof.Rows
open Dn (Ent dHO KeyAt putE putE_len put_rel dH isKey dPhi)
def tEDisp1 (K : PySem.W.Frag) (tk tv : TE) : TE := fun σ H Q => ∀ p, H p = none → tk σ (upd H p (dHO p [])) fun y H1 => tv σ H1 fun z H2 => H2 p = some (dHO p []) ∧ ∃ b k, y = .ref b ∧ SqT K H2 b (k.map V.int) ∧ Q (.ref p) (upd H2 p (dHO p [(k, b, z)]))
theorem pe_edisp1 {X : Cx} {pos : Pos} {k v : Expr} {tk tv : TE} (hu : X.A.units + 1 < cLine) (hk : PE X k tk) (hv : PE X v tv) : PE X (.Dict [some k] [v] pos) (tEDisp1 X.K tk tv) := by
  refine ⟨fun pins s σ H Q I q => ?_⟩
  have hn := I.hok.fresh (Nat.le_refl s.heap.objs.size)
  have big : (s.heap.objs.size == sysModules) = false := beq_eq_false_iff_ne.mpr (Ne.symm (Nat.ne_of_lt I.big))
  have I1 := I.laid (a := s.heap.objs.size) (o := dHO s.heap.objs.size []) (h' := s.heap.push { cls := .type "dict", data := .dict #[] }) (t' := s.toks) (fun _ _ q => Heap.get?_push_of_some _ q) (Nat.le_refl _) (dPhi.ok ⟨Nat.zero_le _, big, [], .nil, _, #[], 0, Heap.get?_push_size _ rfl, ⟨rfl, rfl, rfl⟩, rfl, fun _ _ => rfl, List.nodup_nil⟩)
  have q := q _ hn
  generalize hD : s.heap.objs.size = D at q I1 big
  have hne : pairTrees [some k] [v] X.env pos ≠ [] := fun z => by cases z
  have hlen : (pairTrees [some k] [v] X.env pos).length = 1 := pairTrees_length [some k] [v] X.env pos rfl rfl
  rw [arm_eval_Dict, zip_pairTrees [some k] [v] X.env pos rfl rfl, dictDisplay_pairs (pairTrees [some k] [v] X.env pos) hne (by omega)]
  refine wpAny_bind (wpAny_standAt (wpAny_bind (wpAny_subDictH (knd := tupleKind (intKind X.prog X.w)) (by show X.A.units < cLine; omega) (by omega) ?_)))
  rw [hD]
  refine pairTrees_cons_walk (thn (hk.run pins _ σ _ _ I1 q) fun u s1 h1 => ?_)
  obtain ⟨y, H1, I2, ry, q1⟩ := h1
  refine thn (hv.run pins s1 σ H1 _ I2 q1) fun u2 s2 h2 => ?_
  obtain ⟨z, H2, I3, rz, hD2, b, kk, rfl, kb, q2⟩ := h2
  obtain rfl : u = Value.ref b := ry
  obtain ⟨_, lo, us, rel, dd⟩ := dH I3 hD2 (fun p m => nomatch m)
  cases rel
  refine pairTrees_nil_walk ⟨[(kk, b, u2)], ⟨rfl, rfl, isKey I3 kb, trivial⟩, dd, fun h' tk dd' hs => ?_⟩
  obtain ⟨ob, es, ep, hq, h2, h3, h4, _, h5⟩ := dd'
  refine wpAny_pure ⟨.ref D, _, d_write (t' := tk) I3 (by rw [hD2]; exact True.intro) hs ⟨ob, hq⟩ (dPhi.ok ⟨by show 1 ≤ sizeLine; rw [sizeLine_eq]; omega, lo, [(kk, b, u2)], .cons ⟨rfl, rfl, rz⟩ .nil, ob, es, ep, hq, h2, h3, fun P w => h4, h5⟩), rfl, q2⟩
end
end L2
namespace Dn
open PySem PySem.Spec L2
open Rep (rep)
section
variable {c : Ct} {env : List Slot} {k v : Expr} {β : Type} [Rep β]
theorem dm_disp1 {pos : Pos} {m : Option (Tup Int)} {n : Option β} (hk : De c env k m) (hv : De c env v n) : DeM c env (.Dict [some k] [v] pos) (m.bind fun x => n.bind fun y => some (⟨[(x, y)]⟩ : Dct β)) := by
  obtain ⟨t, t1, t2⟩ := hk
  obtain ⟨u, u1, u2⟩ := hv
  refine ⟨tEDisp1 c.K t u, fun X F => by rw [← F.K]; exact pe_edisp1 (Nat.lt_of_le_of_lt (Nat.add_le_add_left (by decide) _) (fits_units F)) (t1 X F) (u1 X F), fun z hz B H σ E Q q p np => ?_⟩
  obtain ⟨x, ex, hz⟩ := bind_some hz
  obtain ⟨y, ey, hz⟩ := bind_some hz
  cases hz
  have nB := E.bh.none np
  have g0 : Grow B H B (upd H p (dHO p [])) := Grow.free E.bh np
  refine t2 x ex B _ σ (E.grow g0) _ fun w1 B1 H1 k1 r1 => ?_
  refine u2 y ey B1 H1 σ ((E.grow g0).grow k1) _ fun w2 B2 H2 k2 r2 => ?_
  obtain ⟨b, rfl, sb⟩ := tup_key r1
  have e1 : H1 p = some (dHO p []) := k1.h p _ upd_same
  have e2 : H2 p = some (dHO p []) := k2.h p _ e1
  have n1 : B1 p = none := k1.f p nB (by rw [upd_same]; exact fun z => nomatch z)
  have n2 : B2 p = none := k2.f p n1 (by rw [e1]; exact fun z => nomatch z)
  have g := (g0.trans k1).trans k2
  refine ⟨e2, b, x.l, rfl, k2.bh.t (k2.b.t sb), q p [(x.l, b, w2)] B2 _ np ⟨g.b, fun a u z => ?_, fun a u z => ?_, g.f⟩ n2 upd_same (.cons ⟨rfl, k2.b.t sb, r2⟩ .nil)⟩
  · rw [upd_ne (fun h => by rw [h, n2] at z; cases z)]
    exact g.bh a u z
  · rw [upd_ne (fun h => by rw [h, np] at z; cases z)]
    exact g.h a u z
theorem AsM.toE {st : Stmt} {i : Nat} {m : Option (Dct β)} (h : AsM c env st i m) : AsE c env st i m := by
  obtain ⟨te, h1, h2⟩ := h
  exact ⟨te, h1, fun x hx => (h2 x hx).de⟩
end
end Dn

set_option Elab.async false
set_option linter.all false
namespace Dn
open PySem PySem.Spec L2
open Rep (rep)
open ORep (orep)
end Dn

set_option Elab.async false
set_option linter.all false
set_option maxRecDepth 100000
namespace Dn
open PySem PySem.Spec PyProof.Rows L2
open Rep (rep)
open ORep (orep)
section
variable {c : Ct} {env : List Slot} {a e : Expr}
end
end Dn

set_option Elab.async false
set_option linter.all false
set_option maxRecDepth 100000
namespace Dn
open PySem PySem.Spec PyProof.Rows L2
open Rep (rep)
open ORep (orep)
end Dn

set_option Elab.async false
set_option linter.all false
set_option maxRecDepth 100000
namespace Dn
open PySem PySem.Spec L2
open Rep (rep)
open ORep (orep)
section
variable {c : Ct} {env : List Slot} {b : Expr} {α : Type} [Rep α]
end
end Dn

set_option Elab.async false
set_option linter.all false
set_option maxRecDepth 100000
namespace Dn
open PySem PySem.Spec L2
abbrev Po := Tup (Tup Int × Int)
theorem lay_all {α : Type} [Dat α] (h : ∀ x : α, lay x = true) : ∀ xs : List α, PyData.canLayAll0 (xs.map Dat.toD) = true
  | [] => by rw [List.map_nil, PyData.canLayAll0]
  | x :: xs => by
    rw [List.map_cons, PyData.canLayAll0, lay_all h xs, Bool.and_true]
    exact h x
theorem lay_int (x : Int) : lay x = true := by
  unfold lay
  show (PyData.int x).canLay0 = true
  rw [PyData.canLay0]
theorem lay_tup {α : Type} [Dat α] (h : ∀ x : α, lay x = true) (xs : Tup α) : lay xs = true := by
  unfold lay
  show (PyData.tuple (xs.l.map Dat.toD)).canLay0 = true
  rw [PyData.canLay0]
  exact lay_all h xs.l
theorem lay_list {α : Type} [Dat α] (h : ∀ x : α, lay x = true) (xs : List α) : lay xs = true := by
  unfold lay
  show (PyData.list (xs.map Dat.toD)).canLay0 = true
  rw [PyData.canLay0]
  exact lay_all h xs
theorem lay_pair {α β : Type} [Dat α] [Dat β] (h : ∀ x : α, lay x = true) (g : ∀ x : β, lay x = true) (x : α × β) : lay x = true := by
  unfold lay
  show (PyData.tuple [Dat.toD x.1, Dat.toD x.2]).canLay0 = true
  have a : (Dat.toD x.1).canLay0 = true := h x.1
  have b : (Dat.toD x.2).canLay0 = true := g x.2
  rw [PyData.canLay0, PyData.canLayAll0, PyData.canLayAll0, PyData.canLayAll0, a, b]
  rfl
theorem lay_row (x : Tup Int × Int) : lay x = true := lay_pair (lay_tup lay_int) lay_int x
theorem lay_po (x : Po) : lay x = true := lay_tup lay_row x
theorem ltT (x y : Tup Int) : W.dataLt (Dat.toD x) (Dat.toD y) = decide (x.l < y.l) := by
  show W.dataLt (.tuple (x.l.map PyData.int)) (.tuple (y.l.map PyData.int)) = _
  rw [W.dataLt_tuple]
  exact W.dataLt_ints x.l y.l
theorem leT_f (x y : Tup Int) : W.dataLe false Dat.toD x y = !decide (y.l < x.l) := by
  have := ltT y x
  show (!(W.dataLt (Dat.toD y) (Dat.toD x))) = _
  rw [this]
theorem leT_t (x y : Tup Int) : W.dataLe true Dat.toD x y = !decide (x.l < y.l) := by
  have := ltT x y
  show (!(W.dataLt (Dat.toD x) (Dat.toD y))) = _
  rw [this]
theorem tri {x y : List Int} (h : ¬ x < y) (g : ¬ y < x) : x = y := List.le_antisymm (List.not_lt.mp g) (List.not_lt.mp h)
theorem nlt_trans {x y z : List Int} (h : ¬ x < y) (g : ¬ y < z) : ¬ x < z := fun q => by
  have a : y ≤ x := List.not_lt.mp h
  have b : z ≤ y := List.not_lt.mp g
  exact List.not_lt.mpr (List.le_trans b a) q
theorem nlt_total (x y : List Int) : ¬ x < y ∨ ¬ y < x := by
  rcases List.le_total x y with h | h
  · exact .inr (List.not_lt.mpr h)
  · exact .inl (List.not_lt.mpr h)
theorem sortD_pw (xs : List (Tup Int)) : (sortD xs).Pairwise fun a b => ¬ b.l < a.l := by
  have := List.pairwise_mergeSort (le := W.dataLe false (Dat.toD (α := Tup Int))) (fun a b c h g => by
    rw [leT_f, Bool.not_eq_true', decide_eq_false_iff_not] at *
    exact nlt_trans g h) (fun a b => by
    rw [leT_f, leT_f, Bool.or_eq_true, Bool.not_eq_true', Bool.not_eq_true', decide_eq_false_iff_not, decide_eq_false_iff_not]
    exact (nlt_total _ _).symm) xs
  refine List.Pairwise.imp (fun h => ?_) this
  rw [leT_f, Bool.not_eq_true', decide_eq_false_iff_not] at h
  exact h
theorem sortDR_pw (xs : List (Tup Int)) : (sortDR xs).Pairwise fun a b => ¬ a.l < b.l := by
  have := List.pairwise_mergeSort (le := W.dataLe true (Dat.toD (α := Tup Int))) (fun a b c h g => by
    rw [leT_t, Bool.not_eq_true', decide_eq_false_iff_not] at *
    exact nlt_trans h g) (fun a b => by
    rw [leT_t, leT_t, Bool.or_eq_true, Bool.not_eq_true', Bool.not_eq_true', decide_eq_false_iff_not, decide_eq_false_iff_not]
    exact nlt_total _ _) xs
  refine List.Pairwise.imp (fun h => ?_) this
  rw [leT_t, Bool.not_eq_true', decide_eq_false_iff_not] at h
  exact h
theorem sortDR_perm {α : Type} [Dat α] (xs : List α) : (sortDR xs).Perm xs := List.mergeSort_perm xs _
theorem tup_ext {x y : Tup Int} (h : x.l = y.l) : x = y := by
  obtain ⟨x⟩ := x
  obtain ⟨y⟩ := y
  exact congrArg Tup.mk h
theorem sortDR_of {xs ys : List (Tup Int)} (h : ys.Pairwise fun a b => ¬ a.l < b.l) (p : ys.Perm xs) : sortDR xs = ys :=
  List.Perm.eq_of_pairwise (le := fun a b : Tup Int => ¬ a.l < b.l) (fun a b _ _ h g => tup_ext (tri h g)) (sortDR_pw xs) h ((sortDR_perm xs).trans p.symm)
theorem sortD_rev (xs : List (Tup Int)) : sortDR xs = (sortD xs).reverse :=
  sortDR_of (List.pairwise_reverse.mpr (sortD_pw xs)) ((List.reverse_perm _).trans (sortD_perm xs))
theorem sortDR_lt {xs : List (Tup Int)} (n : xs.Nodup) : (sortDR xs).Pairwise fun a b => b.l < a.l := by
  have nd : (sortDR xs).Nodup := (sortDR_perm xs).nodup_iff.mpr n
  refine List.Pairwise.imp (R := fun a b : Tup Int => ¬ a.l < b.l ∧ a ≠ b) (fun h => ?_) ((List.pairwise_and_iff (R := fun a b : Tup Int => ¬ a.l < b.l) (S := fun a b => a ≠ b)).mpr ⟨sortDR_pw xs, nd⟩)
  exact Decidable.byContradiction fun q => h.2 (tup_ext (tri h.1 q))
theorem nodup_of_lt {xs : List (Tup Int)} (h : xs.Pairwise fun a b => b.l < a.l) : xs.Nodup :=
  List.Pairwise.imp (fun {a b} (q : b.l < a.l) e => by rw [e] at q; exact List.lt_irrefl _ q) h
section
variable {α : Type}
def Dct.keys (d : Dct α) : List (Tup Int) := d.l.map (·.1)
theorem Dct.get_none {d : Dct α} {k : Tup Int} (h : k ∉ d.keys) : d.get k = none := by
  unfold Dct.get
  rw [List.find?_eq_none.mpr fun q hq e => h (List.mem_map.mpr ⟨q, hq, of_decide_eq_true e⟩)]
  rfl
theorem Dct.put_new {d : Dct α} {k : Tup Int} {v : α} (h : k ∉ d.keys) : d.put k v = ⟨d.l ++ [(k, v)]⟩ := by
  unfold Dct.put
  rw [Dct.get_none h]
  rfl
theorem Dct.put_keys_old {d : Dct α} {k : Tup Int} {v : α} (h : (d.get k).isSome = true) : (d.put k v).keys = d.keys := by
  unfold Dct.put Dct.keys
  rw [if_pos h, List.map_map]
  refine List.map_congr_left fun q _ => ?_
  show (if q.1 = k then (q.1, v) else q).1 = q.1
  split <;> rfl
theorem Dct.put_nodup {d : Dct α} {k : Tup Int} {v : α} (h : d.keys.Nodup) : (d.put k v).keys.Nodup := by
  by_cases q : k ∈ d.keys
  · obtain ⟨y, e⟩ := Dct.get_mem q
    rw [Dct.put_keys_old (by rw [e]; rfl)]
    exact h
  · rw [Dct.put_new q]
    unfold Dct.keys
    rw [List.map_append]
    refine List.nodup_append.mpr ⟨h, by simp, fun a ha b hb e => q ?_⟩
    have hb2 : b = k := List.mem_singleton.mp hb
    rw [← hb2, ← e]
    exact ha
theorem Dct.get_of {k : Tup Int} {v : α} : ∀ {l : List (Tup Int × α)}, (l.map (·.1)).Nodup → (k, v) ∈ l → (⟨l⟩ : Dct α).get k = some v
  | [], _, h => nomatch h
  | q :: l, n, h => by
    rw [List.map_cons, List.nodup_cons] at n
    unfold Dct.get
    rw [List.find?_cons]
    cases h with
    | head => rw [decide_eq_true rfl]; rfl
    | tail _ h =>
      have : ¬ q.1 = k := fun e => n.1 (List.mem_map.mpr ⟨(k, v), h, e.symm⟩)
      rw [decide_eq_false this]
      exact Dct.get_of n.2 h
def Dct.val (d : Dct Int) (k : Tup Int) : Int := (d.get k).getD 0
theorem Dct.get_val {d : Dct Int} {k : Tup Int} (h : k ∈ d.keys) : d.get k = some (d.val k) := by
  obtain ⟨v, e⟩ := Dct.get_mem h
  unfold Dct.val
  rw [e]
  rfl
theorem find_map {k j : Tup Int} {v : α} : ∀ l : List (Tup Int × α), ((l.map fun p => if p.1 = k then (p.1, v) else p).find? fun p => decide (p.1 = j)) = (l.find? fun p => decide (p.1 = j)).map fun p => if p.1 = k then (p.1, v) else p
  | [] => rfl
  | q :: l => by
    rw [List.map_cons, List.find?_cons, List.find?_cons]
    have e : (if q.1 = k then (q.1, v) else q).1 = q.1 := by split <;> rfl
    rw [e]
    cases decide (q.1 = j)
    · exact find_map l
    · rfl
theorem Dct.get_put (d : Dct α) (k j : Tup Int) (v : α) : (d.put k v).get j = if j = k then some v else d.get j := by
  by_cases q : (d.get k).isSome = true
  · unfold Dct.put
    rw [if_pos q]
    by_cases z : j = k
    · rw [if_pos z]
      subst z
      unfold Dct.get at q ⊢
      show ((List.map _ d.l).find? _).map _ = _
      rw [find_map]
      cases e : d.l.find? (fun p => decide (p.1 = j)) with
      | none => rw [e] at q; cases q
      | some p =>
        have : p.1 = j := of_decide_eq_true (List.find?_some (p := fun p : Tup Int × α => decide (p.1 = j)) e)
        show some (if p.1 = j then (p.1, v) else p).2 = _
        rw [if_pos this]
    · rw [if_neg z]
      unfold Dct.get
      show ((List.map _ d.l).find? _).map _ = _
      rw [find_map]
      cases e : d.l.find? (fun p => decide (p.1 = j)) with
      | none => rfl
      | some p =>
        have : p.1 = j := of_decide_eq_true (List.find?_some (p := fun p : Tup Int × α => decide (p.1 = j)) e)
        show some (if p.1 = k then (p.1, v) else p).2 = some p.2
        rw [if_neg (by rw [this]; exact z)]
  · unfold Dct.put
    rw [if_neg q]
    unfold Dct.get
    show ((d.l ++ [(k, v)]).find? _).map _ = _
    rw [List.find?_append]
    by_cases z : j = k
    · rw [if_pos z]
      subst z
      have : d.l.find? (fun p => decide (p.1 = j)) = none := by
        unfold Dct.get at q
        cases e : d.l.find? (fun p => decide (p.1 = j)) with
        | none => rfl
        | some p => rw [e] at q; exact absurd rfl q
      rw [this]
      rw [Option.none_or, List.find?_cons, decide_eq_true rfl]
      rfl
    · rw [if_neg z]
      have : List.find? (fun p : Tup Int × α => decide (p.1 = j)) [(k, v)] = none := by
        rw [List.find?_cons, decide_eq_false (fun e => z e.symm)]
        rfl
      rw [this, Option.or_none]
theorem dctO_val {β : Type} {hk : β → Option (Tup Int)} {hv : β → Option α} {a : β → Tup Int} {b : β → α} : ∀ {xs : List β} {l : List (Tup Int × α)}, (∀ x ∈ xs, hk x = some (a x) ∧ hv x = some (b x)) → (l.map (·.1) ++ xs.map a).Nodup → dctO hk hv xs ⟨l⟩ = some ⟨l ++ xs.map fun x => (a x, b x)⟩
  | [], l, _, _ => by
    show some _ = _
    rw [List.map_nil, List.append_nil]
  | x :: xs, l, h, n => by
    have hx := h x (List.mem_cons_self ..)
    show (hk x).bind _ = _
    rw [hx.1, Option.bind_some, hx.2, Option.bind_some, Dct.put_new (d := ⟨l⟩) (fun q => by
      rw [List.map_cons] at n
      exact (List.nodup_append.mp n).2.2 _ q _ (List.mem_cons_self ..) rfl)]
    rw [dctO_val (fun z hz => h z (List.mem_cons_of_mem _ hz)) (by
      show ((l ++ [(a x, b x)]).map (·.1) ++ xs.map a).Nodup
      rw [List.map_append, List.append_assoc]
      exact n)]
    show some (⟨l ++ [(a x, b x)] ++ _⟩ : Dct α) = _
    rw [List.append_assoc]
    rfl
end
def addAll (xs : List (Tup Int × Int)) (d : Dct Int) : Dct Int := xs.foldl (fun d q => d.put q.1 ((d.get q.1).getD 0 + q.2)) d
def sumK (k : Tup Int) (xs : List (Tup Int × Int)) : Int := (xs.map fun q => if q.1 = k then q.2 else 0).sum
theorem addAll_val (k : Tup Int) : ∀ (xs : List (Tup Int × Int)) (d : Dct Int), (addAll xs d).val k = d.val k + sumK k xs
  | [], d => by
    show d.val k = d.val k + 0
    rw [Int.add_zero]
  | x :: xs, d => by
    show (addAll xs (d.put x.1 _)).val k = _
    rw [addAll_val k xs]
    unfold Dct.val sumK
    rw [Dct.get_put, List.map_cons, List.sum_cons]
    by_cases z : k = x.1
    · rw [if_pos z, if_pos z.symm, z]
      show (d.get x.1).getD 0 + x.2 + _ = _
      rw [Int.add_assoc]
    · rw [if_neg z, if_neg (fun e => z e.symm), Int.zero_add]
theorem addAll_keys {P : Tup Int → Prop} : ∀ (xs : List (Tup Int × Int)) (d : Dct Int), (∀ q ∈ xs, P q.1) → (∀ k ∈ d.keys, P k) → ∀ k ∈ (addAll xs d).keys, P k
  | [], d, _, h => h
  | x :: xs, d, hx, h => by
    refine addAll_keys xs _ (fun q hq => hx q (List.mem_cons_of_mem _ hq)) fun k hk => ?_
    obtain ⟨q, hq, rfl⟩ := List.mem_map.mp hk
    rcases Dct.put_mem hq with e | ⟨p, hp, e⟩
    · rw [e]; exact hx x (List.mem_cons_self ..)
    · rw [← e]; exact h _ (List.mem_map.mpr ⟨p, hp, rfl⟩)
theorem addAll_len : ∀ (xs : List (Tup Int × Int)) (d : Dct Int), (addAll xs d).l.length ≤ d.l.length + xs.length
  | [], d => Nat.le_refl _
  | x :: xs, d => by
    have := addAll_len xs (d.put x.1 ((d.get x.1).getD 0 + x.2))
    have := Dct.put_len d x.1 ((d.get x.1).getD 0 + x.2)
    rw [List.length_cons]
    show (addAll xs (d.put x.1 ((d.get x.1).getD 0 + x.2))).l.length ≤ _
    omega
theorem addAll_nodup : ∀ (xs : List (Tup Int × Int)) (d : Dct Int), d.keys.Nodup → (addAll xs d).keys.Nodup
  | [], d, h => h
  | x :: xs, d, h => addAll_nodup xs _ (Dct.put_nodup h)
theorem loop_fold {L R T α : Type} {f : α → T → Fl T T R} (g : T → α → T) (I : Nat → T → Prop) {N : Nat} : ∀ {xs : List α} {n : Nat} {s : T}, (∀ x ∈ xs, ∀ (m : Nat) (s : T), m < N → I m s → f x s = .nx (g s x) ∧ I (m + 1) (g s x)) → n + xs.length ≤ N → I n s → (Fl.loop f xs s : Fl T L R) = .nx (xs.foldl g s)
  | [], n, s, _, _, _ => rfl
  | x :: xs, n, s, h, hN, i => by
    rw [List.length_cons] at hN
    have hx := h x (List.mem_cons_self ..) n s (by omega) i
    unfold Fl.loop
    rw [hx.1]
    show (Fl.loop f xs (g s x) : Fl T L R) = _
    exact loop_fold g I (fun z hz => h z (List.mem_cons_of_mem _ hz)) (by omega) hx.2
theorem compO_filter {α : Type} {h : α → Option (Option α)} (V : α → Bool) : ∀ {xs : List α}, (∀ x ∈ xs, h x = if V x = true then some (some x) else some none) → compO h xs = some (xs.filter V)
  | [], _ => rfl
  | x :: xs, hh => by
    show (h x).bind _ = _
    rw [hh x (List.mem_cons_self ..), compO_filter V fun z hz => hh z (List.mem_cons_of_mem _ hz), List.filter_cons]
    cases V x <;> rfl
theorem mapO_val {α β : Type} {h : α → Option β} {g : α → β} : ∀ {xs : List α}, (∀ x ∈ xs, h x = some (g x)) → mapO h xs = some (xs.map g)
  | [], _ => rfl
  | x :: xs, hh => by
    show (h x).bind _ = _
    rw [hh x (List.mem_cons_self ..), mapO_val fun z hz => hh z (List.mem_cons_of_mem _ hz)]
    rfl
def rowsOf (p : Int) (d : Dct Int) : List (Tup Int × Int) := ((sortDR d.keys).map fun k => (k, d.val k % p)).filter fun q => !decide (q.2 = 0)
def Pol (m : Nat) (p : Int) (t : Po) : Prop := t.l.length ≤ m ∧ (∀ q ∈ t.l, 1 ≤ q.1.l.length ∧ 0 ≤ q.2 ∧ q.2 < p) ∧ (t.l.map (·.1)).Pairwise fun a b => b.l < a.l
theorem pol_rows {p : Int} (hp : 0 < p) {m : Nat} {d : Dct Int} (hl : d.l.length ≤ m) (hk : ∀ k ∈ d.keys, 1 ≤ k.l.length) (hn : d.keys.Nodup) : Pol m p ⟨rowsOf p d⟩ := by
  refine ⟨?_, fun q hq => ?_, ?_⟩
  · have a := List.length_filter_le (fun q : Tup Int × Int => !decide (q.2 = 0)) ((sortDR d.keys).map fun k => (k, d.val k % p))
    have b := (sortDR_perm d.keys).length_eq
    rw [List.length_map, b] at a
    unfold Dct.keys at a
    rw [List.length_map] at a
    exact Nat.le_trans a hl
  · have := (List.mem_filter.mp hq).1
    obtain ⟨k, hk2, rfl⟩ := List.mem_map.mp this
    exact ⟨hk k ((sortDR_perm d.keys).mem_iff.mp hk2), Int.emod_nonneg _ (by omega), Int.emod_lt_of_pos _ hp⟩
  · have s : ((rowsOf p d).map (·.1)).Sublist (((sortDR d.keys).map fun k => (k, d.val k % p)).map (·.1)) := List.Sublist.map _ List.filter_sublist
    rw [List.map_map] at s
    have e : (sortDR d.keys).map ((·.1) ∘ fun k => (k, d.val k % p)) = sortDR d.keys := List.map_id _
    rw [e] at s
    exact List.Pairwise.sublist s (sortDR_lt hn)
theorem Pol.nd {m : Nat} {p : Int} {t : Po} (h : Pol m p t) : (t.l.map (·.1)).Nodup := nodup_of_lt h.2.2
end Dn

set_option Elab.async false
set_option linter.all false
set_option maxRecDepth 100000
namespace Dn
open PySem PySem.Spec L2
theorem neI_tup (x y : Tup Int) : neI x y = some !decide (x = y) := by
  unfold neI
  rw [lay_tup lay_int, lay_tup lay_int]
  rfl
theorem foldl_sum {α : Type} (f : α → Int) : ∀ (l : List α) (z : Int), l.foldl (fun t q => t + f q) z = z + (l.map f).sum
  | [], z => by simp
  | x :: xs, z => by
    show xs.foldl (fun t q => t + f q) (z + f x) = _
    rw [foldl_sum f xs, List.map_cons, List.sum_cons, Int.add_assoc]
def allT (p : Nat) : Nat → List (List Int)
  | 0 => [[]]
  | n + 1 => (allT p n).flatMap fun t => (List.range p).map fun (j : Nat) => t ++ [(j : Int)]
theorem allT_mem (p : Nat) : ∀ (n : Nat) (t : List Int), t.length = n → (∀ x ∈ t, 0 ≤ x ∧ x < p) → t ∈ allT p n
  | 0, t, h, _ => by
    rw [List.length_eq_zero_iff.mp h]
    exact List.mem_singleton.mpr rfl
  | n + 1, t, h, hx => by
    have hne : t ≠ [] := fun e => by rw [e] at h; cases h
    rw [← List.dropLast_concat_getLast hne]
    refine List.mem_flatMap.mpr ⟨t.dropLast, allT_mem p n _ (by rw [List.length_dropLast]; omega) (fun x hx2 => hx x (List.dropLast_subset t hx2)), List.mem_map.mpr ⟨(t.getLast hne).toNat, ?_, ?_⟩⟩
    · have := hx _ (List.getLast_mem hne)
      exact List.mem_range.mpr (by omega)
    · have := hx _ (List.getLast_mem hne)
      rw [Int.toNat_of_nonneg this.1]
end Dn

set_option Elab.async false
set_option linter.all false
set_option maxRecDepth 100000
namespace Dn
open PySem PySem.Spec L2
open Rep (rep)
open ORep (orep)
section
variable {c : Ct} {env : List Slot} {e a : Expr} {α β : Type} [Rep α] [Rep β]
class NN (α : Type) [Rep α] : Prop where
  nn : ∀ (K : PySem.W.Frag) (B : Hp) (v : V) (x : α), rep K B v x → v ≠ V.non
instance : NN Int := ⟨fun K B v x h e => by cases h; cases e⟩
instance {α : Type} [Rep α] : NN (Tup α) := ⟨fun K B v x h e => by
  obtain ⟨a, vs, rfl, _⟩ := h
  cases e⟩
instance {α : Type} [Rep α] : NN (List α) := ⟨fun K B v x h e => by
  obtain ⟨a, vs, rfl, _⟩ := h
  cases e⟩
theorem non_iff {K : PySem.W.Frag} {B : Hp} {v : V} [NN α] {x : Option α} (h : rep K B v x) : decide (v = V.non) = x.isNone := by
  cases x with
  | none => exact decide_eq_true h
  | some y => exact decide_eq_false (NN.nn K B v y h)
theorem cmp_isN [NN α] : Cmp c .Is (fun (x : Option α) (_ : Unit) => some x.isNone) := ⟨_, fun _ _ => op_isN, fun x y z hz B H v u hB r1 r2 Q q => by
  cases hz
  have e := non_iff r1
  refine ⟨r2, ?_⟩
  rw [e]
  exact q _ B H (Grow.refl hB) rfl⟩
def enumL : Nat → List α → List (Int × α)
  | _, [] => []
  | n, x :: xs => ((n : Int), x) :: enumL (n + 1) xs
theorem enumL_len : ∀ (xs : List α) (n : Nat), (enumL n xs).length = xs.length
  | [], _ => rfl
  | x :: xs, n => by
    show (enumL (n + 1) xs).length + 1 = _
    rw [enumL_len xs]
    rfl
theorem enumL_get : ∀ (xs : List α) (n i : Nat) (x : α), xs[i]? = some x → (enumL n xs)[i]? = some (((n + i : Nat) : Int), x)
  | [], n, i, x, h => by simp at h
  | y :: ys, n, 0, x, h => by
    simp at h
    subst h
    rfl
  | y :: ys, n, i + 1, x, h => by
    have : (enumL (n + 1) ys)[i]? = some (((n + 1 + i : Nat) : Int), x) := enumL_get ys (n + 1) i x (by simpa using h)
    show (enumL (n + 1) ys)[i]? = _
    rw [this]
    have : n + 1 + i = n + (i + 1) := by omega
    rw [this]
theorem dwalk_enum {K : PySem.W.Frag} {B : Hp} {J : It} {G : Hp → Prop} {vs : List V} {xs : List α} (W : Walk J vs.length G (YPair (fun i => some (V.int i)) fun i => vs[i]?)) (hG : ∀ H, Le B H → G H) (r1 : Reps K B vs xs) : DWalk K B J (enumL 0 xs) := by
  refine ⟨G, _, by rw [enumL_len, ← r1.len]; exact W, hG, fun i B1 H v H' hi l1 l2 y => ?_⟩
  obtain ⟨T, x, y', rfl, hT, rfl, g1, g2⟩ := y
  cases g1
  obtain ⟨q, eq, rq⟩ := r1.get g2
  refine ⟨upd B1 T (.tup [.int i, y']), ((i : Int), q), Grow.new l2 hT, ?_, T, .int i, y', rfl, SqT.of upd_same, rfl, Rep.mono (l1.trans (Le.put (l2.none hT))) rq⟩
  have := enumL_get xs 0 i q eq
  rw [this, Nat.zero_add]
theorem di_enumL {elts : List Expr} {k : Nat} {tpos p pos : Pos} {m : Option (List α)} (hm : c.mg "enumerate" = none) (h : De c env a m) (hg : Gv c "enumerate" := by rfl)
    (hpe : ∀ (X : Cx) (t : TE), PE X a t → Gl X "enumerate" → X.mg "enumerate" = none → PI X (.Tuple elts k tpos) (.Call (.Name "enumerate" p) [a] [] pos) (iEnum X.K (tCons t tNil)) := by
      intro X t h1 h3 h4; exact pi_enum h3 h4 (pa_cons h1 pa_nil)) :
    DeItT c env (.Tuple elts k tpos) (.Call (.Name "enumerate" p) [a] [] pos) (m.bind fun x => some (enumL 0 x)) := by
  obtain ⟨t, h1, h2⟩ := h
  refine ⟨iEnum c.K (tCons t tNil), fun X F => by rw [← F.K]; exact hpe X t (h1 X F) (fits_gl F hg) (by rw [F.mg]; exact hm), fun xs hx B H σ E R q => ?_⟩
  obtain ⟨x, ex, hx⟩ := bind_some hx
  cases hx
  refine h2 x ex B H σ E _ fun v B1 H1 k1 r => ?_
  obtain ⟨p1, vs, rfl, s1, r⟩ := r
  exact ⟨p1, vs, rfl, k1.bh.l s1, q _ B1 H1 k1 (dwalk_enum walk_enum (fun H l => l.l s1) r)⟩
end
section
variable {S L β α : Type} [ORep β] [Rep α] {c : Ct} {env : List Slot} {st : Stmt} {rest : List Stmt} {mk : S → List Slot} {lk : L → List Slot}
theorem dsn_set {i : Nat} {m : Option α} {k : α → Fl S L β} (h : AsE c env st i m) (g : ∀ x, DeSN c (env.set i (.val x)) rest mk lk (k x)) : DeSN c env (st :: rest) mk lk (Fl.bindO m k) := .mk fun B0 H0 B H σ O D P => by
  obtain ⟨x, ex, P⟩ := postN_bindO P
  obtain ⟨t, h1, h2⟩ := h
  refine cS_cons h1 ?_
  exact h2 x ex B H σ O.en _ fun v B1 H1 k1 r => g x B0 H0 B1 H1 _ ((O.grow k1).setV i r) D (P.mono k1.b)
end
section
variable {c : Ct} {env : List Slot} {e : Expr} {es : List Expr} {α β γ R : Type} [Rep α] [Rep β] [Rep γ] [ORep R]
structure DfN (c : Ct) (x : Str) {P R : Type} [Pk P] [ORep R] (f : P → Option R) : Prop where
  ok : ∃ (j : Nat) (fa : Addr) (fd : FuncData) (ps : List Str), FnOk c.P c.w c.K c.mg c.base CX0 j fa fd ps (spN c.K f) ∧ j ≤ c.k ∧ c.mg x = some (.ref fa) ∧ PySem.W.keepIn c.K (.ref fa) = true ∧ Binds c.K fd ps []
structure GdN (P : Program) (w : World) (K : PySem.W.Frag) (mg : Str → Option Value) (base : Heap) (j : Nat) (x : Str) {Q R : Type} [Pk Q] [ORep R] (f : Q → Option R) : Prop where
  ok : ∃ (fa : Addr) (fd : FuncData) (ps : List Str), FnOk P w K mg base CX0 j fa fd ps (spN K f) ∧ mg x = some (.ref fa) ∧ PySem.W.keepIn K (.ref fa) = true ∧ Binds K fd ps []
theorem GdN.df {P : Program} {w : World} {K : PySem.W.Frag} {mg : Str → Option Value} {base : Heap} {j : Nat} {x : Str} {Q R : Type} [Pk Q] [ORep R] {f : Q → Option R} (G : GdN P w K mg base j x f) {c : Ct} (hP : c.P = P := by rfl) (hw : c.w = w := by rfl) (hK : c.K = K := by rfl) (hmg : c.mg = mg := by rfl) (hb : c.base = base := by rfl) (hj : j ≤ c.k := by exact Nat.le_of_ble_eq_true rfl) : DfN c x f := by
  obtain ⟨P', w', K', mg', base', k, N, sc, fn, df⟩ := c
  cases hP; cases hw; cases hK; cases hmg; cases hb
  obtain ⟨fa, fd, ps, h1, h2, h3, h4⟩ := G.ok
  exact ⟨j, fa, fd, ps, h1, hj, h2, h3, h4⟩
theorem Tf.gdN {P : Program} {w : World} {K : PySem.W.Frag} {mg : Str → Option Value} {base : Heap} {x : Str} {st : Stmt} {Pp S L R : Type} [Pk Pp] [ORep R] {N ps : List Str} {k : Nat} {mk : S → List Slot} {lk : L → List Slot} {m : Pp → Fl S L R} (T : Tf K mg x st ps) (Sc : FnScope N ps (defScope st)) (np : ps.length ≤ N.length)
    (hn : ∀ p : Pp, (Pk.sl p).length = ps.length)
    (hb : ∀ p : Pp, DeSN (ctOf P w K mg base k N (defScope st)) (Pk.sl p ++ List.replicate (N.length - (Pk.sl p).length) .any) (defBody st) mk lk (m p)) : GdN P w K mg base (k + 1) x (fun p => (m p).fin none) := by
  obtain ⟨fa, fd, hm, F, hb'⟩ := T.ok
  exact ⟨fa, fd, ps, fn_okN F Sc np hn hb, hm, F.kp, hb'⟩
theorem dn_call {P : Type} [Pk P] {f : P → Option R} {x : Str} {p pos : Pos} {m : Option P} (D : DfN c x f) (h : DeP c env (e :: es) m) (hg : Gv c x := by rfl) (hdb : (x == ("__debug__" : Str)) = false := by decide)
    (he : ∀ env, starEach (e :: es) env = (false, eval e env) :: starEach es env := by intro _; rfl) (hpl : ∀ env, (backTo pos (starEach es env)).any (·.1) = false := by intro _; rfl) : DeN c env (.Call (.Name x p) (e :: es) [] pos) (m.bind f) := by
  obtain ⟨j, fa, fd, ps, F, hj, hm, hk, hb⟩ := D.ok
  obtain ⟨t, h1, h2⟩ := h
  refine ⟨tCall (spN c.K f) [] E0 t, fun X Fx => ?_, fun z hz B H σ E Q q => ?_⟩
  · refine pe_call (CX := CX0) (k := j) (f := fa) (fd := fd) (ps := ps) (ds := []) ?_ (Fx.room.mono hj) (fits_gl Fx hg) (by rw [Fx.mg]; exact hm) (by rw [Fx.K]; exact hk) (by rw [Fx.K]; exact hb) .nil pass0 (h1 X Fx) hdb (he _) (hpl _)
    rw [Fx.P, Fx.w, Fx.K, Fx.mg, Fx.base]
    exact F
  · obtain ⟨y, ey, hz⟩ := bind_some hz
    refine h2 y ey B H σ E _ fun vs B1 H1 k1 ha => ?_
    rw [List.append_nil]
    exact ⟨y, z, B1, hz, k1.bh, ha, fun p' o' B2 H2 np k2 nb hp r2 => q p' o' B2 H2 (k1.none np) (k1.trans k2) nb hp r2⟩
theorem dn_call3 {f : α × β × γ × Unit → Option R} {x : Str} {p pos : Pos} {e1 e2 e3 : Expr} {m1 : Option α} {m2 : Option β} {m3 : Option γ} (D : DfN c x f) (h1 : De c env e1 m1) (h2 : De c env e2 m2) (h3 : De c env e3 m3) (hg : Gv c x := by rfl) (hdb : (x == ("__debug__" : Str)) = false := by decide)
    (he : ∀ env, starEach [e1, e2, e3] env = (false, eval e1 env) :: starEach [e2, e3] env := by intro _; rfl) (he2 : ∀ env, starEach [e2, e3] env = (false, eval e2 env) :: starEach [e3] env := by intro _; rfl) (he3 : ∀ env, starEach [e3] env = (false, eval e3 env) :: starEach [] env := by intro _; rfl) :
    DeN c env (.Call (.Name x p) [e1, e2, e3] [] pos) (m1.bind fun a1 => m2.bind fun a2 => m3.bind fun a3 => f (a1, a2, a3, ())) :=
  Eq.subst bind3 (motive := fun m => DeN c env (.Call (.Name x p) [e1, e2, e3] [] pos) m) (dn_call D (dp_cons h1 (dp_cons h2 (dp_cons h3 dp_nil he3) he2) he) hg hdb he (fun _ => by rw [he2, he3]; rfl))
end
end Dn

set_option Elab.async false
set_option linter.all false
set_option maxRecDepth 100000
namespace Dn
section
open PySem PySem.Spec PyProof.Rows L2
def pickG {α : Type} (xs : List α) (lo hi st : Option Int) : List α := (sliceRange (sliceBounds lo hi st xs.length).1 (sliceBounds lo hi st xs.length).2.1 (sliceBounds lo hi st xs.length).2.2).filterMap fun i => xs[i]?
def tStepL (K : PySem.W.Frag) (te : TE) (tl ts : TO) : TE := fun σ H Q => te σ H fun x H1 => tl σ H1 fun lo H2 => ts σ H2 fun st H3 => ∃ a xs, x = .ref a ∧ SqL K H3 a xs ∧ st ≠ some 0 ∧ (pickG xs lo none st).length ≤ sizeLine ∧ ∀ p, H3 p = none → Q (.ref p) (upd H3 p (.lst (pickG xs lo none st)))
theorem vals_pick {xs : List V} {its : List Value} (r : Vals xs its) (is : List Nat) : Vals (is.filterMap fun i => xs[i]?) (is.filterMap fun i => its[i]?) := by
  induction is with
  | nil => exact .nil
  | cons i is ih =>
    rw [List.filterMap_cons, List.filterMap_cons]
    cases e : xs[i]? with
    | none =>
      have : its[i]? = none := by
        rw [List.getElem?_eq_none_iff] at e ⊢
        rw [← r.length]
        exact e
      rw [this]
      exact ih
    | some x =>
      obtain ⟨u, eu, ru⟩ := r.get e
      rw [eu]
      exact .cons ru ih
theorem pe_stepL {X : Cx} {e : Expr} {te : TE} {lo st : Option Expr} {tl ts : TO} {p2 pos : Pos} (he : PE X e te) (hl : PO X lo tl) (hst : PO X st ts) (hop : ∀ (a s : Value), subscripted (.Slice lo none st p2) false a s = operate [a, s] (getItem a s) := by intro _ _; rfl) :
    PE X (.Subscript e (.Slice lo none st p2) pos) (tStepL X.K te tl ts) := by
  refine ⟨fun pins s σ H Q I h => ?_⟩
  refine Subscript_ (thn (he.run pins s σ H _ I h) fun v s1 ⟨x, H1, I1, r1, q1⟩ => ?_)
  refine wpAny_Slice (thn (hl.run pins s1 σ H1 _ I1 q1) fun vl s2 ⟨l, H2, I2, pl, q2⟩ => ?_)
  refine thn (po_none.run pins s2 σ H2 (fun o H3 => o = none ∧ H3 = H2) I2 ⟨rfl, rfl⟩) fun vu s3 ⟨u, H3, I3, pu, eu, e3⟩ => ?_
  subst eu e3
  refine thn (hst.run pins s3 σ H3 _ I3 q2) fun vs s4 ⟨o, H4, I4, ps, a, xs, ex, hx, hne, hsz, q⟩ => ?_
  subst ex
  cases r1
  have I5 : Inv X pins σ H4 { s4 with heap := s4.heap.push { cls := .type "slice", data := .fields #[vl, vu, vs] } } := I4.kept (t' := s4.toks) fun b ob q => Heap.get?_push_of_some _ q
  obtain ⟨its, r, ht, hz⟩ := I5.list hx
  have hlen := r.length
  show wpAny (model X.prog X.w) X.A (subscriptTail e (.Slice lo none st p2) (.ref a) (.ref s4.heap.objs.size)) (EP X pins σ Q) X.xe { s4 with heap := s4.heap.push { cls := .type "slice", data := .fields #[vl, vu, vs] } }
  refine tail_any (ops := [.ref a, .ref s4.heap.objs.size]) ht.isList.typeIs (PySem.slot_list_getitem.lookup) ?_ (hop _ _)
  refine wpAny_getItem_list_slice ht.isList (Heap.IsSliceOf.new _ _ _ _) pl pu ps hne ?_ (by rw [List.size_toArray, ← hlen]; exact hz)
  have es : slicePick its.toArray l none o = (pickG its l none o).toArray := by
    unfold slicePick pickG
    have : (fun i : Nat => its.toArray[i]?) = fun i => its[i]? := funext fun i => List.getElem?_toArray ..
    rw [List.size_toArray, this]
  have rv : Vals (pickG xs l none o) (pickG its l none o) := by
    unfold pickG
    rw [hlen]
    exact vals_pick r _
  rw [es]
  refine ⟨.ref _, _, I5.laid (t' := s4.toks) (o := .lst (pickG xs l none o)) (fun b ob q => Heap.get?_push_of_some _ q) (Nat.le_refl _) ?_, rfl, q _ (I5.hok.fresh (Nat.le_refl _))⟩
  exact ⟨hsz, _, 0, rv, Heap.get?_push_size _ rfl⟩
end
open PySem PySem.Spec L2
open Rep (rep)
open ORep (orep)
section
variable {c : Ct} {env : List Slot} {a e l s : Expr} {α : Type} [Rep α]
theorem reps_pick {K : PySem.W.Frag} {B : Hp} {vs : List V} {xs : List α} (r : Reps K B vs xs) (is : List Nat) : Reps K B (is.filterMap fun i => vs[i]?) (is.filterMap fun i => xs[i]?) := by
  induction is with
  | nil => exact .nil
  | cons i is ih =>
    rw [List.filterMap_cons, List.filterMap_cons]
    cases e : vs[i]? with
    | none =>
      have : xs[i]? = none := by
        rw [List.getElem?_eq_none_iff] at e ⊢
        rw [← r.len]
        exact e
      rw [this]
      exact ih
    | some v =>
      obtain ⟨x, ex, rx⟩ := r.get e
      rw [ex]
      exact .cons rx ih
theorem Reps.pick {K : PySem.W.Frag} {B : Hp} {vs : List V} {xs : List α} (r : Reps K B vs xs) (lo hi st : Option Int) : Reps K B (pickG vs lo hi st) (pickG xs lo hi st) := by
  unfold pickG
  rw [r.len]
  exact reps_pick r _
theorem dn_stepL {p2 pos : Pos} {m : Option (List α)} {ml ms : Option Int} (h : De c env e m) (hl : De c env l ml) (hst : De c env s ms) (hop : ∀ (a z : Value), subscripted (.Slice (some l) none (some s) p2) false a z = operate [a, z] (getItem a z) := by intro _ _; rfl) :
    DeN c env (.Subscript e (.Slice (some l) none (some s) p2) pos) (m.bind fun xs => ml.bind fun i => ms.bind fun k => if 0 < k ∧ (pickG xs (some i) none (some k)).length ≤ 100000 then some (pickG xs (some i) none (some k)) else none) := by
  obtain ⟨t, h1, h2⟩ := h
  obtain ⟨tl, l1, l2⟩ := hl
  obtain ⟨tst, s1, s2⟩ := hst
  refine ⟨tStepL c.K t (tPart tl) (tPart tst), fun X F => by rw [← F.K]; exact pe_stepL (h1 X F) (po_some (l1 X F)) (po_some (s1 X F)) hop, fun z hz B H σ E Q q => ?_⟩
  obtain ⟨xs, ex, hz⟩ := bind_some hz
  obtain ⟨i, ei, hz⟩ := bind_some hz
  obtain ⟨k, ek, hz⟩ := bind_some hz
  split at hz
  · rename_i hk
    cases hz
    refine h2 xs ex B H σ E _ fun v B1 H1 k1 r => ?_
    refine l2 i ei B1 H1 σ (E.grow k1) _ fun v2 B2 H2 k2 r2 => ?_
    cases r2
    refine ⟨i, rfl, ?_⟩
    refine s2 k ek B2 H2 σ (E.grow (k1.trans k2)) _ fun v3 B3 H3 k3 r3 => ?_
    cases r3
    refine ⟨k, rfl, ?_⟩
    obtain ⟨p1, vs, rfl, sl, r⟩ := r
    have r := r.mono (k2.b.trans k3.b)
    have kk := (k1.trans k2).trans k3
    have rp := Reps.pick r (some i) none (some k)
    refine ⟨p1, vs, rfl, kk.bh.l ((k2.b.trans k3.b).l sl), fun e => by have := Option.some.inj e; omega, by rw [rp.len]; exact Nat.le_trans hk.2 (by decide), fun p hn => q p _ B3 _ (kk.none hn) (kk.trans (Grow.free kk.bh hn)) (kk.bh.none hn) upd_same ⟨_, rfl, rp⟩⟩
  · cases hz
end
section
variable {S T L R α : Type}
theorem loop_takeN {f : α → T → Fl T T R} {xs : List α} {i : Nat} {x : α} {s : T} (e : xs[i]? = some x) : (Fl.loop f (xs.drop i) s : Fl T L R) = match f x s with
    | .err => .err
    | .nx s' => Fl.loop f (xs.drop (i + 1)) s'
    | .ct s' => Fl.loop f (xs.drop (i + 1)) s'
    | .bk s' => .nx s'
    | .rt r => .rt r := by
  have hl := (List.getElem?_eq_some_iff.mp e).1
  have hx := (List.getElem?_eq_some_iff.mp e).2
  rw [List.drop_eq_getElem_cons hl, hx]
  rfl
end
section
variable {S T L R : Type} [ORep R]
variable {c : Ct} {env env' : List Slot} {st : Stmt} {rest b b' : List Stmt} {e a d : Expr} {mk : S → List Slot} {lk : L → List Slot} {α β γ : Type} [Rep α] [Rep β] [Rep γ]
theorem dsn_forT {f' : α → List Slot → List Slot} {is : List Nat} {tg iter : Expr} {pos : Pos} {m : Option (List α)} {sk : T → List Slot} {s0 : T} {f : α → T → Fl T T R} {k : T → Fl S L R} (hi : DeItT c env tg iter m) (hg : DeTg c tg f' is) (w : Wk env (sk s0))
    (hb : ∀ x s, DeSN c (f' x (sk s)) b sk sk (f x s)) (g : ∀ s, DeSN c (sk s) rest mk lk (k s)) (hs : ∀ env x, foldedSetIterable iter env x = pure x := by intro _ _; rfl) :
    DeSN c env (.For tg iter b [] pos :: rest) mk lk (Fl.bindO m fun xs => (Fl.loop f xs s0 : Fl T L R).bind k) := .mk fun B0 H0 B H σ O D P => by
  obtain ⟨xs, exs, P⟩ := postN_bindO P
  obtain ⟨wi, i1, i2⟩ := hi
  obtain ⟨gt, g1, g2⟩ := hg
  refine cS_cons (fun X F => ps_for (by rw [F.xe]; exact PassesOwn.never) F.calm (i1 X F) (g1 X F) (cS_ps X F) (hs _)) ?_
  refine i2 xs exs B H σ O.en _ fun J B1 H1 k1 ⟨G, Y, W, hG, hY⟩ => ?_
  generalize hm : (Fl.loop f xs s0 : Fl T L R) = total at P
  refine for_it W (fun i σ' H' => ∃ B' s, StOk c.K B0 H0 B' H' σ' (sk s) ∧ Le B1 B' ∧ (Fl.loop f (xs.drop i) s : Fl T L R) = total) ⟨B1, s0, (O.grow k1).wk w, Le.refl _, hm⟩
    (fun i σ' H' _ ⟨B', s, O', l', _⟩ => hG H' (l'.trans O'.en.bh)) (fun i v σ' H' H2 hi ⟨B', s, O', l', ht⟩ y => ?_) fun σ' H' ⟨B', s, O', l', ht⟩ => ?_
  · obtain ⟨B2, x, k2, ex, rx⟩ := hY i B' H' v H2 hi l' O'.en.bh y
    have O2 := O'.grow k2
    refine g2.run x (sk s) B2 H2 σ' v O2.en rx _ fun σ3 E3 _ kp no => ?_
    have O3 : StOk c.K B0 H0 B2 H2 σ3 (f' x (sk s)) := O2.retarget E3 kp no
    rw [loop_takeN ex] at ht
    refine hb x s B0 H0 B2 H2 σ3 O3 _ ?_
    cases hf : f x s with
    | err =>
      rw [hf] at ht
      rw [← ht] at P
      exact P
    | nx s' =>
      rw [hf] at ht
      exact fun B4 H4 σ4 l4 O4 => ⟨B4, s', O4, (l'.trans k2.b).trans l4, ht⟩
    | ct s' =>
      rw [hf] at ht
      exact fun B4 H4 σ4 l4 O4 => ⟨B4, s', O4, (l'.trans k2.b).trans l4, ht⟩
    | bk s' =>
      rw [hf] at ht
      rw [← ht] at P
      exact fun B4 H4 σ4 l4 O4 => g s' B0 H0 B4 H4 σ4 O4 D (P.mono ((k1.b.trans (l'.trans k2.b)).trans l4))
    | rt r =>
      rw [hf] at ht
      rw [← ht] at P
      exact P
  · rw [List.drop_length] at ht
    rw [← ht] at P
    exact g s B0 H0 B' H' σ' O' D (P.mono (k1.b.trans l'))
end
section
open PySem PySem.Spec L2
variable {c : Ct} {env : List Slot} {e a b d t elt iter tg : Expr} {es : List Expr} {α β γ : Type} [Rep α] [Rep β] [Rep γ]
theorem as_compT (i : Nat) {y : Str} {py pos spos : Pos} {scope : Scope} {own : List (Str × Nat)} {is : List Nat} {f : α → List Slot → List Slot} {m : Option (List α)} {h : α → Option γ} (nd : c.N.Nodup) (hN : c.N[i]? = some y) (hy : c.sc.names.lookup y = some .local) (hk : c.sc.kind = .function) (hl : (py.line == pos.line) = true)
    (hn : (scope.names.any fun (n, k) => n == y && (k == .local || k == .cell)) = false) (hi : DeItT c env tg iter m) (ok : BlkOk c.N c.sc scope own) (hg : DeTg (c.blk scope) tg f is) (sub : ∀ i ∈ is, i ∈ own.map (·.2))
    (he : ∀ x, De (c.blk scope) (f x (wipeE env (own.map (·.2)))) elt (h x)) (hs : ∀ env x, foldedSetIterable iter env x = pure x := by intro _ _; rfl) :
    AsN c env (.Assign [.Name y py] (.ListComp elt [⟨tg, iter, [], 0⟩] scope pos) spos) i (m.bind fun xs => (capI xs).bind fun xs => mapO h xs) := by
  obtain ⟨wi, i1, i2⟩ := hi
  obtain ⟨g, g1, g2⟩ := hg
  refine ⟨_, fun X F => ps_setLc F.calm (by rw [F.N]; exact nd) (fits_ix F hN) (by rw [F.sc]; exact hy) (sw_true (by rw [F.sc]; exact hk) (by rw [F.sc]; exact hy) hl hn) (i1 X F) (by rw [F.N, F.sc]; exact ok) (fun s H C cl fp => g1 _ (F.blk s H scope C cl fp)) (fun s H C cl fp => pts_nil) (fun s H C cl fp => cE_pe _ (F.blk s H scope C cl fp)) (hs _), fun z hz => ?_⟩
  obtain ⟨xs, ex, hz⟩ := bind_some hz
  obtain ⟨xs', hc, hz⟩ := bind_some hz
  unfold capI at hc
  split at hc
  · rename_i hl
    cases hc
    rw [← mapO_comp] at hz
    refine ev_comp (i2 xs ex) g2 sub (fun x o eo B H σ E Q q => ?_) (fun x y ey => (he x).can y ?_) (of_decide_eq_true hl) hz
    · cases o with
      | none =>
        cases g : h x with
        | none => rw [g] at eo; cases eo
        | some y => rw [g] at eo; cases eo
      | some y => exact q B H (Grow.refl E.bh)
    · cases g : h x with
      | none => rw [g] at ey; cases ey
      | some y' => rw [g] at ey; cases ey; rfl
  · cases hc
end
open PySem in
theorem sw_cellM {kx vx : Expr} {gs : List Comprehension} {scope : Scope} {pos py : Pos} {y : Str} {l : Nat} {sc : Scope} (hy : sc.names.lookup y = some .cell) : ∀ env : PySem.Env, env.scope = sc → swapsWith (.DictComp kx vx gs scope pos) (some (.Name y py)) l env = pure false := by
  intro env h
  have k : env.kindOf y = some .cell := by
    show env.scope.names.lookup y = some .cell
    rw [h]
    exact hy
  have z : (NameKind.cell == NameKind.local) = false := by decide
  unfold swapsWith
  simp [k, z]
end Dn

set_option Elab.async false
set_option linter.all false
set_option maxRecDepth 100000
namespace Dn
open PySem PySem.Spec L2
def S : Nat → (Nat → Int) → Int
  | 0, _ => 0
  | n + 1, f => S n f + f n
theorem S_congr : ∀ {n : Nat} {f g : Nat → Int}, (∀ i, i < n → f i = g i) → S n f = S n g
  | 0, _, _, _ => rfl
  | n + 1, f, g, h => by
    show S n f + f n = S n g + g n
    rw [S_congr fun i hi => h i (by omega), h n (by omega)]
theorem S_mul (c : Int) : ∀ (n : Nat) (f : Nat → Int), S n (fun i => c * f i) = c * S n f
  | 0, _ => by rw [S, S, Int.mul_zero]
  | n + 1, f => by
    show S n (fun i => c * f i) + c * f n = c * (S n f + f n)
    rw [S_mul c n f, Int.mul_add]
theorem S_mod (p : Int) : ∀ {n : Nat} {f g : Nat → Int}, (∀ i, i < n → f i % p = g i % p) → S n f % p = S n g % p
  | 0, _, _, _ => rfl
  | n + 1, f, g, h => by
    show (S n f + f n) % p = (S n g + g n) % p
    rw [Int.add_emod, S_mod p fun i hi => h i (by omega), h n (by omega), ← Int.add_emod]
def Lt (p m : Nat) (R : Nat → Nat → Int) (x : Nat → Int) (i : Nat) : Int := S p fun s => R (i / m) s * x (i % m * p + s)
def Lp (p m : Nat) (R : Nat → Nat → Int) : Nat → (Nat → Int) → Nat → Int
  | 0, x => x
  | k + 1, x => Lp p m R k (Lt p m R x)
def ev (b : Nat) (i : Nat) : Int := if b = i then 1 else 0
theorem ix_lt {p m i s : Nat} (hi : i < m * p) (hs : s < p) : i % m * p + s < m * p := by
  have hm : 0 < m := by
    rcases Nat.eq_zero_or_pos m with h | h
    · rw [h, Nat.zero_mul] at hi; omega
    · exact h
  have := Nat.mod_lt i hm
  have h2 : (i % m + 1) * p ≤ m * p := Nat.mul_le_mul_right p (by omega)
  rw [Nat.add_mul, Nat.one_mul] at h2
  omega
theorem Lt_mod (q : Int) {p m : Nat} (R : Nat → Nat → Int) {x y : Nat → Int} (h : ∀ i, i < m * p → x i % q = y i % q) {i : Nat} (hi : i < m * p) : Lt p m R x i % q = Lt p m R y i % q :=
  S_mod q fun s hs => by rw [Int.mul_emod, h _ (ix_lt hi hs), ← Int.mul_emod]
theorem Lp_mod (q : Int) {p m : Nat} (R : Nat → Nat → Int) : ∀ (k : Nat) {x y : Nat → Int}, (∀ i, i < m * p → x i % q = y i % q) → ∀ {i : Nat}, i < m * p → Lp p m R k x i % q = Lp p m R k y i % q
  | 0, _, _, h, i, hi => h i hi
  | k + 1, _, _, h, i, hi => Lp_mod q R k (fun i hi => Lt_mod q R h hi) hi
def ofL (xs : List Int) (i : Nat) : Int := xs.getD i 0
def tab (n : Nat) (f : Nat → Int) : List Int := (List.range n).map f
theorem tab_len (n : Nat) (f : Nat → Int) : (tab n f).length = n := by
  unfold tab
  rw [List.length_map, List.length_range]
theorem ofL_tab {n : Nat} (f : Nat → Int) {i : Nat} (h : i < n) : ofL (tab n f) i = f i := by
  unfold ofL tab
  rw [List.getD_eq_getElem?_getD, List.getElem?_map, List.getElem?_range h]
  rfl
theorem tab_congr {n : Nat} {f g : Nat → Int} (h : ∀ i, i < n → f i = g i) : tab n f = tab n g :=
  List.map_congr_left fun i hi => h i (List.mem_range.mp hi)
theorem tab_ofL (xs : List Int) : tab xs.length (ofL xs) = xs := by
  refine List.ext_getElem? fun i => ?_
  unfold tab ofL
  rw [List.getElem?_map]
  by_cases h : i < xs.length
  · rw [List.getElem?_range h, List.getElem?_eq_getElem h]
    show some (xs.getD i 0) = _
    rw [List.getD_eq_getElem?_getD, List.getElem?_eq_getElem h]
    rfl
  · rw [List.getElem?_eq_none (by rw [List.length_range]; omega), List.getElem?_eq_none (by omega)]
    rfl
theorem pick_step {xs : List Int} {m p s : Nat} (hl : xs.length = m * p) (hs : s < p) (hm : 0 < m) : pickG xs (some (s : Int)) none (some (p : Int)) = tab m fun j => ofL xs (j * p + s) := by
  have hn : p ≤ m * p := Nat.le_mul_of_pos_left p hm
  have b : sliceBounds (some (s : Int)) none (some (p : Int)) xs.length = ((s : Int), ((m * p : Nat) : Int), (p : Int)) := by
    unfold sliceBounds
    have hp : ((some (p : Int)).getD 1 : Int) > 0 := by show (p : Int) > 0; omega
    simp only [hp, if_true, Option.getD_some, hl]
    have h1 : ¬ ((s : Int) < 0) := by omega
    have hp2 : (p : Int) > 0 := by omega
    simp only [h1, if_false, hp2, if_true]
    congr 1
    omega
  have c : sliceRange (s : Int) ((m * p : Nat) : Int) (p : Int) = (List.range m).map fun k => k * p + s := by
    unfold sliceRange
    have hp2 : (p : Int) > 0 := by omega
    have hlt : (s : Int) < ((m * p : Nat) : Int) := by omega
    simp only [hp2, if_true, hlt]
    have hc : ((((m * p : Nat) : Int) - s + p - 1) / p).toNat = m := by
      have e : (((m * p : Nat) : Int) - s + p - 1) = ((p - 1 - s : Nat) : Int) + (p : Int) * (m : Int) := by
        have : ((m * p : Nat) : Int) = (p : Int) * (m : Int) := by rw [Int.natCast_mul, Int.mul_comm]
        rw [this]
        omega
      rw [e, Int.add_mul_ediv_left _ _ (by omega), Int.ediv_eq_zero_of_lt (by omega) (by omega)]
      omega
    rw [hc]
    refine List.map_congr_left fun k _ => ?_
    have : (s : Int) + (p : Int) * (k : Int) = ((k * p + s : Nat) : Int) := by
      rw [Int.natCast_add, Int.natCast_mul, Int.mul_comm]
      omega
    rw [this]
    rfl
  unfold pickG
  rw [b]
  show (sliceRange (s : Int) ((m * p : Nat) : Int) (p : Int)).filterMap _ = _
  rw [c, List.filterMap_map]
  unfold tab
  have : ∀ l : List Nat, (∀ j ∈ l, j < m) → l.filterMap ((fun i => xs[i]?) ∘ fun k => k * p + s) = l.map fun j => ofL xs (j * p + s) := fun l h => by
    induction l with
    | nil => rfl
    | cons j l ih =>
      have hj := h j (List.mem_cons_self ..)
      have hi : j * p + s < xs.length := by
        rw [hl]
        have h2 : (j + 1) * p ≤ m * p := Nat.mul_le_mul_right p hj
        rw [Nat.add_mul, Nat.one_mul] at h2
        omega
      rw [List.filterMap_cons, List.map_cons, ih fun j hj => h j (List.mem_cons_of_mem _ hj)]
      have e : ((fun i => xs[i]?) ∘ fun k => k * p + s) j = some (ofL xs (j * p + s)) := by
        show xs[j * p + s]? = _
        unfold ofL
        rw [List.getD_eq_getElem?_getD, List.getElem?_eq_getElem hi]
        rfl
      rw [e]
  exact this _ fun j hj => List.mem_range.mp hj
theorem flat_tab (m : Nat) (hm : 0 < m) (g : Nat → Nat → Int) : ∀ p : Nat, (List.range p).flatMap (fun r => tab m (g r)) = tab (p * m) fun i => g (i / m) (i % m)
  | 0 => by rw [Nat.zero_mul]; rfl
  | p + 1 => by
    rw [List.range_succ, List.flatMap_append, flat_tab m hm g p, Nat.add_mul, Nat.one_mul]
    unfold tab
    rw [List.range_add, List.map_append, List.map_map]
    congr 1
    show ([p].flatMap fun r => (List.range m).map (g r)) = _
    rw [List.flatMap_singleton]
    refine List.map_congr_left fun j hj => ?_
    have hj := List.mem_range.mp hj
    show g p j = g ((p * m + j) / m) ((p * m + j) % m)
    rw [Nat.mul_comm p m, Nat.mul_add_div hm, Nat.mul_add_mod, Nat.div_eq_of_lt hj, Nat.mod_eq_of_lt hj, Nat.add_zero]
theorem Lp_succ (p m : Nat) (R : Nat → Nat → Int) (k : Nat) (x : Nat → Int) : Lp p m R (k + 1) x = Lp p m R k (Lt p m R x) := rfl
section
variable {S L R T α : Type}
theorem loop_nil (f : α → T → Fl T T R) (s : T) : (Fl.loop f [] s : Fl T L R) = .nx s := rfl
theorem loop_cons {f : α → T → Fl T T R} {x : α} {s s' : T} (h : f x s = .nx s') (xs : List α) : (Fl.loop f (x :: xs) s : Fl T L R) = Fl.loop f xs s' := by
  have e := loop_takeN (L := L) (f := f) (xs := x :: xs) (i := 0) (x := x) (s := s) rfl
  rw [List.drop_zero, h] at e
  exact e
end
end Dn

set_option Elab.async false
set_option linter.all false
set_option maxRecDepth 100000
namespace Dn
open PySem PySem.Spec L2
theorem S_addn (f : Nat → Int) (a : Nat) : ∀ b : Nat, S (a + b) f = S a f + S b (fun t => f (a + t))
  | 0 => by
    show S a f = S a f + 0
    rw [Int.add_zero]
  | b + 1 => by
    show S (a + b) f + f (a + b) = S a f + (S b (fun t => f (a + t)) + f (a + b))
    rw [S_addn f a b, Int.add_assoc]
theorem S_split (p : Nat) (f : Nat → Int) : ∀ m : Nat, S (m * p) f = S m (fun a => S p fun t => f (a * p + t))
  | 0 => by rw [Nat.zero_mul]; rfl
  | m + 1 => by
    rw [Nat.add_mul, Nat.one_mul, S_addn, S_split p f m]
    rfl
def Ww (p : Nat) (R : Nat → Nat → Int) : Nat → Nat → Nat → Int
  | 0, _, _ => 1
  | k + 1, h, s => Ww p R k (h / p) (s / p) * R (h % p) (s % p)
theorem dm {p a t : Nat} (hp : 0 < p) (ht : t < p) : (a * p + t) / p = a ∧ (a * p + t) % p = t := by
  rw [Nat.mul_comm a p]
  exact ⟨by rw [Nat.mul_add_div hp, Nat.div_eq_of_lt ht, Nat.add_zero], by rw [Nat.mul_add_mod, Nat.mod_eq_of_lt ht]⟩
theorem lt_mul {a b c d : Nat} (h : a < c) (g : b < d) : a * d + b < c * d := by
  have : (a + 1) * d ≤ c * d := Nat.mul_le_mul_right d h
  rw [Nat.add_mul, Nat.one_mul] at this
  omega
theorem Lp_full {p n : Nat} (hp : 0 < p) (R : Nat → Nat → Int) : ∀ (k : Nat), k ≤ n → ∀ (x : Nat → Int) (h lo : Nat), h < p ^ k → lo < p ^ (n - k) → Lp p (p ^ (n - 1)) R k x (h * p ^ (n - k) + lo) = S (p ^ k) fun s => Ww p R k h s * x (lo * p ^ k + s)
  | 0, _, x, h, lo, h0, _ => by
    have e : h = 0 := by rw [Nat.pow_zero] at h0; omega
    subst e
    show x _ = S (p ^ 0) fun s => 1 * x (lo * p ^ 0 + s)
    rw [Nat.pow_zero, Nat.zero_mul, Nat.zero_add, Nat.mul_one]
    show x lo = 0 + 1 * x (lo + 0)
    rw [Int.zero_add, Int.one_mul, Nat.add_zero]
  | k + 1, hk, x, h, lo, h0, hlo => by
    have e1 : p ^ (n - k) = p * p ^ (n - (k + 1)) := by
      rw [← Nat.pow_succ']
      congr 1
      omega
    have e2 : p ^ (n - (k + 1)) * p ^ k = p ^ (n - 1) := by
      rw [← Nat.pow_add]
      congr 1
      omega
    have hr : h % p < p := Nat.mod_lt _ hp
    have h1 : h / p < p ^ k := Nat.div_lt_of_lt_mul (by rw [← Nat.pow_succ']; exact h0)
    have hh : h / p * p + h % p = h := Nat.div_add_mod' h p
    have i1 : h * p ^ (n - (k + 1)) + lo = h / p * p ^ (n - k) + (h % p * p ^ (n - (k + 1)) + lo) := by
      rw [e1, ← Nat.mul_assoc, ← Nat.add_assoc, ← Nat.add_mul, hh]
    have l1 : h % p * p ^ (n - (k + 1)) + lo < p ^ (n - k) := by
      rw [e1]
      exact lt_mul hr hlo
    rw [i1, Lp_succ, Lp_full hp R k (by omega) (Lt p (p ^ (n - 1)) R x) (h / p) _ h1 l1, Nat.pow_succ, S_split]
    refine S_congr fun s' hs' => ?_
    have j1 : (h % p * p ^ (n - (k + 1)) + lo) * p ^ k + s' = h % p * p ^ (n - 1) + (lo * p ^ k + s') := by
      rw [Nat.add_mul, Nat.mul_assoc, e2, Nat.add_assoc]
    have j2 : lo * p ^ k + s' < p ^ (n - 1) := by
      rw [← e2]
      exact lt_mul hlo hs'
    have pm : 0 < p ^ (n - 1) := Nat.pow_pos hp
    obtain ⟨d1, d2⟩ := dm (a := h % p) pm j2
    unfold Lt
    rw [j1, d1, d2, ← S_mul]
    refine S_congr fun t ht => ?_
    obtain ⟨d3, d4⟩ := dm (a := s') hp ht
    show Ww p R k (h / p) s' * (R (h % p) t * x ((lo * p ^ k + s') * p + t)) = Ww p R k (h / p) ((s' * p + t) / p) * R (h % p) ((s' * p + t) % p) * x (lo * (p ^ k * p) + (s' * p + t))
    rw [d3, d4, Int.mul_assoc]
    congr 3
    rw [Nat.add_mul, Nat.mul_assoc, Nat.add_assoc]
theorem Lp_all {p n : Nat} (hp : 0 < p) (R : Nat → Nat → Int) (x : Nat → Int) {i : Nat} (hi : i < p ^ n) : Lp p (p ^ (n - 1)) R n x i = S (p ^ n) fun s => Ww p R n i s * x s := by
  have := Lp_full hp R n (Nat.le_refl _) x i 0 hi (by rw [Nat.sub_self, Nat.pow_zero]; exact Nat.one_pos)
  rw [Nat.sub_self, Nat.pow_zero, Nat.mul_one, Nat.add_zero] at this
  rw [this]
  exact S_congr fun s _ => by rw [Nat.zero_mul, Nat.zero_add]
end Dn
namespace Dn
theorem Ww_congr {p : Nat} (hp : 0 < p) {A B : Nat → Nat → Int} (h : ∀ r, r < p → ∀ s, s < p → A r s = B r s) : ∀ (k i s : Nat), Ww p A k i s = Ww p B k i s
  | 0, _, _ => rfl
  | k + 1, i, s => by
    show Ww p A k (i / p) (s / p) * A (i % p) (s % p) = Ww p B k (i / p) (s / p) * B (i % p) (s % p)
    rw [Ww_congr hp h k, h _ (Nat.mod_lt _ hp) _ (Nat.mod_lt _ hp)]
def powT (p r e : Nat) : Int := ((r ^ e % p : Nat) : Int)
end Dn

set_option Elab.async false
set_option linter.all false
set_option maxRecDepth 100000
namespace Dn
open PySem PySem.Spec L2
theorem sum_add {α : Type} (f g : α → Int) : ∀ T : List α, (T.map fun k => f k + g k).sum = (T.map f).sum + (T.map g).sum
  | [] => rfl
  | k :: T => by
    rw [List.map_cons, List.map_cons, List.map_cons, List.sum_cons, List.sum_cons, List.sum_cons, sum_add f g T]
    omega
theorem sum_zero {α : Type} {f : α → Int} : ∀ {T : List α}, (∀ k ∈ T, f k = 0) → (T.map f).sum = 0
  | [], _ => rfl
  | k :: T, h => by
    rw [List.map_cons, List.sum_cons, h k (List.mem_cons_self ..), sum_zero fun j hj => h j (List.mem_cons_of_mem _ hj)]
    rfl
theorem sum_one {α : Type} [DecidableEq α] (c : Int) (a : α) : ∀ {T : List α}, T.Nodup → a ∈ T → (T.map fun k => if k = a then c else 0).sum = c
  | [], _, h => nomatch h
  | k :: T, n, h => by
    rw [List.nodup_cons] at n
    rw [List.map_cons, List.sum_cons]
    by_cases z : k = a
    · rw [if_pos z, sum_zero fun j hj => if_neg fun e => n.1 (by rw [z, ← e]; exact hj), Int.add_zero]
    · rw [if_neg z, sum_one c a n.2 (by
        cases h with
        | head => exact absurd rfl z
        | tail _ h => exact h), Int.zero_add]
theorem S_range (h : Nat → Int) : ∀ n : Nat, S n h = ((List.range n).map h).sum
  | 0 => rfl
  | n + 1 => by
    rw [List.range_succ, List.map_append, List.sum_append, ← S_range h n]
    show S n h + h n = S n h + (h n + 0)
    rw [Int.add_zero]
def zt : Tup Int := ⟨[]⟩
theorem T_range (T : List (Tup Int)) : (List.range T.length).map (fun b => T.getD b zt) = T := by
  refine List.ext_getElem? fun i => ?_
  rw [List.getElem?_map]
  by_cases h : i < T.length
  · rw [List.getElem?_range h, List.getElem?_eq_getElem h, Option.map_some, List.getD_eq_getElem?_getD, List.getElem?_eq_getElem h]
    rfl
  · rw [List.getElem?_eq_none (by rw [List.length_range]; omega), List.getElem?_eq_none (by omega)]
    rfl
theorem S_list (g : Tup Int → Int) (T : List (Tup Int)) : S T.length (fun b => g (T.getD b zt)) = (T.map g).sum := by
  rw [S_range]
  have : (List.range T.length).map (fun b => g (T.getD b zt)) = ((List.range T.length).map fun b => T.getD b zt).map g := by rw [List.map_map]; rfl
  rw [this, T_range]
theorem tab_list (g : Tup Int → Int) (T : List (Tup Int)) : tab T.length (fun b => g (T.getD b zt)) = T.map g := by
  unfold tab
  have : (List.range T.length).map (fun b => g (T.getD b zt)) = ((List.range T.length).map fun b => T.getD b zt).map g := by rw [List.map_map]; rfl
  rw [this, T_range]
theorem ofL_map (g : Tup Int → Int) (T : List (Tup Int)) {b : Nat} (h : b < T.length) : ofL (T.map g) b = g (T.getD b zt) := by
  unfold ofL
  rw [List.getD_eq_getElem?_getD, List.getD_eq_getElem?_getD, List.getElem?_map, List.getElem?_eq_getElem h]
  rfl
def Nu (t : Po) (k : Tup Int) : Int := (⟨t.l⟩ : Dct Int).val k
theorem val_cons (q : Tup Int × Int) (l : List (Tup Int × Int)) (n : q.1 ∉ l.map (·.1)) (k : Tup Int) : (⟨q :: l⟩ : Dct Int).val k = (if k = q.1 then q.2 else 0) + (⟨l⟩ : Dct Int).val k := by
  unfold Dct.val
  by_cases z : k = q.1
  · have a : (⟨q :: l⟩ : Dct Int).get k = some q.2 := by
      unfold Dct.get
      rw [List.find?_cons, decide_eq_true z.symm]
      rfl
    have b : (⟨l⟩ : Dct Int).get k = none := Dct.get_none (by rw [z]; exact n)
    rw [a, b, if_pos z]
    show q.2 = q.2 + 0
    rw [Int.add_zero]
  · have a : (⟨q :: l⟩ : Dct Int).get k = (⟨l⟩ : Dct Int).get k := by
      unfold Dct.get
      rw [List.find?_cons, decide_eq_false (fun e => z e.symm)]
    rw [a, if_neg z, Int.zero_add]
theorem sum_val (T : List (Tup Int)) (hT : T.Nodup) (f : Tup Int → Int) : ∀ l : List (Tup Int × Int), (l.map (·.1)).Nodup → (∀ q ∈ l, q.1 ∈ T) → (T.map fun k => (⟨l⟩ : Dct Int).val k * f k).sum = (l.map fun q => q.2 * f q.1).sum
  | [], _, _ => sum_zero fun k _ => by
    show (0 : Int) * f k = 0
    rw [Int.zero_mul]
  | q :: l, n, h => by
    rw [List.map_cons, List.nodup_cons] at n
    rw [List.map_cons, List.sum_cons, ← sum_val T hT f l n.2 fun r hr => h r (List.mem_cons_of_mem _ hr), ← sum_one (q.2 * f q.1) q.1 hT (h q (List.mem_cons_self ..)), ← sum_add]
    congr 1
    refine List.map_congr_left fun k _ => ?_
    rw [val_cons q l n.1, Int.add_mul]
    by_cases z : k = q.1
    · rw [if_pos z, if_pos z, z]
    · rw [if_neg z, if_neg z, Int.zero_mul]
theorem val_ne {l : List (Tup Int × Int)} {k : Tup Int} (h : (⟨l⟩ : Dct Int).val k ≠ 0) : (k, (⟨l⟩ : Dct Int).val k) ∈ l := by
  by_cases z : k ∈ (⟨l⟩ : Dct Int).keys
  · have e := Dct.get_val z
    unfold Dct.get at e
    show (k, (⟨l⟩ : Dct Int).val k) ∈ l
    cases y : l.find? (fun p => decide (p.1 = k)) with
    | none => rw [y] at e; cases e
    | some p =>
      rw [y] at e
      have a := List.mem_of_find?_eq_some y
      have b : p.1 = k := of_decide_eq_true (List.find?_some (p := fun p : Tup Int × Int => decide (p.1 = k)) y)
      have c : p.2 = (⟨l⟩ : Dct Int).val k := Option.some.inj e
      rw [← c, ← b]
      exact a
  · refine absurd ?_ h
    unfold Dct.val
    rw [Dct.get_none z]
    rfl
theorem val_mem {l : List (Tup Int × Int)} (n : (l.map (·.1)).Nodup) {q : Tup Int × Int} (h : q ∈ l) : (⟨l⟩ : Dct Int).val q.1 = q.2 := by
  unfold Dct.val
  rw [Dct.get_of n (k := q.1) (v := q.2) h]
  rfl
def mkP (T : List (Tup Int)) (f : Tup Int → Int) : Po := ⟨((T.map fun k => (k, f k)).filter fun q => !decide (q.2 = 0)).reverse⟩
theorem mkP_mem {T : List (Tup Int)} {f : Tup Int → Int} {q : Tup Int × Int} : q ∈ (mkP T f).l ↔ q.1 ∈ T ∧ q.2 = f q.1 ∧ q.2 ≠ 0 := by
  unfold mkP
  show q ∈ (List.filter _ _).reverse ↔ _
  rw [List.mem_reverse, List.mem_filter, List.mem_map]
  constructor
  · rintro ⟨⟨k, hk, rfl⟩, h⟩
    exact ⟨hk, rfl, fun e => by rw [decide_eq_true e] at h; cases h⟩
  · rintro ⟨a, b, c⟩
    exact ⟨⟨q.1, a, by rw [← b]⟩, by rw [decide_eq_false c]; rfl⟩
theorem mkP_len (T : List (Tup Int)) (f : Tup Int → Int) : (mkP T f).l.length ≤ T.length := by
  unfold mkP
  show (List.reverse _).length ≤ _
  rw [List.length_reverse]
  have := List.length_filter_le (fun q : Tup Int × Int => !decide (q.2 = 0)) (T.map fun k => (k, f k))
  rw [List.length_map] at this
  exact this
theorem mkP_fall {T : List (Tup Int)} (h : T.Pairwise fun a b => a.l < b.l) (f : Tup Int → Int) : ((mkP T f).l.map (·.1)).Pairwise fun a b => b.l < a.l := by
  unfold mkP
  show ((List.reverse _).map _).Pairwise _
  rw [List.map_reverse, List.pairwise_reverse]
  refine List.Pairwise.sublist (List.Sublist.map _ List.filter_sublist) ?_
  rw [List.map_map]
  have e : T.map ((·.1) ∘ fun k => (k, f k)) = T := List.map_id _
  rw [e]
  exact h
theorem fall_eq {l m : List (Tup Int × Int)} (h : (l.map (·.1)).Pairwise fun a b => b.l < a.l) (g : (m.map (·.1)).Pairwise fun a b => b.l < a.l) (e : ∀ q, q ∈ l ↔ q ∈ m) : l = m := by
  have nd : ∀ {l : List (Tup Int × Int)}, (l.map (·.1)).Pairwise (fun a b => b.l < a.l) → l.Nodup := fun {l} h => by
    have := List.pairwise_map.mp h
    exact List.Pairwise.imp (fun {a b} (q : b.1.l < a.1.l) e => by rw [e] at q; exact List.lt_irrefl _ q) this
  exact List.Perm.eq_of_pairwise (le := fun a b : Tup Int × Int => b.1.l < a.1.l) (fun a b _ _ h g => absurd (List.lt_trans h g) (List.lt_irrefl _)) (List.pairwise_map.mp h) (List.pairwise_map.mp g) ((List.perm_ext_iff_of_nodup (nd h) (nd g)).mpr e)
structure PolT (T : List (Tup Int)) (p : Int) (t : Po) : Prop where
  mem : ∀ q ∈ t.l, q.1 ∈ T ∧ 0 < q.2 ∧ q.2 < p
  fall : (t.l.map (·.1)).Pairwise fun a b => b.l < a.l
theorem PolT.nd {T : List (Tup Int)} {p : Int} {t : Po} (h : PolT T p t) : (t.l.map (·.1)).Nodup := nodup_of_lt h.fall
theorem mkP_pol {T : List (Tup Int)} (hT : T.Pairwise fun a b => a.l < b.l) {p : Int} {f : Tup Int → Int} (h : ∀ k ∈ T, 0 ≤ f k ∧ f k < p) : PolT T p (mkP T f) :=
  ⟨fun q hq => by
    obtain ⟨a, b, c⟩ := mkP_mem.mp hq
    have := h q.1 a
    exact ⟨a, by omega, by omega⟩, mkP_fall hT f⟩
theorem PolT.back {T : List (Tup Int)} (hT : T.Pairwise fun a b => a.l < b.l) {p : Int} {t : Po} (h : PolT T p t) : mkP T (Nu t) = t := by
  have : (mkP T (Nu t)).l = t.l := fall_eq (mkP_fall hT _) h.fall fun q => by
    rw [mkP_mem]
    constructor
    · rintro ⟨a, b, c⟩
      have := val_ne (l := t.l) (k := q.1) (by rw [show (⟨t.l⟩ : Dct Int).val q.1 = q.2 from b.symm]; exact c)
      rw [show (⟨t.l⟩ : Dct Int).val q.1 = q.2 from b.symm] at this
      exact this
    · intro hq
      have := h.mem q hq
      exact ⟨this.1, (val_mem h.nd hq).symm, by omega⟩
  obtain ⟨l⟩ := t
  exact congrArg Tup.mk this
theorem PolT.len {T : List (Tup Int)} (hT : T.Pairwise fun a b => a.l < b.l) {p : Int} {t : Po} (h : PolT T p t) : t.l.length ≤ T.length := by
  have := mkP_len T (Nu t)
  rw [h.back hT] at this
  exact this
def EV (p : Int) (pw : Tup Int → Tup Int → Int) (t : Po) (b : Tup Int) : Int := (t.l.map fun q => q.2 * pw q.1 b).sum % p
theorem EV_T {T : List (Tup Int)} (hT : T.Nodup) {p : Int} {t : Po} (h : PolT T p t) (pw : Tup Int → Tup Int → Int) (b : Tup Int) : EV p pw t b = (T.map fun k => Nu t k * pw k b).sum % p := by
  unfold EV
  rw [← sum_val T hT (fun k => pw k b) t.l h.nd fun q hq => (h.mem q hq).1]
  rfl
theorem EV_range {p : Int} (hp : 0 < p) (pw : Tup Int → Tup Int → Int) (t : Po) (b : Tup Int) : 0 ≤ EV p pw t b ∧ EV p pw t b < p :=
  ⟨Int.emod_nonneg _ (by omega), Int.emod_lt_of_pos _ hp⟩
end Dn

set_option Elab.async false
set_option linter.all false
set_option maxRecDepth 100000
namespace Dn
open PySem PySem.Spec L2
theorem sumK_cons (k : Tup Int) (x : Tup Int × Int) (xs : List (Tup Int × Int)) : sumK k (x :: xs) = (if k = x.1 then x.2 else 0) + sumK k xs := by
  unfold sumK
  rw [List.map_cons, List.sum_cons]
  by_cases z : k = x.1
  · rw [if_pos z, if_pos z.symm]
  · rw [if_neg z, if_neg (fun e => z e.symm)]
def acc (T : List (Tup Int)) (p : Int) (xs : List (Tup Int × Int)) : Po := mkP T fun k => sumK k xs % p
theorem acc_pol {T : List (Tup Int)} (hT : T.Pairwise fun a b => a.l < b.l) {p : Int} (hp : 0 < p) (xs : List (Tup Int × Int)) : PolT T p (acc T p xs) :=
  mkP_pol hT fun k _ => ⟨Int.emod_nonneg _ (by omega), Int.emod_lt_of_pos _ hp⟩
theorem rows_acc {T : List (Tup Int)} (hT : T.Pairwise fun a b => a.l < b.l) {p : Int} (hp : 0 < p) {d : Dct Int} {xs : List (Tup Int × Int)} (hn : d.keys.Nodup) (hk : ∀ k ∈ d.keys, k ∈ T) (hv : ∀ k, d.val k = sumK k xs) : (⟨rowsOf p d⟩ : Po) = acc T p xs := by
  have e : rowsOf p d = (acc T p xs).l := by
    refine fall_eq ?_ (mkP_fall hT _) fun q => ?_
    · have s : ((rowsOf p d).map (·.1)).Sublist (((sortDR d.keys).map fun k => (k, d.val k % p)).map (·.1)) := List.Sublist.map _ List.filter_sublist
      rw [List.map_map] at s
      have e : (sortDR d.keys).map ((·.1) ∘ fun k => (k, d.val k % p)) = sortDR d.keys := List.map_id _
      rw [e] at s
      exact List.Pairwise.sublist s (sortDR_lt hn)
    · unfold acc
      rw [mkP_mem]
      unfold rowsOf
      rw [List.mem_filter, List.mem_map]
      constructor
      · rintro ⟨⟨k, hk2, rfl⟩, z⟩
        have nz : ¬ d.val k % p = 0 := fun e => by rw [decide_eq_true e] at z; cases z
        have m := (sortDR_perm d.keys).mem_iff.mp hk2
        exact ⟨hk k m, by rw [← hv], nz⟩
      · rintro ⟨a, b, c⟩
        rw [← hv] at b
        have m : q.1 ∈ d.keys := Decidable.byContradiction fun m => c (by
          rw [b]
          unfold Dct.val
          rw [Dct.get_none m]
          exact Int.zero_emod _)
        exact ⟨⟨q.1, (sortDR_perm d.keys).mem_iff.mpr m, by rw [← b]⟩, by rw [decide_eq_false c]; rfl⟩
  rw [e]
end Dn

set_option Elab.async false
set_option linter.all false
set_option maxRecDepth 100000
namespace Dn
open PySem PySem.Spec L2
open Rep (rep)
open ORep (orep)
section
variable {c : Ct} {env : List Slot} {e a b d : Expr} {α β γ : Type} [Rep α] [Rep β] [Rep γ]
theorem fits_units65 {X : Cx} (F : Fits c X) : X.A.units + 65 < cLine := by have := F.room.un; omega
def ninD {α : Type} [Dat α] (x : α) (ys : List α) : Option Bool := letI := Dat.dec (α := α); if (lay x && lay ys && decide (Dat.dep α ≤ 63)) = true then some (!decide (x ∈ ys)) else none
theorem any_mem {α : Type} [Dat α] (x : α) : ∀ ys : List α, ((ys.map Dat.toD).any fun z => PyData.eqv z (Dat.toD x)) = (letI := Dat.dec (α := α); decide (x ∈ ys))
  | [] => by simp
  | y :: ys => by
    letI := Dat.dec (α := α)
    rw [List.map_cons, List.any_cons, any_mem x ys, Dat.eqv]
    by_cases h : y = x
    · rw [decide_eq_true h, Bool.true_or]
      exact (decide_eq_true (by rw [h]; exact List.mem_cons_self ..)).symm
    · rw [decide_eq_false h, Bool.false_or]
      refine decide_eq_decide.mpr ?_
      rw [List.mem_cons]
      exact ⟨Or.inr, fun g => g.resolve_left fun e => h e.symm⟩
theorem dep_list {α : Type} [Dat α] (ys : List α) (h : Dat.dep α ≤ 63) : (PyData.list (ys.map Dat.toD)).depth ≤ 64 := by
  rw [PyData.depth]
  have : ∀ ys : List α, PyData.depthAll (ys.map Dat.toD) ≤ Dat.dep α := fun ys => by
    induction ys with
    | nil => rw [List.map_nil, PyData.depthAll]; exact Nat.zero_le _
    | cons y ys ih =>
      rw [List.map_cons, PyData.depthAll]
      exact Nat.max_le.mpr ⟨Dat.hdep y, ih⟩
  have := this ys
  omega
theorem inD_shape {α : Type} [Dat α] {x : α} {ys : List α} (h : (lay x && lay ys && decide (Dat.dep α ≤ 63)) = true) : SeqAt.shaped (Dat.toD x) = true ∧ SeqAt.shaped (.list (ys.map Dat.toD)) = true := by
  simp only [Bool.and_eq_true, decide_eq_true_eq] at h
  refine ⟨lay_sh h.1.1 (by omega), ?_⟩
  unfold SeqAt.shaped
  rw [Bool.and_eq_true]
  exact ⟨h.1.2, decide_eq_true (dep_list ys h.2)⟩
theorem cmp_ninD {α : Type} [Dat α] : Cmp c .NotIn (fun (x : α) (y : List α) => ninD x y) := ⟨rNotInD c.K, fun X F => by rw [← F.K]; exact op_notInD (fits_units65 F), fun x y z hz B H v u hB r1 r2 Q q => by
  replace hz : ninD x y = some z := hz
  unfold ninD at hz
  split at hz
  · rename_i h
    cases hz
    obtain ⟨s1, s2⟩ := inD_shape h
    refine ⟨_, _, Dat.dp (Rep.mono hB r1), Dat.dp (Rep.mono hB r2), s1, s2, ?_⟩
    rw [any_mem]
    exact q _ B H (Grow.refl hB) rfl
  · cases hz⟩
theorem drel_get {K : PySem.W.Frag} {B : Hp} {xs : List Ent} {d : Dct β} (r : DRel K B xs d.l) (k : Tup Int) : (atE xs k.l).isSome = (d.get k).isSome := by
  obtain ⟨h1, h2⟩ := r.at_ k
  have h1 : ∀ y, d.get k = some y → ∃ v, atE xs k.l = some v ∧ rep K B v y := h1
  have h2 : d.get k = none → atE xs k.l = none := h2
  cases q : d.get k with
  | none => rw [h2 q]; rfl
  | some z => obtain ⟨w, e, rw⟩ := h1 z q; rw [e]; rfl
variable {kx vx iter tg : Expr}
theorem dm_compT {scope : Scope} {own : List (Str × Nat)} {pos : Pos} {is : List Nat} {f : α → List Slot → List Slot} {m : Option (List α)} {hk : α → Option (Tup Int)} {hv : α → Option β} (nd : c.N.Nodup) (hi : DeItT c env tg iter m) (ok : BlkOk c.N c.sc scope own) (hg : DeTg (c.blk scope) tg f is) (sub : ∀ i ∈ is, i ∈ own.map (·.2))
    (hkk : ∀ x, De (c.blk scope) (f x (wipeE env (own.map (·.2)))) kx (hk x)) (hvv : ∀ x, De (c.blk scope) (f x (wipeE env (own.map (·.2)))) vx (hv x)) (hs : ∀ env x, foldedSetIterable iter env x = pure x := by intro _ _; rfl) :
    DeM c env (.DictComp kx vx [⟨tg, iter, [], 0⟩] scope pos) (m.bind fun xs => (capI xs).bind fun xs => dctO hk hv xs ⟨[]⟩) := by
  obtain ⟨wi, i1, i2⟩ := hi
  obtain ⟨g, g1, g2⟩ := hg
  refine ⟨tEc c.K wi g (cE (c.blk scope) kx) (cE (c.blk scope) vx) (own.map (·.2)), fun X F => by rw [← F.K]; exact pe_ec F.calm (Nat.lt_of_le_of_lt (Nat.add_le_add_left (by decide) _) (fits_units F)) (by rw [F.N]; exact nd) (i1 X F) (by rw [F.N, F.sc]; exact ok) (fun s H C cl fp => g1 _ (F.blk s H scope C cl fp)) (fun s H C cl fp => cE_pe _ (F.blk s H scope C cl fp)) (fun s H C cl fp => cE_pe _ (F.blk s H scope C cl fp)) (hs _), fun z hz => ?_⟩
  obtain ⟨xs, ex, hz⟩ := bind_some hz
  obtain ⟨xs', hc, hz⟩ := bind_some hz
  unfold capI at hc
  split at hc
  · rename_i hl
    cases hc
    exact ev_ec (K := c.K) (i2 xs ex) g2 sub (fun x k h => (hkk x).can k h) (fun x y h => (hvv x).can y h) (of_decide_eq_true hl) hz
  · cases hc
end
end Dn

set_option Elab.async false
set_option linter.all false
set_option maxRecDepth 100000
namespace PySem
open Sem (wp)
open AutoSeq1 (wpAny_loadPart')
theorem dn_meets_enumerate_newT (l : Addr) (items : Array Value) (n : Nat) (dct : Option Addr) (sl : Array (Option Value)) :
    Meets (Builtin.«enumerate.__new__» ⟨[.type "enumerate", .ref l], []⟩) (fun _ R s => s.heap.get? l = some { cls := .type "tuple", dict := dct, data := .seq items n, slots := sl } ∧
      R (.ok (.ret (.ref (s.heap.push { cls := .type "tuple_iterator", data := .fields #[.ref l, .int 0 0] }).objs.size)))
        { s with heap := (s.heap.push { cls := .type "tuple_iterator", data := .fields #[.ref l, .int 0 0] }).push { cls := .type "enumerate", data := .fields #[.none, .bool false, .ref s.heap.objs.size, rawInt 0, .none, .none] } }) :=
  .of_wp fun prog w A R s h => by
    obtain ⟨hp, g, d, tk, os⟩ := s; obtain ⟨hl, h⟩ := h
    have hsub := sub_enumerate
    have hL : Heap.IsTuple (Shared.heap ⟨hp, g, d, tk, os⟩) l items := ⟨_, hl, rfl, n, rfl⟩
    wp_walk using wpAny_loadPart' hl
    refine wpAny_stack_any fun st => wpAny_pure ?_
    split
    · rename_i c _ _ _ _ _
      cases (c == Value.type "enumerate")
      · wp_walk using wpAny_loadPart' hl, wpAny_pyIter_tuple hL
        exact ⟨_, rfl, h⟩
      · wp_walk using wpAny_loadPart' hl, wpAny_pyIter_tuple hL
        exact ⟨_, rfl, h⟩
    · wp_walk using wpAny_loadPart' hl, wpAny_pyIter_tuple hL
      exact ⟨_, rfl, h⟩
theorem dn_call_enumerate_tuple {prog : Program} {w : World} {A : Around} {E : Value → Shared → Prop} {s : Shared} {l : Addr} {items : Array Value} {Q : Value → Shared → Prop} (hL : s.heap.IsTuple l items)
    (h : ∀ h', IsEnum h' (s.heap.objs.size + 1) s.heap.objs.size 0 .none → h'.IsTupleIter s.heap.objs.size l 0 → h'.objs.size = s.heap.objs.size + 2 →
      (∀ b o, s.heap.get? b = some o → h'.get? b = some o) → Q (.ref (s.heap.objs.size + 1)) { s with heap := h' }) :
    wpAny (model prog w) A (call (.type "enumerate") [.ref l]) Q E s := by
  obtain ⟨⟨c, dct, dt, sl⟩, hl, hc, n, hd⟩ := hL
  replace hc : c = .type "tuple" := hc
  replace hd : dt = .seq items n := hd
  subst hc hd
  refine callType_new F.called_enumerate (by decide) (F.typeCall_enumerate_1 _) (F.newCall_enumerate_1 _) (fun obj => F.args_object_init_2 obj _) F.entry_enumerate_new
    (dn_meets_enumerate_newT l items n dct sl) ⟨hl, ?_⟩
  have hz : (s.heap.push { cls := .type "tuple_iterator", data := .fields #[.ref l, .int 0 0] }).objs.size = s.heap.objs.size + 1 := Heap.size_push ..
  show _ ∧ _
  rw [hz]
  have he : IsEnum ((s.heap.push { cls := .type "tuple_iterator", data := .fields #[.ref l, .int 0 0] }).push
      { cls := .type "enumerate", data := .fields #[.none, .bool false, .ref s.heap.objs.size, rawInt 0, .none, .none] }) (s.heap.objs.size + 1) s.heap.objs.size 0 .none := by
    have := Heap.get?_push_size (s.heap.push { cls := .type "tuple_iterator", data := .fields #[.ref l, .int 0 0] })
      (o := { cls := .type "enumerate", data := .fields #[.none, .bool false, .ref s.heap.objs.size, rawInt 0, .none, .none] }) rfl
    rw [hz] at this; exact this
  refine ⟨⟨_, he, rfl⟩, h _ he ⟨_, Heap.get?_push_of_some _ (Heap.get?_push_size _ rfl), rfl, rfl⟩ (by rw [Heap.size_push, hz]) fun b o x => Heap.get?_push_of_some _ (Heap.get?_push_of_some _ x)⟩
theorem dn_Draws_tuple {prog : Program} {w : World} {A : Around} (hh : A.handled = none) (it l : Addr) (hne : l ≠ it) (items : Array Value) :
    Draws prog w A it [it, l] items.size (fun i v => items[i]? = some v) (fun i h => h.IsTupleIter it l i ∧ h.IsTuple l items) where
  live := fun _ _ st => let ⟨o, ho, _⟩ := st.1; ⟨o, ho⟩
  frame := fun _ _ _ st hk => ⟨st.1.at fun o e => hk it (by simp) o e, let ⟨o, ho, r⟩ := st.2; ⟨o, hk l (by simp) o ho, r⟩⟩
  item := fun i s Q E hi st hQ => by
    refine RZ.nextOf_tuple_item st.1 st.2 (x := items[i]) (by simp [hi]) fun h' hit' hs' => ?_
    exact hQ _ h' s.toks (by simp [hi]) ⟨hit', st.2.extBut hs'.extBut hne⟩ hs'
  done := fun s Q E st hE => RZ.nextOf_tuple_end hh st.1 st.2 (by simp) hE
end PySem
namespace L2
open PySem PySem.Spec PyProof.Rows
def IteT (K : PySem.W.Frag) (a : Addr) : It :=
  ⟨fun i H => ∃ (xs : List V) (x : V), SqT K H a xs ∧ xs[i]? = some x, fun i H v H' => ∃ T x, v = .ref T ∧ H T = none ∧ H' = upd H T (.tup [.int (i : Nat), x]) ∧ ∀ xs, SqT K H a xs → xs[i]? = some x, fun i H => ∃ xs : List V, SqT K H a xs ∧ xs.length ≤ i⟩
theorem ne_of_cls {h : Heap} {a b : Addr} {o p : Obj} (ha : h.get? a = some o) (hb : h.get? b = some p) (hc : o.cls ≠ p.cls) : a ≠ b := fun e => by
  rw [e, hb] at ha
  exact hc (by rw [Option.some.inj ha])
theorem turn_enumT {P : Program} {w : World} {K : PySem.W.Frag} {elts : List Expr} {kk : Nat} {tpos : Pos} (a e it : Addr) :
    Turn P w K (.Tuple elts kk tpos) (IteT K a) [e, it] e (fun i h => (∃ old, IsEnum h e it ((i : Nat) : Int) old) ∧ h.IsTupleIter it a i ∧ e ≠ it) where
  mem := by simp
  obj := fun i h st b hb => by
    obtain ⟨⟨old, he⟩, ⟨o, ho, hc, hd⟩, _⟩ := st
    have e' : b = e ∨ b = it := by simpa using hb
    rcases e' with z | z
    · rw [z]; exact ⟨_, he, fun v q => nomatch q⟩
    · rw [z]; exact ⟨o, ho, fun v q => by rw [hd] at q; cases q⟩
  keep := fun i h h' st k => let ⟨⟨old, he⟩, hi, hne⟩ := st; ⟨⟨old, k e (by simp) _ he⟩, hi.at fun o q => k it (by simp) o q, hne⟩
  item := by
    intro X hP hw hK hc i pins s σ H E I hf st hg
    subst hP hw hK
    obtain ⟨⟨old, he⟩, hit, hne⟩ := st
    obtain ⟨xs, x, hq, hx⟩ := hg
    obtain ⟨its, rv, p, hz⟩ := I.tuple hq
    obtain ⟨u, hu, ru⟩ := rv.get hx
    have hel : e < s.heap.objs.size := Heap.lt_size he
    have hil : it < s.heap.objs.size := by obtain ⟨_, q, _⟩ := hit; exact Heap.lt_size q
    have hli : a ≠ it := by
      obtain ⟨o1, q1, c1, _⟩ := id p
      obtain ⟨o2, q2, c2, _⟩ := id hit
      exact ne_of_cls q1 q2 (by rw [c1, c2]; decide)
    have hea : e ≠ a := by
      obtain ⟨o1, q1, c1, _⟩ := id p
      exact ne_of_cls he q1 (by rw [c1]; show Value.type "enumerate" ≠ Value.type "tuple"; decide)
    have hlt : i < its.toArray.size := by
      have := (List.getElem?_eq_some_iff.mp hu).1
      rw [List.size_toArray]
      exact this
    refine wpAny_pyNext_enum_itemD (dn_Draws_tuple (prog := X.prog) (w := X.w) (A := X.A.in1) (I.ok.hd hc) it a hli its.toArray) he ⟨hit, p⟩ hlt hne (by simp [hne, hea]) fun x' h' tk hP ho hst' hT hsz hk => ?_
    have ex : x' = u := by
      have hP : its.toArray[i]? = some x' := hP
      rw [List.getElem?_toArray, hu] at hP
      exact (Option.some.inj hP).symm
    subst ex
    refine ⟨_, rfl, wpAny_letOwnedTupleGo_enum (s := { s with heap := h', toks := tk + 1 }) ho fun h'' he' sb => ?_⟩
    have hT2 : h''.get? s.heap.objs.size = some { cls := .type "tuple", data := .seq #[.int i tk, x'] } := (sb.2 _ (Nat.ne_of_gt hel)).trans hT
    have new : ObjOk X.prog X.w (upd H s.heap.objs.size (.tup [.int (i : Nat), x])) h'' s.heap.objs.size (.tup [.int (i : Nat), x]) :=
      ⟨by show 2 ≤ sizeLine; decide, [.int i tk, x'], .cons ⟨_, rfl⟩ (.cons ru .nil), ⟨_, hT2, rfl, _, rfl⟩⟩
    have I1 : Inv X pins σ (upd H s.heap.objs.size (.tup [.int (i : Nat), x])) { s with heap := h'', toks := tk + 1 } :=
      I.turnedNew (ch := [e, it]) (fun b ob hb q => (sb.2 b (fun z => hb (by simp [z]))).trans (hk b ob (fun z => hb (by simp [z])) (fun z => hb (by simp [z])) q)) hf (Nat.le_refl _) new
    refine ⟨.ref s.heap.objs.size, _, I1, rfl, ⟨_, x, rfl, I.hok.fresh (Nat.le_refl _), rfl, fun ys hy => by rw [I.tuple_inj hy hq]; exact hx⟩, ⟨⟨x', ?_⟩, hst'.1.at fun o q => (sb.2 it (Ne.symm hne)).trans q, hne⟩, fun b hb => ?_⟩
    · have e1 : ((i + 1 : Nat) : Int) = (i : Int) + 1 := by omega
      rw [e1]; exact he'
    · have hb' : b < s.heap.objs.size := by
        have e' : b = e ∨ b = it := by simpa using hb
        rcases e' with z | z
        · rw [z]; exact hel
        · rw [z]; exact hil
      rw [upd_ne (Nat.ne_of_lt hb')]
      exact (hf b hb).1
  done := by
    intro X hP hw hK hc i pins s σ H E I hf st hg
    subst hP hw hK
    obtain ⟨⟨old, he⟩, hit, hne⟩ := st
    obtain ⟨xs, hq, hx⟩ := hg
    obtain ⟨its, rv, p, hz⟩ := I.tuple hq
    obtain ⟨f0, f1, f2, f3, f4, f5⟩ := hf it (by simp)
    have hl := rv.length
    have hT : s.TypeIs (.ref e) "enumerate" := ⟨_, he, rfl⟩
    unfold pyNext
    refine wpAny_bind (wpAny_attempt (wpAny_callSpecial?_slot (name := Str.ofString "__next__") hT F.slot_enumerate_next
      (wpAny_call_entry F.slot_enumerate_next hT F.entry_enumerate_next ?_ (F.args_enumerate_next_1 _))))
    show wpAny _ _ (PySem.field (.ref e) 2 >>= _) _ _ _
    refine wpAny_bind (wpAny_field he rfl (x := .ref it) rfl ?_)
    refine wpAny_bind (RZ.nextOf_tuple_end (I.ok.hd hc) hit p (by simp; omega) fun h' x he' hx' => ?_)
    obtain ⟨o, ho, hc'⟩ := hx'
    refine wpAny_bind (wpAny_isInstance (T := "StopIteration") (b := true) ⟨o, ho, hc'⟩ isSubtype_stop ?_)
    exact wpAny_pure ⟨rfl, I.turned (t' := s.toks) (fun b o hb q => he' b o hb q) f0 f1 f3 f4 f5⟩
  self := fun A i s Q E st h => let ⟨⟨_, he⟩, _⟩ := st; wpAny_pyIter_enum he h
def iEnumT (K : PySem.W.Frag) (ta : TA) : TI := fun σ H R => ta σ H fun vs H1 => ∃ a xs, vs = [.ref a] ∧ SqT K H1 a xs ∧ R (IteT K a) H1
theorem pi_enumT {X : Cx} {e : Expr} {ta : TA} {p pos tpos : Pos} {elts : List Expr} {kk : Nat} (hg : Gl X "enumerate") (hm : X.mg "enumerate" = none) (ha : PA X [e] ta) (hs : starEach [e] X.env = [(false, eval e X.env)] := by rfl) :
    PI X (.Tuple elts kk tpos) (.Call (.Name "enumerate" p) [e] [] pos) (iEnumT X.K ta) := by
  refine ⟨fun pins s σ H R I h => ?_⟩
  refine Call_ (ld_blt I hg hm boot_enumerate (PyProof.Rows.callWith_type1 (thn (ha.run pos pins s σ H _ I h) fun us s1 ⟨vs, H1, I1, r1, q1⟩ => ?_) hs rfl))
  obtain ⟨a, xs, ex, hq, q⟩ := q1
  subst ex
  cases r1 with
  | cons r rr =>
    cases rr
    cases r
    obtain ⟨its, rv, p', hz⟩ := I1.tuple hq
    refine dn_call_enumerate_tuple (show s1.heap.IsTuple a its.toArray from p') fun h' he hit hsz hk => wpAny_pyIter_enum he ?_
    have I2 : Inv X pins σ H1 { s1 with heap := h' } := I1.kept (t' := s1.toks) hk
    refine ⟨s1.heap.objs.size + 1, [s1.heap.objs.size + 1, s1.heap.objs.size], _, _, H1, rfl, I2, turn_enumT a (s1.heap.objs.size + 1) s1.heap.objs.size, ⟨⟨.none, he⟩, hit, Nat.succ_ne_self _⟩, fun b hb => ?_, q⟩
    have e' : b = s1.heap.objs.size + 1 ∨ b = s1.heap.objs.size := by simpa using hb
    have hle : s1.heap.objs.size ≤ b := by
      rcases e' with z | z
      · rw [z]; exact Nat.le_add_right _ _
      · rw [z]; exact Nat.le_refl _
    exact I1.fpOk hle (I1.hok.fresh hle)
theorem walk_enumT {K : PySem.W.Frag} {a : Addr} {xs : List V} : Walk (IteT K a) xs.length (fun H => SqT K H a xs) (YPair (fun i => some (.int (i : Nat))) (fun i => xs[i]?)) := by
  refine ⟨fun i _ hi q => ⟨xs, xs[i], q, by simp [hi]⟩, fun _ q => ⟨xs, q, Nat.le_refl _⟩, fun i H v H' _ q y => ?_⟩
  obtain ⟨T, x, h1, h2, h3, h4⟩ := y
  exact ⟨T, .int (i : Nat), x, h1, h2, h3, rfl, h4 xs q⟩
end L2
namespace Dn
open PySem PySem.Spec L2
open Rep (rep)
theorem di_enumU {c : Ct} {env : List Slot} {a : Expr} {α : Type} [Rep α] {elts : List Expr} {k : Nat} {tpos p pos : Pos} {m : Option (Tup α)} (hm : c.mg "enumerate" = none) (h : De c env a m) (hg : Gv c "enumerate" := by rfl)
    (hpe : ∀ (X : Cx) (t : TE), PE X a t → Gl X "enumerate" → X.mg "enumerate" = none → PI X (.Tuple elts k tpos) (.Call (.Name "enumerate" p) [a] [] pos) (iEnumT X.K (tCons t tNil)) := by
      intro X t h1 h3 h4; exact pi_enumT h3 h4 (pa_cons h1 pa_nil)) :
    DeItT c env (.Tuple elts k tpos) (.Call (.Name "enumerate" p) [a] [] pos) (m.bind fun x => some (enumL 0 x.l)) := by
  obtain ⟨t, h1, h2⟩ := h
  refine ⟨iEnumT c.K (tCons t tNil), fun X F => by rw [← F.K]; exact hpe X t (h1 X F) (fits_gl F hg) (by rw [F.mg]; exact hm), fun xs hx B H σ E R q => ?_⟩
  obtain ⟨x, ex, hx⟩ := bind_some hx
  cases hx
  refine h2 x ex B H σ E _ fun v B1 H1 k1 r => ?_
  obtain ⟨p1, vs, rfl, s1, r⟩ := r
  exact ⟨p1, vs, rfl, k1.bh.t s1, q _ B1 H1 k1 (dwalk_enum walk_enumT (fun H l => l.t s1) r)⟩
end Dn

set_option Elab.async false
set_option linter.all false
set_option maxRecDepth 100000
namespace Dn
open PySem PySem.Spec L2
theorem neI_strs {x : List Str} (h : lay x = true) : neI x x = some false := by
  unfold neI
  rw [h]
  have : decide (x = x) = true := decide_eq_true rfl
  show (if (true && true && decide (Dat.dep (List Str) ≤ 64)) = true then some (!decide (x = x)) else none) = some false
  rw [this]
  rfl
theorem neI_pos (x y : List Po) : neI x y = some !decide (x = y) := by
  unfold neI
  rw [lay_list lay_po, lay_list lay_po]
  rfl
theorem neI_pts (x y : List (Tup Int)) : neI x y = some !decide (x = y) := by
  unfold neI
  rw [lay_list (lay_tup lay_int), lay_list (lay_tup lay_int)]
  rfl
theorem ninD_pts (x : Tup Int) (ys : List (Tup Int)) : ninD x ys = some (!decide (x ∈ ys)) := by
  unfold ninD
  rw [lay_tup lay_int, lay_list (lay_tup lay_int)]
  rfl
theorem enumL_mem {α : Type} : ∀ {xs : List α} {n : Nat} {q : Int × α}, q ∈ enumL n xs → ∃ i x, q = (((n + i : Nat) : Int), x) ∧ xs[i]? = some x
  | [], _, _, h => nomatch h
  | x :: xs, n, q, h => by
    have h : q ∈ ((n : Int), x) :: enumL (n + 1) xs := h
    cases h with
    | head => exact ⟨0, x, rfl, rfl⟩
    | tail _ h =>
      obtain ⟨i, y, e, g⟩ := enumL_mem h
      refine ⟨i + 1, y, ?_, ?_⟩
      · rw [e]
        congr 2
        omega
      · rw [List.getElem?_cons_succ]
        exact g
theorem compO_enum {α : Type} {h : Int × α → Option (Option α)} (V : α → Bool) : ∀ {xs : List α} {n : Nat}, (∀ q ∈ enumL n xs, h q = if V q.2 = true then some (some q.2) else some none) → compO h (enumL n xs) = some (xs.filter V)
  | [], _, _ => rfl
  | x :: xs, n, hh => by
    show (h ((n : Int), x)).bind _ = _
    rw [hh _ (List.mem_cons_self ..), compO_enum V fun z hz => hh z (List.mem_cons_of_mem _ hz), List.filter_cons]
    cases V x <;> rfl
theorem PolT.filter {T : List (Tup Int)} {p : Int} {t : Po} (h : PolT T p t) (V : Tup Int × Int → Bool) : PolT T p ⟨t.l.filter V⟩ :=
  ⟨fun q hq => h.mem q (List.mem_filter.mp hq).1, List.Pairwise.sublist (List.Sublist.map _ List.filter_sublist) h.fall⟩
def SolF (p : Int) (pw : Tup Int → Tup Int → Int) (es : List Po) (b : Tup Int) : Bool := es.all fun e => decide (EV p pw e b = 0)
theorem all_map_id {α : Type} (f : α → Bool) : ∀ xs : List α, (xs.map f).all id = xs.all f
  | [] => rfl
  | x :: xs => by
    rw [List.map_cons, List.all_cons, List.all_cons, all_map_id f xs]
    rfl
end Dn

set_option Elab.async false
set_option linter.all false
set_option maxRecDepth 100000
namespace Dn
open PySem PySem.Spec L2
open Rep (rep)
section
variable {c : Ct} {env : List Slot} {a e : Expr}
end
end Dn

set_option Elab.async false
set_option linter.all false
set_option maxRecDepth 100000
namespace L2
open PySem PySem.Spec PyProof.Rows
section
variable {P : Program} {w : World} {A : Around} {E : Value → Shared → Prop} {s : Shared} {a : Addr} {L : List (Addr × List Int)} {es : Array (Int × Value)} {ep : Nat} {t : SetTable}
end
section
variable {X : Cx}
end
end L2

set_option Elab.async false
set_option linter.all false
set_option maxRecDepth 100000
namespace Dn
open PySem PySem.Spec L2
open Rep (rep)
open ORep (orep)
theorem sortD_of {xs ys : List (Tup Int)} (h : ys.Pairwise fun a b => ¬ b.l < a.l) (p : ys.Perm xs) : sortD xs = ys :=
  List.Perm.eq_of_pairwise (le := fun a b : Tup Int => ¬ b.l < a.l) (fun a b _ _ h g => tup_ext (tri g h)) (sortD_pw xs) h ((sortD_perm xs).trans p.symm)
section
variable {c : Ct} {env : List Slot} {e elt iter tg : Expr} {α β : Type} [Rep α] [Rep β]
end
end Dn

set_option Elab.async false
set_option linter.all false
set_option maxRecDepth 100000
namespace Dn
open PySem PySem.Spec L2
open Rep (rep)
open ORep (orep)
section
variable {c : Ct} {env : List Slot} {a e o : Expr} {α : Type} [Rep α]
end
section
variable {S L R : Type} [Rep R] {c : Ct} {env : List Slot} {rest : List Stmt} {e i : Expr} {mk : S → List Slot} {lk : L → List Slot} {α : Type} [Rep α]
theorem Reps.erase {K : PySem.W.Frag} {B : Hp} : ∀ {vs : List V} {xs : List α}, Reps K B vs xs → ∀ n, Reps K B (vs.eraseIdx n) (xs.eraseIdx n) := by
  intro vs xs r
  induction r with
  | nil => exact fun n => .nil
  | cons h t ih =>
    intro n
    cases n with
    | zero => exact t
    | succ n => exact .cons h (ih n)
end
section
variable {c : Ct} {env : List Slot} {α β R : Type} [Rep α] [Rep β] [ORep R]
end
end Dn

set_option Elab.async false
set_option linter.all false
set_option maxRecDepth 100000
namespace Dn
open PySem PySem.Spec L2
open Rep (rep)
open ORep (orep)
def thaw (B : Hp) (a : Addr) : Hp := fun u => if u = a then none else B u
class Thaw (α : Type) [Rep α] : Prop where
  thaw : ∀ {K : PySem.W.Frag} {B : Hp} {a : Addr} {ls : List V} {v : V} {x : α}, B a = some (.lst ls) → rep K B v x → rep K (thaw B a) v x
instance : Thaw Int := ⟨fun _ h => h⟩
instance : Thaw Bool := ⟨fun _ h => h⟩
instance : Thaw Str := ⟨fun _ h => h⟩
theorem SqT_thaw {K : PySem.W.Frag} {B : Hp} {a b : Addr} {ls ws : List V} (h : B a = some (.lst ls)) (s : SqT K B b ws) : SqT K (thaw B a) b ws := by
  have key : ∀ {o : HO}, B b = some o → o ≠ .lst ls → thaw B a b = some o := fun {o} e n => by
    have z : b ≠ a := fun k => by
      rw [k, h] at e
      exact n (Option.some.inj e).symm
    show (if b = a then none else B b) = some o
    rw [if_neg z]
    exact e
  rcases s with (s | ⟨o, s⟩) | s
  · exact .inl (.inl (key s (fun e => nomatch e)))
  · exact .inl (.inr ⟨o, key s (fun e => nomatch e)⟩)
  · exact .inr s
theorem reps_thaw {α : Type} [Rep α] [Thaw α] {K : PySem.W.Frag} {B : Hp} {a : Addr} {ls : List V} (h : B a = some (.lst ls)) {vs : List V} {xs : List α} (r : Reps K B vs xs) : Reps K (thaw B a) vs xs := by
  induction r with
  | nil => exact .nil
  | cons p _ ih => exact .cons (Thaw.thaw h p) ih
instance {α : Type} [Rep α] [Thaw α] : Thaw (Tup α) := ⟨fun h r => by
  obtain ⟨b, vs, rfl, s, r⟩ := r
  exact ⟨b, vs, rfl, SqT_thaw h s, reps_thaw h r⟩⟩
section
variable {c : Ct} {env : List Slot} {e : Expr} {α β : Type} [Rep α] [Rep β]
theorem de_tmpT [Thaw β] {φ : PySem.W.Frag → Hp → Addr → HO → Prop} {hm : ∀ K B B' a o, Le B B' → φ K B a o → φ K B' a o} {xs : List α} {m : Option β} (i : Nat) (he : env[i]? = some (.obj φ hm)) (hφ : ∀ K B a o, φ K B a o → orep K B o xs) (h : De c (env.set i (.val xs)) e m) : De c env e m := by
  obtain ⟨t, h1, h2⟩ := h
  refine ⟨t, h1, fun x hx B H σ E Q q => ?_⟩
  obtain ⟨a, vs, nb, ha, E'⟩ := env_thaw E he hφ
  exact h2 x hx _ H σ E' Q fun v B' H' g r => q v _ H' (grow_thaw nb g) (Thaw.thaw (g.b a _ upd_same) r)
end
def spIO (K : PySem.W.Frag) (C : Addr) {α β R : Type} [Rep α] [Rep β] (fl : R → List (Str × Slot)) (f : α → List β → Option R) : Sp := fun vs H Q _ => ∃ (p : α) (names : List β) (B : Hp) (x dx g : Addr) (vp : V) (ls : List V), vs = [.ref x, vp, .ref g] ∧ rep K B vp p ∧ Le B H ∧ H g = some (.lst ls) ∧ B g = none ∧ Reps K B ls names ∧ H x = some (.ins C dx []) ∧ B x = none ∧
  ∃ r, f p names = some r ∧ ∀ o B' H' ls', Le B B' → Le B' H' → (∀ a u, a ≠ x → a ≠ g → H a = some u → H' a = some u) → (∀ a, B a = none → ¬ H a = none → B' a = none) → H' x = some o → insφ C x (fl r) K B' x o → H' g = some (.lst ls') → B' g = none → Reps K B' ls' names → Q .non H'
theorem initO_ok {P : Program} {w : World} {K : PySem.W.Frag} {mg : Str → Option Value} {base : Heap} {S L R α β : Type} [Rep α] [Rep β] {x qual : Str} {st : Stmt} {f C : Addr} {fd : FuncData} {N : List Str} {n1 n2 n3 : Str} {Nr : List Str} {k : Nat} {mk : Addr → Addr → α → List β → S → List Slot} {lk : L → List Slot} {m : α → List β → Fl S L Unit} {fl : R → List (Str × Slot)} {r : S → R}
    (F : Fun K x qual st f fd) (hN : N = n1 :: n2 :: n3 :: Nr) (Sc : FnScope N [n1, n2, n3] (defScope st)) (hmk : ∀ y g p ns s, (mk y g p ns s)[0]? = some (.ins C y (fl (r s))) ∧ (mk y g p ns s)[2]? = some (.ownAt g ns))
    (hb : ∀ (p : α) (ns : List β) (y g : Addr), DeS (ctOf P w K mg base k N (defScope st)) (.ins C y [] :: .val p :: .ownAt g ns :: List.replicate Nr.length .any) (defBody st) (mk y g p ns) lk (m p ns)) :
    FnOk P w K mg base CX0 (k + 1) f fd [n1, n2, n3] (spIO K C fl fun p ns => initG r (m p ns)) := by
  refine F.ok Sc (fun vs H Q E h => ?_) (fun cdv A outer s H vs Q E hr h => ?_)
  · obtain ⟨p, ns, B, y, dx, g, vp, ls, rfl, _⟩ := h
    rfl
  · obtain ⟨p, ns, B, y, dx, g, vp, ls, rfl, rp, lB, hgl, bg, rls, hy, by0, r', hf, q⟩ := h
    refine ⟨_, cS_ps _ (fits_def hr), ?_⟩
    have nyg : y ≠ g := fun e => by
      rw [e, hgl] at hy
      cases hy
    have O : StOk K B (fun a => if a = y ∨ a = g then none else H a) B H (L2.start N [.ref y, vp, .ref g]) (.ins C y [] :: .val p :: .ownAt g ns :: List.replicate Nr.length .any) := by
      subst hN
      have st0 : L2.start (n1 :: n2 :: n3 :: Nr) [V.ref y, vp, V.ref g] = some (.ref y) :: some vp :: some (.ref g) :: List.replicate Nr.length none := by
        show [some (V.ref y), some vp, some (V.ref g)] ++ List.replicate (Nr.length + 3 - 3) none = _
        rw [Nat.add_sub_cancel]
        rfl
      rw [st0]
      refine ⟨⟨lB, by simp, fun i s h => ?_, fun i j' s t h1 h2 o1 o2 e => ?_⟩, ⟨Le.refl _, lB, fun a u z => ?_, fun _ z _ => z⟩, fun i s a h o e => ?_, fun i ψ hm h => by
        match i, h with
        | 0, h => cases h
        | 1, h => cases h
        | 2, h => cases h
        | i + 3, h =>
          have h : (List.replicate Nr.length Slot.any)[i]? = some (.deep ψ hm) := h
          have := List.eq_of_mem_replicate (List.mem_of_getElem? h)
          cases this⟩
      · match i, h with
        | 0, h => cases h; exact ⟨y, _, rfl, hy, by0, rfl, dx, [], rfl, .nil⟩
        | 1, h => cases h; exact ⟨vp, rfl, rp⟩
        | 2, h => cases h; exact ⟨g, _, rfl, hgl, bg, rfl, ls, rfl, rls⟩
        | i + 3, h =>
          have h : (List.replicate Nr.length Slot.any)[i]? = some s := h
          rw [List.eq_of_mem_replicate (List.mem_of_getElem? h)]
          trivial
      · have own : ∀ (n : Nat) (s : Slot), (Slot.ins C y [] :: Slot.val p :: Slot.ownAt g ns :: List.replicate Nr.length Slot.any)[n]? = some s → isOwn s = true → n = 0 ∨ n = 2 := fun n s h o => by
          match n, h with
          | 0, _ => exact .inl rfl
          | 1, h => cases h; cases o
          | 2, _ => exact .inr rfl
          | n + 3, h =>
            have h : (List.replicate Nr.length Slot.any)[n]? = some s := h
            rw [List.eq_of_mem_replicate (List.mem_of_getElem? h)] at o
            cases o
        rcases own i s h1 o1 with rfl | rfl <;> rcases own j' t h2 o2 with rfl | rfl
        · rfl
        · exact absurd (by injection e with e; injection e with e; injection e) nyg
        · exact absurd (by injection e with e; injection e with e; injection e with e; exact e.symm) nyg
        · rfl
      · have z : (if a = y ∨ a = g then none else H a) = some u := z
        split at z
        · cases z
        · exact z
      · have : a = y ∨ a = g := by
          match i, h with
          | 0, h => cases e; exact .inl rfl
          | 1, h => cases h; cases o
          | 2, h => cases e; exact .inr rfl
          | i + 3, h =>
            have h : (List.replicate Nr.length Slot.any)[i]? = some s := h
            rw [List.eq_of_mem_replicate (List.mem_of_getElem? h)] at o
            cases o
        show (if a = y ∨ a = g then none else H a) = none
        rw [if_pos this]
    refine hb p ns y g B _ B H _ O _ ?_
    replace hf : (match m p ns with | .nx s => some (r s) | _ => none) = some r' := hf
    cases hm : m p ns with
    | err => rw [hm] at hf; cases hf
    | nx s' =>
      rw [hm] at hf
      cases hf
      intro B' H' σ' lb O'
      obtain ⟨a, o, e1, e2, e3, e4⟩ := O'.en.obj (hmk y g p ns s').1
      obtain ⟨a2, o2, f1, f2, f3, rfl, ls', rfl, f4⟩ := O'.en.obj (hmk y g p ns s').2
      obtain ⟨rfl, _⟩ := id e4
      refine q o B' H' ls' lb O'.en.bh (fun b u n n' z => O'.g.h b u ?_) (fun b z n => ?_) e2 e4 f2 f3 f4
      · show (if b = a ∨ b = a2 then none else H b) = some u
        rw [if_neg (fun k => k.elim n n')]
        exact z
      · by_cases k : b = a
        · rw [k]
          exact e3
        · by_cases k2 : b = a2
          · rw [k2]
            exact f3
          · refine O'.g.f b z fun t => n ?_
            have t : (if b = a ∨ b = a2 then none else H b) = none := t
            rw [if_neg (fun q => q.elim k k2)] at t
            exact t
    | rt r' => rw [hm] at hf; cases hf
    | bk s' => rw [hm] at hf; cases hf
    | ct s' => rw [hm] at hf; cases hf
structure MdO (c : Ct) (x : Str) (C : Addr) {α β R : Type} [Rep α] [Rep β] (fl : R → List (Str × Slot)) (f : α → List β → Option R) : Prop where
  ok : ∃ (j : Nat) (fa : Addr) (fd : FuncData) (ps : List Str), FnOk c.P c.w c.K c.mg c.base CX0 j fa fd ps (spIO c.K C fl f) ∧ j + 1 ≤ c.k ∧ c.mg x = some (.ref C) ∧ Mk c.K C fa ∧ Binds c.K fd ps []
section
variable {S L R R0 α β : Type} [Rep R] [Rep R0] [Rep α] [Rep β] {c : Ct} {env : List Slot} {rest : List Stmt} {e : Expr} {mk : S → List Slot} {lk : L → List Slot}
theorem ds_makeO {C : Addr} {fl : R0 → List (Str × Slot)} {f : α → List β → Option R0} {x y0 cn : Str} {px py pc cpos apos : Pos} {m : Option α} {ys : List β} {k : R0 → Fl S L R} (i v : Nat) (D : MdO c cn C fl f)
    (hr : ∀ (B : Hp) (a dx : Addr) (fs : List (Str × V)) (r : R0), B a = some (.ins C dx fs) → Pr2 (FldOk c.K B) fs (fl r) → rep c.K B (.ref a) r) (h : De c env e m) (hv : env[v]? = some (.own ys)) (hvN : c.N[v]? = some y0) (hvv : Vis c.sc y0) (nd : c.N.Nodup)
    (hi : c.N[i]? = some x) (hx : Loc c.sc x) (hfx : c.fn x = true ∨ c.sc.names.lookup x = some .local) (g : ∀ r, DeS c (env.set i (.val r)) rest mk lk (k r)) (hg : Gv c cn := by rfl) (hdb : (cn == ("__debug__" : Str)) = false := by decide) (hyd : (y0 == ("__debug__" : Str)) = false := by decide) (hyc : (y0 == ("__classdict__" : Str)) = false := by decide)
    (hse : ∀ env, starEach [e, .Name y0 py] env = (false, eval e env) :: starEach [.Name y0 py] env := by intro _; rfl) (hse2 : ∀ env, starEach [.Name y0 py] env = (false, eval (.Name y0 py) env) :: starEach [] env := by intro _; rfl) (hsw : ∀ env : PySem.Env, env.scope = c.sc → swapsWith (.Call (.Name cn pc) [e, .Name y0 py] [] cpos) (some (.Name x px)) apos.line env = pure false := by intro _ _; rfl) :
    DeS c env (.Assign [.Name x px] (.Call (.Name cn pc) [e, .Name y0 py] [] cpos) apos :: rest) mk lk (Fl.bindO m fun p => Fl.bindO (f p ys) k) := .mk fun B0 H0 B H σ O Dn P => by
  obtain ⟨p, ep, P⟩ := post_bindO P
  obtain ⟨r, eo, P⟩ := post_bindO P
  obtain ⟨jl, fa, fd, ps, F, hjl, hm, M, hb⟩ := D.ok
  obtain ⟨t, a1, a2⟩ := h
  refine cS_cons (t := tAsg (tMake C (spIO c.K C fl f) [] E0 (tCons t (tCons (tVar v) tNil))) (gName i)) (fun X Fx => ?_) ?_
  · refine ps_set (by rw [Fx.N]; exact nd) (fits_ix Fx hi) (fits_loc Fx hx) (pe_make (CX := CX0) (k := jl) (f := fa) (fd := fd) (ps := ps) (ds := []) (by rw [Fx.K]; exact M) ?_ (Fx.room.mono hjl) (fits_gl Fx hg) (by rw [Fx.mg]; exact hm) (by rw [Fx.K]; exact hb) .nil pass0 (pa_cons (a1 X Fx) (pa_cons (pe_var (fits_ix Fx hvN) (fits_vis Fx hvv) hyd hyc) pa_nil (hse2 _)) (hse _)) hdb (hse _) (by rw [hse2]; rfl)) (hsw _ Fx.sc) (by rw [Fx.fn, Fx.sc]; exact hfx)
    rw [Fx.P, Fx.w, Fx.K, Fx.mg, Fx.base]
    exact F
  · refine a2 p ep B H σ O.en _ fun vp B1 H1 k1 rp => ?_
    have O1 := O.grow k1
    obtain ⟨ga, gob, w1, w2, w3, gls, rfl, w4⟩ := O1.en.own hv
    refine ⟨.ref ga, w1, ?_⟩
    intro y dx nx nd' ne
    have ex : ∀ u, u ≠ y → u ≠ dx → (upd (upd H1 dx (.own y)) y (.ins C dx [])) u = H1 u := fun u h1 h2 => by rw [upd_ne h1, upd_ne h2]
    have l1 : Le H1 (upd (upd H1 dx (.own y)) y (.ins C dx [])) := fun u o z => by
      rw [ex u (fun k => by rw [k, nx] at z; cases z) (fun k => by rw [k, nd'] at z; cases z)]
      exact z
    refine ⟨p, ys, B1, y, dx, ga, vp, gls, rfl, rp, k1.bh.trans l1, l1 _ _ w2, w3, w4, upd_same, k1.bh.none nx, ?_⟩
    refine ⟨r, eo, fun ob B2 H2 ls' b12 b2 hh hf ho hi2 hg2 bg2 rg2 => ⟨rfl, ?_⟩⟩
    obtain ⟨_, dx', fs, rfl, pr⟩ := id hi2
    have ngy : ga ≠ y := fun k => by rw [k, nx] at w2; cases w2
    have nb2 : B2 y = none := hf y (k1.bh.none nx) (by rw [upd_same]; exact fun z => nomatch z)
    have lB : Le (upd B2 y (.ins C dx' fs)) H2 := fun u o z => by
      by_cases k : u = y
      · rw [k, upd_same] at z
        rw [k, ho, z]
      · rw [upd_ne k] at z
        exact b2 u o z
    -- the heap with the lent list as it was, then changed
    have gr : Grow B1 H1 (upd B2 y (.ins C dx' fs)) (upd H2 ga (.lst gls)) := ⟨b12.trans (Le.put nb2), fun u o z => by
        by_cases k : u = ga
        · rw [k, upd_ne ngy, bg2] at z
          cases z
        · rw [upd_ne k]
          exact lB u o z, fun u o z => by
        by_cases k : u = ga
        · rw [k, upd_same]
          rw [k, w2] at z
          exact z
        · rw [upd_ne k]
          exact hh u o (fun k' => by rw [k', nx] at z; cases z) k (l1 u o z), fun u z n => by
        rw [upd_ne (fun k => n (by rw [k]; exact nx))]
        refine hf u z fun w => n ?_
        rw [ex u (fun k => n (by rw [k]; exact nx)) (fun k => n (by rw [k]; exact nd'))] at w
        exact w⟩
    have O2 := O1.grow gr
    have lb2 : Le B2 (upd B2 y (.ins C dx' fs)) := Le.put nb2
    have O3 := O2.change (ψ := fun K B _ o => orep K B o ys) (hm' := fun _ _ _ _ _ e h => ORep.omono e h) v hv w1 (o' := .lst ls') ⟨ls', rfl, rg2.mono lb2⟩
    rw [upd_upd] at O3
    have eH : upd H2 ga (.lst ls') = H2 := by
      funext u
      by_cases k : u = ga
      · rw [k, upd_same, hg2]
      · rw [upd_ne k]
    rw [eH] at O3
    have eE : env.set v (.obj (fun K B _ o => orep K B o ys) (fun _ _ _ _ _ e h => ORep.omono e h)) = env := by
      refine List.ext_getElem? fun u => ?_
      by_cases k : v = u
      · subst k
        rw [List.getElem?_set_self (List.getElem?_eq_some_iff.mp hv).1, hv]
      · rw [List.getElem?_set_ne k]
    rw [eE] at O3
    refine g r B0 H0 _ H2 _ (O3.setV i (hr _ y dx' fs r upd_same (pr.imp fun _ _ ⟨q1, q2, q3⟩ => ⟨q1, q2.monoV lb2 q3, q3⟩))) Dn (P.mono (k1.b.trans (b12.trans lb2)))
end
structure GkO (P : Program) (w : World) (K : PySem.W.Frag) (mg : Str → Option Value) (base : Heap) (j : Nat) (x : Str) (C : Addr) {α β R : Type} [Rep α] [Rep β] (fl : R → List (Str × Slot)) (f : α → List β → Option R) : Prop where
  ok : ∃ (fa : Addr) (fd : FuncData) (ps : List Str), FnOk P w K mg base CX0 j fa fd ps (spIO K C fl f) ∧ mg x = some (.ref C) ∧ Mk K C fa ∧ Binds K fd ps []
theorem GkO.md {P : Program} {w : World} {K : PySem.W.Frag} {mg : Str → Option Value} {base : Heap} {j : Nat} {x : Str} {C : Addr} {α β R : Type} [Rep α] [Rep β] {fl : R → List (Str × Slot)} {f : α → List β → Option R} (G : GkO P w K mg base j x C fl f) {c : Ct} (hP : c.P = P := by rfl) (hw : c.w = w := by rfl) (hK : c.K = K := by rfl) (hmg : c.mg = mg := by rfl) (hb : c.base = base := by rfl) (hj : j + 1 ≤ c.k := by exact Nat.le_of_ble_eq_true rfl) : MdO c x C fl f := by
  obtain ⟨P', w', K', mg', base', k, N, sc, fn, df⟩ := c
  cases hP; cases hw; cases hK; cases hmg; cases hb
  obtain ⟨fa, fd, ps, h1, h2, h3, h4⟩ := G.ok
  exact ⟨j, fa, fd, ps, h1, hj, h2, h3, h4⟩
end Dn

set_option Elab.async false
set_option linter.all false
set_option maxRecDepth 100000
set_option maxHeartbeats 1000000
namespace Dn
open PySem PySem.Spec
structure Col where
  it : Addr
  l : Addr
  xs : List Value
abbrev ZO (h : Heap) (z TI TO : Addr) (f0 : Value) (f1 : Bool) : Prop := h.get? z = some { cls := .type "zip", dict := none, data := .fields #[f0, .bool f1, .bool false, .ref TI, .ref TO], slots := #[] }
abbrev TP (h : Heap) (T : Addr) (vs : List Value) : Prop := h.get? T = some { cls := .type "tuple", data := .seq vs.toArray }
structure ZA (z TI TO : Addr) (cs : List Col) : Prop where
  a1 : TI ≠ z
  a2 : TO ≠ z
  a3 : TI ≠ TO
  i1 : ∀ c ∈ cs, c.it ≠ z
  i2 : ∀ c ∈ cs, c.it ≠ TI
  i3 : ∀ c ∈ cs, c.it ≠ TO
  l1 : ∀ c ∈ cs, c.l ≠ z
  l3 : ∀ c ∈ cs, c.l ≠ TO
  li : ∀ c ∈ cs, ∀ d ∈ cs, c.l ≠ d.it
  nd : (cs.map (·.it)).Nodup
def Ext (z TO : Addr) (cs : List Col) (h h' : Heap) : Prop := ∀ c o, c ≠ z → c ≠ TO → c ∉ cs.map (·.it) → h.get? c = some o → h'.get? c = some o
structure Part (s : Shared) (z TI TO : Addr) (cs : List Col) (n : Nat) (f0 : Value) (f1 : Bool) (k : Nat) (row : List Value) (s' : Shared) : Prop where
  sh : ∃ h', s' = { s with heap := h' }
  zo : ZO s'.heap z TI TO f0 f1
  tp : ∃ vs, TP s'.heap TO vs ∧ vs.length = cs.length ∧ ∀ j, j < k → vs[j]? = row[j]?
  done : ∀ j c, j < k → cs[j]? = some c → s'.heap.IsListIter c.it c.l (n + 1)
  rest : ∀ j c, k ≤ j → cs[j]? = some c → s'.heap.IsListIter c.it c.l n
  ls : ∀ c ∈ cs, s'.heap.IsList c.l c.xs.toArray
  sz : s'.heap.objs.size = s.heap.objs.size
  ext : Ext z TO cs s.heap s'.heap
section
variable {prog : Program} {w : World} {A : Around} {E : Value → Shared → Prop} {s : Shared} {z TI TO : Addr} {cs : List Col} {n : Nat}
theorem nd_it (D : ZA z TI TO cs) {i j : Nat} {c d : Col} (hc : cs[i]? = some c) (hd : cs[j]? = some d) (h : i ≠ j) : c.it ≠ d.it := fun e => by
  have h1 : (cs.map (·.it))[i]? = some c.it := by rw [List.getElem?_map, hc]; rfl
  have h2 : (cs.map (·.it))[j]? = some d.it := by rw [List.getElem?_map, hd]; rfl
  obtain ⟨l1, g1⟩ := List.getElem?_eq_some_iff.mp h1
  obtain ⟨l2, g2⟩ := List.getElem?_eq_some_iff.mp h2
  have := D.nd
  rcases Nat.lt_or_gt_of_ne h with q | q
  · exact (List.pairwise_iff_getElem.mp this i j l1 l2 q) (by rw [g1, g2, e])
  · exact (List.pairwise_iff_getElem.mp this j i l2 l1 q) (by rw [g1, g2, e])
theorem updateSeq_TP {T : Addr} {vs : List Value} {x : Value} {k : Nat} {Q : Unit → Shared → Prop} (hT : TP s.heap T vs) (hl : vs.length ≤ 100)
    (h : ∀ h', TP h' T (vs.set k x) → Heap.SameBut T s.heap h' → Q () { s with heap := h' }) :
    wpAny (model prog w) A (updateSeq T (·.setIfInBounds k x)) Q E s := by
  have hz : vs.toArray.size ≤ sizeLine := by rw [List.size_toArray]; exact Nat.le_trans hl (by decide)
  refine wpAny_updateSeq hT rfl (h _ ?_ (Heap.SameBut.update ..)) hz (by rw [Array.size_setIfInBounds]; exact Nat.le_succ_of_le hz)
  show (s.heap.update T (Obj.mapSeq (·.setIfInBounds k x))).get? T = _
  rw [Heap.get?_update_self _ hT rfl]
  simp [Obj.mapSeq]
theorem wpAny_alive {a : Addr} {Q : Option Obj → Shared → Prop} (h : Q (s.heap.get? a) s) : wpAny (model prog w) A (loadIfAlive a) Q E s := fun Γ p hΓ => by
  unfold loadIfAlive
  rw [Sem.wp_loadIfAlive]
  exact h
theorem part_step (D : ZA z TI TO cs) {f0 : Value} {f1 : Bool} {k : Nat} {row : List Value} {s' : Shared} {c : Col} {x : Value} (p : Part s z TI TO cs n f0 f1 k row s') (hc : cs[k]? = some c) {h1 h2 : Heap} (hi : h1.IsListIter c.it c.l (n + 1)) (e1 : Heap.SameBut c.it s'.heap h1)
    {vs : List Value} (tv : TP h1 TO vs) (hvl : vs.length = cs.length) (hv : ∀ j, j < k → vs[j]? = row[j]?) (hr : row[k]? = some x) (t2 : TP h2 TO (vs.set k x)) (e2 : Heap.SameBut TO h1 h2) : Part s z TI TO cs n f0 f1 (k + 1) row { s' with heap := h2 } := by
  have m := List.mem_of_getElem? hc
  have kl : k < cs.length := (List.getElem?_eq_some_iff.mp hc).1
  obtain ⟨h', rfl⟩ := p.sh
  have up : ∀ a o, a ≠ c.it → a ≠ TO → h'.get? a = some o → h2.get? a = some o := fun a o n1 n2 e => e2.extBut _ _ n2 (e1.extBut _ _ n1 e)
  refine ⟨⟨h2, rfl⟩, up z _ (D.i1 c m).symm D.a2.symm p.zo, ⟨_, t2, by rw [List.length_set]; exact hvl, fun j hj => ?_⟩, fun j d hj hd => ?_, fun j d hj hd => ?_, fun d hd => ?_, ?_, fun a o n1 n2 n3 e => ?_⟩
  · by_cases q : k = j
    · subst q
      rw [List.getElem?_set_self (by omega), hr]
    · rw [List.getElem?_set_ne q]
      exact hv j (by omega)
  · by_cases q : j = k
    · subst q
      rw [hc] at hd
      cases hd
      exact hi.at fun o e => e2.extBut _ _ (D.i3 c m) e
    · exact (p.done j d (by omega) hd).at fun o e => up _ o (nd_it D hd hc q) (D.i3 d (List.mem_of_getElem? hd)) e
  · exact (p.rest j d (by omega) hd).at fun o e => up _ o (nd_it D hd hc (by omega)) (D.i3 d (List.mem_of_getElem? hd)) e
  · exact (p.ls d hd).at fun o e => up _ o (D.li d hd c m) (D.l3 d hd) e
  · show h2.objs.size = _
    rw [e2.1, e1.1]
    exact p.sz
  · exact up a o (fun q => n3 (q ▸ List.mem_map.mpr ⟨c, m, rfl⟩)) n2 (p.ext a o n1 n2 n3 e)
theorem zipIdx_ref (cs : List Col) (k : Nat) : ((cs.drop k).map fun c => Value.ref c.it).zipIdx k = match cs[k]? with
    | some c => (Value.ref c.it, k) :: ((cs.drop (k + 1)).map fun c => Value.ref c.it).zipIdx (k + 1)
    | none => [] := by
  by_cases h : k < cs.length
  · rw [List.drop_eq_getElem_cons h, List.getElem?_eq_getElem h, List.map_cons, List.zipIdx_cons]
  · rw [List.getElem?_eq_none (by omega), List.drop_eq_nil_of_le (by omega)]
    rfl
theorem zipN_item_free (D : ZA z TI TO cs) {f0 : Value} {f1 : Bool} {row : List Value} {vs0 : List Value} (hf : f0 = .none ∨ ∃ t, f0 = rawInt t ∧ s.heap.get? t.toNat = none) (hne : cs ≠ []) (hl : cs.length ≤ 100)
    (hz : ZO s.heap z TI TO f0 f1) (hTI : TP s.heap TI (cs.map fun c => Value.ref c.it)) (hTO : TP s.heap TO vs0) (hvl : vs0.length = cs.length)
    (hi : ∀ c ∈ cs, s.heap.IsListIter c.it c.l n) (hls : ∀ c ∈ cs, s.heap.IsList c.l c.xs.toArray) (hrl : row.length = cs.length) (hrow : ∀ (j : Nat) (c : Col), cs[j]? = some c → c.xs[n]? = row[j]?) {Q : Value → Shared → Prop}
    (hQ : ∀ h', ZO h' z TI TO (rawInt s.heap.objs.size) false → TP h' TI (cs.map fun c => Value.ref c.it) → TP h' TO row → (∀ c ∈ cs, h'.IsListIter c.it c.l (n + 1)) → (∀ c ∈ cs, h'.IsList c.l c.xs.toArray) → TP h' s.heap.objs.size row → h'.objs.size = s.heap.objs.size + 1 → Ext z TO cs s.heap h' → Q (.ref s.heap.objs.size) { s with heap := h' }) :
    wpAny (model prog w) A (Builtin.«zip.__next__» ⟨[.ref z], []⟩) (fun fin s' => ∃ v, fin = .done (.ret v) ∧ Q v s') E s := by
  show wpAny _ _ (field (.ref z) 2 >>= _) _ _ _
  refine wpAny_bind (wpAny_field hz rfl (x := .bool false) rfl ?_)
  show wpAny _ _ (field (.ref z) 3 >>= _) _ _ _
  refine wpAny_bind (wpAny_field hz rfl (x := .ref TI) rfl ?_)
  refine wpAny_bind (wpAny_seqItems hTI rfl ?_)
  have hem : ((cs.map fun c => Value.ref c.it).toArray).isEmpty = false := by
    cases cs with
    | nil => exact absurd rfl hne
    | cons c cs => rfl
  dsimp only
  rw [if_neg (by rw [hem]; exact Bool.false_ne_true)]
  show wpAny _ _ (Builtin.SmallTypes.ownedTupleIsFree (.ref z) >>= _) _ _ _
  have free : ∀ {Q' : Bool → Shared → Prop}, Q' true s → wpAny (model prog w) A (Builtin.SmallTypes.ownedTupleIsFree (.ref z)) Q' E s := fun {Q'} q => by
    unfold Builtin.SmallTypes.ownedTupleIsFree
    refine wpAny_bind (wpAny_field hz rfl (x := f0) rfl ?_)
    rcases hf with rfl | ⟨t, rfl, ht⟩
    · exact wpAny_pure q
    · show wpAny _ _ (loadIfAlive t.toNat >>= _) _ _ s
      refine wpAny_bind (wpAny_alive ?_)
      rw [ht]
      exact wpAny_pure q
  refine wpAny_bind (free ?_)
  simp only [if_true]
  refine wpAny_bind (wpAny_rule ?_)
  refine wpAny_bind (wpAny_field hz rfl (x := .ref TO) rfl ?_)
  refine wpAny_bind (wpAny_setField_rec hz (by simp) fun h₁ hz₁ hs₁ => ?_)
  replace hz₁ : ZO h₁ z TI TO .ellipsis f1 := hz₁
  refine wpAny_bind ?_
  refine wpAny_forIn_list _ (fun rest b s' => ∃ k, rest = ((cs.drop k).map fun c => Value.ref c.it).zipIdx k ∧ b.1 = none ∧ Part s z TI TO cs n .ellipsis f1 k row s') _ (fun x rest b s' hI => ?_) (fun b s' hI => ?_) _ _ ⟨0, rfl, rfl, ?_⟩
  · obtain ⟨k, hk, hb, p⟩ := hI
    rw [zipIdx_ref] at hk
    cases hc : cs[k]? with
    | none => rw [hc] at hk; cases hk
    | some c =>
      rw [hc] at hk
      cases hk
      have m := List.mem_of_getElem? hc
      have kl : k < cs.length := (List.getElem?_eq_some_iff.mp hc).1
      obtain ⟨v, hv⟩ : ∃ v, row[k]? = some v := ⟨_, List.getElem?_eq_getElem (by omega)⟩
      have hx := (hrow k c hc).trans hv
      dsimp only
      refine wpAny_bind (wpAny_onRaise ?_)
      show wpAny _ _ (Builtin.SmallTypes.nextOf (.ref c.it) >>= _) _ _ _
      refine wpAny_bind (wpAny_nextOf_list_item (p.rest k c (Nat.le_refl _) hc) (p.ls c m) (by simpa using hx) fun h1 hi e1 => wpAny_pure ?_)
      obtain ⟨vs, tv, tl, tj⟩ := p.tp
      have tv1 : TP h1 TO vs := e1.extBut _ _ (D.i3 c m).symm tv
      refine wpAny_bind (wpAny_seqItems tv1 rfl ?_)
      refine wpAny_bind (updateSeq_TP (s := { s' with heap := h1 }) tv1 (by omega) fun h2 t2 e2 => ?_)
      refine wpAny_bind (wpAny_letGo (wpAny_pure ⟨k + 1, rfl, rfl, ?_⟩))
      exact part_step D p hc hi e1 tv1 tl tj hv t2 e2
  · obtain ⟨k, hk, hb, p⟩ := hI
    have kl : cs.length ≤ k := by
      rw [zipIdx_ref] at hk
      cases hc : cs[k]? with
      | none => exact List.getElem?_eq_none_iff.mp hc
      | some c => rw [hc] at hk; cases hk
    obtain ⟨b1, b2⟩ := b
    obtain rfl : b1 = none := hb
    obtain ⟨vs, tv, tl, tj⟩ := p.tp
    have ev : vs = row := List.ext_getElem? fun j => by
      by_cases q : j < k
      · exact tj j q
      · rw [List.getElem?_eq_none (by omega), List.getElem?_eq_none (by omega)]
    subst ev
    obtain ⟨h5, rfl⟩ := p.sh
    refine wpAny_bind (wpAny_seqItems tv rfl ?_)
    refine wpAny_bind (wpAny_newTuple ?_ (by rw [tl]; exact Nat.le_trans hl (by decide)))
    have zlt : z < h5.objs.size := Heap.lt_size p.zo
    have hsz : h5.objs.size = s.heap.objs.size := p.sz
    show wpAny _ _ (Builtin.SmallTypes.ownedTupleHandOut (.ref z) (.ref h5.objs.size) >>= _) _ _ _
    refine wpAny_bind ?_
    unfold Builtin.SmallTypes.ownedTupleHandOut
    have hz6 : ZO (h5.push { cls := .type "tuple", data := .seq vs.toArray }) z TI TO .ellipsis f1 := Heap.get?_push_of_some _ p.zo
    refine wpAny_bind (wpAny_setField_rec hz6 (by simp) fun h7 hz7 hs7 => ?_)
    replace hz7 : ZO h7 z TI TO (rawInt h5.objs.size) f1 := hz7
    refine wpAny_setField_rec hz7 (by simp) fun h8 hz8 hs8 => ?_
    replace hz8 : ZO h8 z TI TO (rawInt h5.objs.size) false := hz8
    have up : ∀ c o, c ≠ z → h5.get? c = some o → h8.get? c = some o := fun c o c1 e => hs8.extBut _ _ c1 (hs7.extBut _ _ c1 (Heap.get?_push_of_some _ e))
    have tT : TP h8 h5.objs.size vs := hs8.extBut _ _ (Nat.ne_of_gt zlt) (hs7.extBut _ _ (Nat.ne_of_gt zlt) (Heap.get?_push_size _ rfl))
    have s8 : h8.objs.size = h5.objs.size + 1 := by rw [hs8.1, hs7.1, Heap.size_push]
    rw [hsz] at hz8 tT s8
    refine wpAny_pure ⟨_, rfl, ?_⟩
    show Q (.ref h5.objs.size) _
    rw [hsz]
    have hTI5 : TP h5 TI (cs.map fun c => Value.ref c.it) := p.ext TI _ D.a1 D.a3 (fun q => by
      obtain ⟨c, m, e⟩ := List.mem_map.mp q
      exact D.i2 c m e) hTI
    refine hQ h8 hz8 (up _ _ D.a1 hTI5) (up _ _ D.a2 tv) (fun c m => ?_) (fun c m => (p.ls c m).at fun o e => up _ o (D.l1 c m) e) tT s8 fun c o n1 n2 n3 e => up c o n1 (p.ext c o n1 n2 n3 e)
    obtain ⟨j, hj, e⟩ := List.getElem_of_mem m
    exact (p.done j c (by omega) (by rw [List.getElem?_eq_getElem hj, e])).at fun o q => up _ o (D.i1 c m) q
  · refine ⟨⟨h₁, rfl⟩, hz₁, ⟨vs0, hs₁.extBut _ _ D.a2 hTO, hvl, fun j hj => absurd hj (Nat.not_lt_zero _)⟩, fun j c hj => absurd hj (Nat.not_lt_zero _), fun j c _ hc => ?_, fun c m => ?_, hs₁.1, fun c o n1 n2 n3 e => hs₁.extBut _ _ n1 e⟩
    · have m := List.mem_of_getElem? hc
      exact (hi c m).at fun o e => hs₁.extBut _ _ (D.i1 c m) e
    · exact (hls c m).at fun o e => hs₁.extBut _ _ (D.l1 c m) e
structure PartB (s : Shared) (z TI TO : Addr) (cs : List Col) (n : Nat) (f0 : Value) (f1 : Bool) (vs0 : List Value) (k : Nat) (s' : Shared) : Prop where
  sh : ∃ h', s' = { s with heap := h' }
  zo : ZO s'.heap z TI TO f0 f1
  tp : TP s'.heap TO vs0
  done : ∀ j c, j < k → cs[j]? = some c → s'.heap.IsListIter c.it c.l (n + 1)
  rest : ∀ j c, k ≤ j → cs[j]? = some c → s'.heap.IsListIter c.it c.l n
  ls : ∀ c ∈ cs, s'.heap.IsList c.l c.xs.toArray
  sz : s'.heap.objs.size = s.heap.objs.size
  ext : Ext z TO cs s.heap s'.heap
theorem partB_step (D : ZA z TI TO cs) {f0 : Value} {f1 : Bool} {vs0 : List Value} {k : Nat} {s' : Shared} {c : Col} (p : PartB s z TI TO cs n f0 f1 vs0 k s') (hc : cs[k]? = some c) {h1 : Heap} (hi : h1.IsListIter c.it c.l (n + 1)) (e1 : Heap.SameBut c.it s'.heap h1) : PartB s z TI TO cs n f0 f1 vs0 (k + 1) { s' with heap := h1 } := by
  have m := List.mem_of_getElem? hc
  obtain ⟨h', rfl⟩ := p.sh
  refine ⟨⟨h1, rfl⟩, e1.extBut _ _ (D.i1 c m).symm p.zo, e1.extBut _ _ (D.i3 c m).symm p.tp, fun j d hj hd => ?_, fun j d hj hd => ?_, fun d hd => ?_, ?_, fun a o n1 n2 n3 e => ?_⟩
  · by_cases q : j = k
    · subst q
      rw [hc] at hd
      cases hd
      exact hi
    · exact (p.done j d (by omega) hd).at fun o e => e1.extBut _ _ (nd_it D hd hc q) e
  · exact (p.rest j d (by omega) hd).at fun o e => e1.extBut _ _ (nd_it D hd hc (by omega)) e
  · exact (p.ls d hd).at fun o e => e1.extBut _ _ (D.li d hd c m) e
  · show h1.objs.size = _
    rw [e1.1]
    exact p.sz
  · exact e1.extBut _ _ (fun q => n3 (q ▸ List.mem_map.mpr ⟨c, m, rfl⟩)) (p.ext a o n1 n2 n3 e)
theorem zipN_item_used (D : ZA z TI TO cs) {t : Int} {f1 : Bool} {ob : Obj} {row : List Value} {vs0 : List Value} (hf : s.heap.get? t.toNat = some ob) (hne : cs ≠ []) (hl : cs.length ≤ 100)
    (hz : ZO s.heap z TI TO (rawInt t) f1) (hTI : TP s.heap TI (cs.map fun c => Value.ref c.it)) (hTO : TP s.heap TO vs0)
    (hi : ∀ c ∈ cs, s.heap.IsListIter c.it c.l n) (hls : ∀ c ∈ cs, s.heap.IsList c.l c.xs.toArray) (hrl : row.length = cs.length) (hrow : ∀ (j : Nat) (c : Col), cs[j]? = some c → c.xs[n]? = row[j]?) {Q : Value → Shared → Prop}
    (hQ : ∀ h' f1', ZO h' z TI TO (rawInt t) f1' → TP h' TI (cs.map fun c => Value.ref c.it) → TP h' TO vs0 → (∀ c ∈ cs, h'.IsListIter c.it c.l (n + 1)) → (∀ c ∈ cs, h'.IsList c.l c.xs.toArray) → TP h' s.heap.objs.size row → h'.objs.size = s.heap.objs.size + 1 → Ext z TO cs s.heap h' → Q (.ref s.heap.objs.size) { s with heap := h' }) :
    wpAny (model prog w) A (Builtin.«zip.__next__» ⟨[.ref z], []⟩) (fun fin s' => ∃ v, fin = .done (.ret v) ∧ Q v s') E s := by
  show wpAny _ _ (field (.ref z) 2 >>= _) _ _ _
  refine wpAny_bind (wpAny_field hz rfl (x := .bool false) rfl ?_)
  show wpAny _ _ (field (.ref z) 3 >>= _) _ _ _
  refine wpAny_bind (wpAny_field hz rfl (x := .ref TI) rfl ?_)
  refine wpAny_bind (wpAny_seqItems hTI rfl ?_)
  have hem : ((cs.map fun c => Value.ref c.it).toArray).isEmpty = false := by
    cases cs with
    | nil => exact absurd rfl hne
    | cons c cs => rfl
  dsimp only
  rw [if_neg (by rw [hem]; exact Bool.false_ne_true)]
  show wpAny _ _ (Builtin.SmallTypes.ownedTupleIsFree (.ref z) >>= _) _ _ _
  have used : ∀ {Q' : Bool → Shared → Prop}, (∀ h1 g1, ZO h1 z TI TO (rawInt t) g1 → Heap.SameBut z s.heap h1 → Q' false { s with heap := h1 }) → wpAny (model prog w) A (Builtin.SmallTypes.ownedTupleIsFree (.ref z)) Q' E s := fun {Q'} q => by
    unfold Builtin.SmallTypes.ownedTupleIsFree
    refine wpAny_bind (wpAny_field hz rfl (x := rawInt t) rfl ?_)
    show wpAny _ _ (loadIfAlive t.toNat >>= _) _ _ s
    refine wpAny_bind (wpAny_alive ?_)
    rw [hf]
    show wpAny _ _ (field (.ref z) 1 >>= _) _ _ s
    refine wpAny_bind (wpAny_field hz rfl (x := .bool f1) rfl ?_)
    cases f1 with
    | true => exact wpAny_pure (q s.heap true hz ⟨rfl, fun _ _ => rfl⟩)
    | false =>
      show wpAny _ _ (setField (.ref z) 1 (.bool true) >>= _) _ _ s
      exact wpAny_bind (wpAny_setField_rec hz (by simp) fun h1 hz1 hs1 => wpAny_pure (q h1 true hz1 hs1))
  refine wpAny_bind (used fun h1 g1 hz1 hs1 => ?_)
  simp only [Bool.false_eq_true, if_false]
  refine wpAny_bind ?_
  refine MeetsSeq2.wpAny_forIn_array _ (fun rest b s' => ∃ k, rest = (cs.drop k).map (fun c => Value.ref c.it) ∧ b.1 = none ∧ b.2 = (row.take k).toArray ∧ PartB s z TI TO cs n (rawInt t) g1 vs0 k s') _ (fun x rest b s' hI => ?_) (fun b s' hI => ?_) _ _ ⟨0, rfl, rfl, rfl, ?_⟩
  · obtain ⟨k, hk, hb, hb2, p⟩ := hI
    have kl : k < cs.length := by
      rcases Nat.lt_or_ge k cs.length with q | q
      · exact q
      · rw [List.drop_eq_nil_of_le q] at hk
        cases hk
    rw [List.drop_eq_getElem_cons kl, List.map_cons] at hk
    cases hk
    have hc : cs[k]? = some cs[k] := List.getElem?_eq_getElem kl
    generalize cs[k] = c at hc ⊢
    have m := List.mem_of_getElem? hc
    obtain ⟨v, hv⟩ : ∃ v, row[k]? = some v := ⟨_, List.getElem?_eq_getElem (by omega)⟩
    have hx := (hrow k c hc).trans hv
    refine wpAny_bind (wpAny_holding ?_)
    show wpAny _ _ (Builtin.SmallTypes.nextOf (.ref c.it) >>= _) _ _ _
    refine wpAny_bind (wpAny_nextOf_list_item (p.rest k c (Nat.le_refl _) hc) (p.ls c m) (by simpa using hx) fun h1 hi e1 => wpAny_pure ?_)
    refine wpAny_pure ⟨k + 1, rfl, rfl, ?_, partB_step D p hc hi e1⟩
    rw [hb2]
    show (row.take k).toArray.push v = _
    rw [List.take_add_one, hv]
    simp
  · obtain ⟨k, hk, hb, hb2, p⟩ := hI
    have kl : cs.length ≤ k := by
      have := congrArg List.length hk
      rw [List.length_map, List.length_drop] at this
      simp at this
      omega
    obtain ⟨b1, b2⟩ := b
    obtain rfl : b1 = none := hb
    have eb : b2 = row.toArray := by
      have : b2 = (row.take k).toArray := hb2
      rw [this, List.take_of_length_le (by omega)]
    subst eb
    obtain ⟨h5, rfl⟩ := p.sh
    show wpAny _ _ (newTuple row.toArray.toList >>= _) _ _ _
    refine wpAny_bind (wpAny_newTuple ?_ (by show row.length ≤ sizeLine; rw [hrl]; exact Nat.le_trans hl (by decide)))
    have zlt : z < h5.objs.size := Heap.lt_size p.zo
    have hsz : h5.objs.size = s.heap.objs.size := p.sz
    refine wpAny_pure ⟨_, rfl, ?_⟩
    show Q (.ref h5.objs.size) { s with heap := h5.push { cls := .type "tuple", data := .seq row.toArray } }
    rw [hsz]
    have hTI5 : TP h5 TI (cs.map fun c => Value.ref c.it) := p.ext TI _ D.a1 D.a3 (fun q => by
      obtain ⟨c, m, e⟩ := List.mem_map.mp q
      exact D.i2 c m e) hTI
    refine hQ _ g1 (Heap.get?_push_of_some _ p.zo) (Heap.get?_push_of_some _ hTI5) (Heap.get?_push_of_some _ p.tp) (fun c m => ?_) (fun c m => (p.ls c m).at fun o e => Heap.get?_push_of_some _ e) (by rw [← hsz]; exact Heap.get?_push_size _ rfl) (by rw [Heap.size_push, hsz]) fun c o n1 n2 n3 e => Heap.get?_push_of_some _ (p.ext c o n1 n2 n3 e)
    obtain ⟨j, hj, e⟩ := List.getElem_of_mem m
    exact (p.done j c (by omega) (by rw [List.getElem?_eq_getElem hj, e])).at fun o q => Heap.get?_push_of_some _ q
  · refine ⟨⟨h1, rfl⟩, hz1, hs1.extBut _ _ D.a2 hTO, fun j c hj => absurd hj (Nat.not_lt_zero _), fun j c _ hc => ?_, fun c m => ?_, hs1.1, fun c o n1 n2 n3 e => hs1.extBut _ _ n1 e⟩
    · have m := List.mem_of_getElem? hc
      exact (hi c m).at fun o e => hs1.extBut _ _ (D.i1 c m) e
    · exact (hls c m).at fun o e => hs1.extBut _ _ (D.l1 c m) e
structure ZSt (h : Heap) (z TI TO : Addr) (cs : List Col) (n : Nat) : Prop where
  zo : ∃ f0 f1, ZO h z TI TO f0 f1 ∧ (f0 = .none ∨ ∃ t, f0 = rawInt t)
  ti : TP h TI (cs.map fun c => Value.ref c.it)
  to : ∃ vs, TP h TO vs ∧ vs.length = cs.length
  its : ∀ c ∈ cs, h.IsListIter c.it c.l n
theorem zipN_item (D : ZA z TI TO cs) {row : List Value} (hne : cs ≠ []) (hl : cs.length ≤ 100) (S : ZSt s.heap z TI TO cs n) (hls : ∀ c ∈ cs, s.heap.IsList c.l c.xs.toArray) (hrl : row.length = cs.length) (hrow : ∀ (j : Nat) (c : Col), cs[j]? = some c → c.xs[n]? = row[j]?) {Q : Value → Shared → Prop}
    (hQ : ∀ h', ZSt h' z TI TO cs (n + 1) → TP h' s.heap.objs.size row → h'.objs.size = s.heap.objs.size + 1 → Ext z TO cs s.heap h' → Q (.ref s.heap.objs.size) { s with heap := h' }) :
    wpAny (model prog w) A (Builtin.«zip.__next__» ⟨[.ref z], []⟩) (fun fin s' => ∃ v, fin = .done (.ret v) ∧ Q v s') E s := by
  obtain ⟨⟨f0, f1, hz, hf⟩, hTI, ⟨vs0, hTO, hvl⟩, hi⟩ := S
  have free : (f0 = .none ∨ ∃ t, f0 = rawInt t ∧ s.heap.get? t.toNat = none) → _ := fun hf =>
    zipN_item_free (prog := prog) (w := w) (A := A) (E := E) D hf hne hl hz hTI hTO hvl hi hls hrl hrow (Q := Q) fun h' a1 a2 a3 a4 a5 a6 a7 a8 => hQ h' ⟨⟨_, _, a1, .inr ⟨_, rfl⟩⟩, a2, ⟨_, a3, hrl⟩, a4⟩ a6 a7 a8
  rcases hf with hf | ⟨t, rfl⟩
  · exact free (.inl hf)
  · cases ho : s.heap.get? t.toNat with
    | none => exact free (.inr ⟨t, rfl, ho⟩)
    | some ob => exact zipN_item_used D ho hne hl hz hTI hTO hi hls hrl hrow fun h' f1' a1 a2 a3 a4 a5 a6 a7 a8 => hQ h' ⟨⟨_, _, a1, .inr ⟨_, rfl⟩⟩, a2, ⟨_, a3, hvl⟩, a4⟩ a6 a7 a8
theorem zipN_end (D : ZA z TI TO cs) (hh : A.handled = none) (hne : cs ≠ []) (S : ZSt s.heap z TI TO cs n) (hls : ∀ c ∈ cs, s.heap.IsList c.l c.xs.toArray) (hend : ∀ c ∈ cs, c.xs[n]? = none) {Q : Fin → Shared → Prop}
    (hE : ∀ h' e, Ext z TO cs s.heap h' → (∃ o, h'.get? e = some o ∧ o.cls = .type "StopIteration") → E (.ref e) { s with heap := h' }) :
    wpAny (model prog w) A (Builtin.«zip.__next__» ⟨[.ref z], []⟩) Q E s := by
  obtain ⟨⟨f0, f1, hz, hf⟩, hTI, ⟨vs0, hTO, hvl⟩, hi⟩ := S
  cases cs with
  | nil => exact absurd rfl hne
  | cons c cs =>
    have m : c ∈ c :: cs := List.mem_cons_self ..
    have nm : ∀ a, a ∉ (c :: cs).map (·.it) → a ≠ c.it := fun a h e => h (e ▸ List.mem_map.mpr ⟨c, m, rfl⟩)
    show wpAny _ _ (field (.ref z) 2 >>= _) _ _ _
    refine wpAny_bind (wpAny_field hz rfl (x := .bool false) rfl ?_)
    show wpAny _ _ (field (.ref z) 3 >>= _) _ _ _
    refine wpAny_bind (wpAny_field hz rfl (x := .ref TI) rfl ?_)
    refine wpAny_bind (wpAny_seqItems hTI rfl ?_)
    have hem : (((c :: cs).map fun c => Value.ref c.it).toArray).isEmpty = false := rfl
    dsimp only
    rw [if_neg (by rw [hem]; exact Bool.false_ne_true)]
    show wpAny _ _ (Builtin.SmallTypes.ownedTupleIsFree (.ref z) >>= _) _ _ _
    have asks : ∀ {Q' : Bool → Shared → Prop}, (Q' true s) → (∀ h1 f0 g1, ZO h1 z TI TO f0 g1 → Heap.SameBut z s.heap h1 → Q' false { s with heap := h1 }) → wpAny (model prog w) A (Builtin.SmallTypes.ownedTupleIsFree (.ref z)) Q' E s := fun {Q'} q1 q2 => by
      unfold Builtin.SmallTypes.ownedTupleIsFree
      refine wpAny_bind (wpAny_field hz rfl (x := f0) rfl ?_)
      rcases hf with rfl | ⟨t, rfl⟩
      · exact wpAny_pure q1
      · show wpAny _ _ (loadIfAlive t.toNat >>= _) _ _ s
        refine wpAny_bind (wpAny_alive ?_)
        cases ho : s.heap.get? t.toNat with
        | none => exact wpAny_pure q1
        | some ob =>
          show wpAny _ _ (field (.ref z) 1 >>= _) _ _ s
          refine wpAny_bind (wpAny_field hz rfl (x := .bool f1) rfl ?_)
          cases f1 with
          | true => exact wpAny_pure (q2 s.heap _ true hz ⟨rfl, fun _ _ => rfl⟩)
          | false =>
            show wpAny _ _ (setField (.ref z) 1 (.bool true) >>= _) _ _ s
            exact wpAny_bind (wpAny_setField_rec hz (by simp) fun h1 hz1 hs1 => wpAny_pure (q2 h1 _ true hz1 hs1))
    refine wpAny_bind (asks ?_ fun h1 f0 g1 hz1 hs1 => ?_)
    · simp only [if_true]
      refine wpAny_bind (wpAny_rule ?_)
      refine wpAny_bind (wpAny_field hz rfl (x := .ref TO) rfl ?_)
      refine wpAny_bind (wpAny_setField_rec hz (by simp) fun h₁ hz₁ hs₁ => ?_)
      replace hz₁ : ZO h₁ z TI TO .ellipsis f1 := hz₁
      refine wpAny_bind ?_
      simp only [List.map_cons, List.zipIdx_cons, List.forIn_cons]
      refine wpAny_bind (wpAny_bind (wpAny_onRaise ?_))
      show wpAny _ _ (Builtin.SmallTypes.nextOf (.ref c.it) >>= _) _ _ _
      refine wpAny_bind (wpAny_nextOf_list_end hh ((hi c m).at fun o e => hs₁.extBut _ _ (D.i1 c m) e) ((hls c m).at fun o e => hs₁.extBut _ _ (D.l1 c m) e) (by simpa using hend c m) fun h2 e hs2 he => ?_)
      obtain ⟨oe, hoe, hce⟩ := he
      have hz2 : ZO h2 z TI TO .ellipsis f1 := hs2 _ _ (D.i1 c m).symm hz₁
      have hez : e ≠ z := fun x => by subst x; rw [hz2] at hoe; cases hoe; simp at hce
      exact wpAny_setField_rec hz2 (by simp) fun h3 _ hs3 => hE h3 e (fun a o n1 n2 n3 x => hs3.extBut _ _ n1 (hs2 _ _ (nm a n3) (hs₁.extBut _ _ n1 x))) ⟨oe, hs3.extBut _ _ hez hoe, hce⟩
    · simp only [Bool.false_eq_true, if_false]
      refine wpAny_bind ?_
      rw [← Array.forIn_toList]
      simp only [List.map_cons, List.forIn_cons]
      refine wpAny_bind (wpAny_bind (wpAny_holding ?_))
      show wpAny _ _ (Builtin.SmallTypes.nextOf (.ref c.it) >>= _) _ _ _
      refine wpAny_bind (wpAny_nextOf_list_end hh ((hi c m).at fun o e => hs1.extBut _ _ (D.i1 c m) e) ((hls c m).at fun o e => hs1.extBut _ _ (D.l1 c m) e) (by simpa using hend c m) fun h2 e hs2 he => ?_)
      exact hE h2 e (fun a o n1 n2 n3 x => hs2 _ _ (nm a n3) (hs1.extBut _ _ n1 x)) he
theorem ZSt.typeIs (S : ZSt s.heap z TI TO cs n) : s.TypeIs (.ref z) "zip" := by
  obtain ⟨f0, f1, hz, _⟩ := S.zo
  exact ⟨_, hz, rfl⟩
theorem next_item (D : ZA z TI TO cs) {row : List Value} (hne : cs ≠ []) (hl : cs.length ≤ 100) (S : ZSt s.heap z TI TO cs n) (hls : ∀ c ∈ cs, s.heap.IsList c.l c.xs.toArray) (hrl : row.length = cs.length) (hrow : ∀ (j : Nat) (c : Col), cs[j]? = some c → c.xs[n]? = row[j]?) {Q : Option Value → Shared → Prop}
    (hQ : ∀ h', ZSt h' z TI TO cs (n + 1) → TP h' s.heap.objs.size row → h'.objs.size = s.heap.objs.size + 1 → Ext z TO cs s.heap h' → Q (some (.ref s.heap.objs.size)) { s with heap := h' }) :
    wpAny (model prog w) A (pyNext (.ref z)) Q E s := by
  unfold pyNext
  exact wpAny_bind (wpAny_attempt (wpAny_callSpecial?_slot (name := Str.ofString "__next__") S.typeIs F.slot_zip_next
    (wpAny_call_entry F.slot_zip_next S.typeIs F.entry_zip_next (zipN_item D hne hl S hls hrl hrow fun h' a1 a2 a3 a4 => wpAny_pure (hQ h' a1 a2 a3 a4)) (F.args_zip_next_1 _))))
theorem next_end (D : ZA z TI TO cs) (hh : A.handled = none) (hne : cs ≠ []) (S : ZSt s.heap z TI TO cs n) (hls : ∀ c ∈ cs, s.heap.IsList c.l c.xs.toArray) (hend : ∀ c ∈ cs, c.xs[n]? = none) {Q : Option Value → Shared → Prop}
    (hQ : ∀ h', Ext z TO cs s.heap h' → Q none { s with heap := h' }) : wpAny (model prog w) A (pyNext (.ref z)) Q E s := by
  unfold pyNext
  refine wpAny_bind (wpAny_attempt (wpAny_callSpecial?_slot (name := Str.ofString "__next__") S.typeIs F.slot_zip_next
    (wpAny_call_entry F.slot_zip_next S.typeIs F.entry_zip_next (zipN_end D (A := A.in1) (show A.in1.handled = none from hh) hne S hls hend fun h' e hk he => ?_) (F.args_zip_next_1 _))))
  obtain ⟨o, ho, hc⟩ := he
  refine wpAny_bind (wpAny_isInstance (T := "StopIteration") (b := true) ⟨o, ho, hc⟩ isSubtype_stop ?_)
  exact wpAny_pure (hQ _ hk)
theorem iter_self (S : ZSt s.heap z TI TO cs n) {Q : Value → Shared → Prop} (h : Q (.ref z) s) : wpAny (model prog w) A (pyIter (.ref z)) Q E s := by
  refine wpAny_pyIter_slot S.typeIs F.slot_zip_iter (wpAny_call_entry F.slot_zip_iter S.typeIs F.entry_zip_iter ?_ (F.args_zip_iter_1 _))
  show wpAny _ _ (ret (.ref z)) _ _ s
  exact wpAny_pure ⟨_, rfl, "zip", _, S.typeIs, F.slot_zip_next.lookup, h⟩
end
end Dn

set_option Elab.async false
set_option linter.all false
set_option maxRecDepth 100000
set_option maxHeartbeats 1000000
namespace Dn
open PySem PySem.Spec
structure NewZ (h : Heap) (ls : List Addr) (h' : Heap) : Prop where
  zo : ZO h' (h.objs.size + ls.length + 2) (h.objs.size + ls.length) (h.objs.size + ls.length + 1) .none false
  ti : TP h' (h.objs.size + ls.length) ((List.range ls.length).map fun j => Value.ref (h.objs.size + j))
  to : TP h' (h.objs.size + ls.length + 1) (List.replicate ls.length .none)
  its : ∀ (j : Nat) (l : Addr), ls[j]? = some l → h'.IsListIter (h.objs.size + j) l 0
  sz : h'.objs.size = h.objs.size + ls.length + 3
  keep : ∀ c o, h.get? c = some o → h'.get? c = some o
abbrev oT (vs : List Value) : Obj := { cls := .type "tuple", data := .seq vs.toArray }
abbrev rT (n m : Nat) : List Value := (List.range m).map fun j => Value.ref (n + j)
theorem newZ_sz {hp h' : Heap} {ls : List Addr} (hsz : h'.objs.size = hp.objs.size + ls.length) : ((h'.push (oT (rT hp.objs.size ls.length))).push (oT ((rT hp.objs.size ls.length).map fun _ => Value.none))).objs.size = hp.objs.size + ls.length + 2 := by
  rw [Heap.size_push, Heap.size_push, hsz]
theorem newZ_of {hp h' : Heap} {ls : List Addr} (hi : ∀ (j : Nat) (l : Addr), j < ls.length → ls[j]? = some l → h'.IsListIter (hp.objs.size + j) l 0) (hsz : h'.objs.size = hp.objs.size + ls.length) (hkeep : ∀ c o, hp.get? c = some o → h'.get? c = some o) :
    NewZ hp ls (((h'.push (oT (rT hp.objs.size ls.length))).push (oT ((rT hp.objs.size ls.length).map fun _ => Value.none))).push { cls := .type "zip", data := .fields #[.none, .bool false, .bool false, .ref h'.objs.size, .ref (h'.push (oT (rT hp.objs.size ls.length))).objs.size] }) := by
  have e1 : (h'.push (oT (rT hp.objs.size ls.length))).objs.size = hp.objs.size + ls.length + 1 := by rw [Heap.size_push, hsz]
  have e2 := newZ_sz (ls := ls) hsz
  have g3 := Heap.get?_push_size ((h'.push (oT (rT hp.objs.size ls.length))).push (oT ((rT hp.objs.size ls.length).map fun _ => Value.none))) (o := { cls := .type "zip", data := .fields #[.none, .bool false, .bool false, .ref h'.objs.size, .ref (h'.push (oT (rT hp.objs.size ls.length))).objs.size] }) rfl
  have g2 := Heap.get?_push_size (h'.push (oT (rT hp.objs.size ls.length))) (o := oT ((rT hp.objs.size ls.length).map fun _ => Value.none)) rfl
  have g1 := Heap.get?_push_size h' (o := oT (rT hp.objs.size ls.length)) rfl
  refine ⟨?_, ?_, ?_, fun j l e => (hi j l (List.getElem?_eq_some_iff.mp e).1 e).at fun o q => Heap.get?_push_of_some _ (Heap.get?_push_of_some _ (Heap.get?_push_of_some _ q)), ?_, fun c o q => Heap.get?_push_of_some _ (Heap.get?_push_of_some _ (Heap.get?_push_of_some _ (hkeep c o q)))⟩
  · show Heap.get? _ (hp.objs.size + ls.length + 2) = _
    rw [← e2, g3, hsz, e1]
  · show Heap.get? _ (hp.objs.size + ls.length) = _
    rw [← hsz]
    refine Heap.get?_push_of_some _ (Heap.get?_push_of_some _ ?_)
    rw [hsz] at g1 ⊢
    exact g1
  · show Heap.get? _ (hp.objs.size + ls.length + 1) = _
    rw [← e1]
    refine Heap.get?_push_of_some _ (g2.trans ?_)
    have : (rT hp.objs.size ls.length).map (fun _ => Value.none) = List.replicate ls.length Value.none := by
      rw [List.map_map]
      exact List.eq_replicate_iff.mpr ⟨by rw [List.length_map, List.length_range], fun b hb => by
        obtain ⟨_, _, rfl⟩ := List.mem_map.mp hb
        rfl⟩
    rw [this]
  · rw [Heap.size_push, e2]
theorem meets_zipN (ls : List Addr) (hl : ls.length ≤ 100) :
    Meets (Builtin.«zip.__new__» ⟨.type "zip" :: ls.map Value.ref, []⟩) (fun _ R s => (∀ l ∈ ls, ∃ items, s.heap.IsList l items) ∧ ∀ h', NewZ s.heap ls h' → R (.ok (.ret (.ref (s.heap.objs.size + ls.length + 2)))) { s with heap := h' }) :=
  .of_wp fun prog w A R s h => by
    obtain ⟨hp, g, d, tk, os⟩ := s; obtain ⟨hL, h⟩ := h
    have hsub := sub_zip
    wp_walk using wpAny_forIn_list _ (fun rest b s' => ∃ k h', rest = (ls.drop k).map Value.ref ∧ k ≤ ls.length ∧ s' = ⟨h', g, d, tk, os⟩ ∧ b = ((List.range k).map fun j => Value.ref (hp.objs.size + j)).toArray ∧ (∀ (j : Nat) (l : Addr), j < k → ls[j]? = some l → h'.IsListIter (hp.objs.size + j) l 0) ∧ h'.objs.size = hp.objs.size + k ∧ ∀ c o, hp.get? c = some o → h'.get? c = some o) _
    case turn =>
      rintro x rest b s' ⟨k, h', hk, hkl, rfl, rfl, hi, hsz, hkeep⟩
      have kl : k < ls.length := by
        rcases Nat.lt_or_ge k ls.length with q | q
        · exact q
        · rw [List.drop_eq_nil_of_le q] at hk
          cases hk
      rw [List.drop_eq_getElem_cons kl, List.map_cons] at hk
      cases hk
      obtain ⟨items, hit⟩ := hL ls[k] (List.getElem_mem kl)
      have hit' : Heap.IsList h' ls[k] items := hit.at fun o e => hkeep _ o e
      refine wpAny_bind (wpAny_holding (wpAny_pyIter_list hit' ?_))
      refine wpAny_pure ⟨k + 1, _, rfl, kl, rfl, ?_, fun j l hj e => ?_, ?_, fun c o e => Heap.get?_push_of_some _ (hkeep c o e)⟩
      · show (List.map _ (List.range k)).toArray.push (Value.ref h'.objs.size) = _
        rw [List.range_succ, List.map_append, hsz]
        simp
      · by_cases q : j = k
        · subst q
          rw [List.getElem?_eq_getElem kl] at e
          cases e
          rw [← hsz]
          exact ⟨_, Heap.get?_push_size _ rfl, rfl, rfl⟩
        · exact (hi j l (by omega) e).at fun o e => Heap.get?_push_of_some _ e
      · rw [Heap.size_push, hsz]
        omega
    case fin =>
      rintro b s' ⟨k, h', hk, hkl, rfl, rfl, hi, hsz, hkeep⟩
      have ek : k = ls.length := by
        have := congrArg List.length hk
        rw [List.length_map, List.length_drop] at this
        simp at this
        omega
      subst ek
      have hsl : ∀ m : Nat, m ≤ 100 → m ≤ sizeLine := fun m q => Nat.le_trans q (by decide)
      refine wpAny_pure ?_
      refine wpAny_bind (wpAny_newTuple ?_ (by simp; exact hsl _ hl))
      refine wpAny_bind (wpAny_newTuple ?_ (by simp; exact hsl _ hl))
      unfold Builtin.SmallTypes.newRecord Builtin.SmallTypes.ownedTupleFields
      refine wpAny_bind (wpAny_newObj_type ?_ (by size_fits))
      refine wpAny_pure ⟨_, rfl, ?_⟩
      have key : R (.ok (.ret (.ref (hp.objs.size + ls.length + 2)))) _ := h _ (newZ_of hi hsz hkeep)
      rw [← newZ_sz (ls := ls) hsz] at key
      exact key
    case h => exact ⟨0, hp, rfl, Nat.zero_le _, rfl, rfl, fun j l hj => absurd hj (Nat.not_lt_zero _), rfl, fun _ _ e => e⟩
end Dn

set_option Elab.async false
set_option linter.all false
set_option maxRecDepth 100000
set_option maxHeartbeats 1000000
namespace Dn
open PySem PySem.Spec
section
variable {M : Model} {A : Around} {E : Value → Shared → Prop} {s : Shared}
theorem callWith_tyS {pos : Pos} {T : String} {args : List (Bool × Sem Value)} {Q : Value → Shared → Prop} (hst : args.any (·.1) = true)
    (h : wpAny M A (evalArgs (.type T) true args []) (fun a s₁ => wpAny M A (call (.type T) ([] ++ a.pos) a.kw) Q E s₁) E s) :
    wpAny M A (callWith pos (.type T) [] args []) Q E s := by
  unfold callWith
  refine wpAny_bind (wpAny_holding (wpAny_mono h (fun a s₁ h₁ => wpAny_bind (wpAny_standAt ?_)) fun _ _ x => x))
  simp only [hst, Bool.true_or]
  refine wpAny_bind (wpAny_pure ?_)
  exact wpAny_bind (wpAny_mono (wpAny_operating h₁) (fun r s₂ hr => wpAny_bind (wpAny_holding (wpAny_point (wpAny_pure hr)))) fun _ _ x => x)
end
section
variable {prog : Program} {w : World} {A : Around} {E : Value → Shared → Prop} {s : Shared}
theorem tcN : ∀ (ls : List Addr), 1 ≤ ls.length → ls.length ≤ 5 → checkTypeCall "zip" ⟨ls.map Value.ref, []⟩ = pure () ∧ checkBuiltinCall "zip.__new__" ⟨.type "zip" :: ls.map Value.ref, []⟩ = pure () ∧ ∀ obj, argsOk "object.__init__" ⟨obj :: ls.map Value.ref, []⟩
  | [a], _, _ => ⟨by kernel_rfl, by kernel_rfl, fun obj => by unfold argsOk; kernel_rfl⟩
  | [a, b], _, _ => ⟨by kernel_rfl, by kernel_rfl, fun obj => by unfold argsOk; kernel_rfl⟩
  | [a, b, c], _, _ => ⟨by kernel_rfl, by kernel_rfl, fun obj => by unfold argsOk; kernel_rfl⟩
  | [a, b, c, d], _, _ => ⟨by kernel_rfl, by kernel_rfl, fun obj => by unfold argsOk; kernel_rfl⟩
  | [a, b, c, d, e], _, _ => ⟨by kernel_rfl, by kernel_rfl, fun obj => by unfold argsOk; kernel_rfl⟩
  | [], h, _ => absurd h (by decide)
  | _ :: _ :: _ :: _ :: _ :: _ :: _, _, h => absurd h (by simp)
theorem call_zipN (ls : List Addr) (h1 : 1 ≤ ls.length) (h5 : ls.length ≤ 5) (hL : ∀ l ∈ ls, ∃ items, s.heap.IsList l items) {Q : Value → Shared → Prop} (h : ∀ h', NewZ s.heap ls h' → Q (.ref (s.heap.objs.size + ls.length + 2)) { s with heap := h' }) :
    wpAny (model prog w) A (call (.type "zip") (ls.map Value.ref)) Q E s := by
  obtain ⟨t1, t2, t3⟩ := tcN ls h1 h5
  exact callType_new F.called_zip (by decide) t1 t2 t3 F.entry_zip_new (meets_zipN ls (by omega)) ⟨hL, fun h' z => ⟨⟨_, z.zo, rfl⟩, h h' z⟩⟩
end
open L2
open Rep (rep)
abbrev cf (c : Col) : Addr × Addr := (c.it, c.l)
theorem cf_mem {cs cs0 : List Col} (h : cs.map cf = cs0.map cf) {c : Col} (m : c ∈ cs) : ∃ c0 ∈ cs0, c0.it = c.it ∧ c0.l = c.l := by
  have : cf c ∈ cs0.map cf := by rw [← h]; exact List.mem_map.mpr ⟨c, m, rfl⟩
  obtain ⟨c0, m0, e⟩ := List.mem_map.mp this
  exact ⟨c0, m0, congrArg Prod.fst e, congrArg Prod.snd e⟩
theorem cf_it {cs cs0 : List Col} (h : cs.map cf = cs0.map cf) : cs.map (·.it) = cs0.map (·.it) := by
  have := congrArg (List.map Prod.fst) h
  rw [List.map_map, List.map_map] at this
  exact this
theorem cf_len {cs cs0 : List Col} (h : cs.map cf = cs0.map cf) : cs.length = cs0.length := by
  have := congrArg List.length h
  rw [List.length_map, List.length_map] at this
  exact this
theorem ZA.of {z TI TO : Addr} {cs cs0 : List Col} (h : cs.map cf = cs0.map cf) (D : ZA z TI TO cs0) : ZA z TI TO cs := by
  refine ⟨D.a1, D.a2, D.a3, fun c m => ?_, fun c m => ?_, fun c m => ?_, fun c m => ?_, fun c m => ?_, fun c m d n => ?_, by rw [cf_it h]; exact D.nd⟩
  all_goals obtain ⟨c0, m0, e1, e2⟩ := cf_mem h m
  · rw [← e1]; exact D.i1 c0 m0
  · rw [← e1]; exact D.i2 c0 m0
  · rw [← e1]; exact D.i3 c0 m0
  · rw [← e2]; exact D.l1 c0 m0
  · rw [← e2]; exact D.l3 c0 m0
  · obtain ⟨d0, n0, g1, g2⟩ := cf_mem h n
    rw [← e2, ← g1]
    exact D.li c0 m0 d0 n0
theorem ZSt.of {hp : Heap} {z TI TO : Addr} {cs cs0 : List Col} {n : Nat} (h : cs.map cf = cs0.map cf) (S : ZSt hp z TI TO cs0 n) : ZSt hp z TI TO cs n := by
  refine ⟨S.zo, ?_, ?_, fun c m => ?_⟩
  · have : (cs.map fun c => Value.ref c.it) = cs0.map fun c => Value.ref c.it := by
      have := congrArg (List.map Value.ref) (cf_it h)
      rw [List.map_map, List.map_map] at this
      exact this
    rw [this]
    exact S.ti
  · rw [cf_len h]
    exact S.to
  · obtain ⟨c0, m0, e1, e2⟩ := cf_mem h m
    rw [← e1, ← e2]
    exact S.its c0 m0
theorem ZSt.at {hp hp' : Heap} {z TI TO : Addr} {cs : List Col} {n : Nat} (S : ZSt hp z TI TO cs n) (k : ∀ b ∈ z :: TI :: TO :: cs.map (·.it), ∀ o, hp.get? b = some o → hp'.get? b = some o) : ZSt hp' z TI TO cs n := by
  obtain ⟨⟨f0, f1, hz, hf⟩, hTI, ⟨vs, hTO, hl⟩, hi⟩ := S
  exact ⟨⟨f0, f1, k z (by simp) _ hz, hf⟩, k TI (by simp) _ hTI, ⟨vs, k TO (by simp) _ hTO, hl⟩, fun c m => (hi c m).at fun o e => k c.it (List.mem_cons_of_mem _ (List.mem_cons_of_mem _ (List.mem_cons_of_mem _ (List.mem_map.mpr ⟨c, m, rfl⟩)))) o e⟩
theorem paired_ix {α β : Type} {R : α → β → Prop} : ∀ {as : List α} {bs : List β}, as.length = bs.length → (∀ (j : Nat) (a : α) (b : β), as[j]? = some a → bs[j]? = some b → R a b) → Paired R as bs
  | [], [], _, _ => .nil
  | a :: as, b :: bs, h, g => .cons (g 0 a b rfl rfl) (paired_ix (Nat.succ.inj h) fun j x y e1 e2 => g (j + 1) x y e1 e2)
  | [], _ :: _, h, _ => by cases h
  | _ :: _, [], h, _ => by cases h
section
variable {X : Cx} {pins : List (Addr × Obj)} {σ : St} {H : Hp} {s : Shared}
theorem cols_of (I : Inv X pins σ H s) : ∀ (cs0 : List Col), (∀ c ∈ cs0, ∃ ys, SqL X.K H c.l ys) → ∃ cs : List Col, cs.map cf = cs0.map cf ∧ ∀ c ∈ cs, s.heap.IsList c.l c.xs.toArray ∧ ∀ ys, SqL X.K H c.l ys → Vals ys c.xs
  | [], _ => ⟨[], rfl, fun c m => nomatch m⟩
  | c0 :: cs0, h => by
    obtain ⟨cs, e, g⟩ := cols_of I cs0 fun c m => h c (List.mem_cons_of_mem _ m)
    obtain ⟨ys, hy⟩ := h c0 (List.mem_cons_self ..)
    obtain ⟨its, rv, p, _⟩ := I.list hy
    refine ⟨⟨c0.it, c0.l, its⟩ :: cs, by rw [List.map_cons, e]; rfl, fun c m => ?_⟩
    rcases List.mem_cons.mp m with rfl | m
    · exact ⟨p.isList, fun ys' hy' => by rw [I.list_inj hy' hy]; exact rv⟩
    · exact g c m
end
theorem cf_at {cs cs0 : List Col} (h : cs.map cf = cs0.map cf) {j : Nat} {c : Col} (e : cs[j]? = some c) : ∃ c0, cs0[j]? = some c0 ∧ c0.it = c.it ∧ c0.l = c.l := by
  have : (cs0.map cf)[j]? = some (cf c) := by rw [← h, List.getElem?_map, e]; rfl
  rw [List.getElem?_map] at this
  obtain ⟨c0, e0, e1⟩ := Option.map_eq_some_iff.mp this
  exact ⟨c0, e0, congrArg Prod.fst e1, congrArg Prod.snd e1⟩
end Dn

set_option Elab.async false
set_option linter.all false
set_option maxRecDepth 100000
set_option maxHeartbeats 1000000
namespace Dn
open PySem PySem.Spec L2
open Rep (rep)
open ORep (orep)
def skel (N : Nat) (as : List Addr) : List Col := (as.zipIdx N).map fun p => ⟨p.2, p.1, []⟩
theorem skel_at {N : Nat} {as : List Addr} {j : Nat} : (skel N as)[j]? = (as[j]?).map fun l => (⟨N + j, l, []⟩ : Col) := by
  unfold skel
  rw [List.getElem?_map, List.getElem?_zipIdx, Option.map_map]
  rfl
theorem skel_len (N : Nat) (as : List Addr) : (skel N as).length = as.length := by unfold skel; rw [List.length_map, List.length_zipIdx]
theorem skel_mem {N : Nat} {as : List Addr} {c : Col} (m : c ∈ skel N as) : ∃ j l, as[j]? = some l ∧ c = ⟨N + j, l, []⟩ ∧ j < as.length := by
  obtain ⟨j, hj, e⟩ := List.getElem_of_mem m
  have : (skel N as)[j]? = some c := by rw [List.getElem?_eq_getElem hj, e]
  rw [skel_at] at this
  obtain ⟨l, e1, e2⟩ := Option.map_eq_some_iff.mp this
  exact ⟨j, l, e1, e2.symm, (List.getElem?_eq_some_iff.mp e1).1⟩
theorem skel_it (N : Nat) (as : List Addr) : (skel N as).map (·.it) = (List.range as.length).map fun j => N + j := by
  refine List.ext_getElem? fun j => ?_
  rw [List.getElem?_map, skel_at, List.getElem?_map]
  by_cases h : j < as.length
  · rw [List.getElem?_eq_getElem h, List.getElem?_eq_getElem (by rw [List.length_range]; exact h), List.getElem_range]
    rfl
  · rw [List.getElem?_eq_none (by omega), List.getElem?_eq_none (by rw [List.length_range]; omega)]
    rfl
theorem nn {a b : Nat} (h : ¬ a = b) : @Ne Addr a b := h
theorem skel_ZA {N : Nat} {as : List Addr} (hL : ∀ l ∈ as, l < N) : ZA (N + as.length + 2) (N + as.length) (N + as.length + 1) (skel N as) := by
  refine ⟨nn (by omega), nn (by omega), nn (by omega), fun c m => ?_, fun c m => ?_, fun c m => ?_, fun c m => ?_, fun c m => ?_, fun c m d n => ?_, ?_⟩
  · obtain ⟨j, l, _, rfl, h⟩ := skel_mem m; exact Nat.ne_of_lt (Nat.lt_add_right 2 (Nat.add_lt_add_left h N))
  · obtain ⟨j, l, _, rfl, h⟩ := skel_mem m; exact Nat.ne_of_lt (Nat.add_lt_add_left h N)
  · obtain ⟨j, l, _, rfl, h⟩ := skel_mem m; exact Nat.ne_of_lt (Nat.lt_add_right 1 (Nat.add_lt_add_left h N))
  · obtain ⟨j, l, e, rfl, h⟩ := skel_mem m
    exact Nat.ne_of_lt (Nat.lt_of_lt_of_le (hL l (List.mem_of_getElem? e)) (Nat.le_trans (Nat.le_add_right N _) (Nat.le_add_right _ 2)))
  · obtain ⟨j, l, e, rfl, h⟩ := skel_mem m
    exact Nat.ne_of_lt (Nat.lt_of_lt_of_le (hL l (List.mem_of_getElem? e)) (Nat.le_trans (Nat.le_add_right N _) (Nat.le_add_right _ 1)))
  · obtain ⟨j, l, e, rfl, h⟩ := skel_mem m
    obtain ⟨j', l', e', rfl, h'⟩ := skel_mem n
    exact Nat.ne_of_lt (Nat.lt_of_lt_of_le (hL l (List.mem_of_getElem? e)) (Nat.le_add_right N j'))
  · rw [skel_it]
    exact List.Pairwise.map _ (fun a b (h : a ≠ b) e => h (Nat.add_left_cancel e)) (List.nodup_range (n := as.length))
theorem newZ_st {hp h' : Heap} {as : List Addr} (z : NewZ hp as h') : ZSt h' (hp.objs.size + as.length + 2) (hp.objs.size + as.length) (hp.objs.size + as.length + 1) (skel hp.objs.size as) 0 := by
  refine ⟨⟨_, _, z.zo, .inl rfl⟩, ?_, ⟨_, z.to, by rw [List.length_replicate, skel_len]⟩, fun c m => ?_⟩
  · have : ((skel hp.objs.size as).map fun c => Value.ref c.it) = (List.range as.length).map fun j => Value.ref (hp.objs.size + j) := by
      have := congrArg (List.map Value.ref) (skel_it hp.objs.size as)
      rw [List.map_map, List.map_map] at this
      exact this
    rw [this]
    exact z.ti
  · obtain ⟨j, l, e, rfl, h⟩ := skel_mem m
    exact z.its j l e
theorem vals_refs' : ∀ {as : List Addr} {us : List Value}, Vals (as.map V.ref) us → us = as.map Value.ref
  | [], _, .nil => rfl
  | a :: as, _, .cons r t => by
    cases r
    rw [vals_refs' t]
    rfl
def rowAt {α : Type} (xss : List (List α)) (i : Nat) : Option (Tup α) := (mapO (fun xs => xs[i]?) xss).map Tup.mk
def zipS {α : Type} (xss : List (List α)) : Option (List (Tup α)) := if (decide (1 ≤ xss.length) && decide (xss.length ≤ 5) && xss.all fun xs => decide (xs.length = (xss.headD []).length)) = true then mapO (rowAt xss) (List.range (xss.headD []).length) else none
section
variable {α : Type} [Rep α]
theorem lists_of {K : PySem.W.Frag} {B : Hp} : ∀ {vs : List V} {xss : List (List α)}, Reps K B vs xss → ∃ (as : List Addr) (wss : List (List V)), vs = as.map V.ref ∧ as.length = xss.length ∧ wss.length = xss.length ∧ ∀ (j : Nat) (l : Addr), as[j]? = some l → ∃ ws xs, wss[j]? = some ws ∧ xss[j]? = some xs ∧ SqL K B l ws ∧ Reps K B ws xs := by
  intro vs xss r
  induction r with
  | nil => exact ⟨[], [], rfl, rfl, rfl, fun j l e => by simp at e⟩
  | @cons v xs vs xss h _ ih =>
    obtain ⟨as, wss, e1, e2, e3, e4⟩ := ih
    obtain ⟨l, ws, rfl, s, r⟩ := h
    refine ⟨l :: as, ws :: wss, by rw [e1]; rfl, by rw [List.length_cons, e2]; rfl, by rw [List.length_cons, e3]; rfl, fun j l' e => ?_⟩
    cases j with
    | zero => cases e; exact ⟨ws, xs, rfl, rfl, s, r⟩
    | succ j => exact e4 j l' e
end
section
variable {c : Ct} {env : List Slot} {e : Expr} {α : Type} [Rep α]
end
end Dn

set_option Elab.async false
set_option linter.all false
set_option maxRecDepth 100000
set_option maxHeartbeats 1000000
namespace Dn
open PySem PySem.Spec
theorem nolen_zip : typeLookup (.type "zip") "__len__" = pure none := by rw [typeLookup_type, builtinLookup_eq_fast]; kernel_rfl
theorem nohint_zip : typeLookup (.type "zip") "__length_hint__" = pure none := by rw [typeLookup_type, builtinLookup_eq_fast]; kernel_rfl
abbrev LS (h : Heap) (S : Addr) (vs : List Value) (c : Nat) : Prop := h.get? S = some { cls := .type "list", dict := none, data := .seq vs.toArray c, slots := #[] }
structure Got (h : Heap) (S N : Nat) (rows : List (List Value)) (ps : List (Addr × List Value)) (c : Nat) : Prop where
  ls : LS h S (ps.map fun p => Value.ref p.1) c
  rw_ : ps.map (·.2) = rows
  nd : (ps.map (·.1)).Nodup
  at_ : ∀ p ∈ ps, TP h p.1 p.2 ∧ N ≤ p.1
section
variable {prog : Program} {w : World} {A : Around} {z TI TO : Addr} {cs : List Col}
theorem updateSeq_LS {E : Value → Shared → Prop} {s : Shared} {S : Addr} {vs : List Value} {c : Nat} {x : Value} {Q : Unit → Shared → Prop} (hS : LS s.heap S vs c) (hl : vs.length ≤ 100000)
    (h : ∀ h' c', LS h' S (vs ++ [x]) c' → Heap.SameBut S s.heap h' → Q () { s with heap := h' }) : wpAny (model prog w) A (updateSeq S (·.push x)) Q E s := by
  have hz : vs.toArray.size ≤ sizeLine := by rw [List.size_toArray]; exact Nat.le_trans hl (by decide)
  refine wpAny_updateSeq hS rfl (h _ (c + 1) ?_ (Heap.SameBut.update ..)) hz (by rw [Array.size_push]; omega)
  show (s.heap.update S (Obj.mapSeq (·.push x))).get? S = _
  rw [Heap.get?_update_self _ hS rfl]
  simp [Obj.mapSeq]
theorem tp_ext {h h' : Heap} {N : Nat} {T : Addr} {row : List Value} (hT : TP h T row) (hN : N ≤ T) (hz : z < N) (hTO : TO < N) (hit : ∀ c ∈ cs, c.it < N) (e : Ext z TO cs h h') : TP h' T row := by
  refine e T _ (fun q => ?_) (fun q => ?_) (fun q => ?_) hT
  · rw [q] at hN; exact absurd hN (Nat.not_le_of_lt hz)
  · rw [q] at hN; exact absurd hN (Nat.not_le_of_lt hTO)
  · obtain ⟨c, m, e'⟩ := List.mem_map.mp q
    have := hit c m
    rw [e'] at this
    exact absurd hN (Nat.not_le_of_lt this)
theorem zl_loop (D : ZA z TI TO cs) (hh : A.in1.handled = none) (hne : cs ≠ []) (hl : cs.length ≤ 100) {S N : Nat} (hS : S < N) (hz : z < N) (hTO : TO < N) (hTI : TI < N) (hit : ∀ c ∈ cs, c.it < N) (sz : S ≠ z) (sTO : S ≠ TO) (sTI : S ≠ TI) (si : S ∉ cs.map (·.it)) (sl : ∀ c ∈ cs, c.l ≠ S) {rows : List (List Value)} (hn : rows.length ≤ 100000)
    (hcol : ∀ c ∈ cs, c.xs.length = rows.length) (hrow : ∀ (i : Nat) (row : List Value), rows[i]? = some row → row.length = cs.length ∧ ∀ (j : Nat) (c : Col), cs[j]? = some c → c.xs[i]? = row[j]?) {res : Value} {R : Result → Shared → Prop} :
    ∀ (k i : Nat) (s : Shared) (ps : List (Addr × List Value)) (c : Nat), rows.length - i = k → i ≤ rows.length → ZSt s.heap z TI TO cs i → (∀ c ∈ cs, s.heap.IsList c.l c.xs.toArray) → N ≤ s.heap.objs.size → Got s.heap S N (rows.take i) ps c →
    (∀ h' ps' c', Got h' S N rows ps' c' → (∀ a o, a ≠ S → a ≠ z → a ≠ TO → a ∉ cs.map (·.it) → s.heap.get? a = some o → h'.get? a = some o) → R (.ok (.ret res)) { s with heap := h' }) →
    codeAny (model prog w) A (.builtin "list.extend.loop" ⟨[.ref S, .ref z, res], []⟩) R s := by
  intro k
  induction k with
  | zero =>
    intro i s ps c hk hi st hls hN G hR
    have hin : i = rows.length := by omega
    subst hin
    refine codeAny_builtin F.entry_extend_loop ?_
    rw [Around.under_plainId F.plain_extend_loop _]
    show wpAny _ A.in1 (pyNext (.ref z) >>= _) _ _ s
    refine wpAny_bind (next_end D hh hne st hls (fun c m => List.getElem?_eq_none (by rw [hcol c m]; exact Nat.le_refl _)) fun h' e => ?_)
    rw [List.take_length] at G
    exact wpAny_pure (hR h' ps c ⟨e S _ sz sTO si G.ls, G.rw_, G.nd, fun p m => ⟨tp_ext (G.at_ p m).1 (G.at_ p m).2 hz hTO hit e, (G.at_ p m).2⟩⟩ fun a o n1 n2 n3 n4 q => e a o n2 n3 n4 q)
  | succ k ih =>
    intro i s ps c hk hi st hls hN G hR
    have hlt : i < rows.length := by omega
    obtain ⟨row, er⟩ : ∃ row, rows[i]? = some row := ⟨_, List.getElem?_eq_getElem hlt⟩
    obtain ⟨rl, rr⟩ := hrow i row er
    have gl : ps.length = i := by
      have := congrArg List.length G.rw_
      rw [List.length_map, List.length_take] at this
      omega
    refine codeAny_builtin F.entry_extend_loop ?_
    rw [Around.under_plainId F.plain_extend_loop _]
    show wpAny _ A.in1 (pyNext (.ref z) >>= _) _ _ s
    refine wpAny_bind (next_item D hne hl st hls rl rr fun h' st' tT hsz e => ?_)
    show wpAny _ A.in1 (updateSeq S (·.push (.ref s.heap.objs.size)) >>= _) _ _ _
    refine wpAny_bind (updateSeq_LS (s := { s with heap := h' }) (e S _ sz sTO si G.ls) (by rw [List.length_map]; omega) fun h2 c2 l2 e2 => ?_)
    refine wpAny_pure ⟨plainId_quiet F.plain_extend_loop _, ?_⟩
    have nS : ∀ p ∈ ps, p.1 ≠ S := fun p m q => by
      have := (G.at_ p m).2
      rw [q] at this
      exact absurd this (Nat.not_le_of_lt hS)
    refine ih (i + 1) _ (ps ++ [(s.heap.objs.size, row)]) c2 (by omega) hlt (st'.at fun b m o q => e2.extBut _ _ (fun qq => ?_) q) (fun c m => (hls c m).at fun o q => ?_) ?_ ⟨?_, ?_, ?_, fun p m => ?_⟩ fun h3 ps' c' G' k3 => ?_
    · rw [qq] at m
      rcases List.mem_cons.mp m with r | m
      · exact sz r
      rcases List.mem_cons.mp m with r | m
      · exact sTI r
      rcases List.mem_cons.mp m with r | m
      · exact sTO r
      · exact si m
    · refine e2.extBut _ _ (sl c m) (e _ _ (D.l1 c m) (D.l3 c m) (fun qq => ?_) q)
      obtain ⟨d, n, e'⟩ := List.mem_map.mp qq
      exact D.li c m d n e'.symm
    · show N ≤ h2.objs.size
      rw [e2.1]
      show N ≤ h'.objs.size
      rw [hsz]
      exact Nat.le_succ_of_le hN
    · rw [List.map_append]
      exact l2
    · rw [List.map_append, G.rw_, List.take_add_one, er]
      rfl
    · rw [List.map_append]
      refine List.nodup_append.mpr ⟨G.nd, by simp, fun a ha b hb => ?_⟩
      obtain ⟨p, m, rfl⟩ := List.mem_map.mp ha
      have : b = s.heap.objs.size := List.mem_singleton.mp hb
      rw [this]
      exact Nat.ne_of_lt (Heap.lt_size (G.at_ p m).1)
    · rcases List.mem_append.mp m with m | m
      · exact ⟨e2.extBut _ _ (nS p m) (tp_ext (G.at_ p m).1 (G.at_ p m).2 hz hTO hit e), (G.at_ p m).2⟩
      · rw [List.mem_singleton.mp m]
        refine ⟨e2.extBut _ _ (fun q => ?_) tT, hN⟩
        have q : s.heap.objs.size = S := q
        rw [q] at hN
        exact absurd hN (Nat.not_le_of_lt hS)
    · exact hR h3 ps' c' G' fun a o n1 n2 n3 n4 q => k3 a o n1 n2 n3 n4 (e2.extBut _ _ n1 (e a o n2 n3 n4 q))
theorem extend_zip (D : ZA z TI TO cs) (hh : A.in1.handled = none) (hne : cs ≠ []) (hl : cs.length ≤ 100) {s : Shared} {S N c0 : Nat} (hS : S < N) (hz : z < N) (hTO : TO < N) (hTI : TI < N) (hit : ∀ c ∈ cs, c.it < N) (sz : S ≠ z) (sTO : S ≠ TO) (sTI : S ≠ TI) (si : S ∉ cs.map (·.it)) (sl : ∀ c ∈ cs, c.l ≠ S) {rows : List (List Value)} (hn : rows.length ≤ 100000)
    (hcol : ∀ c ∈ cs, c.xs.length = rows.length) (hrow : ∀ (i : Nat) (row : List Value), rows[i]? = some row → row.length = cs.length ∧ ∀ (j : Nat) (c : Col), cs[j]? = some c → c.xs[i]? = row[j]?) {R : Result → Shared → Prop}
    (st : ZSt s.heap z TI TO cs 0) (hls : ∀ c ∈ cs, s.heap.IsList c.l c.xs.toArray) (hN : N ≤ s.heap.objs.size) (hLS : LS s.heap S [] c0)
    (hR : ∀ h' ps' c', Got h' S N rows ps' c' → (∀ a o, a ≠ S → a ≠ z → a ≠ TO → a ∉ cs.map (·.it) → s.heap.get? a = some o → h'.get? a = some o) → R (.ok (.ret .none)) { s with heap := h' }) :
    wpAny (model prog w) A.in1 (Builtin.List.listExtendWith (.ref S) (.ref z) .none)
      (fun fin s' => match fin with | .done f => R (.ok f) s' | .again c' => c'.quiet = true ∧ codeAny (model prog w) A c' R s') (fun e s' => R (.error e) s') s := by
  unfold Builtin.List.listExtendWith
  refine wpAny_bind (wpAny_typeOf st.typeIs ?_)
  have h1 : Builtin.List.listSameRef (.ref S) (.ref z) = false := by simp [Builtin.List.listSameRef, sz]
  have h2 : (Value.type "zip" == Value.type "list") = false := by decide
  have h3 : (Value.type "zip" == Value.type "tuple") = false := by decide
  simp only [h1, h2, h3, Bool.or_false, Bool.false_eq_true, if_false]
  refine wpAny_bind (iter_self st ?_)
  refine wpAny_bind (wpAny_holding ?_)
  unfold Builtin.List.listLengthHint
  refine wpAny_bind (wpAny_specialOf st.typeIs nolen_zip ?_)
  show wpAny _ A.in1 (specialOf (Value.ref z) (Str.ofString "__length_hint__") >>= _) _ _ _
  refine wpAny_bind (wpAny_specialOf st.typeIs nohint_zip ?_)
  refine wpAny_pure ?_
  show wpAny _ A.in1 (rule "list.extend.makes-room" >>= fun _ => Builtin.List.listTouch (.ref S) >>= fun _ =>
    again (.builtin "list.extend.loop" ⟨[.ref S, .ref z, .none], []⟩)) _ _ _
  refine wpAny_bind (wpAny_rule ?_)
  refine wpAny_bind ?_
  show wpAny _ A.in1 (updateSeq S (·.push .none) >>= fun _ => updateSeq S (·.pop)) _ _ _
  refine wpAny_bind (wpAny_updateSeq hLS rfl ?_)
  have g2 := Heap.get?_update_self (Obj.mapSeq (·.push Value.none)) hLS rfl
  refine wpAny_updateSeq (hz := by seq_fits) g2 rfl ?_
  have g3 := Heap.get?_update_self (Obj.mapSeq (·.pop)) g2 rfl
  have oth : ∀ b o, b ≠ S → s.heap.get? b = some o → ((s.heap.update S (Obj.mapSeq (·.push Value.none))).update S (Obj.mapSeq (·.pop))).get? b = some o :=
    fun b o hb e => (Heap.get?_update_other _ _ (Ne.symm hb)).trans ((Heap.get?_update_other _ _ (Ne.symm hb)).trans e)
  refine wpAny_pure ⟨plainId_quiet F.plain_extend_loop _, ?_⟩
  refine zl_loop D hh hne hl hS hz hTO hTI hit sz sTO sTI si sl hn hcol hrow rows.length 0 _ [] _ rfl (Nat.zero_le _) (st.at fun b m o e => oth b o (fun q => ?_) e) (fun c m => (hls c m).at fun o e => oth _ o (sl c m) e) ?_ ⟨g3, by rw [List.take_zero]; rfl, List.nodup_nil, fun p m => nomatch m⟩ fun h' ps' c' G k => hR h' ps' c' G fun a o n1 n2 n3 n4 e => k a o n1 n2 n3 n4 (oth a o n1 e)
  · rw [q] at m
    rcases List.mem_cons.mp m with r | m
    · exact sz r
    rcases List.mem_cons.mp m with r | m
    · exact sTI r
    rcases List.mem_cons.mp m with r | m
    · exact sTO r
    · exact si m
  · show N ≤ ((s.heap.update S _).update S _).objs.size
    rw [Heap.size_update, Heap.size_update]
    exact hN
theorem call_list_zip {E : Value → Shared → Prop} {s : Shared} (D : ZA z TI TO cs) (hh : A.handled = none) (hne : cs ≠ []) (hl : cs.length ≤ 100) (st : ZSt s.heap z TI TO cs 0) (hls : ∀ c ∈ cs, s.heap.IsList c.l c.xs.toArray) {rows : List (List Value)} (hn : rows.length ≤ 100000)
    (hcol : ∀ c ∈ cs, c.xs.length = rows.length) (hrow : ∀ (i : Nat) (row : List Value), rows[i]? = some row → row.length = cs.length ∧ ∀ (j : Nat) (c : Col), cs[j]? = some c → c.xs[i]? = row[j]?) {Q : Value → Shared → Prop}
    (hQ : ∀ h' ps c', Got h' s.heap.objs.size (s.heap.objs.size + 1) rows ps c' → (∀ a o, a ≠ z → a ≠ TO → a ∉ cs.map (·.it) → s.heap.get? a = some o → h'.get? a = some o) → Q (.ref s.heap.objs.size) { s with heap := h' }) :
    wpAny (model prog w) A (call (.type "list") [.ref z]) Q E s := by
  obtain ⟨⟨f0, f1, hzo, hf⟩, hti, ⟨vs0, hto, hvl⟩, hi⟩ := id st
  have ltz : z < s.heap.objs.size := Heap.lt_size hzo
  have ltI : TI < s.heap.objs.size := Heap.lt_size hti
  have ltO : TO < s.heap.objs.size := Heap.lt_size hto
  have lti : ∀ c ∈ cs, c.it < s.heap.objs.size := fun c m => let ⟨o, e, _⟩ := hi c m; Heap.lt_size e
  have ltl : ∀ c ∈ cs, c.l < s.heap.objs.size := fun c m => let ⟨o, e, _⟩ := hls c m; Heap.lt_size e
  refine callType_codes (Q₁ := fun obj s₁ => obj = .ref s.heap.objs.size ∧ s₁ = { s with heap := s.heap.push { cls := .type "list", data := .seq #[] } }) F.called_list (F.typeCall_list_1 _) F.entry_list_init
    (code_list_new _ ⟨rfl, rfl⟩) fun obj s₁ h₁ => ?_
  obtain ⟨rfl, rfl⟩ := h₁
  have hS : (s.heap.push { cls := .type "list", data := .seq #[] }).get? s.heap.objs.size = some { cls := .type "list", data := .seq #[] } := Heap.get?_push_size _ rfl
  refine ⟨⟨_, hS, rfl⟩, F.args_list_init_2 _ _, ?_⟩
  have ne : ∀ {a : Addr}, a < s.heap.objs.size → a ≠ s.heap.objs.size := fun h => Nat.ne_of_lt h
  -- the list is emptied, room is made
  show wpAny _ A.in1.in1 (do let old ← Builtin.List.listItems (.ref s.heap.objs.size); Builtin.List.listUpdate (.ref s.heap.objs.size) (fun _ => #[]); letGo old.toList.reverse; Builtin.List.listExtendWith (.ref s.heap.objs.size) (.ref z) .none) _ _ _
  refine wpAny_bind ?_
  unfold Builtin.List.listItems
  refine wpAny_bind (wpAny_seqItems hS rfl (wpAny_pure ?_))
  show wpAny _ A.in1.in1 (updateSeq s.heap.objs.size (fun _ => #[]) >>= fun _ => letGo (#[] : Array Value).toList.reverse >>= fun _ => Builtin.List.listExtendWith (.ref s.heap.objs.size) (.ref z) .none) _ _ _
  refine wpAny_bind (wpAny_updateSeq hS rfl ?_)
  have hS2 := Heap.get?_update_self (Obj.mapSeq (fun _ => (#[] : Array Value))) hS rfl
  have old : ∀ a o, s.heap.get? a = some o → ((s.heap.push { cls := .type "list", data := .seq #[] }).update s.heap.objs.size (Obj.mapSeq (fun _ => (#[] : Array Value)))).get? a = some o :=
    fun a o e => (Heap.get?_update_other _ _ (Ne.symm (ne (Heap.lt_size e)))).trans (Heap.get?_push_of_some _ e)
  refine wpAny_bind (wpAny_letGo ?_)
  refine extend_zip (A := A.in1) (N := s.heap.objs.size + 1) D hh hne hl (Nat.lt_succ_self _) (Nat.lt_succ_of_lt ltz) (Nat.lt_succ_of_lt ltO) (Nat.lt_succ_of_lt ltI) (fun c m => Nat.lt_succ_of_lt (lti c m)) (ne ltz).symm (ne ltO).symm (ne ltI).symm (fun q => ?_) (fun c m => ne (ltl c m)) hn hcol hrow (st.at fun b _ o e => old b o e) (fun c m => (hls c m).at fun o e => old _ o e) ?_ hS2 fun h' ps' c' G k => ?_
  · obtain ⟨c, m, e⟩ := List.mem_map.mp q
    exact ne (lti c m) e
  · show _ ≤ (Heap.update _ _ _).objs.size
    rw [Heap.size_update, Heap.size_push]
    exact Nat.le_refl _
  · exact ⟨rfl, hQ h' ps' c' G fun a o n2 n3 n4 e => k a o (ne (Heap.lt_size e)) n2 n3 n4 (old a o e)⟩
end
end Dn

set_option Elab.async false
set_option linter.all false
set_option maxRecDepth 100000
set_option maxHeartbeats 1000000
namespace Dn
open PySem PySem.Spec L2
open Rep (rep)
open ORep (orep)
def addT : Hp → List (Addr × List V) → Hp
  | H, [] => H
  | H, p :: ps => addT (upd H p.1 (.tup p.2)) ps
theorem addT_old : ∀ {ps : List (Addr × List V)} {H : Hp} {a : Addr}, a ∉ ps.map (·.1) → addT H ps a = H a
  | [], _, _, _ => rfl
  | p :: ps, H, a, h => by
    have h1 : a ≠ p.1 := fun e => h (by rw [e]; exact List.mem_cons_self ..)
    have h2 : a ∉ ps.map (·.1) := fun m => h (List.mem_cons_of_mem _ m)
    show addT (upd H p.1 (.tup p.2)) ps a = H a
    rw [addT_old h2, upd_ne h1]
theorem addT_at : ∀ {ps : List (Addr × List V)} {H : Hp} {p : Addr × List V}, (ps.map (·.1)).Nodup → p ∈ ps → addT H ps p.1 = some (.tup p.2)
  | q :: ps, H, p, nd, m => by
    obtain ⟨n1, n2⟩ := List.nodup_cons.mp (show (q.1 :: ps.map (·.1)).Nodup from nd)
    show addT (upd H q.1 (.tup q.2)) ps p.1 = _
    rcases List.mem_cons.mp m with rfl | m
    · rw [addT_old n1, upd_same]
    · exact addT_at n2 m
theorem addT_le : ∀ {ps : List (Addr × List V)} {H : Hp}, (ps.map (·.1)).Nodup → (∀ p ∈ ps, H p.1 = none) → Le H (addT H ps)
  | [], H, _, _ => Le.refl _
  | q :: ps, H, nd, h => by
    obtain ⟨n1, n2⟩ := List.nodup_cons.mp (show (q.1 :: ps.map (·.1)).Nodup from nd)
    refine (Le.put (h q (List.mem_cons_self ..))).trans (addT_le n2 fun p m => ?_)
    rw [upd_ne (fun e => n1 (by rw [← e]; exact List.mem_map.mpr ⟨p, m, rfl⟩))]
    exact h p (List.mem_cons_of_mem _ m)
theorem addT_grow : ∀ {ps : List (Addr × List V)} {B H : Hp}, Le B H → (ps.map (·.1)).Nodup → (∀ p ∈ ps, H p.1 = none) → Grow B H (addT B ps) (addT H ps)
  | [], B, H, l, _, _ => Grow.refl l
  | q :: ps, B, H, l, nd, h => by
    obtain ⟨n1, n2⟩ := List.nodup_cons.mp (show (q.1 :: ps.map (·.1)).Nodup from nd)
    have g := Grow.new (o := .tup q.2) l (h q (List.mem_cons_self ..))
    refine g.trans (addT_grow g.bh n2 fun p m => ?_)
    rw [upd_ne (fun e => n1 (by rw [← e]; exact List.mem_map.mpr ⟨p, m, rfl⟩))]
    exact h p (List.mem_cons_of_mem _ m)
section
variable {X : Cx} {pins : List (Addr × Obj)} {σ : St} {H H' : Hp} {s : Shared} {h' : Heap} {t' : Nat}
theorem inv_grown (I : Inv X pins σ H s) (k : ∀ b o, s.heap.get? b = some o → h'.get? b = some o) (le : Le H H') (nw : ∀ a, H a = none → H' a ≠ none → s.heap.objs.size ≤ a)
    (ok : ∀ a u, H a = none → H' a = some u → ObjOk X.prog X.w H' h' a u) : Inv X pins σ H' { s with heap := h', toks := t' } := by
  refine I.un ⟨fun b o e _ _ _ => k b o e, fun b o e _ _ _ => ⟨o.slots, k b o e⟩, fun b o e n _ => ?_, fun b o e _ => ⟨o, k b o e⟩, fun b xs e => le b _ e, fun b o u e => le b _ e, fun b ps e => ⟨#[], by rw [le b _ e]; simp⟩⟩ (fun a u e => ?_)
  · cases q : H' b with
    | none => rfl
    | some u => exact absurd (Heap.lt_size e) (Nat.not_lt.mpr (nw b n (by rw [q]; exact fun z => nomatch z)))
  · cases q : H a with
    | none => exact ok a u q e
    | some w =>
      have hw := I.hok a w q
      have := le a _ q
      rw [this] at e
      cases e
      exact hw.stay (fun c v _ q => k c v q) (fun c q => le c _ q) fun c xs q => le c _ q
end
def tLZ (K : PySem.W.Frag) (te : TE) : TE := fun σ H Q => te σ H fun x H1 => ∃ (a : Addr) (as : List Addr) (rv : List (List V)), x = .ref a ∧ SqL K H1 a (as.map V.ref) ∧ 1 ≤ as.length ∧ as.length ≤ 5 ∧ rv.length ≤ 100000 ∧ (∀ row ∈ rv, row.length = as.length) ∧
  (∀ (j : Nat) (l : Addr), as[j]? = some l → ∃ ys, SqL K H1 l ys ∧ ys.length = rv.length ∧ ∀ (i : Nat) (row : List V), rv[i]? = some row → ys[i]? = row[j]?) ∧
  ∀ (ps : List (Addr × List V)) (S : Addr), ps.map (·.2) = rv → (S :: ps.map (·.1)).Nodup → (∀ p ∈ ps, H1 p.1 = none) → H1 S = none → Q (.ref S) (upd (addT H1 ps) S (.lst (ps.map fun p => V.ref p.1)))
theorem pe_listZip {X : Cx} {e : Expr} {te : TE} {p p2 pos pos2 sp : Pos} (hc : X.calm = true) (hg : Gl X "list") (hm : X.mg "list" = none) (hg2 : Gl X "zip") (hm2 : X.mg "zip" = none) (he : PE X e te) :
    PE X (.Call (.Name "list" p) [.Call (.Name "zip" p2) [.Starred e sp] [] pos2] [] pos) (tLZ X.K te) := by
  refine ⟨fun pins s σ H Q I h => ?_⟩
  refine PyProof.Rows.Call_ (ld_blt I hg hm PyProof.Rows.boot_list (PyProof.Rows.callWith_type1 (PyProof.Rows.args_cons ?_ rfl) rfl rfl))
  refine PyProof.Rows.Call_ (ld_blt I hg2 hm2 PyProof.Rows.boot_zip (callWith_tyS rfl (PySem.W.ks_lone (thn (he.run pins s σ H _ I h) fun v s1 hx => ?_))))
  obtain ⟨x, H1, I1, r1, a, as, rv, rfl, hq, h1, h5, hn, hrl, hL, q⟩ := hx
  obtain rfl : v = Value.ref a := r1
  refine StX.star_any I1 (.inr hq) fun us s2 I2 rvv => ?_
  rw [vals_refs' rvv]
  show wpAny _ _ (call (.type "zip") (as.map Value.ref)) _ _ _
  have hL2 : ∀ l ∈ as, ∃ items, s2.heap.IsList l items := fun l m => by
    obtain ⟨j, hj, e⟩ := List.getElem_of_mem m
    obtain ⟨ys, hy, _⟩ := hL j l (by rw [List.getElem?_eq_getElem hj, e])
    obtain ⟨its, _, p, _⟩ := I2.list hy
    exact ⟨_, p.isList⟩
  refine call_zipN as h1 h5 hL2 fun h' z => PyProof.Rows.args_nil ?_
  have st := newZ_st z
  have I3 : Inv X pins σ H1 { s2 with heap := h' } := I2.kept (t' := s2.toks) z.keep
  have lt : ∀ l ∈ as, l < s2.heap.objs.size := fun l m => by
    obtain ⟨items, o, e, _⟩ := hL2 l m
    exact Heap.lt_size e
  have D := skel_ZA lt
  obtain ⟨cs, ecs, hcs⟩ := cols_of I3 (skel s2.heap.objs.size as) fun c m => by
    obtain ⟨j, l, e, rfl, _⟩ := skel_mem m
    obtain ⟨ys, hy, _⟩ := hL j l e
    exact ⟨ys, hy⟩
  have hlen : cs.length = as.length := (cf_len ecs).trans (skel_len _ _)
  -- the values
  have val : ∀ (j : Nat) (c : Col), cs[j]? = some c → ∃ ys, Vals ys c.xs ∧ ys.length = rv.length ∧ ∀ (i : Nat) (row : List V), rv[i]? = some row → ys[i]? = row[j]? := fun j c e => by
    obtain ⟨c0, e0, e1, e2⟩ := cf_at ecs e
    rw [skel_at] at e0
    obtain ⟨l, el, rfl⟩ := Option.map_eq_some_iff.mp e0
    obtain ⟨ys, hy, hl, hr⟩ := hL j l el
    have e2 : l = c.l := e2
    rw [e2] at hy
    exact ⟨ys, (hcs c (List.mem_of_getElem? e)).2 ys hy, hl, hr⟩
  have mem_at : ∀ c ∈ cs, ∃ j, cs[j]? = some c := fun c m => by
    obtain ⟨j, hj, e⟩ := List.getElem_of_mem m
    exact ⟨j, by rw [List.getElem?_eq_getElem hj, e]⟩
  refine call_list_zip (s := { s2 with heap := h' }) (ZA.of ecs D) (I3.ok.hd hc) (fun e => by rw [e] at hlen; have : (0 : Nat) = as.length := hlen; omega) (by omega) (ZSt.of ecs st) (fun c m => (hcs c m).1)
    (rows := (List.range rv.length).map fun i => cs.map fun c => c.xs.getD i .none) (by rw [List.length_map, List.length_range]; exact hn) (fun c m => ?_) (fun i row er => ?_) fun h2 ps c' G k => ?_
  · obtain ⟨j, e⟩ := mem_at c m
    obtain ⟨ys, rr, hl, _⟩ := val j c e
    rw [List.length_map, List.length_range, ← hl]
    exact (Paired.length rr).symm
  · rw [List.getElem?_map] at er
    obtain ⟨i', ei, rfl⟩ := Option.map_eq_some_iff.mp er
    have il : i < rv.length := by
      have := (List.getElem?_eq_some_iff.mp ei).1
      rw [List.length_range] at this
      exact this
    rw [List.getElem?_eq_getElem (by rw [List.length_range]; exact il), List.getElem_range] at ei
    cases ei
    refine ⟨by rw [List.length_map], fun j c e => ?_⟩
    obtain ⟨ys, rr, hl, _⟩ := val j c e
    have xl : i < c.xs.length := by rw [← Paired.length rr, hl]; exact il
    rw [List.getElem?_map, e]
    show _ = some (c.xs.getD i .none)
    rw [List.getD_eq_getElem?_getD, List.getElem?_eq_getElem xl]
    rfl
  · have gl : ps.length = rv.length := by
      have := congrArg List.length G.rw_
      rw [List.length_map, List.length_map, List.length_range] at this
      exact this
    have e1 : ((ps.map (·.1)).zip rv).map (·.1) = ps.map (·.1) := List.map_fst_zip (by rw [List.length_map, gl]; exact Nat.le_refl _)
    have e2 : ((ps.map (·.1)).zip rv).map (·.2) = rv := List.map_snd_zip (by rw [List.length_map, gl]; exact Nat.le_refl _)
    have big : s2.heap.objs.size ≤ h'.objs.size := by rw [z.sz]; omega
    have tb : ∀ p ∈ ps, h'.objs.size + 1 ≤ p.1 := fun p m => (G.at_ p m).2
    have nd2 : (h'.objs.size :: ((ps.map (·.1)).zip rv).map (·.1)).Nodup := by
      rw [e1]
      refine List.nodup_cons.mpr ⟨fun m => ?_, G.nd⟩
      obtain ⟨p, mp, e⟩ := List.mem_map.mp m
      have := tb p mp
      rw [e] at this
      exact absurd this (Nat.not_succ_le_self _)
    have fr : ∀ p ∈ (ps.map (·.1)).zip rv, h'.objs.size + 1 ≤ p.1 := fun p m => by
      have : p.1 ∈ ps.map (·.1) := by rw [← e1]; exact List.mem_map.mpr ⟨p, m, rfl⟩
      obtain ⟨p', mp, e⟩ := List.mem_map.mp this
      rw [← e]
      exact tb p' mp
    have nH : ∀ p ∈ (ps.map (·.1)).zip rv, H1 p.1 = none := fun p m => I2.hok.fresh (Nat.le_trans big (Nat.le_of_succ_le (fr p m)))
    have nS : H1 h'.objs.size = none := I2.hok.fresh big
    have ndT := (List.nodup_cons.mp nd2).2
    have nT : h'.objs.size ∉ ((ps.map (·.1)).zip rv).map (·.1) := (List.nodup_cons.mp nd2).1
    have lel : Le H1 (addT H1 ((ps.map (·.1)).zip rv)) := addT_le ndT nH
    have key := q ((ps.map (·.1)).zip rv) h'.objs.size e2 nd2 nH nS
    have er : (((ps.map (·.1)).zip rv).map fun p => V.ref p.1) = ps.map fun p => V.ref p.1 := by
      have := congrArg (List.map V.ref) e1
      rw [List.map_map, List.map_map] at this
      exact this
    rw [er] at key
    have nSa : addT H1 ((ps.map (·.1)).zip rv) h'.objs.size = none := by rw [addT_old nT]; exact nS
    have I4 : Inv X pins σ (upd (addT H1 ((ps.map (·.1)).zip rv)) h'.objs.size (.lst (ps.map fun p => V.ref p.1))) { s2 with heap := h2, toks := s2.toks } := by
      refine inv_grown (t' := s2.toks) I2 (fun b o e => ?_) (lel.trans (Le.put nSa)) (fun b n1 n2 => ?_) (fun b u n1 eu => ?_)
      · have bl := Heap.lt_size e
        refine k b o (Nat.ne_of_lt (Nat.lt_of_lt_of_le bl (Nat.le_trans (Nat.le_add_right _ as.length) (Nat.le_add_right _ 2)))) (Nat.ne_of_lt (Nat.lt_of_lt_of_le bl (Nat.le_trans (Nat.le_add_right _ as.length) (Nat.le_add_right _ 1)))) (fun m => ?_) (z.keep b o e)
        rw [cf_it ecs, skel_it] at m
        obtain ⟨j, _, ej⟩ := List.mem_map.mp m
        rw [← ej] at bl
        exact absurd bl (Nat.not_lt.mpr (Nat.le_add_right _ _))
      · by_cases hb : b = h'.objs.size
        · rw [hb]
          exact big
        · rw [upd_ne hb] at n2
          by_cases hm : b ∈ ((ps.map (·.1)).zip rv).map (·.1)
          · obtain ⟨p, mp, rfl⟩ := List.mem_map.mp hm
            exact Nat.le_trans big (Nat.le_of_succ_le (fr p mp))
          · rw [addT_old hm] at n2
            exact absurd n1 n2
      · by_cases hb : b = h'.objs.size
        · subst hb
          rw [upd_same] at eu
          cases eu
          refine ⟨by rw [List.length_map, gl]; exact Nat.le_trans hn (by decide), _, c', ?_, G.ls⟩
          show Vals (ps.map fun p => V.ref p.1) (ps.map fun p => Value.ref p.1).toArray.toList
          generalize ps = qs
          induction qs with
          | nil => exact .nil
          | cons p qs ih => exact .cons rfl ih
        · rw [upd_ne hb] at eu
          by_cases hm : b ∈ ((ps.map (·.1)).zip rv).map (·.1)
          · obtain ⟨p, mp, rfl⟩ := List.mem_map.mp hm
            rw [addT_at ndT mp] at eu
            cases eu
            obtain ⟨i, hi, ep⟩ := List.getElem_of_mem mp
            have epi : ((ps.map (·.1)).zip rv)[i]? = some p := by rw [List.getElem?_eq_getElem hi, ep]
            rw [List.getElem?_zip_eq_some] at epi
            obtain ⟨ei1, ei2⟩ := epi
            rw [List.getElem?_map] at ei1
            obtain ⟨pv, epv, e1'⟩ := Option.map_eq_some_iff.mp ei1
            have il : i < rv.length := (List.getElem?_eq_some_iff.mp ei2).1
            have rowv : pv.2 = cs.map fun c => c.xs.getD i .none := by
              have h3 : (ps.map (·.2))[i]? = some pv.2 := by rw [List.getElem?_map, epv]; rfl
              rw [G.rw_, List.getElem?_map, List.getElem?_eq_getElem (by rw [List.length_range]; exact il), List.getElem_range] at h3
              exact (Option.some.inj h3).symm
            have tp := (G.at_ pv (List.mem_of_getElem? epv)).1
            rw [rowv] at tp
            have e1' : pv.1 = p.1 := e1'
            rw [e1'] at tp
            have rl := hrl p.2 (List.mem_of_getElem? ei2)
            refine ⟨by rw [rl]; exact Nat.le_trans h5 (by decide), _, paired_ix (by rw [List.length_map, hlen, rl]) (fun j x y ex ey => ?_), ⟨_, tp, rfl, _, rfl⟩⟩
            rw [List.getElem?_map] at ey
            obtain ⟨c, ec, rfl⟩ := Option.map_eq_some_iff.mp ey
            obtain ⟨ys, rr, hl, hr⟩ := val j c ec
            have := hr i p.2 ei2
            rw [ex] at this
            obtain ⟨u, hu, ru⟩ := Vals.get rr this
            rw [List.getD_eq_getElem?_getD, hu]
            exact ru
          · rw [addT_old hm] at eu
            rw [n1] at eu
            cases eu
    exact ⟨.ref h'.objs.size, _, I4, rfl, key⟩
section
variable {c : Ct} {env : List Slot} {e : Expr} {α : Type} [Rep α]
theorem dn_listZip {p p2 pos pos2 sp : Pos} {m : Option (List (List α))} (hm : c.mg "list" = none) (hm2 : c.mg "zip" = none) (h : De c env e m) (hg : Gv c "list" := by rfl) (hg2 : Gv c "zip" := by rfl) :
    DeN c env (.Call (.Name "list" p) [.Call (.Name "zip" p2) [.Starred e sp] [] pos2] [] pos) (m.bind fun x => (zipS x).bind capI) := by
  obtain ⟨t, h1, h2⟩ := h
  refine ⟨tLZ c.K t, fun X F => by rw [← F.K]; exact pe_listZip F.calm (fits_gl F hg) (by rw [F.mg]; exact hm) (fits_gl F hg2) (by rw [F.mg]; exact hm2) (h1 X F), fun rows hr B H σ E Q q => ?_⟩
  obtain ⟨xss, ex, hr⟩ := bind_some hr
  obtain ⟨rows', hz, hcap⟩ := bind_some hr
  unfold capI at hcap
  split at hcap
  · rename_i hcl
    cases hcap
    refine h2 xss ex B H σ E _ fun v B1 H1 k1 r => ?_
    obtain ⟨a, vs, rfl, s, r⟩ := r
    obtain ⟨as, wss, rfl, l1, l2, g⟩ := lists_of r
    have hz' := hz
    unfold zipS at hz'
    split at hz'
    · rename_i ok
      rw [Bool.and_eq_true, Bool.and_eq_true, List.all_eq_true, decide_eq_true_eq, decide_eq_true_eq] at ok
      have hlen := mapO_len hz'
      rw [List.length_range] at hlen
      have eqn : ∀ xs ∈ xss, xs.length = rows.length := fun xs m => by rw [of_decide_eq_true (ok.2 xs m), hlen]
      have rlen : ((List.range rows.length).map fun i => wss.map fun ws => ws.getD i V.non).length = rows.length := by rw [List.length_map, List.length_range]
      refine ⟨a, as, (List.range rows.length).map fun i => wss.map fun ws => ws.getD i V.non, rfl, k1.bh.l s, by omega, by omega, ?_, fun row m => ?_, fun j l e => ?_, fun ps S eps nd nH nS => ?_⟩
      · rw [rlen]
        exact of_decide_eq_true hcl
      · obtain ⟨i, _, rfl⟩ := List.mem_map.mp m
        rw [List.length_map]
        omega
      · obtain ⟨ws, xs, w1, w2, s', r'⟩ := g j l e
        have wl : ws.length = rows.length := by rw [r'.len]; exact eqn xs (List.mem_of_getElem? w2)
        refine ⟨ws, k1.bh.l s', by rw [rlen]; exact wl, fun i row er => ?_⟩
        rw [List.getElem?_map] at er
        obtain ⟨i', ei, rfl⟩ := Option.map_eq_some_iff.mp er
        have il : i < rows.length := by
          have := (List.getElem?_eq_some_iff.mp ei).1
          rw [List.length_range] at this
          exact this
        rw [List.getElem?_eq_getElem (by rw [List.length_range]; exact il), List.getElem_range] at ei
        cases ei
        rw [List.getElem?_map, w1]
        show _ = some (ws.getD i V.non)
        rw [List.getD_eq_getElem?_getD, List.getElem?_eq_getElem (by omega)]
        rfl
      · obtain ⟨nS', ndT⟩ := List.nodup_cons.mp nd
        have gr := addT_grow (ps := ps) k1.bh ndT nH
        have nSa : addT H1 ps S = none := by rw [addT_old nS']; exact nS
        have nSb : addT B1 ps S = none := by rw [addT_old nS']; exact k1.bh.none nS
        refine q S _ (addT B1 ps) _ (k1.none nS) ((k1.trans gr).trans (Grow.free gr.bh nSa)) nSb upd_same ⟨_, rfl, ?_⟩
        have pl : ps.length = rows.length := by
          have := congrArg List.length eps
          rw [List.length_map, rlen] at this
          exact this
        refine paired_ix (by rw [List.length_map, pl]) fun i v x ev ex' => ?_
        rw [List.getElem?_map] at ev
        obtain ⟨p', ep, rfl⟩ := Option.map_eq_some_iff.mp ev
        have il : i < rows.length := (List.getElem?_eq_some_iff.mp ex').1
        have prow : p'.2 = wss.map fun ws => ws.getD i V.non := by
          have h3 : (ps.map (·.2))[i]? = some p'.2 := by rw [List.getElem?_map, ep]; rfl
          rw [eps, List.getElem?_map, List.getElem?_eq_getElem (by rw [List.length_range]; exact il), List.getElem_range] at h3
          exact (Option.some.inj h3).symm
        obtain ⟨x', hx, ex2⟩ := mapO_at hz' (i := i) (x := i) (by rw [List.getElem?_eq_getElem (by rw [List.length_range]; omega), List.getElem_range])
        rw [ex'] at ex2
        cases ex2
        refine ⟨p'.1, p'.2, rfl, SqT.of (addT_at ndT (List.mem_of_getElem? ep)), ?_⟩
        unfold rowAt at hx
        obtain ⟨zs, hzs, rfl⟩ := Option.map_eq_some_iff.mp hx
        have zl := mapO_len hzs
        rw [prow]
        refine paired_ix (by rw [List.length_map, l2]; exact zl.symm) fun j y b ey eb => ?_
        rw [List.getElem?_map] at ey
        obtain ⟨ws, ew, rfl⟩ := Option.map_eq_some_iff.mp ey
        have jl : j < as.length := by
          have := (List.getElem?_eq_some_iff.mp ew).1
          omega
        obtain ⟨ws', xs, w1, w2, s', r'⟩ := g j _ (List.getElem?_eq_getElem jl)
        rw [ew] at w1
        cases w1
        obtain ⟨b', hb', eb'⟩ := mapO_at hzs w2
        have eb2 : zs[j]? = some b := eb
        rw [eb2] at eb'
        cases eb'
        obtain ⟨y', hy', ry⟩ := Reps.get' r' hb'
        rw [List.getD_eq_getElem?_getD, hy']
        exact Rep.mono gr.b ry
    · cases hz'
  · cases hcap
end
end Dn

set_option Elab.async false
set_option linter.all false
set_option maxRecDepth 100000
namespace Dn
open PySem PySem.Spec PyProof.Rows L2
open Rep (rep)
open ORep (orep)
end Dn

set_option Elab.async false
set_option linter.all false
set_option maxRecDepth 100000
namespace Dn
open PySem PySem.Spec L2
open Rep (rep)
open ORep (orep)
structure Tri (α β γ : Type) where
  x1 : α
  x2 : β
  x3 : γ
section
variable {α β γ : Type}
instance [Rep α] [Rep β] [Rep γ] : Rep (Tri α β γ) := ⟨fun K B v x => ∃ a v1 v2 v3, v = .ref a ∧ SqL K B a [v1, v2, v3] ∧ rep K B v1 x.x1 ∧ rep K B v2 x.x2 ∧ rep K B v3 x.x3,
  fun e ⟨a, v1, v2, v3, h, s, r1, r2, r3⟩ => ⟨a, v1, v2, v3, h, e.l s, Rep.mono e r1, Rep.mono e r2, Rep.mono e r3⟩⟩
instance [Dat α] [Dat β] [Dat γ] : Dat (Tri α β γ) where
  toD := fun x => .list [Dat.toD x.x1, Dat.toD x.x2, Dat.toD x.x3]
  dp := fun h => by
    obtain ⟨a, v1, v2, v3, rfl, s, r1, r2, r3⟩ := h
    exact .lst s (.cons (Dat.dp r1) (.cons (Dat.dp r2) (.cons (Dat.dp r3) .nil)))
  dep := max (Dat.dep α) (max (Dat.dep β) (Dat.dep γ)) + 1
  hdep := fun x => by
    have h1 := Dat.hdep x.x1
    have h2 := Dat.hdep x.x2
    have h3 := Dat.hdep x.x3
    simp only [PyData.depth, PyData.depthAll]
    omega
  dec := fun x y => by
    letI := Dat.dec (α := α); letI := Dat.dec (α := β); letI := Dat.dec (α := γ)
    exact decidable_of_iff (x.x1 = y.x1 ∧ x.x2 = y.x2 ∧ x.x3 = y.x3) ⟨fun ⟨a, b, c⟩ => by cases x; cases y; cases a; cases b; cases c; rfl, fun h => by rw [h]; exact ⟨rfl, rfl, rfl⟩⟩
  eqv := fun x y => by
    obtain ⟨x1, x2, x3⟩ := x
    obtain ⟨y1, y2, y3⟩ := y
    rw [PyData.eqv, PyData.eqvAll, PyData.eqvAll, PyData.eqvAll, PyData.eqvAll, Dat.eqv, Dat.eqv, Dat.eqv]
    letI := Dat.dec (α := α)
    letI := Dat.dec (α := β)
    letI := Dat.dec (α := γ)
    by_cases h : x1 = y1 <;> by_cases g : x2 = y2 <;> by_cases k : x3 = y3 <;> simp [h, g, k]
end
section
variable {c : Ct} {env : List Slot} {a e1 e2 e3 : Expr} {α β γ : Type} [Rep α] [Rep β] [Rep γ]
end
section
variable {c : Ct} {env : List Slot} {a b : Expr} {α : Type} [Rep α]
end
end Dn

set_option Elab.async false
set_option linter.all false
set_option maxRecDepth 100000
namespace Dn
open PySem PySem.Spec L2
open Rep (rep)
open ORep (orep)
section
variable {c : Ct} {env : List Slot} {e o : Expr} {es : List Expr} {α β γ R : Type} [Rep α] [Rep β] [ORep R]
end
section
variable {c : Ct} {env : List Slot} {α β γ δ R : Type} [Rep α] [Rep β] [Rep γ] [Rep δ] [Rep R]
end
end Dn

set_option Elab.async false
set_option linter.all false
set_option maxRecDepth 100000
namespace Dn
open PySem PySem.Spec PyProof.Rows L2
open Rep (rep)
open ORep (orep)
section
variable {c : Ct} {env : List Slot} {a e o : Expr}
end
section
variable {S L R : Type} [Rep R] {c : Ct} {env : List Slot} {rest : List Stmt} {e : Expr} {mk : S → List Slot} {lk : L → List Slot}
end
section
variable {P : Program} {w : World} {A : Around} {E : Value → Shared → Prop} {s : Shared}
end
section
variable {X : Cx}
end
section
variable {c : Ct} {env : List Slot} {a : Expr}
end
end Dn

set_option Elab.async false
set_option linter.all false
set_option maxRecDepth 100000
namespace Dn
open PySem PySem.Spec L2
open Rep (rep)
open ORep (orep)
instance {α β : Type} [Rep α] [Rep β] [Thaw α] [Thaw β] : Thaw (α × β) := ⟨fun h r => by
  obtain ⟨b, v1, v2, rfl, s, r1, r2⟩ := r
  exact ⟨b, v1, v2, rfl, SqT_thaw h s, Thaw.thaw h r1, Thaw.thaw h r2⟩⟩
section
variable {c : Ct} {env : List Slot} {st : Stmt} {e : Expr} {α β : Type} [Rep α] [Rep β]
theorem dt_lend {xs : List α} {m : Option Bool} (j : Nat) (he : env[j]? = some (.own xs)) (h : DeT c (env.set j (.val xs)) e m) : DeT c env e m := by
  obtain ⟨t, h1, h2⟩ := h
  refine ⟨t, h1, fun x hx B H σ E Q q => ?_⟩
  obtain ⟨a, vs, nb, ha, E'⟩ := env_thaw (xs := xs) E he (fun _ _ _ _ h => h)
  exact h2 x hx _ H σ E' Q fun B' H' g => q _ H' (grow_thaw nb g)
end
end Dn

set_option Elab.async false
set_option linter.all false
set_option maxRecDepth 100000
namespace Dn
open PySem PySem.Spec L2
open Rep (rep)
open ORep (orep)
structure DL where
  l : List (Int × List Int)
def DL.get (d : DL) (k : Int) : Option (List Int) := (d.l.find? fun p => decide (p.1 = k)).map (·.2)
def DL.put (d : DL) (k : Int) (v : List Int) : DL := if (d.get k).isSome = true then ⟨d.l.map fun p => if p.1 = k then (p.1, v) else p⟩ else ⟨d.l ++ [(k, v)]⟩
abbrev Tr := Int × Addr × List Int
abbrev trK (t : Tr) : Key × V := (Sum.inl t.1, V.ref t.2.1)
def trC (a : Addr) (ts : List Tr) : List Addr := a :: ts.map (·.2.1)
structure DLAt (H : Hp) (a : Addr) (ts : List Tr) : Prop where
  obj : H a = some (.dK (ts.map trK))
  nd : (trC a ts).Nodup
  kd : (ts.map (·.1)).Nodup
  lst : ∀ t ∈ ts, H t.2.1 = some (.lst (t.2.2.map V.int))
def psiDL (d : DL) : PySem.W.Frag → Hp → Hp → Addr → List Addr → Prop := fun _ _ H a cs => ∃ ts : List Tr, cs = trC a ts ∧ ts.map (fun t => (t.1, t.2.2)) = d.l ∧ DLAt H a ts
theorem DLAt.same {H H' : Hp} {a : Addr} {ts : List Tr} (h : DLAt H a ts) (e : ∀ c ∈ trC a ts, H' c = H c) : DLAt H' a ts :=
  ⟨by rw [e a (List.mem_cons_self ..)]; exact h.obj, h.nd, h.kd, fun t ht => by rw [e t.2.1 (List.mem_cons_of_mem _ (List.mem_map.mpr ⟨t, ht, rfl⟩))]; exact h.lst t ht⟩
theorem psiDL_mono (d : DL) : ∀ K B B' H H' a cs, Le B B' → (∀ c ∈ cs, H' c = H c) → psiDL d K B H a cs → psiDL d K B' H' a cs := fun K B B' H H' a cs _ e ⟨ts, h1, h2, h3⟩ => ⟨ts, h1, h2, h3.same (by rw [← h1]; exact e)⟩
abbrev Slot.dl (d : DL) : Slot := .deep (psiDL d) (psiDL_mono d)
section
variable {K : PySem.W.Frag} {B0 H0 B H B' H' : Hp} {σ : St} {env env' : List Slot}
abbrev NoDeep (env : List Slot) (i : Nat) : Prop := ((env.set i .any).all fun s => !isDeep s) = true
theorem NoDeep.at {i : Nat} (n : NoDeep env i) {k : Nat} {ψ hm} (h : env[k]? = some (.deep ψ hm)) : k = i := by
  by_cases q : i = k
  · exact q.symm
  · have m : Slot.deep ψ hm ∈ env.set i .any := List.mem_of_getElem? (i := k) (by rw [List.getElem?_set_ne q]; exact h)
    have := List.all_eq_true.mp n _ m
    cases this
end
section
variable {S L R : Type} [Rep R] {c : Ct} {env : List Slot} {rest : List Stmt} {e i ke de : Expr} {mk : S → List Slot} {lk : L → List Slot}
end
end Dn

set_option Elab.async false
set_option linter.all false
set_option maxRecDepth 100000
namespace Dn
open PySem PySem.Spec L2
open Rep (rep)
open ORep (orep)
def dlK (t : Int × V) : Key × V := (Sum.inl t.1, t.2)
def repDL (K : PySem.W.Frag) (B : Hp) (o : HO) (x : DL) : Prop := ∃ ts : List (Int × V), o = .dK (ts.map dlK) ∧ ts.map (·.1) = x.l.map (·.1) ∧ Reps K B (ts.map (·.2)) (x.l.map (·.2))
theorem repDL_mono {K : PySem.W.Frag} {B B' : Hp} {o : HO} {x : DL} (e : Le B B') (h : repDL K B o x) : repDL K B' o x := by
  obtain ⟨ts, h1, h2, h3⟩ := h
  exact ⟨ts, h1, h2, h3.mono e⟩
instance : ORep DL := ⟨repDL, repDL_mono⟩
section
variable {K : PySem.W.Frag} {B0 H0 B H B' H' : Hp} {σ : St} {env env' : List Slot}
end
section
variable {S L R : Type} [Rep R] {c : Ct} {env : List Slot} {b : List Stmt} {mk : S → List Slot} {lk : L → List Slot}
end
instance : Rep Empty := ⟨fun _ _ _ _ => False, fun _ h => h⟩
theorem Wk.set {l l' : List Slot} (w : Wk l l') (s : Slot) : ∀ n : Nat, Wk (l.set n s) (l'.set n s) := by
  induction w with
  | nil => exact fun n => .nil
  | same w ih =>
    intro n
    cases n with
    | zero => exact .same w
    | succ n => exact .same (ih n)
  | any w ih =>
    intro n
    cases n with
    | zero => exact .same w
    | succ n => exact .any (ih n)
theorem Wk.drop {s : Slot} : ∀ {l : List Slot} {n : Nat}, l[n]? = some .any → Wk (l.set n s) l
  | [], n, h => by cases h
  | x :: l, 0, h => by
    cases h
    exact .any (Wk.refl l)
  | x :: l, n + 1, h => .same (Wk.drop (l := l) (n := n) h)
section
variable {S T L R : Type} [Rep R] {c : Ct} {env : List Slot} {rest b : List Stmt} {mk : S → List Slot} {lk : L → List Slot}
end
end Dn

set_option Elab.async false
set_option linter.all false
set_option maxRecDepth 100000
set_option maxHeartbeats 1000000
namespace L2
open PySem PySem.Spec PyProof.Rows
inductive Sc where
  | l (a : Addr)
  | t (a : Addr)
def Sc.a : Sc → Addr
  | .l a => a
  | .t a => a
def SqS (K : PySem.W.Frag) (H : Hp) : Sc → List V → Prop
  | .l a, xs => SqL K H a xs
  | .t a, xs => SqT K H a xs
section
variable {X : Cx} {pins : List (Addr × Obj)} {σ : St} {H : Hp} {s : Shared}
end
end L2

set_option Elab.async false
set_option linter.all false
set_option maxRecDepth 100000
set_option maxHeartbeats 1000000
namespace L2
open PySem PySem.Spec PyProof.Rows
end L2
namespace Dn
open PySem PySem.Spec L2
open Rep (rep)
structure Trp (α β γ : Type) where
  x1 : α
  x2 : β
  x3 : γ
instance [Rep α] [Rep β] [Rep γ] : Rep (Trp α β γ) := ⟨fun K B v x => ∃ a v1 v2 v3, v = .ref a ∧ SqT K B a [v1, v2, v3] ∧ rep K B v1 x.x1 ∧ rep K B v2 x.x2 ∧ rep K B v3 x.x3,
  fun l ⟨a, v1, v2, v3, e, s, r1, r2, r3⟩ => ⟨a, v1, v2, v3, e, l.t s, Rep.mono l r1, Rep.mono l r2, Rep.mono l r3⟩⟩
section
variable {c : Ct} {env : List Slot} {e a b d elt iter tg : Expr} {α β γ : Type} [Rep α] [Rep β] [Rep γ]
structure SrcOf (S α : Type) [Rep S] [Rep α] (f : S → List α) : Prop where
  ok : ∀ (K : PySem.W.Frag) (B : Hp) (v : V) (x : S), rep K B v x → ∃ sc vs, v = .ref (Sc.a sc) ∧ SqS K B sc vs ∧ Reps K B vs (f x)
end
end Dn

set_option Elab.async false
set_option linter.all false
set_option maxRecDepth 100000
set_option maxHeartbeats 1000000
namespace Dn
open PySem PySem.Spec L2
open Rep (rep)
instance [Rep α] [Rep β] : Rep (α ⊕ β) := ⟨fun K B v x => match x with
  | .inl a => rep K B v a
  | .inr b => rep K B v b, fun {K B B' v x} e r => by
    cases x with
    | inl a => exact Rep.mono e (show rep K B v a from r)
    | inr b => exact Rep.mono e (show rep K B v b from r)⟩
section
variable {c : Ct} {env : List Slot} {e a : Expr} {α β : Type} [Rep α] [Rep β]
class TupN (α : Type) [Rep α] (n : outParam (α → Nat)) : Prop where
  ok : ∀ (K : PySem.W.Frag) (B : Hp) (v : V) (x : α), rep K B v x → ∃ p vs, v = .ref p ∧ SqT K B p vs ∧ vs.length = n x
instance : TupN (α × β) (fun _ => 2) := ⟨fun K B v x ⟨p, v1, v2, e, s, _, _⟩ => ⟨p, [v1, v2], e, s, rfl⟩⟩
instance [Rep γ] : TupN (Trp α β γ) (fun _ => 3) := ⟨fun K B v x ⟨p, v1, v2, v3, e, s, _⟩ => ⟨p, [v1, v2, v3], e, s, rfl⟩⟩
instance {n : α → Nat} {m : β → Nat} [A : TupN α n] [C : TupN β m] : TupN (α ⊕ β) (Sum.elim n m) := ⟨fun K B v x r => by
  cases x with
  | inl a => exact A.ok K B v a r
  | inr b => exact C.ok K B v b r⟩
theorem ty_tup {K : PySem.W.Frag} {H : Hp} {a : Addr} {vs : List V} (s : SqT K H a vs) : TyX K H (.ref a) (.type "tuple") := by
  rcases s with s | ⟨o, its, n, e, hc, _⟩
  · rcases s with s | ⟨o, s⟩
    · exact .base (.tup s)
    · exact .fTuple s
  · exact .kTuple e hc
theorem de_isiT {n : α → Nat} [A : TupN α n] {p p2 pos : Pos} {m : Option α} (hm : c.mg "isinstance" = none) (hm2 : c.mg "tuple" = none) (h : De c env a m) (hg : Gv c "isinstance" := by rfl) (hg2 : Gv c "tuple" := by rfl) (hs : ∀ env, starEach [a, .Name "tuple" p2] env = (false, eval a env) :: starEach [.Name "tuple" p2] env := by intro _; rfl) :
    De c env (.Call (.Name "isinstance" p) [a, .Name "tuple" p2] [] pos) (m.bind fun _ => some true) := by
  obtain ⟨t, h1, h2⟩ := h
  refine ⟨tCB (rIsi c.K) (tCons t (tCons (tC (.ty "tuple")) tNil)), fun X F => pe_callB (by rw [← F.K]; exact call_isi) (fits_gl F hg) (by rw [F.mg]; exact hm) (by decide +kernel)
    (pa_cons (h1 X F) (pa_cons (pe_bltn (v := .ty "tuple") (fits_gl F hg2) (by rw [F.mg]; exact hm2) (by decide +kernel) rfl) pa_nil rfl) (hs _)) (by decide) (by decide) (hs _) rfl, fun z hz B H σ E Q q => ?_⟩
  obtain ⟨y, ey, hz⟩ := bind_some hz
  cases hz
  exact h2 y ey B H σ E _ fun v B1 H1 k1 r => by
    obtain ⟨b, vs, rfl, s, _⟩ := A.ok _ _ _ _ r
    exact ⟨.ref b, .ty "tuple", .type "tuple", .type "tuple", true, rfl, .ty _, ty_tup (k1.bh.t s), kit_ty (by decide +kernel), q _ B1 H1 k1 rfl⟩
theorem de_lenT {n : α → Nat} [A : TupN α n] {p pos : Pos} {m : Option α} (hm : c.mg "len" = none) (h : De c env a m) (hg : Gv c "len" := by rfl) (hs : ∀ env, starEach [a] env = (false, eval a env) :: starEach [] env := by intro _; rfl) :
    De c env (.Call (.Name "len" p) [a] [] pos) (m.bind fun x => some (n x : Int)) :=
  de_b1 (r := fun xs H Q => ∃ p ys, xs = [.ref p] ∧ (SqL c.K H p ys ∨ SqT c.K H p ys) ∧ Q (.int ys.length) H) (fun X F => by rw [← F.K]; exact call_len_seq)
    (fun y z hz B H v hB r Q q => by
      cases hz
      obtain ⟨l, vs, rfl, s, r⟩ := A.ok _ _ _ _ r
      refine ⟨l, vs, rfl, .inr (hB.t s), ?_⟩
      rw [r]
      exact q _ B H (Grow.refl hB) rfl) hg hm PySem.boot_len h (by decide) (by decide) hs
end
end Dn

set_option Elab.async false
set_option linter.all false
set_option maxRecDepth 100000
set_option maxHeartbeats 1000000
namespace Dn
open PySem PySem.Spec
section
variable {prog : Program} {w : World}
end
end Dn

set_option Elab.async false
set_option linter.all false
set_option maxRecDepth 100000
set_option maxHeartbeats 1000000
namespace L2
open PySem PySem.Spec
end L2
namespace Dn
open PySem PySem.Spec L2
open Rep (rep)
structure Duo (α β : Type) where
  x1 : α
  x2 : β
structure Uno (α : Type) where
  x1 : α
section
variable {α β : Type}
instance [Rep α] [Rep β] : Rep (Duo α β) := ⟨fun K B v x => ∃ a v1 v2, v = .ref a ∧ SqL K B a [v1, v2] ∧ rep K B v1 x.x1 ∧ rep K B v2 x.x2, fun l ⟨a, v1, v2, e, s, r1, r2⟩ => ⟨a, v1, v2, e, l.l s, Rep.mono l r1, Rep.mono l r2⟩⟩
instance [Rep α] : Rep (Uno α) := ⟨fun K B v x => ∃ a v1, v = .ref a ∧ SqL K B a [v1] ∧ rep K B v1 x.x1, fun l ⟨a, v1, e, s, r1⟩ => ⟨a, v1, e, l.l s, Rep.mono l r1⟩⟩
end
class StarOf (α : Type) (κ : outParam Type) (τ : outParam Type) [Rep α] [Rep κ] [Rep τ] (f : outParam (α → κ)) (g : outParam (α → τ)) : Prop where
  ok : ∀ (K : PySem.W.Frag) (B : Hp) (v : V) (a : α), rep K B v a → ∃ p x xs, v = .ref p ∧ SqT K B p (x :: xs) ∧ xs.length ≤ 900 ∧ rep K B x (f a) ∧ ∀ B' q, Le B B' → SqL K B' q xs → rep K B' (.ref q) (g a)
def st3 {κ α β : Type} (x : Trp κ α β) : Duo α β := ⟨x.x2, x.x3⟩
def st2 {κ α : Type} (x : κ × α) : Uno α := ⟨x.2⟩
section
variable {κ α β : Type} [Rep κ] [Rep α] [Rep β]
instance : StarOf (Trp κ α β) κ (Duo α β) (fun x => x.x1) st3 := ⟨fun K B v a ⟨p, v1, v2, v3, e, s, r1, r2, r3⟩ => ⟨p, v1, [v2, v3], e, s, (by show 2 ≤ 900; decide), r1, fun B' q l s' => ⟨q, v2, v3, rfl, s', Rep.mono l r2, Rep.mono l r3⟩⟩⟩
instance : StarOf (κ × α) κ (Uno α) (fun x => x.1) st2 := ⟨fun K B v a ⟨p, v1, v2, e, s, r1, r2⟩ => ⟨p, v1, [v2], e, s, (by show 1 ≤ 900; decide), r1, fun B' q l s' => ⟨q, v2, rfl, s', Rep.mono l r2⟩⟩⟩
end
instance {α β κ τ υ : Type} [Rep α] [Rep β] [Rep κ] [Rep τ] [Rep υ] {f : α → κ} {g : α → τ} {f' : β → κ} {g' : β → υ} [A : StarOf α κ τ f g] [C : StarOf β κ υ f' g'] : StarOf (α ⊕ β) κ (τ ⊕ υ) (Sum.elim f f') (Sum.map g g') := ⟨fun K B v a r => by
  cases a with
  | inl a => exact A.ok K B v a r
  | inr b => exact C.ok K B v b r⟩
section
variable {S L R : Type} [Rep R]
variable {c : Ct} {env : List Slot} {rest : List Stmt} {e a : Expr} {mk : S → List Slot} {lk : L → List Slot} {α β κ τ : Type} [Rep α] [Rep β] [Rep κ] [Rep τ]
end
end Dn
namespace Dn
open PySem PySem.Spec L2
section
variable {c : Ct} {env : List Slot} {a b d : Expr} {α β γ : Type} [Rep α] [Rep β] [Rep γ]
end
end Dn

set_option Elab.async false
set_option linter.all false
set_option maxRecDepth 100000
set_option maxHeartbeats 1000000
namespace Dn
open PySem PySem.Spec L2
open Rep (rep)
open ORep (orep)
abbrev Td := Addr × List Ent
abbrev tdC (a : Addr) (ts : List Td) : List Addr := a :: ts.map (·.1)
section
variable {α : Type} [Rep α]
structure LDAt (K : PySem.W.Frag) (B H : Hp) (a : Addr) (ts : List Td) (d : List (Dct α)) : Prop where
  obj : H a = some (.lst (ts.map fun t => V.ref t.1))
  nd : (tdC a ts).Nodup
  cell : ∀ t ∈ ts, H t.1 = some (dHO t.1 t.2)
  rel : Paired (fun (t : Td) (x : Dct α) => DRel K B t.2 x.l) ts d
def psiLD (d : List (Dct α)) : PySem.W.Frag → Hp → Hp → Addr → List Addr → Prop := fun K B H a cs => ∃ ts : List Td, cs = tdC a ts ∧ LDAt K B H a ts d
theorem psiLD_mono (d : List (Dct α)) : ∀ K B B' H H' a cs, Le B B' → (∀ c ∈ cs, H' c = H c) → psiLD d K B H a cs → psiLD d K B' H' a cs := fun K B B' H H' a cs l e ⟨ts, h1, h2⟩ => by
  subst h1
  exact ⟨ts, rfl, by rw [e a (List.mem_cons_self ..)]; exact h2.obj, h2.nd, fun t ht => by rw [e t.1 (List.mem_cons_of_mem _ (List.mem_map.mpr ⟨t, ht, rfl⟩))]; exact h2.cell t ht, Paired.mapP h2.rel fun _ _ r => r.mono l⟩
abbrev Slot.ld (d : List (Dct α)) : Slot := .deep (psiLD d) (psiLD_mono d)
end
section
variable {K : PySem.W.Frag} {B0 H0 B H B' H' : Hp} {σ : St} {env env' : List Slot}
end
section
variable {S L R : Type} [Rep R] {c : Ct} {env : List Slot} {b rest : List Stmt} {mk : S → List Slot} {lk : L → List Slot} {α : Type} [Rep α]
variable {β : Type} [Rep β] {elt iter tg : Expr}
end
end Dn

set_option Elab.async false
set_option linter.all false
set_option maxRecDepth 100000
set_option maxHeartbeats 1000000
namespace L2
open PySem PySem.Spec Dn
abbrev fHO (o : Obj) (a : Addr) (xs : List Ent) : HO := .frz o (dHO a xs)
section
variable {X : Cx} {pins : List (Addr × Obj)} {σ : St} {H : Hp} {s : Shared} {a : Addr} {o : Obj} {xs : List Ent}
end
end L2
namespace Dn
open PySem PySem.Spec L2
open Rep (rep)
structure DctF (α : Type) where
  d : Dct α
section
variable {α : Type} [Rep α]
instance : Rep (DctF α) := ⟨fun K B v x => ∃ a o xs, v = .ref a ∧ B a = some (fHO o a xs) ∧ DRel K B xs x.d.l, fun e ⟨a, o, xs, h, s, r⟩ => ⟨a, o, xs, h, e a _ s, r.mono e⟩⟩
variable {c : Ct} {env : List Slot} {o i e : Expr}
end
section
variable {K : PySem.W.Frag} {B0 H0 B H H' : Hp} {σ : St} {env : List Slot}
end
section
variable {S L R : Type} [Rep R] {c : Ct} {env : List Slot} {b : List Stmt} {mk : S → List Slot} {lk : L → List Slot} {α : Type} [Rep α]
end
end Dn

set_option Elab.async false
set_option linter.all false
set_option maxRecDepth 100000
set_option maxHeartbeats 1000000
namespace L2
open PySem PySem.Spec
end L2
namespace Dn
open PySem PySem.Spec L2
open Rep (rep)
section
variable {S L R : Type} [Rep R]
variable {c : Ct} {env : List Slot} {rest : List Stmt} {e1 e2 : Expr} {mk : S → List Slot} {lk : L → List Slot} {α β : Type} [Rep α] [Rep β]
end
end Dn

set_option Elab.async false
set_option linter.all false
set_option maxRecDepth 100000
namespace Dn
open PySem PySem.Spec L2
open Rep (rep)
open ORep (orep)
section
variable {c : Ct} {env : List Slot} {e : Expr} {α : Type} [Rep α]
end
section
variable {S L β α : Type} [ORep β] [Rep α] {c : Ct} {env : List Slot} {st : Stmt} {rest : List Stmt} {e : Expr} {mk : S → List Slot} {lk : L → List Slot}
end
end Dn

set_option Elab.async false
set_option linter.all false
set_option maxRecDepth 100000
namespace Dn
abbrev Ln := Nat × (Nat → Int)
def Cl : List Ln → (Nat → Int) → Nat → Int
  | [], x => x
  | r :: rs, x => Cl rs (fun k => x k - x r.1 * r.2 k)
structure Ech (p : Int) (n : Nat) (rs : List Ln) : Prop where
  lt : ∀ r ∈ rs, r.1 < n
  one : ∀ r ∈ rs, r.2 r.1 % p = 1 % p
  low : rs.Pairwise fun u v => v.2 u.1 % p = 0
theorem Ech.nil (p : Int) (n : Nat) : Ech p n [] := ⟨(fun _ h => nomatch h), (fun _ h => nomatch h), .nil⟩
theorem Ech.grow {p : Int} {n : Nat} {rs : List Ln} (E : Ech p n rs) {a : Nat} {r : Nat → Int} (ha : a < n) (ho : r a % p = 1 % p) (hz : ∀ s ∈ rs, r s.1 % p = 0) : Ech p n (rs ++ [(a, r)]) :=
  ⟨fun s hs => by
    rcases List.mem_append.mp hs with hs | hs
    · exact E.lt s hs
    · rw [List.mem_singleton.mp hs]; exact ha, fun s hs => by
    rcases List.mem_append.mp hs with hs | hs
    · exact E.one s hs
    · rw [List.mem_singleton.mp hs]; exact ho, List.pairwise_append.mpr ⟨E.low, List.pairwise_singleton .., fun u hu v hv => by
    rw [List.mem_singleton.mp hv]
    exact hz u hu⟩⟩
end Dn

set_option Elab.async false
set_option linter.all false
set_option maxRecDepth 100000
namespace Dn
open PySem PySem.Spec L2
open Rep (rep)
open ORep (orep)
section
variable {c : Ct} {env : List Slot} {e i : Expr} {α : Type} [Rep α]
end
structure Gh
instance : Rep Gh := ⟨fun _ _ _ _ => True, fun _ h => h⟩
section
variable {K : PySem.W.Frag} {B H : Hp} {σ : St} {env : List Slot}
end
def spL (K : PySem.W.Frag) {α δ Q : Type} [Rep α] [Pk Q] (φ : δ → PySem.W.Frag → Hp → Addr → HO → Prop) (f : α → δ → Q → Option δ) : Sp := fun vs H Qq _ => ∃ (x : α) (d d' : δ) (q : Q) (B : Hp) (a : Addr) (o : HO) (v1 : V) (vs2 : List V), vs = v1 :: .ref a :: vs2 ∧ rep K B v1 x ∧ Args K B vs2 (Pk.sl q) ∧ Le B H ∧ H a = some o ∧ B a = none ∧ φ d K B a o ∧ f x d q = some d' ∧
  ∀ o' B' H', Le B B' → Le B' H' → (∀ u w, u ≠ a → H u = some w → H' u = some w) → (∀ u, B u = none → ¬ H u = none → B' u = none) → H' a = some o' → B' a = none → φ d' K B' a o' → Qq .non H'
abbrev Slot.at_ {δ : Type} (φ : δ → PySem.W.Frag → Hp → Addr → HO → Prop) (hm : ∀ d K B B' a o, Le B B' → φ d K B a o → φ d K B' a o) (g : Addr) (d : δ) : Slot := .obj (fun K B a o => a = g ∧ φ d K B a o) (fun K B B' a o l h => ⟨h.1, hm d K B B' a o l h.2⟩)
section
variable {P : Program} {w : World} {K : PySem.W.Frag} {mg : Str → Option Value} {base : Heap}
structure GdL (P : Program) (w : World) (K : PySem.W.Frag) (mg : Str → Option Value) (base : Heap) (j : Nat) (x : Str) {α δ Z : Type} [Rep α] [Pk Z] (φ : δ → PySem.W.Frag → Hp → Addr → HO → Prop) (f : α → δ → Z → Option δ) : Prop where
  ok : ∃ (fa : Addr) (fd : FuncData) (ps : List Str), FnOk P w K mg base CX0 j fa fd ps (spL K φ f) ∧ mg x = some (.ref fa) ∧ PySem.W.keepIn K (.ref fa) = true ∧ Binds K fd ps []
end
structure DfL (c : Ct) (x : Str) {α δ Z : Type} [Rep α] [Pk Z] (φ : δ → PySem.W.Frag → Hp → Addr → HO → Prop) (f : α → δ → Z → Option δ) : Prop where
  ok : ∃ (j : Nat) (fa : Addr) (fd : FuncData) (ps : List Str), FnOk c.P c.w c.K c.mg c.base CX0 j fa fd ps (spL c.K φ f) ∧ j ≤ c.k ∧ c.mg x = some (.ref fa) ∧ PySem.W.keepIn c.K (.ref fa) = true ∧ Binds c.K fd ps []
theorem GdL.df {P : Program} {w : World} {K : PySem.W.Frag} {mg : Str → Option Value} {base : Heap} {j : Nat} {x : Str} {α δ Z : Type} [Rep α] [Pk Z] {φ : δ → PySem.W.Frag → Hp → Addr → HO → Prop} {f : α → δ → Z → Option δ} (G : GdL P w K mg base j x φ f) {c : Ct} (hP : c.P = P := by rfl) (hw : c.w = w := by rfl) (hK : c.K = K := by rfl) (hmg : c.mg = mg := by rfl) (hb : c.base = base := by rfl) (hj : j ≤ c.k := by exact Nat.le_of_ble_eq_true rfl) : DfL c x φ f := by
  obtain ⟨P', w', K', mg', base', k, N, sc, fn, df⟩ := c
  cases hP; cases hw; cases hK; cases hmg; cases hb
  obtain ⟨fa, fd, ps, h1, h2, h3, h4⟩ := G.ok
  exact ⟨j, fa, fd, ps, h1, hj, h2, h3, h4⟩
section
variable {S L R α δ Z : Type} [Rep R] [Rep α] [Pk Z] {c : Ct} {env : List Slot} {rest : List Stmt} {e1 : Expr} {es : List Expr} {mk : S → List Slot} {lk : L → List Slot}
end
section
variable {S L R α β : Type} [Rep R] [Rep α] [Rep β] {c : Ct} {env : List Slot} {rest : List Stmt} {e i o f : Expr} {mk : S → List Slot} {lk : L → List Slot}
end
end Dn

set_option Elab.async false
set_option linter.all false
set_option maxRecDepth 100000
namespace Dn
open PySem PySem.Spec L2
open Rep (rep)
open ORep (orep)
section
variable {c : Ct} {env : List Slot} {a b : Expr}
end
def thawC (B : Hp) (cs : List Addr) : Hp := fun u => if u ∈ cs then none else B u
def NT (o : HO) : Prop := ∀ vs, o ≠ .tup vs ∧ ∀ p, o ≠ .frz p (.tup vs)
class ThawC (α : Type) [Rep α] : Prop where
  thaw : ∀ {K : PySem.W.Frag} {B : Hp} {cs : List Addr} {v : V} {x : α}, (∀ c ∈ cs, ∃ o, B c = some o ∧ NT o) → rep K B v x → rep K (thawC B cs) v x
instance : ThawC Int := ⟨fun _ h => h⟩
instance : ThawC Bool := ⟨fun _ h => h⟩
instance : ThawC Str := ⟨fun _ h => h⟩
theorem SqT_thawC {K : PySem.W.Frag} {B : Hp} {cs : List Addr} {b : Addr} {ws : List V} (h : ∀ c ∈ cs, ∃ o, B c = some o ∧ NT o) (s : SqT K B b ws) : SqT K (thawC B cs) b ws := by
  have key : ∀ {o : HO}, B b = some o → ¬ NT o → thawC B cs b = some o := fun {o} e n => by
    have z : b ∉ cs := fun k => by
      obtain ⟨o', e', n'⟩ := h b k
      rw [e] at e'
      cases e'
      exact n n'
    show (if b ∈ cs then none else B b) = some o
    rw [if_neg z]
    exact e
  rcases s with (s | ⟨o, s⟩) | s
  · exact .inl (.inl (key s fun n => (n ws).1 rfl))
  · exact .inl (.inr ⟨o, key s fun n => (n ws).2 o rfl⟩)
  · exact .inr s
theorem reps_thawC {α : Type} [Rep α] [ThawC α] {K : PySem.W.Frag} {B : Hp} {cs : List Addr} (h : ∀ c ∈ cs, ∃ o, B c = some o ∧ NT o) {vs : List V} {xs : List α} (r : Reps K B vs xs) : Reps K (thawC B cs) vs xs := by
  induction r with
  | nil => exact .nil
  | cons p _ ih => exact .cons (ThawC.thaw h p) ih
instance {α : Type} [Rep α] [ThawC α] : ThawC (Tup α) := ⟨fun h r => by
  obtain ⟨b, vs, rfl, s, r⟩ := r
  exact ⟨b, vs, rfl, SqT_thawC h s, reps_thawC h r⟩⟩
instance {α β : Type} [Rep α] [Rep β] [ThawC α] [ThawC β] : ThawC (α × β) := ⟨fun h r => by
  obtain ⟨b, v1, v2, rfl, s, r1, r2⟩ := r
  exact ⟨b, v1, v2, rfl, SqT_thawC h s, ThawC.thaw h r1, ThawC.thaw h r2⟩⟩
theorem grow_thawC {B B1 H B' H' : Hp} {cs : List Addr} (b1 : ∀ c ∈ cs, B c = none) (b2 : ∀ c, c ∉ cs → B1 c = B c) (hc : ∀ c ∈ cs, ¬ H c = none) (g : Grow B1 H B' H') : Grow B H (thawC B' cs) H' :=
  ⟨fun u x z => by
    have n : u ∉ cs := fun k => by rw [b1 u k] at z; cases z
    show (if u ∈ cs then none else B' u) = some x
    rw [if_neg n]
    exact g.b u x (by rw [b2 u n]; exact z), fun u x z => by
    have z : (if u ∈ cs then none else B' u) = some x := z
    split at z
    · cases z
    · exact g.bh u x z, g.h, fun u z n => by
    show (if u ∈ cs then none else B' u) = none
    by_cases k : u ∈ cs
    · rw [if_pos k]
    · rw [if_neg k]
      exact g.f u (by rw [b2 u k]; exact z) n⟩
structure ElG (E : Addr) (Sg : Type) where
  space : Sg
  many : Int
  columns : List (List Int)
  standing : List (Tup Int)
  zeros : List (Tup ((Tup Int) × Int))
  lines : List Int
  pivots : List Int
section
variable {E : Addr} {Sg : Type} [Rep Sg]
abbrev elFs (u1 : V) (m : Int) (u3 : V) (a4 a5 a6 a7 : Addr) : List (Str × V) := [("space", u1), ("many", .int m), ("columns", u3), ("standing_powers", .ref a4), ("zeros", .ref a5), ("lines", .ref a6), ("pivots", .ref a7)]
instance : Rep (ElG E Sg) := ⟨fun K B v x => ∃ a dx u1 u3 a4 a5 a6 a7, v = .ref a ∧ B a = some (.ins E dx (elFs u1 x.many u3 a4 a5 a6 a7)) ∧ rep K B u1 x.space ∧ rep K B u3 x.columns ∧ rep K B (.ref a4) x.standing ∧ rep K B (.ref a5) x.zeros ∧ rep K B (.ref a6) x.lines ∧ rep K B (.ref a7) x.pivots,
  fun e ⟨a, dx, u1, u3, a4, a5, a6, a7, h, s, r1, r3, r4, r5, r6, r7⟩ => ⟨a, dx, u1, u3, a4, a5, a6, a7, h, e a _ s, Rep.mono e r1, Rep.mono e r3, Rep.mono e r4, Rep.mono e r5, Rep.mono e r6, Rep.mono e r7⟩⟩
structure ElAt (K : PySem.W.Frag) (B H : Hp) (y : Addr) (dx : Addr) (u1 u3 : V) (a4 a5 a6 a7 : Addr) (v4 v5 v6 v7 : List V) (x : ElG E Sg) : Prop where
  obj : H y = some (.ins E dx (elFs u1 x.many u3 a4 a5 a6 a7))
  nd : [y, a4, a5, a6, a7].Nodup
  r1 : rep K B u1 x.space
  r3 : rep K B u3 x.columns
  h4 : H a4 = some (.lst v4)
  r4 : Reps K B v4 x.standing
  h5 : H a5 = some (.lst v5)
  r5 : Reps K B v5 x.zeros
  h6 : H a6 = some (.lst v6)
  r6 : Reps K B v6 x.lines
  h7 : H a7 = some (.lst v7)
  r7 : Reps K B v7 x.pivots
def elψ (y : Addr) (x : ElG E Sg) : PySem.W.Frag → Hp → Hp → Addr → List Addr → Prop := fun K B H a cs => a = y ∧ ∃ dx u1 u3 a4 a5 a6 a7 v4 v5 v6 v7, cs = [y, a4, a5, a6, a7] ∧ ElAt K B H y dx u1 u3 a4 a5 a6 a7 v4 v5 v6 v7 x
theorem elψ_mono (y : Addr) (x : ElG E Sg) : ∀ K B B' H H' a cs, Le B B' → (∀ c ∈ cs, H' c = H c) → elψ y x K B H a cs → elψ y x K B' H' a cs := fun K B B' H H' a cs l e ⟨e0, dx, u1, u3, a4, a5, a6, a7, v4, v5, v6, v7, hc, A⟩ => by
  subst hc
  exact ⟨e0, dx, u1, u3, a4, a5, a6, a7, v4, v5, v6, v7, rfl, ⟨by rw [e y (by simp)]; exact A.obj, A.nd, Rep.mono l A.r1, Rep.mono l A.r3, by rw [e a4 (by simp)]; exact A.h4, A.r4.mono l, by rw [e a5 (by simp)]; exact A.h5, A.r5.mono l, by rw [e a6 (by simp)]; exact A.h6, A.r6.mono l, by rw [e a7 (by simp)]; exact A.h7, A.r7.mono l⟩⟩
abbrev Slot.el (y : Addr) (x : ElG E Sg) : Slot := .deep (elψ y x) (elψ_mono y x)
theorem elψ_rep {y : Addr} {x : ElG E Sg} {K : PySem.W.Frag} {B B1 H : Hp} {a : Addr} {cs : List Addr} (h : elψ y x K B H a cs) (l : Le B B1) (e : ∀ c ∈ cs, B1 c = H c) : rep K B1 (.ref a) x := by
  obtain ⟨rfl, dx, u1, u3, a4, a5, a6, a7, v4, v5, v6, v7, rfl, A⟩ := h
  exact ⟨_, dx, u1, u3, a4, a5, a6, a7, rfl, by rw [e _ (by simp)]; exact A.obj, Rep.mono l A.r1, Rep.mono l A.r3, ⟨a4, v4, rfl, SqL.of (by rw [e _ (by simp)]; exact A.h4), A.r4.mono l⟩, ⟨a5, v5, rfl, SqL.of (by rw [e _ (by simp)]; exact A.h5), A.r5.mono l⟩, ⟨a6, v6, rfl, SqL.of (by rw [e _ (by simp)]; exact A.h6), A.r6.mono l⟩, ⟨a7, v7, rfl, SqL.of (by rw [e _ (by simp)]; exact A.h7), A.r7.mono l⟩⟩
theorem elψ_nt {y : Addr} {x : ElG E Sg} {K : PySem.W.Frag} {B H : Hp} {a : Addr} {cs : List Addr} (h : elψ y x K B H a cs) : ∀ c ∈ cs, ∃ o, H c = some o ∧ NT o := fun c hc => by
  obtain ⟨rfl, dx, u1, u3, a4, a5, a6, a7, v4, v5, v6, v7, rfl, A⟩ := h
  have nl : ∀ vs : List V, NT (.lst vs) := fun vs ws => ⟨(fun e => nomatch e), (fun p e => nomatch e)⟩
  have ni : ∀ (C dx : Addr) (fs : List (Str × V)), NT (.ins C dx fs) := fun _ _ _ ws => ⟨(fun e => nomatch e), (fun p e => nomatch e)⟩
  simp only [List.mem_cons, List.not_mem_nil, or_false] at hc
  rcases hc with rfl | rfl | rfl | rfl | rfl
  · exact ⟨_, A.obj, ni _ _ _⟩
  · exact ⟨_, A.h4, nl _⟩
  · exact ⟨_, A.h5, nl _⟩
  · exact ⟨_, A.h6, nl _⟩
  · exact ⟨_, A.h7, nl _⟩
end
section
variable {K : PySem.W.Frag} {B0 H0 B H : Hp} {σ : St} {env : List Slot}
structure Lent (K : PySem.W.Frag) (B B1 H : Hp) (σ : St) (env1 : List Slot) (cs : List Addr) : Prop where
  en : Env K B1 H σ env1
  le : Le B B1
  b1 : ∀ c ∈ cs, B1 c = H c
  b0 : ∀ c ∈ cs, B c = none
  b2 : ∀ c, c ∉ cs → B1 c = B c
  hc : ∀ c ∈ cs, ¬ H c = none
theorem Lent.grow {B1 B2 H2 : Hp} {env1 : List Slot} {cs : List Addr} (L : Lent K B B1 H σ env1 cs) (g : Grow B1 H B2 H2) : Grow B H (thawC B2 cs) H2 := grow_thawC L.b0 L.b2 L.hc g
theorem StOk.lent {y : Addr} {E : Addr} {Sg : Type} [Rep Sg] {x : ElG E Sg} (O : StOk K B0 H0 B H σ env) (i : Nat) (hi : env[i]? = some (.el y x)) : ∃ B1 cs, Lent K B B1 H σ (env.set i (.val x)) cs ∧ (∀ B2, Le B1 B2 → ∀ c ∈ cs, ∃ o, B2 c = some o ∧ NT o) ∧ σ[i]? = some (some (.ref y)) ∧ elψ y x K B H y cs := by
  have hl : i < env.length := (List.getElem?_eq_some_iff.mp hi).1
  obtain ⟨a, cs, r1, r2, r3, A⟩ := O.rd i _ _ hi
  obtain rfl : a = y := A.1
  obtain ⟨B1, hB1⟩ : ∃ B1 : Hp, B1 = fun c => if c ∈ cs then H c else B c := ⟨_, rfl⟩
  have b1 : ∀ c, c ∈ cs → B1 c = H c := fun c h => by rw [hB1]; exact if_pos h
  have b2 : ∀ c, c ∉ cs → B1 c = B c := fun c h => by rw [hB1]; exact if_neg h
  clear hB1
  have l1 : Le B B1 := fun c o z => by
    rw [b2 c fun m => by rw [(r2 c m).2.1] at z; cases z]
    exact z
  have l2 : Le B1 H := fun c o z => by
    by_cases m : c ∈ cs
    · rw [b1 c m] at z
      exact z
    · rw [b2 c m] at z
      exact O.en.bh c o z
  refine ⟨B1, cs, ⟨⟨l2, by rw [List.length_set]; exact O.en.len, fun j s h => ?_, fun j k s t h1 h2 o1 o2 e => ?_⟩, l1, b1, fun c hc => (r2 c hc).2.1, b2, fun c hc => (r2 c hc).1⟩, fun B2 l c hc => ?_, r1, A⟩
  · by_cases q : i = j
    · subst q
      rw [List.getElem?_set_self hl] at h
      cases h
      exact ⟨.ref a, r1, elψ_rep A l1 b1⟩
    · rw [List.getElem?_set_ne q] at h
      have z := O.en.at_ j s h
      cases s with
      | any => trivial
      | @val α' i' y =>
        obtain ⟨u, f1, f2⟩ := z
        exact ⟨u, f1, Rep.mono l1 f2⟩
      | obj φ hm =>
        obtain ⟨b, ob, f1, f2, f3, f4⟩ := z
        refine ⟨b, ob, f1, f2, ?_, hm _ _ _ _ _ l1 f4⟩
        rw [b2 b (r3 j _ b h rfl f1)]
        exact f3
      | deep ψ hm => trivial
  · have back : ∀ (j : Nat) (s : Slot), (env.set i (.val x))[j]? = some s → isOwn s = true → env[j]? = some s := fun j s h o => by
      by_cases q : i = j
      · subst q
        rw [List.getElem?_set_self hl] at h
        cases h
        cases o
      · rw [List.getElem?_set_ne q] at h
        exact h
    exact O.en.ap j k s t (back j s h1 o1) (back k t h2 o2) o1 o2 e
  · obtain ⟨o, e, n⟩ := elψ_nt A c hc
    exact ⟨o, l c o (by rw [b1 c hc]; exact e), n⟩
end
end Dn

set_option Elab.async false
set_option linter.all false
set_option maxRecDepth 100000
namespace Dn
open PySem PySem.Spec L2
open Rep (rep)
open ORep (orep)
section
variable {E : Addr} {Sg : Type} [Rep Sg]
structure ElLens (E : Addr) (Sg : Type) [Rep Sg] {α : Type} [Rep α] (f : Str) (get : ElG E Sg → List α) (put : ElG E Sg → List α → ElG E Sg) : Prop where
  ok : ∀ (K : PySem.W.Frag) (B H : Hp) (y : Addr) (cs : List Addr) (x : ElG E Sg), elψ y x K B H y cs → ∃ dx fs a vs, H y = some (.ins E dx fs) ∧ fs.lookup f = some (.ref a) ∧ H a = some (.lst vs) ∧ Reps K B vs (get x) ∧ a ∈ cs ∧ ∀ vs' xs', Reps K B vs' xs' → elψ y (put x xs') K B (upd H a (.lst vs')) y cs
variable {K : PySem.W.Frag} {B0 H0 B H : Hp} {σ : St} {env : List Slot}
end
section
variable {S T L β J : Type} [Rep β] {E : Addr} {Sg : Type} [Rep Sg]
def PostM (y : Addr) (K : PySem.W.Frag) (B0 H0 Bs : Hp) (mk : S → List Slot) (lk : L → List Slot) (D : Ends) (m : Fl S L (β × ElG E Sg)) : Prop := match m with
  | .err => False
  | .nx s => ∀ B H σ, Le Bs B → StOk K B0 H0 B H σ (mk s) → D.nx σ H
  | .rt r => ∀ v B H cs, Grow B0 H0 B H → (∀ c ∈ cs, ¬ H c = none ∧ B c = none ∧ H0 c = none) → elψ y r.2 K B H y cs → rep K B v r.1 → D.rt v H
  | .bk s => ∀ B H σ, Le Bs B → StOk K B0 H0 B H σ (lk s) → D.bk σ H
  | .ct s => ∀ B H σ, Le Bs B → StOk K B0 H0 B H σ (lk s) → D.ct σ H
structure DeSM (y : Addr) (c : Ct) (env : List Slot) (b : List Stmt) (mk : S → List Slot) (lk : L → List Slot) (m : Fl S L (β × ElG E Sg)) : Prop where
  ok : ∀ (B0 H0 B H : Hp) (σ : St), StOk c.K B0 H0 B H σ env → ∀ D : Ends, PostM y c.K B0 H0 B mk lk D m → cS c b D σ H
instance {y : Addr} {c : Ct} {env : List Slot} {b : List Stmt} {mk : S → List Slot} {lk : L → List Slot} {m : Fl S L (β × ElG E Sg)} : CoeFun (DeSM y c env b mk lk m) (fun _ => ∀ (B0 H0 B H : Hp) (σ : St), StOk c.K B0 H0 B H σ env → ∀ D : Ends, PostM y c.K B0 H0 B mk lk D m → cS c b D σ H) := ⟨DeSM.ok⟩
variable {y : Addr} {c : Ct} {env env' : List Slot} {st : Stmt} {rest b b' : List Stmt} {e a d : Expr} {mk : S → List Slot} {lk : L → List Slot}
theorem PostM.mono {K : PySem.W.Frag} {B0 H0 B1 B2 : Hp} {D : Ends} {m : Fl S L (β × ElG E Sg)} (l : Le B1 B2) (P : PostM y K B0 H0 B1 mk lk D m) : PostM y K B0 H0 B2 mk lk D m := by
  cases m with
  | err => exact P
  | nx s => exact fun B H σ k => P B H σ (l.trans k)
  | rt r => exact P
  | bk s => exact fun B H σ k => P B H σ (l.trans k)
  | ct s => exact fun B H σ k => P B H σ (l.trans k)
end
end Dn

set_option Elab.async false
set_option linter.all false
set_option maxRecDepth 100000
namespace Dn
open PySem PySem.Spec L2
open Rep (rep)
open ORep (orep)
section
variable {K : PySem.W.Frag} {B0 H0 B H B' H' : Hp} {σ : St} {env : List Slot} {E : Addr} {Sg : Type} [Rep Sg]
theorem thawC_ne {H : Hp} {cs : List Addr} {u : Addr} (n : u ∉ cs) : thawC H cs u = H u := if_neg n
theorem Env.skip (O : Env K B H σ env) (i : Nat) {cs : List Addr} (r2 : ∀ c ∈ cs, B c = none) (r3 : ∀ (j : Nat) (s : Slot) (c : Addr), j ≠ i → env[j]? = some s → isOwn s = true → σ[j]? = some (some (.ref c)) → c ∉ cs) (g : Grow B (thawC H cs) B' H') (s0 : Slot) (h0 : isOwn s0 = false) (h1 : i < env.length → SlotOk K B' H' σ[i]? s0) : Env K B' H' σ (env.set i s0) := by
  refine ⟨g.bh, by rw [List.length_set]; exact O.len, fun j s h => ?_, fun j k s t g1 g2 o1 o2 e => ?_⟩
  · by_cases q : i = j
    · subst q
      by_cases hl : i < env.length
      · rw [List.getElem?_set_self hl] at h
        cases h
        exact h1 hl
      · rw [List.getElem?_eq_none (by rw [List.length_set]; omega)] at h
        cases h
    · rw [List.getElem?_set_ne q] at h
      have z := O.at_ j s h
      cases s with
      | any => trivial
      | @val α' i' y =>
        obtain ⟨u, f1, f2⟩ := z
        exact ⟨u, f1, Rep.mono g.b f2⟩
      | obj φ hm =>
        obtain ⟨b, ob, f1, f2, f3, f4⟩ := z
        have nb := r3 j _ b (fun e => q e.symm) h rfl f1
        have e2 : thawC H cs b = some ob := by rw [thawC_ne nb]; exact f2
        exact ⟨b, ob, f1, g.h b _ e2, g.f b f3 (by rw [e2]; exact fun z => nomatch z), hm _ _ _ _ _ g.b f4⟩
      | deep ψ hm => trivial
  · have back : ∀ (j : Nat) (s : Slot), (env.set i s0)[j]? = some s → isOwn s = true → env[j]? = some s := fun j s h o => by
      by_cases q : i = j
      · subst q
        by_cases hl : i < env.length
        · rw [List.getElem?_set_self hl] at h
          cases h
          rw [h0] at o
          cases o
        · rw [List.getElem?_eq_none (by rw [List.length_set]; omega)] at h
          cases h
      · rw [List.getElem?_set_ne q] at h
        exact h
    exact O.ap j k s t (back j s g1 o1) (back k t g2 o2) o1 o2 e
end
def spM (K : PySem.W.Frag) {E : Addr} {Sg β Z : Type} [Rep Sg] [Rep β] [Pk Z] (f : ElG E Sg → Z → Option (β × ElG E Sg)) : Sp := fun vs H Q _ => ∃ (x : ElG E Sg) (p : Z) (r : β × ElG E Sg) (B : Hp) (y : Addr) (cs : List Addr) (ws : List V), vs = .ref y :: ws ∧ f x p = some r ∧ Le B H ∧ Args K B ws (Pk.sl p) ∧ elψ y x K B H y cs ∧ (∀ c ∈ cs, B c = none) ∧
  ∀ v B' H' cs', Grow B (thawC H cs) B' H' → (∀ c ∈ cs', ¬ H' c = none ∧ B' c = none ∧ thawC H cs c = none) → elψ y r.2 K B' H' y cs' → rep K B' v r.1 → Q v H'
section
variable {P : Program} {w : World} {K : PySem.W.Frag} {mg : Str → Option Value} {base : Heap} {E : Addr} {Sg : Type} [Rep Sg]
end
structure GmM (P : Program) (w : World) (K : PySem.W.Frag) (mg : Str → Option Value) (base : Heap) (j : Nat) (E : Addr) (Sg : Type) [Rep Sg] (x : Str) {β Z : Type} [Rep β] [Pk Z] (f : ElG E Sg → Z → Option (β × ElG E Sg)) : Prop where
  ok : ∃ (fa : Addr) (fd : FuncData) (ps : List Str), FnOk P w K mg base CX0 j fa fd ps (spM K f) ∧ Cls K E ∧ Meth K E x fa ∧ Binds K fd ps []
structure MtM (c : Ct) (E : Addr) (Sg : Type) [Rep Sg] (x : Str) {β Z : Type} [Rep β] [Pk Z] (f : ElG E Sg → Z → Option (β × ElG E Sg)) : Prop where
  ok : ∃ (j : Nat) (fa : Addr) (fd : FuncData) (ps : List Str), FnOk c.P c.w c.K c.mg c.base CX0 j fa fd ps (spM c.K f) ∧ j ≤ c.k ∧ Cls c.K E ∧ Meth c.K E x fa ∧ Binds c.K fd ps []
section
variable {P : Program} {w : World} {K : PySem.W.Frag} {mg : Str → Option Value} {base : Heap} {E : Addr} {Sg : Type} [Rep Sg]
theorem GmM.mt {j : Nat} {x : Str} {β Z : Type} [Rep β] [Pk Z] {f : ElG E Sg → Z → Option (β × ElG E Sg)} (G : GmM P w K mg base j E Sg x f) {c : Ct} (hP : c.P = P := by rfl) (hw : c.w = w := by rfl) (hK : c.K = K := by rfl) (hmg : c.mg = mg := by rfl) (hb : c.base = base := by rfl) (hj : j ≤ c.k := by exact Nat.le_of_ble_eq_true rfl) : MtM c E Sg x f := by
  obtain ⟨P', w', K', mg', base', k, N, sc, fn, df⟩ := c
  cases hP; cases hw; cases hK; cases hmg; cases hb
  obtain ⟨fa, fd, ps, h1, h2, h3, h4⟩ := G.ok
  exact ⟨j, fa, fd, ps, h1, hj, h2, h3, h4⟩
end
section
variable {S L R J α β γ : Type} [Rep R] [Rep α] [Rep β] [Rep γ] {c : Ct} {env : List Slot} {st : Stmt} {rest b b' : List Stmt} {e e1 e2 : Expr} {mk : S → List Slot} {lk : L → List Slot} {jk : J → List Slot} {E : Addr} {Sg : Type} [Rep Sg] {y : Addr}
end
end Dn

set_option Elab.async false
set_option linter.all false
set_option maxRecDepth 100000
namespace Dn
open PySem PySem.Spec L2
open Rep (rep)
open ORep (orep)
section
variable {K : PySem.W.Frag} {B0 H0 B H B' H' : Hp} {σ : St} {env : List Slot} {E : Addr} {Sg : Type} [Rep Sg]
structure ElSt (K : PySem.W.Frag) (E : Addr) (B H : Hp) (y dx : Addr) (fs : List (Str × V)) (as : List Addr) (B' H' : Hp) : Prop where
  g : Grow B (thawC H [y]) B' H'
  nb : B' y = none
  ob : H' y = some (.ins E dx fs)
  ls : ∀ a ∈ as, H' a = some (.lst []) ∧ B' a = none ∧ H a = none
  nd : (y :: as).Nodup
end
section
variable {S L R : Type} [Rep R] {c : Ct} {env : List Slot} {rest : List Stmt} {e : Expr} {mk : S → List Slot} {lk : L → List Slot} {E : Addr} {Sg α : Type} [Rep Sg] [Rep α]
end

def spIE (K : PySem.W.Frag) (E : Addr) {Sg Q : Type} [Rep Sg] [Pk Q] (f : Q → Option (ElG E Sg)) : Sp := fun vs H Qq _ => ∃ (p : Q) (r : ElG E Sg) (B : Hp) (y dx : Addr) (ws : List V), vs = .ref y :: ws ∧ f p = some r ∧ Le B H ∧ Args K B ws (Pk.sl p) ∧ H y = some (.ins E dx []) ∧ B y = none ∧
  ∀ B' H' cs, Grow B (thawC H [y]) B' H' → (∀ c ∈ cs, ¬ H' c = none ∧ B' c = none ∧ thawC H [y] c = none) → elψ y r K B' H' y cs → Qq .non H'
structure MdE (c : Ct) (x : Str) (E : Addr) {Sg Q : Type} [Rep Sg] [Pk Q] (f : Q → Option (ElG E Sg)) : Prop where
  ok : ∃ (j : Nat) (fa : Addr) (fd : FuncData) (ps : List Str), FnOk c.P c.w c.K c.mg c.base CX0 j fa fd ps (spIE c.K E f) ∧ j + 1 ≤ c.k ∧ c.mg x = some (.ref E) ∧ Mk c.K E fa ∧ Binds c.K fd ps []
structure GkE (P : Program) (w : World) (K : PySem.W.Frag) (mg : Str → Option Value) (base : Heap) (j : Nat) (x : Str) (E : Addr) {Sg Q : Type} [Rep Sg] [Pk Q] (f : Q → Option (ElG E Sg)) : Prop where
  ok : ∃ (fa : Addr) (fd : FuncData) (ps : List Str), FnOk P w K mg base CX0 j fa fd ps (spIE K E f) ∧ mg x = some (.ref E) ∧ Mk K E fa ∧ Binds K fd ps []
theorem GkE.md {P : Program} {w : World} {K : PySem.W.Frag} {mg : Str → Option Value} {base : Heap} {j : Nat} {x : Str} {E : Addr} {Sg Q : Type} [Rep Sg] [Pk Q] {f : Q → Option (ElG E Sg)} (G : GkE P w K mg base j x E f) {c : Ct} (hP : c.P = P := by rfl) (hw : c.w = w := by rfl) (hK : c.K = K := by rfl) (hmg : c.mg = mg := by rfl) (hb : c.base = base := by rfl) (hj : j + 1 ≤ c.k := by exact Nat.le_of_ble_eq_true rfl) : MdE c x E f := by
  obtain ⟨P', w', K', mg', base', k, N, sc, fn, df⟩ := c
  cases hP; cases hw; cases hK; cases hmg; cases hb
  obtain ⟨fa, fd, ps, h1, h2, h3, h4⟩ := G.ok
  exact ⟨j, fa, fd, ps, h1, hj, h2, h3, h4⟩
section
variable {c : Ct} {env : List Slot} {e : Expr} {es : List Expr} {E : Addr} {Sg : Type} [Rep Sg]
end
section
variable {c : Ct} {env : List Slot} {e o : Expr} {α β γ R : Type} [Rep α] [Rep β] [Rep γ]
end
end Dn

set_option Elab.async false
set_option linter.all false
set_option maxRecDepth 100000
namespace Dn
open PySem PySem.Spec L2
open Rep (rep)
open ORep (orep)
section
variable {c : Ct} {env : List Slot} {e : Expr} {es : List Expr} {E : Addr} {Sg α : Type} [Rep Sg] [Rep α]
end
end Dn

set_option Elab.async false
set_option linter.all false
set_option maxRecDepth 100000
namespace Dn
open PySem PySem.Spec L2
open Rep (rep)
open ORep (orep)
section
variable {S L R : Type} [Rep R] {c : Ct} {env : List Slot} {rest : List Stmt} {e i : Expr} {mk : S → List Slot} {lk : L → List Slot}
end
end Dn

set_option Elab.async false
set_option linter.all false
set_option maxRecDepth 100000
namespace Dn
open PySem PySem.Spec L2
open Rep (rep)
open ORep (orep)
section
variable {α β : Type}
instance [Dat α] [Dat β] : Dat (Duo α β) where
  toD := fun x => .list [Dat.toD x.x1, Dat.toD x.x2]
  dp := fun h => by
    obtain ⟨a, v1, v2, rfl, s, r1, r2⟩ := h
    exact .lst s (.cons (Dat.dp r1) (.cons (Dat.dp r2) .nil))
  dep := max (Dat.dep α) (Dat.dep β) + 1
  hdep := fun x => by
    have h1 := Dat.hdep x.x1
    have h2 := Dat.hdep x.x2
    simp only [PyData.depth, PyData.depthAll]
    omega
  dec := fun x y => by
    letI := Dat.dec (α := α); letI := Dat.dec (α := β)
    exact decidable_of_iff (x.x1 = y.x1 ∧ x.x2 = y.x2) ⟨fun ⟨a, b⟩ => by cases x; cases y; cases a; cases b; rfl, fun h => by rw [h]; exact ⟨rfl, rfl⟩⟩
  eqv := fun x y => by
    obtain ⟨x1, x2⟩ := x
    obtain ⟨y1, y2⟩ := y
    rw [PyData.eqv, PyData.eqvAll, PyData.eqvAll, PyData.eqvAll, Dat.eqv, Dat.eqv]
    letI := Dat.dec (α := α)
    letI := Dat.dec (α := β)
    by_cases h : x1 = y1 <;> by_cases g : x2 = y2 <;> simp [h, g]
end
section
variable {c : Ct} {env : List Slot} {a e1 e2 : Expr} {α β : Type} [Rep α] [Rep β]
end
end Dn

set_option Elab.async false
set_option linter.all false
set_option maxRecDepth 100000
namespace Dn
open PySem PySem.Spec L2 PyProof.Rows
open Rep (rep)
section
variable {c : Ct} {env : List Slot} {a : Expr}
end
end Dn

set_option Elab.async false
set_option linter.all false
set_option maxRecDepth 100000
namespace Dn
open PySem PySem.Spec L2
open Rep (rep)
end Dn
namespace L2
open PySem PySem.Spec Dn PyProof.Rows
section
variable {X : Cx}
end
end L2
namespace Dn
open PySem PySem.Spec L2
open Rep (rep)
section
variable {c : Ct} {env : List Slot} {a : Expr}
end
section
variable {c : Ct} {env : List Slot} {α β γ δ ε ζ R : Type} [Rep α] [Rep β] [Rep γ] [Rep δ] [Rep ε] [Rep ζ] [Rep R]
end
end Dn

set_option Elab.async false
set_option linter.all false
set_option maxRecDepth 100000
set_option maxHeartbeats 1000000
namespace L2
open PySem PySem.Spec Dn
section
variable {X : Cx} {pins : List (Addr × Obj)} {σ : St} {H : Hp} {s : Shared} {a : Addr} {o : Obj} {xs : List Ent}
end
section
end
end L2
namespace Dn
open PySem PySem.Spec L2
open Rep (rep)
section
variable {α β : Type} [Rep α] [Rep β] {c : Ct} {env : List Slot} {o i e : Expr}
end
section
variable {S L R : Type} [Rep R] {c : Ct} {env : List Slot} {b : List Stmt} {mk : S → List Slot} {lk : L → List Slot} {α : Type} [Rep α]
end
end Dn
namespace Dn
section
open PySem PySem.Spec L2
open PySem.W (KdlSrc kdl_hint_dict kdu_collect)
open PyProof.Rows (seqObj)
end
section
open PySem PySem.Spec L2
open Rep (rep)
variable {α : Type} [Rep α] {c : Ct} {env : List Slot} {a : Expr}
end
end Dn

set_option Elab.async false
set_option linter.all false
set_option maxRecDepth 100000
namespace Dn
open PySem PySem.Spec L2
open Rep (rep)
open ORep (orep)
section
variable {α β γ δ ε : Type}
instance [Dat γ] [Dat δ] [Dat ε] : Dat (Trp γ δ ε) where
  toD := fun x => .tuple [Dat.toD x.x1, Dat.toD x.x2, Dat.toD x.x3]
  dp := fun h => by
    obtain ⟨a, v1, v2, v3, rfl, s, r1, r2, r3⟩ := h
    exact .tup s (.cons (Dat.dp r1) (.cons (Dat.dp r2) (.cons (Dat.dp r3) .nil)))
  dep := max (Dat.dep γ) (max (Dat.dep δ) (Dat.dep ε)) + 1
  hdep := fun x => by
    have h1 := Dat.hdep x.x1
    have h2 := Dat.hdep x.x2
    have h3 := Dat.hdep x.x3
    simp only [PyData.depth, PyData.depthAll]
    omega
  dec := fun x y => by
    letI := Dat.dec (α := γ); letI := Dat.dec (α := δ); letI := Dat.dec (α := ε)
    exact decidable_of_iff (x.x1 = y.x1 ∧ x.x2 = y.x2 ∧ x.x3 = y.x3) ⟨fun ⟨a, b, c⟩ => by cases x; cases y; cases a; cases b; cases c; rfl, fun h => by rw [h]; exact ⟨rfl, rfl, rfl⟩⟩
  eqv := fun x y => by
    obtain ⟨x1, x2, x3⟩ := x
    obtain ⟨y1, y2, y3⟩ := y
    rw [PyData.eqv, PyData.eqvAll, PyData.eqvAll, PyData.eqvAll, PyData.eqvAll, Dat.eqv, Dat.eqv, Dat.eqv]
    letI := Dat.dec (α := γ)
    letI := Dat.dec (α := δ)
    letI := Dat.dec (α := ε)
    by_cases h : x1 = y1 <;> by_cases g : x2 = y2 <;> by_cases k : x3 = y3 <;> simp [h, g, k]
instance [Dat α] [Dat β] [Dat γ] [Dat δ] [Dat ε] : Dat ((α × β) ⊕ Trp γ δ ε) where
  toD := fun x => match x with
    | .inl y => Dat.toD y
    | .inr z => Dat.toD z
  dp := fun {K B v x} h => by
    cases x with
    | inl y => exact Dat.dp (α := α × β) h
    | inr z => exact Dat.dp (α := Trp γ δ ε) h
  dep := max (Dat.dep (α × β)) (Dat.dep (Trp γ δ ε))
  hdep := fun x => by
    cases x with
    | inl y => exact Nat.le_trans (Dat.hdep y) (Nat.le_max_left _ _)
    | inr z => exact Nat.le_trans (Dat.hdep z) (Nat.le_max_right _ _)
  dec := by
    letI := Dat.dec (α := α × β); letI := Dat.dec (α := Trp γ δ ε)
    exact inferInstance
  eqv := fun x y => by
    letI := Dat.dec (α := α × β); letI := Dat.dec (α := Trp γ δ ε)
    cases x with
    | inl a =>
      cases y with
      | inl b =>
        refine (Dat.eqv a b).trans ?_
        by_cases h : a = b <;> simp [h]
      | inr b =>
        obtain ⟨a1, a2⟩ := a
        obtain ⟨b1, b2, b3⟩ := b
        show PyData.eqv (.tuple [Dat.toD a1, Dat.toD a2]) (.tuple [Dat.toD b1, Dat.toD b2, Dat.toD b3]) = _
        simp [PyData.eqv, PyData.eqvAll]
    | inr a =>
      cases y with
      | inl b =>
        obtain ⟨b1, b2⟩ := b
        obtain ⟨a1, a2, a3⟩ := a
        show PyData.eqv (.tuple [Dat.toD a1, Dat.toD a2, Dat.toD a3]) (.tuple [Dat.toD b1, Dat.toD b2]) = _
        simp [PyData.eqv, PyData.eqvAll]
      | inr b =>
        refine (Dat.eqv a b).trans ?_
        by_cases h : a = b <;> simp [h]
end
end Dn

set_option Elab.async false
set_option linter.all false
set_option maxRecDepth 100000
set_option maxHeartbeats 2000000
namespace Dn
open PySem PySem.Spec L2 PyProof.Rows
open Rep (rep)
open ORep (orep)
section
variable {X : Cx} {o e f : Expr} {apos cpos : Pos} {td ty tx : TE}
end
section
variable {α S L R : Type} [Rep α] [Rep R] {c : Ct} {env : List Slot} {ke de : Expr} {rest : List Stmt} {mk : S → List Slot} {lk : L → List Slot}
end
end Dn

set_option Elab.async false
set_option linter.all false
set_option maxRecDepth 100000
set_option maxHeartbeats 2000000
namespace L2
open PySem PySem.Spec PyProof.Rows Dn
section
variable {X : Cx}
end
end L2
namespace Dn
open PySem PySem.Spec L2
open Rep (rep)
section
variable {c : Ct} {env : List Slot} {a : Expr}
end
end Dn

set_option Elab.async false
set_option linter.all false
set_option maxRecDepth 100000
namespace L2
open PySem PySem.Spec
section
variable {X : Cx}
end
end L2
namespace Dn
open PySem PySem.Spec L2
open Rep (rep)
open ORep (orep)
structure DctS (α : Type) where
  l : List (Str × α)
section
variable {α : Type}
def DctS.get (d : DctS α) (k : Str) : Option α := (d.l.find? fun p => decide (p.1 = k)).map (·.2)
def DctS.has (d : DctS α) (k : Str) : Bool := d.l.any fun p => decide (p.1 = k)
def DctS.put (d : DctS α) (k : Str) (v : α) : DctS α := if d.has k = true then ⟨d.l.map fun p => if p.1 = k then (p.1, v) else p⟩ else ⟨d.l ++ [(k, v)]⟩
theorem DctS.put_len (d : DctS α) (k : Str) (v : α) : (d.put k v).l.length ≤ d.l.length + 1 := by
  unfold DctS.put
  split
  · rw [List.length_map]; omega
  · rw [List.length_append]; exact Nat.le_refl _
variable [Rep α] {K : PySem.W.Frag} {B B' : Hp}
def SRel (K : PySem.W.Frag) (B : Hp) (xs : List (Key × V)) (l : List (Str × α)) : Prop := Paired (fun (x : Key × V) (p : Str × α) => x.1 = .inr p.1 ∧ rep K B x.2 p.2) xs l
theorem SRel.mono (e : Le B B') {xs : List (Key × V)} {l : List (Str × α)} (r : SRel K B xs l) : SRel K B' xs l := Paired.mapP r fun _ _ h => ⟨h.1, Rep.mono e h.2⟩
theorem SRel.at_ {xs : List (Key × V)} {l : List (Str × α)} (r : SRel K B xs l) (k : Str) : (∀ y, (⟨l⟩ : DctS α).get k = some y → ∃ v, valV xs (.inr k) = some v ∧ rep K B v y) ∧ ((⟨l⟩ : DctS α).get k = none → valV xs (.inr k) = none) := by
  unfold SRel at r
  unfold DctS.get
  induction r with
  | nil => exact ⟨fun y h => (nomatch (show (none : Option α) = some y from h)), fun _ => rfl⟩
  | @cons x p xs ps h t ih =>
    by_cases e : p.1 = k
    · have e' : x.1 = .inr k := by rw [h.1, e]
      have a1 : List.find? (fun q : Str × α => decide (q.1 = k)) (p :: ps) = some p := by rw [List.find?_cons, decide_eq_true e]
      rw [a1, valV_pos e']
      exact ⟨fun y hy => ⟨_, rfl, by cases hy; exact h.2⟩, fun h => nomatch h⟩
    · have e' : ¬ x.1 = .inr k := fun z => e (by rw [h.1] at z; exact Sum.inr.inj z)
      have a1 : List.find? (fun q : Str × α => decide (q.1 = k)) (p :: ps) = List.find? (fun q : Str × α => decide (q.1 = k)) ps := by rw [List.find?_cons, decide_eq_false e]
      rw [a1, valV_neg e']
      exact ih
theorem SRel.has_ {xs : List (Key × V)} {l : List (Str × α)} (r : SRel K B xs l) (k : Str) : (xs.any fun kv => decide (kv.1 = (.inr k : Key))) = (⟨l⟩ : DctS α).has k := by
  unfold SRel at r
  unfold DctS.has
  induction r with
  | nil => rfl
  | @cons x p xs ps h t ih =>
    rw [List.any_cons]
    show _ = (p :: ps).any _
    rw [List.any_cons]
    have : decide (x.1 = (.inr k : Key)) = decide (p.1 = k) := by
      rw [h.1]
      by_cases e : p.1 = k
      · rw [e, decide_eq_true rfl, decide_eq_true rfl]
      · rw [decide_eq_false e, decide_eq_false fun z => e (Sum.inr.inj z)]
    rw [this]
    exact congrArg _ ih
theorem SRel.put {xs : List (Key × V)} {l : List (Str × α)} (r : SRel K B xs l) {k : Str} {v : V} {y : α} (hv : rep K B v y) : SRel K B (putK xs (.inr k) v) ((⟨l⟩ : DctS α).put k y).l := by
  unfold putK DctS.put
  rw [r.has_ k]
  by_cases q : (⟨l⟩ : DctS α).has k = true
  · rw [if_pos q, if_pos q]
    clear q
    unfold SRel at r ⊢
    induction r with
    | nil => exact .nil
    | @cons x p xs ps h t ih =>
      rw [List.map_cons]
      refine .cons ?_ ih
      by_cases e : p.1 = k
      · have e1 : (if x.1 = (.inr k : Key) then (x.1, v) else x) = (x.1, v) := if_pos (by rw [h.1, e])
        have e2 : (if p.1 = k then (p.1, y) else p) = (p.1, y) := if_pos e
        show (if x.1 = (.inr k : Key) then (x.1, v) else x).1 = .inr (if p.1 = k then (p.1, y) else p).1 ∧ rep K B (if x.1 = (.inr k : Key) then (x.1, v) else x).2 (if p.1 = k then (p.1, y) else p).2
        rw [e1, e2]
        exact ⟨h.1, hv⟩
      · have e1 : (if x.1 = (.inr k : Key) then (x.1, v) else x) = x := if_neg (fun z => e (by rw [h.1] at z; exact Sum.inr.inj z))
        have e2 : (if p.1 = k then (p.1, y) else p) = p := if_neg e
        show (if x.1 = (.inr k : Key) then (x.1, v) else x).1 = .inr (if p.1 = k then (p.1, y) else p).1 ∧ rep K B (if x.1 = (.inr k : Key) then (x.1, v) else x).2 (if p.1 = k then (p.1, y) else p).2
        rw [e1, e2]
        exact h
  · rw [if_neg q, if_neg q]
    exact Paired.snoc r ⟨rfl, hv⟩
end
section
variable {α : Type} [Rep α]
instance : Rep (DctS α) := ⟨fun K B v d => ∃ a xs, v = .ref a ∧ B a = some (.dK xs) ∧ SRel K B xs d.l, fun e ⟨a, xs, h, s, r⟩ => ⟨a, xs, h, e a _ s, r.mono e⟩⟩
end
section
variable {S L R : Type} [Rep R] {c : Ct} {env : List Slot} {rest : List Stmt} {e i o f a : Expr} {mk : S → List Slot} {lk : L → List Slot} {α : Type} [Rep α]
end
section
variable {c : Ct} {env : List Slot} {e kx vx iter tg : Expr} {α β : Type} [Rep α] [Rep β]
end
section
variable {S L R : Type} [Rep R] {c : Ct} {env : List Slot} {st : Stmt} {rest : List Stmt} {mk : S → List Slot} {lk : L → List Slot} {β : Type} [Rep β]
end
end Dn

set_option Elab.async false
set_option linter.all false
set_option maxRecDepth 100000
namespace Dn
open PySem PySem.Spec L2
open Rep (rep)
section
variable {c : Ct} {env : List Slot} {e a b : Expr} {α : Type} [Rep α]
end
section
variable {c : Ct} {env : List Slot} {e kx vx iter tg : Expr} {α β : Type} [Rep α] [Rep β]
end
section
variable {c : Ct} {env : List Slot} {α R : Type} [Rep α] [ORep R]
end
end Dn

set_option Elab.async false
set_option linter.all false
set_option maxRecDepth 100000
namespace Dn
open PySem PySem.Spec L2
open Rep (rep)
open ORep (orep)
section
variable {α β γ : Type} [Rep α] [Rep β] [Rep γ]
instance : ORep (Tri α β γ) := ⟨fun K B o x => ∃ v1 v2 v3, o = .lst [v1, v2, v3] ∧ rep K B v1 x.x1 ∧ rep K B v2 x.x2 ∧ rep K B v3 x.x3, fun e ⟨v1, v2, v3, h, r1, r2, r3⟩ => ⟨v1, v2, v3, h, Rep.mono e r1, Rep.mono e r2, Rep.mono e r3⟩⟩
variable {c : Ct} {env : List Slot} {e e1 e2 e3 : Expr}
end
section
variable {S L R : Type} [Rep R] {α β γ : Type} [Rep α] [Rep β] [Rep γ] {c : Ct} {env : List Slot} {rest b : List Stmt} {e : Expr} {mk : S → List Slot} {lk : L → List Slot}
end
section
variable {c : Ct} {env : List Slot} {o e : Expr} {α : Type} [Dat α]
def idxD (xs : List α) (x : α) : Option Int := letI := Dat.dec (α := α); if (lay x && lay xs && decide (Dat.dep α ≤ 63)) = true then (xs.findIdx? fun y => decide (y = x)).map fun j => (j : Int) else none
theorem de_indexD {p2 p3 : Pos} {m : Option (List α)} {n : Option α} (h : De c env o m) (g : De c env e n)
    (hpe : ∀ X to t, Fits c X → PE X o to → PE X e t → PE X (.Call (.Attribute o "index" p2) [e] [] p3) (tBM X.K "list" (rIndexD X.K) to (tCons t tNil)) := by
      intro X to t F ho ht; exact pe_bm PySem.F.plainAttrs_list PySem.F.slot_list_index PySem.F.type_list_index (mt_indexD (fits_units65 F)) ho (pa_cons ht pa_nil)) :
    De c env (.Call (.Attribute o "index" p2) [e] [] p3) (m.bind fun xs => n.bind fun x => idxD xs x) := by
  letI := Dat.dec (α := α)
  obtain ⟨t, h1, h2⟩ := h
  obtain ⟨u, g1, g2⟩ := g
  refine ⟨tBM c.K "list" (rIndexD c.K) t (tCons u tNil), fun X F => by rw [← F.K]; exact hpe X t u F (h1 X F) (g1 X F), fun z hz B H σ E Q q => ?_⟩
  obtain ⟨xs, ex, hz⟩ := bind_some hz
  obtain ⟨x, ey, hz⟩ := bind_some hz
  unfold idxD at hz
  split at hz
  · rename_i hl
    obtain ⟨s1, s2⟩ := inD_shape hl
    cases hj : xs.findIdx? fun y => decide (y = x) with
    | none => rw [hj] at hz; cases hz
    | some j =>
      rw [hj] at hz
      cases hz
      obtain ⟨hjl, hjx, hjb⟩ := List.findIdx?_eq_some_iff_getElem.mp hj
      refine h2 xs ex B H σ E _ fun v B1 H1 k1 r => ?_
      have dx : Dp c.K B1 v (.list (xs.map Dat.toD)) := Dat.dp r
      obtain ⟨l, vs, rfl, sl, rr⟩ := r
      refine ⟨.inl ⟨rfl, _, k1.bh.l sl⟩, g2 x ey B1 H1 σ (E.grow k1) _ fun v2 B2 H2 k2 r2 => ?_⟩
      have r : rep c.K B1 (V.ref l) xs := ⟨l, vs, rfl, sl, rr⟩
      refine ⟨l, v2, Dat.toD x, xs.map Dat.toD, j, Dat.toD xs[j], rfl, rfl, Dat.dp (Rep.mono (k2.b.trans k2.bh) r), Dat.dp (Rep.mono k2.bh r2), s2, s1, ?_, ?_, fun k z' hk hz' => ?_, q _ B2 H2 (k1.trans k2) rfl⟩
      · rw [List.getElem?_map, List.getElem?_eq_getElem hjl]
        rfl
      · rw [Dat.eqv, hjx]
      · rw [List.getElem?_map] at hz'
        obtain ⟨y, ey2, rfl⟩ := Option.map_eq_some_iff.mp hz'
        have hkl : k < xs.length := (List.getElem?_eq_some_iff.mp ey2).1
        have e := (List.getElem?_eq_some_iff.mp ey2).2
        rw [Dat.eqv, ← e]
        have := hjb k hk
        cases q : decide (xs[k] = x) with
        | true => rw [q] at this; exact absurd rfl this
        | false => rfl
  · cases hz
end
section
variable {S L β : Type} [ORep β] {α : Type} [Rep α] {c : Ct} {env : List Slot} {rest : List Stmt} {e i : Expr} {mk : S → List Slot} {lk : L → List Slot}
end
end Dn

set_option Elab.async false
set_option linter.all false
set_option maxRecDepth 100000
namespace L2
open PySem PySem.Spec Dn PyProof.Rows
def rNotInE (K : PySem.W.Frag) : R2 := fun x y H Q => ∃ p xs b k, y = .ref p ∧ H p = some (dHO p xs) ∧ x = .ref b ∧ SqT K H b (k.map V.int) ∧ (∀ q ∈ xs, KeyAt K H q) ∧ Q (.bl (!(atE xs k).isSome)) H
theorem op_notInE {X : Cx} (hu : X.A.units + 1 < cLine) : OpR X (compareOp .NotIn) (rNotInE X.K) := by
  intro pins s σ H x y v u Q I rx ry h
  obtain ⟨p, xs, b, k, rfl, ea, rfl, kb, hk, q⟩ := h
  cases rx
  cases ry
  obtain ⟨_, lo, us, r, dd⟩ := dH I ea hk
  refine wpAny_notIn_heap (tupleKind_room_in1 hu) (isKey I kb) lo dd ⟨.bl (!(atE xs k).isSome), H, I.tok _, ?_, q⟩
  have e := at_rel r k
  have : (atE xs k).isSome = (atKey us k).isSome := by
    cases h1 : atE xs k with
    | none =>
      rw [h1] at e
      cases h2 : atKey us k with
      | none => rfl
      | some z => rw [h2] at e; cases e
    | some w =>
      rw [h1] at e
      cases h2 : atKey us k with
      | none => rw [h2] at e; cases e
      | some z => rfl
  rw [this]
  rfl
end L2
namespace Dn
open PySem PySem.Spec L2
open Rep (rep)
def Fl.whl {T L R : Type} (t : T → Option Bool) (f : T → Fl T T R) : Nat → T → Fl T L R
  | 0, _ => .err
  | n + 1, s => match t s with
    | none => .err
    | some false => .nx s
    | some true => match f s with
      | .err => .err
      | .nx s' => Fl.whl t f n s'
      | .ct s' => Fl.whl t f n s'
      | .bk s' => .nx s'
      | .rt r => .rt r
section
variable {S L R T : Type} [Rep R] {c : Ct} {env : List Slot} {rest b : List Stmt} {mk : S → List Slot} {lk : L → List Slot}
theorem ds_while (N : Nat) {test : Expr} {pos : Pos} {tm : T → Option Bool} {sk : T → List Slot} {s0 : T} {f : T → Fl T T R} {k : T → Fl S L R} (w : Wk env (sk s0)) (ht : ∀ s, DeT c (sk s) test (tm s))
    (hb : ∀ s, DeS c (sk s) b sk sk (f s)) (g : ∀ s, DeS c (sk s) rest mk lk (k s)) :
    DeS c env (.While test b [] pos :: rest) mk lk ((Fl.whl tm f N s0 : Fl T L R).bind k) := .mk fun B0 H0 B H σ O D P => by
  refine cS_cons (fun X F => ps_while (by rw [F.xe]; exact PassesOwn.never) (cT_pt X F) (cS_ps X F)) ?_
  generalize hm : (Fl.whl tm f N s0 : Fl T L R) = total at P
  refine ⟨fun m σ' H' => ∃ B' s, StOk c.K B0 H0 B' H' σ' (sk s) ∧ Le B B' ∧ (Fl.whl tm f m s : Fl T L R) = total, ⟨N, B, s0, O.wk w, Le.refl _, hm⟩, fun m σ' H' ⟨B', s, O', l', hw⟩ => ?_⟩
  cases m with
  | zero =>
    have hw : (.err : Fl T L R) = total := hw
    rw [← hw] at P
    exact P.elim
  | succ m =>
    unfold Fl.whl at hw
    cases et : tm s with
    | none =>
      rw [et] at hw
      have hw : (.err : Fl T L R) = total := hw
      rw [← hw] at P
      exact P.elim
    | some v =>
      rw [et] at hw
      refine (ht s).can v et B' H' σ' O'.en _ fun B2 H2 k2 => ?_
      have O2 := O'.grow k2
      cases v with
      | false =>
        have hw : (.nx s : Fl T L R) = total := hw
        rw [← hw] at P
        rw [if_neg Bool.false_ne_true]
        exact g s B0 H0 B2 H2 σ' O2 D (P.mono (l'.trans k2.b))
      | true =>
        rw [if_pos rfl]
        refine ⟨fun σ3 H3 => ∃ B' s, StOk c.K B0 H0 B' H3 σ3 (sk s) ∧ Le B B' ∧ (Fl.whl tm f m s : Fl T L R) = total, fun σ3 H3 h => ⟨m, Nat.lt_succ_self _, h⟩, ?_⟩
        refine hb s B0 H0 B2 H2 σ' O2 _ ?_
        cases hf : f s with
        | err =>
          rw [hf] at hw
          have hw : (.err : Fl T L R) = total := hw
          rw [← hw] at P
          exact P
        | nx s' =>
          rw [hf] at hw
          exact fun B4 H4 σ4 l4 O4 => ⟨B4, s', O4, (l'.trans k2.b).trans l4, hw⟩
        | ct s' =>
          rw [hf] at hw
          exact fun B4 H4 σ4 l4 O4 => ⟨B4, s', O4, (l'.trans k2.b).trans l4, hw⟩
        | bk s' =>
          rw [hf] at hw
          have hw : (.nx s' : Fl T L R) = total := hw
          rw [← hw] at P
          exact fun B4 H4 σ4 l4 O4 => g s' B0 H0 B4 H4 σ4 O4 D (P.mono ((l'.trans k2.b).trans l4))
        | rt r =>
          rw [hf] at hw
          have hw : (.rt r : Fl T L R) = total := hw
          rw [← hw] at P
          exact P
end
section
variable {c : Ct} {env : List Slot} {α : Type} [Rep α]
theorem dt_ninO {t : Expr} (j : Nat) {x : Str} {p1 pos : Pos} {d : Dct α} {n : Option (Tup Int)} (hj : env[j]? = some (.dct d)) (hN : c.N[j]? = some x) (hv : Vis c.sc x) (hi : De c env t n) (hm : behindInMarks .NotIn (.Name x p1) = false := by first | exact nomark _ | rfl)
    (hd : (x == ("__debug__" : Str)) = false := by decide) (hcd : (x == ("__classdict__" : Str)) = false := by decide) : DeT c env (.Compare t [.NotIn] [.Name x p1] pos) (n.map fun k => !(d.get k).isSome) := by
  obtain ⟨u, u1, u2⟩ := hi
  refine ⟨_, fun X F => pt_cmpR (show OpR X (compareOp .NotIn) (rNotInE c.K) by rw [← F.K]; exact op_notInE (Nat.lt_of_le_of_lt (Nat.add_le_add_left (by decide) _) (fits_units F))) (u1 X F) (pe_var (fits_ix F hN) (fits_vis F hv) hd hcd) hm, fun z hz B H σ E Q q => ?_⟩
  obtain ⟨k, ek, rfl⟩ := Option.map_eq_some_iff.mp hz
  refine u2 k ek B H σ E _ fun w B2 H2 k2 r2 => ?_
  obtain ⟨a, ob, e1, e2, e3, xs, rfl, r⟩ := (E.grow k2).obj hj
  refine ⟨.ref a, e1, ?_⟩
  obtain ⟨b, rfl, sb⟩ := tup_key r2
  refine ⟨a, xs, b, k.l, rfl, e2, rfl, k2.bh.t sb, fun p m => k2.bh.t (r.keys p m), ?_⟩
  rw [drel_get r k]
  exact ⟨_, rfl, q B2 H2 k2⟩
end

theorem Thaw_dict {B : Hp} {a b : Addr} {ls : List V} {xs : List Ent} (h : B a = some (.lst ls)) (e : B b = some (dHO b xs)) : thaw B a b = some (dHO b xs) := by
  have z : b ≠ a := fun k => by
    rw [k, h] at e
    cases e
  show (if b = a then none else B b) = _
  rw [if_neg z]
  exact e
instance {α : Type} [Rep α] [Thaw α] : Thaw (Dct α) := ⟨fun h r => by
  obtain ⟨b, xs, rfl, s, r⟩ := r
  exact ⟨b, xs, rfl, Thaw_dict h s, Paired.mapP r fun _ _ q => ⟨q.1, SqT_thaw h q.2.1, Thaw.thaw h q.2.2⟩⟩⟩
instance {α : Type} [Rep α] [Thaw α] : Thaw (Option α) := ⟨fun {K B a ls v x} h r => by
  cases x with
  | none => exact r
  | some y => exact Thaw.thaw (α := α) h r⟩
end Dn

set_option Elab.async false
set_option linter.all false
set_option maxRecDepth 100000
set_option maxHeartbeats 4000000
namespace Kt
open PySem PySem.Spec L2 Dn
open Rep (rep)
open ORep (orep)
def top (i : Nat) : Stmt := PySem.Challenge.pw_standingpowers_k59_machines_that_step.main.body.getD i (.Pass ⟨0, 0, 0, 0⟩)
structure SpaceD (C : Addr) where
  prime : Int
  names : List Str
  count : Int
  tuples : List (Tup Int)
instance instSpace {C : Addr} : Rep (SpaceD C) := ⟨fun K B v x => ∃ a dx u1 u2 u3 u4, v = .ref a ∧ B a = some (.ins C dx [("prime", u1), ("names", u2), ("count", u3), ("_tuples", u4)]) ∧ rep K B u1 x.prime ∧ rep K B u2 x.names ∧ rep K B u3 x.count ∧ rep K B u4 x.tuples,
  fun e ⟨a, dx, u1, u2, u3, u4, h, s, r1, r2, r3, r4⟩ => ⟨a, dx, u1, u2, u3, u4, h, e a _ s, Rep.mono e r1, Rep.mono e r2, Rep.mono e r3, Rep.mono e r4⟩⟩
def fl_fields {C : Addr} (x : SpaceD C) : List (Str × Slot) := [("prime", .val x.prime), ("names", .val x.names), ("count", .val x.count), ("_tuples", .val x.tuples)]
theorem space_rep {K : PySem.W.Frag} {C : Addr} : ∀ (B : Hp) (a dx : Addr) (fs : List (Str × V)) (r : SpaceD C), B a = some (.ins C dx fs) → Pr2 (FldOk K B) fs (fl_fields r) → rep K B (.ref a) r := by
  intro B a dx fs r hB p
  unfold fl_fields at p
  cases p with
  | @cons x1 _ xs1 _ f1 p =>
    cases p with
    | @cons x2 _ xs2 _ f2 p =>
      cases p with
      | @cons x3 _ xs3 _ f3 p =>
        cases p with
        | @cons x4 _ xs4 _ f4 p =>
          cases p
          obtain ⟨n1, w1⟩ := x1
          obtain ⟨n2, w2⟩ := x2
          obtain ⟨n3, w3⟩ := x3
          obtain ⟨n4, w4⟩ := x4
          obtain ⟨e1, ⟨z1, q1, r1⟩, _⟩ := f1
          obtain ⟨e2, ⟨z2, q2, r2⟩, _⟩ := f2
          obtain ⟨e3, ⟨z3, q3, r3⟩, _⟩ := f3
          obtain ⟨e4, ⟨z4, q4, r4⟩, _⟩ := f4
          cases e1; cases e2; cases e3; cases e4
          cases q1; cases q2; cases q3; cases q4
          exact ⟨a, dx, _, _, _, _, rfl, hB, r1, r2, r3, r4⟩
structure SysD (C D : Addr) where
  space : (SpaceD C)
  equations : (List (Tup ((Tup Int) × Int)))
  tables : (Tup (Tup Int))
instance instSysD {C D : Addr} : Rep (SysD C D) := ⟨fun K B v x => ∃ a dx u1 u2 u3, v = .ref a ∧ B a = some (.ins D dx [("space", u1), ("equations", u2), ("_tables", u3)]) ∧ rep K B u1 x.space ∧ rep K B u2 x.equations ∧ rep K B u3 x.tables,
  fun e ⟨a, dx, u1, u2, u3, h, s, r1, r2, r3⟩ => ⟨a, dx, u1, u2, u3, h, e a _ s, Rep.mono e r1, Rep.mono e r2, Rep.mono e r3⟩⟩
def fy_fields {C D : Addr} (x : (SysD C D)) : List (Str × Slot) := [("space", .val x.space), ("equations", .val x.equations), ("_tables", .val x.tables)]
theorem system_rep {K : PySem.W.Frag} {C D : Addr} : ∀ (B : Hp) (a dx : Addr) (fs : List (Str × V)) (r : (SysD C D)), B a = some (.ins D dx fs) → Pr2 (FldOk K B) fs (fy_fields r) → rep K B (.ref a) r := by
  intro B a dx fs r hB p
  unfold fy_fields at p
  cases p with
  | @cons x1 _ xs1 _ f1 p =>
    cases p with
    | @cons x2 _ xs2 _ f2 p =>
      cases p with
      | @cons x3 _ xs3 _ f3 p =>
        cases p
        obtain ⟨n1, w1⟩ := x1
        obtain ⟨n2, w2⟩ := x2
        obtain ⟨n3, w3⟩ := x3
        obtain ⟨e1, ⟨z1, q1, r1⟩, _⟩ := f1
        obtain ⟨e2, ⟨z2, q2, r2⟩, _⟩ := f2
        obtain ⟨e3, ⟨z3, q3, r3⟩, _⟩ := f3
        cases e1; cases e2; cases e3
        cases q1; cases q2; cases q3
        exact ⟨a, dx, _, _, _, rfl, hB, r1, r2, r3⟩
structure MacD (C D G : Addr) where
  start : (SysD C D)
  step : (List (Tup ((Tup Int) × Int)))
  space : (SpaceD C)
  nxt : (Dct (Tup Int))
instance instMacD {C D G : Addr} : Rep (MacD C D G) := ⟨fun K B v x => ∃ a dx u1 u2 u3 u4, v = .ref a ∧ B a = some (.ins G dx [("start", u1), ("step", u2), ("space", u3), ("_next_by_point", u4)]) ∧ rep K B u1 x.start ∧ rep K B u2 x.step ∧ rep K B u3 x.space ∧ rep K B u4 x.nxt,
  fun e ⟨a, dx, u1, u2, u3, u4, h, s, r1, r2, r3, r4⟩ => ⟨a, dx, u1, u2, u3, u4, h, e a _ s, Rep.mono e r1, Rep.mono e r2, Rep.mono e r3, Rep.mono e r4⟩⟩
def ma_fields {C D G : Addr} (x : (MacD C D G)) : List (Str × Slot) := [("start", .val x.start), ("step", .val x.step), ("space", .val x.space), ("_next_by_point", .val x.nxt)]
theorem machine_rep {K : PySem.W.Frag} {C D G : Addr} : ∀ (B : Hp) (a dx : Addr) (fs : List (Str × V)) (r : (MacD C D G)), B a = some (.ins G dx fs) → Pr2 (FldOk K B) fs (ma_fields r) → rep K B (.ref a) r := by
  intro B a dx fs r hB p
  unfold ma_fields at p
  cases p with
  | @cons x1 _ xs1 _ f1 p =>
    cases p with
    | @cons x2 _ xs2 _ f2 p =>
      cases p with
      | @cons x3 _ xs3 _ f3 p =>
        cases p with
        | @cons x4 _ xs4 _ f4 p =>
          cases p
          obtain ⟨n1, w1⟩ := x1
          obtain ⟨n2, w2⟩ := x2
          obtain ⟨n3, w3⟩ := x3
          obtain ⟨n4, w4⟩ := x4
          obtain ⟨e1, ⟨z1, q1, r1⟩, _⟩ := f1
          obtain ⟨e2, ⟨z2, q2, r2⟩, _⟩ := f2
          obtain ⟨e3, ⟨z3, q3, r3⟩, _⟩ := f3
          obtain ⟨e4, ⟨z4, q4, r4⟩, _⟩ := f4
          cases e1; cases e2; cases e3; cases e4
          cases q1; cases q2; cases q3; cases q4
          exact ⟨a, dx, _, _, _, _, rfl, hB, r1, r2, r3, r4⟩
abbrev s_number_raised : Stmt := top 11
abbrev s_is_name : Stmt := top 12
abbrev s_make_a_space : Stmt := top 13
abbrev s_tuples_in_order : Stmt := top 14
abbrev s_degree_of : Stmt := top 16
abbrev s_table_of : Stmt := top 18
abbrev s_value_rows : Stmt := top 19
abbrev s_turned : Stmt := top 20
abbrev s_turned_once : Stmt := top 21
abbrev s_weighted_sum : Stmt := top 22
abbrev s_first_that_fails : Stmt := top 25
abbrev s_led_by_point : Stmt := top 27
abbrev s_points_before : Stmt := top 30
abbrev s_law_cell : Stmt := top 32
abbrev s_law_digits : Stmt := top 33
abbrev s_law_shape : Stmt := top 34
abbrev s_law_names : Stmt := top 35
abbrev s_law_points : Stmt := top 36
abbrev s_law_made : Stmt := top 37
abbrev s_law_drawn : Stmt := top 38
abbrev s_law_power_value : Stmt := top 39
abbrev s_law_value : Stmt := top 40
abbrev s_law_plus : Stmt := top 41
abbrev s_law_scaled : Stmt := top 42
abbrev s_law_minus : Stmt := top 43
abbrev s_law_constant : Stmt := top 44
abbrev s_law_unknown : Stmt := top 45
abbrev s_law_equations : Stmt := top 46
abbrev s_law_solutions : Stmt := top 47
abbrev s_law_step : Stmt := top 48
abbrev s_law_after : Stmt := top 49
abbrev s_law_reached : Stmt := top 50
abbrev s_law_start : Stmt := top 51
abbrev s_law : Stmt := top 52
abbrev s_init : Stmt := inClass (top 15) 0
abbrev s_points : Stmt := inClass (top 15) 1
abbrev s_powers : Stmt := inClass (top 15) 2
abbrev s_yinit : Stmt := inClass (top 24) 0
abbrev s_y_solutions : Stmt := inClass (top 24) 2
abbrev s_y_tables : Stmt := inClass (top 24) 3
abbrev s_mainit : Stmt := inClass (top 29) 0
abbrev s_ma_after : Stmt := inClass (top 29) 1
abbrev s_ma_reached : Stmt := inClass (top 29) 2
abbrev s_ma_way : Stmt := inClass (top 29) 3
structure Tx (K : PySem.W.Frag) (mg : Str → Option Value) (C fI : Addr) (fdI : FuncData) (D fJ : Addr) (fdJ : FuncData) (G fG : Addr) (fdG : FuncData) : Prop where
  number_raised : Tf K mg "number_raised" s_number_raised ["prime", "number", "exponent"]
  is_name : Tf K mg "is_name" s_is_name ["text"]
  make_a_space : Tf K mg "make_a_space" s_make_a_space ["prime", "names"]
  tuples_in_order : Tf K mg "tuples_in_order" s_tuples_in_order ["prime", "count"]
  degree_of : Tf K mg "degree_of" s_degree_of ["power"]
  table_of : Tf K mg "table_of" s_table_of ["space", "one"]
  value_rows : Tf K mg "value_rows" s_value_rows ["prime"]
  turned : Tf K mg "turned" s_turned ["space", "rows", "numbers"]
  turned_once : Tf K mg "turned_once" s_turned_once ["prime", "rows", "numbers"]
  weighted_sum : Tf K mg "weighted_sum" s_weighted_sum ["prime", "weights", "parts"]
  first_that_fails : Tf K mg "first_that_fails" s_first_that_fails ["tables", "at"]
  led_by_point : Tf K mg "led_by_point" s_led_by_point ["first", "polynomials"]
  points_before : Tf K mg "points_before" s_points_before ["machine"]
  law_cell : Tf K mg "_law_cell" s_law_cell ["script", "k"]
  law_digits : Tf K mg "_law_digits" s_law_digits ["cell", "many", "count"]
  law_shape : Tf K mg "_law_shape" s_law_shape ["cell"]
  law_names : Tf K mg "_law_names" s_law_names ["cell", "count"]
  law_points : Tf K mg "_law_points" s_law_points ["prime", "count"]
  law_made : Tf K mg "_law_made" s_law_made ["prime", "numbers"]
  law_drawn : Tf K mg "_law_drawn" s_law_drawn ["prime", "count", "cell"]
  law_power_value : Tf K mg "_law_power_value" s_law_power_value ["prime", "power", "point"]
  law_value : Tf K mg "_law_value" s_law_value ["prime", "one", "point"]
  law_plus : Tf K mg "_law_plus" s_law_plus ["prime", "one", "other"]
  law_scaled : Tf K mg "_law_scaled" s_law_scaled ["prime", "one", "number"]
  law_minus : Tf K mg "_law_minus" s_law_minus ["prime", "one", "other"]
  law_constant : Tf K mg "_law_constant" s_law_constant ["prime", "count", "number"]
  law_unknown : Tf K mg "_law_unknown" s_law_unknown ["count", "index"]
  law_equations : Tf K mg "_law_equations" s_law_equations ["prime", "count", "cell"]
  law_solutions : Tf K mg "_law_solutions" s_law_solutions ["prime", "count", "equations"]
  law_step : Tf K mg "_law_step" s_law_step ["prime", "count", "cell"]
  law_after : Tf K mg "_law_after" s_law_after ["prime", "step", "point"]
  law_reached : Tf K mg "_law_reached" s_law_reached ["prime", "step", "starts"]
  law_start : Tf K mg "_law_start" s_law_start ["prime", "count", "cell"]
  range : mg "range" = none
  len : mg "len" = none
  int : mg "int" = none
  all : mg "all" = none
  set : mg "set" = none
  list : mg "list" = none
  isinstance : mg "isinstance" = none
  sum : mg "sum" = none
  sorted : mg "sorted" = none
  zip : mg "zip" = none
  tuple : mg "tuple" = none
  enumerate : mg "enumerate" = none
  mPRIMES : ∃ a, mg "PRIMES" = some (.ref a) ∧ ∀ B, rep K B (.ref a) (⟨[2, 3, 5, 7]⟩ : Tup Int)
  mLETTERS : ∃ t, mg "LETTERS" = some (.str "abcdefghijklmnopqrstuvwxyz" t)
  mLETTERS_AND_DIGITS : ∃ t, mg "LETTERS_AND_DIGITS" = some (.str "abcdefghijklmnopqrstuvwxyz0123456789" t)
  mLONGEST_NAME : ∃ t, mg "LONGEST_NAME" = some (.int 12 t)
  mMOST_UNKNOWNS : ∃ t, mg "MOST_UNKNOWNS" = some (.int 8 t)
  mMOST_POINTS : ∃ t, mg "MOST_POINTS" = some (.int 256 t)
  cls : Cls K C
  na1 : NoAttr K C "prime"
  na2 : NoAttr K C "names"
  na3 : NoAttr K C "count"
  na4 : NoAttr K C "_tuples"
  gS : mg "Space" = some (.ref C)
  mkC : Mk K C fI
  fInit : Fun K "__init__" "Space.__init__" s_init fI fdI
  binds : Binds K fdI ["self", "prime", "names"] []
  pts : Tm K C "points" "Space.points" s_points ["self"]
  pws : Tm K C "powers" "Space.powers" s_powers ["self", "order"]
  gcSy : mg "System" = some (.ref D)
  mkSy : Mk K D fJ
  fInitSy : Fun K "__init__" "System.__init__" s_yinit fJ fdJ
  bindsSy : Binds K fdJ ["self", "space", "equations"] []
  clsSy : Cls K D
  noSy_space : NoAttr K D "space"
  noSy_equations : NoAttr K D "equations"
  noSy_tables : NoAttr K D "_tables"
  insSy : C8.InsC K D
  y_solutions : Tm K D "solutions" "System.solutions" s_y_solutions ["self"]
  y_tables : Tm K D "tables" "System.tables" s_y_tables ["self"]
  gcMa : mg "Machine" = some (.ref G)
  mkMa : Mk K G fG
  fInitMa : Fun K "__init__" "Machine.__init__" s_mainit fG fdG
  bindsMa : Binds K fdG ["self", "start", "step"] []
  clsMa : Cls K G
  noMa_start : NoAttr K G "start"
  noMa_step : NoAttr K G "step"
  noMa_space : NoAttr K G "space"
  noMa_nxt : NoAttr K G "_next_by_point"
  insMa : C8.InsC K G
  ma_after : Tm K G "after" "Machine.after" s_ma_after ["self", "point"]
  ma_reached : Tm K G "reached" "Machine.reached" s_ma_reached ["self"]
  ma_way : Tm K G "way" "Machine.way" s_ma_way ["self", "point"]
section
variable {K : PySem.W.Frag} {mg : Str → Option Value} {c : Ct} {env : List Slot} {pos : Pos} {C fI : Addr} {fdI : FuncData} {D fJ : Addr} {fdJ : FuncData} {G fG : Addr} {fdG : FuncData}
theorem Tx.PRIMES (T : Tx K mg C fI fdI D fJ fdJ G fG fdG) (hK : c.K = K := by rfl) (hm : c.mg = mg := by rfl) (hg : Gv c "PRIMES" := by rfl) : De c env (.Name "PRIMES" pos) (some (⟨[2, 3, 5, 7]⟩ : Tup Int)) := by
  obtain ⟨a, h1, h2⟩ := T.mPRIMES
  exact de_glob (v := .ref a) hg (by rw [hm]; exact h1) rfl (fun B => by rw [hK]; exact h2 B)
theorem Tx.LETTERS (T : Tx K mg C fI fdI D fJ fdJ G fG fdG) (hK : c.K = K := by rfl) (hm : c.mg = mg := by rfl) (hg : Gv c "LETTERS" := by rfl) : De c env (.Name "LETTERS" pos) (some ("abcdefghijklmnopqrstuvwxyz" : Str)) := by
  obtain ⟨t, h⟩ := T.mLETTERS
  exact de_glob (v := .str "abcdefghijklmnopqrstuvwxyz") hg (by rw [hm]; exact h) ⟨t, rfl⟩ (fun B => rfl)
theorem Tx.LETTERS_AND_DIGITS (T : Tx K mg C fI fdI D fJ fdJ G fG fdG) (hK : c.K = K := by rfl) (hm : c.mg = mg := by rfl) (hg : Gv c "LETTERS_AND_DIGITS" := by rfl) : De c env (.Name "LETTERS_AND_DIGITS" pos) (some ("abcdefghijklmnopqrstuvwxyz0123456789" : Str)) := by
  obtain ⟨t, h⟩ := T.mLETTERS_AND_DIGITS
  exact de_glob (v := .str "abcdefghijklmnopqrstuvwxyz0123456789") hg (by rw [hm]; exact h) ⟨t, rfl⟩ (fun B => rfl)
theorem Tx.LONGEST_NAME (T : Tx K mg C fI fdI D fJ fdJ G fG fdG) (hK : c.K = K := by rfl) (hm : c.mg = mg := by rfl) (hg : Gv c "LONGEST_NAME" := by rfl) : De c env (.Name "LONGEST_NAME" pos) (some (12 : Int)) := by
  obtain ⟨t, h⟩ := T.mLONGEST_NAME
  exact de_glob (v := .int 12) hg (by rw [hm]; exact h) ⟨t, rfl⟩ (fun B => rfl)
theorem Tx.MOST_UNKNOWNS (T : Tx K mg C fI fdI D fJ fdJ G fG fdG) (hK : c.K = K := by rfl) (hm : c.mg = mg := by rfl) (hg : Gv c "MOST_UNKNOWNS" := by rfl) : De c env (.Name "MOST_UNKNOWNS" pos) (some (8 : Int)) := by
  obtain ⟨t, h⟩ := T.mMOST_UNKNOWNS
  exact de_glob (v := .int 8) hg (by rw [hm]; exact h) ⟨t, rfl⟩ (fun B => rfl)
theorem Tx.MOST_POINTS (T : Tx K mg C fI fdI D fJ fdJ G fG fdG) (hK : c.K = K := by rfl) (hm : c.mg = mg := by rfl) (hg : Gv c "MOST_POINTS" := by rfl) : De c env (.Name "MOST_POINTS" pos) (some (256 : Int)) := by
  obtain ⟨t, h⟩ := T.mMOST_POINTS
  exact de_glob (v := .int 256) hg (by rw [hm]; exact h) ⟨t, rfl⟩ (fun B => rfl)
theorem Tx.sp_prime (T : Tx K mg C fI fdI D fJ fdJ G fG fdG) : HasF (α := SpaceD C) (β := Int) K "prime" (fun x => x.prime) := fun B v x ⟨a, dx, u1, u2, u3, u4, h, s, r1, r2, r3, r4⟩ => ⟨a, C, dx, _, u1, h, s, T.cls, T.na1, rfl, r1⟩
theorem Tx.sp_names (T : Tx K mg C fI fdI D fJ fdJ G fG fdG) : HasF (α := SpaceD C) (β := List Str) K "names" (fun x => x.names) := fun B v x ⟨a, dx, u1, u2, u3, u4, h, s, r1, r2, r3, r4⟩ => ⟨a, C, dx, _, u2, h, s, T.cls, T.na2, rfl, r2⟩
theorem Tx.sp_count (T : Tx K mg C fI fdI D fJ fdJ G fG fdG) : HasF (α := SpaceD C) (β := Int) K "count" (fun x => x.count) := fun B v x ⟨a, dx, u1, u2, u3, u4, h, s, r1, r2, r3, r4⟩ => ⟨a, C, dx, _, u3, h, s, T.cls, T.na3, rfl, r3⟩
theorem Tx.sp_tuples (T : Tx K mg C fI fdI D fJ fdJ G fG fdG) : HasF (α := SpaceD C) (β := List (Tup Int)) K "_tuples" (fun x => x.tuples) := fun B v x ⟨a, dx, u1, u2, u3, u4, h, s, r1, r2, r3, r4⟩ => ⟨a, C, dx, _, u4, h, s, T.cls, T.na4, rfl, r4⟩
end
section
variable {P : Program} {w : World} {K : PySem.W.Frag} {mg : Str → Option Value} {base : Heap} {C fI : Addr} {fdI : FuncData} {D fJ : Addr} {fdJ : FuncData} {G fG : Addr} {fdG : FuncData}
theorem Tx.sy_space (T : Tx K mg C fI fdI D fJ fdJ G fG fdG) : HasF (α := (SysD C D)) (β := (SpaceD C)) K "space" (fun x => x.space) := fun B v x ⟨a, dx, u1, u2, u3, h, s, r1, r2, r3⟩ => ⟨a, D, dx, _, u1, h, s, T.clsSy, T.noSy_space, rfl, r1⟩
theorem Tx.sy_equations (T : Tx K mg C fI fdI D fJ fdJ G fG fdG) : HasF (α := (SysD C D)) (β := (List (Tup ((Tup Int) × Int)))) K "equations" (fun x => x.equations) := fun B v x ⟨a, dx, u1, u2, u3, h, s, r1, r2, r3⟩ => ⟨a, D, dx, _, u2, h, s, T.clsSy, T.noSy_equations, rfl, r2⟩
theorem Tx.sy_tables (T : Tx K mg C fI fdI D fJ fdJ G fG fdG) : HasF (α := (SysD C D)) (β := (Tup (Tup Int))) K "_tables" (fun x => x.tables) := fun B v x ⟨a, dx, u1, u2, u3, h, s, r1, r2, r3⟩ => ⟨a, D, dx, _, u3, h, s, T.clsSy, T.noSy_tables, rfl, r3⟩
theorem fldNoSy {K : PySem.W.Frag} {x : Str} (h : ∀ u1 u2 u3 : V, ([("space", u1), ("equations", u2), ("_tables", u3)] : List (Str × V)).lookup x = none) : FldNo K D (SysD C D) x := fun B v y ⟨a, dx, u1, u2, u3, hv, s, _⟩ => ⟨a, dx, _, hv, s, h u1 u2 u3⟩
theorem Tx.ma_start (T : Tx K mg C fI fdI D fJ fdJ G fG fdG) : HasF (α := (MacD C D G)) (β := (SysD C D)) K "start" (fun x => x.start) := fun B v x ⟨a, dx, u1, u2, u3, u4, h, s, r1, r2, r3, r4⟩ => ⟨a, G, dx, _, u1, h, s, T.clsMa, T.noMa_start, rfl, r1⟩
theorem Tx.ma_step (T : Tx K mg C fI fdI D fJ fdJ G fG fdG) : HasF (α := (MacD C D G)) (β := (List (Tup ((Tup Int) × Int)))) K "step" (fun x => x.step) := fun B v x ⟨a, dx, u1, u2, u3, u4, h, s, r1, r2, r3, r4⟩ => ⟨a, G, dx, _, u2, h, s, T.clsMa, T.noMa_step, rfl, r2⟩
theorem Tx.ma_space (T : Tx K mg C fI fdI D fJ fdJ G fG fdG) : HasF (α := (MacD C D G)) (β := (SpaceD C)) K "space" (fun x => x.space) := fun B v x ⟨a, dx, u1, u2, u3, u4, h, s, r1, r2, r3, r4⟩ => ⟨a, G, dx, _, u3, h, s, T.clsMa, T.noMa_space, rfl, r3⟩
theorem Tx.ma_nxt (T : Tx K mg C fI fdI D fJ fdJ G fG fdG) : HasF (α := (MacD C D G)) (β := (Dct (Tup Int))) K "_next_by_point" (fun x => x.nxt) := fun B v x ⟨a, dx, u1, u2, u3, u4, h, s, r1, r2, r3, r4⟩ => ⟨a, G, dx, _, u4, h, s, T.clsMa, T.noMa_nxt, rfl, r4⟩
theorem fldNoMa {K : PySem.W.Frag} {x : Str} (h : ∀ u1 u2 u3 u4 : V, ([("start", u1), ("step", u2), ("space", u3), ("_next_by_point", u4)] : List (Str × V)).lookup x = none) : FldNo K G (MacD C D G) x := fun B v y ⟨a, dx, u1, u2, u3, u4, hv, s, _⟩ => ⟨a, dx, _, hv, s, h u1 u2 u3 u4⟩

theorem sc_is_name : FnScope ["text", "sign"] ["text"] (defScope s_is_name) := ⟨rfl, rfl, rfl, by decide +kernel, rfl, by decide +kernel, by decide +kernel⟩
def fl_is_name (p_text : Str) : Fl Unit Unit Bool := (Fl.bindO (orO (((chO (fun a_1 b_2 => some (decide (a_1 ≤ b_2))) (fun a_1 b_2 => some (decide (a_1 ≤ b_2))) (some (1 : Int)) (if len1 p_text.length = true then some (p_text.length : Int) else none) (some (12 : Int)))).bind fun v_3 => some (!v_3)) (((atS p_text (0 : Int))).bind fun v_4 => ((some ("abcdefghijklmnopqrstuvwxyz" : Str))).bind fun v_5 => ((inS v_4 v_5).map (!·)))) fun v_7 => Fl.bind (if v_7 = true then ((Fl.bindO (some false) fun r_6 => .rt r_6) : Fl Unit Unit Bool) else (.nx ())) fun s_8 => (Fl.bindO (((((some (signs p_text))).bind fun xs_10 => (capI xs_10).bind fun xs_10 => mapO (fun (i_9 : Str) => (inS i_9 ("abcdefghijklmnopqrstuvwxyz0123456789" : Str))) xs_10)).bind fun v_11 => some (v_11.all id)) fun r_12 => .rt r_12))
def m_is_name (p_text : Str) : Option Bool := (fl_is_name p_text).fin none
theorem b_is_name (T : Tx K mg C fI fdI D fJ fdJ G fG fdG) (p : Str × Unit) : DeS (ctOf P w K mg base 0 ["text", "sign"] (defScope s_is_name)) (Pk.sl p ++ List.replicate (2 - (Pk.sl p).length) .any) (defBody s_is_name) (fun _ : Unit => List.replicate 2 .any) (fun _ : Unit => []) (fl_is_name p.1) := by
  obtain ⟨p_text, _⟩ := p
  unfold fl_is_name
  exact (ds_if (jk := (fun (s : Unit) => ([.val (p_text : Str), .any] : List Slot))) (mt := (orO (((chO (fun a_1 b_2 => some (decide (a_1 ≤ b_2))) (fun a_1 b_2 => some (decide (a_1 ≤ b_2))) (some (1 : Int)) (if len1 p_text.length = true then some (p_text.length : Int) else none) (some (12 : Int)))).bind fun v_3 => some (!v_3)) (((atS p_text (0 : Int))).bind fun v_4 => ((some ("abcdefghijklmnopqrstuvwxyz" : Str))).bind fun v_5 => ((inS v_4 v_5).map (!·))))) (DeW.t (dw_or (dt_not (m := (chO (fun a_1 b_2 => some (decide (a_1 ≤ b_2))) (fun a_1 b_2 => some (decide (a_1 ≤ b_2))) (some (1 : Int)) (if len1 p_text.length = true then some (p_text.length : Int) else none) (some (12 : Int)))) (dt_chain (ma := (some (1 : Int))) (mb := (if len1 p_text.length = true then some (p_text.length : Int) else none)) (mc := (some (12 : Int))) (f := (fun a_1 b_2 => some (decide (a_1 ≤ b_2)))) (g := (fun a_1 b_2 => some (decide (a_1 ≤ b_2)))) cmp_le cmp_le de_int (de_lenS (m := (some p_text)) T.len (de_var 0 rfl rfl (by first | exact Or.inl rfl | exact Or.inr (Or.inl rfl) | exact Or.inr (Or.inr rfl)))) (T.LONGEST_NAME))) (dw_or1 (dt_c1 (ma := (atS p_text (0 : Int))) (mb := (some ("abcdefghijklmnopqrstuvwxyz" : Str))) (f := fun (x : Str) (y : Str) => ((inS x y).map (!·))) cmp_ninS (de_ixSP (de_var 0 rfl rfl (by first | exact Or.inl rfl | exact Or.inr (Or.inl rfl) | exact Or.inr (Or.inr rfl))) de_int) (T.LETTERS))))) (ds_ret (m := (some false)) de_bl) (ds_end (s := ()) (.same (.any .nil))) (fun s_8 => (ds_ret (m := (((((some (signs p_text))).bind fun xs_10 => (capI xs_10).bind fun xs_10 => mapO (fun (i_9 : Str) => (inS i_9 ("abcdefghijklmnopqrstuvwxyz0123456789" : Str))) xs_10)).bind fun v_11 => some (v_11.all id))) (de_all (m := (((some (signs p_text))).bind fun xs_10 => (capI xs_10).bind fun xs_10 => mapO (fun (i_9 : Str) => (inS i_9 ("abcdefghijklmnopqrstuvwxyz0123456789" : Str))) xs_10)) T.all (DeN.l (dn_comp (own := [("sign", 1)]) sc_is_name.nd (di_str (m := (some p_text)) (de_var 0 rfl rfl (by first | exact Or.inl rfl | exact Or.inr (Or.inl rfl) | exact Or.inr (Or.inr rfl)))) (blkOk_by (by dsimp only [ctOf, Ct.blk]; decide +kernel)) (dg_name 1 sc_is_name.nd rfl (by first | exact Or.inl rfl | exact Or.inr rfl) (by first | exact Or.inl rfl | exact Or.inr rfl)) (by decide) (fun i_9 => (de_cP (f := fun (x : Str) (y : Str) => (inS x y)) cmp_inS (de_var 1 rfl rfl (by first | exact Or.inl rfl | exact Or.inr (Or.inl rfl) | exact Or.inr (Or.inr rfl))) (T.LETTERS_AND_DIGITS)))))))))
theorem g_is_name (T : Tx K mg C fI fdI D fJ fdJ G fG fdG) : Gd P w K mg base 1 "is_name" (fun p : Str × Unit => m_is_name p.1) := T.is_name.gd sc_is_name (by decide) (fun _ => rfl) (fun _ h => nomatch h) (b_is_name T)

theorem sc_make_a_space : FnScope ["prime", "names", "many", "_", "name"] ["prime", "names"] (defScope s_make_a_space) := ⟨rfl, rfl, rfl, by decide +kernel, rfl, by decide +kernel, by decide +kernel⟩
def fl_make_a_space (p_prime : Int) (p_names : (List Str)) : Fl Unit Unit Bool := (Fl.bindO (orO (some (!decide (p_prime ∈ (⟨[2, 3, 5, 7]⟩ : Tup Int).l))) (((chO (fun a_13 b_14 => some (decide (a_13 ≤ b_14))) (fun a_13 b_14 => some (decide (a_13 ≤ b_14))) (some (1 : Int)) (some (p_names.length : Int)) (some (8 : Int)))).bind fun v_15 => some (!v_15))) fun v_17 => Fl.bind (if v_17 = true then ((Fl.bindO (some false) fun r_16 => .rt r_16) : Fl Unit Unit Bool) else (.nx ())) fun s_18 => (Fl.bindO (orO (((if p_names.length ≤ 4000 then some ((uniq p_names).length : Int) else none)).bind fun v_19 => ((some (p_names.length : Int))).bind fun v_20 => some (decide (v_19 < v_20))) (((((((some p_names)).bind fun xs_22 => (capI xs_22).bind fun xs_22 => mapO (fun (i_21 : Str) => (m_is_name i_21)) xs_22)).bind fun v_23 => some (v_23.all id))).bind fun v_24 => some (!v_24))) fun v_26 => Fl.bind (if v_26 = true then ((Fl.bindO (some false) fun r_25 => .rt r_25) : Fl Unit Unit Bool) else (.nx ())) fun s_27 => (Fl.bindO (some (1 : Int)) fun many_28 => (Fl.bindO (some p_names) fun xs_34 => Fl.bind (Fl.loop (fun (i_30 : Str) (s_29 : (Int)) => ((Fl.bindO (mulI s_29 p_prime) fun many_31 => (.nx many_31)) : Fl (Int) (Int) Bool)) xs_34 many_28 : Fl (Int) Unit Bool) fun s_32 => (Fl.bindO (some (decide (s_32 ≤ (256 : Int)))) fun r_33 => .rt r_33)))))
def m_make_a_space (p_prime : Int) (p_names : (List Str)) : Option Bool := (fl_make_a_space p_prime p_names).fin none
theorem b_make_a_space (T : Tx K mg C fI fdI D fJ fdJ G fG fdG) (p : Int × (List Str) × Unit) : DeS (ctOf P w K mg base 1 ["prime", "names", "many", "_", "name"] (defScope s_make_a_space)) (Pk.sl p ++ List.replicate (5 - (Pk.sl p).length) .any) (defBody s_make_a_space) (fun _ : Unit => List.replicate 5 .any) (fun _ : Unit => []) (fl_make_a_space p.1 p.2.1) := by
  obtain ⟨p_prime, p_names, _⟩ := p
  unfold fl_make_a_space
  exact (ds_if (jk := (fun (s : Unit) => ([.val (p_prime : Int), .val (p_names : (List Str)), .any, .any, .any] : List Slot))) (mt := (orO (some (!decide (p_prime ∈ (⟨[2, 3, 5, 7]⟩ : Tup Int).l))) (((chO (fun a_13 b_14 => some (decide (a_13 ≤ b_14))) (fun a_13 b_14 => some (decide (a_13 ≤ b_14))) (some (1 : Int)) (some (p_names.length : Int)) (some (8 : Int)))).bind fun v_15 => some (!v_15)))) (DeW.t (dw_or (dt_c1P (f := fun (x : Int) (y : (Tup Int)) => some (!decide (x ∈ y.l))) cmp_ninU (de_var 0 rfl rfl (by first | exact Or.inl rfl | exact Or.inr (Or.inl rfl) | exact Or.inr (Or.inr rfl))) T.PRIMES) (dw_or1 (dt_not (m := (chO (fun a_13 b_14 => some (decide (a_13 ≤ b_14))) (fun a_13 b_14 => some (decide (a_13 ≤ b_14))) (some (1 : Int)) (some (p_names.length : Int)) (some (8 : Int)))) (dt_chain (ma := (some (1 : Int))) (mb := (some (p_names.length : Int))) (mc := (some (8 : Int))) (f := (fun a_13 b_14 => some (decide (a_13 ≤ b_14)))) (g := (fun a_13 b_14 => some (decide (a_13 ≤ b_14)))) cmp_le cmp_le de_int (de_lenLP  T.len (De.l (de_var 1 rfl rfl (by first | exact Or.inl rfl | exact Or.inr (Or.inl rfl) | exact Or.inr (Or.inr rfl))))) (T.MOST_UNKNOWNS)))))) (ds_ret (m := (some false)) de_bl) (ds_end (s := ()) (.same (.same (.any (.any (.any .nil)))))) (fun s_18 => (ds_if (jk := (fun (s : Unit) => ([.val (p_prime : Int), .val (p_names : (List Str)), .any, .any, .any] : List Slot))) (mt := (orO (((if p_names.length ≤ 4000 then some ((uniq p_names).length : Int) else none)).bind fun v_19 => ((some (p_names.length : Int))).bind fun v_20 => some (decide (v_19 < v_20))) (((((((some p_names)).bind fun xs_22 => (capI xs_22).bind fun xs_22 => mapO (fun (i_21 : Str) => (m_is_name i_21)) xs_22)).bind fun v_23 => some (v_23.all id))).bind fun v_24 => some (!v_24)))) (DeW.t (dw_or (dt_c1 (ma := (if p_names.length ≤ 4000 then some ((uniq p_names).length : Int) else none)) (mb := (some (p_names.length : Int))) (f := fun (x : Int) (y : Int) => some (decide (x < y))) cmp_lt (de_lenSet T.len T.set (De.l (de_var 1 rfl rfl (by first | exact Or.inl rfl | exact Or.inr (Or.inl rfl) | exact Or.inr (Or.inr rfl))))) (de_lenLP  T.len (De.l (de_var 1 rfl rfl (by first | exact Or.inl rfl | exact Or.inr (Or.inl rfl) | exact Or.inr (Or.inr rfl)))))) (dw_or1 (dt_not (m := (((((some p_names)).bind fun xs_22 => (capI xs_22).bind fun xs_22 => mapO (fun (i_21 : Str) => (m_is_name i_21)) xs_22)).bind fun v_23 => some (v_23.all id))) (dt_of (m := (((((some p_names)).bind fun xs_22 => (capI xs_22).bind fun xs_22 => mapO (fun (i_21 : Str) => (m_is_name i_21)) xs_22)).bind fun v_23 => some (v_23.all id))) (de_all (m := (((some p_names)).bind fun xs_22 => (capI xs_22).bind fun xs_22 => mapO (fun (i_21 : Str) => (m_is_name i_21)) xs_22)) T.all (DeN.l (dn_comp (own := [("name", 4)]) sc_make_a_space.nd (di_list (m := (some p_names)) (de_var 1 rfl rfl (by first | exact Or.inl rfl | exact Or.inr (Or.inl rfl) | exact Or.inr (Or.inr rfl)))) (blkOk_by (by dsimp only [ctOf, Ct.blk]; decide +kernel)) (dg_name 4 sc_make_a_space.nd rfl (by first | exact Or.inl rfl | exact Or.inr rfl) (by first | exact Or.inl rfl | exact Or.inr rfl)) (by decide) (fun i_21 => (de_call1P (a1 := i_21) (f := fun p : Str × Unit => m_is_name p.1) ((g_is_name T).df) (de_var 4 rfl rfl (by first | exact Or.inl rfl | exact Or.inr (Or.inl rfl) | exact Or.inr (Or.inr rfl))))))))))))) (ds_ret (m := (some false)) de_bl) (ds_end (s := ()) (.same (.same (.any (.any (.any .nil)))))) (fun s_27 => (ds_set (i := 2) (as_e (m := (some (1 : Int))) 2 de_int sc_make_a_space.nd rfl (by first | exact Or.inl rfl | exact Or.inr rfl) (by first | exact Or.inl rfl | exact Or.inr rfl) (fun _ _ => rfl)) (fun many_28 => (ds_for (sk := (fun (s : (Int)) => ([.val (p_prime : Int), .val (p_names : (List Str)), .val (s : Int), .any, .any] : List Slot))) (s0 := many_28) (di_list (m := (some p_names)) (de_var 1 rfl rfl (by first | exact Or.inl rfl | exact Or.inr (Or.inl rfl) | exact Or.inr (Or.inr rfl)))) (dg_name 3 sc_make_a_space.nd rfl (by first | exact Or.inl rfl | exact Or.inr rfl) (by first | exact Or.inl rfl | exact Or.inr rfl)) (.same (.same (.same (.any (.any .nil))))) (fun i_30 s_29 => (ds_set (i := 2) (as_e (m := (mulI s_29 p_prime)) 2 (de_mulP (de_var 2 rfl rfl (by first | exact Or.inl rfl | exact Or.inr (Or.inl rfl) | exact Or.inr (Or.inr rfl))) (de_var 0 rfl rfl (by first | exact Or.inl rfl | exact Or.inr (Or.inl rfl) | exact Or.inr (Or.inr rfl)))) sc_make_a_space.nd rfl (by first | exact Or.inl rfl | exact Or.inr rfl) (by first | exact Or.inl rfl | exact Or.inr rfl) (fun _ _ => rfl)) (fun many_31 => (ds_end (s := many_31) (.same (.same (.same (.any (.any .nil))))))))) (fun s_32 => (ds_ret (m := (some (decide (s_32 ≤ (256 : Int))))) (de_cP (f := fun (x : Int) (y : Int) => some (decide (x ≤ y))) cmp_le (de_var 2 rfl rfl (by first | exact Or.inl rfl | exact Or.inr (Or.inl rfl) | exact Or.inr (Or.inr rfl))) (T.MOST_POINTS)))))))))))
theorem g_make_a_space (T : Tx K mg C fI fdI D fJ fdJ G fG fdG) : Gd P w K mg base 2 "make_a_space" (fun p : Int × (List Str) × Unit => m_make_a_space p.1 p.2.1) := T.make_a_space.gd sc_make_a_space (by decide) (fun _ => rfl) (fun _ h => nomatch h) (b_make_a_space T)

theorem sc_tuples_in_order : FnScope ["prime", "count", "tuples", "_", "start", "number"] ["prime", "count"] (defScope s_tuples_in_order) := ⟨rfl, rfl, rfl, by decide +kernel, rfl, by decide +kernel, by decide +kernel⟩
def fl_tuples_in_order (p_prime : Int) (p_count : Int) : Fl Unit Unit (List (Tup Int)) := (Fl.bindO (some ([(⟨([] : List Int)⟩ : Tup Int)] : List (Tup Int))) fun tuples_35 => (Fl.bindO (rangeI p_count) fun xs_44 => Fl.bind (Fl.loop (fun (i_37 : Int) (s_36 : ((List (Tup Int)))) => ((Fl.bindO (((some s_36)).bind fun xs_41 => (mapO2 (fun (i_39 : (Tup Int)) => (rangeI p_prime)) (fun (i_39 : (Tup Int)) (j_40 : Int) => (catU i_39 (⟨([j_40] : List Int)⟩ : Tup Int))) xs_41).bind capI) fun tuples_38 => (.nx tuples_38)) : Fl ((List (Tup Int))) ((List (Tup Int))) (List (Tup Int)))) xs_44 tuples_35 : Fl ((List (Tup Int))) Unit (List (Tup Int))) fun s_42 => (Fl.bindO (some s_42) fun r_43 => .rt r_43)))
def m_tuples_in_order (p_prime : Int) (p_count : Int) : Option (List (Tup Int)) := (fl_tuples_in_order p_prime p_count).fin none
theorem b_tuples_in_order (T : Tx K mg C fI fdI D fJ fdJ G fG fdG) (p : Int × Int × Unit) : DeS (ctOf P w K mg base 0 ["prime", "count", "tuples", "_", "start", "number"] (defScope s_tuples_in_order)) (Pk.sl p ++ List.replicate (6 - (Pk.sl p).length) .any) (defBody s_tuples_in_order) (fun _ : Unit => List.replicate 6 .any) (fun _ : Unit => []) (fl_tuples_in_order p.1 p.2.1) := by
  obtain ⟨p_prime, p_count, _⟩ := p
  unfold fl_tuples_in_order
  exact (ds_set (i := 2) (as_e (m := (some ([(⟨([] : List Int)⟩ : Tup Int)] : List (Tup Int)))) 2 (DeN.de (dn_lstP (di_consP (de_tupHP di_nil) di_nil))) sc_tuples_in_order.nd rfl (by first | exact Or.inl rfl | exact Or.inr rfl) (by first | exact Or.inl rfl | exact Or.inr rfl) (fun _ _ => rfl)) (fun tuples_35 => (ds_for (sk := (fun (s : ((List (Tup Int)))) => ([.val (p_prime : Int), .val (p_count : Int), .val (s : (List (Tup Int))), .any, .any, .any] : List Slot))) (s0 := tuples_35) (di_rangeP  T.range (de_var 1 rfl rfl (by first | exact Or.inl rfl | exact Or.inr (Or.inl rfl) | exact Or.inr (Or.inr rfl)))) (dg_name 3 sc_tuples_in_order.nd rfl (by first | exact Or.inl rfl | exact Or.inr rfl) (by first | exact Or.inl rfl | exact Or.inr rfl)) (.same (.same (.same (.any (.any (.any .nil)))))) (fun i_37 s_36 => (ds_set (i := 2) (AsN.toE (by first | exact (as_comp2 (own := [("start", 4), ("number", 5)]) (vs1 := [5]) 2 sc_tuples_in_order.nd rfl rfl rfl (by decide +kernel) (by decide +kernel) (di_list (m := (some s_36)) (de_var 2 rfl rfl (by first | exact Or.inl rfl | exact Or.inr (Or.inl rfl) | exact Or.inr (Or.inr rfl)))) (blkOk_by (by dsimp only [ctOf, Ct.blk]; decide +kernel)) (by decide) (dg_name 4 sc_tuples_in_order.nd rfl (by first | exact Or.inl rfl | exact Or.inr rfl) (by first | exact Or.inl rfl | exact Or.inr rfl)) (by decide) (fun i_39 => (di_rangeP  T.range (de_var 0 rfl rfl (by first | exact Or.inl rfl | exact Or.inr (Or.inl rfl) | exact Or.inr (Or.inr rfl))))) (dg_name 5 sc_tuples_in_order.nd rfl (by first | exact Or.inl rfl | exact Or.inr rfl) (by first | exact Or.inl rfl | exact Or.inr rfl)) (by decide) (fun i_39 j_40 => (de_catUP (de_var 4 rfl rfl (by first | exact Or.inl rfl | exact Or.inr (Or.inl rfl) | exact Or.inr (Or.inr rfl))) (de_tupHP (di_consP (de_var 5 rfl rfl (by first | exact Or.inl rfl | exact Or.inr (Or.inl rfl) | exact Or.inr (Or.inr rfl))) di_nil))))) | exact (as_n 2 (dn_comp2 (own := [("start", 4), ("number", 5)]) (vs1 := [5]) sc_tuples_in_order.nd (di_list (m := (some s_36)) (de_var 2 rfl rfl (by first | exact Or.inl rfl | exact Or.inr (Or.inl rfl) | exact Or.inr (Or.inr rfl)))) (blkOk_by (by dsimp only [ctOf, Ct.blk]; decide +kernel)) (by decide) (dg_name 4 sc_tuples_in_order.nd rfl (by first | exact Or.inl rfl | exact Or.inr rfl) (by first | exact Or.inl rfl | exact Or.inr rfl)) (by decide) (fun i_39 => (di_rangeP  T.range (de_var 0 rfl rfl (by first | exact Or.inl rfl | exact Or.inr (Or.inl rfl) | exact Or.inr (Or.inr rfl))))) (dg_name 5 sc_tuples_in_order.nd rfl (by first | exact Or.inl rfl | exact Or.inr rfl) (by first | exact Or.inl rfl | exact Or.inr rfl)) (by decide) (fun i_39 j_40 => (de_catUP (de_var 4 rfl rfl (by first | exact Or.inl rfl | exact Or.inr (Or.inl rfl) | exact Or.inr (Or.inr rfl))) (de_tupHP (di_consP (de_var 5 rfl rfl (by first | exact Or.inl rfl | exact Or.inr (Or.inl rfl) | exact Or.inr (Or.inr rfl))) di_nil))))) sc_tuples_in_order.nd rfl (by first | exact Or.inl rfl | exact Or.inr rfl) (by first | exact Or.inl rfl | exact Or.inr rfl) (sw_cell rfl)))) (fun tuples_38 => (ds_end (s := tuples_38) (.same (.same (.same (.any (.any (.any .nil)))))))))) (fun s_42 => (ds_ret (m := (some s_42)) (de_var 2 rfl rfl (by first | exact Or.inl rfl | exact Or.inr (Or.inl rfl) | exact Or.inr (Or.inr rfl))))))))
theorem g_tuples_in_order (T : Tx K mg C fI fdI D fJ fdJ G fG fdG) : Gd P w K mg base 1 "tuples_in_order" (fun p : Int × Int × Unit => m_tuples_in_order p.1 p.2.1) := T.tuples_in_order.gd sc_tuples_in_order (by decide) (fun _ => rfl) (fun _ h => nomatch h) (b_tuples_in_order T)

theorem fldNo (T : Tx K mg C fI fdI D fJ fdJ G fG fdG) {x : Str} (h : ∀ u1 u2 u3 u4 : V, ([("prime", u1), ("names", u2), ("count", u3), ("_tuples", u4)] : List (Str × V)).lookup x = none) : FldNo K C (SpaceD C) x := fun B v y ⟨a, dx, u1, u2, u3, u4, hv, s, _⟩ => ⟨a, dx, _, hv, s, h u1 u2 u3 u4⟩

theorem sc_init : FnScope ["self", "prime", "names"] ["self", "prime", "names"] (defScope s_init) := ⟨rfl, rfl, rfl, by decide +kernel, rfl, by decide +kernel, by decide +kernel⟩
def fl_init (C : Addr) (p : Int) (ns : List Str) : Fl (SpaceD C) Unit Unit :=
  Fl.bindO ((m_make_a_space p ns).bind fun v => some (!v)) fun v => Fl.bind (if v = true then (.err : Fl Unit Unit Unit) else .nx ()) fun _ => Fl.bindO (some p) fun y1 => Fl.bindO (some ns) fun y2 => Fl.bindO (some (ns.length : Int)) fun y3 => Fl.bindO (m_tuples_in_order p (ns.length : Int)) fun y4 => .nx ⟨y1, y2, y3, y4⟩
theorem b_init (T : Tx K mg C fI fdI D fJ fdJ G fG fdG) (q : Int × List Str × Unit) (y : Addr) : DeS (ctOf P w K mg base 2 ["self", "prime", "names"] (defScope s_init)) (.ins C y [] :: (Pk.sl q ++ List.replicate (3 - (Pk.sl q).length - 1) .any)) (defBody s_init) (fun s : SpaceD C => [.ins C y (fl_fields s), .any, .any]) (fun _ : Unit => []) (fl_init C q.1 q.2.1) := by
  obtain ⟨p, ns, _⟩ := q
  unfold fl_init
  refine ds_if (jk := fun _ : Unit => [.ins C y [], .val p, .val ns]) (mt := (m_make_a_space p ns).bind fun v => some (!v)) (dt_not (dt_of (de_call2P (a1 := p) (a2 := ns) (f := fun p : Int × List Str × Unit => m_make_a_space p.1 p.2.1) ((g_make_a_space T).df) (de_var 1 rfl rfl (Or.inl rfl)) (de_var 2 rfl rfl (Or.inl rfl))))) ds_err (ds_end (s := ()) (.same (.same (.same .nil)))) (fun _ => ?_)
  refine ds_fld (l := []) 0 rfl rfl (Or.inl rfl) T.cls T.na1 (Nat.le_of_ble_eq_true rfl) (by dsimp only [List.map]; decide) (de_var 1 rfl rfl (Or.inl rfl)) (fun y1 => ?_) (fun _ _ => rfl)
  refine ds_fld (l := [("prime", .val y1)]) 0 rfl rfl (Or.inl rfl) T.cls T.na2 (Nat.le_of_ble_eq_true rfl) (by dsimp only [List.map]; decide) (DeN.de (dn_list T.list (De.l (de_var 2 rfl rfl (Or.inl rfl))))) (fun y2 => ?_) (fun _ _ => rfl)
  refine ds_fld (l := [("prime", .val y1), ("names", .val y2)]) 0 rfl rfl (Or.inl rfl) T.cls T.na3 (Nat.le_of_ble_eq_true rfl) (by dsimp only [List.map]; decide) (de_lenLP T.len (De.l (de_var 2 rfl rfl (Or.inl rfl)))) (fun y3 => ?_) (fun _ _ => rfl)
  refine ds_fld (m := m_tuples_in_order p (ns.length : Int)) (l := [("prime", .val y1), ("names", .val y2), ("count", .val y3)]) 0 rfl rfl (Or.inl rfl) T.cls T.na4 (Nat.le_of_ble_eq_true rfl) (by dsimp only [List.map]; decide) ?a4 (fun y4 => ?b4) (fun _ _ => rfl)
  case a4 => exact de_call2P (a1 := p) (a2 := (ns.length : Int)) (f := fun p : Int × Int × Unit => m_tuples_in_order p.1 p.2.1) ((g_tuples_in_order T).df) (de_var 1 rfl rfl (Or.inl rfl)) (de_lenLP T.len (De.l (de_var 2 rfl rfl (Or.inl rfl))))
  case b4 => exact ds_end (s := (⟨y1, y2, y3, y4⟩ : SpaceD C)) (.same (.any (.any .nil)))
def m_space (C : Addr) (p : Int) (ns : List Str) : Option (SpaceD C) := initG id (fl_init C p ns)
theorem g_space (T : Tx K mg C fI fdI D fJ fdJ G fG fdG) : Gk P w K mg base 3 "Space" C (fl_fields (C := C)) (fun q : Int × List Str × Unit => m_space C q.1 q.2.1) :=
  ⟨fI, fdI, _, init_okG (P := P) (w := w) (mg := mg) (base := base) (C := C) (fl := fl_fields) (k := 2) (mk := fun y s => [.ins C y (fl_fields s), .any, .any]) (lk := fun _ : Unit => []) (m := fun q : Int × List Str × Unit => fl_init C q.1 q.2.1) (r := id) T.fInit sc_init (by decide) (fun _ => rfl) (fun _ _ => rfl) (fun q y => b_init T q y), T.gS, T.mkC, T.binds⟩

theorem sc_points : FnScope ["self"] ["self"] (defScope s_points) := ⟨rfl, rfl, rfl, by decide +kernel, rfl, by decide +kernel, by decide +kernel⟩
def fl_points (x : SpaceD C) : Fl Unit Unit (List (Tup Int)) := Fl.bindO (some x.tuples) fun r => .rt r
def m_points (x : SpaceD C) : Option (List (Tup Int)) := (fl_points x).fin none
theorem b_points (T : Tx K mg C fI fdI D fJ fdJ G fG fdG) (p : SpaceD C × Unit) : DeSN (ctOf P w K mg base 0 ["self"] (defScope s_points)) (Pk.sl p ++ List.replicate (1 - (Pk.sl p).length) .any) (defBody s_points) (fun _ : Unit => List.replicate 1 .any) (fun _ : Unit => []) (fl_points p.1) := by
  obtain ⟨x, _⟩ := p
  unfold fl_points
  exact dsn_ret (m := some x.tuples) (dn_list T.list (De.l (de_fldP (x := x) T.sp_tuples (de_var 0 rfl rfl (Or.inl rfl)))))
theorem g_points (T : Tx K mg C fI fdI D fJ fdJ G fG fdG) : GmN P w K mg base 1 (SpaceD C) "points" (fun p : SpaceD C × Unit => m_points p.1) := T.pts.gmN T.cls (fldNo T fun _ _ _ _ => rfl) sc_points (by decide) (fun _ => rfl) (b_points T)

theorem sc_degree_of : FnScope ["power"] ["power"] (defScope s_degree_of) := ⟨rfl, rfl, rfl, by decide +kernel, rfl, by decide +kernel, by decide +kernel⟩
theorem sc_powers : FnScope ["self", "order"] ["self", "order"] (defScope s_powers) := ⟨rfl, rfl, rfl, by decide +kernel, rfl, by decide +kernel, by decide +kernel⟩
def fl_powers (x : SpaceD C) (o : Str) : Fl Unit Unit (List (Tup Int)) := Fl.bindO (some (decide (o = ("lex" : Str)))) fun v => Fl.bind (if v = true then ((Fl.bindO (some x.tuples) fun r => .rt r) : Fl Unit Unit (List (Tup Int))) else (.nx ())) fun _ => Fl.bindO (if x.tuples.length ≤ 100000 then some (sortS x.tuples) else none) fun r => .rt r
def m_powers (x : SpaceD C) (o : Str) : Option (List (Tup Int)) := (fl_powers x o).fin none
theorem b_powers (T : Tx K mg C fI fdI D fJ fdJ G fG fdG) (p : SpaceD C × Str × Unit) : DeSN (ctOf P w K mg base 1 ["self", "order"] (defScope s_powers)) (Pk.sl p ++ List.replicate (2 - (Pk.sl p).length) .any) (defBody s_powers) (fun _ : Unit => List.replicate 2 .any) (fun _ : Unit => []) (fl_powers p.1 p.2.1) := by
  obtain ⟨x, o, _⟩ := p
  unfold fl_powers
  refine dsn_if (jk := fun _ : Unit => [.val x, .val o]) (mt := some (decide (o = ("lex" : Str)))) (dt_c1 cmp_eqS (de_var 1 rfl rfl (Or.inl rfl)) de_str) ?a (dsn_end (s := ()) (.same (.same .nil))) (fun _ => ?b)
  case a => exact dsn_ret (m := some x.tuples) (dn_list T.list (De.l (de_fldP (x := x) T.sp_tuples (de_var 0 rfl rfl (Or.inl rfl)))))
  case b => exact dsn_ret (m := if x.tuples.length ≤ 100000 then some (sortS x.tuples) else none) (dn_sortedKS (m := some x.tuples) T.degree_of sc_degree_of rfl rfl rfl T.sum T.sorted (De.l (de_fldP (x := x) T.sp_tuples (de_var 0 rfl rfl (Or.inl rfl)))))
theorem g_powers (T : Tx K mg C fI fdI D fJ fdJ G fG fdG) : GmN P w K mg base 2 (SpaceD C) "powers" (fun p : SpaceD C × Str × Unit => m_powers p.1 p.2.1) := T.pws.gmN T.cls (fldNo T fun _ _ _ _ => rfl) sc_powers (by decide) (fun _ => rfl) (b_powers T)


theorem sc_number_raised : FnScope ["prime", "number", "exponent", "product", "_"] ["prime", "number", "exponent"] (defScope s_number_raised) := ⟨rfl, rfl, rfl, by decide +kernel, rfl, by decide +kernel, by decide +kernel⟩
def fl_number_raised (p_prime : Int) (p_number : Int) (p_exponent : Int) : Fl Unit Unit Int := (Fl.bindO (some (1 : Int)) fun product_46 => (Fl.bindO (rangeI p_exponent) fun xs_54 => Fl.bind (Fl.loop (fun (i_48 : Int) (s_47 : (Int)) => ((Fl.bindO (((mulI s_47 p_number)).bind fun v_50 => ((some p_prime)).bind fun v_51 => (modI v_50 v_51)) fun product_49 => (.nx product_49)) : Fl (Int) (Int) Int)) xs_54 product_46 : Fl (Int) Unit Int) fun s_52 => (Fl.bindO (some s_52) fun r_53 => .rt r_53)))
def m_number_raised (p_prime : Int) (p_number : Int) (p_exponent : Int) : Option Int := (fl_number_raised p_prime p_number p_exponent).fin none
theorem b_number_raised (T : Tx K mg C fI fdI D fJ fdJ G fG fdG) (p : Int × Int × Int × Unit) : DeS (ctOf P w K mg base 0 ["prime", "number", "exponent", "product", "_"] (defScope s_number_raised)) (Pk.sl p ++ List.replicate (5 - (Pk.sl p).length) .any) (defBody s_number_raised) (fun _ : Unit => List.replicate 5 .any) (fun _ : Unit => []) (fl_number_raised p.1 p.2.1 p.2.2.1) := by
  obtain ⟨p_prime, p_number, p_exponent, _⟩ := p
  unfold fl_number_raised
  exact (ds_set (i := 3) (as_e (m := (some (1 : Int))) 3 de_int sc_number_raised.nd rfl (by first | exact Or.inl rfl | exact Or.inr rfl) (by first | exact Or.inl rfl | exact Or.inr rfl) (fun _ _ => rfl)) (fun product_46 => (ds_for (sk := (fun (s : (Int)) => ([.val (p_prime : Int), .val (p_number : Int), .val (p_exponent : Int), .val (s : Int), .any] : List Slot))) (s0 := product_46) (di_rangeP  T.range (de_var 2 rfl rfl (by first | exact Or.inl rfl | exact Or.inr (Or.inl rfl) | exact Or.inr (Or.inr rfl)))) (dg_name 4 sc_number_raised.nd rfl (by first | exact Or.inl rfl | exact Or.inr rfl) (by first | exact Or.inl rfl | exact Or.inr rfl)) (.same (.same (.same (.same (.any .nil))))) (fun i_48 s_47 => (ds_set (i := 3) (as_e (m := (((mulI s_47 p_number)).bind fun v_50 => ((some p_prime)).bind fun v_51 => (modI v_50 v_51))) 3 (de_mod (ma := (mulI s_47 p_number)) (mb := (some p_prime)) (de_mulP (de_var 3 rfl rfl (by first | exact Or.inl rfl | exact Or.inr (Or.inl rfl) | exact Or.inr (Or.inr rfl))) (de_var 1 rfl rfl (by first | exact Or.inl rfl | exact Or.inr (Or.inl rfl) | exact Or.inr (Or.inr rfl)))) (de_var 0 rfl rfl (by first | exact Or.inl rfl | exact Or.inr (Or.inl rfl) | exact Or.inr (Or.inr rfl)))) sc_number_raised.nd rfl (by first | exact Or.inl rfl | exact Or.inr rfl) (by first | exact Or.inl rfl | exact Or.inr rfl) (fun _ _ => rfl)) (fun product_49 => (ds_end (s := product_49) (.same (.same (.same (.same (.any .nil))))))))) (fun s_52 => (ds_ret (m := (some s_52)) (de_var 3 rfl rfl (by first | exact Or.inl rfl | exact Or.inr (Or.inl rfl) | exact Or.inr (Or.inr rfl))))))))
theorem g_number_raised (T : Tx K mg C fI fdI D fJ fdJ G fG fdG) : Gd P w K mg base 1 "number_raised" (fun p : Int × Int × Int × Unit => m_number_raised p.1 p.2.1 p.2.2.1) := T.number_raised.gd sc_number_raised (by decide) (fun _ => rfl) (fun _ h => nomatch h) (b_number_raised T)

theorem sc_weighted_sum : FnScope ["prime", "weights", "parts", "total", "weight", "part", "number", "other"] ["prime", "weights", "parts"] (defScope s_weighted_sum) := ⟨rfl, rfl, rfl, by decide +kernel, rfl, by decide +kernel, by decide +kernel⟩
def fl_weighted_sum (p_prime : Int) (p_weights : (List Int)) (p_parts : (List (List Int))) : Fl Unit Unit (List Int) := (Fl.bindO (((some ([(0 : Int)] : List Int))).bind fun v_57 => ((((atI p_parts (0 : Int))).bind fun v_56 => some (v_56.length : Int))).bind fun v_58 => (repI v_57 v_58)) fun total_55 => (Fl.bindO (some (p_weights.zip p_parts)) fun xs_72 => Fl.bind (Fl.loop (fun (i_60 : (Int × (List Int))) (s_59 : ((List Int))) => ((Fl.bindO (some (!decide (i_60.1 = (0 : Int)))) fun v_66 => Fl.bind (if v_66 = true then ((Fl.bindO (((some (s_59.zip i_60.2))).bind fun xs_65 => (capI xs_65).bind fun xs_65 => mapO (fun (i_62 : (Int × Int)) => (((some i_62.1)).bind fun v_63 => ((mulI i_60.1 i_62.2)).bind fun v_64 => some (v_63 + v_64))) xs_65) fun total_61 => (.nx total_61)) : Fl ((List Int)) ((List Int)) (List Int)) else (.nx s_59)) fun s_67 => (.nx s_67)) : Fl ((List Int)) ((List Int)) (List Int))) xs_72 total_55 : Fl ((List Int)) Unit (List Int)) fun s_68 => (Fl.bindO (((some s_68)).bind fun xs_70 => (capI xs_70).bind fun xs_70 => mapO (fun (i_69 : Int) => (modI i_69 p_prime)) xs_70) fun r_71 => .rt r_71)))
def m_weighted_sum (p_prime : Int) (p_weights : (List Int)) (p_parts : (List (List Int))) : Option (List Int) := (fl_weighted_sum p_prime p_weights p_parts).fin none
theorem b_weighted_sum (T : Tx K mg C fI fdI D fJ fdJ G fG fdG) (p : Int × (List Int) × (List (List Int)) × Unit) : DeSN (ctOf P w K mg base 0 ["prime", "weights", "parts", "total", "weight", "part", "number", "other"] (defScope s_weighted_sum)) (Pk.sl p ++ List.replicate (8 - (Pk.sl p).length) .any) (defBody s_weighted_sum) (fun _ : Unit => List.replicate 8 .any) (fun _ : Unit => []) (fl_weighted_sum p.1 p.2.1 p.2.2.1) := by
  obtain ⟨p_prime, p_weights, p_parts, _⟩ := p
  unfold fl_weighted_sum
  exact (dsn_set (i := 3) (as_e (m := (((some ([(0 : Int)] : List Int))).bind fun v_57 => ((((atI p_parts (0 : Int))).bind fun v_56 => some (v_56.length : Int))).bind fun v_58 => (repI v_57 v_58))) 3 (DeN.de (dn_rep (m := (some ([(0 : Int)] : List Int))) (n := (((atI p_parts (0 : Int))).bind fun v_56 => some (v_56.length : Int))) (dn_lstP (di_consP de_int di_nil)) (de_lenL (m := (atI p_parts (0 : Int))) T.len (De.l (de_ixLP (De.l (de_var 2 rfl rfl (by first | exact Or.inl rfl | exact Or.inr (Or.inl rfl) | exact Or.inr (Or.inr rfl)))) de_int))))) sc_weighted_sum.nd rfl (by first | exact Or.inl rfl | exact Or.inr rfl) (by first | exact Or.inl rfl | exact Or.inr rfl) (fun _ _ => rfl)) (fun total_55 => (dsn_forT (sk := (fun (s : ((List Int))) => ([.val (p_prime : Int), .val (p_weights : (List Int)), .val (p_parts : (List (List Int))), .val (s : (List Int)), .any, .any, .any, .any] : List Slot))) (s0 := total_55) (di_zipL T.zip (de_var 1 rfl rfl (by first | exact Or.inl rfl | exact Or.inr (Or.inl rfl) | exact Or.inr (Or.inr rfl))) (de_var 2 rfl rfl (by first | exact Or.inl rfl | exact Or.inr (Or.inl rfl) | exact Or.inr (Or.inr rfl)))) (dg_pair (dg_name 4 sc_weighted_sum.nd rfl (by first | exact Or.inl rfl | exact Or.inr rfl) (by first | exact Or.inl rfl | exact Or.inr rfl)) (dg_name 5 sc_weighted_sum.nd rfl (by first | exact Or.inl rfl | exact Or.inr rfl) (by first | exact Or.inl rfl | exact Or.inr rfl))) (.same (.same (.same (.same (.any (.any (.any (.any .nil)))))))) (fun i_60 s_59 => (dsn_if (jk := (fun (s : ((List Int))) => ([.val (p_prime : Int), .val (p_weights : (List Int)), .val (p_parts : (List (List Int))), .val (s : (List Int)), .val (i_60.1 : Int), .val (i_60.2 : (List Int)), .any, .any] : List Slot))) (mt := (some (!decide (i_60.1 = (0 : Int))))) (dt_c1P (f := fun (x : Int) (y : Int) => some (!decide (x = y))) cmp_neI (de_var 4 rfl rfl (by first | exact Or.inl rfl | exact Or.inr (Or.inl rfl) | exact Or.inr (Or.inr rfl))) de_int) (dsn_set (i := 3) (AsN.toE (by first | exact (as_compT (own := [("number", 6), ("other", 7)]) 3 sc_weighted_sum.nd rfl rfl rfl (by decide +kernel) (by decide +kernel) (di_zipL T.zip (de_var 3 rfl rfl (by first | exact Or.inl rfl | exact Or.inr (Or.inl rfl) | exact Or.inr (Or.inr rfl))) (de_var 5 rfl rfl (by first | exact Or.inl rfl | exact Or.inr (Or.inl rfl) | exact Or.inr (Or.inr rfl)))) (blkOk_by (by dsimp only [ctOf, Ct.blk]; decide +kernel)) (dg_pair (dg_name 6 sc_weighted_sum.nd rfl (by first | exact Or.inl rfl | exact Or.inr rfl) (by first | exact Or.inl rfl | exact Or.inr rfl)) (dg_name 7 sc_weighted_sum.nd rfl (by first | exact Or.inl rfl | exact Or.inr rfl) (by first | exact Or.inl rfl | exact Or.inr rfl))) (by decide) (fun i_62 => (de_add (ma := (some i_62.1)) (mb := (mulI i_60.1 i_62.2)) (de_var 6 rfl rfl (by first | exact Or.inl rfl | exact Or.inr (Or.inl rfl) | exact Or.inr (Or.inr rfl))) (de_mulP (de_var 4 rfl rfl (by first | exact Or.inl rfl | exact Or.inr (Or.inl rfl) | exact Or.inr (Or.inr rfl))) (de_var 7 rfl rfl (by first | exact Or.inl rfl | exact Or.inr (Or.inl rfl) | exact Or.inr (Or.inr rfl))))))) | exact (as_n 3 (dn_compT (own := [("number", 6), ("other", 7)]) sc_weighted_sum.nd (di_zipL T.zip (de_var 3 rfl rfl (by first | exact Or.inl rfl | exact Or.inr (Or.inl rfl) | exact Or.inr (Or.inr rfl))) (de_var 5 rfl rfl (by first | exact Or.inl rfl | exact Or.inr (Or.inl rfl) | exact Or.inr (Or.inr rfl)))) (blkOk_by (by dsimp only [ctOf, Ct.blk]; decide +kernel)) (dg_pair (dg_name 6 sc_weighted_sum.nd rfl (by first | exact Or.inl rfl | exact Or.inr rfl) (by first | exact Or.inl rfl | exact Or.inr rfl)) (dg_name 7 sc_weighted_sum.nd rfl (by first | exact Or.inl rfl | exact Or.inr rfl) (by first | exact Or.inl rfl | exact Or.inr rfl))) (by decide) (fun i_62 => (de_add (ma := (some i_62.1)) (mb := (mulI i_60.1 i_62.2)) (de_var 6 rfl rfl (by first | exact Or.inl rfl | exact Or.inr (Or.inl rfl) | exact Or.inr (Or.inr rfl))) (de_mulP (de_var 4 rfl rfl (by first | exact Or.inl rfl | exact Or.inr (Or.inl rfl) | exact Or.inr (Or.inr rfl))) (de_var 7 rfl rfl (by first | exact Or.inl rfl | exact Or.inr (Or.inl rfl) | exact Or.inr (Or.inr rfl))))))) sc_weighted_sum.nd rfl (by first | exact Or.inl rfl | exact Or.inr rfl) (by first | exact Or.inl rfl | exact Or.inr rfl) (sw_cell rfl)))) (fun total_61 => (dsn_end (s := total_61) (.same (.same (.same (.same (.same (.same (.any (.any .nil))))))))))) (dsn_end (s := s_59) (.same (.same (.same (.same (.same (.same (.any (.any .nil))))))))) (fun s_67 => (dsn_end (s := s_67) (.same (.same (.same (.same (.any (.any (.any (.any .nil)))))))))))) (fun s_68 => (dsn_ret (m := (((some s_68)).bind fun xs_70 => (capI xs_70).bind fun xs_70 => mapO (fun (i_69 : Int) => (modI i_69 p_prime)) xs_70)) (by exact (dn_comp (own := [("number", 6)]) sc_weighted_sum.nd (di_list (m := (some s_68)) (de_var 3 rfl rfl (by first | exact Or.inl rfl | exact Or.inr (Or.inl rfl) | exact Or.inr (Or.inr rfl)))) (blkOk_by (by dsimp only [ctOf, Ct.blk]; decide +kernel)) (dg_name 6 sc_weighted_sum.nd rfl (by first | exact Or.inl rfl | exact Or.inr rfl) (by first | exact Or.inl rfl | exact Or.inr rfl)) (by decide) (fun i_69 => (de_modP (de_var 6 rfl rfl (by first | exact Or.inl rfl | exact Or.inr (Or.inl rfl) | exact Or.inr (Or.inr rfl))) (de_var 0 rfl rfl (by first | exact Or.inl rfl | exact Or.inr (Or.inl rfl) | exact Or.inr (Or.inr rfl))))))))))))
theorem g_weighted_sum (T : Tx K mg C fI fdI D fJ fdJ G fG fdG) : GdN P w K mg base 1 "weighted_sum" (fun p : Int × (List Int) × (List (List Int)) × Unit => m_weighted_sum p.1 p.2.1 p.2.2.1) := T.weighted_sum.gdN sc_weighted_sum (by decide) (fun _ => rfl) (b_weighted_sum T)

theorem sc_turned_once : FnScope ["prime", "rows", "numbers", "parts", "combined", "row", "start"] ["prime", "rows", "numbers"] (defScope s_turned_once) := ⟨rfl, rfl, rfl, by decide +kernel, rfl, by decide +kernel, by decide +kernel⟩
def fl_turned_once (p_prime : Int) (p_rows : (List (List Int))) (p_numbers : (List Int)) : Fl Unit Unit (List Int) := (Fl.bindO (((rangeI p_prime)).bind fun xs_75 => (capI xs_75).bind fun xs_75 => mapO (fun (i_74 : Int) => (if 0 < p_prime ∧ (pickG p_numbers (some i_74) none (some p_prime)).length ≤ 100000 then some (pickG p_numbers (some i_74) none (some p_prime)) else none)) xs_75) fun parts_73 => (Fl.bindO (some ([] : List Int)) fun combined_76 => (Fl.bindO (some p_rows) fun xs_83 => Fl.bind (Fl.loop (fun (i_78 : (List Int)) (s_77 : ((List Int))) => ((Fl.bindO (m_weighted_sum p_prime i_78 parts_73) fun y_79 => if len1 (s_77.length + y_79.length) = true then (.nx (s_77 ++ y_79)) else .err) : Fl ((List Int)) ((List Int)) (List Int))) xs_83 combined_76 : Fl ((List Int)) Unit (List Int)) fun s_81 => (Fl.bindO (some s_81) fun r_82 => .rt r_82))))
def m_turned_once (p_prime : Int) (p_rows : (List (List Int))) (p_numbers : (List Int)) : Option (List Int) := (fl_turned_once p_prime p_rows p_numbers).fin none
theorem b_turned_once (T : Tx K mg C fI fdI D fJ fdJ G fG fdG) (p : Int × (List (List Int)) × (List Int) × Unit) : DeS (ctOf P w K mg base 1 ["prime", "rows", "numbers", "parts", "combined", "row", "start"] (defScope s_turned_once)) (Pk.sl p ++ List.replicate (7 - (Pk.sl p).length) .any) (defBody s_turned_once) (fun _ : Unit => List.replicate 7 .any) (fun _ : Unit => []) (fl_turned_once p.1 p.2.1 p.2.2.1) := by
  obtain ⟨p_prime, p_rows, p_numbers, _⟩ := p
  unfold fl_turned_once
  exact (ds_set (i := 3) (AsN.toE (by first | exact (as_comp (own := [("start", 6)]) 3 sc_turned_once.nd rfl rfl rfl (by decide +kernel) (by decide +kernel) (di_rangeP  T.range (de_var 0 rfl rfl (by first | exact Or.inl rfl | exact Or.inr (Or.inl rfl) | exact Or.inr (Or.inr rfl)))) (blkOk_by (by dsimp only [ctOf, Ct.blk]; decide +kernel)) (dg_name 6 sc_turned_once.nd rfl (by first | exact Or.inl rfl | exact Or.inr rfl) (by first | exact Or.inl rfl | exact Or.inr rfl)) (by decide) (fun i_74 => (DeN.de (dn_stepL (m := (some p_numbers)) (ml := (some i_74)) (ms := (some p_prime)) (de_var 2 rfl rfl (by first | exact Or.inl rfl | exact Or.inr (Or.inl rfl) | exact Or.inr (Or.inr rfl))) (de_var 6 rfl rfl (by first | exact Or.inl rfl | exact Or.inr (Or.inl rfl) | exact Or.inr (Or.inr rfl))) (de_var 0 rfl rfl (by first | exact Or.inl rfl | exact Or.inr (Or.inl rfl) | exact Or.inr (Or.inr rfl))))))) | exact (as_n 3 (dn_comp (own := [("start", 6)]) sc_turned_once.nd (di_rangeP  T.range (de_var 0 rfl rfl (by first | exact Or.inl rfl | exact Or.inr (Or.inl rfl) | exact Or.inr (Or.inr rfl)))) (blkOk_by (by dsimp only [ctOf, Ct.blk]; decide +kernel)) (dg_name 6 sc_turned_once.nd rfl (by first | exact Or.inl rfl | exact Or.inr rfl) (by first | exact Or.inl rfl | exact Or.inr rfl)) (by decide) (fun i_74 => (DeN.de (dn_stepL (m := (some p_numbers)) (ml := (some i_74)) (ms := (some p_prime)) (de_var 2 rfl rfl (by first | exact Or.inl rfl | exact Or.inr (Or.inl rfl) | exact Or.inr (Or.inr rfl))) (de_var 6 rfl rfl (by first | exact Or.inl rfl | exact Or.inr (Or.inl rfl) | exact Or.inr (Or.inr rfl))) (de_var 0 rfl rfl (by first | exact Or.inl rfl | exact Or.inr (Or.inl rfl) | exact Or.inr (Or.inr rfl))))))) sc_turned_once.nd rfl (by first | exact Or.inl rfl | exact Or.inr rfl) (by first | exact Or.inl rfl | exact Or.inr rfl) (sw_cell rfl)))) (fun parts_73 => (ds_own (i := 4) (as_n 4 (dn_lstP di_nil) sc_turned_once.nd rfl (by first | exact Or.inl rfl | exact Or.inr rfl) (by first | exact Or.inl rfl | exact Or.inr rfl) (fun _ _ => rfl)) (fun combined_76 => (ds_for (sk := (fun (s : ((List Int))) => ([.val (p_prime : Int), .val (p_rows : (List (List Int))), .val (p_numbers : (List Int)), .val (parts_73 : (List (List Int))), .own (s : (List Int)), .any, .any] : List Slot))) (s0 := combined_76) (di_list (m := (some p_rows)) (de_var 1 rfl rfl (by first | exact Or.inl rfl | exact Or.inr (Or.inl rfl) | exact Or.inr (Or.inr rfl)))) (dg_name 5 sc_turned_once.nd rfl (by first | exact Or.inl rfl | exact Or.inr rfl) (by first | exact Or.inl rfl | exact Or.inr rfl)) (.same (.same (.same (.same (.same (.any (.any .nil))))))) (fun i_78 s_77 => (ds_extend 4 rfl rfl (by first | exact Or.inl rfl | exact Or.inr (Or.inl rfl) | exact Or.inr (Or.inr rfl)) (dn_call3 (m1 := (some p_prime)) (m2 := (some i_78)) (m3 := (some parts_73)) (f := fun p : Int × (List Int) × (List (List Int)) × Unit => m_weighted_sum p.1 p.2.1 p.2.2.1) ((g_weighted_sum T).df) (de_var 0 rfl rfl (by first | exact Or.inl rfl | exact Or.inr (Or.inl rfl) | exact Or.inr (Or.inr rfl))) (de_var 5 rfl rfl (by first | exact Or.inl rfl | exact Or.inr (Or.inl rfl) | exact Or.inr (Or.inr rfl))) (de_var 3 rfl rfl (by first | exact Or.inl rfl | exact Or.inr (Or.inl rfl) | exact Or.inr (Or.inr rfl)))) (fun y_79 => (ds_end (s := (s_77 ++ y_79)) (.same (.same (.same (.same (.same (.any (.any .nil))))))))) (k := fun combined_80 => (.nx combined_80)))) (fun s_81 => (ds_freeze 4 rfl (ds_ret (m := (some s_81)) (de_var 4 rfl rfl (by first | exact Or.inl rfl | exact Or.inr (Or.inl rfl) | exact Or.inr (Or.inr rfl)))))))))))
theorem g_turned_once (T : Tx K mg C fI fdI D fJ fdJ G fG fdG) : Gd P w K mg base 2 "turned_once" (fun p : Int × (List (List Int)) × (List Int) × Unit => m_turned_once p.1 p.2.1 p.2.2.1) := T.turned_once.gd sc_turned_once (by decide) (fun _ => rfl) (fun _ h => nomatch h) (b_turned_once T)

theorem sc_turned : FnScope ["space", "rows", "numbers", "_"] ["space", "rows", "numbers"] (defScope s_turned) := ⟨rfl, rfl, rfl, by decide +kernel, rfl, by decide +kernel, by decide +kernel⟩
def fl_turned (p_space : (SpaceD C)) (p_rows : (List (List Int))) (p_numbers : (List Int)) : Fl Unit Unit (List Int) := (Fl.bindO (rangeI p_space.count) fun xs_89 => Fl.bind (Fl.loop (fun (i_85 : Int) (s_84 : ((List Int))) => ((Fl.bindO (m_turned_once p_space.prime p_rows s_84) fun numbers_86 => (.nx numbers_86)) : Fl ((List Int)) ((List Int)) (List Int))) xs_89 p_numbers : Fl ((List Int)) Unit (List Int)) fun s_87 => (Fl.bindO (some s_87) fun r_88 => .rt r_88))
def m_turned (p_space : (SpaceD C)) (p_rows : (List (List Int))) (p_numbers : (List Int)) : Option (List Int) := (fl_turned p_space p_rows p_numbers).fin none
theorem b_turned (T : Tx K mg C fI fdI D fJ fdJ G fG fdG) (p : (SpaceD C) × (List (List Int)) × (List Int) × Unit) : DeS (ctOf P w K mg base 2 ["space", "rows", "numbers", "_"] (defScope s_turned)) (Pk.sl p ++ List.replicate (4 - (Pk.sl p).length) .any) (defBody s_turned) (fun _ : Unit => List.replicate 4 .any) (fun _ : Unit => []) (fl_turned p.1 p.2.1 p.2.2.1) := by
  obtain ⟨p_space, p_rows, p_numbers, _⟩ := p
  unfold fl_turned
  exact (ds_for (sk := (fun (s : ((List Int))) => ([.val (p_space : (SpaceD C)), .val (p_rows : (List (List Int))), .val (s : (List Int)), .any] : List Slot))) (s0 := p_numbers) (di_rangeP  T.range (de_fldP (T.sp_count) (de_var 0 rfl rfl (by first | exact Or.inl rfl | exact Or.inr (Or.inl rfl) | exact Or.inr (Or.inr rfl))))) (dg_name 3 sc_turned.nd rfl (by first | exact Or.inl rfl | exact Or.inr rfl) (by first | exact Or.inl rfl | exact Or.inr rfl)) (.same (.same (.same (.any .nil)))) (fun i_85 s_84 => (ds_set (i := 2) (as_e (m := (m_turned_once p_space.prime p_rows s_84)) 2 (de_call3P (a1 := p_space.prime) (a2 := p_rows) (a3 := s_84) (f := fun p : Int × (List (List Int)) × (List Int) × Unit => m_turned_once p.1 p.2.1 p.2.2.1) ((g_turned_once T).df) (de_fldP (T.sp_prime) (de_var 0 rfl rfl (by first | exact Or.inl rfl | exact Or.inr (Or.inl rfl) | exact Or.inr (Or.inr rfl)))) (de_var 1 rfl rfl (by first | exact Or.inl rfl | exact Or.inr (Or.inl rfl) | exact Or.inr (Or.inr rfl))) (de_var 2 rfl rfl (by first | exact Or.inl rfl | exact Or.inr (Or.inl rfl) | exact Or.inr (Or.inr rfl)))) sc_turned.nd rfl (by first | exact Or.inl rfl | exact Or.inr rfl) (by first | exact Or.inl rfl | exact Or.inr rfl) (fun _ _ => rfl)) (fun numbers_86 => (ds_end (s := numbers_86) (.same (.same (.same (.any .nil)))))))) (fun s_87 => (ds_ret (m := (some s_87)) (de_var 2 rfl rfl (by first | exact Or.inl rfl | exact Or.inr (Or.inl rfl) | exact Or.inr (Or.inr rfl))))))
theorem g_turned (T : Tx K mg C fI fdI D fJ fdJ G fG fdG) : Gd P w K mg base 3 "turned" (fun p : (SpaceD C) × (List (List Int)) × (List Int) × Unit => m_turned p.1 p.2.1 p.2.2.1) := T.turned.gd sc_turned (by decide) (fun _ => rfl) (fun _ h => nomatch h) (b_turned T)

theorem sc_value_rows : FnScope ["prime", "number", "exponent"] ["prime"] (defScope s_value_rows) := ⟨rfl, rfl, rfl, by decide +kernel, rfl, by decide +kernel, by decide +kernel⟩
def fl_value_rows (p_prime : Int) : Fl Unit Unit (List (List Int)) := (Fl.bindO (((rangeI p_prime)).bind fun xs_93 => (capI xs_93).bind fun xs_93 => mapO (fun (i_90 : Int) => (((rangeI p_prime)).bind fun xs_92 => (capI xs_92).bind fun xs_92 => mapO (fun (i_91 : Int) => (m_number_raised p_prime i_90 i_91)) xs_92)) xs_93) fun r_94 => .rt r_94)
def m_value_rows (p_prime : Int) : Option (List (List Int)) := (fl_value_rows p_prime).fin none
theorem b_value_rows (T : Tx K mg C fI fdI D fJ fdJ G fG fdG) (p : Int × Unit) : DeS (ctOf P w K mg base 1 ["prime", "number", "exponent"] (defScope s_value_rows)) (Pk.sl p ++ List.replicate (3 - (Pk.sl p).length) .any) (defBody s_value_rows) (fun _ : Unit => List.replicate 3 .any) (fun _ : Unit => []) (fl_value_rows p.1) := by
  obtain ⟨p_prime, _⟩ := p
  unfold fl_value_rows
  exact (ds_ret (m := (((rangeI p_prime)).bind fun xs_93 => (capI xs_93).bind fun xs_93 => mapO (fun (i_90 : Int) => (((rangeI p_prime)).bind fun xs_92 => (capI xs_92).bind fun xs_92 => mapO (fun (i_91 : Int) => (m_number_raised p_prime i_90 i_91)) xs_92)) xs_93)) (DeN.de (dn_comp (own := [("number", 1)]) sc_value_rows.nd (di_rangeP  T.range (de_var 0 rfl rfl (by first | exact Or.inl rfl | exact Or.inr (Or.inl rfl) | exact Or.inr (Or.inr rfl)))) (blkOk_by (by dsimp only [ctOf, Ct.blk]; decide +kernel)) (dg_name 1 sc_value_rows.nd rfl (by first | exact Or.inl rfl | exact Or.inr rfl) (by first | exact Or.inl rfl | exact Or.inr rfl)) (by decide) (fun i_90 => (DeN.de (dn_comp (own := [("exponent", 2)]) sc_value_rows.nd (di_rangeP  T.range (de_var 0 rfl rfl (by first | exact Or.inl rfl | exact Or.inr (Or.inl rfl) | exact Or.inr (Or.inr rfl)))) (blkOk_by (by dsimp only [ctOf, Ct.blk]; decide +kernel)) (dg_name 2 sc_value_rows.nd rfl (by first | exact Or.inl rfl | exact Or.inr rfl) (by first | exact Or.inl rfl | exact Or.inr rfl)) (by decide) (fun i_91 => (de_call3P (a1 := p_prime) (a2 := i_90) (a3 := i_91) (f := fun p : Int × Int × Int × Unit => m_number_raised p.1 p.2.1 p.2.2.1) ((g_number_raised T).df) (de_var 0 rfl rfl (by first | exact Or.inl rfl | exact Or.inr (Or.inl rfl) | exact Or.inr (Or.inr rfl))) (de_var 1 rfl rfl (by first | exact Or.inl rfl | exact Or.inr (Or.inl rfl) | exact Or.inr (Or.inr rfl))) (de_var 2 rfl rfl (by first | exact Or.inl rfl | exact Or.inr (Or.inl rfl) | exact Or.inr (Or.inr rfl)))))))))))
theorem g_value_rows (T : Tx K mg C fI fdI D fJ fdJ G fG fdG) : Gd P w K mg base 2 "value_rows" (fun p : Int × Unit => m_value_rows p.1) := T.value_rows.gd sc_value_rows (by decide) (fun _ => rfl) (fun _ h => nomatch h) (b_value_rows T)

theorem sc_table_of : FnScope ["space", "one", "number_by_power", "numbers", "power", "number"] ["space", "one"] (defScope s_table_of) := ⟨rfl, rfl, rfl, by decide +kernel, rfl, by decide +kernel, by decide +kernel⟩
def fl_table_of (p_space : (SpaceD C)) (p_one : (Tup ((Tup Int) × Int))) : Fl Unit Unit (List Int) := (Fl.bindO (((some p_one.l)).bind fun xs_97 => (capI xs_97).bind fun xs_97 => dctO (fun (i_96 : ((Tup Int) × Int)) => (some i_96.1)) (fun (i_96 : ((Tup Int) × Int)) => (some i_96.2)) xs_97 (⟨[]⟩ : (Dct Int))) fun number_by_power_95 => (Fl.bindO (((m_powers p_space ("lex" : Str))).bind fun xs_100 => (capI xs_100).bind fun xs_100 => mapO (fun (i_99 : (Tup Int)) => (some ((number_by_power_95.get i_99).getD (0 : Int)))) xs_100) fun numbers_98 => (Fl.bindO (((some p_space)).bind fun v_101 => ((m_value_rows p_space.prime)).bind fun v_102 => ((some numbers_98)).bind fun v_103 => (m_turned v_101 v_102 v_103)) fun r_104 => .rt r_104)))
def m_table_of (p_space : (SpaceD C)) (p_one : (Tup ((Tup Int) × Int))) : Option (List Int) := (fl_table_of p_space p_one).fin none
theorem b_table_of (T : Tx K mg C fI fdI D fJ fdJ G fG fdG) (p : (SpaceD C) × (Tup ((Tup Int) × Int)) × Unit) : DeS (ctOf P w K mg base 3 ["space", "one", "number_by_power", "numbers", "power", "number"] (defScope s_table_of)) (Pk.sl p ++ List.replicate (6 - (Pk.sl p).length) .any) (defBody s_table_of) (fun _ : Unit => List.replicate 6 .any) (fun _ : Unit => []) (fl_table_of p.1 p.2.1) := by
  obtain ⟨p_space, p_one, _⟩ := p
  unfold fl_table_of
  exact (ds_set (i := 2) (AsM.toE (by first | exact (as_mcomp (own := [("power", 4), ("number", 5)]) (hk := fun (i_96 : ((Tup Int) × Int)) => (some i_96.1)) (hv := fun (i_96 : ((Tup Int) × Int)) => (some i_96.2)) 2 sc_table_of.nd rfl rfl rfl (by decide +kernel) (by decide +kernel) (di_tup (m := (some p_one)) (de_var 1 rfl rfl (by first | exact Or.inl rfl | exact Or.inr (Or.inl rfl) | exact Or.inr (Or.inr rfl)))) (blkOk_by (by dsimp only [ctOf, Ct.blk]; decide +kernel)) (dg_pair (dg_name 4 sc_table_of.nd rfl (by first | exact Or.inl rfl | exact Or.inr rfl) (by first | exact Or.inl rfl | exact Or.inr rfl)) (dg_name 5 sc_table_of.nd rfl (by first | exact Or.inl rfl | exact Or.inr rfl) (by first | exact Or.inl rfl | exact Or.inr rfl))) (by decide) (fun i_96 => (de_var 4 rfl rfl (by first | exact Or.inl rfl | exact Or.inr (Or.inl rfl) | exact Or.inr (Or.inr rfl)))) (fun i_96 => (de_var 5 rfl rfl (by first | exact Or.inl rfl | exact Or.inr (Or.inl rfl) | exact Or.inr (Or.inr rfl))))) | exact (as_m 2 (dm_comp (own := [("power", 4), ("number", 5)]) (hk := fun (i_96 : ((Tup Int) × Int)) => (some i_96.1)) (hv := fun (i_96 : ((Tup Int) × Int)) => (some i_96.2)) sc_table_of.nd (di_tup (m := (some p_one)) (de_var 1 rfl rfl (by first | exact Or.inl rfl | exact Or.inr (Or.inl rfl) | exact Or.inr (Or.inr rfl)))) (blkOk_by (by dsimp only [ctOf, Ct.blk]; decide +kernel)) (dg_pair (dg_name 4 sc_table_of.nd rfl (by first | exact Or.inl rfl | exact Or.inr rfl) (by first | exact Or.inl rfl | exact Or.inr rfl)) (dg_name 5 sc_table_of.nd rfl (by first | exact Or.inl rfl | exact Or.inr rfl) (by first | exact Or.inl rfl | exact Or.inr rfl))) (by decide) (fun i_96 => (de_var 4 rfl rfl (by first | exact Or.inl rfl | exact Or.inr (Or.inl rfl) | exact Or.inr (Or.inr rfl)))) (fun i_96 => (de_var 5 rfl rfl (by first | exact Or.inl rfl | exact Or.inr (Or.inl rfl) | exact Or.inr (Or.inr rfl))))) sc_table_of.nd rfl (by first | exact Or.inl rfl | exact Or.inr rfl) (by first | exact Or.inl rfl | exact Or.inr rfl) (sw_cellM rfl)))) (fun number_by_power_95 => (ds_set (i := 3) (AsN.toE (by first | exact (as_comp (own := [("power", 4)]) 3 sc_table_of.nd rfl rfl rfl (by decide +kernel) (by decide +kernel) (di_list (m := (m_powers p_space ("lex" : Str))) (DeN.de (dn_meth1 (y := p_space) (y2 := ("lex" : Str)) (f := fun p : SpaceD C × Str × Unit => m_powers p.1 p.2.1) ((g_powers T).mt) (de_var 0 rfl rfl (by first | exact Or.inl rfl | exact Or.inr (Or.inl rfl) | exact Or.inr (Or.inr rfl))) de_str))) (blkOk_by (by dsimp only [ctOf, Ct.blk]; decide +kernel)) (dg_name 4 sc_table_of.nd rfl (by first | exact Or.inl rfl | exact Or.inr rfl) (by first | exact Or.inl rfl | exact Or.inr rfl)) (by decide) (fun i_99 => (de_get2 (m := some number_by_power_95) (n := (some i_99)) (l := (some (0 : Int))) (de_var 2 rfl rfl (by first | exact Or.inl rfl | exact Or.inr (Or.inl rfl) | exact Or.inr (Or.inr rfl))) (de_var 4 rfl rfl (by first | exact Or.inl rfl | exact Or.inr (Or.inl rfl) | exact Or.inr (Or.inr rfl))) de_int))) | exact (as_n 3 (dn_comp (own := [("power", 4)]) sc_table_of.nd (di_list (m := (m_powers p_space ("lex" : Str))) (DeN.de (dn_meth1 (y := p_space) (y2 := ("lex" : Str)) (f := fun p : SpaceD C × Str × Unit => m_powers p.1 p.2.1) ((g_powers T).mt) (de_var 0 rfl rfl (by first | exact Or.inl rfl | exact Or.inr (Or.inl rfl) | exact Or.inr (Or.inr rfl))) de_str))) (blkOk_by (by dsimp only [ctOf, Ct.blk]; decide +kernel)) (dg_name 4 sc_table_of.nd rfl (by first | exact Or.inl rfl | exact Or.inr rfl) (by first | exact Or.inl rfl | exact Or.inr rfl)) (by decide) (fun i_99 => (de_get2 (m := some number_by_power_95) (n := (some i_99)) (l := (some (0 : Int))) (de_var 2 rfl rfl (by first | exact Or.inl rfl | exact Or.inr (Or.inl rfl) | exact Or.inr (Or.inr rfl))) (de_var 4 rfl rfl (by first | exact Or.inl rfl | exact Or.inr (Or.inl rfl) | exact Or.inr (Or.inr rfl))) de_int))) sc_table_of.nd rfl (by first | exact Or.inl rfl | exact Or.inr rfl) (by first | exact Or.inl rfl | exact Or.inr rfl) (sw_cell rfl)))) (fun numbers_98 => (ds_ret (m := (((some p_space)).bind fun v_101 => ((m_value_rows p_space.prime)).bind fun v_102 => ((some numbers_98)).bind fun v_103 => (m_turned v_101 v_102 v_103))) (de_call3 (m1 := (some p_space)) (m2 := (m_value_rows p_space.prime)) (m3 := (some numbers_98)) (f := fun p : (SpaceD C) × (List (List Int)) × (List Int) × Unit => m_turned p.1 p.2.1 p.2.2.1) ((g_turned T).df) (de_var 0 rfl rfl (by first | exact Or.inl rfl | exact Or.inr (Or.inl rfl) | exact Or.inr (Or.inr rfl))) (de_call1P (a1 := p_space.prime) (f := fun p : Int × Unit => m_value_rows p.1) ((g_value_rows T).df) (de_fldP (T.sp_prime) (de_var 0 rfl rfl (by first | exact Or.inl rfl | exact Or.inr (Or.inl rfl) | exact Or.inr (Or.inr rfl))))) (de_var 3 rfl rfl (by first | exact Or.inl rfl | exact Or.inr (Or.inl rfl) | exact Or.inr (Or.inr rfl)))))))))
theorem g_table_of (T : Tx K mg C fI fdI D fJ fdJ G fG fdG) : Gd P w K mg base 4 "table_of" (fun p : (SpaceD C) × (Tup ((Tup Int) × Int)) × Unit => m_table_of p.1 p.2.1) := T.table_of.gd sc_table_of (by decide) (fun _ => rfl) (fun _ h => nomatch h) (b_table_of T)

theorem sc_first_that_fails : FnScope ["tables", "at", "index", "table"] ["tables", "at"] (defScope s_first_that_fails) := ⟨rfl, rfl, rfl, by decide +kernel, rfl, by decide +kernel, by decide +kernel⟩
def fl_first_that_fails (p_tables : (Tup (Tup Int))) (p_at : Int) : Fl Unit Unit (Option Int) := (Fl.bindO (some (enumL 0 p_tables.l)) fun xs_114 => Fl.bind (Fl.loop (fun (i_106 : (Int × (Tup Int))) (s_105 : Unit) => ((Fl.bindO (((atI i_106.2.l p_at)).bind fun v_107 => ((some (0 : Int))).bind fun v_108 => some (!decide (v_107 = v_108))) fun v_110 => Fl.bind (if v_110 = true then ((Fl.bindO (some (some i_106.1)) fun r_109 => .rt r_109) : Fl Unit Unit (Option Int)) else (.nx ())) fun s_111 => (.nx ())) : Fl Unit Unit (Option Int))) xs_114 () : Fl Unit Unit (Option Int)) fun s_112 => (Fl.bindO (some (none : (Option Int))) fun r_113 => .rt r_113))
def m_first_that_fails (p_tables : (Tup (Tup Int))) (p_at : Int) : Option (Option Int) := (fl_first_that_fails p_tables p_at).fin none
theorem b_first_that_fails (T : Tx K mg C fI fdI D fJ fdJ G fG fdG) (p : (Tup (Tup Int)) × Int × Unit) : DeS (ctOf P w K mg base 0 ["tables", "at", "index", "table"] (defScope s_first_that_fails)) (Pk.sl p ++ List.replicate (4 - (Pk.sl p).length) .any) (defBody s_first_that_fails) (fun _ : Unit => List.replicate 4 .any) (fun _ : Unit => []) (fl_first_that_fails p.1 p.2.1) := by
  obtain ⟨p_tables, p_at, _⟩ := p
  unfold fl_first_that_fails
  exact (ds_forT (sk := (fun (s : Unit) => ([.val (p_tables : (Tup (Tup Int))), .val (p_at : Int), .any, .any] : List Slot))) (s0 := ()) (di_enumU (m := (some p_tables)) T.enumerate (de_var 0 rfl rfl (by first | exact Or.inl rfl | exact Or.inr (Or.inl rfl) | exact Or.inr (Or.inr rfl)))) (dg_pair (dg_name 2 sc_first_that_fails.nd rfl (by first | exact Or.inl rfl | exact Or.inr rfl) (by first | exact Or.inl rfl | exact Or.inr rfl)) (dg_name 3 sc_first_that_fails.nd rfl (by first | exact Or.inl rfl | exact Or.inr rfl) (by first | exact Or.inl rfl | exact Or.inr rfl))) (.same (.same (.any (.any .nil)))) (fun i_106 s_105 => (ds_if (jk := (fun (s : Unit) => ([.val (p_tables : (Tup (Tup Int))), .val (p_at : Int), .val (i_106.1 : Int), .val (i_106.2 : (Tup Int))] : List Slot))) (mt := (((atI i_106.2.l p_at)).bind fun v_107 => ((some (0 : Int))).bind fun v_108 => some (!decide (v_107 = v_108)))) (dt_c1 (ma := (atI i_106.2.l p_at)) (mb := (some (0 : Int))) (f := fun (x : Int) (y : Int) => some (!decide (x = y))) cmp_neI (de_ixTP (de_var 3 rfl rfl (by first | exact Or.inl rfl | exact Or.inr (Or.inl rfl) | exact Or.inr (Or.inr rfl))) (de_var 1 rfl rfl (by first | exact Or.inl rfl | exact Or.inr (Or.inl rfl) | exact Or.inr (Or.inr rfl)))) de_int) (ds_ret (m := (some (some i_106.1))) (De.opt (de_var 2 rfl rfl (by first | exact Or.inl rfl | exact Or.inr (Or.inl rfl) | exact Or.inr (Or.inr rfl))))) (ds_end (s := ()) (.same (.same (.same (.same .nil))))) (fun s_111 => (ds_end (s := ()) (.same (.same (.any (.any .nil)))))))) (fun s_112 => (ds_ret (m := (some (none : (Option Int)))) de_none)))
theorem g_first_that_fails (T : Tx K mg C fI fdI D fJ fdJ G fG fdG) : Gd P w K mg base 1 "first_that_fails" (fun p : (Tup (Tup Int)) × Int × Unit => m_first_that_fails p.1 p.2.1) := T.first_that_fails.gd sc_first_that_fails (by decide) (fun _ => rfl) (fun _ h => nomatch h) (b_first_that_fails T)

theorem sc_led_by_point : FnScope ["first", "polynomials", "columns", "targets", "polynomial", "point", "target"] ["first", "polynomials"] (defScope s_led_by_point) := ⟨rfl, rfl, rfl, by decide +kernel, rfl, by decide +kernel, by decide +kernel⟩
def fl_led_by_point (p_first : (SpaceD C)) (p_polynomials : (List (Tup ((Tup Int) × Int)))) : Fl Unit Unit (Dct (Tup Int)) := (Fl.bindO (((some p_polynomials)).bind fun xs_117 => (capI xs_117).bind fun xs_117 => mapO (fun (i_116 : (Tup ((Tup Int) × Int))) => (m_table_of p_first i_116)) xs_117) fun columns_115 => (Fl.bindO ((zipS columns_115).bind capI) fun targets_118 => (Fl.bindO (((((m_points p_first)).bind fun v_119 => ((some targets_118)).bind fun v_120 => some (v_119.zip v_120))).bind fun xs_122 => (capI xs_122).bind fun xs_122 => dctO (fun (i_121 : ((Tup Int) × (Tup Int))) => (some i_121.1)) (fun (i_121 : ((Tup Int) × (Tup Int))) => (some i_121.2)) xs_122 (⟨[]⟩ : (Dct (Tup Int)))) fun r_123 => .rt r_123)))
def m_led_by_point (p_first : (SpaceD C)) (p_polynomials : (List (Tup ((Tup Int) × Int)))) : Option (Dct (Tup Int)) := (fl_led_by_point p_first p_polynomials).fin none
theorem b_led_by_point (T : Tx K mg C fI fdI D fJ fdJ G fG fdG) (p : (SpaceD C) × (List (Tup ((Tup Int) × Int))) × Unit) : DeS (ctOf P w K mg base 4 ["first", "polynomials", "columns", "targets", "polynomial", "point", "target"] (defScope s_led_by_point)) (Pk.sl p ++ List.replicate (7 - (Pk.sl p).length) .any) (defBody s_led_by_point) (fun _ : Unit => List.replicate 7 .any) (fun _ : Unit => []) (fl_led_by_point p.1 p.2.1) := by
  obtain ⟨p_first, p_polynomials, _⟩ := p
  unfold fl_led_by_point
  exact (ds_set (i := 2) (AsN.toE (by first | exact (as_comp (own := [("polynomial", 4)]) 2 sc_led_by_point.nd rfl rfl rfl (by decide +kernel) (by decide +kernel) (di_list (m := (some p_polynomials)) (de_var 1 rfl rfl (by first | exact Or.inl rfl | exact Or.inr (Or.inl rfl) | exact Or.inr (Or.inr rfl)))) (blkOk_by (by dsimp only [ctOf, Ct.blk]; decide +kernel)) (dg_name 4 sc_led_by_point.nd rfl (by first | exact Or.inl rfl | exact Or.inr rfl) (by first | exact Or.inl rfl | exact Or.inr rfl)) (by decide) (fun i_116 => (de_call2P (a1 := p_first) (a2 := i_116) (f := fun p : (SpaceD C) × (Tup ((Tup Int) × Int)) × Unit => m_table_of p.1 p.2.1) ((g_table_of T).df) (de_var 0 rfl rfl (by first | exact Or.inl rfl | exact Or.inr (Or.inl rfl) | exact Or.inr (Or.inr rfl))) (de_var 4 rfl rfl (by first | exact Or.inl rfl | exact Or.inr (Or.inl rfl) | exact Or.inr (Or.inr rfl)))))) | exact (as_n 2 (dn_comp (own := [("polynomial", 4)]) sc_led_by_point.nd (di_list (m := (some p_polynomials)) (de_var 1 rfl rfl (by first | exact Or.inl rfl | exact Or.inr (Or.inl rfl) | exact Or.inr (Or.inr rfl)))) (blkOk_by (by dsimp only [ctOf, Ct.blk]; decide +kernel)) (dg_name 4 sc_led_by_point.nd rfl (by first | exact Or.inl rfl | exact Or.inr rfl) (by first | exact Or.inl rfl | exact Or.inr rfl)) (by decide) (fun i_116 => (de_call2P (a1 := p_first) (a2 := i_116) (f := fun p : (SpaceD C) × (Tup ((Tup Int) × Int)) × Unit => m_table_of p.1 p.2.1) ((g_table_of T).df) (de_var 0 rfl rfl (by first | exact Or.inl rfl | exact Or.inr (Or.inl rfl) | exact Or.inr (Or.inr rfl))) (de_var 4 rfl rfl (by first | exact Or.inl rfl | exact Or.inr (Or.inl rfl) | exact Or.inr (Or.inr rfl)))))) sc_led_by_point.nd rfl (by first | exact Or.inl rfl | exact Or.inr rfl) (by first | exact Or.inl rfl | exact Or.inr rfl) (sw_cell rfl)))) (fun columns_115 => (ds_set (i := 3) (as_e (m := ((zipS columns_115).bind capI)) 3 (DeN.de (dn_listZip (m := (some columns_115)) T.list T.zip (de_var 2 rfl rfl (by first | exact Or.inl rfl | exact Or.inr (Or.inl rfl) | exact Or.inr (Or.inr rfl))))) sc_led_by_point.nd rfl (by first | exact Or.inl rfl | exact Or.inr rfl) (by first | exact Or.inl rfl | exact Or.inr rfl) (fun _ _ => rfl)) (fun targets_118 => (ds_ret (m := (((((m_points p_first)).bind fun v_119 => ((some targets_118)).bind fun v_120 => some (v_119.zip v_120))).bind fun xs_122 => (capI xs_122).bind fun xs_122 => dctO (fun (i_121 : ((Tup Int) × (Tup Int))) => (some i_121.1)) (fun (i_121 : ((Tup Int) × (Tup Int))) => (some i_121.2)) xs_122 (⟨[]⟩ : (Dct (Tup Int))))) (DeM.de (dm_compT (own := [("point", 5), ("target", 6)]) (hk := fun (i_121 : ((Tup Int) × (Tup Int))) => (some i_121.1)) (hv := fun (i_121 : ((Tup Int) × (Tup Int))) => (some i_121.2)) sc_led_by_point.nd (di_zipL T.zip (DeN.de (dn_meth0 (y := p_first) (f := fun p : SpaceD C × Unit => m_points p.1) ((g_points T).mt) (de_var 0 rfl rfl (by first | exact Or.inl rfl | exact Or.inr (Or.inl rfl) | exact Or.inr (Or.inr rfl))))) (de_var 3 rfl rfl (by first | exact Or.inl rfl | exact Or.inr (Or.inl rfl) | exact Or.inr (Or.inr rfl)))) (blkOk_by (by dsimp only [ctOf, Ct.blk]; decide +kernel)) (dg_pair (dg_name 5 sc_led_by_point.nd rfl (by first | exact Or.inl rfl | exact Or.inr rfl) (by first | exact Or.inl rfl | exact Or.inr rfl)) (dg_name 6 sc_led_by_point.nd rfl (by first | exact Or.inl rfl | exact Or.inr rfl) (by first | exact Or.inl rfl | exact Or.inr rfl))) (by decide) (fun i_121 => (de_var 5 rfl rfl (by first | exact Or.inl rfl | exact Or.inr (Or.inl rfl) | exact Or.inr (Or.inr rfl)))) (fun i_121 => (de_var 6 rfl rfl (by first | exact Or.inl rfl | exact Or.inr (Or.inl rfl) | exact Or.inr (Or.inr rfl)))))))))))
theorem g_led_by_point (T : Tx K mg C fI fdI D fJ fdJ G fG fdG) : Gd P w K mg base 5 "led_by_point" (fun p : (SpaceD C) × (List (Tup ((Tup Int) × Int))) × Unit => m_led_by_point p.1 p.2.1) := T.led_by_point.gd sc_led_by_point (by decide) (fun _ => rfl) (fun _ h => nomatch h) (b_led_by_point T)

theorem sc_y_solutions : FnScope ["self", "points", "at", "point"] ["self"] (defScope s_y_solutions) := ⟨rfl, rfl, rfl, by decide +kernel, rfl, by decide +kernel, by decide +kernel⟩
def fl_y_solutions (p_self : (SysD C D)) : Fl Unit Unit (List (Tup Int)) := (Fl.bindO (m_points p_self.space) fun points_124 => (Fl.bindO (((some (enumL 0 points_124))).bind fun xs_126 => (capI xs_126).bind fun xs_126 => compO (fun (i_125 : (Int × (Tup Int))) => ((((m_first_that_fails p_self.tables i_125.1)).bind fun v_127 => ((some ())).bind fun v_128 => some (Option.isNone v_127))).bind fun k_129 => if k_129 = true then ((some i_125.2)).map some else some none) xs_126) fun r_130 => .rt r_130))
def m_y_solutions (p_self : (SysD C D)) : Option (List (Tup Int)) := (fl_y_solutions p_self).fin none
theorem b_y_solutions (T : Tx K mg C fI fdI D fJ fdJ G fG fdG) (p : (SysD C D) × Unit) : DeSN (ctOf P w K mg base 1 ["self", "points", "at", "point"] (defScope s_y_solutions)) (Pk.sl p ++ List.replicate (4 - (Pk.sl p).length) .any) (defBody s_y_solutions) (fun _ : Unit => List.replicate 4 .any) (fun _ : Unit => []) (fl_y_solutions p.1) := by
  obtain ⟨p_self, _⟩ := p
  unfold fl_y_solutions
  exact (dsn_set (i := 1) (as_e (m := (m_points p_self.space)) 1 (DeN.de (dn_meth0 (y := p_self.space) (f := fun p : SpaceD C × Unit => m_points p.1) ((g_points T).mt) (de_fldP (T.sy_space) (de_var 0 rfl rfl (by first | exact Or.inl rfl | exact Or.inr (Or.inl rfl) | exact Or.inr (Or.inr rfl)))))) sc_y_solutions.nd rfl (by first | exact Or.inl rfl | exact Or.inr rfl) (by first | exact Or.inl rfl | exact Or.inr rfl) (fun _ _ => rfl)) (fun points_124 => (dsn_ret (m := (((some (enumL 0 points_124))).bind fun xs_126 => (capI xs_126).bind fun xs_126 => compO (fun (i_125 : (Int × (Tup Int))) => ((((m_first_that_fails p_self.tables i_125.1)).bind fun v_127 => ((some ())).bind fun v_128 => some (Option.isNone v_127))).bind fun k_129 => if k_129 = true then ((some i_125.2)).map some else some none) xs_126)) (by exact (dn_compIfT (own := [("at", 2), ("point", 3)]) sc_y_solutions.nd (di_enumL (m := (some points_124)) T.enumerate (de_var 1 rfl rfl (by first | exact Or.inl rfl | exact Or.inr (Or.inl rfl) | exact Or.inr (Or.inr rfl)))) (blkOk_by (by dsimp only [ctOf, Ct.blk]; decide +kernel)) (dg_pair (dg_name 2 sc_y_solutions.nd rfl (by first | exact Or.inl rfl | exact Or.inr rfl) (by first | exact Or.inl rfl | exact Or.inr rfl)) (dg_name 3 sc_y_solutions.nd rfl (by first | exact Or.inl rfl | exact Or.inr rfl) (by first | exact Or.inl rfl | exact Or.inr rfl))) (by decide) (fun i_125 => (dt_c1 (ma := (m_first_that_fails p_self.tables i_125.1)) (mb := (some ())) (f := fun (x : (Option Int)) (y : Unit) => some (Option.isNone x)) cmp_isN (de_call2P (a1 := p_self.tables) (a2 := i_125.1) (f := fun p : (Tup (Tup Int)) × Int × Unit => m_first_that_fails p.1 p.2.1) ((g_first_that_fails T).df) (de_fldP (T.sy_tables) (de_var 0 rfl rfl (by first | exact Or.inl rfl | exact Or.inr (Or.inl rfl) | exact Or.inr (Or.inr rfl)))) (de_var 2 rfl rfl (by first | exact Or.inl rfl | exact Or.inr (Or.inl rfl) | exact Or.inr (Or.inr rfl)))) de_non)) (fun i_125 => (de_var 3 rfl rfl (by first | exact Or.inl rfl | exact Or.inr (Or.inl rfl) | exact Or.inr (Or.inr rfl)))))))))
theorem g_y_solutions (T : Tx K mg C fI fdI D fJ fdJ G fG fdG) : GmN P w K mg base 2 (SysD C D) "solutions" (fun p : (SysD C D) × Unit => m_y_solutions p.1) := T.y_solutions.gmN T.clsSy (fldNoSy fun _ _ _ => rfl) sc_y_solutions (by decide) (fun _ => rfl) (b_y_solutions T)

theorem sc_ma_after : FnScope ["self", "point"] ["self", "point"] (defScope s_ma_after) := ⟨rfl, rfl, rfl, by decide +kernel, rfl, by decide +kernel, by decide +kernel⟩
def fl_ma_after (p_self : (MacD C D G)) (p_point : (Tup Int)) : Fl Unit Unit (Tup Int) := (Fl.bindO (p_self.nxt.get p_point) fun r_131 => .rt r_131)
def m_ma_after (p_self : (MacD C D G)) (p_point : (Tup Int)) : Option (Tup Int) := (fl_ma_after p_self p_point).fin none
theorem b_ma_after (T : Tx K mg C fI fdI D fJ fdJ G fG fdG) (p : (MacD C D G) × (Tup Int) × Unit) : DeS (ctOf P w K mg base 0 ["self", "point"] (defScope s_ma_after)) (Pk.sl p ++ List.replicate (2 - (Pk.sl p).length) .any) (defBody s_ma_after) (fun _ : Unit => List.replicate 2 .any) (fun _ : Unit => []) (fl_ma_after p.1 p.2.1) := by
  obtain ⟨p_self, p_point, _⟩ := p
  unfold fl_ma_after
  exact (ds_ret (m := (p_self.nxt.get p_point)) (de_getDP (de_fldP (T.ma_nxt) (de_var 0 rfl rfl (by first | exact Or.inl rfl | exact Or.inr (Or.inl rfl) | exact Or.inr (Or.inr rfl)))) (de_var 1 rfl rfl (by first | exact Or.inl rfl | exact Or.inr (Or.inl rfl) | exact Or.inr (Or.inr rfl)))))
theorem g_ma_after (T : Tx K mg C fI fdI D fJ fdJ G fG fdG) : Gm P w K mg base 1 (MacD C D G) "after" (fun p : (MacD C D G) × (Tup Int) × Unit => m_ma_after p.1 p.2.1) := T.ma_after.gm T.clsMa (fldNoMa fun _ _ _ _ => rfl) sc_ma_after (by decide) (fun _ => rfl) (fun _ h => nomatch h) (b_ma_after T)

theorem sc_points_before : FnScope ["machine", "newest", "before", "further", "point", "target"] ["machine"] (defScope s_points_before) := ⟨rfl, rfl, rfl, by decide +kernel, rfl, by decide +kernel, by decide +kernel⟩
def fl_points_before (p_machine : (MacD C D G)) : Fl Unit Unit (Dct (Option (Tup Int))) := (Fl.bindO (m_y_solutions p_machine.start) fun newest_132 => (Fl.bindO (((some newest_132)).bind fun xs_135 => (capI xs_135).bind fun xs_135 => dctO (fun (i_134 : (Tup Int)) => (some i_134)) (fun (i_134 : (Tup Int)) => (some (none : (Option (Tup Int))))) xs_135 (⟨[]⟩ : (Dct (Option (Tup Int))))) fun before_133 => (Fl.bind (Fl.whl (fun (s_136 : ((MacD C D G) × (List (Tup Int)) × (Dct (Option (Tup Int))))) => ((neI s_136.2.1 ([] : List (Tup Int))) : Option Bool)) (fun (s_136 : ((MacD C D G) × (List (Tup Int)) × (Dct (Option (Tup Int))))) => ((Fl.bindO (some ([] : List (Tup Int))) fun further_137 => (Fl.bindO (some s_136.2.1) fun xs_151 => Fl.bind (Fl.loop (fun (i_139 : (Tup Int)) (s_138 : ((MacD C D G) × (Dct (Option (Tup Int))) × (List (Tup Int)))) => ((Fl.bindO (m_ma_after s_138.1 i_139) fun target_140 => (Fl.bindO ((some target_140).map fun k => !(s_138.2.1.get k).isSome) fun v_146 => Fl.bind (if v_146 = true then ((Fl.bindO (some (some i_139)) fun y_141 => Fl.bindO (some target_140) fun z_142 => if len1 s_138.2.1.l.length = true then (fun before_143 => (Fl.bindO (some target_140) fun y_144 => if len1 s_138.2.2.length = true then (.nx (before_143, (s_138.2.2 ++ [y_144]))) else .err)) (s_138.2.1.put z_142 y_141) else .err) : Fl ((Dct (Option (Tup Int))) × (List (Tup Int))) ((MacD C D G) × (Dct (Option (Tup Int))) × (List (Tup Int))) (Dct (Option (Tup Int)))) else (.nx (s_138.2.1, s_138.2.2))) fun s_147 => (.nx (s_138.1, s_147.1, s_147.2)))) : Fl ((MacD C D G) × (Dct (Option (Tup Int))) × (List (Tup Int))) ((MacD C D G) × (Dct (Option (Tup Int))) × (List (Tup Int))) (Dct (Option (Tup Int))))) xs_151 (s_136.1, s_136.2.2, further_137) : Fl ((MacD C D G) × (Dct (Option (Tup Int))) × (List (Tup Int))) ((MacD C D G) × (List (Tup Int)) × (Dct (Option (Tup Int)))) (Dct (Option (Tup Int)))) fun s_148 => (Fl.bindO (some s_148.2.2) fun newest_150 => (.nx (s_148.1, newest_150, s_148.2.1))))) : Fl ((MacD C D G) × (List (Tup Int)) × (Dct (Option (Tup Int)))) ((MacD C D G) × (List (Tup Int)) × (Dct (Option (Tup Int)))) (Dct (Option (Tup Int))))) 300 (p_machine, newest_132, before_133) : Fl ((MacD C D G) × (List (Tup Int)) × (Dct (Option (Tup Int)))) Unit (Dct (Option (Tup Int)))) fun s_152 => (Fl.bindO (some s_152.2.2) fun r_153 => .rt r_153))))
def m_points_before (p_machine : (MacD C D G)) : Option (Dct (Option (Tup Int))) := (fl_points_before p_machine).fin none
theorem b_points_before (T : Tx K mg C fI fdI D fJ fdJ G fG fdG) (p : (MacD C D G) × Unit) : DeS (ctOf P w K mg base 2 ["machine", "newest", "before", "further", "point", "target"] (defScope s_points_before)) (Pk.sl p ++ List.replicate (6 - (Pk.sl p).length) .any) (defBody s_points_before) (fun _ : Unit => List.replicate 6 .any) (fun _ : Unit => []) (fl_points_before p.1) := by
  obtain ⟨p_machine, _⟩ := p
  unfold fl_points_before
  exact (ds_set (i := 1) (as_e (m := (m_y_solutions p_machine.start)) 1 (DeN.de (dn_meth0 (y := p_machine.start) (f := fun p : (SysD C D) × Unit => m_y_solutions p.1) ((g_y_solutions T).mt) (de_fldP (T.ma_start) (de_var 0 rfl rfl (by first | exact Or.inl rfl | exact Or.inr (Or.inl rfl) | exact Or.inr (Or.inr rfl)))))) sc_points_before.nd rfl (by first | exact Or.inl rfl | exact Or.inr rfl) (by first | exact Or.inl rfl | exact Or.inr rfl) (fun _ _ => rfl)) (fun newest_132 => (ds_ownM (i := 2) (by first | exact (as_mcomp (own := [("point", 4)]) (hk := fun (i_134 : (Tup Int)) => (some i_134)) (hv := fun (i_134 : (Tup Int)) => (some (none : (Option (Tup Int))))) 2 sc_points_before.nd rfl rfl rfl (by decide +kernel) (by decide +kernel) (di_list (m := (some newest_132)) (de_var 1 rfl rfl (by first | exact Or.inl rfl | exact Or.inr (Or.inl rfl) | exact Or.inr (Or.inr rfl)))) (blkOk_by (by dsimp only [ctOf, Ct.blk]; decide +kernel)) (dg_name 4 sc_points_before.nd rfl (by first | exact Or.inl rfl | exact Or.inr rfl) (by first | exact Or.inl rfl | exact Or.inr rfl)) (by decide) (fun i_134 => (de_var 4 rfl rfl (by first | exact Or.inl rfl | exact Or.inr (Or.inl rfl) | exact Or.inr (Or.inr rfl)))) (fun i_134 => de_none)) | exact (as_m 2 (dm_comp (own := [("point", 4)]) (hk := fun (i_134 : (Tup Int)) => (some i_134)) (hv := fun (i_134 : (Tup Int)) => (some (none : (Option (Tup Int))))) sc_points_before.nd (di_list (m := (some newest_132)) (de_var 1 rfl rfl (by first | exact Or.inl rfl | exact Or.inr (Or.inl rfl) | exact Or.inr (Or.inr rfl)))) (blkOk_by (by dsimp only [ctOf, Ct.blk]; decide +kernel)) (dg_name 4 sc_points_before.nd rfl (by first | exact Or.inl rfl | exact Or.inr rfl) (by first | exact Or.inl rfl | exact Or.inr rfl)) (by decide) (fun i_134 => (de_var 4 rfl rfl (by first | exact Or.inl rfl | exact Or.inr (Or.inl rfl) | exact Or.inr (Or.inr rfl)))) (fun i_134 => de_none)) sc_points_before.nd rfl (by first | exact Or.inl rfl | exact Or.inr rfl) (by first | exact Or.inl rfl | exact Or.inr rfl) (sw_cellM rfl))) (fun before_133 => (ds_while 300 (tm := fun (s_136 : ((MacD C D G) × (List (Tup Int)) × (Dct (Option (Tup Int))))) => (neI s_136.2.1 ([] : List (Tup Int)))) (sk := (fun (s : ((MacD C D G) × (List (Tup Int)) × (Dct (Option (Tup Int))))) => ([.val (s.1 : (MacD C D G)), .val (s.2.1 : (List (Tup Int))), .dct (s.2.2 : (Dct (Option (Tup Int)))), .any, .any, .any] : List Slot))) (s0 := (p_machine, newest_132, before_133)) (.same (.same (.same (.any (.any (.any .nil)))))) (fun s_136 => (dt_c1P (f := fun (x : (List (Tup Int))) (y : (List (Tup Int))) => (neI x y)) cmp_neD (de_var 1 rfl rfl (by first | exact Or.inl rfl | exact Or.inr (Or.inl rfl) | exact Or.inr (Or.inr rfl))) (DeN.de (dn_lstP di_nil)))) (fun s_136 => (ds_own (i := 3) (as_n 3 (dn_lstP di_nil) sc_points_before.nd rfl (by first | exact Or.inl rfl | exact Or.inr rfl) (by first | exact Or.inl rfl | exact Or.inr rfl) (fun _ _ => rfl)) (fun further_137 => (ds_for (sk := (fun (s : ((MacD C D G) × (Dct (Option (Tup Int))) × (List (Tup Int)))) => ([.val (s.1 : (MacD C D G)), .val (s_136.2.1 : (List (Tup Int))), .dct (s.2.1 : (Dct (Option (Tup Int)))), .own (s.2.2 : (List (Tup Int))), .any, .any] : List Slot))) (s0 := (s_136.1, s_136.2.2, further_137)) (di_list (m := (some s_136.2.1)) (de_var 1 rfl rfl (by first | exact Or.inl rfl | exact Or.inr (Or.inl rfl) | exact Or.inr (Or.inr rfl)))) (dg_name 4 sc_points_before.nd rfl (by first | exact Or.inl rfl | exact Or.inr rfl) (by first | exact Or.inl rfl | exact Or.inr rfl)) (.same (.same (.same (.same (.any (.any .nil)))))) (fun i_139 s_138 => (ds_set (i := 5) (as_e (m := (m_ma_after s_138.1 i_139)) 5 (de_meth1 (m := (some s_138.1)) (n := (some i_139)) (f := fun p : (MacD C D G) × (Tup Int) × Unit => m_ma_after p.1 p.2.1) ((g_ma_after T).mt) (de_var 0 rfl rfl (by first | exact Or.inl rfl | exact Or.inr (Or.inl rfl) | exact Or.inr (Or.inr rfl))) (de_var 4 rfl rfl (by first | exact Or.inl rfl | exact Or.inr (Or.inl rfl) | exact Or.inr (Or.inr rfl)))) sc_points_before.nd rfl (by first | exact Or.inl rfl | exact Or.inr rfl) (by first | exact Or.inl rfl | exact Or.inr rfl) (fun _ _ => rfl)) (fun target_140 => (ds_if (jk := (fun (s : ((Dct (Option (Tup Int))) × (List (Tup Int)))) => ([.val (s_138.1 : (MacD C D G)), .val (s_136.2.1 : (List (Tup Int))), .dct (s.1 : (Dct (Option (Tup Int)))), .own (s.2 : (List (Tup Int))), .val (i_139 : (Tup Int)), .val (target_140 : (Tup Int))] : List Slot))) (mt := ((some target_140).map fun k => !(s_138.2.1.get k).isSome)) (dt_ninO 2 (n := (some target_140)) rfl rfl (by first | exact Or.inl rfl | exact Or.inr (Or.inl rfl) | exact Or.inr (Or.inr rfl)) (de_var 5 rfl rfl (by first | exact Or.inl rfl | exact Or.inr (Or.inl rfl) | exact Or.inr (Or.inr rfl)))) (ds_putD 2 (m := (some (some i_139))) (n := (some target_140)) rfl rfl (by first | exact Or.inl rfl | exact Or.inr (Or.inl rfl) | exact Or.inr (Or.inr rfl)) (De.opt (de_var 4 rfl rfl (by first | exact Or.inl rfl | exact Or.inr (Or.inl rfl) | exact Or.inr (Or.inr rfl)))) (de_var 5 rfl rfl (by first | exact Or.inl rfl | exact Or.inr (Or.inl rfl) | exact Or.inr (Or.inr rfl))) (fun before_143 => (ds_append 3 rfl rfl (by first | exact Or.inl rfl | exact Or.inr (Or.inl rfl) | exact Or.inr (Or.inr rfl)) (de_var 5 rfl rfl (by first | exact Or.inl rfl | exact Or.inr (Or.inl rfl) | exact Or.inr (Or.inr rfl))) (fun y_144 => (ds_end (s := (before_143, (s_138.2.2 ++ [y_144]))) (.same (.same (.same (.same (.same (.same .nil)))))))) (k := fun further_145 => (.nx (before_143, further_145))))) (k := fun before_143 => (Fl.bindO (some target_140) fun y_144 => if len1 s_138.2.2.length = true then (.nx (before_143, (s_138.2.2 ++ [y_144]))) else .err))) (ds_end (s := (s_138.2.1, s_138.2.2)) (.same (.same (.same (.same (.same (.same .nil))))))) (fun s_147 => (ds_end (s := (s_138.1, s_147.1, s_147.2)) (.same (.same (.same (.same (.any (.any .nil)))))))))))) (fun s_148 => (ds_freeze 3 rfl (ds_set (i := 1) (as_e (m := (some s_148.2.2)) 1 (de_var 3 rfl rfl (by first | exact Or.inl rfl | exact Or.inr (Or.inl rfl) | exact Or.inr (Or.inr rfl))) sc_points_before.nd rfl (by first | exact Or.inl rfl | exact Or.inr rfl) (by first | exact Or.inl rfl | exact Or.inr rfl) (fun _ _ => rfl)) (fun newest_150 => (ds_end (s := (s_148.1, newest_150, s_148.2.1)) (.same (.same (.same (.any (.any (.any .nil))))))))))))))) (fun s_152 => (ds_freezeD 2 rfl (ds_ret (m := (some s_152.2.2)) (de_var 2 rfl rfl (by first | exact Or.inl rfl | exact Or.inr (Or.inl rfl) | exact Or.inr (Or.inr rfl)))))))))))
theorem g_points_before (T : Tx K mg C fI fdI D fJ fdJ G fG fdG) : Gd P w K mg base 3 "points_before" (fun p : (MacD C D G) × Unit => m_points_before p.1) := T.points_before.gd sc_points_before (by decide) (fun _ => rfl) (fun _ h => nomatch h) (b_points_before T)

theorem sc_law_cell : FnScope ["script", "k"] ["script", "k"] (defScope s_law_cell) := ⟨rfl, rfl, rfl, by decide +kernel, rfl, by decide +kernel, by decide +kernel⟩
def fl_law_cell (p_script : (List Int)) (p_k : Int) : Fl Unit Unit Int := (Fl.bindO (some (decide (p_k < (p_script.length : Int)))) fun v_155 => Fl.bind (if v_155 = true then ((Fl.bindO (atI p_script p_k) fun r_154 => .rt r_154) : Fl Unit Unit Int) else (.nx ())) fun s_156 => (Fl.bindO (some (0 : Int)) fun r_157 => .rt r_157))
def m_law_cell (p_script : (List Int)) (p_k : Int) : Option Int := (fl_law_cell p_script p_k).fin none
theorem b_law_cell (T : Tx K mg C fI fdI D fJ fdJ G fG fdG) (p : (List Int) × Int × Unit) : DeS (ctOf P w K mg base 0 ["script", "k"] (defScope s_law_cell)) (Pk.sl p ++ List.replicate (2 - (Pk.sl p).length) .any) (defBody s_law_cell) (fun _ : Unit => List.replicate 2 .any) (fun _ : Unit => []) (fl_law_cell p.1 p.2.1) := by
  obtain ⟨p_script, p_k, _⟩ := p
  unfold fl_law_cell
  exact (ds_if (jk := (fun (s : Unit) => ([.val (p_script : (List Int)), .val (p_k : Int)] : List Slot))) (mt := (some (decide (p_k < (p_script.length : Int))))) (dt_c1P (f := fun (x : Int) (y : Int) => some (decide (x < y))) cmp_lt (de_var 1 rfl rfl (by first | exact Or.inl rfl | exact Or.inr (Or.inl rfl) | exact Or.inr (Or.inr rfl))) (de_lenLP  T.len (De.l (de_var 0 rfl rfl (by first | exact Or.inl rfl | exact Or.inr (Or.inl rfl) | exact Or.inr (Or.inr rfl)))))) (ds_ret (m := (atI p_script p_k)) (de_ixLP (De.l (de_var 0 rfl rfl (by first | exact Or.inl rfl | exact Or.inr (Or.inl rfl) | exact Or.inr (Or.inr rfl)))) (de_var 1 rfl rfl (by first | exact Or.inl rfl | exact Or.inr (Or.inl rfl) | exact Or.inr (Or.inr rfl))))) (ds_end (s := ()) (.same (.same .nil))) (fun s_156 => (ds_ret (m := (some (0 : Int))) de_int)))
theorem g_law_cell (T : Tx K mg C fI fdI D fJ fdJ G fG fdG) : Gd P w K mg base 1 "_law_cell" (fun p : (List Int) × Int × Unit => m_law_cell p.1 p.2.1) := T.law_cell.gd sc_law_cell (by decide) (fun _ => rfl) (fun _ h => nomatch h) (b_law_cell T)

theorem sc_law_digits : FnScope ["cell", "many", "count", "digits", "rest", "k", "mixed"] ["cell", "many", "count"] (defScope s_law_digits) := ⟨rfl, rfl, rfl, by decide +kernel, rfl, by decide +kernel, by decide +kernel⟩
def fl_law_digits (p_cell : Int) (p_many : Int) (p_count : Int) : Fl Unit Unit (List Int) := (Fl.bindO (some ([] : List Int)) fun digits_158 => (Fl.bindO (some p_cell) fun rest_159 => (Fl.bindO (rangeI p_count) fun xs_192 => Fl.bind (Fl.loop (fun (i_161 : Int) (s_160 : ((List Int) × Int)) => ((Fl.bindO (((some p_cell)).bind fun v_162 => ((powI (10 : Int) (18 : Int))).bind fun v_163 => some (decide (v_163 ≤ v_162))) fun v_188 => Fl.bind (if v_188 = true then ((Fl.bindO (modI s_160.2 p_many) fun y_164 => if len1 s_160.1.length = true then (Fl.bindO (divI s_160.2 p_many) fun rest_166 => (.nx ((s_160.1 ++ [y_164]), rest_166))) else .err) : Fl ((List Int) × Int) ((List Int) × Int) (List Int)) else (Fl.bindO (((((((((mulI p_cell (48271 : Int))).bind fun v_168 => ((mulI i_161 (69621 : Int))).bind fun v_169 => some (v_168 + v_169))).bind fun v_170 => ((some (1013 : Int))).bind fun v_171 => some (v_170 + v_171))).bind fun v_172 => some v_172)).bind fun v_173 => ((some (2147483647 : Int))).bind fun v_174 => (modI v_173 v_174)) fun mixed_167 => (Fl.bindO (((((((((mulI mixed_167 mixed_167)).bind fun v_176 => ((mulI (7 : Int) mixed_167)).bind fun v_177 => some (v_176 + v_177))).bind fun v_178 => ((some i_161)).bind fun v_179 => some (v_178 + v_179))).bind fun v_180 => some v_180)).bind fun v_181 => ((some (2147483629 : Int))).bind fun v_182 => (modI v_181 v_182)) fun mixed_175 => (Fl.bindO (((((divI mixed_175 (31 : Int))).bind fun v_183 => some v_183)).bind fun v_184 => ((some p_many)).bind fun v_185 => (modI v_184 v_185)) fun y_186 => if len1 s_160.1.length = true then (.nx ((s_160.1 ++ [y_186]), s_160.2)) else .err)))) fun s_189 => (.nx (s_189.1, s_189.2))) : Fl ((List Int) × Int) ((List Int) × Int) (List Int))) xs_192 (digits_158, rest_159) : Fl ((List Int) × Int) Unit (List Int)) fun s_190 => (Fl.bindO (some s_190.1) fun r_191 => .rt r_191))))
def m_law_digits (p_cell : Int) (p_many : Int) (p_count : Int) : Option (List Int) := (fl_law_digits p_cell p_many p_count).fin none
theorem b_law_digits (T : Tx K mg C fI fdI D fJ fdJ G fG fdG) (p : Int × Int × Int × Unit) : DeS (ctOf P w K mg base 0 ["cell", "many", "count", "digits", "rest", "k", "mixed"] (defScope s_law_digits)) (Pk.sl p ++ List.replicate (7 - (Pk.sl p).length) .any) (defBody s_law_digits) (fun _ : Unit => List.replicate 7 .any) (fun _ : Unit => []) (fl_law_digits p.1 p.2.1 p.2.2.1) := by
  obtain ⟨p_cell, p_many, p_count, _⟩ := p
  unfold fl_law_digits
  exact (ds_own (i := 3) (as_n 3 (dn_lstP di_nil) sc_law_digits.nd rfl (by first | exact Or.inl rfl | exact Or.inr rfl) (by first | exact Or.inl rfl | exact Or.inr rfl) (fun _ _ => rfl)) (fun digits_158 => (ds_set (i := 4) (as_e (m := (some p_cell)) 4 (de_var 0 rfl rfl (by first | exact Or.inl rfl | exact Or.inr (Or.inl rfl) | exact Or.inr (Or.inr rfl))) sc_law_digits.nd rfl (by first | exact Or.inl rfl | exact Or.inr rfl) (by first | exact Or.inl rfl | exact Or.inr rfl) (fun _ _ => rfl)) (fun rest_159 => (ds_for (sk := (fun (s : ((List Int) × Int)) => ([.val (p_cell : Int), .val (p_many : Int), .val (p_count : Int), .own (s.1 : (List Int)), .val (s.2 : Int), .any, .any] : List Slot))) (s0 := (digits_158, rest_159)) (di_rangeP  T.range (de_var 2 rfl rfl (by first | exact Or.inl rfl | exact Or.inr (Or.inl rfl) | exact Or.inr (Or.inr rfl)))) (dg_name 5 sc_law_digits.nd rfl (by first | exact Or.inl rfl | exact Or.inr rfl) (by first | exact Or.inl rfl | exact Or.inr rfl)) (.same (.same (.same (.same (.same (.any (.any .nil))))))) (fun i_161 s_160 => (ds_if (jk := (fun (s : ((List Int) × Int)) => ([.val (p_cell : Int), .val (p_many : Int), .val (p_count : Int), .own (s.1 : (List Int)), .val (s.2 : Int), .val (i_161 : Int), .any] : List Slot))) (mt := (((some p_cell)).bind fun v_162 => ((powI (10 : Int) (18 : Int))).bind fun v_163 => some (decide (v_163 ≤ v_162)))) (dt_c1 (ma := (some p_cell)) (mb := (powI (10 : Int) (18 : Int))) (f := fun (x : Int) (y : Int) => some (decide (y ≤ x))) cmp_ge (de_var 0 rfl rfl (by first | exact Or.inl rfl | exact Or.inr (Or.inl rfl) | exact Or.inr (Or.inr rfl))) (de_powP de_int de_int)) (ds_append 3 rfl rfl (by first | exact Or.inl rfl | exact Or.inr (Or.inl rfl) | exact Or.inr (Or.inr rfl)) (de_modP (de_intIP T.int (de_var 4 rfl rfl (by first | exact Or.inl rfl | exact Or.inr (Or.inl rfl) | exact Or.inr (Or.inr rfl)))) (de_var 1 rfl rfl (by first | exact Or.inl rfl | exact Or.inr (Or.inl rfl) | exact Or.inr (Or.inr rfl)))) (fun y_164 => (ds_set (i := 4) (as_e (m := (divI s_160.2 p_many)) 4 (de_divP (de_var 4 rfl rfl (by first | exact Or.inl rfl | exact Or.inr (Or.inl rfl) | exact Or.inr (Or.inr rfl))) (de_var 1 rfl rfl (by first | exact Or.inl rfl | exact Or.inr (Or.inl rfl) | exact Or.inr (Or.inr rfl)))) sc_law_digits.nd rfl (by first | exact Or.inl rfl | exact Or.inr rfl) (by first | exact Or.inl rfl | exact Or.inr rfl) (fun _ _ => rfl)) (fun rest_166 => (ds_end (s := ((s_160.1 ++ [y_164]), rest_166)) (.same (.same (.same (.same (.same (.same (.any .nil))))))))))) (k := fun digits_165 => (Fl.bindO (divI s_160.2 p_many) fun rest_166 => (.nx (digits_165, rest_166))))) (ds_set (i := 6) (as_e (m := (((((((((mulI p_cell (48271 : Int))).bind fun v_168 => ((mulI i_161 (69621 : Int))).bind fun v_169 => some (v_168 + v_169))).bind fun v_170 => ((some (1013 : Int))).bind fun v_171 => some (v_170 + v_171))).bind fun v_172 => some v_172)).bind fun v_173 => ((some (2147483647 : Int))).bind fun v_174 => (modI v_173 v_174))) 6 (de_mod (ma := (((((((mulI p_cell (48271 : Int))).bind fun v_168 => ((mulI i_161 (69621 : Int))).bind fun v_169 => some (v_168 + v_169))).bind fun v_170 => ((some (1013 : Int))).bind fun v_171 => some (v_170 + v_171))).bind fun v_172 => some v_172)) (mb := (some (2147483647 : Int))) (de_intI (m := (((((mulI p_cell (48271 : Int))).bind fun v_168 => ((mulI i_161 (69621 : Int))).bind fun v_169 => some (v_168 + v_169))).bind fun v_170 => ((some (1013 : Int))).bind fun v_171 => some (v_170 + v_171))) T.int (de_add (ma := (((mulI p_cell (48271 : Int))).bind fun v_168 => ((mulI i_161 (69621 : Int))).bind fun v_169 => some (v_168 + v_169))) (mb := (some (1013 : Int))) (de_add (ma := (mulI p_cell (48271 : Int))) (mb := (mulI i_161 (69621 : Int))) (de_mulP (de_var 0 rfl rfl (by first | exact Or.inl rfl | exact Or.inr (Or.inl rfl) | exact Or.inr (Or.inr rfl))) de_int) (de_mulP (de_var 5 rfl rfl (by first | exact Or.inl rfl | exact Or.inr (Or.inl rfl) | exact Or.inr (Or.inr rfl))) de_int)) de_int)) de_int) sc_law_digits.nd rfl (by first | exact Or.inl rfl | exact Or.inr rfl) (by first | exact Or.inl rfl | exact Or.inr rfl) (fun _ _ => rfl)) (fun mixed_167 => (ds_set (i := 6) (as_e (m := (((((((((mulI mixed_167 mixed_167)).bind fun v_176 => ((mulI (7 : Int) mixed_167)).bind fun v_177 => some (v_176 + v_177))).bind fun v_178 => ((some i_161)).bind fun v_179 => some (v_178 + v_179))).bind fun v_180 => some v_180)).bind fun v_181 => ((some (2147483629 : Int))).bind fun v_182 => (modI v_181 v_182))) 6 (de_mod (ma := (((((((mulI mixed_167 mixed_167)).bind fun v_176 => ((mulI (7 : Int) mixed_167)).bind fun v_177 => some (v_176 + v_177))).bind fun v_178 => ((some i_161)).bind fun v_179 => some (v_178 + v_179))).bind fun v_180 => some v_180)) (mb := (some (2147483629 : Int))) (de_intI (m := (((((mulI mixed_167 mixed_167)).bind fun v_176 => ((mulI (7 : Int) mixed_167)).bind fun v_177 => some (v_176 + v_177))).bind fun v_178 => ((some i_161)).bind fun v_179 => some (v_178 + v_179))) T.int (de_add (ma := (((mulI mixed_167 mixed_167)).bind fun v_176 => ((mulI (7 : Int) mixed_167)).bind fun v_177 => some (v_176 + v_177))) (mb := (some i_161)) (de_add (ma := (mulI mixed_167 mixed_167)) (mb := (mulI (7 : Int) mixed_167)) (de_mulP (de_var 6 rfl rfl (by first | exact Or.inl rfl | exact Or.inr (Or.inl rfl) | exact Or.inr (Or.inr rfl))) (de_var 6 rfl rfl (by first | exact Or.inl rfl | exact Or.inr (Or.inl rfl) | exact Or.inr (Or.inr rfl)))) (de_mulP de_int (de_var 6 rfl rfl (by first | exact Or.inl rfl | exact Or.inr (Or.inl rfl) | exact Or.inr (Or.inr rfl))))) (de_var 5 rfl rfl (by first | exact Or.inl rfl | exact Or.inr (Or.inl rfl) | exact Or.inr (Or.inr rfl))))) de_int) sc_law_digits.nd rfl (by first | exact Or.inl rfl | exact Or.inr rfl) (by first | exact Or.inl rfl | exact Or.inr rfl) (fun _ _ => rfl)) (fun mixed_175 => (ds_append 3 rfl rfl (by first | exact Or.inl rfl | exact Or.inr (Or.inl rfl) | exact Or.inr (Or.inr rfl)) (de_mod (ma := (((divI mixed_175 (31 : Int))).bind fun v_183 => some v_183)) (mb := (some p_many)) (de_intI (m := (divI mixed_175 (31 : Int))) T.int (de_divP (de_var 6 rfl rfl (by first | exact Or.inl rfl | exact Or.inr (Or.inl rfl) | exact Or.inr (Or.inr rfl))) de_int)) (de_var 1 rfl rfl (by first | exact Or.inl rfl | exact Or.inr (Or.inl rfl) | exact Or.inr (Or.inr rfl)))) (fun y_186 => (ds_end (s := ((s_160.1 ++ [y_186]), s_160.2)) (.same (.same (.same (.same (.same (.same (.any .nil))))))))) (k := fun digits_187 => (.nx (digits_187, s_160.2)))))))) (fun s_189 => (ds_end (s := (s_189.1, s_189.2)) (.same (.same (.same (.same (.same (.any (.any .nil))))))))))) (fun s_190 => (ds_freeze 3 rfl (ds_ret (m := (some s_190.1)) (de_var 3 rfl rfl (by first | exact Or.inl rfl | exact Or.inr (Or.inl rfl) | exact Or.inr (Or.inr rfl)))))))))))
theorem g_law_digits (T : Tx K mg C fI fdI D fJ fdJ G fG fdG) : Gd P w K mg base 1 "_law_digits" (fun p : Int × Int × Int × Unit => m_law_digits p.1 p.2.1 p.2.2.1) := T.law_digits.gd sc_law_digits (by decide) (fun _ => rfl) (fun _ h => nomatch h) (b_law_digits T)

theorem sc_law_shape : FnScope ["cell", "shapes"] ["cell"] (defScope s_law_shape) := ⟨rfl, rfl, rfl, by decide +kernel, rfl, by decide +kernel, by decide +kernel⟩
def fl_law_shape (p_cell : Int) : Fl Unit Unit (Int × Int) := (Fl.bindO (some ([((2 : Int), (1 : Int)), ((2 : Int), (2 : Int)), ((2 : Int), (3 : Int)), ((3 : Int), (1 : Int)), ((3 : Int), (2 : Int)), ((5 : Int), (1 : Int)), ((2 : Int), (4 : Int)), ((3 : Int), (3 : Int)), ((7 : Int), (1 : Int)), ((5 : Int), (2 : Int)), ((2 : Int), (5 : Int)), ((7 : Int), (2 : Int))] : List (Int × Int))) fun shapes_193 => (Fl.bindO (((some shapes_193)).bind fun v_194 => ((modI p_cell (12 : Int))).bind fun v_195 => (atI v_194 v_195)) fun r_196 => .rt r_196))
def m_law_shape (p_cell : Int) : Option (Int × Int) := (fl_law_shape p_cell).fin none
theorem b_law_shape (T : Tx K mg C fI fdI D fJ fdJ G fG fdG) (p : Int × Unit) : DeS (ctOf P w K mg base 0 ["cell", "shapes"] (defScope s_law_shape)) (Pk.sl p ++ List.replicate (2 - (Pk.sl p).length) .any) (defBody s_law_shape) (fun _ : Unit => List.replicate 2 .any) (fun _ : Unit => []) (fl_law_shape p.1) := by
  obtain ⟨p_cell, _⟩ := p
  unfold fl_law_shape
  exact (ds_set (i := 1) (as_e (m := (some ([((2 : Int), (1 : Int)), ((2 : Int), (2 : Int)), ((2 : Int), (3 : Int)), ((3 : Int), (1 : Int)), ((3 : Int), (2 : Int)), ((5 : Int), (1 : Int)), ((2 : Int), (4 : Int)), ((3 : Int), (3 : Int)), ((7 : Int), (1 : Int)), ((5 : Int), (2 : Int)), ((2 : Int), (5 : Int)), ((7 : Int), (2 : Int))] : List (Int × Int)))) 1 (DeN.de (dn_lstP (di_consP (de_pairP  de_int de_int) (di_consP (de_pairP  de_int de_int) (di_consP (de_pairP  de_int de_int) (di_consP (de_pairP  de_int de_int) (di_consP (de_pairP  de_int de_int) (di_consP (de_pairP  de_int de_int) (di_consP (de_pairP  de_int de_int) (di_consP (de_pairP  de_int de_int) (di_consP (de_pairP  de_int de_int) (di_consP (de_pairP  de_int de_int) (di_consP (de_pairP  de_int de_int) (di_consP (de_pairP  de_int de_int) di_nil)))))))))))))) sc_law_shape.nd rfl (by first | exact Or.inl rfl | exact Or.inr rfl) (by first | exact Or.inl rfl | exact Or.inr rfl) (fun _ _ => rfl)) (fun shapes_193 => (ds_ret (m := (((some shapes_193)).bind fun v_194 => ((modI p_cell (12 : Int))).bind fun v_195 => (atI v_194 v_195))) (de_ixL (m := (some shapes_193)) (n := (modI p_cell (12 : Int))) (De.l (de_var 1 rfl rfl (by first | exact Or.inl rfl | exact Or.inr (Or.inl rfl) | exact Or.inr (Or.inr rfl)))) (de_modP (de_intIP T.int (de_var 0 rfl rfl (by first | exact Or.inl rfl | exact Or.inr (Or.inl rfl) | exact Or.inr (Or.inr rfl)))) de_int)))))
theorem g_law_shape (T : Tx K mg C fI fdI D fJ fdJ G fG fdG) : Gd P w K mg base 1 "_law_shape" (fun p : Int × Unit => m_law_shape p.1) := T.law_shape.gd sc_law_shape (by decide) (fun _ => rfl) (fun _ h => nomatch h) (b_law_shape T)

theorem sc_law_names : FnScope ["cell", "count", "menu", "start", "step", "k"] ["cell", "count"] (defScope s_law_names) := ⟨rfl, rfl, rfl, by decide +kernel, rfl, by decide +kernel, by decide +kernel⟩
def fl_law_names (p_cell : Int) (p_count : Int) : Fl Unit Unit (List Str) := (Fl.bindO (some ([("x" : Str), ("y" : Str), ("z" : Str), ("x1" : Str), ("b" : Str), ("word" : Str), ("k9" : Str), ("verylongname" : Str)] : List Str)) fun menu_197 => (Fl.bindO (modI p_cell (8 : Int)) fun start_198 => (Fl.bindO (((some ([(1 : Int), (3 : Int), (5 : Int), (7 : Int)] : List Int))).bind fun v_203 => ((((((divI p_cell (8 : Int))).bind fun v_200 => some v_200)).bind fun v_201 => ((some (4 : Int))).bind fun v_202 => (modI v_201 v_202))).bind fun v_204 => (atI v_203 v_204)) fun step_199 => (Fl.bindO (((rangeI p_count)).bind fun xs_213 => (capI xs_213).bind fun xs_213 => mapO (fun (i_205 : Int) => (((some menu_197)).bind fun v_211 => ((((((((some start_198)).bind fun v_206 => ((mulI step_199 i_205)).bind fun v_207 => some (v_206 + v_207))).bind fun v_208 => some v_208)).bind fun v_209 => ((some (8 : Int))).bind fun v_210 => (modI v_209 v_210))).bind fun v_212 => (atI v_211 v_212))) xs_213) fun r_214 => .rt r_214))))
def m_law_names (p_cell : Int) (p_count : Int) : Option (List Str) := (fl_law_names p_cell p_count).fin none
theorem b_law_names (T : Tx K mg C fI fdI D fJ fdJ G fG fdG) (p : Int × Int × Unit) : DeS (ctOf P w K mg base 0 ["cell", "count", "menu", "start", "step", "k"] (defScope s_law_names)) (Pk.sl p ++ List.replicate (6 - (Pk.sl p).length) .any) (defBody s_law_names) (fun _ : Unit => List.replicate 6 .any) (fun _ : Unit => []) (fl_law_names p.1 p.2.1) := by
  obtain ⟨p_cell, p_count, _⟩ := p
  unfold fl_law_names
  exact (ds_set (i := 2) (as_e (m := (some ([("x" : Str), ("y" : Str), ("z" : Str), ("x1" : Str), ("b" : Str), ("word" : Str), ("k9" : Str), ("verylongname" : Str)] : List Str))) 2 (DeN.de (dn_lstP (di_consP de_str (di_consP de_str (di_consP de_str (di_consP de_str (di_consP de_str (di_consP de_str (di_consP de_str (di_consP de_str di_nil)))))))))) sc_law_names.nd rfl (by first | exact Or.inl rfl | exact Or.inr rfl) (by first | exact Or.inl rfl | exact Or.inr rfl) (fun _ _ => rfl)) (fun menu_197 => (ds_set (i := 3) (as_e (m := (modI p_cell (8 : Int))) 3 (de_modP (de_intIP T.int (de_var 0 rfl rfl (by first | exact Or.inl rfl | exact Or.inr (Or.inl rfl) | exact Or.inr (Or.inr rfl)))) de_int) sc_law_names.nd rfl (by first | exact Or.inl rfl | exact Or.inr rfl) (by first | exact Or.inl rfl | exact Or.inr rfl) (fun _ _ => rfl)) (fun start_198 => (ds_set (i := 4) (as_e (m := (((some ([(1 : Int), (3 : Int), (5 : Int), (7 : Int)] : List Int))).bind fun v_203 => ((((((divI p_cell (8 : Int))).bind fun v_200 => some v_200)).bind fun v_201 => ((some (4 : Int))).bind fun v_202 => (modI v_201 v_202))).bind fun v_204 => (atI v_203 v_204))) 4 (de_ixL (m := (some ([(1 : Int), (3 : Int), (5 : Int), (7 : Int)] : List Int))) (n := (((((divI p_cell (8 : Int))).bind fun v_200 => some v_200)).bind fun v_201 => ((some (4 : Int))).bind fun v_202 => (modI v_201 v_202))) (DeN.l (dn_lstP (di_consP de_int (di_consP de_int (di_consP de_int (di_consP de_int di_nil)))))) (de_mod (ma := (((divI p_cell (8 : Int))).bind fun v_200 => some v_200)) (mb := (some (4 : Int))) (de_intI (m := (divI p_cell (8 : Int))) T.int (de_divP (de_var 0 rfl rfl (by first | exact Or.inl rfl | exact Or.inr (Or.inl rfl) | exact Or.inr (Or.inr rfl))) de_int)) de_int)) sc_law_names.nd rfl (by first | exact Or.inl rfl | exact Or.inr rfl) (by first | exact Or.inl rfl | exact Or.inr rfl) (fun _ _ => rfl)) (fun step_199 => (ds_ret (m := (((rangeI p_count)).bind fun xs_213 => (capI xs_213).bind fun xs_213 => mapO (fun (i_205 : Int) => (((some menu_197)).bind fun v_211 => ((((((((some start_198)).bind fun v_206 => ((mulI step_199 i_205)).bind fun v_207 => some (v_206 + v_207))).bind fun v_208 => some v_208)).bind fun v_209 => ((some (8 : Int))).bind fun v_210 => (modI v_209 v_210))).bind fun v_212 => (atI v_211 v_212))) xs_213)) (DeN.de (dn_comp (own := [("k", 5)]) sc_law_names.nd (di_rangeP  T.range (de_var 1 rfl rfl (by first | exact Or.inl rfl | exact Or.inr (Or.inl rfl) | exact Or.inr (Or.inr rfl)))) (blkOk_by (by dsimp only [ctOf, Ct.blk]; decide +kernel)) (dg_name 5 sc_law_names.nd rfl (by first | exact Or.inl rfl | exact Or.inr rfl) (by first | exact Or.inl rfl | exact Or.inr rfl)) (by decide) (fun i_205 => (de_ixL (m := (some menu_197)) (n := (((((((some start_198)).bind fun v_206 => ((mulI step_199 i_205)).bind fun v_207 => some (v_206 + v_207))).bind fun v_208 => some v_208)).bind fun v_209 => ((some (8 : Int))).bind fun v_210 => (modI v_209 v_210))) (De.l (de_var 2 rfl rfl (by first | exact Or.inl rfl | exact Or.inr (Or.inl rfl) | exact Or.inr (Or.inr rfl)))) (de_mod (ma := (((((some start_198)).bind fun v_206 => ((mulI step_199 i_205)).bind fun v_207 => some (v_206 + v_207))).bind fun v_208 => some v_208)) (mb := (some (8 : Int))) (de_intI (m := (((some start_198)).bind fun v_206 => ((mulI step_199 i_205)).bind fun v_207 => some (v_206 + v_207))) T.int (de_add (ma := (some start_198)) (mb := (mulI step_199 i_205)) (de_var 3 rfl rfl (by first | exact Or.inl rfl | exact Or.inr (Or.inl rfl) | exact Or.inr (Or.inr rfl))) (de_mulP (de_var 4 rfl rfl (by first | exact Or.inl rfl | exact Or.inr (Or.inl rfl) | exact Or.inr (Or.inr rfl))) (de_var 5 rfl rfl (by first | exact Or.inl rfl | exact Or.inr (Or.inl rfl) | exact Or.inr (Or.inr rfl)))))) de_int))))))))))))
theorem g_law_names (T : Tx K mg C fI fdI D fJ fdJ G fG fdG) : Gd P w K mg base 1 "_law_names" (fun p : Int × Int × Unit => m_law_names p.1 p.2.1) := T.law_names.gd sc_law_names (by decide) (fun _ => rfl) (fun _ h => nomatch h) (b_law_names T)

theorem sc_law_points : FnScope ["prime", "count", "found", "k", "longer", "row", "number"] ["prime", "count"] (defScope s_law_points) := ⟨rfl, rfl, rfl, by decide +kernel, rfl, by decide +kernel, by decide +kernel⟩
def fl_law_points (p_prime : Int) (p_count : Int) : Fl Unit Unit (List (Tup Int)) := (Fl.bindO (some ([(⟨([] : List Int)⟩ : Tup Int)] : List (Tup Int))) fun found_215 => (Fl.bindO (rangeI p_count) fun xs_231 => Fl.bind (Fl.loop (fun (i_217 : Int) (s_216 : ((List (Tup Int)))) => ((Fl.bindO (some ([] : List (Tup Int))) fun longer_218 => (Fl.bindO (some s_216) fun xs_228 => Fl.bind (Fl.loop (fun (i_220 : (Tup Int)) (s_219 : ((List (Tup Int)))) => ((Fl.bindO (((rangeI p_prime)).bind fun xs_222 => (capI xs_222).bind fun xs_222 => mapO (fun (i_221 : Int) => (catU i_220 (⟨([i_221] : List Int)⟩ : Tup Int))) xs_222) fun y_223 => if len1 (s_219.length + y_223.length) = true then (.nx (s_219 ++ y_223)) else .err) : Fl ((List (Tup Int))) ((List (Tup Int))) (List (Tup Int)))) xs_228 longer_218 : Fl ((List (Tup Int))) ((List (Tup Int))) (List (Tup Int))) fun s_225 => (Fl.bindO (some s_225) fun found_227 => (.nx found_227)))) : Fl ((List (Tup Int))) ((List (Tup Int))) (List (Tup Int)))) xs_231 found_215 : Fl ((List (Tup Int))) Unit (List (Tup Int))) fun s_229 => (Fl.bindO (some s_229) fun r_230 => .rt r_230)))
def m_law_points (p_prime : Int) (p_count : Int) : Option (List (Tup Int)) := (fl_law_points p_prime p_count).fin none
theorem b_law_points (T : Tx K mg C fI fdI D fJ fdJ G fG fdG) (p : Int × Int × Unit) : DeS (ctOf P w K mg base 0 ["prime", "count", "found", "k", "longer", "row", "number"] (defScope s_law_points)) (Pk.sl p ++ List.replicate (7 - (Pk.sl p).length) .any) (defBody s_law_points) (fun _ : Unit => List.replicate 7 .any) (fun _ : Unit => []) (fl_law_points p.1 p.2.1) := by
  obtain ⟨p_prime, p_count, _⟩ := p
  unfold fl_law_points
  exact (ds_set (i := 2) (as_e (m := (some ([(⟨([] : List Int)⟩ : Tup Int)] : List (Tup Int)))) 2 (DeN.de (dn_lstP (di_consP (de_tupHP di_nil) di_nil))) sc_law_points.nd rfl (by first | exact Or.inl rfl | exact Or.inr rfl) (by first | exact Or.inl rfl | exact Or.inr rfl) (fun _ _ => rfl)) (fun found_215 => (ds_for (sk := (fun (s : ((List (Tup Int)))) => ([.val (p_prime : Int), .val (p_count : Int), .val (s : (List (Tup Int))), .any, .any, .any, .any] : List Slot))) (s0 := found_215) (di_rangeP  T.range (de_var 1 rfl rfl (by first | exact Or.inl rfl | exact Or.inr (Or.inl rfl) | exact Or.inr (Or.inr rfl)))) (dg_name 3 sc_law_points.nd rfl (by first | exact Or.inl rfl | exact Or.inr rfl) (by first | exact Or.inl rfl | exact Or.inr rfl)) (.same (.same (.same (.any (.any (.any (.any .nil))))))) (fun i_217 s_216 => (ds_own (i := 4) (as_n 4 (dn_lstP di_nil) sc_law_points.nd rfl (by first | exact Or.inl rfl | exact Or.inr rfl) (by first | exact Or.inl rfl | exact Or.inr rfl) (fun _ _ => rfl)) (fun longer_218 => (ds_for (sk := (fun (s : ((List (Tup Int)))) => ([.val (p_prime : Int), .val (p_count : Int), .val (s_216 : (List (Tup Int))), .val (i_217 : Int), .own (s : (List (Tup Int))), .any, .any] : List Slot))) (s0 := longer_218) (di_list (m := (some s_216)) (de_var 2 rfl rfl (by first | exact Or.inl rfl | exact Or.inr (Or.inl rfl) | exact Or.inr (Or.inr rfl)))) (dg_name 5 sc_law_points.nd rfl (by first | exact Or.inl rfl | exact Or.inr rfl) (by first | exact Or.inl rfl | exact Or.inr rfl)) (.same (.same (.same (.same (.same (.any (.any .nil))))))) (fun i_220 s_219 => (ds_extend 4 rfl rfl (by first | exact Or.inl rfl | exact Or.inr (Or.inl rfl) | exact Or.inr (Or.inr rfl)) (dn_comp (own := [("number", 6)]) sc_law_points.nd (di_rangeP  T.range (de_var 0 rfl rfl (by first | exact Or.inl rfl | exact Or.inr (Or.inl rfl) | exact Or.inr (Or.inr rfl)))) (blkOk_by (by dsimp only [ctOf, Ct.blk]; decide +kernel)) (dg_name 6 sc_law_points.nd rfl (by first | exact Or.inl rfl | exact Or.inr rfl) (by first | exact Or.inl rfl | exact Or.inr rfl)) (by decide) (fun i_221 => (de_catUP (de_var 5 rfl rfl (by first | exact Or.inl rfl | exact Or.inr (Or.inl rfl) | exact Or.inr (Or.inr rfl))) (de_tupHP (di_consP (de_var 6 rfl rfl (by first | exact Or.inl rfl | exact Or.inr (Or.inl rfl) | exact Or.inr (Or.inr rfl))) di_nil))))) (fun y_223 => (ds_end (s := (s_219 ++ y_223)) (.same (.same (.same (.same (.same (.any (.any .nil))))))))) (k := fun longer_224 => (.nx longer_224)))) (fun s_225 => (ds_freeze 4 rfl (ds_set (i := 2) (as_e (m := (some s_225)) 2 (de_var 4 rfl rfl (by first | exact Or.inl rfl | exact Or.inr (Or.inl rfl) | exact Or.inr (Or.inr rfl))) sc_law_points.nd rfl (by first | exact Or.inl rfl | exact Or.inr rfl) (by first | exact Or.inl rfl | exact Or.inr rfl) (fun _ _ => rfl)) (fun found_227 => (ds_end (s := found_227) (.same (.same (.same (.any (.any (.any (.any .nil)))))))))))))))) (fun s_229 => (ds_ret (m := (some s_229)) (de_var 2 rfl rfl (by first | exact Or.inl rfl | exact Or.inr (Or.inl rfl) | exact Or.inr (Or.inr rfl))))))))
theorem g_law_points (T : Tx K mg C fI fdI D fJ fdJ G fG fdG) : Gd P w K mg base 1 "_law_points" (fun p : Int × Int × Unit => m_law_points p.1 p.2.1) := T.law_points.gd sc_law_points (by decide) (fun _ => rfl) (fun _ h => nomatch h) (b_law_points T)

theorem sc_law_made : FnScope ["prime", "numbers", "rows", "power", "row"] ["prime", "numbers"] (defScope s_law_made) := ⟨rfl, rfl, rfl, by decide +kernel, rfl, by decide +kernel, by decide +kernel⟩
def fl_law_made (p_prime : Int) (p_numbers : (Dct Int)) : Fl Unit Unit (Tup ((Tup Int) × Int)) := (Fl.bindO (((if okSort (p_numbers.l.map fun p => Dat.toD p.1) = true then some (sortD (p_numbers.l.map (·.1))) else none)).bind fun xs_239 => (capI xs_239).bind fun xs_239 => mapO (fun (i_233 : (Tup Int)) => (((some i_233)).bind fun v_237 => ((((((p_numbers.get i_233)).bind fun v_234 => some v_234)).bind fun v_235 => ((some p_prime)).bind fun v_236 => (modI v_235 v_236))).bind fun v_238 => some (v_237, v_238))) xs_239) fun rows_232 => (Fl.bindO (((((some rows_232.reverse)).bind fun xs_241 => (capI xs_241).bind fun xs_241 => compO (fun (i_240 : ((Tup Int) × Int)) => ((some (!decide (i_240.2 = (0 : Int))))).bind fun k_242 => if k_242 = true then ((some i_240)).map some else some none) xs_241)).map Tup.mk) fun r_243 => .rt r_243))
def m_law_made (p_prime : Int) (p_numbers : (Dct Int)) : Option (Tup ((Tup Int) × Int)) := (fl_law_made p_prime p_numbers).fin none
theorem b_law_made (T : Tx K mg C fI fdI D fJ fdJ G fG fdG) (p : Int × (Dct Int) × Unit) : DeS (ctOf P w K mg base 0 ["prime", "numbers", "rows", "power", "row"] (defScope s_law_made)) (Pk.sl p ++ List.replicate (5 - (Pk.sl p).length) .any) (defBody s_law_made) (fun _ : Unit => List.replicate 5 .any) (fun _ : Unit => []) (fl_law_made p.1 p.2.1) := by
  obtain ⟨p_prime, p_numbers, _⟩ := p
  unfold fl_law_made
  exact (ds_set (i := 2) (AsN.toE (by first | exact (as_comp (own := [("power", 3)]) 2 sc_law_made.nd rfl rfl rfl (by decide +kernel) (by decide +kernel) (di_list (m := (if okSort (p_numbers.l.map fun p => Dat.toD p.1) = true then some (sortD (p_numbers.l.map (·.1))) else none)) (DeN.de (dn_sortedE (m := (some p_numbers)) T.sorted (de_var 1 rfl rfl (by first | exact Or.inl rfl | exact Or.inr (Or.inl rfl) | exact Or.inr (Or.inr rfl)))))) (blkOk_by (by dsimp only [ctOf, Ct.blk]; decide +kernel)) (dg_name 3 sc_law_made.nd rfl (by first | exact Or.inl rfl | exact Or.inr rfl) (by first | exact Or.inl rfl | exact Or.inr rfl)) (by decide) (fun i_233 => (de_pair (m := (some i_233)) (n := (((((p_numbers.get i_233)).bind fun v_234 => some v_234)).bind fun v_235 => ((some p_prime)).bind fun v_236 => (modI v_235 v_236))) (de_var 3 rfl rfl (by first | exact Or.inl rfl | exact Or.inr (Or.inl rfl) | exact Or.inr (Or.inr rfl))) (de_mod (ma := (((p_numbers.get i_233)).bind fun v_234 => some v_234)) (mb := (some p_prime)) (de_intI (m := (p_numbers.get i_233)) T.int (de_getDP (de_var 1 rfl rfl (by first | exact Or.inl rfl | exact Or.inr (Or.inl rfl) | exact Or.inr (Or.inr rfl))) (de_var 3 rfl rfl (by first | exact Or.inl rfl | exact Or.inr (Or.inl rfl) | exact Or.inr (Or.inr rfl))))) (de_var 0 rfl rfl (by first | exact Or.inl rfl | exact Or.inr (Or.inl rfl) | exact Or.inr (Or.inr rfl))))))) | exact (as_n 2 (dn_comp (own := [("power", 3)]) sc_law_made.nd (di_list (m := (if okSort (p_numbers.l.map fun p => Dat.toD p.1) = true then some (sortD (p_numbers.l.map (·.1))) else none)) (DeN.de (dn_sortedE (m := (some p_numbers)) T.sorted (de_var 1 rfl rfl (by first | exact Or.inl rfl | exact Or.inr (Or.inl rfl) | exact Or.inr (Or.inr rfl)))))) (blkOk_by (by dsimp only [ctOf, Ct.blk]; decide +kernel)) (dg_name 3 sc_law_made.nd rfl (by first | exact Or.inl rfl | exact Or.inr rfl) (by first | exact Or.inl rfl | exact Or.inr rfl)) (by decide) (fun i_233 => (de_pair (m := (some i_233)) (n := (((((p_numbers.get i_233)).bind fun v_234 => some v_234)).bind fun v_235 => ((some p_prime)).bind fun v_236 => (modI v_235 v_236))) (de_var 3 rfl rfl (by first | exact Or.inl rfl | exact Or.inr (Or.inl rfl) | exact Or.inr (Or.inr rfl))) (de_mod (ma := (((p_numbers.get i_233)).bind fun v_234 => some v_234)) (mb := (some p_prime)) (de_intI (m := (p_numbers.get i_233)) T.int (de_getDP (de_var 1 rfl rfl (by first | exact Or.inl rfl | exact Or.inr (Or.inl rfl) | exact Or.inr (Or.inr rfl))) (de_var 3 rfl rfl (by first | exact Or.inl rfl | exact Or.inr (Or.inl rfl) | exact Or.inr (Or.inr rfl))))) (de_var 0 rfl rfl (by first | exact Or.inl rfl | exact Or.inr (Or.inl rfl) | exact Or.inr (Or.inr rfl))))))) sc_law_made.nd rfl (by first | exact Or.inl rfl | exact Or.inr rfl) (by first | exact Or.inl rfl | exact Or.inr rfl) (sw_cell rfl)))) (fun rows_232 => (ds_ret (m := (((((some rows_232.reverse)).bind fun xs_241 => (capI xs_241).bind fun xs_241 => compO (fun (i_240 : ((Tup Int) × Int)) => ((some (!decide (i_240.2 = (0 : Int))))).bind fun k_242 => if k_242 = true then ((some i_240)).map some else some none) xs_241)).map Tup.mk)) (de_tupOf (m := (((some rows_232.reverse)).bind fun xs_241 => (capI xs_241).bind fun xs_241 => compO (fun (i_240 : ((Tup Int) × Int)) => ((some (!decide (i_240.2 = (0 : Int))))).bind fun k_242 => if k_242 = true then ((some i_240)).map some else some none) xs_241)) T.tuple (DeN.l (dn_compIf (own := [("row", 4)]) sc_law_made.nd (di_list (m := (some rows_232.reverse)) (DeN.de (dn_revL (m := (some rows_232)) (De.l (de_var 2 rfl rfl (by first | exact Or.inl rfl | exact Or.inr (Or.inl rfl) | exact Or.inr (Or.inr rfl))))))) (blkOk_by (by dsimp only [ctOf, Ct.blk]; decide +kernel)) (dg_name 4 sc_law_made.nd rfl (by first | exact Or.inl rfl | exact Or.inr rfl) (by first | exact Or.inl rfl | exact Or.inr rfl)) (by decide) (fun i_240 => (dt_c1P (f := fun (x : Int) (y : Int) => some (!decide (x = y))) cmp_neI (de_sndP (de_var 4 rfl rfl (by first | exact Or.inl rfl | exact Or.inr (Or.inl rfl) | exact Or.inr (Or.inr rfl)))) de_int)) (fun i_240 => (de_var 4 rfl rfl (by first | exact Or.inl rfl | exact Or.inr (Or.inl rfl) | exact Or.inr (Or.inr rfl))))))))))
theorem g_law_made (T : Tx K mg C fI fdI D fJ fdJ G fG fdG) : Gd P w K mg base 1 "_law_made" (fun p : Int × (Dct Int) × Unit => m_law_made p.1 p.2.1) := T.law_made.gd sc_law_made (by decide) (fun _ => rfl) (fun _ h => nomatch h) (b_law_made T)

theorem sc_law_drawn : FnScope ["prime", "count", "cell", "digits", "numbers", "k", "part", "power", "j"] ["prime", "count", "cell"] (defScope s_law_drawn) := ⟨rfl, rfl, rfl, by decide +kernel, rfl, by decide +kernel, by decide +kernel⟩
def fl_law_drawn (p_prime : Int) (p_count : Int) (p_cell : Int) : Fl Unit Unit (Tup ((Tup Int) × Int)) := (Fl.bindO (((some p_cell)).bind fun v_247 => ((some (420 : Int))).bind fun v_248 => ((((mulI (6 : Int) (p_count + (1 : Int)))).bind fun v_245 => ((some (1 : Int))).bind fun v_246 => some (v_245 + v_246))).bind fun v_249 => (m_law_digits v_247 v_248 v_249)) fun digits_244 => (Fl.bindO (((((((atI digits_244 (0 : Int))).bind fun v_251 => some v_251)).bind fun v_252 => ((some (7 : Int))).bind fun v_253 => (modI v_252 v_253))).bind fun v_254 => (rangeI v_254)) fun xs_281 => Fl.bind (Fl.loop (fun (i_256 : Int) (s_255 : ((Dct Int))) => ((Fl.bindO (((some digits_244)).bind fun v_262 => ((((((some (1 : Int))).bind fun v_258 => ((mulI i_256 (p_count + (1 : Int)))).bind fun v_259 => some (v_258 + v_259))).map some)).bind fun v_263 => ((((((some (1 : Int))).bind fun v_260 => ((mulI (i_256 + (1 : Int)) (p_count + (1 : Int)))).bind fun v_261 => some (v_260 + v_261))).map some)).bind fun v_264 => some (cutG v_262 v_263 v_264)) fun part_257 => (Fl.bindO (((((rangeI p_count)).bind fun xs_270 => (capI xs_270).bind fun xs_270 => mapO (fun (i_266 : Int) => (((((atI part_257 i_266)).bind fun v_267 => some v_267)).bind fun v_268 => ((some p_prime)).bind fun v_269 => (modI v_268 v_269))) xs_270)).map Tup.mk) fun power_265 => (Fl.bindO (((some (1 : Int))).bind fun v_274 => ((((((atI part_257 p_count)).bind fun v_271 => some v_271)).bind fun v_272 => ((some (p_prime - (1 : Int)))).bind fun v_273 => (modI v_272 v_273))).bind fun v_275 => some (v_274 + v_275)) fun y_276 => Fl.bindO (some power_265) fun z_277 => if len1 s_255.l.length = true then (fun numbers_278 => (.nx numbers_278)) (s_255.put z_277 y_276) else .err))) : Fl ((Dct Int)) ((Dct Int)) (Tup ((Tup Int) × Int)))) xs_281 (⟨[]⟩ : (Dct Int)) : Fl ((Dct Int)) Unit (Tup ((Tup Int) × Int))) fun s_279 => (Fl.bindO (m_law_made p_prime s_279) fun r_280 => .rt r_280)))
def m_law_drawn (p_prime : Int) (p_count : Int) (p_cell : Int) : Option (Tup ((Tup Int) × Int)) := (fl_law_drawn p_prime p_count p_cell).fin none
theorem b_law_drawn (T : Tx K mg C fI fdI D fJ fdJ G fG fdG) (p : Int × Int × Int × Unit) : DeS (ctOf P w K mg base 1 ["prime", "count", "cell", "digits", "numbers", "k", "part", "power", "j"] (defScope s_law_drawn)) (Pk.sl p ++ List.replicate (9 - (Pk.sl p).length) .any) (defBody s_law_drawn) (fun _ : Unit => List.replicate 9 .any) (fun _ : Unit => []) (fl_law_drawn p.1 p.2.1 p.2.2.1) := by
  obtain ⟨p_prime, p_count, p_cell, _⟩ := p
  unfold fl_law_drawn
  exact (ds_set (i := 3) (as_e (m := (((some p_cell)).bind fun v_247 => ((some (420 : Int))).bind fun v_248 => ((((mulI (6 : Int) (p_count + (1 : Int)))).bind fun v_245 => ((some (1 : Int))).bind fun v_246 => some (v_245 + v_246))).bind fun v_249 => (m_law_digits v_247 v_248 v_249))) 3 (de_call3 (m1 := (some p_cell)) (m2 := (some (420 : Int))) (m3 := (((mulI (6 : Int) (p_count + (1 : Int)))).bind fun v_245 => ((some (1 : Int))).bind fun v_246 => some (v_245 + v_246))) (f := fun p : Int × Int × Int × Unit => m_law_digits p.1 p.2.1 p.2.2.1) ((g_law_digits T).df) (de_var 2 rfl rfl (by first | exact Or.inl rfl | exact Or.inr (Or.inl rfl) | exact Or.inr (Or.inr rfl))) de_int (de_add (ma := (mulI (6 : Int) (p_count + (1 : Int)))) (mb := (some (1 : Int))) (de_mulP de_int (de_addP (de_var 1 rfl rfl (by first | exact Or.inl rfl | exact Or.inr (Or.inl rfl) | exact Or.inr (Or.inr rfl))) de_int)) de_int)) sc_law_drawn.nd rfl (by first | exact Or.inl rfl | exact Or.inr rfl) (by first | exact Or.inl rfl | exact Or.inr rfl) (fun _ _ => rfl)) (fun digits_244 => (ds_newD (α := Int) 4 sc_law_drawn.nd rfl (by first | exact Or.inl rfl | exact Or.inr rfl) (by first | exact Or.inl rfl | exact Or.inr rfl) (ds_for (sk := (fun (s : ((Dct Int))) => ([.val (p_prime : Int), .val (p_count : Int), .val (p_cell : Int), .val (digits_244 : (List Int)), .dct (s : (Dct Int)), .any, .any, .any, .any] : List Slot))) (s0 := (⟨[]⟩ : (Dct Int))) (di_range (m := (((((atI digits_244 (0 : Int))).bind fun v_251 => some v_251)).bind fun v_252 => ((some (7 : Int))).bind fun v_253 => (modI v_252 v_253))) T.range (de_mod (ma := (((atI digits_244 (0 : Int))).bind fun v_251 => some v_251)) (mb := (some (7 : Int))) (de_intI (m := (atI digits_244 (0 : Int))) T.int (de_ixLP (De.l (de_var 3 rfl rfl (by first | exact Or.inl rfl | exact Or.inr (Or.inl rfl) | exact Or.inr (Or.inr rfl)))) de_int)) de_int)) (dg_name 5 sc_law_drawn.nd rfl (by first | exact Or.inl rfl | exact Or.inr rfl) (by first | exact Or.inl rfl | exact Or.inr rfl)) (.same (.same (.same (.same (.same (.any (.any (.any (.any .nil))))))))) (fun i_256 s_255 => (ds_set (i := 6) (as_e (m := (((some digits_244)).bind fun v_262 => ((((((some (1 : Int))).bind fun v_258 => ((mulI i_256 (p_count + (1 : Int)))).bind fun v_259 => some (v_258 + v_259))).map some)).bind fun v_263 => ((((((some (1 : Int))).bind fun v_260 => ((mulI (i_256 + (1 : Int)) (p_count + (1 : Int)))).bind fun v_261 => some (v_260 + v_261))).map some)).bind fun v_264 => some (cutG v_262 v_263 v_264))) 6 (DeN.de (dn_slL (m := (some digits_244)) (ml := (((((some (1 : Int))).bind fun v_258 => ((mulI i_256 (p_count + (1 : Int)))).bind fun v_259 => some (v_258 + v_259))).map some)) (mh := (((((some (1 : Int))).bind fun v_260 => ((mulI (i_256 + (1 : Int)) (p_count + (1 : Int)))).bind fun v_261 => some (v_260 + v_261))).map some)) (De.l (de_var 3 rfl rfl (by first | exact Or.inl rfl | exact Or.inr (Or.inl rfl) | exact Or.inr (Or.inr rfl)))) (do_some (m := (((some (1 : Int))).bind fun v_258 => ((mulI i_256 (p_count + (1 : Int)))).bind fun v_259 => some (v_258 + v_259))) (de_add (ma := (some (1 : Int))) (mb := (mulI i_256 (p_count + (1 : Int)))) de_int (de_mulP (de_var 5 rfl rfl (by first | exact Or.inl rfl | exact Or.inr (Or.inl rfl) | exact Or.inr (Or.inr rfl))) (de_addP (de_var 1 rfl rfl (by first | exact Or.inl rfl | exact Or.inr (Or.inl rfl) | exact Or.inr (Or.inr rfl))) de_int)))) (do_some (m := (((some (1 : Int))).bind fun v_260 => ((mulI (i_256 + (1 : Int)) (p_count + (1 : Int)))).bind fun v_261 => some (v_260 + v_261))) (de_add (ma := (some (1 : Int))) (mb := (mulI (i_256 + (1 : Int)) (p_count + (1 : Int)))) de_int (de_mulP (de_addP (de_var 5 rfl rfl (by first | exact Or.inl rfl | exact Or.inr (Or.inl rfl) | exact Or.inr (Or.inr rfl))) de_int) (de_addP (de_var 1 rfl rfl (by first | exact Or.inl rfl | exact Or.inr (Or.inl rfl) | exact Or.inr (Or.inr rfl))) de_int)))))) sc_law_drawn.nd rfl (by first | exact Or.inl rfl | exact Or.inr rfl) (by first | exact Or.inl rfl | exact Or.inr rfl) (fun _ _ => rfl)) (fun part_257 => (ds_set (i := 7) (as_e (m := (((((rangeI p_count)).bind fun xs_270 => (capI xs_270).bind fun xs_270 => mapO (fun (i_266 : Int) => (((((atI part_257 i_266)).bind fun v_267 => some v_267)).bind fun v_268 => ((some p_prime)).bind fun v_269 => (modI v_268 v_269))) xs_270)).map Tup.mk)) 7 (de_tupOf (m := (((rangeI p_count)).bind fun xs_270 => (capI xs_270).bind fun xs_270 => mapO (fun (i_266 : Int) => (((((atI part_257 i_266)).bind fun v_267 => some v_267)).bind fun v_268 => ((some p_prime)).bind fun v_269 => (modI v_268 v_269))) xs_270)) T.tuple (DeN.l (dn_comp (own := [("j", 8)]) sc_law_drawn.nd (di_rangeP  T.range (de_var 1 rfl rfl (by first | exact Or.inl rfl | exact Or.inr (Or.inl rfl) | exact Or.inr (Or.inr rfl)))) (blkOk_by (by dsimp only [ctOf, Ct.blk]; decide +kernel)) (dg_name 8 sc_law_drawn.nd rfl (by first | exact Or.inl rfl | exact Or.inr rfl) (by first | exact Or.inl rfl | exact Or.inr rfl)) (by decide) (fun i_266 => (de_mod (ma := (((atI part_257 i_266)).bind fun v_267 => some v_267)) (mb := (some p_prime)) (de_intI (m := (atI part_257 i_266)) T.int (de_ixLP (De.l (de_var 6 rfl rfl (by first | exact Or.inl rfl | exact Or.inr (Or.inl rfl) | exact Or.inr (Or.inr rfl)))) (de_var 8 rfl rfl (by first | exact Or.inl rfl | exact Or.inr (Or.inl rfl) | exact Or.inr (Or.inr rfl))))) (de_var 0 rfl rfl (by first | exact Or.inl rfl | exact Or.inr (Or.inl rfl) | exact Or.inr (Or.inr rfl)))))))) sc_law_drawn.nd rfl (by first | exact Or.inl rfl | exact Or.inr rfl) (by first | exact Or.inl rfl | exact Or.inr rfl) (fun _ _ => rfl)) (fun power_265 => (ds_putD 4 (m := (((some (1 : Int))).bind fun v_274 => ((((((atI part_257 p_count)).bind fun v_271 => some v_271)).bind fun v_272 => ((some (p_prime - (1 : Int)))).bind fun v_273 => (modI v_272 v_273))).bind fun v_275 => some (v_274 + v_275))) (n := (some power_265)) rfl rfl (by first | exact Or.inl rfl | exact Or.inr (Or.inl rfl) | exact Or.inr (Or.inr rfl)) (de_add (ma := (some (1 : Int))) (mb := (((((atI part_257 p_count)).bind fun v_271 => some v_271)).bind fun v_272 => ((some (p_prime - (1 : Int)))).bind fun v_273 => (modI v_272 v_273))) de_int (de_mod (ma := (((atI part_257 p_count)).bind fun v_271 => some v_271)) (mb := (some (p_prime - (1 : Int)))) (de_intI (m := (atI part_257 p_count)) T.int (de_ixLP (De.l (de_var 6 rfl rfl (by first | exact Or.inl rfl | exact Or.inr (Or.inl rfl) | exact Or.inr (Or.inr rfl)))) (de_var 1 rfl rfl (by first | exact Or.inl rfl | exact Or.inr (Or.inl rfl) | exact Or.inr (Or.inr rfl))))) (de_subP (de_var 0 rfl rfl (by first | exact Or.inl rfl | exact Or.inr (Or.inl rfl) | exact Or.inr (Or.inr rfl))) de_int))) (de_var 7 rfl rfl (by first | exact Or.inl rfl | exact Or.inr (Or.inl rfl) | exact Or.inr (Or.inr rfl))) (fun numbers_278 => (ds_end (s := numbers_278) (.same (.same (.same (.same (.same (.any (.any (.any (.any .nil))))))))))) (k := fun numbers_278 => (.nx numbers_278)))))))) (fun s_279 => (ds_freezeD 4 rfl (ds_ret (m := (m_law_made p_prime s_279)) (de_call2P (a1 := p_prime) (a2 := s_279) (f := fun p : Int × (Dct Int) × Unit => m_law_made p.1 p.2.1) ((g_law_made T).df) (de_var 0 rfl rfl (by first | exact Or.inl rfl | exact Or.inr (Or.inl rfl) | exact Or.inr (Or.inr rfl))) (de_var 4 rfl rfl (by first | exact Or.inl rfl | exact Or.inr (Or.inl rfl) | exact Or.inr (Or.inr rfl)))))))))))
theorem g_law_drawn (T : Tx K mg C fI fdI D fJ fdJ G fG fdG) : Gd P w K mg base 2 "_law_drawn" (fun p : Int × Int × Int × Unit => m_law_drawn p.1 p.2.1 p.2.2.1) := T.law_drawn.gd sc_law_drawn (by decide) (fun _ => rfl) (fun _ h => nomatch h) (b_law_drawn T)

theorem sc_law_power_value : FnScope ["prime", "power", "point", "found", "k", "turn"] ["prime", "power", "point"] (defScope s_law_power_value) := ⟨rfl, rfl, rfl, by decide +kernel, rfl, by decide +kernel, by decide +kernel⟩
def fl_law_power_value (p_prime : Int) (p_power : (Tup Int)) (p_point : (Tup Int)) : Fl Unit Unit Int := (Fl.bindO (some (1 : Int)) fun found_282 => (Fl.bindO (rangeI (p_power.l.length : Int)) fun xs_298 => Fl.bind (Fl.loop (fun (i_284 : Int) (s_283 : (Int)) => ((Fl.bindO (((atI p_power.l i_284)).bind fun v_285 => (rangeI v_285)) fun xs_295 => Fl.bind (Fl.loop (fun (i_287 : Int) (s_286 : (Int)) => ((Fl.bindO (((((((some s_286)).bind fun v_289 => ((atI p_point.l i_284)).bind fun v_290 => (mulI v_289 v_290))).bind fun v_291 => some v_291)).bind fun v_292 => ((some p_prime)).bind fun v_293 => (modI v_292 v_293)) fun found_288 => (.nx found_288)) : Fl (Int) (Int) Int)) xs_295 s_283 : Fl (Int) (Int) Int) fun s_294 => (.nx s_294)) : Fl (Int) (Int) Int)) xs_298 found_282 : Fl (Int) Unit Int) fun s_296 => (Fl.bindO (some s_296) fun r_297 => .rt r_297)))
def m_law_power_value (p_prime : Int) (p_power : (Tup Int)) (p_point : (Tup Int)) : Option Int := (fl_law_power_value p_prime p_power p_point).fin none
theorem b_law_power_value (T : Tx K mg C fI fdI D fJ fdJ G fG fdG) (p : Int × (Tup Int) × (Tup Int) × Unit) : DeS (ctOf P w K mg base 0 ["prime", "power", "point", "found", "k", "turn"] (defScope s_law_power_value)) (Pk.sl p ++ List.replicate (6 - (Pk.sl p).length) .any) (defBody s_law_power_value) (fun _ : Unit => List.replicate 6 .any) (fun _ : Unit => []) (fl_law_power_value p.1 p.2.1 p.2.2.1) := by
  obtain ⟨p_prime, p_power, p_point, _⟩ := p
  unfold fl_law_power_value
  exact (ds_set (i := 3) (as_e (m := (some (1 : Int))) 3 de_int sc_law_power_value.nd rfl (by first | exact Or.inl rfl | exact Or.inr rfl) (by first | exact Or.inl rfl | exact Or.inr rfl) (fun _ _ => rfl)) (fun found_282 => (ds_for (sk := (fun (s : (Int)) => ([.val (p_prime : Int), .val (p_power : (Tup Int)), .val (p_point : (Tup Int)), .val (s : Int), .any, .any] : List Slot))) (s0 := found_282) (di_rangeP  T.range (de_lenUP  T.len (de_var 1 rfl rfl (by first | exact Or.inl rfl | exact Or.inr (Or.inl rfl) | exact Or.inr (Or.inr rfl))))) (dg_name 4 sc_law_power_value.nd rfl (by first | exact Or.inl rfl | exact Or.inr rfl) (by first | exact Or.inl rfl | exact Or.inr rfl)) (.same (.same (.same (.same (.any (.any .nil)))))) (fun i_284 s_283 => (ds_for (sk := (fun (s : (Int)) => ([.val (p_prime : Int), .val (p_power : (Tup Int)), .val (p_point : (Tup Int)), .val (s : Int), .val (i_284 : Int), .any] : List Slot))) (s0 := s_283) (di_range (m := (atI p_power.l i_284)) T.range (de_ixTP (de_var 1 rfl rfl (by first | exact Or.inl rfl | exact Or.inr (Or.inl rfl) | exact Or.inr (Or.inr rfl))) (de_var 4 rfl rfl (by first | exact Or.inl rfl | exact Or.inr (Or.inl rfl) | exact Or.inr (Or.inr rfl))))) (dg_name 5 sc_law_power_value.nd rfl (by first | exact Or.inl rfl | exact Or.inr rfl) (by first | exact Or.inl rfl | exact Or.inr rfl)) (.same (.same (.same (.same (.same (.any .nil)))))) (fun i_287 s_286 => (ds_set (i := 3) (as_e (m := (((((((some s_286)).bind fun v_289 => ((atI p_point.l i_284)).bind fun v_290 => (mulI v_289 v_290))).bind fun v_291 => some v_291)).bind fun v_292 => ((some p_prime)).bind fun v_293 => (modI v_292 v_293))) 3 (de_mod (ma := (((((some s_286)).bind fun v_289 => ((atI p_point.l i_284)).bind fun v_290 => (mulI v_289 v_290))).bind fun v_291 => some v_291)) (mb := (some p_prime)) (de_intI (m := (((some s_286)).bind fun v_289 => ((atI p_point.l i_284)).bind fun v_290 => (mulI v_289 v_290))) T.int (de_mul (ma := (some s_286)) (mb := (atI p_point.l i_284)) (de_var 3 rfl rfl (by first | exact Or.inl rfl | exact Or.inr (Or.inl rfl) | exact Or.inr (Or.inr rfl))) (de_ixTP (de_var 2 rfl rfl (by first | exact Or.inl rfl | exact Or.inr (Or.inl rfl) | exact Or.inr (Or.inr rfl))) (de_var 4 rfl rfl (by first | exact Or.inl rfl | exact Or.inr (Or.inl rfl) | exact Or.inr (Or.inr rfl)))))) (de_var 0 rfl rfl (by first | exact Or.inl rfl | exact Or.inr (Or.inl rfl) | exact Or.inr (Or.inr rfl)))) sc_law_power_value.nd rfl (by first | exact Or.inl rfl | exact Or.inr rfl) (by first | exact Or.inl rfl | exact Or.inr rfl) (fun _ _ => rfl)) (fun found_288 => (ds_end (s := found_288) (.same (.same (.same (.same (.same (.any .nil)))))))))) (fun s_294 => (ds_end (s := s_294) (.same (.same (.same (.same (.any (.any .nil)))))))))) (fun s_296 => (ds_ret (m := (some s_296)) (de_var 3 rfl rfl (by first | exact Or.inl rfl | exact Or.inr (Or.inl rfl) | exact Or.inr (Or.inr rfl))))))))
theorem g_law_power_value (T : Tx K mg C fI fdI D fJ fdJ G fG fdG) : Gd P w K mg base 1 "_law_power_value" (fun p : Int × (Tup Int) × (Tup Int) × Unit => m_law_power_value p.1 p.2.1 p.2.2.1) := T.law_power_value.gd sc_law_power_value (by decide) (fun _ => rfl) (fun _ h => nomatch h) (b_law_power_value T)

theorem sc_law_value : FnScope ["prime", "one", "point", "total", "power", "number"] ["prime", "one", "point"] (defScope s_law_value) := ⟨rfl, rfl, rfl, by decide +kernel, rfl, by decide +kernel, by decide +kernel⟩
def fl_law_value (p_prime : Int) (p_one : (Tup ((Tup Int) × Int))) (p_point : (Tup Int)) : Fl Unit Unit Int := (Fl.bindO (some (0 : Int)) fun total_299 => (Fl.bindO (some p_one.l) fun xs_309 => Fl.bind (Fl.loop (fun (i_301 : ((Tup Int) × Int)) (s_300 : (Int)) => ((Fl.bindO (((some s_300)).bind fun v_305 => ((((some i_301.2)).bind fun v_303 => ((m_law_power_value p_prime i_301.1 p_point)).bind fun v_304 => (mulI v_303 v_304))).bind fun v_306 => some (v_305 + v_306)) fun total_302 => (.nx total_302)) : Fl (Int) (Int) Int)) xs_309 total_299 : Fl (Int) Unit Int) fun s_307 => (Fl.bindO (modI s_307 p_prime) fun r_308 => .rt r_308)))
def m_law_value (p_prime : Int) (p_one : (Tup ((Tup Int) × Int))) (p_point : (Tup Int)) : Option Int := (fl_law_value p_prime p_one p_point).fin none
theorem b_law_value (T : Tx K mg C fI fdI D fJ fdJ G fG fdG) (p : Int × (Tup ((Tup Int) × Int)) × (Tup Int) × Unit) : DeS (ctOf P w K mg base 1 ["prime", "one", "point", "total", "power", "number"] (defScope s_law_value)) (Pk.sl p ++ List.replicate (6 - (Pk.sl p).length) .any) (defBody s_law_value) (fun _ : Unit => List.replicate 6 .any) (fun _ : Unit => []) (fl_law_value p.1 p.2.1 p.2.2.1) := by
  obtain ⟨p_prime, p_one, p_point, _⟩ := p
  unfold fl_law_value
  exact (ds_set (i := 3) (as_e (m := (some (0 : Int))) 3 de_int sc_law_value.nd rfl (by first | exact Or.inl rfl | exact Or.inr rfl) (by first | exact Or.inl rfl | exact Or.inr rfl) (fun _ _ => rfl)) (fun total_299 => (ds_for (sk := (fun (s : (Int)) => ([.val (p_prime : Int), .val (p_one : (Tup ((Tup Int) × Int))), .val (p_point : (Tup Int)), .val (s : Int), .any, .any] : List Slot))) (s0 := total_299) (di_tup (m := (some p_one)) (de_var 1 rfl rfl (by first | exact Or.inl rfl | exact Or.inr (Or.inl rfl) | exact Or.inr (Or.inr rfl)))) (dg_pair (dg_name 4 sc_law_value.nd rfl (by first | exact Or.inl rfl | exact Or.inr rfl) (by first | exact Or.inl rfl | exact Or.inr rfl)) (dg_name 5 sc_law_value.nd rfl (by first | exact Or.inl rfl | exact Or.inr rfl) (by first | exact Or.inl rfl | exact Or.inr rfl))) (.same (.same (.same (.same (.any (.any .nil)))))) (fun i_301 s_300 => (ds_set (i := 3) (as_e (m := (((some s_300)).bind fun v_305 => ((((some i_301.2)).bind fun v_303 => ((m_law_power_value p_prime i_301.1 p_point)).bind fun v_304 => (mulI v_303 v_304))).bind fun v_306 => some (v_305 + v_306))) 3 (de_add (ma := (some s_300)) (mb := (((some i_301.2)).bind fun v_303 => ((m_law_power_value p_prime i_301.1 p_point)).bind fun v_304 => (mulI v_303 v_304))) (de_var 3 rfl rfl (by first | exact Or.inl rfl | exact Or.inr (Or.inl rfl) | exact Or.inr (Or.inr rfl))) (de_mul (ma := (some i_301.2)) (mb := (m_law_power_value p_prime i_301.1 p_point)) (de_var 5 rfl rfl (by first | exact Or.inl rfl | exact Or.inr (Or.inl rfl) | exact Or.inr (Or.inr rfl))) (de_call3P (a1 := p_prime) (a2 := i_301.1) (a3 := p_point) (f := fun p : Int × (Tup Int) × (Tup Int) × Unit => m_law_power_value p.1 p.2.1 p.2.2.1) ((g_law_power_value T).df) (de_var 0 rfl rfl (by first | exact Or.inl rfl | exact Or.inr (Or.inl rfl) | exact Or.inr (Or.inr rfl))) (de_var 4 rfl rfl (by first | exact Or.inl rfl | exact Or.inr (Or.inl rfl) | exact Or.inr (Or.inr rfl))) (de_var 2 rfl rfl (by first | exact Or.inl rfl | exact Or.inr (Or.inl rfl) | exact Or.inr (Or.inr rfl)))))) sc_law_value.nd rfl (by first | exact Or.inl rfl | exact Or.inr rfl) (by first | exact Or.inl rfl | exact Or.inr rfl) (fun _ _ => rfl)) (fun total_302 => (ds_end (s := total_302) (.same (.same (.same (.same (.any (.any .nil)))))))))) (fun s_307 => (ds_ret (m := (modI s_307 p_prime)) (de_modP (de_intIP T.int (de_var 3 rfl rfl (by first | exact Or.inl rfl | exact Or.inr (Or.inl rfl) | exact Or.inr (Or.inr rfl)))) (de_var 0 rfl rfl (by first | exact Or.inl rfl | exact Or.inr (Or.inl rfl) | exact Or.inr (Or.inr rfl)))))))))
theorem g_law_value (T : Tx K mg C fI fdI D fJ fdJ G fG fdG) : Gd P w K mg base 2 "_law_value" (fun p : Int × (Tup ((Tup Int) × Int)) × (Tup Int) × Unit => m_law_value p.1 p.2.1 p.2.2.1) := T.law_value.gd sc_law_value (by decide) (fun _ => rfl) (fun _ h => nomatch h) (b_law_value T)

theorem sc_law_plus : FnScope ["prime", "one", "other", "numbers", "power", "number"] ["prime", "one", "other"] (defScope s_law_plus) := ⟨rfl, rfl, rfl, by decide +kernel, rfl, by decide +kernel, by decide +kernel⟩
def fl_law_plus (p_prime : Int) (p_one : (Tup ((Tup Int) × Int))) (p_other : (Tup ((Tup Int) × Int))) : Fl Unit Unit (Tup ((Tup Int) × Int)) := (Fl.bindO (((catU p_one p_other)).map (·.l)) fun xs_318 => Fl.bind (Fl.loop (fun (i_312 : ((Tup Int) × Int)) (s_311 : ((Dct Int))) => ((Fl.bindO (some (((s_311.get i_312.1).getD (0 : Int)) + i_312.2)) fun y_313 => Fl.bindO (some i_312.1) fun z_314 => if len1 s_311.l.length = true then (fun numbers_315 => (.nx numbers_315)) (s_311.put z_314 y_313) else .err) : Fl ((Dct Int)) ((Dct Int)) (Tup ((Tup Int) × Int)))) xs_318 (⟨[]⟩ : (Dct Int)) : Fl ((Dct Int)) Unit (Tup ((Tup Int) × Int))) fun s_316 => (Fl.bindO (m_law_made p_prime s_316) fun r_317 => .rt r_317))
def m_law_plus (p_prime : Int) (p_one : (Tup ((Tup Int) × Int))) (p_other : (Tup ((Tup Int) × Int))) : Option (Tup ((Tup Int) × Int)) := (fl_law_plus p_prime p_one p_other).fin none
theorem b_law_plus (T : Tx K mg C fI fdI D fJ fdJ G fG fdG) (p : Int × (Tup ((Tup Int) × Int)) × (Tup ((Tup Int) × Int)) × Unit) : DeS (ctOf P w K mg base 1 ["prime", "one", "other", "numbers", "power", "number"] (defScope s_law_plus)) (Pk.sl p ++ List.replicate (6 - (Pk.sl p).length) .any) (defBody s_law_plus) (fun _ : Unit => List.replicate 6 .any) (fun _ : Unit => []) (fl_law_plus p.1 p.2.1 p.2.2.1) := by
  obtain ⟨p_prime, p_one, p_other, _⟩ := p
  unfold fl_law_plus
  exact (ds_newD (α := Int) 3 sc_law_plus.nd rfl (by first | exact Or.inl rfl | exact Or.inr rfl) (by first | exact Or.inl rfl | exact Or.inr rfl) (ds_for (sk := (fun (s : ((Dct Int))) => ([.val (p_prime : Int), .val (p_one : (Tup ((Tup Int) × Int))), .val (p_other : (Tup ((Tup Int) × Int))), .dct (s : (Dct Int)), .any, .any] : List Slot))) (s0 := (⟨[]⟩ : (Dct Int))) (di_tup (m := (catU p_one p_other)) (de_catUP (de_var 1 rfl rfl (by first | exact Or.inl rfl | exact Or.inr (Or.inl rfl) | exact Or.inr (Or.inr rfl))) (de_var 2 rfl rfl (by first | exact Or.inl rfl | exact Or.inr (Or.inl rfl) | exact Or.inr (Or.inr rfl))))) (dg_pair (dg_name 4 sc_law_plus.nd rfl (by first | exact Or.inl rfl | exact Or.inr rfl) (by first | exact Or.inl rfl | exact Or.inr rfl)) (dg_name 5 sc_law_plus.nd rfl (by first | exact Or.inl rfl | exact Or.inr rfl) (by first | exact Or.inl rfl | exact Or.inr rfl))) (.same (.same (.same (.same (.any (.any .nil)))))) (fun i_312 s_311 => (ds_putD 3 (m := (some (((s_311.get i_312.1).getD (0 : Int)) + i_312.2))) (n := (some i_312.1)) rfl rfl (by first | exact Or.inl rfl | exact Or.inr (Or.inl rfl) | exact Or.inr (Or.inr rfl)) (de_addP (de_get2O 3 (n := (some i_312.1)) (l := (some (0 : Int))) rfl rfl (by first | exact Or.inl rfl | exact Or.inr (Or.inl rfl) | exact Or.inr (Or.inr rfl)) (de_var 4 rfl rfl (by first | exact Or.inl rfl | exact Or.inr (Or.inl rfl) | exact Or.inr (Or.inr rfl))) de_int) (de_var 5 rfl rfl (by first | exact Or.inl rfl | exact Or.inr (Or.inl rfl) | exact Or.inr (Or.inr rfl)))) (de_var 4 rfl rfl (by first | exact Or.inl rfl | exact Or.inr (Or.inl rfl) | exact Or.inr (Or.inr rfl))) (fun numbers_315 => (ds_end (s := numbers_315) (.same (.same (.same (.same (.any (.any .nil)))))))) (k := fun numbers_315 => (.nx numbers_315)))) (fun s_316 => (ds_freezeD 3 rfl (ds_ret (m := (m_law_made p_prime s_316)) (de_call2P (a1 := p_prime) (a2 := s_316) (f := fun p : Int × (Dct Int) × Unit => m_law_made p.1 p.2.1) ((g_law_made T).df) (de_var 0 rfl rfl (by first | exact Or.inl rfl | exact Or.inr (Or.inl rfl) | exact Or.inr (Or.inr rfl))) (de_var 3 rfl rfl (by first | exact Or.inl rfl | exact Or.inr (Or.inl rfl) | exact Or.inr (Or.inr rfl)))))))))
theorem g_law_plus (T : Tx K mg C fI fdI D fJ fdJ G fG fdG) : Gd P w K mg base 2 "_law_plus" (fun p : Int × (Tup ((Tup Int) × Int)) × (Tup ((Tup Int) × Int)) × Unit => m_law_plus p.1 p.2.1 p.2.2.1) := T.law_plus.gd sc_law_plus (by decide) (fun _ => rfl) (fun _ h => nomatch h) (b_law_plus T)

theorem sc_law_scaled : FnScope ["prime", "one", "number", "rows", "power", "each", "row"] ["prime", "one", "number"] (defScope s_law_scaled) := ⟨rfl, rfl, rfl, by decide +kernel, rfl, by decide +kernel, by decide +kernel⟩
def fl_law_scaled (p_prime : Int) (p_one : (Tup ((Tup Int) × Int))) (p_number : Int) : Fl Unit Unit (Tup ((Tup Int) × Int)) := (Fl.bindO (((some p_one.l)).bind fun xs_326 => (capI xs_326).bind fun xs_326 => mapO (fun (i_320 : ((Tup Int) × Int)) => (((some i_320.1)).bind fun v_324 => ((((((mulI i_320.2 p_number)).bind fun v_321 => some v_321)).bind fun v_322 => ((some p_prime)).bind fun v_323 => (modI v_322 v_323))).bind fun v_325 => some (v_324, v_325))) xs_326) fun rows_319 => (Fl.bindO (((((some rows_319)).bind fun xs_328 => (capI xs_328).bind fun xs_328 => compO (fun (i_327 : ((Tup Int) × Int)) => ((some (!decide (i_327.2 = (0 : Int))))).bind fun k_329 => if k_329 = true then ((some i_327)).map some else some none) xs_328)).map Tup.mk) fun r_330 => .rt r_330))
def m_law_scaled (p_prime : Int) (p_one : (Tup ((Tup Int) × Int))) (p_number : Int) : Option (Tup ((Tup Int) × Int)) := (fl_law_scaled p_prime p_one p_number).fin none
theorem b_law_scaled (T : Tx K mg C fI fdI D fJ fdJ G fG fdG) (p : Int × (Tup ((Tup Int) × Int)) × Int × Unit) : DeS (ctOf P w K mg base 0 ["prime", "one", "number", "rows", "power", "each", "row"] (defScope s_law_scaled)) (Pk.sl p ++ List.replicate (7 - (Pk.sl p).length) .any) (defBody s_law_scaled) (fun _ : Unit => List.replicate 7 .any) (fun _ : Unit => []) (fl_law_scaled p.1 p.2.1 p.2.2.1) := by
  obtain ⟨p_prime, p_one, p_number, _⟩ := p
  unfold fl_law_scaled
  exact (ds_set (i := 3) (AsN.toE (by first | exact (as_comp (own := [("power", 4), ("each", 5)]) 3 sc_law_scaled.nd rfl rfl rfl (by decide +kernel) (by decide +kernel) (di_tup (m := (some p_one)) (de_var 1 rfl rfl (by first | exact Or.inl rfl | exact Or.inr (Or.inl rfl) | exact Or.inr (Or.inr rfl)))) (blkOk_by (by dsimp only [ctOf, Ct.blk]; decide +kernel)) (dg_pair (dg_name 4 sc_law_scaled.nd rfl (by first | exact Or.inl rfl | exact Or.inr rfl) (by first | exact Or.inl rfl | exact Or.inr rfl)) (dg_name 5 sc_law_scaled.nd rfl (by first | exact Or.inl rfl | exact Or.inr rfl) (by first | exact Or.inl rfl | exact Or.inr rfl))) (by decide) (fun i_320 => (de_pair (m := (some i_320.1)) (n := (((((mulI i_320.2 p_number)).bind fun v_321 => some v_321)).bind fun v_322 => ((some p_prime)).bind fun v_323 => (modI v_322 v_323))) (de_var 4 rfl rfl (by first | exact Or.inl rfl | exact Or.inr (Or.inl rfl) | exact Or.inr (Or.inr rfl))) (de_mod (ma := (((mulI i_320.2 p_number)).bind fun v_321 => some v_321)) (mb := (some p_prime)) (de_intI (m := (mulI i_320.2 p_number)) T.int (de_mulP (de_var 5 rfl rfl (by first | exact Or.inl rfl | exact Or.inr (Or.inl rfl) | exact Or.inr (Or.inr rfl))) (de_var 2 rfl rfl (by first | exact Or.inl rfl | exact Or.inr (Or.inl rfl) | exact Or.inr (Or.inr rfl))))) (de_var 0 rfl rfl (by first | exact Or.inl rfl | exact Or.inr (Or.inl rfl) | exact Or.inr (Or.inr rfl))))))) | exact (as_n 3 (dn_comp (own := [("power", 4), ("each", 5)]) sc_law_scaled.nd (di_tup (m := (some p_one)) (de_var 1 rfl rfl (by first | exact Or.inl rfl | exact Or.inr (Or.inl rfl) | exact Or.inr (Or.inr rfl)))) (blkOk_by (by dsimp only [ctOf, Ct.blk]; decide +kernel)) (dg_pair (dg_name 4 sc_law_scaled.nd rfl (by first | exact Or.inl rfl | exact Or.inr rfl) (by first | exact Or.inl rfl | exact Or.inr rfl)) (dg_name 5 sc_law_scaled.nd rfl (by first | exact Or.inl rfl | exact Or.inr rfl) (by first | exact Or.inl rfl | exact Or.inr rfl))) (by decide) (fun i_320 => (de_pair (m := (some i_320.1)) (n := (((((mulI i_320.2 p_number)).bind fun v_321 => some v_321)).bind fun v_322 => ((some p_prime)).bind fun v_323 => (modI v_322 v_323))) (de_var 4 rfl rfl (by first | exact Or.inl rfl | exact Or.inr (Or.inl rfl) | exact Or.inr (Or.inr rfl))) (de_mod (ma := (((mulI i_320.2 p_number)).bind fun v_321 => some v_321)) (mb := (some p_prime)) (de_intI (m := (mulI i_320.2 p_number)) T.int (de_mulP (de_var 5 rfl rfl (by first | exact Or.inl rfl | exact Or.inr (Or.inl rfl) | exact Or.inr (Or.inr rfl))) (de_var 2 rfl rfl (by first | exact Or.inl rfl | exact Or.inr (Or.inl rfl) | exact Or.inr (Or.inr rfl))))) (de_var 0 rfl rfl (by first | exact Or.inl rfl | exact Or.inr (Or.inl rfl) | exact Or.inr (Or.inr rfl))))))) sc_law_scaled.nd rfl (by first | exact Or.inl rfl | exact Or.inr rfl) (by first | exact Or.inl rfl | exact Or.inr rfl) (sw_cell rfl)))) (fun rows_319 => (ds_ret (m := (((((some rows_319)).bind fun xs_328 => (capI xs_328).bind fun xs_328 => compO (fun (i_327 : ((Tup Int) × Int)) => ((some (!decide (i_327.2 = (0 : Int))))).bind fun k_329 => if k_329 = true then ((some i_327)).map some else some none) xs_328)).map Tup.mk)) (de_tupOf (m := (((some rows_319)).bind fun xs_328 => (capI xs_328).bind fun xs_328 => compO (fun (i_327 : ((Tup Int) × Int)) => ((some (!decide (i_327.2 = (0 : Int))))).bind fun k_329 => if k_329 = true then ((some i_327)).map some else some none) xs_328)) T.tuple (DeN.l (dn_compIf (own := [("row", 6)]) sc_law_scaled.nd (di_list (m := (some rows_319)) (de_var 3 rfl rfl (by first | exact Or.inl rfl | exact Or.inr (Or.inl rfl) | exact Or.inr (Or.inr rfl)))) (blkOk_by (by dsimp only [ctOf, Ct.blk]; decide +kernel)) (dg_name 6 sc_law_scaled.nd rfl (by first | exact Or.inl rfl | exact Or.inr rfl) (by first | exact Or.inl rfl | exact Or.inr rfl)) (by decide) (fun i_327 => (dt_c1P (f := fun (x : Int) (y : Int) => some (!decide (x = y))) cmp_neI (de_sndP (de_var 6 rfl rfl (by first | exact Or.inl rfl | exact Or.inr (Or.inl rfl) | exact Or.inr (Or.inr rfl)))) de_int)) (fun i_327 => (de_var 6 rfl rfl (by first | exact Or.inl rfl | exact Or.inr (Or.inl rfl) | exact Or.inr (Or.inr rfl))))))))))
theorem g_law_scaled (T : Tx K mg C fI fdI D fJ fdJ G fG fdG) : Gd P w K mg base 1 "_law_scaled" (fun p : Int × (Tup ((Tup Int) × Int)) × Int × Unit => m_law_scaled p.1 p.2.1 p.2.2.1) := T.law_scaled.gd sc_law_scaled (by decide) (fun _ => rfl) (fun _ h => nomatch h) (b_law_scaled T)

theorem sc_law_minus : FnScope ["prime", "one", "other"] ["prime", "one", "other"] (defScope s_law_minus) := ⟨rfl, rfl, rfl, by decide +kernel, rfl, by decide +kernel, by decide +kernel⟩
def fl_law_minus (p_prime : Int) (p_one : (Tup ((Tup Int) × Int))) (p_other : (Tup ((Tup Int) × Int))) : Fl Unit Unit (Tup ((Tup Int) × Int)) := (Fl.bindO (((some p_prime)).bind fun v_331 => ((some p_one)).bind fun v_332 => ((m_law_scaled p_prime p_other (p_prime - (1 : Int)))).bind fun v_333 => (m_law_plus v_331 v_332 v_333)) fun r_334 => .rt r_334)
def m_law_minus (p_prime : Int) (p_one : (Tup ((Tup Int) × Int))) (p_other : (Tup ((Tup Int) × Int))) : Option (Tup ((Tup Int) × Int)) := (fl_law_minus p_prime p_one p_other).fin none
theorem b_law_minus (T : Tx K mg C fI fdI D fJ fdJ G fG fdG) (p : Int × (Tup ((Tup Int) × Int)) × (Tup ((Tup Int) × Int)) × Unit) : DeS (ctOf P w K mg base 2 ["prime", "one", "other"] (defScope s_law_minus)) (Pk.sl p ++ List.replicate (3 - (Pk.sl p).length) .any) (defBody s_law_minus) (fun _ : Unit => List.replicate 3 .any) (fun _ : Unit => []) (fl_law_minus p.1 p.2.1 p.2.2.1) := by
  obtain ⟨p_prime, p_one, p_other, _⟩ := p
  unfold fl_law_minus
  exact (ds_ret (m := (((some p_prime)).bind fun v_331 => ((some p_one)).bind fun v_332 => ((m_law_scaled p_prime p_other (p_prime - (1 : Int)))).bind fun v_333 => (m_law_plus v_331 v_332 v_333))) (de_call3 (m1 := (some p_prime)) (m2 := (some p_one)) (m3 := (m_law_scaled p_prime p_other (p_prime - (1 : Int)))) (f := fun p : Int × (Tup ((Tup Int) × Int)) × (Tup ((Tup Int) × Int)) × Unit => m_law_plus p.1 p.2.1 p.2.2.1) ((g_law_plus T).df) (de_var 0 rfl rfl (by first | exact Or.inl rfl | exact Or.inr (Or.inl rfl) | exact Or.inr (Or.inr rfl))) (de_var 1 rfl rfl (by first | exact Or.inl rfl | exact Or.inr (Or.inl rfl) | exact Or.inr (Or.inr rfl))) (de_call3P (a1 := p_prime) (a2 := p_other) (a3 := (p_prime - (1 : Int))) (f := fun p : Int × (Tup ((Tup Int) × Int)) × Int × Unit => m_law_scaled p.1 p.2.1 p.2.2.1) ((g_law_scaled T).df) (de_var 0 rfl rfl (by first | exact Or.inl rfl | exact Or.inr (Or.inl rfl) | exact Or.inr (Or.inr rfl))) (de_var 2 rfl rfl (by first | exact Or.inl rfl | exact Or.inr (Or.inl rfl) | exact Or.inr (Or.inr rfl))) (de_subP (de_var 0 rfl rfl (by first | exact Or.inl rfl | exact Or.inr (Or.inl rfl) | exact Or.inr (Or.inr rfl))) de_int))))
theorem g_law_minus (T : Tx K mg C fI fdI D fJ fdJ G fG fdG) : Gd P w K mg base 3 "_law_minus" (fun p : Int × (Tup ((Tup Int) × Int)) × (Tup ((Tup Int) × Int)) × Unit => m_law_minus p.1 p.2.1 p.2.2.1) := T.law_minus.gd sc_law_minus (by decide) (fun _ => rfl) (fun _ h => nomatch h) (b_law_minus T)

theorem sc_law_constant : FnScope ["prime", "count", "number"] ["prime", "count", "number"] (defScope s_law_constant) := ⟨rfl, rfl, rfl, by decide +kernel, rfl, by decide +kernel, by decide +kernel⟩
def fl_law_constant (p_prime : Int) (p_count : Int) (p_number : Int) : Fl Unit Unit (Tup ((Tup Int) × Int)) := (Fl.bindO (((some p_prime)).bind fun v_337 => ((((repU (⟨([(0 : Int)] : List Int)⟩ : Tup Int) p_count)).bind fun v_335 => ((some p_number)).bind fun v_336 => some (⟨[(v_335, v_336)]⟩ : (Dct Int)))).bind fun v_338 => (m_law_made v_337 v_338)) fun r_339 => .rt r_339)
def m_law_constant (p_prime : Int) (p_count : Int) (p_number : Int) : Option (Tup ((Tup Int) × Int)) := (fl_law_constant p_prime p_count p_number).fin none
theorem b_law_constant (T : Tx K mg C fI fdI D fJ fdJ G fG fdG) (p : Int × Int × Int × Unit) : DeS (ctOf P w K mg base 1 ["prime", "count", "number"] (defScope s_law_constant)) (Pk.sl p ++ List.replicate (3 - (Pk.sl p).length) .any) (defBody s_law_constant) (fun _ : Unit => List.replicate 3 .any) (fun _ : Unit => []) (fl_law_constant p.1 p.2.1 p.2.2.1) := by
  obtain ⟨p_prime, p_count, p_number, _⟩ := p
  unfold fl_law_constant
  exact (ds_ret (m := (((some p_prime)).bind fun v_337 => ((((repU (⟨([(0 : Int)] : List Int)⟩ : Tup Int) p_count)).bind fun v_335 => ((some p_number)).bind fun v_336 => some (⟨[(v_335, v_336)]⟩ : (Dct Int)))).bind fun v_338 => (m_law_made v_337 v_338))) (de_call2 (m1 := (some p_prime)) (m2 := (((repU (⟨([(0 : Int)] : List Int)⟩ : Tup Int) p_count)).bind fun v_335 => ((some p_number)).bind fun v_336 => some (⟨[(v_335, v_336)]⟩ : (Dct Int)))) (f := fun p : Int × (Dct Int) × Unit => m_law_made p.1 p.2.1) ((g_law_made T).df) (de_var 0 rfl rfl (by first | exact Or.inl rfl | exact Or.inr (Or.inl rfl) | exact Or.inr (Or.inr rfl))) (DeM.de (dm_disp1 (m := (repU (⟨([(0 : Int)] : List Int)⟩ : Tup Int) p_count)) (n := (some p_number)) (de_repUP (de_tupHP (di_consP de_int di_nil)) (de_var 1 rfl rfl (by first | exact Or.inl rfl | exact Or.inr (Or.inl rfl) | exact Or.inr (Or.inr rfl)))) (de_var 2 rfl rfl (by first | exact Or.inl rfl | exact Or.inr (Or.inl rfl) | exact Or.inr (Or.inr rfl)))))))
theorem g_law_constant (T : Tx K mg C fI fdI D fJ fdJ G fG fdG) : Gd P w K mg base 2 "_law_constant" (fun p : Int × Int × Int × Unit => m_law_constant p.1 p.2.1 p.2.2.1) := T.law_constant.gd sc_law_constant (by decide) (fun _ => rfl) (fun _ h => nomatch h) (b_law_constant T)

theorem sc_law_unknown : FnScope ["count", "index", "k"] ["count", "index"] (defScope s_law_unknown) := ⟨rfl, rfl, rfl, by decide +kernel, rfl, by decide +kernel, by decide +kernel⟩
def fl_law_unknown (p_count : Int) (p_index : Int) : Fl Unit Unit (Tup ((Tup Int) × Int)) := (Fl.bindO (((((((((((rangeI p_count)).bind fun xs_341 => (capI xs_341).bind fun xs_341 => mapO (fun (i_340 : Int) => (some (if (decide (i_340 = p_index)) then (1 : Int) else 0))) xs_341)).map Tup.mk)).bind fun v_342 => ((some (1 : Int))).bind fun v_343 => some (v_342, v_343))).bind fun v_344 => ((some ([] : List ((Tup Int) × Int)))).bind fun vs_345 => some (v_344 :: vs_345))).bind fun xs => (capL xs).map Tup.mk) fun r_346 => .rt r_346)
def m_law_unknown (p_count : Int) (p_index : Int) : Option (Tup ((Tup Int) × Int)) := (fl_law_unknown p_count p_index).fin none
theorem b_law_unknown (T : Tx K mg C fI fdI D fJ fdJ G fG fdG) (p : Int × Int × Unit) : DeS (ctOf P w K mg base 0 ["count", "index", "k"] (defScope s_law_unknown)) (Pk.sl p ++ List.replicate (3 - (Pk.sl p).length) .any) (defBody s_law_unknown) (fun _ : Unit => List.replicate 3 .any) (fun _ : Unit => []) (fl_law_unknown p.1 p.2.1) := by
  obtain ⟨p_count, p_index, _⟩ := p
  unfold fl_law_unknown
  exact (ds_ret (m := (((((((((((rangeI p_count)).bind fun xs_341 => (capI xs_341).bind fun xs_341 => mapO (fun (i_340 : Int) => (some (if (decide (i_340 = p_index)) then (1 : Int) else 0))) xs_341)).map Tup.mk)).bind fun v_342 => ((some (1 : Int))).bind fun v_343 => some (v_342, v_343))).bind fun v_344 => ((some ([] : List ((Tup Int) × Int)))).bind fun vs_345 => some (v_344 :: vs_345))).bind fun xs => (capL xs).map Tup.mk)) (de_tupH (m := (((((((((rangeI p_count)).bind fun xs_341 => (capI xs_341).bind fun xs_341 => mapO (fun (i_340 : Int) => (some (if (decide (i_340 = p_index)) then (1 : Int) else 0))) xs_341)).map Tup.mk)).bind fun v_342 => ((some (1 : Int))).bind fun v_343 => some (v_342, v_343))).bind fun v_344 => ((some ([] : List ((Tup Int) × Int)))).bind fun vs_345 => some (v_344 :: vs_345))) (di_cons (m := (((((((rangeI p_count)).bind fun xs_341 => (capI xs_341).bind fun xs_341 => mapO (fun (i_340 : Int) => (some (if (decide (i_340 = p_index)) then (1 : Int) else 0))) xs_341)).map Tup.mk)).bind fun v_342 => ((some (1 : Int))).bind fun v_343 => some (v_342, v_343))) (n := (some ([] : List ((Tup Int) × Int)))) (de_pair (m := (((((rangeI p_count)).bind fun xs_341 => (capI xs_341).bind fun xs_341 => mapO (fun (i_340 : Int) => (some (if (decide (i_340 = p_index)) then (1 : Int) else 0))) xs_341)).map Tup.mk)) (n := (some (1 : Int))) (by exact (de_tupOf (m := (((rangeI p_count)).bind fun xs_341 => (capI xs_341).bind fun xs_341 => mapO (fun (i_340 : Int) => (some (if (decide (i_340 = p_index)) then (1 : Int) else 0))) xs_341)) T.tuple (DeN.l (dn_comp (own := [("k", 2)]) sc_law_unknown.nd (di_rangeP  T.range (de_var 0 rfl rfl (by first | exact Or.inl rfl | exact Or.inr (Or.inl rfl) | exact Or.inr (Or.inr rfl)))) (blkOk_by (by dsimp only [ctOf, Ct.blk]; decide +kernel)) (dg_name 2 sc_law_unknown.nd rfl (by first | exact Or.inl rfl | exact Or.inr rfl) (by first | exact Or.inl rfl | exact Or.inr rfl)) (by decide) (fun i_340 => (de_intB (m := (some (decide (i_340 = p_index)))) T.int (de_cP (f := fun (x : Int) (y : Int) => some (decide (x = y))) cmp_eqI (de_var 2 rfl rfl (by first | exact Or.inl rfl | exact Or.inr (Or.inl rfl) | exact Or.inr (Or.inr rfl))) (de_var 1 rfl rfl (by first | exact Or.inl rfl | exact Or.inr (Or.inl rfl) | exact Or.inr (Or.inr rfl)))))))))) de_int) di_nil)))
theorem g_law_unknown (T : Tx K mg C fI fdI D fJ fdJ G fG fdG) : Gd P w K mg base 1 "_law_unknown" (fun p : Int × Int × Unit => m_law_unknown p.1 p.2.1) := T.law_unknown.gd sc_law_unknown (by decide) (fun _ => rfl) (fun _ h => nomatch h) (b_law_unknown T)

theorem sc_law_equations : FnScope ["prime", "count", "cell", "digits", "points", "point", "found", "k", "one", "power", "number"] ["prime", "count", "cell"] (defScope s_law_equations) := ⟨rfl, rfl, rfl, by decide +kernel, rfl, by decide +kernel, by decide +kernel⟩
def fl_law_equations (p_prime : Int) (p_count : Int) (p_cell : Int) : Fl Unit Unit (List (Tup ((Tup Int) × Int))) := (Fl.bindO (m_law_digits p_cell (5040 : Int) (16 : Int)) fun digits_347 => (Fl.bindO (m_law_points p_prime p_count) fun points_348 => (Fl.bindO (((some points_348)).bind fun v_353 => ((((((atI digits_347 (0 : Int))).bind fun v_350 => some v_350)).bind fun v_351 => ((some (points_348.length : Int))).bind fun v_352 => (modI v_351 v_352))).bind fun v_354 => (atI v_353 v_354)) fun point_349 => (Fl.bindO (some ([] : List (Tup ((Tup Int) × Int)))) fun found_355 => (Fl.bindO (((((some ([(0 : Int), (1 : Int), (2 : Int), (2 : Int), (3 : Int), (1 : Int), (4 : Int)] : List Int))).bind fun v_359 => ((((((atI digits_347 (1 : Int))).bind fun v_356 => some v_356)).bind fun v_357 => ((some (7 : Int))).bind fun v_358 => (modI v_357 v_358))).bind fun v_360 => (atI v_359 v_360))).bind fun v_361 => (rangeI v_361)) fun xs_409 => Fl.bind (Fl.loop (fun (i_363 : Int) (s_362 : ((List (Tup ((Tup Int) × Int))))) => ((Fl.bindO (((some p_prime)).bind fun v_377 => ((some p_count)).bind fun v_378 => ((((((some digits_347)).bind fun v_367 => ((((some (2 : Int))).bind fun v_365 => ((mulI (2 : Int) i_363)).bind fun v_366 => some (v_365 + v_366))).bind fun v_368 => (atI v_367 v_368))).bind fun v_375 => ((((some (5040 : Int))).bind fun v_373 => ((((some digits_347)).bind fun v_371 => ((((some (3 : Int))).bind fun v_369 => ((mulI (2 : Int) i_363)).bind fun v_370 => some (v_369 + v_370))).bind fun v_372 => (atI v_371 v_372))).bind fun v_374 => (mulI v_373 v_374))).bind fun v_376 => some (v_375 + v_376))).bind fun v_379 => (m_law_drawn v_377 v_378 v_379)) fun one_364 => (Fl.bindO (((((((atI digits_347 (10 : Int))).bind fun v_380 => some v_380)).bind fun v_381 => ((some (4 : Int))).bind fun v_382 => (modI v_381 v_382))).bind fun v_383 => ((some (1 : Int))).bind fun v_384 => some (decide (v_383 = v_384))) fun v_389 => Fl.bind (if v_389 = true then ((Fl.bindO (((((some one_364.l)).bind fun xs_387 => (capI xs_387).bind fun xs_387 => compO (fun (i_386 : ((Tup Int) × Int)) => ((some (decide (i_386.1.l.sum < (2 : Int))))).bind fun k_388 => if k_388 = true then ((some (i_386.1, i_386.2))).map some else some none) xs_387)).map Tup.mk) fun one_385 => (.nx one_385)) : Fl ((Tup ((Tup Int) × Int))) ((List (Tup ((Tup Int) × Int)))) (List (Tup ((Tup Int) × Int)))) else (.nx one_364)) fun s_390 => (Fl.bindO (((((((atI digits_347 (11 : Int))).bind fun v_391 => some v_391)).bind fun v_392 => ((some (4 : Int))).bind fun v_393 => (modI v_392 v_393))).bind fun v_394 => ((some (0 : Int))).bind fun v_395 => some (decide (v_395 < v_394))) fun v_403 => Fl.bind (if v_403 = true then ((Fl.bindO (((some p_prime)).bind fun v_400 => ((some s_390)).bind fun v_401 => ((((some p_prime)).bind fun v_397 => ((some p_count)).bind fun v_398 => ((m_law_value p_prime s_390 point_349)).bind fun v_399 => (m_law_constant v_397 v_398 v_399))).bind fun v_402 => (m_law_minus v_400 v_401 v_402)) fun one_396 => (.nx one_396)) : Fl ((Tup ((Tup Int) × Int))) ((List (Tup ((Tup Int) × Int)))) (List (Tup ((Tup Int) × Int)))) else (.nx s_390)) fun s_404 => (Fl.bindO (some s_404) fun y_405 => if len1 s_362.length = true then (.nx (s_362 ++ [y_405])) else .err)))) : Fl ((List (Tup ((Tup Int) × Int)))) ((List (Tup ((Tup Int) × Int)))) (List (Tup ((Tup Int) × Int))))) xs_409 found_355 : Fl ((List (Tup ((Tup Int) × Int)))) Unit (List (Tup ((Tup Int) × Int)))) fun s_407 => (Fl.bindO (some s_407) fun r_408 => .rt r_408))))))
def m_law_equations (p_prime : Int) (p_count : Int) (p_cell : Int) : Option (List (Tup ((Tup Int) × Int))) := (fl_law_equations p_prime p_count p_cell).fin none
theorem b_law_equations (T : Tx K mg C fI fdI D fJ fdJ G fG fdG) (p : Int × Int × Int × Unit) : DeS (ctOf P w K mg base 3 ["prime", "count", "cell", "digits", "points", "point", "found", "k", "one", "power", "number"] (defScope s_law_equations)) (Pk.sl p ++ List.replicate (11 - (Pk.sl p).length) .any) (defBody s_law_equations) (fun _ : Unit => List.replicate 11 .any) (fun _ : Unit => []) (fl_law_equations p.1 p.2.1 p.2.2.1) := by
  obtain ⟨p_prime, p_count, p_cell, _⟩ := p
  unfold fl_law_equations
  exact (ds_set (i := 3) (as_e (m := (m_law_digits p_cell (5040 : Int) (16 : Int))) 3 (de_call3P (a1 := p_cell) (a2 := (5040 : Int)) (a3 := (16 : Int)) (f := fun p : Int × Int × Int × Unit => m_law_digits p.1 p.2.1 p.2.2.1) ((g_law_digits T).df) (de_var 2 rfl rfl (by first | exact Or.inl rfl | exact Or.inr (Or.inl rfl) | exact Or.inr (Or.inr rfl))) de_int de_int) sc_law_equations.nd rfl (by first | exact Or.inl rfl | exact Or.inr rfl) (by first | exact Or.inl rfl | exact Or.inr rfl) (fun _ _ => rfl)) (fun digits_347 => (ds_set (i := 4) (as_e (m := (m_law_points p_prime p_count)) 4 (de_call2P (a1 := p_prime) (a2 := p_count) (f := fun p : Int × Int × Unit => m_law_points p.1 p.2.1) ((g_law_points T).df) (de_var 0 rfl rfl (by first | exact Or.inl rfl | exact Or.inr (Or.inl rfl) | exact Or.inr (Or.inr rfl))) (de_var 1 rfl rfl (by first | exact Or.inl rfl | exact Or.inr (Or.inl rfl) | exact Or.inr (Or.inr rfl)))) sc_law_equations.nd rfl (by first | exact Or.inl rfl | exact Or.inr rfl) (by first | exact Or.inl rfl | exact Or.inr rfl) (fun _ _ => rfl)) (fun points_348 => (ds_set (i := 5) (as_e (m := (((some points_348)).bind fun v_353 => ((((((atI digits_347 (0 : Int))).bind fun v_350 => some v_350)).bind fun v_351 => ((some (points_348.length : Int))).bind fun v_352 => (modI v_351 v_352))).bind fun v_354 => (atI v_353 v_354))) 5 (de_ixL (m := (some points_348)) (n := (((((atI digits_347 (0 : Int))).bind fun v_350 => some v_350)).bind fun v_351 => ((some (points_348.length : Int))).bind fun v_352 => (modI v_351 v_352))) (De.l (de_var 4 rfl rfl (by first | exact Or.inl rfl | exact Or.inr (Or.inl rfl) | exact Or.inr (Or.inr rfl)))) (de_mod (ma := (((atI digits_347 (0 : Int))).bind fun v_350 => some v_350)) (mb := (some (points_348.length : Int))) (de_intI (m := (atI digits_347 (0 : Int))) T.int (de_ixLP (De.l (de_var 3 rfl rfl (by first | exact Or.inl rfl | exact Or.inr (Or.inl rfl) | exact Or.inr (Or.inr rfl)))) de_int)) (de_lenLP  T.len (De.l (de_var 4 rfl rfl (by first | exact Or.inl rfl | exact Or.inr (Or.inl rfl) | exact Or.inr (Or.inr rfl))))))) sc_law_equations.nd rfl (by first | exact Or.inl rfl | exact Or.inr rfl) (by first | exact Or.inl rfl | exact Or.inr rfl) (fun _ _ => rfl)) (fun point_349 => (ds_own (i := 6) (as_n 6 (dn_lstP di_nil) sc_law_equations.nd rfl (by first | exact Or.inl rfl | exact Or.inr rfl) (by first | exact Or.inl rfl | exact Or.inr rfl) (fun _ _ => rfl)) (fun found_355 => (ds_for (sk := (fun (s : ((List (Tup ((Tup Int) × Int))))) => ([.val (p_prime : Int), .val (p_count : Int), .val (p_cell : Int), .val (digits_347 : (List Int)), .val (points_348 : (List (Tup Int))), .val (point_349 : (Tup Int)), .own (s : (List (Tup ((Tup Int) × Int)))), .any, .any, .any, .any] : List Slot))) (s0 := found_355) (di_range (m := (((some ([(0 : Int), (1 : Int), (2 : Int), (2 : Int), (3 : Int), (1 : Int), (4 : Int)] : List Int))).bind fun v_359 => ((((((atI digits_347 (1 : Int))).bind fun v_356 => some v_356)).bind fun v_357 => ((some (7 : Int))).bind fun v_358 => (modI v_357 v_358))).bind fun v_360 => (atI v_359 v_360))) T.range (de_ixL (m := (some ([(0 : Int), (1 : Int), (2 : Int), (2 : Int), (3 : Int), (1 : Int), (4 : Int)] : List Int))) (n := (((((atI digits_347 (1 : Int))).bind fun v_356 => some v_356)).bind fun v_357 => ((some (7 : Int))).bind fun v_358 => (modI v_357 v_358))) (DeN.l (dn_lstP (di_consP de_int (di_consP de_int (di_consP de_int (di_consP de_int (di_consP de_int (di_consP de_int (di_consP de_int di_nil))))))))) (de_mod (ma := (((atI digits_347 (1 : Int))).bind fun v_356 => some v_356)) (mb := (some (7 : Int))) (de_intI (m := (atI digits_347 (1 : Int))) T.int (de_ixLP (De.l (de_var 3 rfl rfl (by first | exact Or.inl rfl | exact Or.inr (Or.inl rfl) | exact Or.inr (Or.inr rfl)))) de_int)) de_int))) (dg_name 7 sc_law_equations.nd rfl (by first | exact Or.inl rfl | exact Or.inr rfl) (by first | exact Or.inl rfl | exact Or.inr rfl)) (.same (.same (.same (.same (.same (.same (.same (.any (.any (.any (.any .nil))))))))))) (fun i_363 s_362 => (ds_set (i := 8) (as_e (m := (((some p_prime)).bind fun v_377 => ((some p_count)).bind fun v_378 => ((((((some digits_347)).bind fun v_367 => ((((some (2 : Int))).bind fun v_365 => ((mulI (2 : Int) i_363)).bind fun v_366 => some (v_365 + v_366))).bind fun v_368 => (atI v_367 v_368))).bind fun v_375 => ((((some (5040 : Int))).bind fun v_373 => ((((some digits_347)).bind fun v_371 => ((((some (3 : Int))).bind fun v_369 => ((mulI (2 : Int) i_363)).bind fun v_370 => some (v_369 + v_370))).bind fun v_372 => (atI v_371 v_372))).bind fun v_374 => (mulI v_373 v_374))).bind fun v_376 => some (v_375 + v_376))).bind fun v_379 => (m_law_drawn v_377 v_378 v_379))) 8 (de_call3 (m1 := (some p_prime)) (m2 := (some p_count)) (m3 := (((((some digits_347)).bind fun v_367 => ((((some (2 : Int))).bind fun v_365 => ((mulI (2 : Int) i_363)).bind fun v_366 => some (v_365 + v_366))).bind fun v_368 => (atI v_367 v_368))).bind fun v_375 => ((((some (5040 : Int))).bind fun v_373 => ((((some digits_347)).bind fun v_371 => ((((some (3 : Int))).bind fun v_369 => ((mulI (2 : Int) i_363)).bind fun v_370 => some (v_369 + v_370))).bind fun v_372 => (atI v_371 v_372))).bind fun v_374 => (mulI v_373 v_374))).bind fun v_376 => some (v_375 + v_376))) (f := fun p : Int × Int × Int × Unit => m_law_drawn p.1 p.2.1 p.2.2.1) ((g_law_drawn T).df) (de_var 0 rfl rfl (by first | exact Or.inl rfl | exact Or.inr (Or.inl rfl) | exact Or.inr (Or.inr rfl))) (de_var 1 rfl rfl (by first | exact Or.inl rfl | exact Or.inr (Or.inl rfl) | exact Or.inr (Or.inr rfl))) (de_add (ma := (((some digits_347)).bind fun v_367 => ((((some (2 : Int))).bind fun v_365 => ((mulI (2 : Int) i_363)).bind fun v_366 => some (v_365 + v_366))).bind fun v_368 => (atI v_367 v_368))) (mb := (((some (5040 : Int))).bind fun v_373 => ((((some digits_347)).bind fun v_371 => ((((some (3 : Int))).bind fun v_369 => ((mulI (2 : Int) i_363)).bind fun v_370 => some (v_369 + v_370))).bind fun v_372 => (atI v_371 v_372))).bind fun v_374 => (mulI v_373 v_374))) (de_ixL (m := (some digits_347)) (n := (((some (2 : Int))).bind fun v_365 => ((mulI (2 : Int) i_363)).bind fun v_366 => some (v_365 + v_366))) (De.l (de_var 3 rfl rfl (by first | exact Or.inl rfl | exact Or.inr (Or.inl rfl) | exact Or.inr (Or.inr rfl)))) (de_add (ma := (some (2 : Int))) (mb := (mulI (2 : Int) i_363)) de_int (de_mulP de_int (de_var 7 rfl rfl (by first | exact Or.inl rfl | exact Or.inr (Or.inl rfl) | exact Or.inr (Or.inr rfl)))))) (de_mul (ma := (some (5040 : Int))) (mb := (((some digits_347)).bind fun v_371 => ((((some (3 : Int))).bind fun v_369 => ((mulI (2 : Int) i_363)).bind fun v_370 => some (v_369 + v_370))).bind fun v_372 => (atI v_371 v_372))) de_int (de_ixL (m := (some digits_347)) (n := (((some (3 : Int))).bind fun v_369 => ((mulI (2 : Int) i_363)).bind fun v_370 => some (v_369 + v_370))) (De.l (de_var 3 rfl rfl (by first | exact Or.inl rfl | exact Or.inr (Or.inl rfl) | exact Or.inr (Or.inr rfl)))) (de_add (ma := (some (3 : Int))) (mb := (mulI (2 : Int) i_363)) de_int (de_mulP de_int (de_var 7 rfl rfl (by first | exact Or.inl rfl | exact Or.inr (Or.inl rfl) | exact Or.inr (Or.inr rfl))))))))) sc_law_equations.nd rfl (by first | exact Or.inl rfl | exact Or.inr rfl) (by first | exact Or.inl rfl | exact Or.inr rfl) (fun _ _ => rfl)) (fun one_364 => (ds_if (jk := (fun (s : ((Tup ((Tup Int) × Int)))) => ([.val (p_prime : Int), .val (p_count : Int), .val (p_cell : Int), .val (digits_347 : (List Int)), .val (points_348 : (List (Tup Int))), .val (point_349 : (Tup Int)), .own (s_362 : (List (Tup ((Tup Int) × Int)))), .val (i_363 : Int), .val (s : (Tup ((Tup Int) × Int))), .any, .any] : List Slot))) (mt := (((((((atI digits_347 (10 : Int))).bind fun v_380 => some v_380)).bind fun v_381 => ((some (4 : Int))).bind fun v_382 => (modI v_381 v_382))).bind fun v_383 => ((some (1 : Int))).bind fun v_384 => some (decide (v_383 = v_384)))) (dt_c1 (ma := (((((atI digits_347 (10 : Int))).bind fun v_380 => some v_380)).bind fun v_381 => ((some (4 : Int))).bind fun v_382 => (modI v_381 v_382))) (mb := (some (1 : Int))) (f := fun (x : Int) (y : Int) => some (decide (x = y))) cmp_eqI (de_mod (ma := (((atI digits_347 (10 : Int))).bind fun v_380 => some v_380)) (mb := (some (4 : Int))) (de_intI (m := (atI digits_347 (10 : Int))) T.int (de_ixLP (De.l (de_var 3 rfl rfl (by first | exact Or.inl rfl | exact Or.inr (Or.inl rfl) | exact Or.inr (Or.inr rfl)))) de_int)) de_int) de_int) (ds_set (i := 8) (as_e (m := (((((some one_364.l)).bind fun xs_387 => (capI xs_387).bind fun xs_387 => compO (fun (i_386 : ((Tup Int) × Int)) => ((some (decide (i_386.1.l.sum < (2 : Int))))).bind fun k_388 => if k_388 = true then ((some (i_386.1, i_386.2))).map some else some none) xs_387)).map Tup.mk)) 8 (de_tupOf (m := (((some one_364.l)).bind fun xs_387 => (capI xs_387).bind fun xs_387 => compO (fun (i_386 : ((Tup Int) × Int)) => ((some (decide (i_386.1.l.sum < (2 : Int))))).bind fun k_388 => if k_388 = true then ((some (i_386.1, i_386.2))).map some else some none) xs_387)) T.tuple (DeN.l (dn_compIf (own := [("power", 9), ("number", 10)]) sc_law_equations.nd (di_tup (m := (some one_364)) (de_var 8 rfl rfl (by first | exact Or.inl rfl | exact Or.inr (Or.inl rfl) | exact Or.inr (Or.inr rfl)))) (blkOk_by (by dsimp only [ctOf, Ct.blk]; decide +kernel)) (dg_pair (dg_name 9 sc_law_equations.nd rfl (by first | exact Or.inl rfl | exact Or.inr rfl) (by first | exact Or.inl rfl | exact Or.inr rfl)) (dg_name 10 sc_law_equations.nd rfl (by first | exact Or.inl rfl | exact Or.inr rfl) (by first | exact Or.inl rfl | exact Or.inr rfl))) (by decide) (fun i_386 => (dt_c1P (f := fun (x : Int) (y : Int) => some (decide (x < y))) cmp_lt (de_sumUP T.sum (de_var 9 rfl rfl (by first | exact Or.inl rfl | exact Or.inr (Or.inl rfl) | exact Or.inr (Or.inr rfl)))) de_int)) (fun i_386 => (de_pairP  (de_var 9 rfl rfl (by first | exact Or.inl rfl | exact Or.inr (Or.inl rfl) | exact Or.inr (Or.inr rfl))) (de_var 10 rfl rfl (by first | exact Or.inl rfl | exact Or.inr (Or.inl rfl) | exact Or.inr (Or.inr rfl)))))))) sc_law_equations.nd rfl (by first | exact Or.inl rfl | exact Or.inr rfl) (by first | exact Or.inl rfl | exact Or.inr rfl) (fun _ _ => rfl)) (fun one_385 => (ds_end (s := one_385) (.same (.same (.same (.same (.same (.same (.same (.same (.same (.any (.any .nil)))))))))))))) (ds_end (s := one_364) (.same (.same (.same (.same (.same (.same (.same (.same (.same (.any (.any .nil)))))))))))) (fun s_390 => (ds_if (jk := (fun (s : ((Tup ((Tup Int) × Int)))) => ([.val (p_prime : Int), .val (p_count : Int), .val (p_cell : Int), .val (digits_347 : (List Int)), .val (points_348 : (List (Tup Int))), .val (point_349 : (Tup Int)), .own (s_362 : (List (Tup ((Tup Int) × Int)))), .val (i_363 : Int), .val (s : (Tup ((Tup Int) × Int))), .any, .any] : List Slot))) (mt := (((((((atI digits_347 (11 : Int))).bind fun v_391 => some v_391)).bind fun v_392 => ((some (4 : Int))).bind fun v_393 => (modI v_392 v_393))).bind fun v_394 => ((some (0 : Int))).bind fun v_395 => some (decide (v_395 < v_394)))) (dt_c1 (ma := (((((atI digits_347 (11 : Int))).bind fun v_391 => some v_391)).bind fun v_392 => ((some (4 : Int))).bind fun v_393 => (modI v_392 v_393))) (mb := (some (0 : Int))) (f := fun (x : Int) (y : Int) => some (decide (y < x))) cmp_gt (de_mod (ma := (((atI digits_347 (11 : Int))).bind fun v_391 => some v_391)) (mb := (some (4 : Int))) (de_intI (m := (atI digits_347 (11 : Int))) T.int (de_ixLP (De.l (de_var 3 rfl rfl (by first | exact Or.inl rfl | exact Or.inr (Or.inl rfl) | exact Or.inr (Or.inr rfl)))) de_int)) de_int) de_int) (ds_set (i := 8) (as_e (m := (((some p_prime)).bind fun v_400 => ((some s_390)).bind fun v_401 => ((((some p_prime)).bind fun v_397 => ((some p_count)).bind fun v_398 => ((m_law_value p_prime s_390 point_349)).bind fun v_399 => (m_law_constant v_397 v_398 v_399))).bind fun v_402 => (m_law_minus v_400 v_401 v_402))) 8 (de_call3 (m1 := (some p_prime)) (m2 := (some s_390)) (m3 := (((some p_prime)).bind fun v_397 => ((some p_count)).bind fun v_398 => ((m_law_value p_prime s_390 point_349)).bind fun v_399 => (m_law_constant v_397 v_398 v_399))) (f := fun p : Int × (Tup ((Tup Int) × Int)) × (Tup ((Tup Int) × Int)) × Unit => m_law_minus p.1 p.2.1 p.2.2.1) ((g_law_minus T).df) (de_var 0 rfl rfl (by first | exact Or.inl rfl | exact Or.inr (Or.inl rfl) | exact Or.inr (Or.inr rfl))) (de_var 8 rfl rfl (by first | exact Or.inl rfl | exact Or.inr (Or.inl rfl) | exact Or.inr (Or.inr rfl))) (de_call3 (m1 := (some p_prime)) (m2 := (some p_count)) (m3 := (m_law_value p_prime s_390 point_349)) (f := fun p : Int × Int × Int × Unit => m_law_constant p.1 p.2.1 p.2.2.1) ((g_law_constant T).df) (de_var 0 rfl rfl (by first | exact Or.inl rfl | exact Or.inr (Or.inl rfl) | exact Or.inr (Or.inr rfl))) (de_var 1 rfl rfl (by first | exact Or.inl rfl | exact Or.inr (Or.inl rfl) | exact Or.inr (Or.inr rfl))) (de_call3P (a1 := p_prime) (a2 := s_390) (a3 := point_349) (f := fun p : Int × (Tup ((Tup Int) × Int)) × (Tup Int) × Unit => m_law_value p.1 p.2.1 p.2.2.1) ((g_law_value T).df) (de_var 0 rfl rfl (by first | exact Or.inl rfl | exact Or.inr (Or.inl rfl) | exact Or.inr (Or.inr rfl))) (de_var 8 rfl rfl (by first | exact Or.inl rfl | exact Or.inr (Or.inl rfl) | exact Or.inr (Or.inr rfl))) (de_var 5 rfl rfl (by first | exact Or.inl rfl | exact Or.inr (Or.inl rfl) | exact Or.inr (Or.inr rfl)))))) sc_law_equations.nd rfl (by first | exact Or.inl rfl | exact Or.inr rfl) (by first | exact Or.inl rfl | exact Or.inr rfl) (fun _ _ => rfl)) (fun one_396 => (ds_end (s := one_396) (.same (.same (.same (.same (.same (.same (.same (.same (.same (.any (.any .nil)))))))))))))) (ds_end (s := s_390) (.same (.same (.same (.same (.same (.same (.same (.same (.same (.any (.any .nil)))))))))))) (fun s_404 => (ds_append 6 rfl rfl (by first | exact Or.inl rfl | exact Or.inr (Or.inl rfl) | exact Or.inr (Or.inr rfl)) (de_var 8 rfl rfl (by first | exact Or.inl rfl | exact Or.inr (Or.inl rfl) | exact Or.inr (Or.inr rfl))) (fun y_405 => (ds_end (s := (s_362 ++ [y_405])) (.same (.same (.same (.same (.same (.same (.same (.any (.any (.any (.any .nil))))))))))))) (k := fun found_406 => (.nx found_406)))))))))) (fun s_407 => (ds_freeze 6 rfl (ds_ret (m := (some s_407)) (de_var 6 rfl rfl (by first | exact Or.inl rfl | exact Or.inr (Or.inl rfl) | exact Or.inr (Or.inr rfl)))))))))))))))
theorem g_law_equations (T : Tx K mg C fI fdI D fJ fdJ G fG fdG) : Gd P w K mg base 4 "_law_equations" (fun p : Int × Int × Int × Unit => m_law_equations p.1 p.2.1 p.2.2.1) := T.law_equations.gd sc_law_equations (by decide) (fun _ => rfl) (fun _ h => nomatch h) (b_law_equations T)

theorem sc_law_solutions : FnScope ["prime", "count", "equations", "found", "point", "one"] ["prime", "count", "equations"] (defScope s_law_solutions) := ⟨rfl, rfl, rfl, by decide +kernel, rfl, by decide +kernel, by decide +kernel⟩
def fl_law_solutions (p_prime : Int) (p_count : Int) (p_equations : (List (Tup ((Tup Int) × Int)))) : Fl Unit Unit (List (Tup Int)) := (Fl.bindO (some ([] : List (Tup Int))) fun found_410 => (Fl.bindO (m_law_points p_prime p_count) fun xs_424 => Fl.bind (Fl.loop (fun (i_412 : (Tup Int)) (s_411 : ((List (Tup Int)))) => ((Fl.bindO (((((some p_equations)).bind fun xs_416 => (capI xs_416).bind fun xs_416 => mapO (fun (i_413 : (Tup ((Tup Int) × Int))) => (((m_law_value p_prime i_413 i_412)).bind fun v_414 => ((some (0 : Int))).bind fun v_415 => some (decide (v_414 = v_415)))) xs_416)).bind fun v_417 => some (v_417.all id)) fun v_420 => Fl.bind (if v_420 = true then ((Fl.bindO (some i_412) fun y_418 => if len1 s_411.length = true then (.nx (s_411 ++ [y_418])) else .err) : Fl ((List (Tup Int))) ((List (Tup Int))) (List (Tup Int))) else (.nx s_411)) fun s_421 => (.nx s_421)) : Fl ((List (Tup Int))) ((List (Tup Int))) (List (Tup Int)))) xs_424 found_410 : Fl ((List (Tup Int))) Unit (List (Tup Int))) fun s_422 => (Fl.bindO (some s_422) fun r_423 => .rt r_423)))
def m_law_solutions (p_prime : Int) (p_count : Int) (p_equations : (List (Tup ((Tup Int) × Int)))) : Option (List (Tup Int)) := (fl_law_solutions p_prime p_count p_equations).fin none
theorem b_law_solutions (T : Tx K mg C fI fdI D fJ fdJ G fG fdG) (p : Int × Int × (List (Tup ((Tup Int) × Int))) × Unit) : DeS (ctOf P w K mg base 2 ["prime", "count", "equations", "found", "point", "one"] (defScope s_law_solutions)) (Pk.sl p ++ List.replicate (6 - (Pk.sl p).length) .any) (defBody s_law_solutions) (fun _ : Unit => List.replicate 6 .any) (fun _ : Unit => []) (fl_law_solutions p.1 p.2.1 p.2.2.1) := by
  obtain ⟨p_prime, p_count, p_equations, _⟩ := p
  unfold fl_law_solutions
  exact (ds_own (i := 3) (as_n 3 (dn_lstP di_nil) sc_law_solutions.nd rfl (by first | exact Or.inl rfl | exact Or.inr rfl) (by first | exact Or.inl rfl | exact Or.inr rfl) (fun _ _ => rfl)) (fun found_410 => (ds_for (sk := (fun (s : ((List (Tup Int)))) => ([.val (p_prime : Int), .val (p_count : Int), .val (p_equations : (List (Tup ((Tup Int) × Int)))), .own (s : (List (Tup Int))), .any, .any] : List Slot))) (s0 := found_410) (di_list (m := (m_law_points p_prime p_count)) (de_call2P (a1 := p_prime) (a2 := p_count) (f := fun p : Int × Int × Unit => m_law_points p.1 p.2.1) ((g_law_points T).df) (de_var 0 rfl rfl (by first | exact Or.inl rfl | exact Or.inr (Or.inl rfl) | exact Or.inr (Or.inr rfl))) (de_var 1 rfl rfl (by first | exact Or.inl rfl | exact Or.inr (Or.inl rfl) | exact Or.inr (Or.inr rfl))))) (dg_name 4 sc_law_solutions.nd rfl (by first | exact Or.inl rfl | exact Or.inr rfl) (by first | exact Or.inl rfl | exact Or.inr rfl)) (.same (.same (.same (.same (.any (.any .nil)))))) (fun i_412 s_411 => (ds_if (jk := (fun (s : ((List (Tup Int)))) => ([.val (p_prime : Int), .val (p_count : Int), .val (p_equations : (List (Tup ((Tup Int) × Int)))), .own (s : (List (Tup Int))), .val (i_412 : (Tup Int)), .any] : List Slot))) (mt := (((((some p_equations)).bind fun xs_416 => (capI xs_416).bind fun xs_416 => mapO (fun (i_413 : (Tup ((Tup Int) × Int))) => (((m_law_value p_prime i_413 i_412)).bind fun v_414 => ((some (0 : Int))).bind fun v_415 => some (decide (v_414 = v_415)))) xs_416)).bind fun v_417 => some (v_417.all id))) (dt_of (m := (((((some p_equations)).bind fun xs_416 => (capI xs_416).bind fun xs_416 => mapO (fun (i_413 : (Tup ((Tup Int) × Int))) => (((m_law_value p_prime i_413 i_412)).bind fun v_414 => ((some (0 : Int))).bind fun v_415 => some (decide (v_414 = v_415)))) xs_416)).bind fun v_417 => some (v_417.all id))) (de_all (m := (((some p_equations)).bind fun xs_416 => (capI xs_416).bind fun xs_416 => mapO (fun (i_413 : (Tup ((Tup Int) × Int))) => (((m_law_value p_prime i_413 i_412)).bind fun v_414 => ((some (0 : Int))).bind fun v_415 => some (decide (v_414 = v_415)))) xs_416)) T.all (DeN.l (dn_comp (own := [("one", 5)]) sc_law_solutions.nd (di_list (m := (some p_equations)) (de_var 2 rfl rfl (by first | exact Or.inl rfl | exact Or.inr (Or.inl rfl) | exact Or.inr (Or.inr rfl)))) (blkOk_by (by dsimp only [ctOf, Ct.blk]; decide +kernel)) (dg_name 5 sc_law_solutions.nd rfl (by first | exact Or.inl rfl | exact Or.inr rfl) (by first | exact Or.inl rfl | exact Or.inr rfl)) (by decide) (fun i_413 => (de_c (ma := (m_law_value p_prime i_413 i_412)) (mb := (some (0 : Int))) (f := fun (x : Int) (y : Int) => some (decide (x = y))) cmp_eqI (de_call3P (a1 := p_prime) (a2 := i_413) (a3 := i_412) (f := fun p : Int × (Tup ((Tup Int) × Int)) × (Tup Int) × Unit => m_law_value p.1 p.2.1 p.2.2.1) ((g_law_value T).df) (de_var 0 rfl rfl (by first | exact Or.inl rfl | exact Or.inr (Or.inl rfl) | exact Or.inr (Or.inr rfl))) (de_var 5 rfl rfl (by first | exact Or.inl rfl | exact Or.inr (Or.inl rfl) | exact Or.inr (Or.inr rfl))) (de_var 4 rfl rfl (by first | exact Or.inl rfl | exact Or.inr (Or.inl rfl) | exact Or.inr (Or.inr rfl)))) de_int)))))) (ds_append 3 rfl rfl (by first | exact Or.inl rfl | exact Or.inr (Or.inl rfl) | exact Or.inr (Or.inr rfl)) (de_var 4 rfl rfl (by first | exact Or.inl rfl | exact Or.inr (Or.inl rfl) | exact Or.inr (Or.inr rfl))) (fun y_418 => (ds_end (s := (s_411 ++ [y_418])) (.same (.same (.same (.same (.same (.any .nil)))))))) (k := fun found_419 => (.nx found_419))) (ds_end (s := s_411) (.same (.same (.same (.same (.same (.any .nil))))))) (fun s_421 => (ds_end (s := s_421) (.same (.same (.same (.same (.any (.any .nil)))))))))) (fun s_422 => (ds_freeze 3 rfl (ds_ret (m := (some s_422)) (de_var 3 rfl rfl (by first | exact Or.inl rfl | exact Or.inr (Or.inl rfl) | exact Or.inr (Or.inr rfl)))))))))
theorem g_law_solutions (T : Tx K mg C fI fdI D fJ fdJ G fG fdG) : Gd P w K mg base 3 "_law_solutions" (fun p : Int × Int × (List (Tup ((Tup Int) × Int))) × Unit => m_law_solutions p.1 p.2.1 p.2.2.1) := T.law_solutions.gd sc_law_solutions (by decide) (fun _ => rfl) (fun _ h => nomatch h) (b_law_solutions T)

theorem sc_law_step : FnScope ["prime", "count", "cell", "digits", "found", "k", "one", "power", "number"] ["prime", "count", "cell"] (defScope s_law_step) := ⟨rfl, rfl, rfl, by decide +kernel, rfl, by decide +kernel, by decide +kernel⟩
def fl_law_step (p_prime : Int) (p_count : Int) (p_cell : Int) : Fl Unit Unit (List (Tup ((Tup Int) × Int))) := (Fl.bindO (((some p_cell)).bind fun v_428 => ((some (5040 : Int))).bind fun v_429 => ((((mulI (2 : Int) p_count)).bind fun v_426 => ((some (2 : Int))).bind fun v_427 => some (v_426 + v_427))).bind fun v_430 => (m_law_digits v_428 v_429 v_430)) fun digits_425 => (Fl.bindO (some ([] : List (Tup ((Tup Int) × Int)))) fun found_431 => (Fl.bindO (rangeI p_count) fun xs_480 => Fl.bind (Fl.loop (fun (i_433 : Int) (s_432 : ((List (Tup ((Tup Int) × Int))))) => ((Fl.bindO (((some p_prime)).bind fun v_445 => ((some p_count)).bind fun v_446 => ((((((some digits_425)).bind fun v_435 => ((mulI (2 : Int) i_433)).bind fun v_436 => (atI v_435 v_436))).bind fun v_443 => ((((some (5040 : Int))).bind fun v_441 => ((((some digits_425)).bind fun v_439 => ((((mulI (2 : Int) i_433)).bind fun v_437 => ((some (1 : Int))).bind fun v_438 => some (v_437 + v_438))).bind fun v_440 => (atI v_439 v_440))).bind fun v_442 => (mulI v_441 v_442))).bind fun v_444 => some (v_443 + v_444))).bind fun v_447 => (m_law_drawn v_445 v_446 v_447)) fun one_434 => (Fl.bindO (((((((((some digits_425)).bind fun v_448 => ((mulI (2 : Int) p_count)).bind fun v_449 => (atI v_448 v_449))).bind fun v_450 => some v_450)).bind fun v_451 => ((some (3 : Int))).bind fun v_452 => (modI v_451 v_452))).bind fun v_453 => ((some (1 : Int))).bind fun v_454 => some (decide (v_453 = v_454))) fun v_459 => Fl.bind (if v_459 = true then ((Fl.bindO (((((some one_434.l)).bind fun xs_457 => (capI xs_457).bind fun xs_457 => compO (fun (i_456 : ((Tup Int) × Int)) => ((some (decide (i_456.1.l.sum < (2 : Int))))).bind fun k_458 => if k_458 = true then ((some (i_456.1, i_456.2))).map some else some none) xs_457)).map Tup.mk) fun one_455 => (.nx one_455)) : Fl ((Tup ((Tup Int) × Int))) ((List (Tup ((Tup Int) × Int)))) (List (Tup ((Tup Int) × Int)))) else (.nx one_434)) fun s_460 => (Fl.bindO (((((((((some digits_425)).bind fun v_463 => ((((mulI (2 : Int) p_count)).bind fun v_461 => ((some (1 : Int))).bind fun v_462 => some (v_461 + v_462))).bind fun v_464 => (atI v_463 v_464))).bind fun v_465 => some v_465)).bind fun v_466 => ((some (3 : Int))).bind fun v_467 => (modI v_466 v_467))).bind fun v_468 => ((some (1 : Int))).bind fun v_469 => some (decide (v_468 = v_469))) fun v_474 => Fl.bind (if v_474 = true then ((Fl.bindO (((some p_prime)).bind fun v_471 => ((m_law_unknown p_count i_433)).bind fun v_472 => ((some (⟨cutG s_460.l (none : Option Int) (some (1 : Int))⟩ : (Tup ((Tup Int) × Int))))).bind fun v_473 => (m_law_plus v_471 v_472 v_473)) fun one_470 => (.nx one_470)) : Fl ((Tup ((Tup Int) × Int))) ((List (Tup ((Tup Int) × Int)))) (List (Tup ((Tup Int) × Int)))) else (.nx s_460)) fun s_475 => (Fl.bindO (some s_475) fun y_476 => if len1 s_432.length = true then (.nx (s_432 ++ [y_476])) else .err)))) : Fl ((List (Tup ((Tup Int) × Int)))) ((List (Tup ((Tup Int) × Int)))) (List (Tup ((Tup Int) × Int))))) xs_480 found_431 : Fl ((List (Tup ((Tup Int) × Int)))) Unit (List (Tup ((Tup Int) × Int)))) fun s_478 => (Fl.bindO (some s_478) fun r_479 => .rt r_479))))
def m_law_step (p_prime : Int) (p_count : Int) (p_cell : Int) : Option (List (Tup ((Tup Int) × Int))) := (fl_law_step p_prime p_count p_cell).fin none
theorem b_law_step (T : Tx K mg C fI fdI D fJ fdJ G fG fdG) (p : Int × Int × Int × Unit) : DeS (ctOf P w K mg base 2 ["prime", "count", "cell", "digits", "found", "k", "one", "power", "number"] (defScope s_law_step)) (Pk.sl p ++ List.replicate (9 - (Pk.sl p).length) .any) (defBody s_law_step) (fun _ : Unit => List.replicate 9 .any) (fun _ : Unit => []) (fl_law_step p.1 p.2.1 p.2.2.1) := by
  obtain ⟨p_prime, p_count, p_cell, _⟩ := p
  unfold fl_law_step
  exact (ds_set (i := 3) (as_e (m := (((some p_cell)).bind fun v_428 => ((some (5040 : Int))).bind fun v_429 => ((((mulI (2 : Int) p_count)).bind fun v_426 => ((some (2 : Int))).bind fun v_427 => some (v_426 + v_427))).bind fun v_430 => (m_law_digits v_428 v_429 v_430))) 3 (de_call3 (m1 := (some p_cell)) (m2 := (some (5040 : Int))) (m3 := (((mulI (2 : Int) p_count)).bind fun v_426 => ((some (2 : Int))).bind fun v_427 => some (v_426 + v_427))) (f := fun p : Int × Int × Int × Unit => m_law_digits p.1 p.2.1 p.2.2.1) ((g_law_digits T).df) (de_var 2 rfl rfl (by first | exact Or.inl rfl | exact Or.inr (Or.inl rfl) | exact Or.inr (Or.inr rfl))) de_int (de_add (ma := (mulI (2 : Int) p_count)) (mb := (some (2 : Int))) (de_mulP de_int (de_var 1 rfl rfl (by first | exact Or.inl rfl | exact Or.inr (Or.inl rfl) | exact Or.inr (Or.inr rfl)))) de_int)) sc_law_step.nd rfl (by first | exact Or.inl rfl | exact Or.inr rfl) (by first | exact Or.inl rfl | exact Or.inr rfl) (fun _ _ => rfl)) (fun digits_425 => (ds_own (i := 4) (as_n 4 (dn_lstP di_nil) sc_law_step.nd rfl (by first | exact Or.inl rfl | exact Or.inr rfl) (by first | exact Or.inl rfl | exact Or.inr rfl) (fun _ _ => rfl)) (fun found_431 => (ds_for (sk := (fun (s : ((List (Tup ((Tup Int) × Int))))) => ([.val (p_prime : Int), .val (p_count : Int), .val (p_cell : Int), .val (digits_425 : (List Int)), .own (s : (List (Tup ((Tup Int) × Int)))), .any, .any, .any, .any] : List Slot))) (s0 := found_431) (di_rangeP  T.range (de_var 1 rfl rfl (by first | exact Or.inl rfl | exact Or.inr (Or.inl rfl) | exact Or.inr (Or.inr rfl)))) (dg_name 5 sc_law_step.nd rfl (by first | exact Or.inl rfl | exact Or.inr rfl) (by first | exact Or.inl rfl | exact Or.inr rfl)) (.same (.same (.same (.same (.same (.any (.any (.any (.any .nil))))))))) (fun i_433 s_432 => (ds_set (i := 6) (as_e (m := (((some p_prime)).bind fun v_445 => ((some p_count)).bind fun v_446 => ((((((some digits_425)).bind fun v_435 => ((mulI (2 : Int) i_433)).bind fun v_436 => (atI v_435 v_436))).bind fun v_443 => ((((some (5040 : Int))).bind fun v_441 => ((((some digits_425)).bind fun v_439 => ((((mulI (2 : Int) i_433)).bind fun v_437 => ((some (1 : Int))).bind fun v_438 => some (v_437 + v_438))).bind fun v_440 => (atI v_439 v_440))).bind fun v_442 => (mulI v_441 v_442))).bind fun v_444 => some (v_443 + v_444))).bind fun v_447 => (m_law_drawn v_445 v_446 v_447))) 6 (de_call3 (m1 := (some p_prime)) (m2 := (some p_count)) (m3 := (((((some digits_425)).bind fun v_435 => ((mulI (2 : Int) i_433)).bind fun v_436 => (atI v_435 v_436))).bind fun v_443 => ((((some (5040 : Int))).bind fun v_441 => ((((some digits_425)).bind fun v_439 => ((((mulI (2 : Int) i_433)).bind fun v_437 => ((some (1 : Int))).bind fun v_438 => some (v_437 + v_438))).bind fun v_440 => (atI v_439 v_440))).bind fun v_442 => (mulI v_441 v_442))).bind fun v_444 => some (v_443 + v_444))) (f := fun p : Int × Int × Int × Unit => m_law_drawn p.1 p.2.1 p.2.2.1) ((g_law_drawn T).df) (de_var 0 rfl rfl (by first | exact Or.inl rfl | exact Or.inr (Or.inl rfl) | exact Or.inr (Or.inr rfl))) (de_var 1 rfl rfl (by first | exact Or.inl rfl | exact Or.inr (Or.inl rfl) | exact Or.inr (Or.inr rfl))) (de_add (ma := (((some digits_425)).bind fun v_435 => ((mulI (2 : Int) i_433)).bind fun v_436 => (atI v_435 v_436))) (mb := (((some (5040 : Int))).bind fun v_441 => ((((some digits_425)).bind fun v_439 => ((((mulI (2 : Int) i_433)).bind fun v_437 => ((some (1 : Int))).bind fun v_438 => some (v_437 + v_438))).bind fun v_440 => (atI v_439 v_440))).bind fun v_442 => (mulI v_441 v_442))) (de_ixL (m := (some digits_425)) (n := (mulI (2 : Int) i_433)) (De.l (de_var 3 rfl rfl (by first | exact Or.inl rfl | exact Or.inr (Or.inl rfl) | exact Or.inr (Or.inr rfl)))) (de_mulP de_int (de_var 5 rfl rfl (by first | exact Or.inl rfl | exact Or.inr (Or.inl rfl) | exact Or.inr (Or.inr rfl))))) (de_mul (ma := (some (5040 : Int))) (mb := (((some digits_425)).bind fun v_439 => ((((mulI (2 : Int) i_433)).bind fun v_437 => ((some (1 : Int))).bind fun v_438 => some (v_437 + v_438))).bind fun v_440 => (atI v_439 v_440))) de_int (de_ixL (m := (some digits_425)) (n := (((mulI (2 : Int) i_433)).bind fun v_437 => ((some (1 : Int))).bind fun v_438 => some (v_437 + v_438))) (De.l (de_var 3 rfl rfl (by first | exact Or.inl rfl | exact Or.inr (Or.inl rfl) | exact Or.inr (Or.inr rfl)))) (de_add (ma := (mulI (2 : Int) i_433)) (mb := (some (1 : Int))) (de_mulP de_int (de_var 5 rfl rfl (by first | exact Or.inl rfl | exact Or.inr (Or.inl rfl) | exact Or.inr (Or.inr rfl)))) de_int))))) sc_law_step.nd rfl (by first | exact Or.inl rfl | exact Or.inr rfl) (by first | exact Or.inl rfl | exact Or.inr rfl) (fun _ _ => rfl)) (fun one_434 => (ds_if (jk := (fun (s : ((Tup ((Tup Int) × Int)))) => ([.val (p_prime : Int), .val (p_count : Int), .val (p_cell : Int), .val (digits_425 : (List Int)), .own (s_432 : (List (Tup ((Tup Int) × Int)))), .val (i_433 : Int), .val (s : (Tup ((Tup Int) × Int))), .any, .any] : List Slot))) (mt := (((((((((some digits_425)).bind fun v_448 => ((mulI (2 : Int) p_count)).bind fun v_449 => (atI v_448 v_449))).bind fun v_450 => some v_450)).bind fun v_451 => ((some (3 : Int))).bind fun v_452 => (modI v_451 v_452))).bind fun v_453 => ((some (1 : Int))).bind fun v_454 => some (decide (v_453 = v_454)))) (dt_c1 (ma := (((((((some digits_425)).bind fun v_448 => ((mulI (2 : Int) p_count)).bind fun v_449 => (atI v_448 v_449))).bind fun v_450 => some v_450)).bind fun v_451 => ((some (3 : Int))).bind fun v_452 => (modI v_451 v_452))) (mb := (some (1 : Int))) (f := fun (x : Int) (y : Int) => some (decide (x = y))) cmp_eqI (de_mod (ma := (((((some digits_425)).bind fun v_448 => ((mulI (2 : Int) p_count)).bind fun v_449 => (atI v_448 v_449))).bind fun v_450 => some v_450)) (mb := (some (3 : Int))) (de_intI (m := (((some digits_425)).bind fun v_448 => ((mulI (2 : Int) p_count)).bind fun v_449 => (atI v_448 v_449))) T.int (de_ixL (m := (some digits_425)) (n := (mulI (2 : Int) p_count)) (De.l (de_var 3 rfl rfl (by first | exact Or.inl rfl | exact Or.inr (Or.inl rfl) | exact Or.inr (Or.inr rfl)))) (de_mulP de_int (de_var 1 rfl rfl (by first | exact Or.inl rfl | exact Or.inr (Or.inl rfl) | exact Or.inr (Or.inr rfl)))))) de_int) de_int) (ds_set (i := 6) (as_e (m := (((((some one_434.l)).bind fun xs_457 => (capI xs_457).bind fun xs_457 => compO (fun (i_456 : ((Tup Int) × Int)) => ((some (decide (i_456.1.l.sum < (2 : Int))))).bind fun k_458 => if k_458 = true then ((some (i_456.1, i_456.2))).map some else some none) xs_457)).map Tup.mk)) 6 (de_tupOf (m := (((some one_434.l)).bind fun xs_457 => (capI xs_457).bind fun xs_457 => compO (fun (i_456 : ((Tup Int) × Int)) => ((some (decide (i_456.1.l.sum < (2 : Int))))).bind fun k_458 => if k_458 = true then ((some (i_456.1, i_456.2))).map some else some none) xs_457)) T.tuple (DeN.l (dn_compIf (own := [("power", 7), ("number", 8)]) sc_law_step.nd (di_tup (m := (some one_434)) (de_var 6 rfl rfl (by first | exact Or.inl rfl | exact Or.inr (Or.inl rfl) | exact Or.inr (Or.inr rfl)))) (blkOk_by (by dsimp only [ctOf, Ct.blk]; decide +kernel)) (dg_pair (dg_name 7 sc_law_step.nd rfl (by first | exact Or.inl rfl | exact Or.inr rfl) (by first | exact Or.inl rfl | exact Or.inr rfl)) (dg_name 8 sc_law_step.nd rfl (by first | exact Or.inl rfl | exact Or.inr rfl) (by first | exact Or.inl rfl | exact Or.inr rfl))) (by decide) (fun i_456 => (dt_c1P (f := fun (x : Int) (y : Int) => some (decide (x < y))) cmp_lt (de_sumUP T.sum (de_var 7 rfl rfl (by first | exact Or.inl rfl | exact Or.inr (Or.inl rfl) | exact Or.inr (Or.inr rfl)))) de_int)) (fun i_456 => (de_pairP  (de_var 7 rfl rfl (by first | exact Or.inl rfl | exact Or.inr (Or.inl rfl) | exact Or.inr (Or.inr rfl))) (de_var 8 rfl rfl (by first | exact Or.inl rfl | exact Or.inr (Or.inl rfl) | exact Or.inr (Or.inr rfl)))))))) sc_law_step.nd rfl (by first | exact Or.inl rfl | exact Or.inr rfl) (by first | exact Or.inl rfl | exact Or.inr rfl) (fun _ _ => rfl)) (fun one_455 => (ds_end (s := one_455) (.same (.same (.same (.same (.same (.same (.same (.any (.any .nil)))))))))))) (ds_end (s := one_434) (.same (.same (.same (.same (.same (.same (.same (.any (.any .nil)))))))))) (fun s_460 => (ds_if (jk := (fun (s : ((Tup ((Tup Int) × Int)))) => ([.val (p_prime : Int), .val (p_count : Int), .val (p_cell : Int), .val (digits_425 : (List Int)), .own (s_432 : (List (Tup ((Tup Int) × Int)))), .val (i_433 : Int), .val (s : (Tup ((Tup Int) × Int))), .any, .any] : List Slot))) (mt := (((((((((some digits_425)).bind fun v_463 => ((((mulI (2 : Int) p_count)).bind fun v_461 => ((some (1 : Int))).bind fun v_462 => some (v_461 + v_462))).bind fun v_464 => (atI v_463 v_464))).bind fun v_465 => some v_465)).bind fun v_466 => ((some (3 : Int))).bind fun v_467 => (modI v_466 v_467))).bind fun v_468 => ((some (1 : Int))).bind fun v_469 => some (decide (v_468 = v_469)))) (dt_c1 (ma := (((((((some digits_425)).bind fun v_463 => ((((mulI (2 : Int) p_count)).bind fun v_461 => ((some (1 : Int))).bind fun v_462 => some (v_461 + v_462))).bind fun v_464 => (atI v_463 v_464))).bind fun v_465 => some v_465)).bind fun v_466 => ((some (3 : Int))).bind fun v_467 => (modI v_466 v_467))) (mb := (some (1 : Int))) (f := fun (x : Int) (y : Int) => some (decide (x = y))) cmp_eqI (de_mod (ma := (((((some digits_425)).bind fun v_463 => ((((mulI (2 : Int) p_count)).bind fun v_461 => ((some (1 : Int))).bind fun v_462 => some (v_461 + v_462))).bind fun v_464 => (atI v_463 v_464))).bind fun v_465 => some v_465)) (mb := (some (3 : Int))) (de_intI (m := (((some digits_425)).bind fun v_463 => ((((mulI (2 : Int) p_count)).bind fun v_461 => ((some (1 : Int))).bind fun v_462 => some (v_461 + v_462))).bind fun v_464 => (atI v_463 v_464))) T.int (de_ixL (m := (some digits_425)) (n := (((mulI (2 : Int) p_count)).bind fun v_461 => ((some (1 : Int))).bind fun v_462 => some (v_461 + v_462))) (De.l (de_var 3 rfl rfl (by first | exact Or.inl rfl | exact Or.inr (Or.inl rfl) | exact Or.inr (Or.inr rfl)))) (de_add (ma := (mulI (2 : Int) p_count)) (mb := (some (1 : Int))) (de_mulP de_int (de_var 1 rfl rfl (by first | exact Or.inl rfl | exact Or.inr (Or.inl rfl) | exact Or.inr (Or.inr rfl)))) de_int))) de_int) de_int) (ds_set (i := 6) (as_e (m := (((some p_prime)).bind fun v_471 => ((m_law_unknown p_count i_433)).bind fun v_472 => ((some (⟨cutG s_460.l (none : Option Int) (some (1 : Int))⟩ : (Tup ((Tup Int) × Int))))).bind fun v_473 => (m_law_plus v_471 v_472 v_473))) 6 (de_call3 (m1 := (some p_prime)) (m2 := (m_law_unknown p_count i_433)) (m3 := (some (⟨cutG s_460.l (none : Option Int) (some (1 : Int))⟩ : (Tup ((Tup Int) × Int))))) (f := fun p : Int × (Tup ((Tup Int) × Int)) × (Tup ((Tup Int) × Int)) × Unit => m_law_plus p.1 p.2.1 p.2.2.1) ((g_law_plus T).df) (de_var 0 rfl rfl (by first | exact Or.inl rfl | exact Or.inr (Or.inl rfl) | exact Or.inr (Or.inr rfl))) (de_call2P (a1 := p_count) (a2 := i_433) (f := fun p : Int × Int × Unit => m_law_unknown p.1 p.2.1) ((g_law_unknown T).df) (de_var 1 rfl rfl (by first | exact Or.inl rfl | exact Or.inr (Or.inl rfl) | exact Or.inr (Or.inr rfl))) (de_var 5 rfl rfl (by first | exact Or.inl rfl | exact Or.inr (Or.inl rfl) | exact Or.inr (Or.inr rfl)))) (de_slTP (de_var 6 rfl rfl (by first | exact Or.inl rfl | exact Or.inr (Or.inl rfl) | exact Or.inr (Or.inr rfl))) do_none (do_someP de_int))) sc_law_step.nd rfl (by first | exact Or.inl rfl | exact Or.inr rfl) (by first | exact Or.inl rfl | exact Or.inr rfl) (fun _ _ => rfl)) (fun one_470 => (ds_end (s := one_470) (.same (.same (.same (.same (.same (.same (.same (.any (.any .nil)))))))))))) (ds_end (s := s_460) (.same (.same (.same (.same (.same (.same (.same (.any (.any .nil)))))))))) (fun s_475 => (ds_append 4 rfl rfl (by first | exact Or.inl rfl | exact Or.inr (Or.inl rfl) | exact Or.inr (Or.inr rfl)) (de_var 6 rfl rfl (by first | exact Or.inl rfl | exact Or.inr (Or.inl rfl) | exact Or.inr (Or.inr rfl))) (fun y_476 => (ds_end (s := (s_432 ++ [y_476])) (.same (.same (.same (.same (.same (.any (.any (.any (.any .nil))))))))))) (k := fun found_477 => (.nx found_477)))))))))) (fun s_478 => (ds_freeze 4 rfl (ds_ret (m := (some s_478)) (de_var 4 rfl rfl (by first | exact Or.inl rfl | exact Or.inr (Or.inl rfl) | exact Or.inr (Or.inr rfl)))))))))))
theorem g_law_step (T : Tx K mg C fI fdI D fJ fdJ G fG fdG) : Gd P w K mg base 3 "_law_step" (fun p : Int × Int × Int × Unit => m_law_step p.1 p.2.1 p.2.2.1) := T.law_step.gd sc_law_step (by decide) (fun _ => rfl) (fun _ h => nomatch h) (b_law_step T)

theorem sc_law_after : FnScope ["prime", "step", "point", "one"] ["prime", "step", "point"] (defScope s_law_after) := ⟨rfl, rfl, rfl, by decide +kernel, rfl, by decide +kernel, by decide +kernel⟩
def fl_law_after (p_prime : Int) (p_step : (List (Tup ((Tup Int) × Int)))) (p_point : (Tup Int)) : Fl Unit Unit (Tup Int) := (Fl.bindO (((((some p_step)).bind fun xs_482 => (capI xs_482).bind fun xs_482 => mapO (fun (i_481 : (Tup ((Tup Int) × Int))) => (m_law_value p_prime i_481 p_point)) xs_482)).map Tup.mk) fun r_483 => .rt r_483)
def m_law_after (p_prime : Int) (p_step : (List (Tup ((Tup Int) × Int)))) (p_point : (Tup Int)) : Option (Tup Int) := (fl_law_after p_prime p_step p_point).fin none
theorem b_law_after (T : Tx K mg C fI fdI D fJ fdJ G fG fdG) (p : Int × (List (Tup ((Tup Int) × Int))) × (Tup Int) × Unit) : DeS (ctOf P w K mg base 2 ["prime", "step", "point", "one"] (defScope s_law_after)) (Pk.sl p ++ List.replicate (4 - (Pk.sl p).length) .any) (defBody s_law_after) (fun _ : Unit => List.replicate 4 .any) (fun _ : Unit => []) (fl_law_after p.1 p.2.1 p.2.2.1) := by
  obtain ⟨p_prime, p_step, p_point, _⟩ := p
  unfold fl_law_after
  exact (ds_ret (m := (((((some p_step)).bind fun xs_482 => (capI xs_482).bind fun xs_482 => mapO (fun (i_481 : (Tup ((Tup Int) × Int))) => (m_law_value p_prime i_481 p_point)) xs_482)).map Tup.mk)) (de_tupOf (m := (((some p_step)).bind fun xs_482 => (capI xs_482).bind fun xs_482 => mapO (fun (i_481 : (Tup ((Tup Int) × Int))) => (m_law_value p_prime i_481 p_point)) xs_482)) T.tuple (DeN.l (dn_comp (own := [("one", 3)]) sc_law_after.nd (di_list (m := (some p_step)) (de_var 1 rfl rfl (by first | exact Or.inl rfl | exact Or.inr (Or.inl rfl) | exact Or.inr (Or.inr rfl)))) (blkOk_by (by dsimp only [ctOf, Ct.blk]; decide +kernel)) (dg_name 3 sc_law_after.nd rfl (by first | exact Or.inl rfl | exact Or.inr rfl) (by first | exact Or.inl rfl | exact Or.inr rfl)) (by decide) (fun i_481 => (de_call3P (a1 := p_prime) (a2 := i_481) (a3 := p_point) (f := fun p : Int × (Tup ((Tup Int) × Int)) × (Tup Int) × Unit => m_law_value p.1 p.2.1 p.2.2.1) ((g_law_value T).df) (de_var 0 rfl rfl (by first | exact Or.inl rfl | exact Or.inr (Or.inl rfl) | exact Or.inr (Or.inr rfl))) (de_var 3 rfl rfl (by first | exact Or.inl rfl | exact Or.inr (Or.inl rfl) | exact Or.inr (Or.inr rfl))) (de_var 2 rfl rfl (by first | exact Or.inl rfl | exact Or.inr (Or.inl rfl) | exact Or.inr (Or.inr rfl)))))))))
theorem g_law_after (T : Tx K mg C fI fdI D fJ fdJ G fG fdG) : Gd P w K mg base 3 "_law_after" (fun p : Int × (List (Tup ((Tup Int) × Int))) × (Tup Int) × Unit => m_law_after p.1 p.2.1 p.2.2.1) := T.law_after.gd sc_law_after (by decide) (fun _ => rfl) (fun _ h => nomatch h) (b_law_after T)

theorem sc_law_reached : FnScope ["prime", "step", "starts", "found", "k", "following"] ["prime", "step", "starts"] (defScope s_law_reached) := ⟨rfl, rfl, rfl, by decide +kernel, rfl, by decide +kernel, by decide +kernel⟩
def fl_law_reached (p_prime : Int) (p_step : (List (Tup ((Tup Int) × Int)))) (p_starts : (List (Tup Int))) : Fl Unit Unit (List (Tup Int)) := (Fl.bindO (some p_starts) fun found_484 => (Fl.bindO (rangeI (300 : Int)) fun xs_499 => Fl.bind (Fl.loop (fun (i_486 : Int) (s_485 : ((List (Tup Int)))) => ((Fl.bindO (some (decide (i_486 < (s_485.length : Int)))) fun v_495 => Fl.bind (if v_495 = true then ((Fl.bindO (((some p_prime)).bind fun v_488 => ((some p_step)).bind fun v_489 => ((atI s_485 i_486)).bind fun v_490 => (m_law_after v_488 v_489 v_490)) fun following_487 => (Fl.bindO (ninD following_487 s_485) fun v_493 => Fl.bind (if v_493 = true then ((Fl.bindO (some following_487) fun y_491 => if len1 s_485.length = true then (.nx (s_485 ++ [y_491])) else .err) : Fl ((List (Tup Int))) ((List (Tup Int))) (List (Tup Int))) else (.nx s_485)) fun s_494 => (.nx s_494))) : Fl ((List (Tup Int))) ((List (Tup Int))) (List (Tup Int))) else (.nx s_485)) fun s_496 => (.nx s_496)) : Fl ((List (Tup Int))) ((List (Tup Int))) (List (Tup Int)))) xs_499 found_484 : Fl ((List (Tup Int))) Unit (List (Tup Int))) fun s_497 => (Fl.bindO (some s_497) fun r_498 => .rt r_498)))
def m_law_reached (p_prime : Int) (p_step : (List (Tup ((Tup Int) × Int)))) (p_starts : (List (Tup Int))) : Option (List (Tup Int)) := (fl_law_reached p_prime p_step p_starts).fin none
theorem b_law_reached (T : Tx K mg C fI fdI D fJ fdJ G fG fdG) (p : Int × (List (Tup ((Tup Int) × Int))) × (List (Tup Int)) × Unit) : DeS (ctOf P w K mg base 3 ["prime", "step", "starts", "found", "k", "following"] (defScope s_law_reached)) (Pk.sl p ++ List.replicate (6 - (Pk.sl p).length) .any) (defBody s_law_reached) (fun _ : Unit => List.replicate 6 .any) (fun _ : Unit => []) (fl_law_reached p.1 p.2.1 p.2.2.1) := by
  obtain ⟨p_prime, p_step, p_starts, _⟩ := p
  unfold fl_law_reached
  exact (ds_own (i := 3) (as_n 3 (dn_list (m := (some p_starts)) T.list (De.l (de_var 2 rfl rfl (by first | exact Or.inl rfl | exact Or.inr (Or.inl rfl) | exact Or.inr (Or.inr rfl))))) sc_law_reached.nd rfl (by first | exact Or.inl rfl | exact Or.inr rfl) (by first | exact Or.inl rfl | exact Or.inr rfl) (fun _ _ => rfl)) (fun found_484 => (ds_for (sk := (fun (s : ((List (Tup Int)))) => ([.val (p_prime : Int), .val (p_step : (List (Tup ((Tup Int) × Int)))), .val (p_starts : (List (Tup Int))), .own (s : (List (Tup Int))), .any, .any] : List Slot))) (s0 := found_484) (di_rangeP  T.range de_int) (dg_name 4 sc_law_reached.nd rfl (by first | exact Or.inl rfl | exact Or.inr rfl) (by first | exact Or.inl rfl | exact Or.inr rfl)) (.same (.same (.same (.same (.any (.any .nil)))))) (fun i_486 s_485 => (ds_if (jk := (fun (s : ((List (Tup Int)))) => ([.val (p_prime : Int), .val (p_step : (List (Tup ((Tup Int) × Int)))), .val (p_starts : (List (Tup Int))), .own (s : (List (Tup Int))), .val (i_486 : Int), .any] : List Slot))) (mt := (some (decide (i_486 < (s_485.length : Int))))) (dt_lend 3 rfl (dt_c1P (f := fun (x : Int) (y : Int) => some (decide (x < y))) cmp_lt (de_var 4 rfl rfl (by first | exact Or.inl rfl | exact Or.inr (Or.inl rfl) | exact Or.inr (Or.inr rfl))) (de_lenLP  T.len (De.l (de_var 3 rfl rfl (by first | exact Or.inl rfl | exact Or.inr (Or.inl rfl) | exact Or.inr (Or.inr rfl))))))) (ds_set (i := 5) (as_e (m := (((some p_prime)).bind fun v_488 => ((some p_step)).bind fun v_489 => ((atI s_485 i_486)).bind fun v_490 => (m_law_after v_488 v_489 v_490))) 5 (de_call3 (m1 := (some p_prime)) (m2 := (some p_step)) (m3 := (atI s_485 i_486)) (f := fun p : Int × (List (Tup ((Tup Int) × Int))) × (Tup Int) × Unit => m_law_after p.1 p.2.1 p.2.2.1) ((g_law_after T).df) (de_var 0 rfl rfl (by first | exact Or.inl rfl | exact Or.inr (Or.inl rfl) | exact Or.inr (Or.inr rfl))) (de_var 1 rfl rfl (by first | exact Or.inl rfl | exact Or.inr (Or.inl rfl) | exact Or.inr (Or.inr rfl))) (de_ixLP (dl_own 3 rfl rfl (by first | exact Or.inl rfl | exact Or.inr (Or.inl rfl) | exact Or.inr (Or.inr rfl))) (de_var 4 rfl rfl (by first | exact Or.inl rfl | exact Or.inr (Or.inl rfl) | exact Or.inr (Or.inr rfl))))) sc_law_reached.nd rfl (by first | exact Or.inl rfl | exact Or.inr rfl) (by first | exact Or.inl rfl | exact Or.inr rfl) (fun _ _ => rfl)) (fun following_487 => (ds_if (jk := (fun (s : ((List (Tup Int)))) => ([.val (p_prime : Int), .val (p_step : (List (Tup ((Tup Int) × Int)))), .val (p_starts : (List (Tup Int))), .own (s : (List (Tup Int))), .val (i_486 : Int), .val (following_487 : (Tup Int))] : List Slot))) (mt := (ninD following_487 s_485)) (dt_lend 3 rfl (dt_c1P (f := fun (x : (Tup Int)) (y : (List (Tup Int))) => (ninD x y)) cmp_ninD (de_var 5 rfl rfl (by first | exact Or.inl rfl | exact Or.inr (Or.inl rfl) | exact Or.inr (Or.inr rfl))) (de_var 3 rfl rfl (by first | exact Or.inl rfl | exact Or.inr (Or.inl rfl) | exact Or.inr (Or.inr rfl))))) (ds_append 3 rfl rfl (by first | exact Or.inl rfl | exact Or.inr (Or.inl rfl) | exact Or.inr (Or.inr rfl)) (de_var 5 rfl rfl (by first | exact Or.inl rfl | exact Or.inr (Or.inl rfl) | exact Or.inr (Or.inr rfl))) (fun y_491 => (ds_end (s := (s_485 ++ [y_491])) (.same (.same (.same (.same (.same (.same .nil)))))))) (k := fun found_492 => (.nx found_492))) (ds_end (s := s_485) (.same (.same (.same (.same (.same (.same .nil))))))) (fun s_494 => (ds_end (s := s_494) (.same (.same (.same (.same (.same (.any .nil))))))))))) (ds_end (s := s_485) (.same (.same (.same (.same (.same (.any .nil))))))) (fun s_496 => (ds_end (s := s_496) (.same (.same (.same (.same (.any (.any .nil)))))))))) (fun s_497 => (ds_freeze 3 rfl (ds_ret (m := (some s_497)) (de_var 3 rfl rfl (by first | exact Or.inl rfl | exact Or.inr (Or.inl rfl) | exact Or.inr (Or.inr rfl)))))))))
theorem g_law_reached (T : Tx K mg C fI fdI D fJ fdJ G fG fdG) : Gd P w K mg base 4 "_law_reached" (fun p : Int × (List (Tup ((Tup Int) × Int))) × (List (Tup Int)) × Unit => m_law_reached p.1 p.2.1 p.2.2.1) := T.law_reached.gd sc_law_reached (by decide) (fun _ => rfl) (fun _ h => nomatch h) (b_law_reached T)

theorem sc_law_start : FnScope ["prime", "count", "cell", "equations", "points", "point", "k"] ["prime", "count", "cell"] (defScope s_law_start) := ⟨rfl, rfl, rfl, by decide +kernel, rfl, by decide +kernel, by decide +kernel⟩
def fl_law_start (p_prime : Int) (p_count : Int) (p_cell : Int) : Fl Unit Unit (List (Tup ((Tup Int) × Int))) := (Fl.bindO (m_law_equations p_prime p_count p_cell) fun equations_500 => (Fl.bindO (m_law_points p_prime p_count) fun points_501 => (Fl.bindO (((modI p_cell (3 : Int))).bind fun v_502 => ((some (0 : Int))).bind fun v_503 => some (decide (v_503 < v_502))) fun v_528 => Fl.bind (if v_528 = true then ((Fl.bindO (((some points_501)).bind fun v_508 => ((((((divI p_cell (3 : Int))).bind fun v_505 => some v_505)).bind fun v_506 => ((some (points_501.length : Int))).bind fun v_507 => (modI v_506 v_507))).bind fun v_509 => (atI v_508 v_509)) fun point_504 => (Fl.bindO (some ([] : List (Tup ((Tup Int) × Int)))) fun equations_510 => (Fl.bindO (((((some p_count)).bind fun v_513 => ((((modI p_cell (3 : Int))).bind fun v_511 => ((some (2 : Int))).bind fun v_512 => (divI v_511 v_512))).bind fun v_514 => some (v_513 - v_514))).bind fun v_515 => (rangeI v_515)) fun xs_527 => Fl.bind (Fl.loop (fun (i_517 : Int) (s_516 : ((List (Tup ((Tup Int) × Int))))) => ((Fl.bindO (((some p_prime)).bind fun v_521 => ((m_law_unknown p_count i_517)).bind fun v_522 => ((((some p_prime)).bind fun v_518 => ((some p_count)).bind fun v_519 => ((atI point_504.l i_517)).bind fun v_520 => (m_law_constant v_518 v_519 v_520))).bind fun v_523 => (m_law_minus v_521 v_522 v_523)) fun y_524 => if len1 s_516.length = true then (.nx (s_516 ++ [y_524])) else .err) : Fl ((List (Tup ((Tup Int) × Int)))) ((List (Tup ((Tup Int) × Int)))) (List (Tup ((Tup Int) × Int))))) xs_527 equations_510 : Fl ((List (Tup ((Tup Int) × Int)))) Unit (List (Tup ((Tup Int) × Int)))) fun s_526 => (.nx s_526)))) : Fl ((List (Tup ((Tup Int) × Int)))) Unit (List (Tup ((Tup Int) × Int)))) else (.nx equations_500)) fun s_529 => (Fl.bindO (some s_529) fun r_530 => .rt r_530))))
def m_law_start (p_prime : Int) (p_count : Int) (p_cell : Int) : Option (List (Tup ((Tup Int) × Int))) := (fl_law_start p_prime p_count p_cell).fin none
theorem b_law_start (T : Tx K mg C fI fdI D fJ fdJ G fG fdG) (p : Int × Int × Int × Unit) : DeS (ctOf P w K mg base 4 ["prime", "count", "cell", "equations", "points", "point", "k"] (defScope s_law_start)) (Pk.sl p ++ List.replicate (7 - (Pk.sl p).length) .any) (defBody s_law_start) (fun _ : Unit => List.replicate 7 .any) (fun _ : Unit => []) (fl_law_start p.1 p.2.1 p.2.2.1) := by
  obtain ⟨p_prime, p_count, p_cell, _⟩ := p
  unfold fl_law_start
  exact (ds_set (i := 3) (as_e (m := (m_law_equations p_prime p_count p_cell)) 3 (de_call3P (a1 := p_prime) (a2 := p_count) (a3 := p_cell) (f := fun p : Int × Int × Int × Unit => m_law_equations p.1 p.2.1 p.2.2.1) ((g_law_equations T).df) (de_var 0 rfl rfl (by first | exact Or.inl rfl | exact Or.inr (Or.inl rfl) | exact Or.inr (Or.inr rfl))) (de_var 1 rfl rfl (by first | exact Or.inl rfl | exact Or.inr (Or.inl rfl) | exact Or.inr (Or.inr rfl))) (de_var 2 rfl rfl (by first | exact Or.inl rfl | exact Or.inr (Or.inl rfl) | exact Or.inr (Or.inr rfl)))) sc_law_start.nd rfl (by first | exact Or.inl rfl | exact Or.inr rfl) (by first | exact Or.inl rfl | exact Or.inr rfl) (fun _ _ => rfl)) (fun equations_500 => (ds_set (i := 4) (as_e (m := (m_law_points p_prime p_count)) 4 (de_call2P (a1 := p_prime) (a2 := p_count) (f := fun p : Int × Int × Unit => m_law_points p.1 p.2.1) ((g_law_points T).df) (de_var 0 rfl rfl (by first | exact Or.inl rfl | exact Or.inr (Or.inl rfl) | exact Or.inr (Or.inr rfl))) (de_var 1 rfl rfl (by first | exact Or.inl rfl | exact Or.inr (Or.inl rfl) | exact Or.inr (Or.inr rfl)))) sc_law_start.nd rfl (by first | exact Or.inl rfl | exact Or.inr rfl) (by first | exact Or.inl rfl | exact Or.inr rfl) (fun _ _ => rfl)) (fun points_501 => (ds_if (jk := (fun (s : ((List (Tup ((Tup Int) × Int))))) => ([.val (p_prime : Int), .val (p_count : Int), .val (p_cell : Int), .val (s : (List (Tup ((Tup Int) × Int)))), .val (points_501 : (List (Tup Int))), .any, .any] : List Slot))) (mt := (((modI p_cell (3 : Int))).bind fun v_502 => ((some (0 : Int))).bind fun v_503 => some (decide (v_503 < v_502)))) (dt_c1 (ma := (modI p_cell (3 : Int))) (mb := (some (0 : Int))) (f := fun (x : Int) (y : Int) => some (decide (y < x))) cmp_gt (de_modP (de_intIP T.int (de_var 2 rfl rfl (by first | exact Or.inl rfl | exact Or.inr (Or.inl rfl) | exact Or.inr (Or.inr rfl)))) de_int) de_int) (ds_set (i := 5) (as_e (m := (((some points_501)).bind fun v_508 => ((((((divI p_cell (3 : Int))).bind fun v_505 => some v_505)).bind fun v_506 => ((some (points_501.length : Int))).bind fun v_507 => (modI v_506 v_507))).bind fun v_509 => (atI v_508 v_509))) 5 (de_ixL (m := (some points_501)) (n := (((((divI p_cell (3 : Int))).bind fun v_505 => some v_505)).bind fun v_506 => ((some (points_501.length : Int))).bind fun v_507 => (modI v_506 v_507))) (De.l (de_var 4 rfl rfl (by first | exact Or.inl rfl | exact Or.inr (Or.inl rfl) | exact Or.inr (Or.inr rfl)))) (de_mod (ma := (((divI p_cell (3 : Int))).bind fun v_505 => some v_505)) (mb := (some (points_501.length : Int))) (de_intI (m := (divI p_cell (3 : Int))) T.int (de_divP (de_var 2 rfl rfl (by first | exact Or.inl rfl | exact Or.inr (Or.inl rfl) | exact Or.inr (Or.inr rfl))) de_int)) (de_lenLP  T.len (De.l (de_var 4 rfl rfl (by first | exact Or.inl rfl | exact Or.inr (Or.inl rfl) | exact Or.inr (Or.inr rfl))))))) sc_law_start.nd rfl (by first | exact Or.inl rfl | exact Or.inr rfl) (by first | exact Or.inl rfl | exact Or.inr rfl) (fun _ _ => rfl)) (fun point_504 => (ds_own (i := 3) (as_n 3 (dn_lstP di_nil) sc_law_start.nd rfl (by first | exact Or.inl rfl | exact Or.inr rfl) (by first | exact Or.inl rfl | exact Or.inr rfl) (fun _ _ => rfl)) (fun equations_510 => (ds_for (sk := (fun (s : ((List (Tup ((Tup Int) × Int))))) => ([.val (p_prime : Int), .val (p_count : Int), .val (p_cell : Int), .own (s : (List (Tup ((Tup Int) × Int)))), .val (points_501 : (List (Tup Int))), .val (point_504 : (Tup Int)), .any] : List Slot))) (s0 := equations_510) (di_range (m := (((some p_count)).bind fun v_513 => ((((modI p_cell (3 : Int))).bind fun v_511 => ((some (2 : Int))).bind fun v_512 => (divI v_511 v_512))).bind fun v_514 => some (v_513 - v_514))) T.range (de_sub (ma := (some p_count)) (mb := (((modI p_cell (3 : Int))).bind fun v_511 => ((some (2 : Int))).bind fun v_512 => (divI v_511 v_512))) (de_var 1 rfl rfl (by first | exact Or.inl rfl | exact Or.inr (Or.inl rfl) | exact Or.inr (Or.inr rfl))) (de_div (ma := (modI p_cell (3 : Int))) (mb := (some (2 : Int))) (de_modP (de_intIP T.int (de_var 2 rfl rfl (by first | exact Or.inl rfl | exact Or.inr (Or.inl rfl) | exact Or.inr (Or.inr rfl)))) de_int) de_int))) (dg_name 6 sc_law_start.nd rfl (by first | exact Or.inl rfl | exact Or.inr rfl) (by first | exact Or.inl rfl | exact Or.inr rfl)) (.same (.same (.same (.same (.same (.same (.any .nil))))))) (fun i_517 s_516 => (ds_append 3 rfl rfl (by first | exact Or.inl rfl | exact Or.inr (Or.inl rfl) | exact Or.inr (Or.inr rfl)) (de_call3 (m1 := (some p_prime)) (m2 := (m_law_unknown p_count i_517)) (m3 := (((some p_prime)).bind fun v_518 => ((some p_count)).bind fun v_519 => ((atI point_504.l i_517)).bind fun v_520 => (m_law_constant v_518 v_519 v_520))) (f := fun p : Int × (Tup ((Tup Int) × Int)) × (Tup ((Tup Int) × Int)) × Unit => m_law_minus p.1 p.2.1 p.2.2.1) ((g_law_minus T).df) (de_var 0 rfl rfl (by first | exact Or.inl rfl | exact Or.inr (Or.inl rfl) | exact Or.inr (Or.inr rfl))) (de_call2P (a1 := p_count) (a2 := i_517) (f := fun p : Int × Int × Unit => m_law_unknown p.1 p.2.1) ((g_law_unknown T).df) (de_var 1 rfl rfl (by first | exact Or.inl rfl | exact Or.inr (Or.inl rfl) | exact Or.inr (Or.inr rfl))) (de_var 6 rfl rfl (by first | exact Or.inl rfl | exact Or.inr (Or.inl rfl) | exact Or.inr (Or.inr rfl)))) (de_call3 (m1 := (some p_prime)) (m2 := (some p_count)) (m3 := (atI point_504.l i_517)) (f := fun p : Int × Int × Int × Unit => m_law_constant p.1 p.2.1 p.2.2.1) ((g_law_constant T).df) (de_var 0 rfl rfl (by first | exact Or.inl rfl | exact Or.inr (Or.inl rfl) | exact Or.inr (Or.inr rfl))) (de_var 1 rfl rfl (by first | exact Or.inl rfl | exact Or.inr (Or.inl rfl) | exact Or.inr (Or.inr rfl))) (de_ixTP (de_var 5 rfl rfl (by first | exact Or.inl rfl | exact Or.inr (Or.inl rfl) | exact Or.inr (Or.inr rfl))) (de_var 6 rfl rfl (by first | exact Or.inl rfl | exact Or.inr (Or.inl rfl) | exact Or.inr (Or.inr rfl)))))) (fun y_524 => (ds_end (s := (s_516 ++ [y_524])) (.same (.same (.same (.same (.same (.same (.any .nil))))))))) (k := fun equations_525 => (.nx equations_525)))) (fun s_526 => (ds_freeze 3 rfl (ds_end (s := s_526) (.same (.same (.same (.same (.same (.any (.any .nil))))))))))))))) (ds_end (s := equations_500) (.same (.same (.same (.same (.same (.any (.any .nil)))))))) (fun s_529 => (ds_ret (m := (some s_529)) (de_var 3 rfl rfl (by first | exact Or.inl rfl | exact Or.inr (Or.inl rfl) | exact Or.inr (Or.inr rfl))))))))))
theorem g_law_start (T : Tx K mg C fI fdI D fJ fdJ G fG fdG) : Gd P w K mg base 5 "_law_start" (fun p : Int × Int × Int × Unit => m_law_start p.1 p.2.1 p.2.2.1) := T.law_start.gd sc_law_start (by decide) (fun _ => rfl) (fun _ h => nomatch h) (b_law_start T)

theorem sc_yinit : FnScope ["self", "space", "equations", "equation"] ["self", "space", "equations"] (defScope s_yinit) := ⟨rfl, rfl, rfl, by decide +kernel, rfl, by decide +kernel, by decide +kernel⟩
def fl_yinit (D : Addr) (p_space : (SpaceD C)) (p_equations : (List (Tup ((Tup Int) × Int)))) : Fl (SysD C D) Unit Unit := Fl.bindO (some p_space) fun y1 => Fl.bindO (some p_equations) fun y2 => Fl.bindO (((((some p_equations)).bind fun xs_532 => (capI xs_532).bind fun xs_532 => mapO (fun (i_531 : (Tup ((Tup Int) × Int))) => (((m_table_of p_space i_531)).map Tup.mk)) xs_532)).map Tup.mk) fun y3 => .nx (⟨y1, y2, y3⟩ : (SysD C D))
theorem b_yinit (T : Tx K mg C fI fdI D fJ fdJ G fG fdG) (q : (SpaceD C) × (List (Tup ((Tup Int) × Int))) × Unit) (y : Addr) : DeS (ctOf P w K mg base 4 ["self", "space", "equations", "equation"] (defScope s_yinit)) (.ins D y [] :: (Pk.sl q ++ List.replicate (4 - (Pk.sl q).length - 1) .any)) (defBody s_yinit) (fun s : (SysD C D) => .ins D y (fy_fields s) :: List.replicate 3 .any) (fun _ : Unit => []) (fl_yinit D q.1 q.2.1) := by
  obtain ⟨p_space, p_equations, _⟩ := q
  unfold fl_yinit
  refine ds_fld (m := (some p_space)) (l := []) 0 rfl rfl (Or.inl rfl) T.clsSy T.noSy_space (Nat.le_of_ble_eq_true rfl) (by dsimp only [List.map]; decide) (by exact (de_var 1 rfl rfl (by first | exact Or.inl rfl | exact Or.inr (Or.inl rfl) | exact Or.inr (Or.inr rfl)))) (fun y1 => ?_) (fun _ _ => rfl)
  refine ds_fld (m := (some p_equations)) (l := [("space", .val y1)]) 0 rfl rfl (Or.inl rfl) T.clsSy T.noSy_equations (Nat.le_of_ble_eq_true rfl) (by dsimp only [List.map]; decide) (by exact (DeN.de (dn_list (m := (some p_equations)) T.list (De.l (de_var 2 rfl rfl (by first | exact Or.inl rfl | exact Or.inr (Or.inl rfl) | exact Or.inr (Or.inr rfl))))))) (fun y2 => ?_) (fun _ _ => rfl)
  refine ds_fld (m := (((((some p_equations)).bind fun xs_532 => (capI xs_532).bind fun xs_532 => mapO (fun (i_531 : (Tup ((Tup Int) × Int))) => (((m_table_of p_space i_531)).map Tup.mk)) xs_532)).map Tup.mk)) (l := [("space", .val y1), ("equations", .val y2)]) 0 rfl rfl (Or.inl rfl) T.clsSy T.noSy_tables (Nat.le_of_ble_eq_true rfl) (by dsimp only [List.map]; decide) (by exact (de_tupOf (m := (((some p_equations)).bind fun xs_532 => (capI xs_532).bind fun xs_532 => mapO (fun (i_531 : (Tup ((Tup Int) × Int))) => (((m_table_of p_space i_531)).map Tup.mk)) xs_532)) T.tuple (DeN.l (dn_comp (own := [("equation", 3)]) sc_yinit.nd (di_list (m := (some p_equations)) (de_var 2 rfl rfl (by first | exact Or.inl rfl | exact Or.inr (Or.inl rfl) | exact Or.inr (Or.inr rfl)))) (blkOk_by (by dsimp only [ctOf, Ct.blk]; decide +kernel)) (dg_name 3 sc_yinit.nd rfl (by first | exact Or.inl rfl | exact Or.inr rfl) (by first | exact Or.inl rfl | exact Or.inr rfl)) (by decide) (fun i_531 => (de_tupOf (m := (m_table_of p_space i_531)) T.tuple (De.l (de_call2P (a1 := p_space) (a2 := i_531) (f := fun p : (SpaceD C) × (Tup ((Tup Int) × Int)) × Unit => m_table_of p.1 p.2.1) ((g_table_of T).df) (de_var 1 rfl rfl (by first | exact Or.inl rfl | exact Or.inr (Or.inl rfl) | exact Or.inr (Or.inr rfl))) (de_var 3 rfl rfl (by first | exact Or.inl rfl | exact Or.inr (Or.inl rfl) | exact Or.inr (Or.inr rfl))))))))))) (fun y3 => ?_) (fun _ _ => rfl)
  exact ds_end (s := (⟨y1, y2, y3⟩ : (SysD C D))) (.same (.any (.any (.any .nil))))
def m_system (D : Addr) (p_space : (SpaceD C)) (p_equations : (List (Tup ((Tup Int) × Int)))) : Option (SysD C D) := initG id (fl_yinit D p_space p_equations)
theorem g_system (T : Tx K mg C fI fdI D fJ fdJ G fG fdG) : Gk P w K mg base 5 "System" D (fy_fields (C := C) (D := D)) (fun q : (SpaceD C) × (List (Tup ((Tup Int) × Int))) × Unit => m_system D q.1 q.2.1) :=
  ⟨fJ, fdJ, _, init_okG (P := P) (w := w) (mg := mg) (base := base) (C := D) (fl := fy_fields) (k := 4) (mk := fun y s => .ins D y (fy_fields s) :: List.replicate 3 .any) (lk := fun _ : Unit => []) (m := fun q : (SpaceD C) × (List (Tup ((Tup Int) × Int))) × Unit => fl_yinit D q.1 q.2.1) (r := id) T.fInitSy sc_yinit (by decide) (fun _ => rfl) (fun _ _ => rfl) (fun q y => b_yinit T q y), T.gcSy, T.mkSy, T.bindsSy⟩

theorem sc_mainit : FnScope ["self", "start", "step"] ["self", "start", "step"] (defScope s_mainit) := ⟨rfl, rfl, rfl, by decide +kernel, rfl, by decide +kernel, by decide +kernel⟩
def fl_mainit (G : Addr) (p_start : (SysD C D)) (p_step : (List (Tup ((Tup Int) × Int)))) : Fl (MacD C D G) Unit Unit := Fl.bindO (some p_start) fun y1 => Fl.bindO (some p_step) fun y2 => Fl.bindO (some p_start.space) fun y3 => Fl.bindO (m_led_by_point p_start.space p_step) fun y4 => .nx (⟨y1, y2, y3, y4⟩ : (MacD C D G))
def m_machine (G : Addr) (p_start : (SysD C D)) (p_step : (List (Tup ((Tup Int) × Int)))) : Option (MacD C D G) := initG id (fl_mainit G p_start p_step)
theorem b_mainitO (T : Tx K mg C fI fdI D fJ fdJ G fG fdG) (p_start : (SysD C D)) (p_step : (List (Tup ((Tup Int) × Int)))) (y gg : Addr) : DeS (ctOf P w K mg base 5 ["self", "start", "step"] (defScope s_mainit)) (.ins G y [] :: .val p_start :: .ownAt gg p_step :: List.replicate 0 .any) (defBody s_mainit) (fun s : (MacD C D G) => .ins G y (ma_fields s) :: .any :: .ownAt gg p_step :: List.replicate 0 .any) (fun _ : Unit => []) (fl_mainit G p_start p_step) := by
  unfold fl_mainit
  refine ds_fld (m := (some p_start)) (l := []) 0 rfl rfl (Or.inl rfl) T.clsMa T.noMa_start (Nat.le_of_ble_eq_true rfl) (by dsimp only [List.map]; decide) (by exact (de_var 1 rfl rfl (by first | exact Or.inl rfl | exact Or.inr (Or.inl rfl) | exact Or.inr (Or.inr rfl)))) (fun y1 => ?_) (fun _ _ => rfl)
  refine ds_fld (m := (some p_step)) (l := [("start", .val y1)]) 0 rfl rfl (Or.inl rfl) T.clsMa T.noMa_step (Nat.le_of_ble_eq_true rfl) (by dsimp only [List.map]; decide) (by exact (DeN.de (dn_list T.list (dl_obj 2 rfl (fun _ _ _ _ h => h.2) rfl (Or.inl rfl))))) (fun y2 => ?_) (fun _ _ => rfl)
  refine ds_fld (m := (some p_start.space)) (l := [("start", .val y1), ("step", .val y2)]) 0 rfl rfl (Or.inl rfl) T.clsMa T.noMa_space (Nat.le_of_ble_eq_true rfl) (by dsimp only [List.map]; decide) (by exact (de_fldP (T.sy_space) (de_var 1 rfl rfl (by first | exact Or.inl rfl | exact Or.inr (Or.inl rfl) | exact Or.inr (Or.inr rfl))))) (fun y3 => ?_) (fun _ _ => rfl)
  refine ds_fld (m := (m_led_by_point p_start.space p_step)) (l := [("start", .val y1), ("step", .val y2), ("space", .val y3)]) 0 rfl rfl (Or.inl rfl) T.clsMa T.noMa_nxt (Nat.le_of_ble_eq_true rfl) (by dsimp only [List.map]; decide) (by exact (de_tmpT 2 rfl (fun _ _ _ _ h => h.2) (by exact (de_call2P (a1 := p_start.space) (a2 := p_step) (f := fun p : (SpaceD C) × (List (Tup ((Tup Int) × Int))) × Unit => m_led_by_point p.1 p.2.1) ((g_led_by_point T).df) (de_fldP (T.sy_space) (de_var 1 rfl rfl (by first | exact Or.inl rfl | exact Or.inr (Or.inl rfl) | exact Or.inr (Or.inr rfl)))) (de_var 2 rfl rfl (by first | exact Or.inl rfl | exact Or.inr (Or.inl rfl) | exact Or.inr (Or.inr rfl))))))) (fun y4 => ?_) (fun _ _ => rfl)
  exact ds_end (s := (⟨y1, y2, y3, y4⟩ : (MacD C D G))) (.same (.any (.same .nil)))
theorem g_machineO (T : Tx K mg C fI fdI D fJ fdJ G fG fdG) : GkO P w K mg base 6 "Machine" G (ma_fields (C := C) (D := D) (G := G)) (m_machine (C := C) (D := D) G) :=
  ⟨fG, fdG, _, initO_ok (P := P) (w := w) (mg := mg) (base := base) (C := G) (fl := ma_fields) (k := 5) (Nr := []) (mk := fun y gg _ ns s => .ins G y (ma_fields s) :: .any :: .ownAt gg ns :: List.replicate 0 .any) (lk := fun _ : Unit => []) (m := fl_mainit (C := C) (D := D) G) (r := id) T.fInitMa rfl sc_mainit (fun _ _ _ _ _ => ⟨rfl, rfl⟩) (fun p ns y gg => b_mainitO T p ns y gg), T.gcMa, T.mkMa, T.bindsMa⟩

theorem sc_ma_reached : FnScope ["self"] ["self"] (defScope s_ma_reached) := ⟨rfl, rfl, rfl, by decide +kernel, rfl, by decide +kernel, by decide +kernel⟩
def fl_ma_reached (p_self : (MacD C D G)) : Fl Unit Unit (List (Tup Int)) := (Fl.bindO (((m_points_before p_self)).bind fun v_534 => (if okSort (v_534.l.map fun p => Dat.toD p.1) = true then some (sortD (v_534.l.map (·.1))) else none)) fun r_535 => .rt r_535)
def m_ma_reached (p_self : (MacD C D G)) : Option (List (Tup Int)) := (fl_ma_reached p_self).fin none
theorem b_ma_reached (T : Tx K mg C fI fdI D fJ fdJ G fG fdG) (p : (MacD C D G) × Unit) : DeSN (ctOf P w K mg base 3 ["self"] (defScope s_ma_reached)) (Pk.sl p ++ List.replicate (1 - (Pk.sl p).length) .any) (defBody s_ma_reached) (fun _ : Unit => List.replicate 1 .any) (fun _ : Unit => []) (fl_ma_reached p.1) := by
  obtain ⟨p_self, _⟩ := p
  unfold fl_ma_reached
  refine dsn_ret (m := (((m_points_before p_self)).bind fun v_534 => (if okSort (v_534.l.map fun p => Dat.toD p.1) = true then some (sortD (v_534.l.map (·.1))) else none))) ?_
  refine @dn_sortedE _ _ _ _ _ _ _ ((m_points_before p_self)) T.sorted ?_ rfl (by intro _; rfl)
  exact (de_call1P (a1 := p_self) (f := fun p : (MacD C D G) × Unit => m_points_before p.1) ((g_points_before T).df) (de_var 0 rfl rfl (by first | exact Or.inl rfl | exact Or.inr (Or.inl rfl) | exact Or.inr (Or.inr rfl))))
theorem g_ma_reached (T : Tx K mg C fI fdI D fJ fdJ G fG fdG) : GmN P w K mg base 4 (MacD C D G) "reached" (fun p : (MacD C D G) × Unit => m_ma_reached p.1) := T.ma_reached.gmN T.clsMa (fldNoMa fun _ _ _ _ => rfl) sc_ma_reached (by decide) (fun _ => rfl) (b_ma_reached T)

theorem sc_ma_way : FnScope ["self", "point", "points"] ["self", "point"] (defScope s_ma_way) := ⟨rfl, rfl, rfl, by decide +kernel, rfl, by decide +kernel, by decide +kernel⟩
def fl_ma_way (p_self : (MacD C D G)) (p_point : (Tup Int)) : Fl Unit Unit ((List (Tup Int)) × Int) := (Fl.bindO (some ([] : List (Tup Int))) fun points_536 => (Fl.bind (Fl.whl (fun (s_537 : ((MacD C D G) × (Tup Int) × (List (Tup Int)))) => ((ninD s_537.2.1 s_537.2.2) : Option Bool)) (fun (s_537 : ((MacD C D G) × (Tup Int) × (List (Tup Int)))) => ((Fl.bindO (some s_537.2.1) fun y_538 => if len1 s_537.2.2.length = true then (Fl.bindO (m_ma_after s_537.1 s_537.2.1) fun point_540 => (.nx (s_537.1, point_540, (s_537.2.2 ++ [y_538])))) else .err) : Fl ((MacD C D G) × (Tup Int) × (List (Tup Int))) ((MacD C D G) × (Tup Int) × (List (Tup Int))) ((List (Tup Int)) × Int))) 300 (p_self, p_point, points_536) : Fl ((MacD C D G) × (Tup Int) × (List (Tup Int))) Unit ((List (Tup Int)) × Int)) fun s_541 => (Fl.bindO (((some s_541.2.2)).bind fun v_542 => ((idxD s_541.2.2 s_541.2.1)).bind fun v_543 => some (v_542, v_543)) fun r_544 => .rt r_544)))
def m_ma_way (p_self : (MacD C D G)) (p_point : (Tup Int)) : Option ((List (Tup Int)) × Int) := (fl_ma_way p_self p_point).fin none
theorem b_ma_way (T : Tx K mg C fI fdI D fJ fdJ G fG fdG) (p : (MacD C D G) × (Tup Int) × Unit) : DeS (ctOf P w K mg base 1 ["self", "point", "points"] (defScope s_ma_way)) (Pk.sl p ++ List.replicate (3 - (Pk.sl p).length) .any) (defBody s_ma_way) (fun _ : Unit => List.replicate 3 .any) (fun _ : Unit => []) (fl_ma_way p.1 p.2.1) := by
  obtain ⟨p_self, p_point, _⟩ := p
  unfold fl_ma_way
  exact (ds_own (i := 2) (as_n 2 (dn_lstP di_nil) sc_ma_way.nd rfl (by first | exact Or.inl rfl | exact Or.inr rfl) (by first | exact Or.inl rfl | exact Or.inr rfl) (fun _ _ => rfl)) (fun points_536 => (ds_while 300 (tm := fun (s_537 : ((MacD C D G) × (Tup Int) × (List (Tup Int)))) => (ninD s_537.2.1 s_537.2.2)) (sk := (fun (s : ((MacD C D G) × (Tup Int) × (List (Tup Int)))) => ([.val (s.1 : (MacD C D G)), .val (s.2.1 : (Tup Int)), .own (s.2.2 : (List (Tup Int)))] : List Slot))) (s0 := (p_self, p_point, points_536)) (.same (.same (.same .nil))) (fun s_537 => (dt_lend 2 rfl (dt_c1P (f := fun (x : (Tup Int)) (y : (List (Tup Int))) => (ninD x y)) cmp_ninD (de_var 1 rfl rfl (by first | exact Or.inl rfl | exact Or.inr (Or.inl rfl) | exact Or.inr (Or.inr rfl))) (de_var 2 rfl rfl (by first | exact Or.inl rfl | exact Or.inr (Or.inl rfl) | exact Or.inr (Or.inr rfl)))))) (fun s_537 => (ds_append 2 rfl rfl (by first | exact Or.inl rfl | exact Or.inr (Or.inl rfl) | exact Or.inr (Or.inr rfl)) (de_var 1 rfl rfl (by first | exact Or.inl rfl | exact Or.inr (Or.inl rfl) | exact Or.inr (Or.inr rfl))) (fun y_538 => (ds_set (i := 1) (as_e (m := (m_ma_after s_537.1 s_537.2.1)) 1 (de_meth1 (m := (some s_537.1)) (n := (some s_537.2.1)) (f := fun p : (MacD C D G) × (Tup Int) × Unit => m_ma_after p.1 p.2.1) ((g_ma_after T).mt) (de_var 0 rfl rfl (by first | exact Or.inl rfl | exact Or.inr (Or.inl rfl) | exact Or.inr (Or.inr rfl))) (de_var 1 rfl rfl (by first | exact Or.inl rfl | exact Or.inr (Or.inl rfl) | exact Or.inr (Or.inr rfl)))) sc_ma_way.nd rfl (by first | exact Or.inl rfl | exact Or.inr rfl) (by first | exact Or.inl rfl | exact Or.inr rfl) (fun _ _ => rfl)) (fun point_540 => (ds_end (s := (s_537.1, point_540, (s_537.2.2 ++ [y_538]))) (.same (.same (.same .nil))))))) (k := fun points_539 => (Fl.bindO (m_ma_after s_537.1 s_537.2.1) fun point_540 => (.nx (s_537.1, point_540, points_539)))))) (fun s_541 => (ds_freeze 2 rfl (ds_ret (m := (((some s_541.2.2)).bind fun v_542 => ((idxD s_541.2.2 s_541.2.1)).bind fun v_543 => some (v_542, v_543))) (de_pair (m := (some s_541.2.2)) (n := (idxD s_541.2.2 s_541.2.1)) (de_var 2 rfl rfl (by first | exact Or.inl rfl | exact Or.inr (Or.inl rfl) | exact Or.inr (Or.inr rfl))) (de_indexD (m := (some s_541.2.2)) (n := (some s_541.2.1)) (de_var 2 rfl rfl (by first | exact Or.inl rfl | exact Or.inr (Or.inl rfl) | exact Or.inr (Or.inr rfl))) (de_var 1 rfl rfl (by first | exact Or.inl rfl | exact Or.inr (Or.inl rfl) | exact Or.inr (Or.inr rfl)))))))))))
theorem g_ma_way (T : Tx K mg C fI fdI D fJ fdJ G fG fdG) : Gm P w K mg base 2 (MacD C D G) "way" (fun p : (MacD C D G) × (Tup Int) × Unit => m_ma_way p.1 p.2.1) := T.ma_way.gm T.clsMa (fldNoMa fun _ _ _ _ => rfl) sc_ma_way (by decide) (fun _ => rfl) (fun _ h => nomatch h) (b_ma_way T)

theorem sc_law : FnScope ["script", "space", "equations", "step", "given", "machine", "due", "point", "prime", "count", "path", "again", "told"] ["script"] (defScope s_law) := ⟨rfl, rfl, rfl, by decide +kernel, rfl, by decide +kernel, by decide +kernel⟩
def fl_law (C D G : Addr) (p_script : (List Int)) : Fl Unit Unit Bool := (Fl.bindO (((((((m_law_cell p_script (0 : Int))).bind fun v_545 => some v_545)).bind fun v_546 => ((some (10 : Int))).bind fun v_547 => (modI v_546 v_547))).bind fun v_548 => (m_law_shape v_548)) fun t_549 => (Fl.bindO (((some t_549.1)).bind fun v_553 => ((((m_law_cell p_script (1 : Int))).bind fun v_551 => ((some t_549.2)).bind fun v_552 => (m_law_names v_551 v_552))).bind fun v_554 => (m_space C v_553 v_554)) fun space_550 => (Fl.bindO (((some t_549.1)).bind fun v_556 => ((some t_549.2)).bind fun v_557 => ((m_law_cell p_script (2 : Int))).bind fun v_558 => (m_law_start v_556 v_557 v_558)) fun equations_555 => (Fl.bindO (((some t_549.1)).bind fun v_560 => ((some t_549.2)).bind fun v_561 => ((m_law_cell p_script (3 : Int))).bind fun v_562 => (m_law_step v_560 v_561 v_562)) fun step_559 => (Fl.bindO (some step_559) fun given_563 => (Fl.bindO (m_system D space_550 equations_555) fun sp_565 => Fl.bindO (m_machine G sp_565 given_563) fun machine_564 => (Fl.bindO (some (⟨([] : List ((Tup Int) × Int))⟩ : Tup ((Tup Int) × Int))) fun y_566 => if len1 given_563.length = true then (Fl.bindO (orO (neI machine_564.step step_559) (orO (neI machine_564.space.names space_550.names) (neI machine_564.start.equations equations_555))) fun v_569 => Fl.bind (if v_569 = true then ((Fl.bindO (some false) fun r_568 => .rt r_568) : Fl Unit Unit Bool) else (.nx ())) fun s_570 => (Fl.bindO (((((some t_549.1)).bind fun v_572 => ((some step_559)).bind fun v_573 => ((m_law_solutions t_549.1 t_549.2 equations_555)).bind fun v_574 => (m_law_reached v_572 v_573 v_574))).bind fun v_575 => (if okSort (v_575.map Dat.toD) = true then some (sortD v_575) else none)) fun due_571 => (Fl.bindO (m_ma_reached machine_564) fun xs_576 => Fl.bindO (some (⟨([] : List Int)⟩ : Tup Int)) fun y_577 => if len1 xs_576.length = true then (Fl.bindO (((m_ma_reached machine_564)).bind fun v_578 => ((some due_571)).bind fun v_579 => (neI v_578 v_579)) fun v_581 => Fl.bind (if v_581 = true then ((Fl.bindO (some false) fun r_580 => .rt r_580) : Fl Unit Unit Bool) else (.nx ())) fun s_582 => (Fl.bindO (m_law_points t_549.1 t_549.2) fun xs_604 => Fl.bind (Fl.loop (fun (i_584 : (Tup Int)) (s_583 : ((MacD C D G))) => ((Fl.bindO (((m_ma_after s_583 i_584)).bind fun v_585 => ((m_law_after t_549.1 step_559 i_584)).bind fun v_586 => (neI v_585 v_586)) fun v_588 => Fl.bind (if v_588 = true then ((Fl.bindO (some false) fun r_587 => .rt r_587) : Fl Unit ((MacD C D G)) Bool) else (.nx ())) fun s_589 => (Fl.bindO (m_law_reached t_549.1 step_559 ([i_584] : List (Tup Int))) fun path_590 => (Fl.bindO (((some path_590)).bind fun v_595 => ((((some t_549.1)).bind fun v_592 => ((some step_559)).bind fun v_593 => ((atI path_590 ((path_590.length : Int) - (1 : Int)))).bind fun v_594 => (m_law_after v_592 v_593 v_594))).bind fun v_596 => (idxD v_595 v_596)) fun again_591 => (Fl.bindO (m_ma_way s_583 i_584) fun told_597 => (Fl.bindO (orO (((some true)).bind fun v_598 => some (!v_598)) (orO (some (!decide ((((2 : Nat) : Nat) : Int) = (2 : Int)))) (orO (neI told_597.1 path_590) (some (!decide (told_597.2 = again_591)))))) fun v_600 => Fl.bind (if v_600 = true then ((Fl.bindO (some false) fun r_599 => .rt r_599) : Fl Unit ((MacD C D G)) Bool) else (.nx ())) fun s_601 => (.nx s_583)))))) : Fl ((MacD C D G)) ((MacD C D G)) Bool)) xs_604 machine_564 : Fl ((MacD C D G)) Unit Bool) fun s_602 => (Fl.bindO (some true) fun r_603 => .rt r_603))) else .err))) else .err)))))))
def m_law (C D G : Addr) (p_script : (List Int)) : Option Bool := (fl_law C D G p_script).fin none
theorem b_law (T : Tx K mg C fI fdI D fJ fdJ G fG fdG) (p : (List Int) × Unit) : DeS (ctOf P w K mg base 7 ["script", "space", "equations", "step", "given", "machine", "due", "point", "prime", "count", "path", "again", "told"] (defScope s_law)) (Pk.sl p ++ List.replicate (13 - (Pk.sl p).length) .any) (defBody s_law) (fun _ : Unit => List.replicate 13 .any) (fun _ : Unit => []) (fl_law C D G p.1) := by
  obtain ⟨p_script, _⟩ := p
  unfold fl_law
  exact (ds_unpack (de_call1 (m1 := (((((m_law_cell p_script (0 : Int))).bind fun v_545 => some v_545)).bind fun v_546 => ((some (10 : Int))).bind fun v_547 => (modI v_546 v_547))) (f := fun p : Int × Unit => m_law_shape p.1) ((g_law_shape T).df) (de_mod (ma := (((m_law_cell p_script (0 : Int))).bind fun v_545 => some v_545)) (mb := (some (10 : Int))) (de_intI (m := (m_law_cell p_script (0 : Int))) T.int (de_call2P (a1 := p_script) (a2 := (0 : Int)) (f := fun p : (List Int) × Int × Unit => m_law_cell p.1 p.2.1) ((g_law_cell T).df) (de_var 0 rfl rfl (by first | exact Or.inl rfl | exact Or.inr (Or.inl rfl) | exact Or.inr (Or.inr rfl))) de_int)) de_int)) (dg_pair (dg_name 8 sc_law.nd rfl (by first | exact Or.inl rfl | exact Or.inr rfl) (by first | exact Or.inl rfl | exact Or.inr rfl)) (dg_name 9 sc_law.nd rfl (by first | exact Or.inl rfl | exact Or.inr rfl) (by first | exact Or.inl rfl | exact Or.inr rfl))) (fun t_549 => (ds_set (i := 1) (as_e (m := (((some t_549.1)).bind fun v_553 => ((((m_law_cell p_script (1 : Int))).bind fun v_551 => ((some t_549.2)).bind fun v_552 => (m_law_names v_551 v_552))).bind fun v_554 => (m_space C v_553 v_554))) 1 (de_make2 (m1 := (some t_549.1)) (m2 := (((m_law_cell p_script (1 : Int))).bind fun v_551 => ((some t_549.2)).bind fun v_552 => (m_law_names v_551 v_552))) (f := fun q : Int × List Str × Unit => m_space C q.1 q.2.1) ((g_space T).md) space_rep (de_var 8 rfl rfl (by first | exact Or.inl rfl | exact Or.inr (Or.inl rfl) | exact Or.inr (Or.inr rfl))) (de_call2 (m1 := (m_law_cell p_script (1 : Int))) (m2 := (some t_549.2)) (f := fun p : Int × Int × Unit => m_law_names p.1 p.2.1) ((g_law_names T).df) (de_call2P (a1 := p_script) (a2 := (1 : Int)) (f := fun p : (List Int) × Int × Unit => m_law_cell p.1 p.2.1) ((g_law_cell T).df) (de_var 0 rfl rfl (by first | exact Or.inl rfl | exact Or.inr (Or.inl rfl) | exact Or.inr (Or.inr rfl))) de_int) (de_var 9 rfl rfl (by first | exact Or.inl rfl | exact Or.inr (Or.inl rfl) | exact Or.inr (Or.inr rfl))))) sc_law.nd rfl (by first | exact Or.inl rfl | exact Or.inr rfl) (by first | exact Or.inl rfl | exact Or.inr rfl) (fun _ _ => rfl)) (fun space_550 => (ds_set (i := 2) (as_e (m := (((some t_549.1)).bind fun v_556 => ((some t_549.2)).bind fun v_557 => ((m_law_cell p_script (2 : Int))).bind fun v_558 => (m_law_start v_556 v_557 v_558))) 2 (de_call3 (m1 := (some t_549.1)) (m2 := (some t_549.2)) (m3 := (m_law_cell p_script (2 : Int))) (f := fun p : Int × Int × Int × Unit => m_law_start p.1 p.2.1 p.2.2.1) ((g_law_start T).df) (de_var 8 rfl rfl (by first | exact Or.inl rfl | exact Or.inr (Or.inl rfl) | exact Or.inr (Or.inr rfl))) (de_var 9 rfl rfl (by first | exact Or.inl rfl | exact Or.inr (Or.inl rfl) | exact Or.inr (Or.inr rfl))) (de_call2P (a1 := p_script) (a2 := (2 : Int)) (f := fun p : (List Int) × Int × Unit => m_law_cell p.1 p.2.1) ((g_law_cell T).df) (de_var 0 rfl rfl (by first | exact Or.inl rfl | exact Or.inr (Or.inl rfl) | exact Or.inr (Or.inr rfl))) de_int)) sc_law.nd rfl (by first | exact Or.inl rfl | exact Or.inr rfl) (by first | exact Or.inl rfl | exact Or.inr rfl) (fun _ _ => rfl)) (fun equations_555 => (ds_set (i := 3) (as_e (m := (((some t_549.1)).bind fun v_560 => ((some t_549.2)).bind fun v_561 => ((m_law_cell p_script (3 : Int))).bind fun v_562 => (m_law_step v_560 v_561 v_562))) 3 (de_call3 (m1 := (some t_549.1)) (m2 := (some t_549.2)) (m3 := (m_law_cell p_script (3 : Int))) (f := fun p : Int × Int × Int × Unit => m_law_step p.1 p.2.1 p.2.2.1) ((g_law_step T).df) (de_var 8 rfl rfl (by first | exact Or.inl rfl | exact Or.inr (Or.inl rfl) | exact Or.inr (Or.inr rfl))) (de_var 9 rfl rfl (by first | exact Or.inl rfl | exact Or.inr (Or.inl rfl) | exact Or.inr (Or.inr rfl))) (de_call2P (a1 := p_script) (a2 := (3 : Int)) (f := fun p : (List Int) × Int × Unit => m_law_cell p.1 p.2.1) ((g_law_cell T).df) (de_var 0 rfl rfl (by first | exact Or.inl rfl | exact Or.inr (Or.inl rfl) | exact Or.inr (Or.inr rfl))) de_int)) sc_law.nd rfl (by first | exact Or.inl rfl | exact Or.inr rfl) (by first | exact Or.inl rfl | exact Or.inr rfl) (fun _ _ => rfl)) (fun step_559 => (ds_own (i := 4) (as_n 4 (dn_list (m := (some step_559)) T.list (De.l (de_var 3 rfl rfl (by first | exact Or.inl rfl | exact Or.inr (Or.inl rfl) | exact Or.inr (Or.inr rfl))))) sc_law.nd rfl (by first | exact Or.inl rfl | exact Or.inr rfl) (by first | exact Or.inl rfl | exact Or.inr rfl) (fun _ _ => rfl)) (fun given_563 => (ds_makeO (f := m_machine G) (m := (m_system D space_550 equations_555)) 5 4 ((g_machineO T).md) machine_rep (de_make2 (m1 := (some space_550)) (m2 := (some equations_555)) (f := fun q : (SpaceD C) × (List (Tup ((Tup Int) × Int))) × Unit => m_system D q.1 q.2.1) ((g_system T).md) system_rep (de_var 1 rfl rfl (by first | exact Or.inl rfl | exact Or.inr (Or.inl rfl) | exact Or.inr (Or.inr rfl))) (DeN.de (dn_list (m := (some equations_555)) T.list (De.l (de_var 2 rfl rfl (by first | exact Or.inl rfl | exact Or.inr (Or.inl rfl) | exact Or.inr (Or.inr rfl))))))) rfl rfl (by first | exact Or.inl rfl | exact Or.inr (Or.inl rfl) | exact Or.inr (Or.inr rfl)) sc_law.nd rfl (by first | exact Or.inl rfl | exact Or.inr rfl) (by first | exact Or.inl rfl | exact Or.inr rfl) (fun machine_564 => (ds_append 4 rfl rfl (by first | exact Or.inl rfl | exact Or.inr (Or.inl rfl) | exact Or.inr (Or.inr rfl)) (de_tupHP di_nil) (fun y_566 => (ds_if (jk := (fun (s : Unit) => ([.val (p_script : (List Int)), .val (space_550 : (SpaceD C)), .val (equations_555 : (List (Tup ((Tup Int) × Int)))), .val (step_559 : (List (Tup ((Tup Int) × Int)))), .own ((given_563 ++ [y_566]) : (List (Tup ((Tup Int) × Int)))), .val (machine_564 : (MacD C D G)), .any, .any, .val (t_549.1 : Int), .val (t_549.2 : Int), .any, .any, .any] : List Slot))) (mt := (orO (neI machine_564.step step_559) (orO (neI machine_564.space.names space_550.names) (neI machine_564.start.equations equations_555)))) (DeW.t (dw_or (dt_c1P (f := fun (x : (List (Tup ((Tup Int) × Int)))) (y : (List (Tup ((Tup Int) × Int)))) => (neI x y)) cmp_neD (de_fldP (T.ma_step) (de_var 5 rfl rfl (by first | exact Or.inl rfl | exact Or.inr (Or.inl rfl) | exact Or.inr (Or.inr rfl)))) (de_var 3 rfl rfl (by first | exact Or.inl rfl | exact Or.inr (Or.inl rfl) | exact Or.inr (Or.inr rfl)))) (dw_or (dt_c1P (f := fun (x : (List Str)) (y : (List Str)) => (neI x y)) cmp_neD (de_fldP (T.sp_names) (de_fldP (T.ma_space) (de_var 5 rfl rfl (by first | exact Or.inl rfl | exact Or.inr (Or.inl rfl) | exact Or.inr (Or.inr rfl))))) (de_fldP (T.sp_names) (de_var 1 rfl rfl (by first | exact Or.inl rfl | exact Or.inr (Or.inl rfl) | exact Or.inr (Or.inr rfl))))) (dw_or1 (dt_c1P (f := fun (x : (List (Tup ((Tup Int) × Int)))) (y : (List (Tup ((Tup Int) × Int)))) => (neI x y)) cmp_neD (de_fldP (T.sy_equations) (de_fldP (T.ma_start) (de_var 5 rfl rfl (by first | exact Or.inl rfl | exact Or.inr (Or.inl rfl) | exact Or.inr (Or.inr rfl))))) (de_var 2 rfl rfl (by first | exact Or.inl rfl | exact Or.inr (Or.inl rfl) | exact Or.inr (Or.inr rfl)))))))) (ds_ret (m := (some false)) de_bl) (ds_end (s := ()) (.same (.same (.same (.same (.same (.same (.any (.any (.same (.same (.any (.any (.any .nil)))))))))))))) (fun s_570 => (ds_set (i := 6) (as_e (m := (((((some t_549.1)).bind fun v_572 => ((some step_559)).bind fun v_573 => ((m_law_solutions t_549.1 t_549.2 equations_555)).bind fun v_574 => (m_law_reached v_572 v_573 v_574))).bind fun v_575 => (if okSort (v_575.map Dat.toD) = true then some (sortD v_575) else none))) 6 (DeN.de (dn_sorted T.sorted (De.l (de_call3 (m1 := (some t_549.1)) (m2 := (some step_559)) (m3 := (m_law_solutions t_549.1 t_549.2 equations_555)) (f := fun p : Int × (List (Tup ((Tup Int) × Int))) × (List (Tup Int)) × Unit => m_law_reached p.1 p.2.1 p.2.2.1) ((g_law_reached T).df) (de_var 8 rfl rfl (by first | exact Or.inl rfl | exact Or.inr (Or.inl rfl) | exact Or.inr (Or.inr rfl))) (de_var 3 rfl rfl (by first | exact Or.inl rfl | exact Or.inr (Or.inl rfl) | exact Or.inr (Or.inr rfl))) (de_call3P (a1 := t_549.1) (a2 := t_549.2) (a3 := equations_555) (f := fun p : Int × Int × (List (Tup ((Tup Int) × Int))) × Unit => m_law_solutions p.1 p.2.1 p.2.2.1) ((g_law_solutions T).df) (de_var 8 rfl rfl (by first | exact Or.inl rfl | exact Or.inr (Or.inl rfl) | exact Or.inr (Or.inr rfl))) (de_var 9 rfl rfl (by first | exact Or.inl rfl | exact Or.inr (Or.inl rfl) | exact Or.inr (Or.inr rfl))) (de_var 2 rfl rfl (by first | exact Or.inl rfl | exact Or.inr (Or.inl rfl) | exact Or.inr (Or.inr rfl)))))))) sc_law.nd rfl (by first | exact Or.inl rfl | exact Or.inr rfl) (by first | exact Or.inl rfl | exact Or.inr rfl) (fun _ _ => rfl)) (fun due_571 => (ds_tmpAppend (dn_meth0 (y := machine_564) (f := fun p : (MacD C D G) × Unit => m_ma_reached p.1) ((g_ma_reached T).mt) (de_var 5 rfl rfl (by first | exact Or.inl rfl | exact Or.inr (Or.inl rfl) | exact Or.inr (Or.inr rfl)))) (de_tupHP di_nil) (ds_if (jk := (fun (s : Unit) => ([.val (p_script : (List Int)), .val (space_550 : (SpaceD C)), .val (equations_555 : (List (Tup ((Tup Int) × Int)))), .val (step_559 : (List (Tup ((Tup Int) × Int)))), .own ((given_563 ++ [y_566]) : (List (Tup ((Tup Int) × Int)))), .val (machine_564 : (MacD C D G)), .val (due_571 : (List (Tup Int))), .any, .val (t_549.1 : Int), .val (t_549.2 : Int), .any, .any, .any] : List Slot))) (mt := (((m_ma_reached machine_564)).bind fun v_578 => ((some due_571)).bind fun v_579 => (neI v_578 v_579))) (dt_c1 (ma := (m_ma_reached machine_564)) (mb := (some due_571)) (f := fun (x : (List (Tup Int))) (y : (List (Tup Int))) => (neI x y)) cmp_neD (DeN.de (dn_meth0 (y := machine_564) (f := fun p : (MacD C D G) × Unit => m_ma_reached p.1) ((g_ma_reached T).mt) (de_var 5 rfl rfl (by first | exact Or.inl rfl | exact Or.inr (Or.inl rfl) | exact Or.inr (Or.inr rfl))))) (de_var 6 rfl rfl (by first | exact Or.inl rfl | exact Or.inr (Or.inl rfl) | exact Or.inr (Or.inr rfl)))) (ds_ret (m := (some false)) de_bl) (ds_end (s := ()) (.same (.same (.same (.same (.same (.same (.same (.any (.same (.same (.any (.any (.any .nil)))))))))))))) (fun s_582 => (ds_for (sk := (fun (s : ((MacD C D G))) => ([.val (p_script : (List Int)), .val (space_550 : (SpaceD C)), .val (equations_555 : (List (Tup ((Tup Int) × Int)))), .val (step_559 : (List (Tup ((Tup Int) × Int)))), .own ((given_563 ++ [y_566]) : (List (Tup ((Tup Int) × Int)))), .val (s : (MacD C D G)), .val (due_571 : (List (Tup Int))), .any, .val (t_549.1 : Int), .val (t_549.2 : Int), .any, .any, .any] : List Slot))) (s0 := machine_564) (di_list (m := (m_law_points t_549.1 t_549.2)) (de_call2P (a1 := t_549.1) (a2 := t_549.2) (f := fun p : Int × Int × Unit => m_law_points p.1 p.2.1) ((g_law_points T).df) (de_var 8 rfl rfl (by first | exact Or.inl rfl | exact Or.inr (Or.inl rfl) | exact Or.inr (Or.inr rfl))) (de_var 9 rfl rfl (by first | exact Or.inl rfl | exact Or.inr (Or.inl rfl) | exact Or.inr (Or.inr rfl))))) (dg_name 7 sc_law.nd rfl (by first | exact Or.inl rfl | exact Or.inr rfl) (by first | exact Or.inl rfl | exact Or.inr rfl)) (.same (.same (.same (.same (.same (.same (.same (.any (.same (.same (.any (.any (.any .nil))))))))))))) (fun i_584 s_583 => (ds_if (jk := (fun (s : Unit) => ([.val (p_script : (List Int)), .val (space_550 : (SpaceD C)), .val (equations_555 : (List (Tup ((Tup Int) × Int)))), .val (step_559 : (List (Tup ((Tup Int) × Int)))), .own ((given_563 ++ [y_566]) : (List (Tup ((Tup Int) × Int)))), .val (s_583 : (MacD C D G)), .val (due_571 : (List (Tup Int))), .val (i_584 : (Tup Int)), .val (t_549.1 : Int), .val (t_549.2 : Int), .any, .any, .any] : List Slot))) (mt := (((m_ma_after s_583 i_584)).bind fun v_585 => ((m_law_after t_549.1 step_559 i_584)).bind fun v_586 => (neI v_585 v_586))) (dt_c1 (ma := (m_ma_after s_583 i_584)) (mb := (m_law_after t_549.1 step_559 i_584)) (f := fun (x : (Tup Int)) (y : (Tup Int)) => (neI x y)) cmp_neD (de_meth1 (m := (some s_583)) (n := (some i_584)) (f := fun p : (MacD C D G) × (Tup Int) × Unit => m_ma_after p.1 p.2.1) ((g_ma_after T).mt) (de_var 5 rfl rfl (by first | exact Or.inl rfl | exact Or.inr (Or.inl rfl) | exact Or.inr (Or.inr rfl))) (de_var 7 rfl rfl (by first | exact Or.inl rfl | exact Or.inr (Or.inl rfl) | exact Or.inr (Or.inr rfl)))) (de_call3P (a1 := t_549.1) (a2 := step_559) (a3 := i_584) (f := fun p : Int × (List (Tup ((Tup Int) × Int))) × (Tup Int) × Unit => m_law_after p.1 p.2.1 p.2.2.1) ((g_law_after T).df) (de_var 8 rfl rfl (by first | exact Or.inl rfl | exact Or.inr (Or.inl rfl) | exact Or.inr (Or.inr rfl))) (de_var 3 rfl rfl (by first | exact Or.inl rfl | exact Or.inr (Or.inl rfl) | exact Or.inr (Or.inr rfl))) (de_var 7 rfl rfl (by first | exact Or.inl rfl | exact Or.inr (Or.inl rfl) | exact Or.inr (Or.inr rfl))))) (ds_ret (m := (some false)) de_bl) (ds_end (s := ()) (.same (.same (.same (.same (.same (.same (.same (.same (.same (.same (.any (.any (.any .nil)))))))))))))) (fun s_589 => (ds_set (i := 10) (as_e (m := (m_law_reached t_549.1 step_559 ([i_584] : List (Tup Int)))) 10 (de_call3P (a1 := t_549.1) (a2 := step_559) (a3 := ([i_584] : List (Tup Int))) (f := fun p : Int × (List (Tup ((Tup Int) × Int))) × (List (Tup Int)) × Unit => m_law_reached p.1 p.2.1 p.2.2.1) ((g_law_reached T).df) (de_var 8 rfl rfl (by first | exact Or.inl rfl | exact Or.inr (Or.inl rfl) | exact Or.inr (Or.inr rfl))) (de_var 3 rfl rfl (by first | exact Or.inl rfl | exact Or.inr (Or.inl rfl) | exact Or.inr (Or.inr rfl))) (DeN.de (dn_lstP (di_consP (de_var 7 rfl rfl (by first | exact Or.inl rfl | exact Or.inr (Or.inl rfl) | exact Or.inr (Or.inr rfl))) di_nil)))) sc_law.nd rfl (by first | exact Or.inl rfl | exact Or.inr rfl) (by first | exact Or.inl rfl | exact Or.inr rfl) (fun _ _ => rfl)) (fun path_590 => (ds_set (i := 11) (as_e (m := (((some path_590)).bind fun v_595 => ((((some t_549.1)).bind fun v_592 => ((some step_559)).bind fun v_593 => ((atI path_590 ((path_590.length : Int) - (1 : Int)))).bind fun v_594 => (m_law_after v_592 v_593 v_594))).bind fun v_596 => (idxD v_595 v_596))) 11 (de_indexD (m := (some path_590)) (n := (((some t_549.1)).bind fun v_592 => ((some step_559)).bind fun v_593 => ((atI path_590 ((path_590.length : Int) - (1 : Int)))).bind fun v_594 => (m_law_after v_592 v_593 v_594))) (de_var 10 rfl rfl (by first | exact Or.inl rfl | exact Or.inr (Or.inl rfl) | exact Or.inr (Or.inr rfl))) (de_call3 (m1 := (some t_549.1)) (m2 := (some step_559)) (m3 := (atI path_590 ((path_590.length : Int) - (1 : Int)))) (f := fun p : Int × (List (Tup ((Tup Int) × Int))) × (Tup Int) × Unit => m_law_after p.1 p.2.1 p.2.2.1) ((g_law_after T).df) (de_var 8 rfl rfl (by first | exact Or.inl rfl | exact Or.inr (Or.inl rfl) | exact Or.inr (Or.inr rfl))) (de_var 3 rfl rfl (by first | exact Or.inl rfl | exact Or.inr (Or.inl rfl) | exact Or.inr (Or.inr rfl))) (de_ixLP (De.l (de_var 10 rfl rfl (by first | exact Or.inl rfl | exact Or.inr (Or.inl rfl) | exact Or.inr (Or.inr rfl)))) (de_subP (de_lenLP  T.len (De.l (de_var 10 rfl rfl (by first | exact Or.inl rfl | exact Or.inr (Or.inl rfl) | exact Or.inr (Or.inr rfl))))) de_int)))) sc_law.nd rfl (by first | exact Or.inl rfl | exact Or.inr rfl) (by first | exact Or.inl rfl | exact Or.inr rfl) (fun _ _ => rfl)) (fun again_591 => (ds_set (i := 12) (as_e (m := (m_ma_way s_583 i_584)) 12 (de_meth1 (m := (some s_583)) (n := (some i_584)) (f := fun p : (MacD C D G) × (Tup Int) × Unit => m_ma_way p.1 p.2.1) ((g_ma_way T).mt) (de_var 5 rfl rfl (by first | exact Or.inl rfl | exact Or.inr (Or.inl rfl) | exact Or.inr (Or.inr rfl))) (de_var 7 rfl rfl (by first | exact Or.inl rfl | exact Or.inr (Or.inl rfl) | exact Or.inr (Or.inr rfl)))) sc_law.nd rfl (by first | exact Or.inl rfl | exact Or.inr rfl) (by first | exact Or.inl rfl | exact Or.inr rfl) (fun _ _ => rfl)) (fun told_597 => (ds_if (jk := (fun (s : Unit) => ([.val (p_script : (List Int)), .val (space_550 : (SpaceD C)), .val (equations_555 : (List (Tup ((Tup Int) × Int)))), .val (step_559 : (List (Tup ((Tup Int) × Int)))), .own ((given_563 ++ [y_566]) : (List (Tup ((Tup Int) × Int)))), .val (s_583 : (MacD C D G)), .val (due_571 : (List (Tup Int))), .val (i_584 : (Tup Int)), .val (t_549.1 : Int), .val (t_549.2 : Int), .val (path_590 : (List (Tup Int))), .val (again_591 : Int), .val (told_597 : ((List (Tup Int)) × Int))] : List Slot))) (mt := (orO (((some true)).bind fun v_598 => some (!v_598)) (orO (some (!decide ((((2 : Nat) : Nat) : Int) = (2 : Int)))) (orO (neI told_597.1 path_590) (some (!decide (told_597.2 = again_591))))))) (DeW.t (dw_or (dt_not (m := (some true)) (dt_of (m := (some true)) (de_isiT (m := (some told_597)) T.isinstance T.tuple (de_var 12 rfl rfl (by first | exact Or.inl rfl | exact Or.inr (Or.inl rfl) | exact Or.inr (Or.inr rfl)))))) (dw_or (dt_c1P (f := fun (x : Int) (y : Int) => some (!decide (x = y))) cmp_neI (de_lenT (m := (some told_597)) T.len (de_var 12 rfl rfl (by first | exact Or.inl rfl | exact Or.inr (Or.inl rfl) | exact Or.inr (Or.inr rfl)))) de_int) (dw_or (dt_c1P (f := fun (x : (List (Tup Int))) (y : (List (Tup Int))) => (neI x y)) cmp_neD (de_fstP (de_var 12 rfl rfl (by first | exact Or.inl rfl | exact Or.inr (Or.inl rfl) | exact Or.inr (Or.inr rfl)))) (de_var 10 rfl rfl (by first | exact Or.inl rfl | exact Or.inr (Or.inl rfl) | exact Or.inr (Or.inr rfl)))) (dw_or1 (dt_c1P (f := fun (x : Int) (y : Int) => some (!decide (x = y))) cmp_neI (de_sndP (de_var 12 rfl rfl (by first | exact Or.inl rfl | exact Or.inr (Or.inl rfl) | exact Or.inr (Or.inr rfl)))) (de_var 11 rfl rfl (by first | exact Or.inl rfl | exact Or.inr (Or.inl rfl) | exact Or.inr (Or.inr rfl))))))))) (ds_ret (m := (some false)) de_bl) (ds_end (s := ()) (.same (.same (.same (.same (.same (.same (.same (.same (.same (.same (.same (.same (.same .nil)))))))))))))) (fun s_601 => (ds_end (s := s_583) (.same (.same (.same (.same (.same (.same (.same (.any (.same (.same (.any (.any (.any .nil))))))))))))))))))))))))) (fun s_602 => (ds_ret (m := (some true)) de_bl))))))))))) (k := fun given_567 => (Fl.bindO (orO (neI machine_564.step step_559) (orO (neI machine_564.space.names space_550.names) (neI machine_564.start.equations equations_555))) fun v_569 => Fl.bind (if v_569 = true then ((Fl.bindO (some false) fun r_568 => .rt r_568) : Fl Unit Unit Bool) else (.nx ())) fun s_570 => (Fl.bindO (((((some t_549.1)).bind fun v_572 => ((some step_559)).bind fun v_573 => ((m_law_solutions t_549.1 t_549.2 equations_555)).bind fun v_574 => (m_law_reached v_572 v_573 v_574))).bind fun v_575 => (if okSort (v_575.map Dat.toD) = true then some (sortD v_575) else none)) fun due_571 => (Fl.bindO (m_ma_reached machine_564) fun xs_576 => Fl.bindO (some (⟨([] : List Int)⟩ : Tup Int)) fun y_577 => if len1 xs_576.length = true then (Fl.bindO (((m_ma_reached machine_564)).bind fun v_578 => ((some due_571)).bind fun v_579 => (neI v_578 v_579)) fun v_581 => Fl.bind (if v_581 = true then ((Fl.bindO (some false) fun r_580 => .rt r_580) : Fl Unit Unit Bool) else (.nx ())) fun s_582 => (Fl.bindO (m_law_points t_549.1 t_549.2) fun xs_604 => Fl.bind (Fl.loop (fun (i_584 : (Tup Int)) (s_583 : ((MacD C D G))) => ((Fl.bindO (((m_ma_after s_583 i_584)).bind fun v_585 => ((m_law_after t_549.1 step_559 i_584)).bind fun v_586 => (neI v_585 v_586)) fun v_588 => Fl.bind (if v_588 = true then ((Fl.bindO (some false) fun r_587 => .rt r_587) : Fl Unit ((MacD C D G)) Bool) else (.nx ())) fun s_589 => (Fl.bindO (m_law_reached t_549.1 step_559 ([i_584] : List (Tup Int))) fun path_590 => (Fl.bindO (((some path_590)).bind fun v_595 => ((((some t_549.1)).bind fun v_592 => ((some step_559)).bind fun v_593 => ((atI path_590 ((path_590.length : Int) - (1 : Int)))).bind fun v_594 => (m_law_after v_592 v_593 v_594))).bind fun v_596 => (idxD v_595 v_596)) fun again_591 => (Fl.bindO (m_ma_way s_583 i_584) fun told_597 => (Fl.bindO (orO (((some true)).bind fun v_598 => some (!v_598)) (orO (some (!decide ((((2 : Nat) : Nat) : Int) = (2 : Int)))) (orO (neI told_597.1 path_590) (some (!decide (told_597.2 = again_591)))))) fun v_600 => Fl.bind (if v_600 = true then ((Fl.bindO (some false) fun r_599 => .rt r_599) : Fl Unit ((MacD C D G)) Bool) else (.nx ())) fun s_601 => (.nx s_583)))))) : Fl ((MacD C D G)) ((MacD C D G)) Bool)) xs_604 machine_564 : Fl ((MacD C D G)) Unit Bool) fun s_602 => (Fl.bindO (some true) fun r_603 => .rt r_603))) else .err)))))))))))))))))
theorem ok_law (T : Tx K mg C fI fdI D fJ fdJ G fG fdG) {fa : Addr} {fd : FuncData} (F : Fun K "law" "law" s_law fa fd) : FnOk P w K mg base CX0 8 fa fd ["script"] (spF K (fun p : (List Int) × Unit => m_law C D G p.1)) := fn_ok F sc_law (by decide) (fun _ => rfl) (fun _ h => nomatch h) (b_law T)

end
end Kt

set_option maxRecDepth 100000
set_option linter.all false
set_option Elab.async false
namespace Kt
open PySem PySem.Spec L2 Dn
theorem cell_ok (ns : List Int) {k : Int} (h : 0 ≤ k) : ∃ v, m_law_cell ns k = some v := by
  unfold m_law_cell fl_law_cell
  try simp only [Option.bind_some, Option.map_some]
  rw [bO]
  by_cases q : k < (ns.length : Int)
  · obtain ⟨v, e, _⟩ := atI_ge h q
    rw [decide_eq_true q, if_pos rfl, e, bO, bR]
    exact ⟨v, rfl⟩
  · rw [decide_eq_false q, if_neg Bool.false_ne_true, bN, bO]
    exact ⟨0, rfl⟩
theorem pow18 : powI 10 18 = some (10 ^ 18) := by decide +kernel
theorem digits_ok (cell : Int) {many count : Int} (h0 : 0 < many) (h1 : many < 1073741824) (c0 : 0 ≤ count) (c1 : count ≤ 1000) : ∃ ds, m_law_digits cell many count = some ds ∧ (ds.length : Int) = count ∧ ∀ d ∈ ds, 0 ≤ d ∧ d < many := by
  unfold m_law_digits fl_law_digits
  try simp only [Option.bind_some, Option.map_some]
  rw [bO, bO, rangeI_ok (by omega) c0, bO]
  refine loop_fin (fun n (s : List Int × Int) => s.1.length = n ∧ ∀ d ∈ s.1, 0 ≤ d ∧ d < many) (fun i hi m s hm hs => ?_) ⟨rfl, fun _ h => nomatch h⟩ (fun s hs => ?_)
  · obtain ⟨hl, hs⟩ := hs
    rw [upto_len] at hm
    have hi := upto_mem hi
    have hL : len1 s.1.length = true := len1_of (by omega)
    have add : ∀ y : Int, (∀ d ∈ s.1 ++ [y % many], 0 ≤ d ∧ d < many) ∧ (s.1 ++ [y % many]).length = m + 1 := fun y => ⟨fun d hd => by
      rcases List.mem_append.mp hd with hd | hd
      · exact hs d hd
      · cases List.mem_singleton.mp hd
        exact ⟨Int.emod_nonneg _ (by omega), Int.emod_lt_of_pos _ h0⟩, by rw [List.length_append, hl]; rfl⟩
    rw [pow18, Option.bind_some, bO]
    by_cases q : (10 : Int) ^ 18 ≤ cell
    · rw [decide_eq_true q, if_pos rfl, modI_ok h0, bO, hL, if_pos rfl, divI_ok h0 h1, bO, bN]
      exact ⟨_, rfl, (add _).2, (add _).1⟩
    · rw [decide_eq_false q, if_neg Bool.false_ne_true, mulR (by decide) (by decide), Option.bind_some, mulR (by decide) (by decide), Option.bind_some, Option.bind_some, Option.bind_some, Option.bind_some, modI_ok (by decide), bO]
      have r0 : 0 ≤ (cell * 48271 + i * 69621 + 1013) % 2147483647 := Int.emod_nonneg _ (by decide)
      have r1 : (cell * 48271 + i * 69621 + 1013) % 2147483647 < 2147483647 := Int.emod_lt_of_pos _ (by decide)
      generalize (cell * 48271 + i * 69621 + 1013) % 2147483647 = x at r0 r1
      rw [mulR (by omega) (by omega), Option.bind_some, mulR (by omega) (by omega), Option.bind_some, Option.bind_some, Option.bind_some, Option.bind_some, modI_ok (by decide), bO, divI_ok (by decide) (by decide), Option.bind_some, Option.bind_some, modI_ok h0, bO, hL, if_pos rfl, bN]
      exact ⟨_, rfl, (add _).2, (add _).1⟩
  · rw [bO]
    refine ⟨s.1, rfl, ?_, hs.2⟩
    rw [hs.1, upto_len]
    omega
def SH : List (Int × Int) := [(2, 1), (2, 2), (2, 3), (3, 1), (3, 2), (5, 1), (2, 4), (3, 3), (7, 1), (5, 2), (2, 5), (7, 2)]
def TT (s : Int × Int) : List (Tup Int) := (m_tuples_in_order s.1 s.2).getD []
theorem shape_ok (v : Int) : ∃ s, m_law_shape v = some s ∧ s ∈ SH := by
  unfold m_law_shape fl_law_shape
  try simp only [Option.bind_some, Option.map_some]
  rw [bO, modI_ok (by decide), Option.bind_some]
  obtain ⟨s, e, m⟩ := atI_ge (xs := SH) (i := v % 12) (Int.emod_nonneg _ (by decide)) (Int.emod_lt_of_pos _ (by decide))
  unfold SH at e
  rw [e, bO]
  exact ⟨s, rfl, m⟩
theorem F0 : ∀ s ∈ SH, 2 ≤ s.1 ∧ s.1 ≤ 7 ∧ 1 ≤ s.2 ∧ s.2 ≤ 5 := by decide
theorem F1 : ∀ s ∈ SH, True ∧ m_tuples_in_order s.1 s.2 = some (TT s) := by decide +kernel
def menu : List Str := [("x" : Str), ("y" : Str), ("z" : Str), ("x1" : Str), ("b" : Str), ("word" : Str), ("k9" : Str), ("verylongname" : Str)]
def steps : List Int := [1, 3, 5, 7]
def nmF (st sp : Int) (c : Int) : Option (List Str) := ((rangeI c).bind fun xs => (capI xs).bind fun xs => mapO (fun (i : Int) => ((((((((mulI sp i).bind fun v => some (st + v))).bind fun v => some v)).bind fun v => (modI v (8 : Int)))).bind fun v => (atI menu v))) xs)
theorem G1 : ∀ s ∈ SH, ∀ st ∈ List.range 8, ∀ sp ∈ steps, (nmF (st : Int) sp s.2).bind (fun ns => (m_make_a_space s.1 ns).bind fun b => some (b && decide ((ns.length : Int) = s.2))) = some true := by decide +kernel
theorem names_ok (v : Int) {s : Int × Int} (hs : s ∈ SH) : ∃ ns, m_law_names v s.2 = some ns ∧ m_make_a_space s.1 ns = some true ∧ (ns.length : Int) = s.2 := by
  unfold m_law_names fl_law_names
  try simp only [Option.bind_some, Option.map_some]
  rw [bO, modI_ok (by decide), bO, divI_ok (by decide) (by decide), Option.bind_some, Option.bind_some, modI_ok (by decide), Option.bind_some]
  obtain ⟨sp, e, m⟩ := atI_ge (xs := steps) (i := v / 8 % 4) (Int.emod_nonneg _ (by decide)) (Int.emod_lt_of_pos _ (by decide))
  unfold steps at e
  rw [e, bO]
  have n0 : 0 ≤ v % 8 := Int.emod_nonneg _ (by decide)
  have n1 : v % 8 < 8 := Int.emod_lt_of_pos _ (by decide)
  have e8 : v % 8 = ((v % 8).toNat : Int) := by omega
  have g := G1 s hs (v % 8).toNat (List.mem_range.mpr (by omega)) sp m
  rw [← e8] at g
  obtain ⟨ns, en, g⟩ := bind_some g
  obtain ⟨b, eb, g⟩ := bind_some g
  unfold nmF menu at en
  rw [en, bO]
  have g : (b && decide ((ns.length : Int) = s.2)) = true := Option.some.inj g
  rw [Bool.and_eq_true] at g
  exact ⟨ns, rfl, by rw [eb, g.1], of_decide_eq_true g.2⟩
theorem space_ok (C : Addr) {s : Int × Int} (hs : s ∈ SH) {ns : List Str} (hm : m_make_a_space s.1 ns = some true) (hl : (ns.length : Int) = s.2) : m_space C s.1 ns = some ⟨s.1, ns, s.2, TT s⟩ := by
  have e : fl_init C s.1 ns = .nx ⟨s.1, ns, s.2, TT s⟩ := by
    unfold fl_init
    rw [hm, Option.bind_some, Bool.not_true, bO, if_neg Bool.false_ne_true, bN, bO, bO, bO, hl, (F1 s hs).2, bO]
  unfold m_space
  rw [e]
  rfl
end Kt

set_option maxRecDepth 100000
set_option linter.all false
set_option Elab.async false
namespace Kt
open PySem PySem.Spec L2 Dn
theorem at0 {α : Type} (x : α) (xs : List α) : atI (x :: xs) (0 : Int) = some x := atI_nat (j := 0) (v := x) rfl
theorem repI_zero {m : Nat} (h : m ≤ 1000) : repI ([(0 : Int)] : List Int) (m : Int) = some (tab m fun _ => 0) := by
  unfold repI
  have e : (List.replicate m ([0] : List Int)).flatten = tab m fun _ => 0 := by
    unfold tab
    clear h
    induction m with
    | zero => rfl
    | succ m ih =>
      rw [List.replicate_succ, List.flatten_cons, ih, List.range_succ_eq_map, List.map_cons, List.map_map]
      rfl
  have c : (decide (-1000000 ≤ (m : Int)) && decide ((m : Int) ≤ 1000000) && len1 (([(0 : Int)] : List Int).length * (m : Int).toNat)) = true := by
    rw [decide_eq_true (by omega), decide_eq_true (by omega), Bool.and_self, Bool.true_and]
    refine len1_of ?_
    show 1 * (m : Int).toNat ≤ 100000
    omega
  rw [if_pos c, Int.toNat_natCast, e]
theorem zip_tab {m : Nat} (f g : Nat → Int) : (tab m f).zip (tab m g) = (List.range m).map fun j => (f j, g j) := by
  unfold tab
  rw [List.zip_map']
theorem tab_map {m : Nat} (f : Nat → Int) (h : Int → Int) : (tab m f).map h = tab m fun j => h (f j) := by
  unfold tab
  rw [List.map_map]
  rfl
theorem wsum_eq {p : Int} (hp : 0 < p) {P m : Nat} (hP : 0 < P) (hm : m ≤ 1000) (w : Nat → Int) (x : Nat → Nat → Int) (hw : ∀ s, s < P → 0 ≤ w s ∧ w s ≤ 1000) : m_weighted_sum p (tab P w) ((List.range P).map fun s => tab m (x s)) = some (tab m fun j => (S P fun s => w s * x s j) % p) := by
  unfold m_weighted_sum fl_weighted_sum
  have hz : (tab P w).zip ((List.range P).map fun s => tab m (x s)) = (List.range P).map fun s => (w s, tab m (x s)) := by
    unfold tab
    rw [List.zip_map']
  have ha : atI ((List.range P).map fun s => tab m (x s)) (0 : Int) = some (tab m (x 0)) := by
    obtain ⟨P', rfl⟩ : ∃ P', P = P' + 1 := ⟨P - 1, by omega⟩
    rw [List.range_succ_eq_map, List.map_cons]
    exact at0 _ _
  simp -implicitDefEqProofs only [Option.bind_some]
  rw [ha, Option.bind_some, tab_len, Option.bind_some, repI_zero hm, bO, bO, hz]
  have step : ∀ {L : Type} (n : Nat), n ≤ P → ∀ t : Nat, (Fl.loop (fun (i_60 : (Int × (List Int))) (s_59 : ((List Int))) => ((Fl.bindO (some (!decide (i_60.1 = (0 : Int)))) fun v_66 => Fl.bind (if v_66 = true then ((Fl.bindO ((capI (s_59.zip i_60.2)).bind fun xs_65 => mapO (fun (i_62 : (Int × Int)) => (((mulI i_60.1 i_62.2)).bind fun v_64 => some (i_62.1 + v_64))) xs_65) fun total_61 => (.nx total_61)) : Fl ((List Int)) ((List Int)) (List Int)) else (.nx s_59)) fun s_67 => (.nx s_67)) : Fl ((List Int)) ((List Int)) (List Int))) ((List.range' t n).map fun s => (w s, tab m (x s))) (tab m fun j => S t fun s => w s * x s j) : Fl ((List Int)) L (List Int)) = if t + n ≤ P then .nx (tab m fun j => S (t + n) fun s => w s * x s j) else (Fl.loop (fun (i_60 : (Int × (List Int))) (s_59 : ((List Int))) => ((Fl.bindO (some (!decide (i_60.1 = (0 : Int)))) fun v_66 => Fl.bind (if v_66 = true then ((Fl.bindO ((capI (s_59.zip i_60.2)).bind fun xs_65 => mapO (fun (i_62 : (Int × Int)) => (((mulI i_60.1 i_62.2)).bind fun v_64 => some (i_62.1 + v_64))) xs_65) fun total_61 => (.nx total_61)) : Fl ((List Int)) ((List Int)) (List Int)) else (.nx s_59)) fun s_67 => (.nx s_67)) : Fl ((List Int)) ((List Int)) (List Int))) ((List.range' t n).map fun s => (w s, tab m (x s))) (tab m fun j => S t fun s => w s * x s j) : Fl ((List Int)) L (List Int)) := by
    intro L n
    induction n with
    | zero =>
      intro _ t
      split
      · rfl
      · rfl
    | succ n ih =>
      intro hn t
      split
      · rename_i ht
        rw [List.range'_succ, List.map_cons]
        unfold Fl.loop
        have hws := hw t (by omega)
        have nx : Fl.bind (if (!decide (w t = (0 : Int))) = true then ((Fl.bindO ((capI ((tab m fun j => S t fun s => w s * x s j).zip (tab m (x t)))).bind fun xs_65 => mapO (fun (i_62 : (Int × Int)) => (((mulI (w t) i_62.2)).bind fun v_64 => some (i_62.1 + v_64))) xs_65) fun total_61 => (.nx total_61)) : Fl ((List Int)) ((List Int)) (List Int)) else (.nx (tab m fun j => S t fun s => w s * x s j))) (fun s_67 => (.nx s_67 : Fl (List Int) (List Int) (List Int))) = .nx (tab m fun j => S (t + 1) fun s => w s * x s j) := by
          by_cases z : w t = 0
          · rw [decide_eq_true z, Bool.not_true, if_neg Bool.false_ne_true, bN]
            refine congrArg Fl.nx (tab_congr fun j _ => ?_)
            show S t _ = S t _ + w t * x t j
            rw [z, Int.zero_mul, Int.add_zero]
          · rw [decide_eq_false z, Bool.not_false, if_pos rfl, zip_tab, capI_ok (by rw [List.length_map, List.length_range]; omega), Option.bind_some, mapO_val (g := fun q : Int × Int => q.1 + w t * q.2) (fun q _ => by
              rw [mulL (by omega) (by omega), Option.bind_some]), bO, bN, List.map_map]
            rfl
        rw [bO, nx]
        have := ih (by omega) (t + 1)
        rw [if_pos (by omega)] at this
        show Fl.loop _ ((List.range' (t + 1) n).map fun s => (w s, tab m (x s))) _ = _
        rw [this]
        have e : t + 1 + n = t + (n + 1) := by omega
        rw [e]
      · rfl
  have st := step (L := Unit) P (Nat.le_refl _) 0
  rw [if_pos (by omega), ← List.range_eq_range', Nat.zero_add] at st
  show Fl.fin none (Fl.bind (Fl.loop _ _ (tab m fun j => S 0 fun s => w s * x s j)) _) = _
  rw [st, bN, capI_ok (by rw [tab_len]; omega), Option.bind_some, mapO_val (g := fun v => v % p) (fun v _ => modI_ok hp), bO, tab_map]
  rfl
theorem foldl_flat {α : Type} (h : α → List Int) : ∀ (l : List α) (acc : List Int), l.foldl (fun acc r => acc ++ h r) acc = acc ++ l.flatMap h
  | [], acc => by rw [List.flatMap_nil, List.append_nil]; rfl
  | r :: l, acc => by
    rw [List.foldl_cons, foldl_flat h l, List.flatMap_cons, List.append_assoc]
def rowsL (P : Nat) (R : Nat → Nat → Int) : List (List Int) := (List.range P).map fun r => tab P (R r)
def Small (P : Nat) (R : Nat → Nat → Int) : Prop := ∀ r, r < P → ∀ s, s < P → 0 ≤ R r s ∧ R r s ≤ 1000
theorem once_eq {P m : Nat} (hP : 0 < P) (hP9 : P ≤ 10) (hm0 : 0 < m) (hm : m ≤ 1000) {R : Nat → Nat → Int} (hR : Small P R) {xs : List Int} (hl : xs.length = m * P) : m_turned_once (P : Int) (rowsL P R) xs = some (tab (P * m) fun i => Lt P m R (ofL xs) i % (P : Int)) := by
  have ep : mapO (fun (i_74 : Int) => (if 0 < (P : Int) ∧ (pickG xs (some i_74) none (some (P : Int))).length ≤ 100000 then some (pickG xs (some i_74) none (some (P : Int))) else none)) (upto 0 P) = some ((List.range P).map fun s => tab m fun j => ofL xs (j * P + s)) := by
    rw [mapO_val (g := fun i => pickG xs (some i) none (some (P : Int))) (fun i hi => by
      have hi := upto_mem hi
      obtain ⟨s, rfl⟩ := Int.eq_ofNat_of_zero_le hi.1
      rw [if_pos ⟨by omega, by rw [pick_step hl (by omega) hm0, tab_len]; omega⟩])]
    unfold upto
    rw [List.map_map]
    refine congrArg some (List.map_congr_left fun s hs => ?_)
    show pickG xs (some (0 + (s : Int))) none (some (P : Int)) = _
    rw [Int.zero_add]
    exact pick_step hl (List.mem_range.mp hs) hm0
  unfold m_turned_once fl_turned_once
  rw [rangeI_ok (by omega) (by omega), Int.toNat_natCast, Option.bind_some, capI_ok (by rw [upto_len]; omega), Option.bind_some, ep, bO, bO, bO]
  rw [loop_fold (N := P) (fun (acc : List Int) row => acc ++ (m_weighted_sum (P : Int) row ((List.range P).map fun s => tab m fun j => ofL xs (j * P + s))).getD []) (fun n acc => acc.length ≤ n * 1000) (n := 0) (fun row hrow n acc hn ha => by
    obtain ⟨r, hr, rfl⟩ := List.mem_map.mp hrow
    rw [wsum_eq (by omega) hP hm (R r) (fun s j => ofL xs (j * P + s)) (fun s hs => hR r (List.mem_range.mp hr) s hs), bO, tab_len, if_pos (len1_of (by omega))]
    refine ⟨rfl, ?_⟩
    show (acc ++ tab m _).length ≤ _
    rw [List.length_append, tab_len]
    omega) (by unfold rowsL; rw [List.length_map, List.length_range]; omega) (Nat.le_refl _), bN, bO, foldl_flat, List.nil_append]
  have e : (rowsL P R).flatMap (fun row => (m_weighted_sum (P : Int) row ((List.range P).map fun s => tab m fun j => ofL xs (j * P + s))).getD []) = (List.range P).flatMap fun r => tab m fun j => (S P fun s => R r s * ofL xs (j * P + s)) % (P : Int) := by
    unfold rowsL
    have : ∀ l : List Nat, (∀ r ∈ l, r < P) → (l.map fun r => tab P (R r)).flatMap (fun row => (m_weighted_sum (P : Int) row ((List.range P).map fun s => tab m fun j => ofL xs (j * P + s))).getD []) = l.flatMap fun r => tab m fun j => (S P fun s => R r s * ofL xs (j * P + s)) % (P : Int) := fun l h => by
      induction l with
      | nil => rfl
      | cons r l ih =>
        rw [List.map_cons, List.flatMap_cons, List.flatMap_cons, ih fun r hr => h r (List.mem_cons_of_mem _ hr), wsum_eq (by omega) hP hm (R r) (fun s j => ofL xs (j * P + s)) (fun s hs => hR r (h r (List.mem_cons_self ..)) s hs)]
        rfl
    exact this _ fun r hr => List.mem_range.mp hr
  rw [e, flat_tab m hm0 (fun r j => (S P fun s => R r s * ofL xs (j * P + s)) % (P : Int))]
  rfl
def tF (P : Nat) (R : Nat → Nat → Int) (_ : Int) (s : List Int) : Fl (List Int) (List Int) (List Int) := Fl.bindO (m_turned_once (P : Int) (rowsL P R) s) fun n => .nx n
theorem tF_loop {L : Type} {P m : Nat} (hP : 0 < P) (hP9 : P ≤ 10) (hm0 : 0 < m) (hm : m ≤ 1000) {R : Nat → Nat → Int} (hR : Small P R) : ∀ (is : List Int) (xs : List Int), xs.length = m * P → ∃ ys, (Fl.loop (tF P R) is xs : Fl ((List Int)) L (List Int)) = .nx ys ∧ ys.length = m * P ∧ (∀ i, i < m * P → ofL ys i % (P : Int) = Lp P m R is.length (ofL xs) i % (P : Int)) ∧ (0 < is.length → ∀ i, i < m * P → 0 ≤ ofL ys i ∧ ofL ys i < (P : Int))
  | [], xs, hl => ⟨xs, loop_nil _ _, hl, fun _ _ => rfl, fun h => absurd h (by decide)⟩
  | i0 :: is, xs, hl => by
    have o := once_eq hP hP9 hm0 hm hR hl
    have o2 : tF P R i0 xs = .nx (tab (P * m) fun i => Lt P m R (ofL xs) i % (P : Int)) := by
      unfold tF
      rw [o, bO]
    have lo : (tab (P * m) fun i => Lt P m R (ofL xs) i % (P : Int)).length = m * P := by rw [tab_len, Nat.mul_comm]
    have at_ : ∀ i, i < m * P → ofL (tab (P * m) fun i => Lt P m R (ofL xs) i % (P : Int)) i = Lt P m R (ofL xs) i % (P : Int) := fun i hi => ofL_tab _ (by rw [Nat.mul_comm]; exact hi)
    generalize (tab (P * m) fun i => Lt P m R (ofL xs) i % (P : Int)) = zs at o2 lo at_
    obtain ⟨ys, y1, y2, y3, y4⟩ := tF_loop (L := L) hP hP9 hm0 hm hR is zs lo
    refine ⟨ys, (loop_cons o2 is).trans y1, y2, fun i hi => ?_, fun _ i hi => ?_⟩
    · rw [y3 i hi, List.length_cons, Lp_succ]
      exact Lp_mod (P : Int) R is.length (fun i hi => by rw [at_ i hi, Int.emod_emod]) hi
    · cases is with
      | nil =>
        have : zs = ys := Fl.nx.inj ((loop_nil (L := L) (tF P R) zs).symm.trans y1)
        rw [← this, at_ i hi]
        exact ⟨Int.emod_nonneg _ (by omega), Int.emod_lt_of_pos _ (by omega)⟩
      | cons a l => exact y4 (Nat.succ_pos _) i hi
theorem turned_eq {C : Addr} (sp : SpaceD C) {P m : Nat} (e1 : sp.prime = (P : Int)) (hc0 : 0 ≤ sp.count) (hc : sp.count ≤ 10) (hP : 0 < P) (hP9 : P ≤ 10) (hm0 : 0 < m) (hm : m ≤ 1000) {R : Nat → Nat → Int} (hR : Small P R) {xs : List Int} (hl : xs.length = m * P) : ∃ ys, m_turned sp (rowsL P R) xs = some ys ∧ ys.length = m * P ∧ (∀ i, i < m * P → ofL ys i % (P : Int) = Lp P m R sp.count.toNat (ofL xs) i % (P : Int)) ∧ (0 < sp.count → ∀ i, i < m * P → 0 ≤ ofL ys i ∧ ofL ys i < (P : Int)) := by
  obtain ⟨ys, y1, y2, y3, y4⟩ := tF_loop (L := Unit) hP hP9 hm0 hm hR (upto 0 sp.count.toNat) xs hl
  rw [upto_len] at y3 y4
  refine ⟨ys, ?_, y2, y3, fun h i hi => y4 (by omega) i hi⟩
  unfold m_turned fl_turned
  rw [rangeI_ok (by omega) hc0, bO, e1]
  unfold tF at y1
  rw [y1, bN, bO]
  rfl
end Kt

set_option maxRecDepth 100000
set_option linter.all false
set_option Elab.async false
namespace Kt
open PySem PySem.Spec L2 Dn
def VR (p : Int) : List (List Int) := (m_value_rows p).getD []
def Rf (L : List (List Int)) (r s : Nat) : Int := (L.getD r []).getD s 0
def NN (s : Int × Int) : Nat := (TT s).length
def MM (s : Int × Int) : Nat := NN s / s.1.toNat
theorem F7 : ∀ s ∈ SH, NN s = MM s * s.1.toNat ∧ 0 < MM s ∧ MM s ≤ 1000 ∧ (s.1.toNat : Int) = s.1 ∧ NN s = s.1.toNat ^ s.2.toNat ∧ MM s = s.1.toNat ^ (s.2.toNat - 1) := by decide +kernel
theorem V1 : ∀ s ∈ SH, m_value_rows s.1 = some (VR s.1) ∧ VR s.1 = rowsL s.1.toNat (Rf (VR s.1)) := by decide +kernel
theorem V2 : ∀ s ∈ SH, ∀ r, r < s.1.toNat → ∀ j, j < s.1.toNat → 0 ≤ Rf (VR s.1) r j ∧ Rf (VR s.1) r j ≤ 1000 := by decide +kernel
theorem V3 : ∀ s ∈ SH, ∀ r, r < s.1.toNat → ∀ e, e < s.1.toNat → Rf (VR s.1) r e = powT s.1.toNat r e := by decide +kernel
def NR (p : Int) : List (List Int) := (List.range p.toNat).map fun e => (List.range p.toNat).map fun r => if e = 0 then (if r = 0 then 1 else 0) else (-(powT p.toNat r (p.toNat - 1 - e))) % p
theorem O2 : ∀ s ∈ SH, ∀ a, a < s.1.toNat → ∀ b, b < s.1.toNat → Dn.S s.1.toNat (fun r => Rf (VR s.1) a r * Rf (NR s.1) r b) % s.1 = (if a = b then 1 else 0) % s.1 := by decide +kernel
end Kt

set_option maxRecDepth 100000
set_option linter.all false
set_option Elab.async false
namespace Kt
open PySem PySem.Spec L2 Dn
structure Sp (s : Int × Int) {C : Addr} (sp : SpaceD C) : Prop where
  hs : s ∈ SH
  pr : sp.prime = s.1
  co : sp.count = s.2
theorem turn_eq {C : Addr} {sp : SpaceD C} {s : Int × Int} (h : Sp s sp) {L : List (List Int)} (e : L = rowsL s.1.toNat (Rf L)) (sm : Small s.1.toNat (Rf L)) {xs : List Int} (hl : xs.length = NN s) : ∃ ys, m_turned sp L xs = some ys ∧ ys.length = NN s ∧ (∀ i, i < NN s → ofL ys i = Dn.S (NN s) (fun b => Ww s.1.toNat (Rf L) s.2.toNat i b * ofL xs b) % s.1) ∧ ∀ i, i < NN s → 0 ≤ ofL ys i ∧ ofL ys i < s.1 := by
  have f0 := F0 s h.hs
  obtain ⟨f1, f2, f3, f4, f5, f6⟩ := F7 s h.hs
  obtain ⟨ys, y1, y2, y3, y4⟩ := turned_eq sp (P := s.1.toNat) (m := MM s) (by rw [h.pr, f4]) (by rw [h.co]; omega) (by rw [h.co]; omega) (by omega) (by omega) f2 f3 sm (xs := xs) (by rw [hl, f1])
  rw [← e] at y1
  rw [← f1] at y2 y3 y4
  rw [f4, h.co] at y3
  rw [f4] at y4
  have y5 := y4 (by rw [h.co]; omega)
  refine ⟨ys, y1, y2, fun i hi => ?_, y5⟩
  have a := y3 i hi
  rw [Int.emod_eq_of_lt (y5 i hi).1 (y5 i hi).2] at a
  rw [a, f6, Lp_all (by omega) (Rf L) (ofL xs) (by rw [← f5]; exact hi), ← f5]
end Kt

set_option maxRecDepth 100000
set_option linter.all false
set_option Elab.async false
namespace Kt
open PySem PySem.Spec L2 Dn
theorem F1p : ∀ s ∈ SH, m_law_points s.1 s.2 = some (TT s) := by decide +kernel
theorem F6 : ∀ s ∈ SH, TT s = (allT s.1.toNat s.2.toNat).map Tup.mk := by decide +kernel
theorem F7p : ∀ s ∈ SH, ∀ a ∈ TT s, (a.l.length : Int) = s.2 ∧ 0 ≤ a.l.sum := by decide +kernel
theorem F8 : ∀ s ∈ SH, 0 < (TT s).length ∧ (TT s).length ≤ 1000 := by decide +kernel
theorem TT_mem {s : Int × Int} (hs : s ∈ SH) {pw : List Int} (hl : (pw.length : Int) = s.2) (h : ∀ x ∈ pw, 0 ≤ x ∧ x < s.1) : (⟨pw⟩ : Tup Int) ∈ TT s := by
  have f0 := F0 s hs
  rw [F6 s hs]
  exact List.mem_map.mpr ⟨pw, allT_mem _ _ _ (by omega) (fun x hx => by have := h x hx; omega), rfl⟩
structure Tot (m : Nat) (d : Dct Int) : Prop where
  len : d.l.length ≤ m
  ne : ∀ k ∈ d.keys, 1 ≤ k.l.length
theorem Tot.ok {m : Nat} {d : Dct Int} (h : Tot m d) (hm : m ≤ 1000) : okSort (d.l.map fun p => Dat.toD p.1) = true :=
  okSort_keys d (fun q hq => h.ne _ (List.mem_map.mpr ⟨q, hq, rfl⟩)) (Nat.le_trans h.len (by omega))
theorem made_eq {p : Int} (hp : 0 < p) {m : Nat} (hm : m ≤ 1000) {d : Dct Int} (h : Tot m d) : m_law_made p d = some ⟨rowsOf p d⟩ := by
  unfold m_law_made fl_law_made
  simp -implicitDefEqProofs only [Option.bind_some, Option.map_some]
  have pm := sortD_perm (d.l.map (·.1))
  have h1 := h.len
  have ln : (sortD (d.l.map (·.1))).length = d.l.length := by rw [pm.length_eq, List.length_map]
  rw [if_pos (h.ok hm), Option.bind_some, capI_ok (by omega), Option.bind_some]
  rw [mapO_val (α := Tup Int) (g := fun k => (k, d.val k % p)) (fun k hk => by
    rw [Dct.get_val (pm.mem_iff.mp hk), Option.bind_some, Option.bind_some, modI_ok hp, Option.bind_some])]
  rw [bO, capI_ok (by rw [List.length_reverse, List.length_map]; omega), Option.bind_some, compO_filter (α := Tup Int × Int) (fun q => !decide (q.2 = 0)) (fun q _ => rfl), Option.map_some, bO]
  show some (⟨((sortD (d.l.map (·.1))).map fun k => (k, d.val k % p)).reverse.filter _⟩ : Po) = _
  rw [← List.map_reverse, ← sortD_rev]
  rfl
theorem F9 : ∀ s ∈ SH, (TT s).Pairwise fun a b => a.l < b.l := by decide +kernel
theorem nd_lt {T : List (Tup Int)} (h : T.Pairwise fun a b => a.l < b.l) : T.Nodup :=
  List.Pairwise.imp (fun {a b} (q : a.l < b.l) e => by rw [e] at q; exact List.lt_irrefl _ q) h
theorem F9n {s : Int × Int} (hs : s ∈ SH) : (TT s).Nodup := nd_lt (F9 s hs)
theorem drawn_ok {s : Int × Int} (hs : s ∈ SH) (cell : Int) : ∃ t, m_law_drawn s.1 s.2 cell = some t ∧ PolT (TT s) s.1 t := by
  have f0 := F0 s hs
  unfold m_law_drawn fl_law_drawn
  simp -implicitDefEqProofs only [Option.bind_some, Option.map_some]
  rw [mulL (by decide) (by decide), Option.bind_some, Option.bind_some]
  obtain ⟨ds, ed, ld, hd⟩ := digits_ok cell (many := 420) (count := 6 * (s.2 + 1) + 1) (by decide) (by decide) (by omega) (by omega)
  obtain ⟨d0, e0, m0⟩ := atI_ge (xs := ds) (i := 0) (by decide) (by omega)
  have b0 := hd d0 m0
  rw [ed, bO, e0, Option.bind_some, Option.bind_some, modI_ok (by decide), Option.bind_some, rangeI_ok (by omega) (by omega), bO]
  refine loop_fin (fun n (d : Dct Int) => d.l.length ≤ n ∧ (∀ k ∈ d.keys, k ∈ TT s) ∧ d.keys.Nodup) (fun i hi n d hn hd2 => ?_) ⟨Nat.le_refl _, (fun q h => nomatch h), List.nodup_nil⟩ (fun d hd2 => ?_)
  · have hi := upto_mem hi
    rw [upto_len] at hn
    have i0 : 0 ≤ i := hi.1
    have i6 : i ≤ 5 := by omega
    have e1 : mulI i (s.2 + 1) = some (i * (s.2 + 1)) := mulR (by omega) (by omega)
    have e2 : mulI (i + 1) (s.2 + 1) = some ((i + 1) * (s.2 + 1)) := mulR (by omega) (by omega)
    have a0 : 0 ≤ i * (s.2 + 1) := Int.mul_nonneg i0 (by omega)
    have a1 : (i + 1) * (s.2 + 1) = i * (s.2 + 1) + (s.2 + 1) := by rw [Int.add_mul, Int.one_mul]
    have a2 : (i + 1) * (s.2 + 1) ≤ 6 * (s.2 + 1) := Int.mul_le_mul_of_nonneg_right (by omega) (by omega)
    have lp := cutG_len (xs := ds) (a := 1 + i * (s.2 + 1)) (b := 1 + (i + 1) * (s.2 + 1)) (by omega) (by omega) (by omega)
    rw [e1, Option.bind_some, Option.map_some, Option.bind_some, e2, Option.bind_some, Option.map_some, Option.bind_some, bO]
    generalize cutG ds (some (1 + i * (s.2 + 1))) (some (1 + (i + 1) * (s.2 + 1))) = part at lp
    obtain ⟨pw, ep, lpw, hpw⟩ := mapO_all (h := fun (i_141 : Int) => ((((atI part i_141)).bind fun v_142 => some v_142)).bind fun v_143 => (modI v_143 s.1)) (fun v => 0 ≤ v ∧ v < s.1) (upto 0 s.2.toNat) (fun j hj => by
      have hj := upto_mem hj
      obtain ⟨v, e, _⟩ := atI_ge (xs := part) (i := j) (by omega) (by omega)
      rw [e, Option.bind_some, Option.bind_some, modI_ok (by omega)]
      exact ⟨_, rfl, Int.emod_nonneg _ (by omega), Int.emod_lt_of_pos _ (by omega)⟩)
    rw [upto_len] at lpw
    obtain ⟨v, ev, _⟩ := atI_ge (xs := part) (i := s.2) (by omega) (by omega)
    rw [rangeI_ok (by omega) (by omega), Option.bind_some, capI_ok (by rw [upto_len]; omega), Option.bind_some, ep, Option.map_some, bO, ev, Option.bind_some, Option.bind_some, modI_ok (by omega), Option.bind_some, bO, bO, if_pos (len1_of (by omega))]
    refine ⟨_, rfl, ?_, fun k hk => ?_, Dct.put_nodup hd2.2.2⟩
    · have := Dct.put_len d ⟨pw⟩ (1 + v % (s.1 - 1))
      omega
    · obtain ⟨q, hq, rfl⟩ := List.mem_map.mp hk
      rcases Dct.put_mem hq with e | ⟨r, hr, e⟩
      · rw [e]
        exact TT_mem hs (by omega) hpw
      · rw [← e]
        exact hd2.2.1 _ (List.mem_map.mpr ⟨r, hr, rfl⟩)
  · rw [upto_len] at hd2
    have h6 : d.l.length ≤ 6 := by omega
    have ne1 : ∀ k ∈ d.keys, 1 ≤ k.l.length := fun k hk => by
      have := F7p s hs k (hd2.2.1 k hk)
      omega
    rw [made_eq (p := s.1) (by omega) (m := 6) (by decide) ⟨h6, ne1⟩, bO]
    have pr := pol_rows (p := s.1) (by omega) h6 ne1 hd2.2.2
    refine ⟨_, rfl, fun q hq => ?_, pr.2.2⟩
    have q2 := pr.2.1 q hq
    obtain ⟨m1, m2⟩ := List.mem_filter.mp hq
    obtain ⟨k, hk, rfl⟩ := List.mem_map.mp m1
    have nz : ¬ d.val k % s.1 = 0 := fun e => by rw [decide_eq_true e] at m2; cases m2
    refine ⟨hd2.2.1 k ((sortDR_perm d.keys).mem_iff.mp hk), ?_, q2.2.2⟩
    have := q2.2.1
    show 0 < d.val k % s.1
    have t2 : 0 ≤ d.val k % s.1 := this
    omega
def pw (p : Int) (a b : Tup Int) : Int := (m_law_power_value p a b).getD 0
theorem F5z : ∀ s ∈ SH, ∀ x ∈ (TT s).zipIdx, ∀ y ∈ (TT s).zipIdx, m_law_power_value s.1 x.1 y.1 = some (Ww s.1.toNat (powT s.1.toNat) s.2.toNat y.2 x.2 % s.1) := by decide +kernel
theorem zi {T : List (Tup Int)} {b : Nat} (h : b < T.length) : (T.getD b zt, b) ∈ T.zipIdx := by
  rw [List.getD_eq_getElem?_getD, List.getElem?_eq_getElem h]
  exact List.mem_zipIdx_iff_getElem?.mpr (List.getElem?_eq_getElem h)
theorem F5 (s : Int × Int) (hs : s ∈ SH) (a : Tup Int) (ha : a ∈ TT s) (b : Tup Int) (hb : b ∈ TT s) : m_law_power_value s.1 a b = some (pw s.1 a b) ∧ 0 ≤ pw s.1 a b ∧ pw s.1 a b < s.1 := by
  have f0 := F0 s hs
  obtain ⟨i, hi, rfl⟩ := List.getElem_of_mem ha
  obtain ⟨j, hj, rfl⟩ := List.getElem_of_mem hb
  have mi : ((TT s)[i], i) ∈ (TT s).zipIdx := List.mem_zipIdx_iff_getElem?.mpr (List.getElem?_eq_getElem hi)
  have mj : ((TT s)[j], j) ∈ (TT s).zipIdx := List.mem_zipIdx_iff_getElem?.mpr (List.getElem?_eq_getElem hj)
  have e := F5z s hs _ mi _ mj
  dsimp only at e
  unfold pw
  rw [e]
  exact ⟨rfl, Int.emod_nonneg _ (by omega), Int.emod_lt_of_pos _ (by omega)⟩
theorem F4 {s : Int × Int} (hs : s ∈ SH) {i b : Nat} (hi : i < NN s) (hb : b < NN s) : Ww s.1.toNat (Rf (VR s.1)) s.2.toNat i b % s.1 = pw s.1 ((TT s).getD b zt) ((TT s).getD i zt) := by
  have f0 := F0 s hs
  have e := F5z s hs _ (zi hb) _ (zi hi)
  dsimp only at e
  rw [Ww_congr (by omega) (V3 s hs)]
  unfold pw
  rw [e]
  rfl
theorem value_law {s : Int × Int} (hs : s ∈ SH) {t : Po} (h : PolT (TT s) s.1 t) {b : Tup Int} (hb : b ∈ TT s) : m_law_value s.1 t b = some (EV s.1 (pw s.1) t b) := by
  have f0 := F0 s hs
  unfold m_law_value fl_law_value
  simp -implicitDefEqProofs only [Option.bind_some, Option.map_some]
  rw [bO, bO, loop_fold (N := t.l.length) (fun (z : Int) q => z + q.2 * pw s.1 q.1 b) (fun _ _ => True) (n := 0) (fun q hq n z _ _ => by
    obtain ⟨e2, v0, v1⟩ := F5 s hs q.1 (h.mem q hq).1 b hb
    rw [e2, Option.bind_some, mulR (by omega) (by omega), Option.bind_some, bO]
    exact ⟨rfl, trivial⟩) (by omega) trivial, bN, foldl_sum, Int.zero_add, modI_ok (by omega), bO]
  rfl
end Kt

set_option maxRecDepth 100000
set_option linter.all false
set_option Elab.async false
namespace Kt
open PySem PySem.Spec L2 Dn
structure SpT (s : Int × Int) {C : Addr} (sp : SpaceD C) : Prop extends Sp s sp where
  tu : sp.tuples = TT s
theorem powers_lex {C : Addr} (sp : SpaceD C) : m_powers sp ("lex" : Str) = some sp.tuples := rfl
theorem turned_nu {C : Addr} {sp : SpaceD C} {s : Int × Int} (h : SpT s sp) {f : Tup Int → Int} : m_turned sp (VR s.1) ((TT s).map f) = some ((TT s).map fun b => ((TT s).map fun k => f k * pw s.1 k b).sum % s.1) := by
  have f0 := F0 s h.hs
  have f1 := (F7 s h.hs).1
  have hl : ((TT s).map f).length = NN s := by rw [List.length_map]; rfl
  obtain ⟨ys, y1, y2, y3, y4⟩ := turn_eq h.toSp (V1 s h.hs).2 (V2 s h.hs) hl
  rw [y1]
  refine congrArg some ?_
  rw [← tab_ofL ys, y2, ← tab_list (fun b => ((TT s).map fun k => f k * pw s.1 k b).sum % s.1) (TT s)]
  show tab (NN s) (ofL ys) = tab (NN s) _
  refine tab_congr fun i hi => ?_
  rw [y3 i hi]
  rw [S_mod (g := fun b => f ((TT s).getD b zt) * pw s.1 ((TT s).getD b zt) ((TT s).getD i zt)) s.1 fun b hb => ?_]
  · exact congrArg (· % s.1) (S_list (fun k => f k * pw s.1 k ((TT s).getD i zt)) (TT s))
  · rw [Int.mul_emod, F4 h.hs hi hb, ofL_map _ _ hb, Int.mul_comm]
    rw [Int.mul_emod, Int.emod_emod, ← Int.mul_emod]
theorem table_eq {C : Addr} {sp : SpaceD C} {s : Int × Int} (h : SpT s sp) {t : Po} (ht : PolT (TT s) s.1 t) : m_table_of sp t = some ((TT s).map (EV s.1 (pw s.1) t)) := by
  have f8 := F8 s h.hs
  have l1 := ht.len (F9 s h.hs)
  unfold m_table_of fl_table_of
  simp -implicitDefEqProofs only [Option.bind_some, Option.map_some]
  have e0 : (t.l.map fun x : Tup Int × Int => (x.1, x.2)) = t.l := List.map_id _
  rw [capI_ok (by omega), Option.bind_some, dctO_val (a := fun q : Tup Int × Int => q.1) (b := fun q => q.2) (fun q _ => ⟨rfl, rfl⟩) (by
    rw [List.map_nil, List.nil_append]
    exact ht.nd), List.nil_append, e0, bO, powers_lex, h.tu, Option.bind_some, capI_ok (by omega), Option.bind_some, mapO_val (h := fun k : Tup Int => some (((⟨t.l⟩ : Dct Int).get k).getD 0)) (g := Nu t) (fun k _ => rfl), bO, h.pr, (V1 s h.hs).1, Option.bind_some, turned_nu h, bO]
  show some _ = some _
  refine congrArg some (List.map_congr_left fun b _ => ?_)
  exact (EV_T (F9n h.hs) ht (pw s.1) b).symm
end Kt

set_option maxRecDepth 100000
set_option linter.all false
set_option Elab.async false
namespace Kt
open PySem PySem.Spec L2 Dn
theorem len_TT49 : ∀ s ∈ SH, (TT s).length ≤ 49 := by decide +kernel
theorem pl_len {s : Int × Int} (hs : s ∈ SH) {t : Po} (h : PolT (TT s) s.1 t) : t.l.length ≤ 49 := Nat.le_trans (h.len (F9 s hs)) (len_TT49 s hs)
theorem made_acc {s : Int × Int} (hs : s ∈ SH) {d : Dct Int} {xs : List (Tup Int × Int)} (hl : d.l.length ≤ 100000) (hn : d.keys.Nodup) (hk : ∀ k ∈ d.keys, k ∈ TT s) (hv : ∀ k, d.val k = sumK k xs) : m_law_made s.1 d = some (acc (TT s) s.1 xs) := by
  have f0 := F0 s hs
  have ok : okSort (d.l.map fun p => Dat.toD p.1) = true := okSort_keys d (fun q hq => by
    have := (F7p s hs _ (hk _ (List.mem_map.mpr ⟨q, hq, rfl⟩))).1
    omega) hl
  rw [← rows_acc (F9 s hs) (by omega) hn hk hv]
  unfold m_law_made fl_law_made
  simp -implicitDefEqProofs only [Option.bind_some, Option.map_some]
  have pm := sortD_perm (d.l.map (·.1))
  have ln : (sortD (d.l.map (·.1))).length = d.l.length := by rw [pm.length_eq, List.length_map]
  rw [if_pos ok, Option.bind_some, capI_ok (by omega), Option.bind_some]
  rw [mapO_val (α := Tup Int) (g := fun k => (k, d.val k % s.1)) (fun k hk => by
    rw [Dct.get_val (pm.mem_iff.mp hk), Option.bind_some, Option.bind_some, modI_ok (by omega), Option.bind_some])]
  rw [bO, capI_ok (by rw [List.length_reverse, List.length_map]; omega), Option.bind_some, compO_filter (α := Tup Int × Int) (fun q => !decide (q.2 = 0)) (fun q _ => rfl), Option.map_some, bO]
  show some (⟨((sortD (d.l.map (·.1))).map fun k => (k, d.val k % s.1)).reverse.filter _⟩ : Po) = _
  rw [← List.map_reverse, ← sortD_rev]
  rfl
theorem addAll_ok {s : Int × Int} {xs : List (Tup Int × Int)} (hl : xs.length ≤ 100000) (hx : ∀ q ∈ xs, q.1 ∈ TT s) : (addAll xs ⟨[]⟩).l.length ≤ 100000 ∧ (addAll xs ⟨[]⟩).keys.Nodup ∧ (∀ k ∈ (addAll xs ⟨[]⟩).keys, k ∈ TT s) ∧ ∀ k, (addAll xs ⟨[]⟩).val k = sumK k xs := by
  refine ⟨?_, addAll_nodup xs ⟨[]⟩ List.nodup_nil, addAll_keys (P := fun k => k ∈ TT s) xs ⟨[]⟩ hx (fun k h => nomatch h), fun k => ?_⟩
  · have := addAll_len xs (⟨[]⟩ : Dct Int)
    have e : (⟨[]⟩ : Dct Int).l.length = 0 := rfl
    omega
  · rw [addAll_val]
    show (0 : Int) + _ = _
    rw [Int.zero_add]
theorem law_plus_eq {s : Int × Int} (hs : s ∈ SH) {one other : Po} (l1 : one.l.length ≤ 1000) (l2 : other.l.length ≤ 1000) (h1 : ∀ q ∈ one.l, q.1 ∈ TT s) (h2 : ∀ q ∈ other.l, q.1 ∈ TT s) : m_law_plus s.1 one other = some (acc (TT s) s.1 (one.l ++ other.l)) := by
  unfold m_law_plus fl_law_plus
  rw [catU_ok (by omega), Option.map_some, bO]
  dsimp only
  have ll : (one.l ++ other.l).length ≤ 100000 := by rw [List.length_append]; omega
  rw [loop_fold (N := (one.l ++ other.l).length) (fun (d : Dct Int) q => d.put q.1 ((d.get q.1).getD 0 + q.2)) (fun n d => d.l.length ≤ n) (n := 0) (fun q hq n d hn hd => by
    rw [bO, bO, if_pos (len1_of (by omega))]
    refine ⟨rfl, ?_⟩
    have := Dct.put_len d q.1 ((d.get q.1).getD 0 + q.2)
    show (d.put q.1 _).l.length ≤ n + 1
    omega) (by omega) (Nat.zero_le _), bN]
  obtain ⟨a1, a2, a3, a4⟩ := addAll_ok (s := s) (xs := one.l ++ other.l) ll (fun q hq => by
    rcases List.mem_append.mp hq with hq | hq
    · exact h1 q hq
    · exact h2 q hq)
  show Fl.fin none (Fl.bindO (m_law_made s.1 (addAll (one.l ++ other.l) ⟨[]⟩)) _) = _
  rw [made_acc hs a1 a2 a3 a4, bO]
  rfl
def scP (p n : Int) (t : Po) : Po := ⟨(t.l.map fun r => (r.1, r.2 * n % p)).filter fun q => !decide (q.2 = 0)⟩
theorem scP_mem {p n : Int} {t : Po} {T : List (Tup Int)} (h : ∀ q ∈ t.l, q.1 ∈ T) : ∀ q ∈ (scP p n t).l, q.1 ∈ T := fun q hq => by
  obtain ⟨r, hr, rfl⟩ := List.mem_map.mp (List.mem_filter.mp hq).1
  exact h r hr
theorem scP_len (p n : Int) (t : Po) : (scP p n t).l.length ≤ t.l.length := by
  have := List.length_filter_le (fun q : Tup Int × Int => !decide (q.2 = 0)) (t.l.map fun r => (r.1, r.2 * n % p))
  rw [List.length_map] at this
  exact this
theorem law_scaled_eq {p : Int} (hp : 0 < p) {one : Po} (l1 : one.l.length ≤ 1000) {n : Int} (n0 : 0 ≤ n) (n1 : n ≤ 1000) : m_law_scaled p one n = some (scP p n one) := by
  unfold m_law_scaled fl_law_scaled
  simp -implicitDefEqProofs only [Option.bind_some, Option.map_some]
  rw [capI_ok (by omega), Option.bind_some, mapO_val (α := Tup Int × Int) (g := fun r => (r.1, r.2 * n % p)) (fun r _ => by
    rw [mulR (by omega) (by omega), Option.bind_some, Option.bind_some, modI_ok hp, Option.bind_some]), bO, capI_ok (by rw [List.length_map]; omega), Option.bind_some, compO_filter (α := Tup Int × Int) (fun q => !decide (q.2 = 0)) (fun q _ => rfl), Option.map_some, bO]
  rfl
theorem law_minus_ok {s : Int × Int} (hs : s ∈ SH) {one other : Po} (h1 : PolT (TT s) s.1 one) (h2 : PolT (TT s) s.1 other) : ∃ t, m_law_minus s.1 one other = some t ∧ PolT (TT s) s.1 t := by
  have f0 := F0 s hs
  have l1 := pl_len hs h1
  have l2 := pl_len hs h2
  have l3 := scP_len s.1 (s.1 - 1) other
  refine ⟨acc (TT s) s.1 (one.l ++ (scP s.1 (s.1 - 1) other).l), ?_, acc_pol (F9 s hs) (by omega) _⟩
  unfold m_law_minus fl_law_minus
  simp -implicitDefEqProofs only [Option.bind_some, Option.map_some]
  rw [law_scaled_eq (by omega) (by omega) (by omega) (by omega), Option.bind_some, law_plus_eq hs (by omega) (by omega) (fun q hq => (h1.mem q hq).1) (scP_mem fun q hq => (h2.mem q hq).1), bO]
  rfl
def zT (s : Int × Int) : Tup Int := (repU (⟨([(0 : Int)] : List Int)⟩ : Tup Int) s.2).getD ⟨[]⟩
theorem Z1 : ∀ s ∈ SH, repU (⟨([(0 : Int)] : List Int)⟩ : Tup Int) s.2 = some (zT s) ∧ zT s ∈ TT s := by decide +kernel
theorem law_constant_ok {s : Int × Int} (hs : s ∈ SH) (n : Int) : ∃ t, m_law_constant s.1 s.2 n = some t ∧ PolT (TT s) s.1 t := by
  have f0 := F0 s hs
  obtain ⟨z1, z2⟩ := Z1 s hs
  refine ⟨acc (TT s) s.1 [(zT s, n)], ?_, acc_pol (F9 s hs) (by omega) _⟩
  unfold m_law_constant fl_law_constant
  simp -implicitDefEqProofs only [Option.bind_some, Option.map_some]
  rw [z1, Option.bind_some, Option.bind_some, made_acc hs (d := ⟨[(zT s, n)]⟩) (xs := [(zT s, n)]) (by show 1 ≤ 100000; decide) (by show ([zT s] : List (Tup Int)).Nodup; simp) (fun k hk => by
    have : k = zT s := List.mem_singleton.mp hk
    rw [this]
    exact z2) (fun k => by
    rw [val_cons _ _ (by simp), sumK_cons]
    rfl), bO]
  rfl
theorem many_ok : ∀ v ∈ ([0, 1, 2, 2, 3, 1, 4] : List Int), 0 ≤ v ∧ v ≤ 4 := by decide
theorem equations_ok {s : Int × Int} (hs : s ∈ SH) (cell : Int) : ∃ es, m_law_equations s.1 s.2 cell = some es ∧ es.length ≤ 4 ∧ ∀ e ∈ es, PolT (TT s) s.1 e := by
  have f0 := F0 s hs
  have f8 := F8 s hs
  obtain ⟨ds, ed, ld, hd⟩ := digits_ok cell (many := 5040) (count := 16) (by decide) (by decide) (by decide) (by decide)
  have at_ : ∀ {i : Int}, 0 ≤ i → i < 16 → ∃ v, atI ds i = some v ∧ 0 ≤ v ∧ v < 5040 := fun {i} h0 h1 => by
    obtain ⟨v, e, m⟩ := atI_ge (xs := ds) (i := i) h0 (by omega)
    exact ⟨v, e, hd v m⟩
  obtain ⟨d0, e0, r0⟩ := at_ (i := 0) (by decide) (by decide)
  obtain ⟨d1, e1, r1⟩ := at_ (i := 1) (by decide) (by decide)
  obtain ⟨d10, e10, r10⟩ := at_ (i := 10) (by decide) (by decide)
  obtain ⟨d11, e11, r11⟩ := at_ (i := 11) (by decide) (by decide)
  obtain ⟨pt, ept, mpt⟩ := atI_ge (xs := TT s) (i := d0 % ((TT s).length : Int)) (Int.emod_nonneg _ (by omega)) (Int.emod_lt_of_pos _ (by omega))
  obtain ⟨n, en, mn⟩ := atI_ge (xs := ([0, 1, 2, 2, 3, 1, 4] : List Int)) (i := d1 % 7) (Int.emod_nonneg _ (by decide)) (Int.emod_lt_of_pos _ (by decide))
  have n4 := many_ok n mn
  unfold m_law_equations fl_law_equations
  simp -implicitDefEqProofs only [Option.bind_some, Option.map_some]
  rw [ed, bO, F1p s hs, bO, e0, Option.bind_some, Option.bind_some, modI_ok (by omega), Option.bind_some, ept, bO, bO, e1, Option.bind_some, Option.bind_some, modI_ok (by decide), Option.bind_some, en, Option.bind_some, rangeI_ok (by omega) n4.1, bO]
  refine loop_fin (fun m (es : List Po) => es.length = m ∧ ∀ e ∈ es, PolT (TT s) s.1 e) (fun i hi m es hm hes => ?_) ⟨rfl, fun _ h => nomatch h⟩ (fun es hes => ?_)
  · have hi := upto_mem hi
    rw [upto_len] at hm
    obtain ⟨a, ea, ra⟩ := at_ (i := 2 + 2 * i) (by omega) (by omega)
    obtain ⟨b, eb, rb⟩ := at_ (i := 3 + 2 * i) (by omega) (by omega)
    obtain ⟨one, eo, ho⟩ := drawn_ok hs (a + 5040 * b)
    rw [mulL (by decide) (by decide), Option.bind_some, Option.bind_some, ea, Option.bind_some, Option.bind_some, Option.bind_some, eb, Option.bind_some, mulL (by decide) (by decide), Option.bind_some, Option.bind_some, eo, bO, e10, Option.bind_some, Option.bind_some, modI_ok (by decide), Option.bind_some, bO]
    have step : ∀ t : Po, PolT (TT s) s.1 t → ∃ s', (Fl.bindO (((((((atI ds (11 : Int))).bind fun v_380 => some v_380)).bind fun v_381 => (modI v_381 (4 : Int)))).bind fun v_383 => some (decide ((0 : Int) < v_383))) fun v_392 => Fl.bind (if v_392 = true then ((Fl.bindO ((((m_law_value s.1 t pt)).bind fun v_388 => (m_law_constant s.1 s.2 v_388)).bind fun v_391 => (m_law_minus s.1 t v_391)) fun one_385 => (.nx one_385)) : Fl Po ((List Po)) (List Po)) else (.nx t)) fun s_393 => (Fl.bindO (some s_393) fun y_394 => if len1 es.length = true then (.nx (es ++ [y_394]) : Fl (List Po) (List Po) (List Po)) else .err)) = .nx s' ∧ s'.length = m + 1 ∧ ∀ e ∈ s', PolT (TT s) s.1 e := fun t ht => by
      have fin : ∀ u : Po, PolT (TT s) s.1 u → ∃ s', (Fl.bindO (some u) fun y_394 => if len1 es.length = true then (.nx (es ++ [y_394]) : Fl (List Po) (List Po) (List Po)) else .err) = .nx s' ∧ s'.length = m + 1 ∧ ∀ e ∈ s', PolT (TT s) s.1 e := fun u hu => by
        rw [bO, if_pos (len1_of (by omega))]
        refine ⟨_, rfl, by rw [List.length_append, hes.1]; rfl, fun e he => ?_⟩
        rcases List.mem_append.mp he with he | he
        · exact hes.2 e he
        · rw [List.mem_singleton.mp he]; exact hu
      rw [e11, Option.bind_some, Option.bind_some, modI_ok (by decide), Option.bind_some, bO]
      by_cases z : 0 < d11 % 4
      · obtain ⟨c, ec, hc⟩ := law_constant_ok hs (EV s.1 (pw s.1) t pt)
        obtain ⟨u, eu, hu⟩ := law_minus_ok hs ht hc
        rw [decide_eq_true z, if_pos rfl, value_law hs ht mpt, Option.bind_some, ec, Option.bind_some, eu, bO, bN]
        exact fin u hu
      · rw [decide_eq_false z, if_neg Bool.false_ne_true, bN]
        exact fin t ht
    by_cases z : d10 % 4 = 1
    · have l1 := pl_len hs ho
      rw [decide_eq_true z, if_pos rfl, capI_ok (by omega), Option.bind_some, compO_filter (α := Tup Int × Int) (fun q => decide (q.1.l.sum < 2)) (fun q _ => rfl), Option.map_some, bO, bN]
      exact step _ (ho.filter _)
    · rw [decide_eq_false z, if_neg Bool.false_ne_true, bN]
      exact step one ho
  · rw [upto_len] at hes
    rw [bO]
    exact ⟨es, rfl, by omega, hes.2⟩
theorem law_solutions_eq {s : Int × Int} (hs : s ∈ SH) {es : List Po} (l : es.length ≤ 1000) (h : ∀ e ∈ es, PolT (TT s) s.1 e) : m_law_solutions s.1 s.2 es = some ((TT s).filter (SolF s.1 (pw s.1) es)) := by
  have f8 := F8 s hs
  unfold m_law_solutions fl_law_solutions
  simp -implicitDefEqProofs only [Option.bind_some, Option.map_some]
  rw [bO, F1p s hs, bO, loop_fold (N := (TT s).length) (fun (acc : List (Tup Int)) b => if SolF s.1 (pw s.1) es b = true then acc ++ [b] else acc) (fun n acc => acc.length ≤ n) (n := 0) (fun b hb n acc hn ha => by
    rw [capI_ok (by omega), Option.bind_some, mapO_val (h := fun i_402 : Po => (m_law_value s.1 i_402 b).bind fun v_403 => some (decide (v_403 = 0))) (g := fun e => decide (EV s.1 (pw s.1) e b = 0)) (fun e he => by rw [value_law hs (h e he) hb, Option.bind_some]), Option.bind_some, all_map_id, bO]
    show Fl.bind (if SolF s.1 (pw s.1) es b = true then _ else _) _ = _ ∧ _
    by_cases z : SolF s.1 (pw s.1) es b = true
    · rw [if_pos z, if_pos z, bO, if_pos (len1_of (by omega)), bN]
      refine ⟨rfl, ?_⟩
      rw [List.length_append]
      show acc.length + 1 ≤ n + 1
      omega
    · rw [if_neg z, if_neg z, bN]
      exact ⟨rfl, by omega⟩) (by omega) (Nat.zero_le _), bN, bO]
  have : ∀ (T acc : List (Tup Int)), T.foldl (fun acc b => if SolF s.1 (pw s.1) es b = true then acc ++ [b] else acc) acc = acc ++ T.filter (SolF s.1 (pw s.1) es) := fun T => by
    induction T with
    | nil => intro acc; rw [List.filter_nil, List.append_nil]; rfl
    | cons b T ih =>
      intro acc
      rw [List.foldl_cons, ih, List.filter_cons]
      split
      · rw [List.append_assoc]; rfl
      · rfl
  rw [this, List.nil_append]
  rfl
def tabs (s : Int × Int) (es : List Po) : Tup (Tup Int) := ⟨es.map fun e => ⟨(TT s).map (EV s.1 (pw s.1) e)⟩⟩
structure SY (s : Int × Int) {C D : Addr} (sys : SysD C D) : Prop where
  sp : SpT s sys.space
  eqs : ∀ e ∈ sys.equations, PolT (TT s) s.1 e
  tb : sys.tables = tabs s sys.equations
  ln : sys.equations.length ≤ 1000
theorem system_ok {C : Addr} (D : Addr) {sp : SpaceD C} {s : Int × Int} (h : SpT s sp) {es : List Po} (l : es.length ≤ 1000) (he : ∀ e ∈ es, PolT (TT s) s.1 e) : m_system D sp es = some ⟨sp, es, tabs s es⟩ := by
  have e : fl_yinit D sp es = .nx ⟨sp, es, tabs s es⟩ := by
    unfold fl_yinit
    rw [bO, bO, Option.bind_some, capI_ok (by omega), Option.bind_some, mapO_val (h := fun e : Po => (m_table_of sp e).map Tup.mk) (g := fun e => (⟨(TT s).map (EV s.1 (pw s.1) e)⟩ : Tup Int)) (fun e hx => by rw [table_eq h (he e hx), Option.map_some]), Option.map_some, bO]
    rfl
  unfold m_system
  rw [e]
  rfl
end Kt

set_option maxRecDepth 100000
set_option linter.all false
set_option Elab.async false
namespace Kt
open PySem PySem.Spec L2 Dn
def unk (s : Int × Int) (k : Nat) : Po := (m_law_unknown s.2 (k : Int)).getD ⟨[]⟩
theorem UU : ∀ s ∈ SH, ∀ k ∈ List.range s.2.toNat, m_law_unknown s.2 (k : Int) = some (unk s k) ∧ (∀ q ∈ (unk s k).l, q.1 ∈ TT s ∧ 0 < q.2 ∧ q.2 < s.1) ∧ (unk s k).l.length = 1 := by decide +kernel
theorem unk_pol {s : Int × Int} (hs : s ∈ SH) {k : Nat} (hk : k ∈ List.range s.2.toNat) : PolT (TT s) s.1 (unk s k) := by
  obtain ⟨_, a, b⟩ := UU s hs k hk
  refine ⟨a, ?_⟩
  obtain ⟨q, e⟩ := List.length_eq_one_iff.mp b
  rw [e]
  exact List.pairwise_singleton _ _
end Kt

set_option maxRecDepth 100000
set_option linter.all false
set_option Elab.async false
namespace Kt
open PySem PySem.Spec L2 Dn
theorem zip_cols {T : List (Tup Int)} {ps : List Po} (g : Po → Tup Int → Int) (h1 : 1 ≤ ps.length) (h5 : ps.length ≤ 5) : zipS (ps.map fun q => T.map (g q)) = some (T.map fun b => (⟨ps.map fun q => g q b⟩ : Tup Int)) := by
  have hd : ((ps.map fun q => T.map (g q)).headD []).length = T.length := by
    cases ps with
    | nil => exact absurd h1 (by decide)
    | cons q ps => show (T.map (g q)).length = _; rw [List.length_map]
  unfold zipS
  rw [hd, if_pos (by
    rw [Bool.and_eq_true, Bool.and_eq_true, decide_eq_true_eq, decide_eq_true_eq, List.length_map, List.all_eq_true]
    refine ⟨⟨h1, h5⟩, fun xs m => ?_⟩
    obtain ⟨q, _, rfl⟩ := List.mem_map.mp m
    rw [List.length_map]
    exact decide_eq_true rfl)]
  rw [mapO_val (α := Nat) (g := fun i => (⟨ps.map fun q => g q (T.getD i zt)⟩ : Tup Int)) (fun i hi => by
    have hi := List.mem_range.mp hi
    unfold rowAt
    rw [mapO_val (α := List Int) (g := fun xs => xs.getD i 0) (fun xs m => by
      obtain ⟨q, _, rfl⟩ := List.mem_map.mp m
      rw [List.getD_eq_getElem?_getD, List.getElem?_map, List.getElem?_eq_getElem hi]
      rfl), List.map_map]
    show some _ = some _
    refine congrArg some (congrArg Tup.mk (List.map_congr_left fun q _ => ?_))
    show (T.map (g q)).getD i 0 = _
    rw [List.getD_eq_getElem?_getD, List.getD_eq_getElem?_getD, List.getElem?_map, List.getElem?_eq_getElem hi]
    rfl)]
  have e : (List.range T.length).map (fun i => (⟨ps.map fun q => g q (T.getD i zt)⟩ : Tup Int)) = ((List.range T.length).map fun i => T.getD i zt).map fun b => (⟨ps.map fun q => g q b⟩ : Tup Int) := by rw [List.map_map]; rfl
  rw [e, T_range]
def tgt (p : Int) (ps : List Po) (b : Tup Int) : Tup Int := ⟨ps.map fun q => EV p (pw p) q b⟩
theorem tgt_mem {s : Int × Int} (hs : s ∈ SH) {ps : List Po} (hl : (ps.length : Int) = s.2) (b : Tup Int) : tgt s.1 ps b ∈ TT s := by
  have f0 := F0 s hs
  refine TT_mem hs (by rw [List.length_map]; exact hl) fun x hx => ?_
  obtain ⟨q, _, rfl⟩ := List.mem_map.mp hx
  exact EV_range (by omega) _ _ _
theorem law_after_eq {s : Int × Int} (hs : s ∈ SH) {ps : List Po} (l : ps.length ≤ 1000) (hp : ∀ q ∈ ps, PolT (TT s) s.1 q) {b : Tup Int} (hb : b ∈ TT s) : m_law_after s.1 ps b = some (tgt s.1 ps b) := by
  unfold m_law_after fl_law_after
  simp -implicitDefEqProofs only [Option.bind_some, Option.map_some]
  rw [capI_ok (by omega), Option.bind_some, mapO_val (α := Po) (g := fun q => EV s.1 (pw s.1) q b) (fun q hq => value_law hs (hp q hq) hb), Option.map_some, bO]
  rfl
theorem find_mapT {α : Type} [Rep α] (f : Tup Int → α) : ∀ {T : List (Tup Int)} {k : Tup Int}, k ∈ T → (⟨T.map fun b => (b, f b)⟩ : Dct α).get k = some (f k)
  | b :: T, k, h => by
    unfold Dct.get
    rw [List.map_cons, List.find?_cons]
    by_cases e : b = k
    · rw [e, decide_eq_true rfl]
      rfl
    · rw [decide_eq_false e]
      exact find_mapT f ((List.mem_cons.mp h).resolve_left fun q => e q.symm)
theorem lbp_ok {C : Addr} {sp : SpaceD C} {s : Int × Int} (h : SpT s sp) {ps : List Po} (l0 : 1 ≤ ps.length) (l : ps.length ≤ 5) (hp : ∀ q ∈ ps, PolT (TT s) s.1 q) : m_led_by_point sp ps = some ⟨(TT s).map fun b => (b, tgt s.1 ps b)⟩ := by
  have f8 := F8 s h.hs
  have p1 : m_points sp = some sp.tuples := rfl
  have z : (TT s).zip ((TT s).map fun b => (⟨ps.map fun q => EV s.1 (pw s.1) q b⟩ : Tup Int)) = (TT s).map fun b => (b, tgt s.1 ps b) := by
    have := List.zip_map' (f := fun k : Tup Int => k) (g := tgt s.1 ps) (l := TT s)
    rw [List.map_id'] at this
    exact this
  have nd : ((((TT s).map fun b => (b, tgt s.1 ps b))).map fun q : Tup Int × Tup Int => q.1).Nodup := by
    rw [List.map_map]
    have : (TT s).map ((fun q : Tup Int × Tup Int => q.1) ∘ fun b => (b, tgt s.1 ps b)) = TT s := List.map_id' _
    rw [this]
    exact F9n h.hs
  unfold m_led_by_point fl_led_by_point
  simp -implicitDefEqProofs only [Option.bind_some, Option.map_some]
  rw [capI_ok (by omega), Option.bind_some, mapO_val (α := Po) (g := fun q => (TT s).map (EV s.1 (pw s.1) q)) (fun q hq => table_eq h (hp q hq)), bO, zip_cols (EV s.1 (pw s.1)) l0 l, Option.bind_some, capI_ok (by rw [List.length_map]; omega), bO, p1, h.tu, Option.bind_some, z, Option.bind_some, capI_ok (by rw [List.length_map]; omega), Option.bind_some, dctO_val (a := fun q : Tup Int × Tup Int => q.1) (b := fun q => q.2) (fun q _ => ⟨rfl, rfl⟩) (by
    rw [List.map_nil, List.nil_append]
    exact nd), bO]
  show some _ = some _
  refine congrArg some (congrArg Dct.mk ?_)
  rw [List.nil_append]
  exact List.map_id _
theorem first_loop {s : Int × Int} {i : Nat} (hi : i < (TT s).length) : ∀ (es : List Po) (n : Nat), ((Fl.loop (fun (i_113 : (Int × (Tup Int))) (s_112 : Unit) => ((Fl.bindO (((atI i_113.2.l (i : Int))).bind fun v_114 => some (!decide (v_114 = (0 : Int)))) fun v_117 => Fl.bind (if v_117 = true then ((Fl.bindO (some (some i_113.1)) fun r_116 => .rt r_116) : Fl Unit Unit (Option Int)) else (.nx ())) fun s_118 => (.nx ())) : Fl Unit Unit (Option Int))) (enumL n (es.map fun e => (⟨(TT s).map (EV s.1 (pw s.1) e)⟩ : Tup Int))) () : Fl Unit Unit (Option Int)) = .nx () ∧ SolF s.1 (pw s.1) es ((TT s).getD i zt) = true) ∨ (∃ j, (Fl.loop (fun (i_113 : (Int × (Tup Int))) (s_112 : Unit) => ((Fl.bindO (((atI i_113.2.l (i : Int))).bind fun v_114 => some (!decide (v_114 = (0 : Int)))) fun v_117 => Fl.bind (if v_117 = true then ((Fl.bindO (some (some i_113.1)) fun r_116 => .rt r_116) : Fl Unit Unit (Option Int)) else (.nx ())) fun s_118 => (.nx ())) : Fl Unit Unit (Option Int))) (enumL n (es.map fun e => (⟨(TT s).map (EV s.1 (pw s.1) e)⟩ : Tup Int))) () : Fl Unit Unit (Option Int)) = .rt (some j) ∧ SolF s.1 (pw s.1) es ((TT s).getD i zt) = false)
  | [], n => .inl ⟨rfl, rfl⟩
  | e :: es, n => by
    have a : atI ((TT s).map (EV s.1 (pw s.1) e)) (i : Int) = some (EV s.1 (pw s.1) e ((TT s).getD i zt)) := atI_nat (by
      rw [List.getElem?_map, List.getElem?_eq_getElem hi, List.getD_eq_getElem?_getD, List.getElem?_eq_getElem hi]
      rfl)
    rw [List.map_cons]
    show (Fl.loop _ (((n : Int), (⟨(TT s).map (EV s.1 (pw s.1) e)⟩ : Tup Int)) :: enumL (n + 1) _) () = _ ∧ _) ∨ (∃ j, Fl.loop _ (((n : Int), (⟨(TT s).map (EV s.1 (pw s.1) e)⟩ : Tup Int)) :: enumL (n + 1) _) () = _ ∧ _)
    unfold Fl.loop
    rw [a, Option.bind_some, bO]
    have sf : SolF s.1 (pw s.1) (e :: es) ((TT s).getD i zt) = (decide (EV s.1 (pw s.1) e ((TT s).getD i zt) = 0) && SolF s.1 (pw s.1) es ((TT s).getD i zt)) := by
      unfold SolF
      rw [List.all_cons]
    by_cases z : EV s.1 (pw s.1) e ((TT s).getD i zt) = 0
    · rw [decide_eq_true z, Bool.not_true, if_neg Bool.false_ne_true, bN]
      rcases first_loop hi es (n + 1) with ⟨x, y⟩ | ⟨j, x, y⟩
      · exact .inl ⟨x, by rw [sf, decide_eq_true z, y]; rfl⟩
      · exact .inr ⟨j, x, by rw [sf, decide_eq_true z, y]; rfl⟩
    · rw [decide_eq_false z, Bool.not_false, if_pos rfl, bO, bR]
      exact .inr ⟨n, rfl, by rw [sf, decide_eq_false z]; rfl⟩
theorem first_eq {s : Int × Int} {i : Nat} (hi : i < (TT s).length) (es : List Po) : ∃ o, m_first_that_fails (tabs s es) (i : Int) = some o ∧ o.isNone = SolF s.1 (pw s.1) es ((TT s).getD i zt) := by
  unfold m_first_that_fails fl_first_that_fails
  simp -implicitDefEqProofs only [Option.bind_some, Option.map_some]
  rw [bO]
  rcases first_loop hi es 0 with ⟨x, y⟩ | ⟨j, x, y⟩
  · refine ⟨none, ?_, by rw [y]; rfl⟩
    show Fl.fin none (Fl.bind (Fl.loop _ (enumL 0 (es.map fun e => (⟨(TT s).map (EV s.1 (pw s.1) e)⟩ : Tup Int))) ()) _) = _
    rw [x, bN, bO]
    rfl
  · refine ⟨some j, ?_, by rw [y]; rfl⟩
    show Fl.fin none (Fl.bind (Fl.loop _ (enumL 0 (es.map fun e => (⟨(TT s).map (EV s.1 (pw s.1) e)⟩ : Tup Int))) ()) _) = _
    rw [x, bR]
    rfl
theorem solutions_eq {C D : Addr} {sys : SysD C D} {s : Int × Int} (h : SY s sys) : m_y_solutions sys = some ((TT s).filter (SolF s.1 (pw s.1) sys.equations)) := by
  have f8 := F8 s h.sp.hs
  have p1 : m_points sys.space = some sys.space.tuples := rfl
  unfold m_y_solutions fl_y_solutions
  simp -implicitDefEqProofs only [Option.bind_some, Option.map_some]
  rw [p1, h.sp.tu, bO, capI_ok (by rw [enumL_len]; omega), Option.bind_some, compO_enum (SolF s.1 (pw s.1) sys.equations) (fun q hq => by
    obtain ⟨i, x, rfl, hx⟩ := enumL_mem hq
    have hi := (List.getElem?_eq_some_iff.mp hx).1
    obtain ⟨o, o1, o2⟩ := first_eq hi sys.equations
    have gx : (TT s).getD i zt = x := by rw [List.getD_eq_getElem?_getD, hx]; rfl
    have e0 : (((0 + i : Nat) : Int)) = (i : Int) := by rw [Nat.zero_add]
    dsimp only
    rw [e0, h.tb, o1, Option.bind_some, Option.bind_some, o2, gx]), bO]
  rfl
end Kt

set_option maxRecDepth 100000
set_option linter.all false
set_option Elab.async false
namespace Kt
open PySem PySem.Spec L2 Dn
theorem loop_ix {L R T α : Type} {f : α → T → Fl T T R} : ∀ {xs : List α} (I : Nat → T → Prop) {s : T}, (∀ (k : Nat) (x : α) (s : T), xs[k]? = some x → I k s → ∃ s', f x s = .nx s' ∧ I (k + 1) s') → I 0 s → ∃ s', (Fl.loop f xs s : Fl T L R) = .nx s' ∧ I xs.length s'
  | [], I, s, _, h => ⟨s, loop_nil f s, h⟩
  | x :: xs, I, s, hf, h => by
    obtain ⟨s1, e1, i1⟩ := hf 0 x s rfl h
    obtain ⟨s2, e2, i2⟩ := loop_ix (L := L) (xs := xs) (fun k => I (k + 1)) (s := s1) (fun k y t hy ht => hf (k + 1) y t hy ht) i1
    exact ⟨s2, (loop_cons e1 xs).trans e2, i2⟩
theorem G2 : ∀ s ∈ SH, ∀ st ∈ List.range 8, ∀ sp ∈ steps, (nmF (st : Int) sp s.2).map (fun ns => lay ns) = some true := by decide +kernel
theorem names_lay (v : Int) {s : Int × Int} (hs : s ∈ SH) {nm : List Str} (h : m_law_names v s.2 = some nm) : lay nm = true := by
  have : ∃ ns, m_law_names v s.2 = some ns ∧ lay ns = true := by
    unfold m_law_names fl_law_names
    try simp only [Option.bind_some, Option.map_some]
    rw [bO, modI_ok (by decide), bO, divI_ok (by decide) (by decide), Option.bind_some, Option.bind_some, modI_ok (by decide), Option.bind_some]
    obtain ⟨sp, e, m⟩ := atI_ge (xs := steps) (i := v / 8 % 4) (Int.emod_nonneg _ (by decide)) (Int.emod_lt_of_pos _ (by decide))
    unfold steps at e
    rw [e, bO]
    have n0 : 0 ≤ v % 8 := Int.emod_nonneg _ (by decide)
    have n1 : v % 8 < 8 := Int.emod_lt_of_pos _ (by decide)
    have e8 : v % 8 = ((v % 8).toNat : Int) := by omega
    have g := G2 s hs (v % 8).toNat (List.mem_range.mpr (by omega)) sp m
    rw [← e8] at g
    obtain ⟨ns, en, g⟩ := Option.map_eq_some_iff.mp g
    unfold nmF menu at en
    rw [en, bO]
    exact ⟨ns, rfl, g⟩
  obtain ⟨ns, e, l⟩ := this
  rw [e] at h
  rw [← Option.some.inj h]
  exact l

theorem idxD_pts (xs : List (Tup Int)) (x : Tup Int) : idxD xs x = (xs.findIdx? fun y => decide (y = x)).map fun j => (j : Int) := by
  unfold idxD
  rw [lay_tup lay_int, lay_list (lay_tup lay_int)]
  rfl
theorem loop_same {S L R α : Type} {f : α → S → Fl S S R} {s : S} : ∀ {xs : List α}, (∀ x ∈ xs, f x s = .nx s) → (Fl.loop f xs s : Fl S L R) = .nx s
  | [], _ => rfl
  | x :: xs, h => by
    rw [loop_cons (h x (List.mem_cons_self ..))]
    exact loop_same fun y m => h y (List.mem_cons_of_mem _ m)
theorem nodup_sub {α : Type} [DecidableEq α] : ∀ {xs T : List α}, xs.Nodup → (∀ x ∈ xs, x ∈ T) → xs.length ≤ T.length
  | [], _, _, _ => Nat.zero_le _
  | x :: xs, T, n, h => by
    have n := List.nodup_cons.mp n
    have i := nodup_sub (xs := xs) (T := T.erase x) n.2 fun y m => (List.mem_erase_of_ne (fun e : y = x => n.1 (by rw [← e]; exact m))).mpr (h y (List.mem_cons_of_mem _ m))
    have l := List.length_erase_of_mem (h x (List.mem_cons_self ..))
    have := List.length_pos_of_mem (h x (List.mem_cons_self ..))
    show xs.length + 1 ≤ _
    omega
section
variable {α : Type} [DecidableEq α] {f : α → α} {p : α}
def itr (f : α → α) (p : α) : Nat → α
  | 0 => p
  | n + 1 => f (itr f p n)
def orb (f : α → α) (p : α) (n : Nat) : List α := (List.range n).map (itr f p)
theorem orb_succ (n : Nat) : orb f p (n + 1) = orb f p n ++ [itr f p n] := by
  unfold orb
  rw [List.range_succ, List.map_append]
  rfl
theorem orb_len (n : Nat) : (orb f p n).length = n := by
  unfold orb
  rw [List.length_map, List.length_range]
theorem orb_get {k n : Nat} (h : k < n) : (orb f p n)[k]? = some (itr f p k) := by
  unfold orb
  rw [List.getElem?_map, List.getElem?_range h]
  rfl
theorem orb_mem {T : List α} (h : ∀ k, itr f p k ∈ T) {n : Nat} : ∀ x ∈ orb f p n, x ∈ T := fun x m => by
  obtain ⟨k, _, rfl⟩ := List.mem_map.mp m
  exact h k
theorem orb_nd : ∀ {n : Nat}, (∀ j, j < n → itr f p j ∉ orb f p j) → (orb f p n).Nodup
  | 0, _ => List.nodup_nil
  | n + 1, h => by
    rw [orb_succ]
    refine List.nodup_append.mpr ⟨orb_nd fun j hj => h j (by omega), List.nodup_cons.mpr ⟨(fun h => nomatch h), List.nodup_nil⟩, fun a ha b hb e => ?_⟩
    cases List.mem_singleton.mp hb
    exact h n (Nat.lt_succ_self n) (by rw [← e]; exact ha)
structure Fst (f : α → α) (p : α) (n : Nat) : Prop where
  again : itr f p n ∈ orb f p n
  new : ∀ j, j < n → itr f p j ∉ orb f p j
theorem Fst.pos {n : Nat} (h : Fst f p n) : 1 ≤ n := by
  cases n with
  | zero => exact nomatch h.again
  | succ n => exact Nat.succ_le_succ (Nat.zero_le _)
theorem fst_or : ∀ m : Nat, (∃ n, n ≤ m ∧ Fst f p n) ∨ (∀ j, j ≤ m → itr f p j ∉ orb f p j)
  | 0 => .inr fun j hj => by
    cases Nat.le_zero.mp hj
    exact fun h => nomatch h
  | m + 1 => by
    rcases fst_or m with ⟨n, l, h⟩ | h
    · exact .inl ⟨n, by omega, h⟩
    · by_cases e : itr f p (m + 1) ∈ orb f p (m + 1)
      · exact .inl ⟨m + 1, Nat.le_refl _, e, fun j hj => h j (by omega)⟩
      · refine .inr fun j hj => ?_
        by_cases q : j = m + 1
        · rw [q]; exact e
        · exact h j (by omega)
theorem fst_ex {T : List α} (h : ∀ k, itr f p k ∈ T) : ∃ n, n ≤ T.length ∧ Fst f p n := by
  rcases fst_or (f := f) (p := p) T.length with h' | h'
  · exact h'
  · have := nodup_sub (orb_nd (n := T.length + 1) fun j hj => h' j (by omega)) (orb_mem h)
    rw [orb_len] at this
    omega
def stepL (f : α → α) (xs : List α) (k : Nat) : List α := match xs[k]? with
  | none => xs
  | some x => if f x ∈ xs then xs else xs ++ [f x]
def lawR (f : α → α) (xs : List α) (n : Nat) : List α := (List.range n).foldl (stepL f) xs
theorem range_fold {β : Type} {g : β → Nat → β} (I : Nat → β → Prop) {s : β} (h0 : I 0 s) (hs : ∀ k b, I k b → I (k + 1) (g b k)) : ∀ n, I n ((List.range n).foldl g s)
  | 0 => h0
  | n + 1 => by
    rw [List.range_succ, List.foldl_append]
    exact hs n _ (range_fold I h0 hs n)
structure Cl (f : α → α) (st R : List α) : Prop where
  sub : ∀ x ∈ st, x ∈ R
  nd : R.Nodup
  least : ∀ S : α → Prop, (∀ x ∈ st, S x) → (∀ x, S x → S (f x)) → ∀ x ∈ R, S x
  cl : ∀ x ∈ R, f x ∈ R
theorem Cl.sub2 {st R R' : List α} (h : Cl f st R) (h' : Cl f st R') : ∀ x ∈ R, x ∈ R' := h.least (· ∈ R') h'.sub h'.cl
theorem Cl.perm {st R R' : List α} (h : Cl f st R) (h' : Cl f st R') : R.Perm R' := (List.perm_ext_iff_of_nodup h.nd h'.nd).mpr fun x => ⟨h.sub2 h' x, h'.sub2 h x⟩
theorem lawR_inv {st : List α} (nd : st.Nodup) (n : Nat) : (∀ x ∈ st, x ∈ lawR f st n) ∧ (lawR f st n).Nodup ∧ (∀ S : α → Prop, (∀ x ∈ st, S x) → (∀ x, S x → S (f x)) → ∀ x ∈ lawR f st n, S x) ∧ ∀ i, i < n → ∀ x, (lawR f st n)[i]? = some x → f x ∈ lawR f st n := by
  refine range_fold (fun n R => (∀ x ∈ st, x ∈ R) ∧ R.Nodup ∧ (∀ S : α → Prop, (∀ x ∈ st, S x) → (∀ x, S x → S (f x)) → ∀ x ∈ R, S x) ∧ ∀ i, i < n → ∀ x, R[i]? = some x → f x ∈ R) ⟨fun _ h => h, nd, fun S h _ => h, fun i hi => absurd hi (Nat.not_lt_zero _)⟩ (fun k R ⟨a, b, c, d⟩ => ?_) n
  unfold stepL
  cases e : R[k]? with
  | none =>
    dsimp only
    refine ⟨a, b, c, fun i hi x hx => ?_⟩
    have := List.getElem?_eq_none_iff.mp e
    obtain ⟨hl, _⟩ := List.getElem?_eq_some_iff.mp hx
    exact d i (by omega) x hx
  | some x0 =>
    dsimp only
    have m0 : x0 ∈ R := List.mem_of_getElem? e
    by_cases q : f x0 ∈ R
    · rw [if_pos q]
      refine ⟨a, b, c, fun i hi x hx => ?_⟩
      by_cases z : i = k
      · rw [z, e] at hx
        cases hx
        exact q
      · exact d i (by omega) x hx
    · rw [if_neg q]
      refine ⟨fun x m => List.mem_append_left _ (a x m), List.nodup_append.mpr ⟨b, List.nodup_cons.mpr ⟨(fun h => nomatch h), List.nodup_nil⟩, fun u hu v hv w => ?_⟩, fun S h1 h2 x m => ?_, fun i hi x hx => ?_⟩
      · cases List.mem_singleton.mp hv
        exact q (by rw [← w]; exact hu)
      · rcases List.mem_append.mp m with m | m
        · exact c S h1 h2 x m
        · cases List.mem_singleton.mp m
          exact h2 _ (c S h1 h2 _ m0)
      · obtain ⟨kl, _⟩ := List.getElem?_eq_some_iff.mp e
        rw [List.getElem?_append_left (by omega)] at hx
        by_cases z : i = k
        · rw [z, e] at hx
          cases hx
          exact List.mem_append_right _ (List.mem_cons_self ..)
        · exact List.mem_append_left _ (d i (by omega) x hx)
theorem lawR_cl {st T : List α} (nd : st.Nodup) (hT : ∀ x ∈ st, x ∈ T) (hf : ∀ x ∈ T, f x ∈ T) {n : Nat} (hn : T.length ≤ n) : Cl f st (lawR f st n) := by
  obtain ⟨a, b, c, d⟩ := lawR_inv (f := f) nd n
  refine ⟨a, b, c, fun x m => ?_⟩
  have l := nodup_sub b (c (· ∈ T) hT hf)
  obtain ⟨i, hi, e⟩ := List.getElem_of_mem m
  exact d i (by omega) x (by rw [List.getElem?_eq_getElem hi, e])
theorem lawR_orb {N : Nat} (h : Fst f p N) {n : Nat} (hn : N ≤ n) : lawR f [p] n = orb f p N := by
  have := range_fold (g := stepL f) (s := [p]) (fun n R => (n + 1 ≤ N ∧ R = orb f p (n + 1)) ∨ (N ≤ n ∧ R = orb f p N)) (.inl ⟨h.pos, rfl⟩) (fun k R hk => ?_) n
  · rcases this with ⟨q, _⟩ | ⟨_, q⟩
    · omega
    · exact q
  · unfold stepL
    rcases hk with ⟨l, rfl⟩ | ⟨l, rfl⟩
    · rw [orb_get (Nat.lt_succ_self k)]
      dsimp only
      by_cases e : k + 1 = N
      · right
        rw [if_pos (show f (itr f p k) ∈ orb f p (k + 1) by rw [← e] at h; exact h.again), e]
        exact ⟨Nat.le_refl _, rfl⟩
      · left
        rw [if_neg (show ¬ f (itr f p k) ∈ orb f p (k + 1) from h.new (k + 1) (by omega))]
        exact ⟨by omega, (orb_succ (k + 1)).symm⟩
    · right
      refine ⟨by omega, ?_⟩
      cases e : (orb f p N)[k]? with
      | none => rfl
      | some x =>
        obtain ⟨hl, _⟩ := List.getElem?_eq_some_iff.mp e
        rw [orb_len] at hl
        omega
end
end Kt

set_option maxRecDepth 100000
set_option linter.all false
set_option Elab.async false
namespace Kt
open PySem PySem.Spec L2 Dn

theorem loop_fin2 {S L R T U α : Type} {f : α → T → Fl T T R} (I : Nat → T → Prop) {xs : List α} {s : T} {k1 : T → Fl U L R} {k2 : U → Fl S L R} {en : Option R} {Q : R → Prop} (hf : ∀ x ∈ xs, ∀ (m : Nat) (s : T), m < xs.length → I m s → ∃ s', f x s = .nx s' ∧ I (m + 1) s') (h : I 0 s) (hk : ∀ s', I xs.length s' → ∃ r, (Fl.bind (k1 s') k2).fin en = some r ∧ Q r) : ∃ r, (Fl.bind (Fl.bind (Fl.loop f xs s) k1) k2).fin en = some r ∧ Q r := by
  obtain ⟨s', e, i⟩ := loop_inv (L := L) I xs.length xs 0 s hf (by omega) h
  rw [e, bN]
  rw [Nat.zero_add] at i
  exact hk s' i
theorem law_reached_eq {s : Int × Int} (hs : s ∈ SH) {ps : List Po} (lp : (ps.length : Int) = s.2) (hp : ∀ q ∈ ps, PolT (TT s) s.1 q) {st : List (Tup Int)} (l : st.length ≤ 1000) (hT : ∀ x ∈ st, x ∈ TT s) : m_law_reached s.1 ps st = some (lawR (tgt s.1 ps) st 300) := by
  have f0 := F0 s hs
  unfold m_law_reached fl_law_reached
  simp -implicitDefEqProofs only [Option.bind_some, Option.map_some]
  rw [bO, rangeI_ok (by decide) (by decide), bO, loop_fold (N := 300) (fun (acc : List (Tup Int)) (i : Int) => stepL (tgt s.1 ps) acc i.toNat) (fun n acc => acc.length ≤ 1000 + n ∧ ∀ x ∈ acc, x ∈ TT s) (n := 0) (fun i hi n acc hn ⟨hl, ha⟩ => ?_) (by rw [upto_len]; decide) ⟨by omega, hT⟩, bN, bO]
  · show some _ = some _
    refine congrArg some ?_
    unfold lawR upto
    rw [List.foldl_map]
    show (List.range 300).foldl _ st = _
    have : (fun (x : List (Tup Int)) (y : Nat) => stepL (tgt s.1 ps) x ((0 : Int) + (y : Int)).toNat) = stepL (tgt s.1 ps) := by
      funext x y
      have : ((0 : Int) + (y : Int)).toNat = y := by omega
      rw [this]
    rw [this]
  · have hi := upto_mem hi
    rw [bO]
    by_cases q : i < (acc.length : Int)
    · have hk : i.toNat < acc.length := by omega
      have ix : atI acc i = some acc[i.toNat] := by
        have e : ((i.toNat : Nat) : Int) = i := by omega
        have := atI_nat (xs := acc) (j := i.toNat) (List.getElem?_eq_getElem hk)
        rw [e] at this
        exact this
      have hm := ha _ (List.getElem_mem hk)
      have hg := tgt_mem hs lp acc[i.toNat]
      rw [decide_eq_true q, if_pos rfl, ix, Option.bind_some, law_after_eq hs (by omega) hp hm, bO, ninD_pts, bO]
      unfold stepL
      rw [List.getElem?_eq_getElem hk]
      dsimp only
      by_cases z : tgt s.1 ps acc[i.toNat] ∈ acc
      · rw [decide_eq_true z, Bool.not_true, if_neg Bool.false_ne_true, bN, bN, if_pos z]
        exact ⟨rfl, by omega, ha⟩
      · rw [decide_eq_false z, Bool.not_false, if_pos rfl, bO, if_pos (len1_of (by omega)), bN, bN, if_neg z]
        refine ⟨rfl, by rw [List.length_append]; show _ + 1 ≤ _; omega, fun x hx => ?_⟩
        rcases List.mem_append.mp hx with hx | hx
        · exact ha x hx
        · cases List.mem_singleton.mp hx
          exact hg
    · have hk : acc[i.toNat]? = none := List.getElem?_eq_none_iff.mpr (by omega)
      rw [decide_eq_false q, if_neg Bool.false_ne_true, bN]
      unfold stepL
      rw [hk]
      dsimp only
      exact ⟨rfl, by omega, ha⟩
theorem law_step_ok {s : Int × Int} (hs : s ∈ SH) (cell : Int) : ∃ ps, m_law_step s.1 s.2 cell = some ps ∧ (ps.length : Int) = s.2 ∧ ∀ q ∈ ps, PolT (TT s) s.1 q := by
  have f0 := F0 s hs
  obtain ⟨ds, ed, ld, hd⟩ := digits_ok cell (many := 5040) (count := 2 * s.2 + 2) (by decide) (by decide) (by omega) (by omega)
  have at_ : ∀ {i : Int}, 0 ≤ i → i < 2 * s.2 + 2 → ∃ v, atI ds i = some v ∧ 0 ≤ v ∧ v < 5040 := fun {i} h0 h1 => by
    obtain ⟨v, e, m⟩ := atI_ge (xs := ds) (i := i) h0 (by omega)
    exact ⟨v, e, hd v m⟩
  obtain ⟨a2, e2, r2⟩ := at_ (i := 2 * s.2) (by omega) (by omega)
  obtain ⟨a3, e3, r3⟩ := at_ (i := 2 * s.2 + 1) (by omega) (by omega)
  unfold m_law_step fl_law_step
  simp -implicitDefEqProofs only [Option.bind_some, Option.map_some]
  rw [mulL (by decide) (by decide), Option.bind_some, Option.bind_some, ed, bO, bO, rangeI_ok (by omega) (by omega), bO]
  refine loop_fin (fun m (es : List Po) => es.length = m ∧ ∀ e ∈ es, PolT (TT s) s.1 e) (fun i hi m es hm hes => ?_) ⟨rfl, fun _ h => nomatch h⟩ (fun es hes => ?_)
  · have hi := upto_mem hi
    rw [upto_len] at hm
    have fin : ∀ u : Po, PolT (TT s) s.1 u → ∃ s', (Fl.bindO (some u) fun y_394 => if len1 es.length = true then (.nx (es ++ [y_394]) : Fl (List Po) (List Po) (List Po)) else .err) = .nx s' ∧ s'.length = m + 1 ∧ ∀ e ∈ s', PolT (TT s) s.1 e := fun u hu => by
      rw [bO, if_pos (len1_of (by omega))]
      refine ⟨_, rfl, by rw [List.length_append, hes.1]; rfl, fun e he => ?_⟩
      rcases List.mem_append.mp he with he | he
      · exact hes.2 e he
      · rw [List.mem_singleton.mp he]; exact hu
    obtain ⟨a, ea, ra⟩ := at_ (i := 2 * i) (by omega) (by omega)
    obtain ⟨b, eb, rb⟩ := at_ (i := 2 * i + 1) (by omega) (by omega)
    obtain ⟨one, eo, ho⟩ := drawn_ok hs (a + 5040 * b)
    have second : ∀ u : Po, PolT (TT s) s.1 u → ∃ v, (Fl.bindO (some (decide (a3 % 3 = 1))) fun v_474 => Fl.bind (if v_474 = true then ((Fl.bindO (((m_law_unknown s.2 i)).bind fun v_472 => (m_law_plus s.1 v_472 (⟨cutG u.l (none : Option Int) (some (1 : Int))⟩ : Po))) fun one_470 => (.nx one_470)) : Fl Po (List Po) (List Po)) else (.nx u)) fun s_475 => Fl.bindO (some s_475) fun y_476 => if len1 es.length = true then (.nx (es ++ [y_476]) : Fl (List Po) (List Po) (List Po)) else .err) = (Fl.bindO (some v) fun y_394 => if len1 es.length = true then (.nx (es ++ [y_394]) : Fl (List Po) (List Po) (List Po)) else .err) ∧ PolT (TT s) s.1 v := fun u hu => by
      rw [bO]
      by_cases z : a3 % 3 = 1
      · have l1 := pl_len hs hu
        have ii : i = ((i.toNat : Nat) : Int) := by omega
        have hk : i.toNat ∈ List.range s.2.toNat := List.mem_range.mpr (by omega)
        obtain ⟨u1, u2, u3⟩ := UU s hs i.toNat hk
        rw [← ii] at u1
        have cs := cutG_sub u.l (none : Option Int) (some (1 : Int))
        rw [decide_eq_true z, if_pos rfl, u1, Option.bind_some, law_plus_eq hs (other := (⟨cutG u.l (none : Option Int) (some (1 : Int))⟩ : Po)) (by omega) (Nat.le_trans cs.1 (by omega)) (fun q hq => (u2 q hq).1) (fun q hq => (hu.mem q (cs.2 q hq)).1), bO, bN]
        exact ⟨_, rfl, acc_pol (F9 s hs) (by omega) _⟩
      · rw [decide_eq_false z, if_neg Bool.false_ne_true, bN]
        exact ⟨u, rfl, hu⟩
    have both : ∀ u : Po, PolT (TT s) s.1 u → ∃ s', (Fl.bindO (some (decide (a3 % 3 = 1))) fun v_474 => Fl.bind (if v_474 = true then ((Fl.bindO (((m_law_unknown s.2 i)).bind fun v_472 => (m_law_plus s.1 v_472 (⟨cutG u.l (none : Option Int) (some (1 : Int))⟩ : Po))) fun one_470 => (.nx one_470)) : Fl Po (List Po) (List Po)) else (.nx u)) fun s_475 => Fl.bindO (some s_475) fun y_476 => if len1 es.length = true then (.nx (es ++ [y_476]) : Fl (List Po) (List Po) (List Po)) else .err) = .nx s' ∧ s'.length = m + 1 ∧ ∀ e ∈ s', PolT (TT s) s.1 e := fun u hu => by
      obtain ⟨v, e, hv⟩ := second u hu
      rw [e]
      exact fin v hv
    rw [mulL (by decide) (by decide), Option.bind_some, ea, Option.bind_some, Option.bind_some, Option.bind_some, eb, Option.bind_some, mulL (by decide) (by decide), Option.bind_some, Option.bind_some, eo, bO, Option.bind_some, e2, Option.bind_some, Option.bind_some, modI_ok (by decide), Option.bind_some, bO]
    have l1 := pl_len hs ho
    by_cases z : a2 % 3 = 1
    · rw [decide_eq_true z, if_pos rfl, capI_ok (by omega), Option.bind_some, compO_filter (α := Tup Int × Int) (fun q => decide (q.1.l.sum < (2 : Int))) (fun q _ => rfl), Option.map_some, bO, bN, Option.bind_some, Option.bind_some, e3, Option.bind_some, Option.bind_some, modI_ok (by decide), Option.bind_some]
      exact both _ (ho.filter _)
    · rw [decide_eq_false z, if_neg Bool.false_ne_true, bN, Option.bind_some, Option.bind_some, e3, Option.bind_some, Option.bind_some, modI_ok (by decide), Option.bind_some]
      exact both one ho
  · rw [upto_len] at hes
    rw [bO]
    exact ⟨es, rfl, by omega, hes.2⟩
theorem TTlen : ∀ s ∈ SH, ∀ b ∈ TT s, (b.l.length : Int) = s.2 := by decide +kernel
theorem law_start_ok {s : Int × Int} (hs : s ∈ SH) (cell : Int) : ∃ es, m_law_start s.1 s.2 cell = some es ∧ es.length ≤ 5 ∧ ∀ e ∈ es, PolT (TT s) s.1 e := by
  have f0 := F0 s hs
  have f8 := F8 s hs
  obtain ⟨eq, ee, le, pe⟩ := equations_ok hs cell
  unfold m_law_start fl_law_start
  simp -implicitDefEqProofs only [Option.bind_some, Option.map_some]
  rw [ee, bO, F1p s hs, bO, modI_ok (by decide), Option.bind_some, bO]
  by_cases z : 0 < cell % 3
  · have m0 : 0 ≤ cell / 3 % ((TT s).length : Int) := Int.emod_nonneg _ (by omega)
    have m1 : cell / 3 % ((TT s).length : Int) < ((TT s).length : Int) := Int.emod_lt_of_pos _ (by omega)
    obtain ⟨pt, ep, mp⟩ := atI_ge (xs := TT s) m0 m1
    have c0 : 0 ≤ cell % 3 / 2 := by omega
    have c1 : cell % 3 / 2 ≤ 1 := by omega
    have lpt : (pt.l.length : Int) = s.2 := TTlen s hs pt mp
    rw [decide_eq_true z, if_pos rfl, divI_ok (by decide) (by decide), Option.bind_some, Option.bind_some, modI_ok (by omega), Option.bind_some, ep, bO, bO, Option.bind_some, divI_ok (by decide) (by decide), Option.bind_some, Option.bind_some, rangeI_ok (by omega) (by omega), bO]
    refine loop_fin2 (fun m (es : List Po) => es.length = m ∧ ∀ e ∈ es, PolT (TT s) s.1 e) (fun i hi m es hm hes => ?_) ⟨rfl, fun _ h => nomatch h⟩ (fun es e2 => ?_)
    rotate_left
    · rw [bN, bO]
      rw [upto_len] at e2
      exact ⟨es, rfl, by omega, e2.2⟩
    · rw [upto_len] at hm
      have hi := upto_mem hi
      have ii : i = ((i.toNat : Nat) : Int) := by omega
      have hk : i.toNat ∈ List.range s.2.toNat := List.mem_range.mpr (by omega)
      obtain ⟨u1, u2, u3⟩ := UU s hs i.toNat hk
      rw [← ii] at u1
      have pu := unk_pol hs hk
      obtain ⟨c, ec, mc⟩ := atI_ge (xs := pt.l) (i := i) (by omega) (by omega)
      obtain ⟨t, et, pt'⟩ := law_constant_ok hs c
      obtain ⟨u, eu, pu'⟩ := law_minus_ok hs pu pt'
      rw [u1, Option.bind_some, ec, Option.bind_some, et, Option.bind_some, eu, bO, if_pos (len1_of (by omega))]
      refine ⟨_, rfl, by rw [List.length_append, hes.1]; rfl, fun e he => ?_⟩
      rcases List.mem_append.mp he with he | he
      · exact hes.2 e he
      · rw [List.mem_singleton.mp he]; exact pu'
  · rw [decide_eq_false z, if_neg Bool.false_ne_true, bN, bO]
    exact ⟨eq, rfl, by omega, pe⟩
end Kt

set_option maxRecDepth 100000
set_option linter.all false
set_option Elab.async false
namespace Kt
open PySem PySem.Spec L2 Dn

structure MA (s : Int × Int) (ps : List Po) {C D G : Addr} (m : MacD C D G) : Prop where
  sy : SY s m.start
  lp : (ps.length : Int) = s.2
  nxt : m.nxt = ⟨(TT s).map fun b => (b, tgt s.1 ps b)⟩
theorem machine_ok {C D : Addr} (G : Addr) {s : Int × Int} {sys : SysD C D} (h : SY s sys) {ps : List Po} (lp : (ps.length : Int) = s.2) (hp : ∀ q ∈ ps, PolT (TT s) s.1 q) : m_machine G sys ps = some ⟨sys, ps, sys.space, ⟨(TT s).map fun b => (b, tgt s.1 ps b)⟩⟩ := by
  have f0 := F0 s h.sp.hs
  have e : fl_mainit G sys ps = .nx ⟨sys, ps, sys.space, ⟨(TT s).map fun b => (b, tgt s.1 ps b)⟩⟩ := by
    unfold fl_mainit
    rw [bO, bO, bO, lbp_ok h.sp (by omega) (by omega) hp, bO]
  unfold m_machine
  rw [e]
  rfl
theorem after_eq {C D G : Addr} {m : MacD C D G} {s : Int × Int} {ps : List Po} (h : MA s ps m) {b : Tup Int} (hb : b ∈ TT s) : m_ma_after m b = some (tgt s.1 ps b) := by
  unfold m_ma_after fl_ma_after
  rw [h.nxt, find_mapT (tgt s.1 ps) hb, bO]
  rfl
section
variable {α : Type} [Rep α]
def ks (d : Dct α) : List (Tup Int) := d.l.map (·.1)
theorem get_some (d : Dct α) (k : Tup Int) : (d.get k).isSome = decide (k ∈ ks d) := by
  unfold Dct.get ks
  rw [Option.isSome_map, Bool.eq_iff_iff, List.find?_isSome, decide_eq_true_eq, List.mem_map]
  constructor
  · rintro ⟨q, m, e⟩
    exact ⟨q, m, of_decide_eq_true e⟩
  · rintro ⟨q, m, e⟩
    exact ⟨q, m, decide_eq_true e⟩
theorem put_new {d : Dct α} {k : Tup Int} (h : k ∉ ks d) (v : α) : d.put k v = ⟨d.l ++ [(k, v)]⟩ := by
  unfold Dct.put
  rw [get_some, decide_eq_false h, if_neg Bool.false_ne_true]
end
theorem whl_no {T L R : Type} {t : T → Option Bool} {f : T → Fl T T R} {n : Nat} {s : T} (h : t s = some false) : (Fl.whl t f (n + 1) s : Fl T L R) = .nx s := by simp only [Fl.whl, h]
theorem whl_go {T L R : Type} {t : T → Option Bool} {f : T → Fl T T R} {n : Nat} {s s' : T} (h : t s = some true) (e : f s = .nx s') : (Fl.whl t f (n + 1) s : Fl T L R) = Fl.whl t f n s' := by simp only [Fl.whl, h, e]
theorem whl_fin {S T L R : Type} {t : T → Option Bool} {f : T → Fl T T R} {n : Nat} {s : T} {k : T → Fl S L R} {en : Option R} {Q : R → Prop} (P : T → Prop) (h : ∃ s', (Fl.whl t f n s : Fl T L R) = .nx s' ∧ P s') (hk : ∀ s', P s' → ∃ r, (k s').fin en = some r ∧ Q r) : ∃ r, (Fl.bind (Fl.whl t f n s) k).fin en = some r ∧ Q r := by
  obtain ⟨s', e, p⟩ := h
  rw [e, bN]
  exact hk s' p
theorem whl_bfs {L R M : Type} {t : M × List (Tup Int) × Dct (Option (Tup Int)) → Option Bool} {f : M × List (Tup Int) × Dct (Option (Tup Int)) → Fl (M × List (Tup Int) × Dct (Option (Tup Int))) (M × List (Tup Int) × Dct (Option (Tup Int))) R} {g : Tup Int → Tup Int} {T st : List (Tup Int)} (ma : M)
    (ht : ∀ ns d, t (ma, ns, d) = some (!decide (ns = [])))
    (hf : ∀ ns d, (ks d).Nodup → (∀ x ∈ ks d, x ∈ T) → (∀ x ∈ ns, x ∈ ks d) → ∃ d' fu, f (ma, ns, d) = .nx (ma, fu, d') ∧ ks d' = ks d ++ fu ∧ (ks d').Nodup ∧ (∀ x ∈ ns, g x ∈ ks d') ∧ ∀ y ∈ fu, ∃ x ∈ ns, y = g x)
    (hT : ∀ x ∈ T, g x ∈ T) :
    ∀ (n : Nat) (ns : List (Tup Int)) (d : Dct (Option (Tup Int))), (ks d).Nodup → (∀ x ∈ ks d, x ∈ T) → (∀ x ∈ ns, x ∈ ks d) → (∀ x ∈ ks d, x ∈ ns ∨ g x ∈ ks d) → (∀ x ∈ st, x ∈ ks d) → (∀ S : Tup Int → Prop, (∀ x ∈ st, S x) → (∀ x, S x → S (g x)) → ∀ x ∈ ks d, S x) → T.length + 2 ≤ n + (ks d).length →
      ∃ d', (Fl.whl t f n (ma, ns, d) : Fl (M × List (Tup Int) × Dct (Option (Tup Int))) L R) = .nx (ma, [], d') ∧ Cl g st (ks d')
  | 0, ns, d, nd, sT, _, _, _, _, hn => by
    have := nodup_sub nd sT
    omega
  | n + 1, ns, d, nd, sT, sub, cl, st0, least, hn => by
    have len := nodup_sub nd sT
    by_cases z : ns = []
    · refine ⟨d, ?_, st0, nd, least, fun x m => (cl x m).resolve_left (by rw [z]; exact fun h => nomatch h)⟩
      rw [whl_no (by rw [ht, decide_eq_true z]; rfl), z]
    · have go : t (ma, ns, d) = some true := by rw [ht, decide_eq_false z]; rfl
      obtain ⟨d', fu, e1, e2, e3, e4, e5⟩ := hf ns d nd sT sub
      have old : ∀ x, x ∈ ks d → x ∈ ks d' := fun x m => by rw [e2]; exact List.mem_append_left _ m
      have new : ∀ y ∈ fu, y ∈ ks d' := fun y m => by rw [e2]; exact List.mem_append_right _ m
      have all : ∀ y ∈ ks d', y ∈ ks d ∨ y ∈ fu := fun y m => by rw [e2] at m; exact List.mem_append.mp m
      have cl' : ∀ x ∈ ks d', x ∈ fu ∨ g x ∈ ks d' := fun x m => by
        rcases all x m with m | m
        · rcases cl x m with q | q
          · exact .inr (e4 x q)
          · exact .inr (old _ q)
        · exact .inl m
      have least' : ∀ S : Tup Int → Prop, (∀ x ∈ st, S x) → (∀ x, S x → S (g x)) → ∀ x ∈ ks d', S x := fun S h1 h2 x m => by
        rcases all x m with m | m
        · exact least S h1 h2 x m
        · obtain ⟨y, my, rfl⟩ := e5 x m
          exact h2 y (least S h1 h2 y (sub y my))
      rw [whl_go go e1]
      have l2 : (ks d').length = (ks d).length + fu.length := by rw [e2, List.length_append]
      by_cases q : fu = []
      · subst q
        obtain ⟨k, rfl⟩ : ∃ k, n = k + 1 := ⟨n - 1, by omega⟩
        refine ⟨d', whl_no (by rw [ht]; rfl), fun x m => old x (st0 x m), e3, least', fun x m => (cl' x m).resolve_left fun h => nomatch h⟩
      · have : 0 < fu.length := List.length_pos_iff.mpr q
        exact whl_bfs ma ht hf hT n fu d' e3 (fun x m => by
          rcases all x m with m | m
          · exact sT x m
          · obtain ⟨y, my, rfl⟩ := e5 x m
            exact hT y (sT y (sub y my))) new cl' (fun x m => old x (st0 x m)) least' (by omega)
theorem whl_way {L R M : Type} {t : M × Tup Int × List (Tup Int) → Option Bool} {f : M × Tup Int × List (Tup Int) → Fl (M × Tup Int × List (Tup Int)) (M × Tup Int × List (Tup Int)) R} {g : Tup Int → Tup Int} {p : Tup Int} {N : Nat} (ma : M) (h : Fst g p N)
    (ht : ∀ x xs, t (ma, x, xs) = some (!decide (x ∈ xs)))
    (hf : ∀ k, k < N → f (ma, itr g p k, orb g p k) = .nx (ma, g (itr g p k), orb g p k ++ [itr g p k])) :
    ∀ (n k : Nat), k ≤ N → N - k + 1 ≤ n → (Fl.whl t f n (ma, itr g p k, orb g p k) : Fl (M × Tup Int × List (Tup Int)) L R) = .nx (ma, itr g p N, orb g p N)
  | 0, k, _, hn => by omega
  | n + 1, k, hk, hn => by
    by_cases z : k = N
    · rw [z]
      exact whl_no (by rw [ht, decide_eq_true h.again]; rfl)
    · rw [whl_go (by rw [ht, decide_eq_false (h.new k (by omega))]; rfl) (hf k (by omega))]
      rw [← orb_succ]
      exact whl_way ma h ht hf n (k + 1) (by omega) (by omega)
theorem whl_bfs' {L R M : Type} {t : M × List (Tup Int) × Dct (Option (Tup Int)) → Option Bool} {f : M × List (Tup Int) × Dct (Option (Tup Int)) → Fl (M × List (Tup Int) × Dct (Option (Tup Int))) (M × List (Tup Int) × Dct (Option (Tup Int))) R} {g : Tup Int → Tup Int} {T st : List (Tup Int)} {d : Dct (Option (Tup Int))} (ma : M) (n : Nat) (k0 : ks d = st) (nd : st.Nodup) (sT : ∀ x ∈ st, x ∈ T) (hT : ∀ x ∈ T, g x ∈ T) (hn : T.length + 2 ≤ n)
    (ht : ∀ ns d, t (ma, ns, d) = some (!decide (ns = [])))
    (hf : ∀ ns d, (ks d).Nodup → (∀ x ∈ ks d, x ∈ T) → (∀ x ∈ ns, x ∈ ks d) → ∃ d' fu, f (ma, ns, d) = .nx (ma, fu, d') ∧ ks d' = ks d ++ fu ∧ (ks d').Nodup ∧ (∀ x ∈ ns, g x ∈ ks d') ∧ ∀ y ∈ fu, ∃ x ∈ ns, y = g x) :
    ∃ s', (Fl.whl t f n (ma, st, d) : Fl (M × List (Tup Int) × Dct (Option (Tup Int))) L R) = .nx s' ∧ ∃ d', s' = (ma, [], d') ∧ Cl g st (ks d') := by
  subst k0
  obtain ⟨d', e, c⟩ := whl_bfs (L := L) (st := ks d) ma ht hf hT n (ks d) d nd sT (fun _ h => h) (fun _ h => .inl h) (fun _ h => h) (fun S h1 _ => h1) (by omega)
  exact ⟨_, e, d', rfl, c⟩
theorem before_ok {C D G : Addr} {m : MacD C D G} {s : Int × Int} {ps : List Po} (h : MA s ps m) (hT : (TT s).length ≤ 49) : ∃ d, m_points_before m = some d ∧ Cl (tgt s.1 ps) ((TT s).filter (SolF s.1 (pw s.1) m.start.equations)) (ks d) ∧ ∀ x ∈ ks d, x ∈ TT s := by
  have hs := h.sy.sp.hs
  have tm := tgt_mem hs h.lp
  have fl : ((TT s).filter (SolF s.1 (pw s.1) m.start.equations)).length ≤ 49 := Nat.le_trans (List.length_filter_le ..) hT
  have fn : ((TT s).filter (SolF s.1 (pw s.1) m.start.equations)).Nodup := (F9n hs).filter _
  have fm : ∀ x ∈ (TT s).filter (SolF s.1 (pw s.1) m.start.equations), x ∈ TT s := fun x hx => (List.mem_filter.mp hx).1
  unfold m_points_before fl_points_before
  simp -implicitDefEqProofs only [Option.bind_some, Option.map_some]
  rw [solutions_eq h.sy, bO]
  generalize (TT s).filter (SolF s.1 (pw s.1) m.start.equations) = st at fl fn fm
  rw [capI_ok (by omega), Option.bind_some, dctO_val (a := fun x : Tup Int => x) (b := fun _ => (none : Option (Tup Int))) (fun _ _ => ⟨rfl, rfl⟩) (by
    rw [List.map_nil, List.nil_append, List.map_id']
    exact fn), bO, List.nil_append]
  have k0 : ks (⟨st.map fun x => (x, (none : Option (Tup Int)))⟩ : Dct (Option (Tup Int))) = st := by
    unfold ks
    rw [List.map_map]
    exact List.map_id' _
  generalize (⟨st.map fun x => (x, (none : Option (Tup Int)))⟩ : Dct (Option (Tup Int))) = d0 at k0
  refine whl_fin _ (whl_bfs' m 300 k0 fn fm (fun x _ => tm x) (by omega) (fun ns d => neI_pts ns []) (fun ns d nd sT sub => ?_)) (fun s' ⟨d', e, c⟩ => ?_)
  · dsimp only
    rw [bO, bO]
    obtain ⟨s', e, i1, i2, i3, i4, i5⟩ := loop_ix (L := MacD C D G × List (Tup Int) × Dct (Option (Tup Int))) (xs := ns) (f := (fun (i_139 : (Tup Int)) (s_138 : ((MacD C D G) × (Dct (Option (Tup Int))) × (List (Tup Int)))) => ((Fl.bindO (m_ma_after s_138.1 i_139) fun target_140 => (Fl.bindO (some (!(s_138.2.1.get target_140).isSome)) fun v_146 => Fl.bind (if v_146 = true then ((Fl.bindO (some (some i_139)) fun y_141 => Fl.bindO (some target_140) fun z_142 => if len1 s_138.2.1.l.length = true then (fun before_143 => (Fl.bindO (some target_140) fun y_144 => if len1 s_138.2.2.length = true then (.nx (before_143, (s_138.2.2 ++ [y_144]))) else .err)) (s_138.2.1.put z_142 y_141) else .err) : Fl ((Dct (Option (Tup Int))) × (List (Tup Int))) ((MacD C D G) × (Dct (Option (Tup Int))) × (List (Tup Int))) (Dct (Option (Tup Int)))) else (.nx (s_138.2.1, s_138.2.2))) fun s_147 => (.nx (s_138.1, s_147.1, s_147.2)))) : Fl ((MacD C D G) × (Dct (Option (Tup Int))) × (List (Tup Int))) ((MacD C D G) × (Dct (Option (Tup Int))) × (List (Tup Int))) (Dct (Option (Tup Int))))))
      (fun k s' => s'.1 = m ∧ ks s'.2.1 = ks d ++ s'.2.2 ∧ (ks s'.2.1).Nodup ∧ (∀ i, i < k → ∀ x, ns[i]? = some x → tgt s.1 ps x ∈ ks s'.2.1) ∧ ∀ y ∈ s'.2.2, ∃ x ∈ ns, y = tgt s.1 ps x) (s := (m, d, [])) (fun k x s' hx ⟨j1, j2, j3, j4, j5⟩ => by
        obtain ⟨m', d', fu⟩ := s'
        dsimp only at j1 j2 j3 j4 j5 ⊢
        subst j1
        have mx : x ∈ ns := List.mem_of_getElem? hx
        have sub2 : ∀ y ∈ ks d', y ∈ TT s := fun y my => by
          rw [j2] at my
          rcases List.mem_append.mp my with my | my
          · exact sT y my
          · obtain ⟨z, _, rfl⟩ := j5 y my
            exact tm z
        have ln := nodup_sub j3 sub2
        have lk : (ks d').length = d'.l.length := by unfold ks; rw [List.length_map]
        have l3 : (ks d').length = (ks d).length + fu.length := by rw [j2, List.length_append]
        rw [after_eq h (sT x (sub x mx)), bO, get_some, bO]
        by_cases z : tgt s.1 ps x ∈ ks d'
        · rw [decide_eq_true z, Bool.not_true, if_neg Bool.false_ne_true, bN]
          refine ⟨_, rfl, rfl, j2, j3, fun i hi y hy => ?_, j5⟩
          by_cases q : i = k
          · rw [q, hx] at hy
            cases hy
            exact z
          · exact j4 i (by omega) y hy
        · rw [decide_eq_false z, Bool.not_false, if_pos rfl, bO, bO, if_pos (len1_of (by omega)), bO, if_pos (len1_of (by omega)), bN, put_new z]
          have kn : ks (⟨d'.l ++ [(tgt s.1 ps x, some x)]⟩ : Dct (Option (Tup Int))) = ks d' ++ [tgt s.1 ps x] := by
            unfold ks
            rw [List.map_append]
            rfl
          refine ⟨_, rfl, rfl, ?_, ?_, fun i hi y hy => ?_, fun y my => ?_⟩
          · dsimp only
            rw [kn, j2, List.append_assoc]
          · dsimp only
            rw [kn]
            refine List.nodup_append.mpr ⟨j3, List.nodup_cons.mpr ⟨(fun h => nomatch h), List.nodup_nil⟩, fun u hu v hv w => ?_⟩
            cases List.mem_singleton.mp hv
            exact z (by rw [← w]; exact hu)
          · dsimp only
            rw [kn]
            by_cases q : i = k
            · rw [q, hx] at hy
              cases hy
              exact List.mem_append_right _ (List.mem_cons_self ..)
            · exact List.mem_append_left _ (j4 i (by omega) y hy)
          · rcases List.mem_append.mp my with my | my
            · exact j5 y my
            · cases List.mem_singleton.mp my
              exact ⟨x, mx, rfl⟩) ⟨rfl, (List.append_nil _).symm, nd, fun i hi => absurd hi (Nat.not_lt_zero _), fun _ h => nomatch h⟩
    obtain ⟨m', d', fu⟩ := s'
    dsimp only at i1 i2 i3 i4 i5
    subst i1
    rw [e, bN, bO]
    refine ⟨d', fu, rfl, i2, i3, fun x hx => ?_, i5⟩
    obtain ⟨i, hi, ei⟩ := List.getElem_of_mem hx
    exact i4 i hi x (by rw [List.getElem?_eq_getElem hi, ei])
  · subst e
    rw [bO]
    exact ⟨d', rfl, c, c.least (· ∈ TT s) fm (fun x _ => tm x)⟩
theorem reached_ok {C D G : Addr} {m : MacD C D G} {s : Int × Int} {ps : List Po} (h : MA s ps m) (hT : (TT s).length ≤ 49) {R : List (Tup Int)} (c : Cl (tgt s.1 ps) ((TT s).filter (SolF s.1 (pw s.1) m.start.equations)) R) : m_ma_reached m = some (sortD R) := by
  obtain ⟨d, e, c', sT⟩ := before_ok h hT
  have hs := h.sy.sp.hs
  have f0 := F0 s hs
  have ln := nodup_sub c'.nd sT
  have lk : (ks d).length = d.l.length := by unfold ks; rw [List.length_map]
  unfold m_ma_reached fl_ma_reached
  rw [e, Option.bind_some, if_pos (okSort_keys d (fun q hq => by
    have := TTlen s hs q.1 (sT q.1 (List.mem_map.mpr ⟨q, hq, rfl⟩))
    omega) (by omega)), bO]
  show some (sortD (ks d)) = _
  exact congrArg some (sortD_of (sortD_pw R) ((sortD_perm R).trans (c.perm c')))
theorem way_ok {C D G : Addr} {m : MacD C D G} {s : Int × Int} {ps : List Po} (h : MA s ps m) (hT : (TT s).length ≤ 49) {p : Tup Int} (hp : p ∈ TT s) {N : Nat} (c : Fst (tgt s.1 ps) p N) (hN : N ≤ (TT s).length) : m_ma_way m p = (idxD (orb (tgt s.1 ps) p N) (itr (tgt s.1 ps) p N)).map fun i => (orb (tgt s.1 ps) p N, i) := by
  have hs := h.sy.sp.hs
  have tm := tgt_mem hs h.lp
  have im : ∀ k, itr (tgt s.1 ps) p k ∈ TT s := fun k => by
    cases k with
    | zero => exact hp
    | succ k => exact tm _
  unfold m_ma_way fl_ma_way
  simp -implicitDefEqProofs only [Option.bind_some, Option.map_some]
  rw [bO]
  have := whl_way (L := Unit) (R := List (Tup Int) × Int) (t := (fun (s_537 : ((MacD C D G) × (Tup Int) × (List (Tup Int)))) => ((ninD s_537.2.1 s_537.2.2) : Option Bool))) (f := (fun (s_537 : ((MacD C D G) × (Tup Int) × (List (Tup Int)))) => ((Fl.bindO (some s_537.2.1) fun y_538 => if len1 s_537.2.2.length = true then (Fl.bindO (m_ma_after s_537.1 s_537.2.1) fun point_540 => (.nx (s_537.1, point_540, (s_537.2.2 ++ [y_538])))) else .err) : Fl ((MacD C D G) × (Tup Int) × (List (Tup Int))) ((MacD C D G) × (Tup Int) × (List (Tup Int))) ((List (Tup Int)) × Int)))) m c (fun x xs => ninD_pts x xs) (fun k hk => by
    rw [bO, if_pos (len1_of (by rw [orb_len]; omega)), after_eq h (im k), bO]) 300 0 (Nat.zero_le _) (by omega)
  have this' : Fl.whl (fun (s_537 : ((MacD C D G) × (Tup Int) × (List (Tup Int)))) => ((ninD s_537.2.1 s_537.2.2) : Option Bool)) (fun (s_537 : ((MacD C D G) × (Tup Int) × (List (Tup Int)))) => ((Fl.bindO (some s_537.2.1) fun y_538 => if len1 s_537.2.2.length = true then (Fl.bindO (m_ma_after s_537.1 s_537.2.1) fun point_540 => (.nx (s_537.1, point_540, (s_537.2.2 ++ [y_538])))) else .err) : Fl ((MacD C D G) × (Tup Int) × (List (Tup Int))) ((MacD C D G) × (Tup Int) × (List (Tup Int))) ((List (Tup Int)) × Int))) 300 (m, p, []) = (_ : Fl ((MacD C D G) × (Tup Int) × (List (Tup Int))) Unit ((List (Tup Int)) × Int)) := this
  rw [this', bN]
  cases idxD (orb (tgt s.1 ps) p N) (itr (tgt s.1 ps) p N) <;> rfl
end Kt

set_option maxRecDepth 100000
set_option linter.all false
set_option Elab.async false
namespace Kt
open PySem PySem.Spec L2 Dn

theorem law_true (C D G : Addr) (ns : List Int) (_ : ns.length ≤ 63) : m_law C D G ns = some true := by
  unfold m_law fl_law
  simp -implicitDefEqProofs only [Option.bind_some]
  obtain ⟨v0, e0⟩ := cell_ok ns (k := 0) (by decide)
  obtain ⟨v1, e1⟩ := cell_ok ns (k := 1) (by decide)
  obtain ⟨v2, e2⟩ := cell_ok ns (k := 2) (by decide)
  obtain ⟨v3, e3⟩ := cell_ok ns (k := 3) (by decide)
  obtain ⟨s, es, hs⟩ := shape_ok (v0 % 10)
  obtain ⟨nm, en, hmk, hl⟩ := names_ok v1 hs
  have ly := names_lay v1 hs en
  have hsp := space_ok C hs hmk hl
  have f0 := F0 s hs
  have f8 := F8 s hs
  have f49 := len_TT49 s hs
  obtain ⟨eq, ee, le, pe⟩ := law_start_ok hs v2
  obtain ⟨ps, eps, lp, pps⟩ := law_step_ok hs v3
  rw [e0, Option.bind_some, Option.bind_some, modI_ok (by decide), Option.bind_some, es, bO, e1, Option.bind_some, en, Option.bind_some, hsp, bO, e2, Option.bind_some, ee, bO, e3, Option.bind_some, eps, bO, bO]
  have h1 : SpT s (⟨s.1, nm, s.2, TT s⟩ : SpaceD C) := ⟨⟨hs, rfl, rfl⟩, rfl⟩
  have hn : (⟨s.1, nm, s.2, TT s⟩ : SpaceD C).names = nm := rfl
  generalize (⟨s.1, nm, s.2, TT s⟩ : SpaceD C) = sp at h1 hn
  have sy : SY s (⟨sp, eq, tabs s eq⟩ : SysD C D) := ⟨h1, pe, rfl, by show eq.length ≤ 1000; omega⟩
  have q0 : (⟨sp, eq, tabs s eq⟩ : SysD C D).equations = eq := rfl
  have q1 : (⟨sp, eq, tabs s eq⟩ : SysD C D).space = sp := rfl
  rw [system_ok D h1 (by omega) pe, bO]
  generalize (⟨sp, eq, tabs s eq⟩ : SysD C D) = sys at sy q0 q1
  have ma : MA s ps (⟨sys, ps, sys.space, ⟨(TT s).map fun b => (b, tgt s.1 ps b)⟩⟩ : MacD C D G) := ⟨sy, lp, rfl⟩
  have m0 : (⟨sys, ps, sys.space, ⟨(TT s).map fun b => (b, tgt s.1 ps b)⟩⟩ : MacD C D G).start = sys := rfl
  have m1 : (⟨sys, ps, sys.space, ⟨(TT s).map fun b => (b, tgt s.1 ps b)⟩⟩ : MacD C D G).step = ps := rfl
  have m2 : (⟨sys, ps, sys.space, ⟨(TT s).map fun b => (b, tgt s.1 ps b)⟩⟩ : MacD C D G).space = sp := q1
  rw [machine_ok G sy lp pps, bO]
  generalize (⟨sys, ps, sys.space, ⟨(TT s).map fun b => (b, tgt s.1 ps b)⟩⟩ : MacD C D G) = m at ma m0 m1 m2
  have tm := tgt_mem hs lp
  have fl : ((TT s).filter (SolF s.1 (pw s.1) eq)).length ≤ 49 := Nat.le_trans (List.length_filter_le ..) f49
  have fn : ((TT s).filter (SolF s.1 (pw s.1) eq)).Nodup := (F9n hs).filter _
  have fm : ∀ x ∈ (TT s).filter (SolF s.1 (pw s.1) eq), x ∈ TT s := fun x hx => (List.mem_filter.mp hx).1
  have c : Cl (tgt s.1 ps) ((TT s).filter (SolF s.1 (pw s.1) m.start.equations)) (lawR (tgt s.1 ps) ((TT s).filter (SolF s.1 (pw s.1) eq)) 300) := by
    rw [m0, q0]
    exact lawR_cl fn fm (fun x _ => tm x) (by omega)
  have rT : ∀ x ∈ lawR (tgt s.1 ps) ((TT s).filter (SolF s.1 (pw s.1) eq)) 300, x ∈ TT s := by
    have := c.least (· ∈ TT s)
    rw [m0, q0] at this
    exact this fm (fun x _ => tm x)
  have rl := nodup_sub c.nd rT
  rw [bO, if_pos (len1_of (by omega)), m1, m2, hn, m0, q0, neI_pos, decide_eq_true rfl, Bool.not_true, orFa, neI_strs ly, orFa, neI_pos, decide_eq_true rfl, Bool.not_true, bO, if_neg Bool.false_ne_true, bN, law_solutions_eq hs (by omega) pe, Option.bind_some, law_reached_eq hs lp pps (by omega) fm, Option.bind_some, if_pos (okSort_tups _ (fun k hk => by
    have := TTlen s hs k (rT k hk)
    omega) (by omega)), bO, reached_ok ma f49 c, bO, bO, if_pos (len1_of (by rw [(sortD_perm _).length_eq]; omega)), Option.bind_some, neI_pts, decide_eq_true rfl, Bool.not_true, bO, if_neg Bool.false_ne_true, bN, F1p s hs, bO, loop_same (fun b hb => ?_), bN, bO]
  · rfl
  · have im : ∀ k, itr (tgt s.1 ps) b k ∈ TT s := fun k => by
      cases k with
      | zero => exact hb
      | succ k => exact tm _
    obtain ⟨N, hN, c⟩ := fst_ex im
    have ix : ∃ i, idxD (orb (tgt s.1 ps) b N) (itr (tgt s.1 ps) b N) = some i := by
      rw [idxD_pts]
      have := c.again
      cases e : (orb (tgt s.1 ps) b N).findIdx? fun y => decide (y = itr (tgt s.1 ps) b N) with
      | none =>
        have := List.findIdx?_eq_none_iff.mp e _ this
        rw [decide_eq_true rfl] at this
        cases this
      | some j => exact ⟨_, rfl⟩
    obtain ⟨i, ei⟩ := ix
    obtain ⟨k, rfl⟩ : ∃ k, N = k + 1 := ⟨N - 1, by have := c.pos; omega⟩
    have la : atI (orb (tgt s.1 ps) b (k + 1)) (((orb (tgt s.1 ps) b (k + 1)).length : Int) - 1) = some (itr (tgt s.1 ps) b k) := by
      rw [orb_len]
      have e : (((k + 1 : Nat) : Int) - 1) = (k : Int) := by omega
      rw [e]
      exact atI_nat (orb_get (Nat.lt_succ_self k))
    have lb : m_law_after s.1 ps (itr (tgt s.1 ps) b k) = some (itr (tgt s.1 ps) b (k + 1)) := law_after_eq hs (by omega) pps (im k)
    rw [after_eq ma hb, Option.bind_some, law_after_eq hs (by omega) pps hb, Option.bind_some, neI_tup, decide_eq_true rfl, Bool.not_true, bO, if_neg Bool.false_ne_true, bN, law_reached_eq hs lp pps (st := [b]) (by show 1 ≤ 1000; decide) (fun x hx => by rw [List.mem_singleton.mp hx]; exact hb), bO, lawR_orb c (by omega), la, Option.bind_some, lb, Option.bind_some, ei, bO, way_ok ma f49 hb c hN, ei, Option.map_some, bO, neI_pts, decide_eq_true rfl, decide_eq_true rfl, Bool.not_true]
    rfl
end Kt

set_option Elab.async false
set_option linter.all false
set_option maxRecDepth 100000
set_option maxHeartbeats 40000000
namespace Kt
open PySem PySem.Spec L2 Dn
open Rep (rep)
theorem all_mk {P : Program} {w : World} {K : PySem.W.Frag} {h : Heap} {mg : Str → Option Value} {fa : Addr} (X : K.In h) (Gh : h.Ns mainGlobals mg) (hfa : mg "law" = some (.ref fa)) (HL : ∀ (C D G : Addr) (ns : List Int), ns.length ≤ 63 → m_law C D G ns = some true)
    {f0 : Addr} {od0 an0 : Option Addr} {sl0 : Array (Option Value)} {oc0 kV0 dc0 pm0 cd0 ct0 : Value}
    {f1 : Addr} {od1 an1 : Option Addr} {sl1 : Array (Option Value)} {oc1 kV1 dc1 pm1 cd1 ct1 : Value}
    {f2 : Addr} {od2 an2 : Option Addr} {sl2 : Array (Option Value)} {oc2 kV2 dc2 pm2 cd2 ct2 : Value}
    {f3 : Addr} {od3 an3 : Option Addr} {sl3 : Array (Option Value)} {oc3 kV3 dc3 pm3 cd3 ct3 : Value}
    {f4 : Addr} {od4 an4 : Option Addr} {sl4 : Array (Option Value)} {oc4 kV4 dc4 pm4 cd4 ct4 : Value}
    {f5 : Addr} {od5 an5 : Option Addr} {sl5 : Array (Option Value)} {oc5 kV5 dc5 pm5 cd5 ct5 : Value}
    {f6 : Addr} {od6 an6 : Option Addr} {sl6 : Array (Option Value)} {oc6 kV6 dc6 pm6 cd6 ct6 : Value}
    {f7 : Addr} {od7 an7 : Option Addr} {sl7 : Array (Option Value)} {oc7 kV7 dc7 pm7 cd7 ct7 : Value}
    {f8 : Addr} {od8 an8 : Option Addr} {sl8 : Array (Option Value)} {oc8 kV8 dc8 pm8 cd8 ct8 : Value}
    {f9 : Addr} {od9 an9 : Option Addr} {sl9 : Array (Option Value)} {oc9 kV9 dc9 pm9 cd9 ct9 : Value}
    {f10 : Addr} {od10 an10 : Option Addr} {sl10 : Array (Option Value)} {oc10 kV10 dc10 pm10 cd10 ct10 : Value}
    {f11 : Addr} {od11 an11 : Option Addr} {sl11 : Array (Option Value)} {oc11 kV11 dc11 pm11 cd11 ct11 : Value}
    {f12 : Addr} {od12 an12 : Option Addr} {sl12 : Array (Option Value)} {oc12 kV12 dc12 pm12 cd12 ct12 : Value}
    {f13 : Addr} {od13 an13 : Option Addr} {sl13 : Array (Option Value)} {oc13 kV13 dc13 pm13 cd13 ct13 : Value}
    {f14 : Addr} {od14 an14 : Option Addr} {sl14 : Array (Option Value)} {oc14 kV14 dc14 pm14 cd14 ct14 : Value}
    {f15 : Addr} {od15 an15 : Option Addr} {sl15 : Array (Option Value)} {oc15 kV15 dc15 pm15 cd15 ct15 : Value}
    {f16 : Addr} {od16 an16 : Option Addr} {sl16 : Array (Option Value)} {oc16 kV16 dc16 pm16 cd16 ct16 : Value}
    {f17 : Addr} {od17 an17 : Option Addr} {sl17 : Array (Option Value)} {oc17 kV17 dc17 pm17 cd17 ct17 : Value}
    {f18 : Addr} {od18 an18 : Option Addr} {sl18 : Array (Option Value)} {oc18 kV18 dc18 pm18 cd18 ct18 : Value}
    {f19 : Addr} {od19 an19 : Option Addr} {sl19 : Array (Option Value)} {oc19 kV19 dc19 pm19 cd19 ct19 : Value}
    {f20 : Addr} {od20 an20 : Option Addr} {sl20 : Array (Option Value)} {oc20 kV20 dc20 pm20 cd20 ct20 : Value}
    {f21 : Addr} {od21 an21 : Option Addr} {sl21 : Array (Option Value)} {oc21 kV21 dc21 pm21 cd21 ct21 : Value}
    {f22 : Addr} {od22 an22 : Option Addr} {sl22 : Array (Option Value)} {oc22 kV22 dc22 pm22 cd22 ct22 : Value}
    {f23 : Addr} {od23 an23 : Option Addr} {sl23 : Array (Option Value)} {oc23 kV23 dc23 pm23 cd23 ct23 : Value}
    {f24 : Addr} {od24 an24 : Option Addr} {sl24 : Array (Option Value)} {oc24 kV24 dc24 pm24 cd24 ct24 : Value}
    {f25 : Addr} {od25 an25 : Option Addr} {sl25 : Array (Option Value)} {oc25 kV25 dc25 pm25 cd25 ct25 : Value}
    {f26 : Addr} {od26 an26 : Option Addr} {sl26 : Array (Option Value)} {oc26 kV26 dc26 pm26 cd26 ct26 : Value}
    {f27 : Addr} {od27 an27 : Option Addr} {sl27 : Array (Option Value)} {oc27 kV27 dc27 pm27 cd27 ct27 : Value}
    {f28 : Addr} {od28 an28 : Option Addr} {sl28 : Array (Option Value)} {oc28 kV28 dc28 pm28 cd28 ct28 : Value}
    {f29 : Addr} {od29 an29 : Option Addr} {sl29 : Array (Option Value)} {oc29 kV29 dc29 pm29 cd29 ct29 : Value}
    {f30 : Addr} {od30 an30 : Option Addr} {sl30 : Array (Option Value)} {oc30 kV30 dc30 pm30 cd30 ct30 : Value}
    {f31 : Addr} {od31 an31 : Option Addr} {sl31 : Array (Option Value)} {oc31 kV31 dc31 pm31 cd31 ct31 : Value}
    {f32 : Addr} {od32 an32 : Option Addr} {sl32 : Array (Option Value)} {oc32 kV32 dc32 pm32 cd32 ct32 : Value}
    {f33 : Addr} {od33 an33 : Option Addr} {sl33 : Array (Option Value)} {oc33 kV33 dc33 pm33 cd33 ct33 : Value}
    {f34 : Addr} {od34 an34 : Option Addr} {sl34 : Array (Option Value)} {oc34 kV34 dc34 pm34 cd34 ct34 : Value}
    {f35 : Addr} {od35 an35 : Option Addr} {sl35 : Array (Option Value)} {oc35 kV35 dc35 pm35 cd35 ct35 : Value}
    {f36 : Addr} {od36 an36 : Option Addr} {sl36 : Array (Option Value)} {oc36 kV36 dc36 pm36 cd36 ct36 : Value}
    {f37 : Addr} {od37 an37 : Option Addr} {sl37 : Array (Option Value)} {oc37 kV37 dc37 pm37 cd37 ct37 : Value}
    {f38 : Addr} {od38 an38 : Option Addr} {sl38 : Array (Option Value)} {oc38 kV38 dc38 pm38 cd38 ct38 : Value}
    {f39 : Addr} {od39 an39 : Option Addr} {sl39 : Array (Option Value)} {oc39 kV39 dc39 pm39 cd39 ct39 : Value}
    {f40 : Addr} {od40 an40 : Option Addr} {sl40 : Array (Option Value)} {oc40 kV40 dc40 pm40 cd40 ct40 : Value}
    {f41 : Addr} {od41 an41 : Option Addr} {sl41 : Array (Option Value)} {oc41 kV41 dc41 pm41 cd41 ct41 : Value}
    {f42 : Addr} {od42 an42 : Option Addr} {sl42 : Array (Option Value)} {oc42 kV42 dc42 pm42 cd42 ct42 : Value}
    {f43 : Addr} {od43 an43 : Option Addr} {sl43 : Array (Option Value)} {oc43 kV43 dc43 pm43 cd43 ct43 : Value}
    {C D G fP : Addr} {ddP : Option Addr} {nP : Nat} {slP : Array (Option Value)} {t1 t2 t3 t4 t5 t6 t7 t8 t9 : Tok}
    (gC : PySem.W.nsIn K mainGlobals "Space" = some (some (.ref C)))
    (gPR : PySem.W.nsIn K mainGlobals "PRIMES" = some (some (.ref fP)))
    (lPR : K.lookup fP = some ⟨.type "tuple", ddP, .seq #[.int 2 t1, .int 3 t2, .int 5 t3, .int 7 t4] nP, slP⟩)
    (gLE : PySem.W.nsIn K mainGlobals "LETTERS" = some (some (.str "abcdefghijklmnopqrstuvwxyz" t5)))
    (gLD : PySem.W.nsIn K mainGlobals "LETTERS_AND_DIGITS" = some (some (.str "abcdefghijklmnopqrstuvwxyz0123456789" t6)))
    (gLN : PySem.W.nsIn K mainGlobals "LONGEST_NAME" = some (some (.int 12 t7)))
    (gMU : PySem.W.nsIn K mainGlobals "MOST_UNKNOWNS" = some (some (.int 8 t8)))
    (gMP : PySem.W.nsIn K mainGlobals "MOST_POINTS" = some (some (.int 256 t9)))
    (z_range : PySem.W.nsIn K mainGlobals "range" = some none)
    (z_len : PySem.W.nsIn K mainGlobals "len" = some none)
    (z_int : PySem.W.nsIn K mainGlobals "int" = some none)
    (z_all : PySem.W.nsIn K mainGlobals "all" = some none)
    (z_set : PySem.W.nsIn K mainGlobals "set" = some none)
    (z_list : PySem.W.nsIn K mainGlobals "list" = some none)
    (z_isinstance : PySem.W.nsIn K mainGlobals "isinstance" = some none)
    (z_sum : PySem.W.nsIn K mainGlobals "sum" = some none)
    (z_sorted : PySem.W.nsIn K mainGlobals "sorted" = some none)
    (z_zip : PySem.W.nsIn K mainGlobals "zip" = some none)
    (z_tuple : PySem.W.nsIn K mainGlobals "tuple" = some none)
    (z_enumerate : PySem.W.nsIn K mainGlobals "enumerate" = some none)
    (pgC : PySem.W.plainGet K C "" = true)
    (hdC : PySem.W.hasDictIn K C = true)
    (poC : PySem.W.plainOver K C = true)
    (saC : PySem.W.findIn K (.ref C) "__setattr__" = some (some (.builtin "object.__setattr__")))
    (n1C : PySem.W.findIn K (.ref C) "prime" = some none)
    (n2C : PySem.W.findIn K (.ref C) "names" = some none)
    (n3C : PySem.W.findIn K (.ref C) "count" = some none)
    (n4C : PySem.W.findIn K (.ref C) "_tuples" = some none)
    (mkC : PySem.W.makesIn K C = true)
    (kpC : PySem.W.keepIn K (.ref C) = true)
    (gD : PySem.W.nsIn K mainGlobals "System" = some (some (.ref D)))
    (pgD : PySem.W.plainGet K D "" = true)
    (hdD : PySem.W.hasDictIn K D = true)
    (poD : PySem.W.plainOver K D = true)
    (saD : PySem.W.findIn K (.ref D) "__setattr__" = some (some (.builtin "object.__setattr__")))
    (n1D : PySem.W.findIn K (.ref D) "space" = some none)
    (n2D : PySem.W.findIn K (.ref D) "equations" = some none)
    (n3D : PySem.W.findIn K (.ref D) "_tables" = some none)
    (mkD : PySem.W.makesIn K D = true)
    (kpD : PySem.W.keepIn K (.ref D) = true)
    (haD : PySem.W.findIn K (.ref D) "__class__" = some (some (.builtin "object.__class__")))
    (hnD : PySem.W.specialIn K (.builtin "object.__class__") "__get__" = some (some (.builtin "getset_descriptor.__get__")))
    (htD : PySem.W.takesIn K (.builtin "object.__class__") = some true)
    (hmD : PySem.W.mroIn K D (.type "object") = some true)
    (meD : PySem.W.kitOne K (.ref D) (.ref D) = some true)
    (gG : PySem.W.nsIn K mainGlobals "Machine" = some (some (.ref G)))
    (pgG : PySem.W.plainGet K G "" = true)
    (hdG : PySem.W.hasDictIn K G = true)
    (poG : PySem.W.plainOver K G = true)
    (saG : PySem.W.findIn K (.ref G) "__setattr__" = some (some (.builtin "object.__setattr__")))
    (n1G : PySem.W.findIn K (.ref G) "start" = some none)
    (n2G : PySem.W.findIn K (.ref G) "step" = some none)
    (n3G : PySem.W.findIn K (.ref G) "space" = some none)
    (n4G : PySem.W.findIn K (.ref G) "_next_by_point" = some none)
    (mkG : PySem.W.makesIn K G = true)
    (kpG : PySem.W.keepIn K (.ref G) = true)
    (haG : PySem.W.findIn K (.ref G) "__class__" = some (some (.builtin "object.__class__")))
    (hnG : PySem.W.specialIn K (.builtin "object.__class__") "__get__" = some (some (.builtin "getset_descriptor.__get__")))
    (htG : PySem.W.takesIn K (.builtin "object.__class__") = some true)
    (hmG : PySem.W.mroIn K G (.type "object") = some true)
    (meG : PySem.W.kitOne K (.ref G) (.ref G) = some true)
    (a0 : PySem.W.nsIn K mainGlobals "number_raised" = some (some (.ref f0)))
    (l0 : K.lookup f0 = some ⟨oc0, od0, .func (PySem.W.fnOf "number_raised" "number_raised" (defArgs s_number_raised) (defBody s_number_raised) (defScope s_number_raised) .none kV0 dc0 pm0 an0 cd0 ct0), sl0⟩)
    (c0 : PySem.W.codeIn K cd0 "number_raised" = true)
    (k0 : PySem.W.keepIn K (.ref f0) = true)
    (a1 : PySem.W.nsIn K mainGlobals "is_name" = some (some (.ref f1)))
    (l1 : K.lookup f1 = some ⟨oc1, od1, .func (PySem.W.fnOf "is_name" "is_name" (defArgs s_is_name) (defBody s_is_name) (defScope s_is_name) .none kV1 dc1 pm1 an1 cd1 ct1), sl1⟩)
    (c1 : PySem.W.codeIn K cd1 "is_name" = true)
    (k1 : PySem.W.keepIn K (.ref f1) = true)
    (a2 : PySem.W.nsIn K mainGlobals "make_a_space" = some (some (.ref f2)))
    (l2 : K.lookup f2 = some ⟨oc2, od2, .func (PySem.W.fnOf "make_a_space" "make_a_space" (defArgs s_make_a_space) (defBody s_make_a_space) (defScope s_make_a_space) .none kV2 dc2 pm2 an2 cd2 ct2), sl2⟩)
    (c2 : PySem.W.codeIn K cd2 "make_a_space" = true)
    (k2 : PySem.W.keepIn K (.ref f2) = true)
    (a3 : PySem.W.nsIn K mainGlobals "tuples_in_order" = some (some (.ref f3)))
    (l3 : K.lookup f3 = some ⟨oc3, od3, .func (PySem.W.fnOf "tuples_in_order" "tuples_in_order" (defArgs s_tuples_in_order) (defBody s_tuples_in_order) (defScope s_tuples_in_order) .none kV3 dc3 pm3 an3 cd3 ct3), sl3⟩)
    (c3 : PySem.W.codeIn K cd3 "tuples_in_order" = true)
    (k3 : PySem.W.keepIn K (.ref f3) = true)
    (a4 : PySem.W.nsIn K mainGlobals "degree_of" = some (some (.ref f4)))
    (l4 : K.lookup f4 = some ⟨oc4, od4, .func (PySem.W.fnOf "degree_of" "degree_of" (defArgs s_degree_of) (defBody s_degree_of) (defScope s_degree_of) .none kV4 dc4 pm4 an4 cd4 ct4), sl4⟩)
    (c4 : PySem.W.codeIn K cd4 "degree_of" = true)
    (k4 : PySem.W.keepIn K (.ref f4) = true)
    (a5 : PySem.W.nsIn K mainGlobals "table_of" = some (some (.ref f5)))
    (l5 : K.lookup f5 = some ⟨oc5, od5, .func (PySem.W.fnOf "table_of" "table_of" (defArgs s_table_of) (defBody s_table_of) (defScope s_table_of) .none kV5 dc5 pm5 an5 cd5 ct5), sl5⟩)
    (c5 : PySem.W.codeIn K cd5 "table_of" = true)
    (k5 : PySem.W.keepIn K (.ref f5) = true)
    (a6 : PySem.W.nsIn K mainGlobals "value_rows" = some (some (.ref f6)))
    (l6 : K.lookup f6 = some ⟨oc6, od6, .func (PySem.W.fnOf "value_rows" "value_rows" (defArgs s_value_rows) (defBody s_value_rows) (defScope s_value_rows) .none kV6 dc6 pm6 an6 cd6 ct6), sl6⟩)
    (c6 : PySem.W.codeIn K cd6 "value_rows" = true)
    (k6 : PySem.W.keepIn K (.ref f6) = true)
    (a7 : PySem.W.nsIn K mainGlobals "turned" = some (some (.ref f7)))
    (l7 : K.lookup f7 = some ⟨oc7, od7, .func (PySem.W.fnOf "turned" "turned" (defArgs s_turned) (defBody s_turned) (defScope s_turned) .none kV7 dc7 pm7 an7 cd7 ct7), sl7⟩)
    (c7 : PySem.W.codeIn K cd7 "turned" = true)
    (k7 : PySem.W.keepIn K (.ref f7) = true)
    (a8 : PySem.W.nsIn K mainGlobals "turned_once" = some (some (.ref f8)))
    (l8 : K.lookup f8 = some ⟨oc8, od8, .func (PySem.W.fnOf "turned_once" "turned_once" (defArgs s_turned_once) (defBody s_turned_once) (defScope s_turned_once) .none kV8 dc8 pm8 an8 cd8 ct8), sl8⟩)
    (c8 : PySem.W.codeIn K cd8 "turned_once" = true)
    (k8 : PySem.W.keepIn K (.ref f8) = true)
    (a9 : PySem.W.nsIn K mainGlobals "weighted_sum" = some (some (.ref f9)))
    (l9 : K.lookup f9 = some ⟨oc9, od9, .func (PySem.W.fnOf "weighted_sum" "weighted_sum" (defArgs s_weighted_sum) (defBody s_weighted_sum) (defScope s_weighted_sum) .none kV9 dc9 pm9 an9 cd9 ct9), sl9⟩)
    (c9 : PySem.W.codeIn K cd9 "weighted_sum" = true)
    (k9 : PySem.W.keepIn K (.ref f9) = true)
    (a10 : PySem.W.nsIn K mainGlobals "first_that_fails" = some (some (.ref f10)))
    (l10 : K.lookup f10 = some ⟨oc10, od10, .func (PySem.W.fnOf "first_that_fails" "first_that_fails" (defArgs s_first_that_fails) (defBody s_first_that_fails) (defScope s_first_that_fails) .none kV10 dc10 pm10 an10 cd10 ct10), sl10⟩)
    (c10 : PySem.W.codeIn K cd10 "first_that_fails" = true)
    (k10 : PySem.W.keepIn K (.ref f10) = true)
    (a11 : PySem.W.nsIn K mainGlobals "led_by_point" = some (some (.ref f11)))
    (l11 : K.lookup f11 = some ⟨oc11, od11, .func (PySem.W.fnOf "led_by_point" "led_by_point" (defArgs s_led_by_point) (defBody s_led_by_point) (defScope s_led_by_point) .none kV11 dc11 pm11 an11 cd11 ct11), sl11⟩)
    (c11 : PySem.W.codeIn K cd11 "led_by_point" = true)
    (k11 : PySem.W.keepIn K (.ref f11) = true)
    (a12 : PySem.W.nsIn K mainGlobals "points_before" = some (some (.ref f12)))
    (l12 : K.lookup f12 = some ⟨oc12, od12, .func (PySem.W.fnOf "points_before" "points_before" (defArgs s_points_before) (defBody s_points_before) (defScope s_points_before) .none kV12 dc12 pm12 an12 cd12 ct12), sl12⟩)
    (c12 : PySem.W.codeIn K cd12 "points_before" = true)
    (k12 : PySem.W.keepIn K (.ref f12) = true)
    (a13 : PySem.W.nsIn K mainGlobals "_law_cell" = some (some (.ref f13)))
    (l13 : K.lookup f13 = some ⟨oc13, od13, .func (PySem.W.fnOf "_law_cell" "_law_cell" (defArgs s_law_cell) (defBody s_law_cell) (defScope s_law_cell) .none kV13 dc13 pm13 an13 cd13 ct13), sl13⟩)
    (c13 : PySem.W.codeIn K cd13 "_law_cell" = true)
    (k13 : PySem.W.keepIn K (.ref f13) = true)
    (a14 : PySem.W.nsIn K mainGlobals "_law_digits" = some (some (.ref f14)))
    (l14 : K.lookup f14 = some ⟨oc14, od14, .func (PySem.W.fnOf "_law_digits" "_law_digits" (defArgs s_law_digits) (defBody s_law_digits) (defScope s_law_digits) .none kV14 dc14 pm14 an14 cd14 ct14), sl14⟩)
    (c14 : PySem.W.codeIn K cd14 "_law_digits" = true)
    (k14 : PySem.W.keepIn K (.ref f14) = true)
    (a15 : PySem.W.nsIn K mainGlobals "_law_shape" = some (some (.ref f15)))
    (l15 : K.lookup f15 = some ⟨oc15, od15, .func (PySem.W.fnOf "_law_shape" "_law_shape" (defArgs s_law_shape) (defBody s_law_shape) (defScope s_law_shape) .none kV15 dc15 pm15 an15 cd15 ct15), sl15⟩)
    (c15 : PySem.W.codeIn K cd15 "_law_shape" = true)
    (k15 : PySem.W.keepIn K (.ref f15) = true)
    (a16 : PySem.W.nsIn K mainGlobals "_law_names" = some (some (.ref f16)))
    (l16 : K.lookup f16 = some ⟨oc16, od16, .func (PySem.W.fnOf "_law_names" "_law_names" (defArgs s_law_names) (defBody s_law_names) (defScope s_law_names) .none kV16 dc16 pm16 an16 cd16 ct16), sl16⟩)
    (c16 : PySem.W.codeIn K cd16 "_law_names" = true)
    (k16 : PySem.W.keepIn K (.ref f16) = true)
    (a17 : PySem.W.nsIn K mainGlobals "_law_points" = some (some (.ref f17)))
    (l17 : K.lookup f17 = some ⟨oc17, od17, .func (PySem.W.fnOf "_law_points" "_law_points" (defArgs s_law_points) (defBody s_law_points) (defScope s_law_points) .none kV17 dc17 pm17 an17 cd17 ct17), sl17⟩)
    (c17 : PySem.W.codeIn K cd17 "_law_points" = true)
    (k17 : PySem.W.keepIn K (.ref f17) = true)
    (a18 : PySem.W.nsIn K mainGlobals "_law_made" = some (some (.ref f18)))
    (l18 : K.lookup f18 = some ⟨oc18, od18, .func (PySem.W.fnOf "_law_made" "_law_made" (defArgs s_law_made) (defBody s_law_made) (defScope s_law_made) .none kV18 dc18 pm18 an18 cd18 ct18), sl18⟩)
    (c18 : PySem.W.codeIn K cd18 "_law_made" = true)
    (k18 : PySem.W.keepIn K (.ref f18) = true)
    (a19 : PySem.W.nsIn K mainGlobals "_law_drawn" = some (some (.ref f19)))
    (l19 : K.lookup f19 = some ⟨oc19, od19, .func (PySem.W.fnOf "_law_drawn" "_law_drawn" (defArgs s_law_drawn) (defBody s_law_drawn) (defScope s_law_drawn) .none kV19 dc19 pm19 an19 cd19 ct19), sl19⟩)
    (c19 : PySem.W.codeIn K cd19 "_law_drawn" = true)
    (k19 : PySem.W.keepIn K (.ref f19) = true)
    (a20 : PySem.W.nsIn K mainGlobals "_law_power_value" = some (some (.ref f20)))
    (l20 : K.lookup f20 = some ⟨oc20, od20, .func (PySem.W.fnOf "_law_power_value" "_law_power_value" (defArgs s_law_power_value) (defBody s_law_power_value) (defScope s_law_power_value) .none kV20 dc20 pm20 an20 cd20 ct20), sl20⟩)
    (c20 : PySem.W.codeIn K cd20 "_law_power_value" = true)
    (k20 : PySem.W.keepIn K (.ref f20) = true)
    (a21 : PySem.W.nsIn K mainGlobals "_law_value" = some (some (.ref f21)))
    (l21 : K.lookup f21 = some ⟨oc21, od21, .func (PySem.W.fnOf "_law_value" "_law_value" (defArgs s_law_value) (defBody s_law_value) (defScope s_law_value) .none kV21 dc21 pm21 an21 cd21 ct21), sl21⟩)
    (c21 : PySem.W.codeIn K cd21 "_law_value" = true)
    (k21 : PySem.W.keepIn K (.ref f21) = true)
    (a22 : PySem.W.nsIn K mainGlobals "_law_plus" = some (some (.ref f22)))
    (l22 : K.lookup f22 = some ⟨oc22, od22, .func (PySem.W.fnOf "_law_plus" "_law_plus" (defArgs s_law_plus) (defBody s_law_plus) (defScope s_law_plus) .none kV22 dc22 pm22 an22 cd22 ct22), sl22⟩)
    (c22 : PySem.W.codeIn K cd22 "_law_plus" = true)
    (k22 : PySem.W.keepIn K (.ref f22) = true)
    (a23 : PySem.W.nsIn K mainGlobals "_law_scaled" = some (some (.ref f23)))
    (l23 : K.lookup f23 = some ⟨oc23, od23, .func (PySem.W.fnOf "_law_scaled" "_law_scaled" (defArgs s_law_scaled) (defBody s_law_scaled) (defScope s_law_scaled) .none kV23 dc23 pm23 an23 cd23 ct23), sl23⟩)
    (c23 : PySem.W.codeIn K cd23 "_law_scaled" = true)
    (k23 : PySem.W.keepIn K (.ref f23) = true)
    (a24 : PySem.W.nsIn K mainGlobals "_law_minus" = some (some (.ref f24)))
    (l24 : K.lookup f24 = some ⟨oc24, od24, .func (PySem.W.fnOf "_law_minus" "_law_minus" (defArgs s_law_minus) (defBody s_law_minus) (defScope s_law_minus) .none kV24 dc24 pm24 an24 cd24 ct24), sl24⟩)
    (c24 : PySem.W.codeIn K cd24 "_law_minus" = true)
    (k24 : PySem.W.keepIn K (.ref f24) = true)
    (a25 : PySem.W.nsIn K mainGlobals "_law_constant" = some (some (.ref f25)))
    (l25 : K.lookup f25 = some ⟨oc25, od25, .func (PySem.W.fnOf "_law_constant" "_law_constant" (defArgs s_law_constant) (defBody s_law_constant) (defScope s_law_constant) .none kV25 dc25 pm25 an25 cd25 ct25), sl25⟩)
    (c25 : PySem.W.codeIn K cd25 "_law_constant" = true)
    (k25 : PySem.W.keepIn K (.ref f25) = true)
    (a26 : PySem.W.nsIn K mainGlobals "_law_unknown" = some (some (.ref f26)))
    (l26 : K.lookup f26 = some ⟨oc26, od26, .func (PySem.W.fnOf "_law_unknown" "_law_unknown" (defArgs s_law_unknown) (defBody s_law_unknown) (defScope s_law_unknown) .none kV26 dc26 pm26 an26 cd26 ct26), sl26⟩)
    (c26 : PySem.W.codeIn K cd26 "_law_unknown" = true)
    (k26 : PySem.W.keepIn K (.ref f26) = true)
    (a27 : PySem.W.nsIn K mainGlobals "_law_equations" = some (some (.ref f27)))
    (l27 : K.lookup f27 = some ⟨oc27, od27, .func (PySem.W.fnOf "_law_equations" "_law_equations" (defArgs s_law_equations) (defBody s_law_equations) (defScope s_law_equations) .none kV27 dc27 pm27 an27 cd27 ct27), sl27⟩)
    (c27 : PySem.W.codeIn K cd27 "_law_equations" = true)
    (k27 : PySem.W.keepIn K (.ref f27) = true)
    (a28 : PySem.W.nsIn K mainGlobals "_law_solutions" = some (some (.ref f28)))
    (l28 : K.lookup f28 = some ⟨oc28, od28, .func (PySem.W.fnOf "_law_solutions" "_law_solutions" (defArgs s_law_solutions) (defBody s_law_solutions) (defScope s_law_solutions) .none kV28 dc28 pm28 an28 cd28 ct28), sl28⟩)
    (c28 : PySem.W.codeIn K cd28 "_law_solutions" = true)
    (k28 : PySem.W.keepIn K (.ref f28) = true)
    (a29 : PySem.W.nsIn K mainGlobals "_law_step" = some (some (.ref f29)))
    (l29 : K.lookup f29 = some ⟨oc29, od29, .func (PySem.W.fnOf "_law_step" "_law_step" (defArgs s_law_step) (defBody s_law_step) (defScope s_law_step) .none kV29 dc29 pm29 an29 cd29 ct29), sl29⟩)
    (c29 : PySem.W.codeIn K cd29 "_law_step" = true)
    (k29 : PySem.W.keepIn K (.ref f29) = true)
    (a30 : PySem.W.nsIn K mainGlobals "_law_after" = some (some (.ref f30)))
    (l30 : K.lookup f30 = some ⟨oc30, od30, .func (PySem.W.fnOf "_law_after" "_law_after" (defArgs s_law_after) (defBody s_law_after) (defScope s_law_after) .none kV30 dc30 pm30 an30 cd30 ct30), sl30⟩)
    (c30 : PySem.W.codeIn K cd30 "_law_after" = true)
    (k30 : PySem.W.keepIn K (.ref f30) = true)
    (a31 : PySem.W.nsIn K mainGlobals "_law_reached" = some (some (.ref f31)))
    (l31 : K.lookup f31 = some ⟨oc31, od31, .func (PySem.W.fnOf "_law_reached" "_law_reached" (defArgs s_law_reached) (defBody s_law_reached) (defScope s_law_reached) .none kV31 dc31 pm31 an31 cd31 ct31), sl31⟩)
    (c31 : PySem.W.codeIn K cd31 "_law_reached" = true)
    (k31 : PySem.W.keepIn K (.ref f31) = true)
    (a32 : PySem.W.nsIn K mainGlobals "_law_start" = some (some (.ref f32)))
    (l32 : K.lookup f32 = some ⟨oc32, od32, .func (PySem.W.fnOf "_law_start" "_law_start" (defArgs s_law_start) (defBody s_law_start) (defScope s_law_start) .none kV32 dc32 pm32 an32 cd32 ct32), sl32⟩)
    (c32 : PySem.W.codeIn K cd32 "_law_start" = true)
    (k32 : PySem.W.keepIn K (.ref f32) = true)
    (a33 : PySem.W.nsIn K mainGlobals "law" = some (some (.ref f33)))
    (l33 : K.lookup f33 = some ⟨oc33, od33, .func (PySem.W.fnOf "law" "law" (defArgs s_law) (defBody s_law) (defScope s_law) .none kV33 dc33 pm33 an33 cd33 ct33), sl33⟩)
    (c33 : PySem.W.codeIn K cd33 "law" = true)
    (k33 : PySem.W.keepIn K (.ref f33) = true)
    (a34 : PySem.W.findIn K (.ref C) "__init__" = some (some (.ref f34)))
    (l34 : K.lookup f34 = some ⟨oc34, od34, .func (PySem.W.fnOf "__init__" "Space.__init__" (defArgs s_init) (defBody s_init) (defScope s_init) .none kV34 dc34 pm34 an34 cd34 ct34), sl34⟩)
    (c34 : PySem.W.codeIn K cd34 "Space.__init__" = true)
    (k34 : PySem.W.keepIn K (.ref f34) = true)
    (n34 : PySem.W.isFn K (.ref f34) = true)
    (a35 : PySem.W.findIn K (.ref C) "points" = some (some (.ref f35)))
    (l35 : K.lookup f35 = some ⟨oc35, od35, .func (PySem.W.fnOf "points" "Space.points" (defArgs s_points) (defBody s_points) (defScope s_points) .none kV35 dc35 pm35 an35 cd35 ct35), sl35⟩)
    (c35 : PySem.W.codeIn K cd35 "Space.points" = true)
    (k35 : PySem.W.keepIn K (.ref f35) = true)
    (n35 : PySem.W.isFn K (.ref f35) = true)
    (a36 : PySem.W.findIn K (.ref C) "powers" = some (some (.ref f36)))
    (l36 : K.lookup f36 = some ⟨oc36, od36, .func (PySem.W.fnOf "powers" "Space.powers" (defArgs s_powers) (defBody s_powers) (defScope s_powers) .none kV36 dc36 pm36 an36 cd36 ct36), sl36⟩)
    (c36 : PySem.W.codeIn K cd36 "Space.powers" = true)
    (k36 : PySem.W.keepIn K (.ref f36) = true)
    (n36 : PySem.W.isFn K (.ref f36) = true)
    (a37 : PySem.W.findIn K (.ref D) "__init__" = some (some (.ref f37)))
    (l37 : K.lookup f37 = some ⟨oc37, od37, .func (PySem.W.fnOf "__init__" "System.__init__" (defArgs s_yinit) (defBody s_yinit) (defScope s_yinit) .none kV37 dc37 pm37 an37 cd37 ct37), sl37⟩)
    (c37 : PySem.W.codeIn K cd37 "System.__init__" = true)
    (k37 : PySem.W.keepIn K (.ref f37) = true)
    (n37 : PySem.W.isFn K (.ref f37) = true)
    (a38 : PySem.W.findIn K (.ref D) "solutions" = some (some (.ref f38)))
    (l38 : K.lookup f38 = some ⟨oc38, od38, .func (PySem.W.fnOf "solutions" "System.solutions" (defArgs s_y_solutions) (defBody s_y_solutions) (defScope s_y_solutions) .none kV38 dc38 pm38 an38 cd38 ct38), sl38⟩)
    (c38 : PySem.W.codeIn K cd38 "System.solutions" = true)
    (k38 : PySem.W.keepIn K (.ref f38) = true)
    (n38 : PySem.W.isFn K (.ref f38) = true)
    (a39 : PySem.W.findIn K (.ref D) "tables" = some (some (.ref f39)))
    (l39 : K.lookup f39 = some ⟨oc39, od39, .func (PySem.W.fnOf "tables" "System.tables" (defArgs s_y_tables) (defBody s_y_tables) (defScope s_y_tables) .none kV39 dc39 pm39 an39 cd39 ct39), sl39⟩)
    (c39 : PySem.W.codeIn K cd39 "System.tables" = true)
    (k39 : PySem.W.keepIn K (.ref f39) = true)
    (n39 : PySem.W.isFn K (.ref f39) = true)
    (a40 : PySem.W.findIn K (.ref G) "__init__" = some (some (.ref f40)))
    (l40 : K.lookup f40 = some ⟨oc40, od40, .func (PySem.W.fnOf "__init__" "Machine.__init__" (defArgs s_mainit) (defBody s_mainit) (defScope s_mainit) .none kV40 dc40 pm40 an40 cd40 ct40), sl40⟩)
    (c40 : PySem.W.codeIn K cd40 "Machine.__init__" = true)
    (k40 : PySem.W.keepIn K (.ref f40) = true)
    (n40 : PySem.W.isFn K (.ref f40) = true)
    (a41 : PySem.W.findIn K (.ref G) "after" = some (some (.ref f41)))
    (l41 : K.lookup f41 = some ⟨oc41, od41, .func (PySem.W.fnOf "after" "Machine.after" (defArgs s_ma_after) (defBody s_ma_after) (defScope s_ma_after) .none kV41 dc41 pm41 an41 cd41 ct41), sl41⟩)
    (c41 : PySem.W.codeIn K cd41 "Machine.after" = true)
    (k41 : PySem.W.keepIn K (.ref f41) = true)
    (n41 : PySem.W.isFn K (.ref f41) = true)
    (a42 : PySem.W.findIn K (.ref G) "reached" = some (some (.ref f42)))
    (l42 : K.lookup f42 = some ⟨oc42, od42, .func (PySem.W.fnOf "reached" "Machine.reached" (defArgs s_ma_reached) (defBody s_ma_reached) (defScope s_ma_reached) .none kV42 dc42 pm42 an42 cd42 ct42), sl42⟩)
    (c42 : PySem.W.codeIn K cd42 "Machine.reached" = true)
    (k42 : PySem.W.keepIn K (.ref f42) = true)
    (n42 : PySem.W.isFn K (.ref f42) = true)
    (a43 : PySem.W.findIn K (.ref G) "way" = some (some (.ref f43)))
    (l43 : K.lookup f43 = some ⟨oc43, od43, .func (PySem.W.fnOf "way" "Machine.way" (defArgs s_ma_way) (defBody s_ma_way) (defScope s_ma_way) .none kV43 dc43 pm43 an43 cd43 ct43), sl43⟩)
    (c43 : PySem.W.codeIn K cd43 "Machine.way" = true)
    (k43 : PySem.W.keepIn K (.ref f43) = true)
    (n43 : PySem.W.isFn K (.ref f43) = true)
    : ∃ fd : FuncData, (∀ (s : Shared) (v : Value), BindsTo s fd ⟨[v], []⟩ [("script", v)]) ∧ ∀ base : Heap, K.In base → base.Ns mainGlobals mg → FnOk P w K mg base CX0 8 fa fd ["script"] (spK K) := by
  have e := hfa.symm.trans (PySem.W.mg_of X Gh a33)
  cases e
  have FL := fun_mk (st := s_law) l33 c33 k33
  have FI := fun_mk (st := s_init) l34 c34 k34
  have bI := FI.binds (ps := ["self", "prime", "names"]) fun _ _ _ _ _ _ us hl => match us, hl with | [_, _, _], _ => rfl
  have FSy := fun_mk (st := s_yinit) l37 c37 k37
  have bSy := FSy.binds (ps := ["self", "space", "equations"]) fun _ _ _ _ _ _ us hl => match us, hl with | [_, _, _], _ => rfl
  have FMa := fun_mk (st := s_mainit) l40 c40 k40
  have bMa := FMa.binds (ps := ["self", "start", "step"]) fun _ _ _ _ _ _ us hl => match us, hl with | [_, _, _], _ => rfl
  have T : Tx K mg C f34 _ D f37 _ G f40 _ := { number_raised := tf_mk X Gh a0 l0 c0 k0 (fun _ _ _ _ _ _ us hl => match us, hl with | [_, _, _], _ => rfl), is_name := tf_mk X Gh a1 l1 c1 k1 (fun _ _ _ _ _ _ us hl => match us, hl with | [_], _ => rfl), make_a_space := tf_mk X Gh a2 l2 c2 k2 (fun _ _ _ _ _ _ us hl => match us, hl with | [_, _], _ => rfl), tuples_in_order := tf_mk X Gh a3 l3 c3 k3 (fun _ _ _ _ _ _ us hl => match us, hl with | [_, _], _ => rfl), degree_of := tf_mk X Gh a4 l4 c4 k4 (fun _ _ _ _ _ _ us hl => match us, hl with | [_], _ => rfl), table_of := tf_mk X Gh a5 l5 c5 k5 (fun _ _ _ _ _ _ us hl => match us, hl with | [_, _], _ => rfl), value_rows := tf_mk X Gh a6 l6 c6 k6 (fun _ _ _ _ _ _ us hl => match us, hl with | [_], _ => rfl), turned := tf_mk X Gh a7 l7 c7 k7 (fun _ _ _ _ _ _ us hl => match us, hl with | [_, _, _], _ => rfl), turned_once := tf_mk X Gh a8 l8 c8 k8 (fun _ _ _ _ _ _ us hl => match us, hl with | [_, _, _], _ => rfl), weighted_sum := tf_mk X Gh a9 l9 c9 k9 (fun _ _ _ _ _ _ us hl => match us, hl with | [_, _, _], _ => rfl), first_that_fails := tf_mk X Gh a10 l10 c10 k10 (fun _ _ _ _ _ _ us hl => match us, hl with | [_, _], _ => rfl), led_by_point := tf_mk X Gh a11 l11 c11 k11 (fun _ _ _ _ _ _ us hl => match us, hl with | [_, _], _ => rfl), points_before := tf_mk X Gh a12 l12 c12 k12 (fun _ _ _ _ _ _ us hl => match us, hl with | [_], _ => rfl), law_cell := tf_mk X Gh a13 l13 c13 k13 (fun _ _ _ _ _ _ us hl => match us, hl with | [_, _], _ => rfl), law_digits := tf_mk X Gh a14 l14 c14 k14 (fun _ _ _ _ _ _ us hl => match us, hl with | [_, _, _], _ => rfl), law_shape := tf_mk X Gh a15 l15 c15 k15 (fun _ _ _ _ _ _ us hl => match us, hl with | [_], _ => rfl), law_names := tf_mk X Gh a16 l16 c16 k16 (fun _ _ _ _ _ _ us hl => match us, hl with | [_, _], _ => rfl), law_points := tf_mk X Gh a17 l17 c17 k17 (fun _ _ _ _ _ _ us hl => match us, hl with | [_, _], _ => rfl), law_made := tf_mk X Gh a18 l18 c18 k18 (fun _ _ _ _ _ _ us hl => match us, hl with | [_, _], _ => rfl), law_drawn := tf_mk X Gh a19 l19 c19 k19 (fun _ _ _ _ _ _ us hl => match us, hl with | [_, _, _], _ => rfl), law_power_value := tf_mk X Gh a20 l20 c20 k20 (fun _ _ _ _ _ _ us hl => match us, hl with | [_, _, _], _ => rfl), law_value := tf_mk X Gh a21 l21 c21 k21 (fun _ _ _ _ _ _ us hl => match us, hl with | [_, _, _], _ => rfl), law_plus := tf_mk X Gh a22 l22 c22 k22 (fun _ _ _ _ _ _ us hl => match us, hl with | [_, _, _], _ => rfl), law_scaled := tf_mk X Gh a23 l23 c23 k23 (fun _ _ _ _ _ _ us hl => match us, hl with | [_, _, _], _ => rfl), law_minus := tf_mk X Gh a24 l24 c24 k24 (fun _ _ _ _ _ _ us hl => match us, hl with | [_, _, _], _ => rfl), law_constant := tf_mk X Gh a25 l25 c25 k25 (fun _ _ _ _ _ _ us hl => match us, hl with | [_, _, _], _ => rfl), law_unknown := tf_mk X Gh a26 l26 c26 k26 (fun _ _ _ _ _ _ us hl => match us, hl with | [_, _], _ => rfl), law_equations := tf_mk X Gh a27 l27 c27 k27 (fun _ _ _ _ _ _ us hl => match us, hl with | [_, _, _], _ => rfl), law_solutions := tf_mk X Gh a28 l28 c28 k28 (fun _ _ _ _ _ _ us hl => match us, hl with | [_, _, _], _ => rfl), law_step := tf_mk X Gh a29 l29 c29 k29 (fun _ _ _ _ _ _ us hl => match us, hl with | [_, _, _], _ => rfl), law_after := tf_mk X Gh a30 l30 c30 k30 (fun _ _ _ _ _ _ us hl => match us, hl with | [_, _, _], _ => rfl), law_reached := tf_mk X Gh a31 l31 c31 k31 (fun _ _ _ _ _ _ us hl => match us, hl with | [_, _, _], _ => rfl), law_start := tf_mk X Gh a32 l32 c32 k32 (fun _ _ _ _ _ _ us hl => match us, hl with | [_, _, _], _ => rfl), pts := tm_mk a35 l35 c35 k35 n35 (fun _ _ _ _ _ _ us hl => match us, hl with | [_], _ => rfl), pws := tm_mk a36 l36 c36 k36 n36 (fun _ _ _ _ _ _ us hl => match us, hl with | [_, _], _ => rfl), y_solutions := tm_mk a38 l38 c38 k38 n38 (fun _ _ _ _ _ _ us hl => match us, hl with | [_], _ => rfl), y_tables := tm_mk a39 l39 c39 k39 n39 (fun _ _ _ _ _ _ us hl => match us, hl with | [_], _ => rfl), ma_after := tm_mk a41 l41 c41 k41 n41 (fun _ _ _ _ _ _ us hl => match us, hl with | [_, _], _ => rfl), ma_reached := tm_mk a42 l42 c42 k42 n42 (fun _ _ _ _ _ _ us hl => match us, hl with | [_], _ => rfl), ma_way := tm_mk a43 l43 c43 k43 n43 (fun _ _ _ _ _ _ us hl => match us, hl with | [_, _], _ => rfl), range := PySem.W.mg_none_of X Gh z_range, len := PySem.W.mg_none_of X Gh z_len, int := PySem.W.mg_none_of X Gh z_int, all := PySem.W.mg_none_of X Gh z_all, set := PySem.W.mg_none_of X Gh z_set, list := PySem.W.mg_none_of X Gh z_list, isinstance := PySem.W.mg_none_of X Gh z_isinstance, sum := PySem.W.mg_none_of X Gh z_sum, sorted := PySem.W.mg_none_of X Gh z_sorted, zip := PySem.W.mg_none_of X Gh z_zip, tuple := PySem.W.mg_none_of X Gh z_tuple, enumerate := PySem.W.mg_none_of X Gh z_enumerate, mPRIMES := ⟨fP, PySem.W.mg_of X Gh gPR, fun B => ⟨fP, [.int 2, .int 3, .int 5, .int 7], rfl, .inr ⟨_, _, _, lPR, rfl, rfl, (by rw [sizeLine_eq]; exact Nat.le_of_ble_eq_true rfl), .cons ⟨_, rfl⟩ (.cons ⟨_, rfl⟩ (.cons ⟨_, rfl⟩ (.cons ⟨_, rfl⟩ .nil)))⟩, .cons rfl (.cons rfl (.cons rfl (.cons rfl .nil)))⟩⟩, mLETTERS := ⟨_, PySem.W.mg_of X Gh gLE⟩, mLETTERS_AND_DIGITS := ⟨_, PySem.W.mg_of X Gh gLD⟩, mLONGEST_NAME := ⟨_, PySem.W.mg_of X Gh gLN⟩, mMOST_UNKNOWNS := ⟨_, PySem.W.mg_of X Gh gMU⟩, mMOST_POINTS := ⟨_, PySem.W.mg_of X Gh gMP⟩, cls := ⟨pgC, hdC, poC, saC⟩, na1 := n1C, na2 := n2C, na3 := n3C, na4 := n4C, gS := PySem.W.mg_of X Gh gC, mkC := ⟨mkC, a34, n34, kpC⟩, fInit := FI, binds := bI, gcSy := PySem.W.mg_of X Gh gD, mkSy := ⟨mkD, a37, n37, kpD⟩, fInitSy := FSy, bindsSy := bSy, clsSy := ⟨pgD, hdD, poD, saD⟩, noSy_space := n1D, noSy_equations := n2D, noSy_tables := n3D, insSy := ⟨⟨pgD, hdD, poD, saD⟩, haD, hnD, htD, hmD, meD⟩, gcMa := PySem.W.mg_of X Gh gG, mkMa := ⟨mkG, a40, n40, kpG⟩, fInitMa := FMa, bindsMa := bMa, clsMa := ⟨pgG, hdG, poG, saG⟩, noMa_start := n1G, noMa_step := n2G, noMa_space := n3G, noMa_nxt := n4G, insMa := ⟨⟨pgG, hdG, poG, saG⟩, haG, hnG, htG, hmG, meG⟩ }
  refine ⟨PySem.W.fnOf "law" "law" (defArgs s_law) (defBody s_law) (defScope s_law) .none kV33 dc33 pm33 an33 cd33 ct33, fun s v => .of_eq rfl, fun base _ _ => ?_⟩
  have F := ok_law (P := P) (w := w) (base := base) T FL
  exact ⟨fun vs H Q E' h => F.len vs H Q E' (sp_weakG (HL C D G) h), fun A outer s H args us vs Q E' r e b v h => F.run A outer s H args us vs Q E' r e b v (sp_weakG (HL C D G) h)⟩
end Kt

set_option Elab.async false
set_option linter.all false
set_option maxRecDepth 100000
open PySem PySem.W PyProof.Rows
set_option maxHeartbeats 0 in
theorem PySem.Challenge.cw_standingpowers_k59_machines_that_step_holds : PySem.Challenge.rw_standingpowers_k59_machines_that_step.Holds := by
  w_on; o_law; k_head; (case hw => w_witness2)
  k_fill
  refine L2.walk_ofK (l := PySem.Challenge.rw_standingpowers_k59_machines_that_step) (n := 63) (k := 8) (x := "script") (CX := L2.CX0) (sp := Dn.spK) rfl (by decide) rfl ⟨rfl, by decide, by decide⟩ (fun w h Y => PySem.W.kIn_of Y) ?F ?S (fun _ _ _ _ h => h)
  case S =>
    intro K H a ns hl hO hS
    exact Dn.sp_script hl hS
  case F =>
    intro w mg fa h KX G hmg
    refine' Kt.all_mk KX G hmg Kt.law_true ?gC ?gPR ?lPR ?gLE ?gLD ?gLN ?gMU ?gMP ?z_range ?z_len ?z_int ?z_all ?z_set ?z_list ?z_isinstance ?z_sum ?z_sorted ?z_zip ?z_tuple ?z_enumerate ?pgC ?hdC ?poC ?saC ?n1C ?n2C ?n3C ?n4C ?mkC ?kpC ?gD ?pgD ?hdD ?poD ?saD ?n1D ?n2D ?n3D ?mkD ?kpD ?haD ?hnD ?htD ?hmD ?meD ?gG ?pgG ?hdG ?poG ?saG ?n1G ?n2G ?n3G ?n4G ?mkG ?kpG ?haG ?hnG ?htG ?hmG ?meG ?a0 ?l0 ?c0 ?k0 ?a1 ?l1 ?c1 ?k1 ?a2 ?l2 ?c2 ?k2 ?a3 ?l3 ?c3 ?k3 ?a4 ?l4 ?c4 ?k4 ?a5 ?l5 ?c5 ?k5 ?a6 ?l6 ?c6 ?k6 ?a7 ?l7 ?c7 ?k7 ?a8 ?l8 ?c8 ?k8 ?a9 ?l9 ?c9 ?k9 ?a10 ?l10 ?c10 ?k10 ?a11 ?l11 ?c11 ?k11 ?a12 ?l12 ?c12 ?k12 ?a13 ?l13 ?c13 ?k13 ?a14 ?l14 ?c14 ?k14 ?a15 ?l15 ?c15 ?k15 ?a16 ?l16 ?c16 ?k16 ?a17 ?l17 ?c17 ?k17 ?a18 ?l18 ?c18 ?k18 ?a19 ?l19 ?c19 ?k19 ?a20 ?l20 ?c20 ?k20 ?a21 ?l21 ?c21 ?k21 ?a22 ?l22 ?c22 ?k22 ?a23 ?l23 ?c23 ?k23 ?a24 ?l24 ?c24 ?k24 ?a25 ?l25 ?c25 ?k25 ?a26 ?l26 ?c26 ?k26 ?a27 ?l27 ?c27 ?k27 ?a28 ?l28 ?c28 ?k28 ?a29 ?l29 ?c29 ?k29 ?a30 ?l30 ?c30 ?k30 ?a31 ?l31 ?c31 ?k31 ?a32 ?l32 ?c32 ?k32 ?a33 ?l33 ?c33 ?k33 ?a34 ?l34 ?c34 ?k34 ?n34 ?a35 ?l35 ?c35 ?k35 ?n35 ?a36 ?l36 ?c36 ?k36 ?n36 ?a37 ?l37 ?c37 ?k37 ?n37 ?a38 ?l38 ?c38 ?k38 ?n38 ?a39 ?l39 ?c39 ?k39 ?n39 ?a40 ?l40 ?c40 ?k40 ?n40 ?a41 ?l41 ?c41 ?k41 ?n41 ?a42 ?l42 ?c42 ?k42 ?n42 ?a43 ?l43 ?c43 ?k43 ?n43
    (case gC => first | k_is | rfl | with_unfolding_all rfl); (case gPR => first | k_is | rfl | with_unfolding_all rfl); (case lPR => first | k_is | rfl | with_unfolding_all rfl); (case gLE => first | k_is | rfl | with_unfolding_all rfl); (case gLD => first | k_is | rfl | with_unfolding_all rfl); (case gLN => first | k_is | rfl | with_unfolding_all rfl); (case gMU => first | k_is | rfl | with_unfolding_all rfl); (case gMP => first | k_is | rfl | with_unfolding_all rfl); (case z_range => first | k_is | rfl | with_unfolding_all rfl); (case z_len => first | k_is | rfl | with_unfolding_all rfl); (case z_int => first | k_is | rfl | with_unfolding_all rfl); (case z_all => first | k_is | rfl | with_unfolding_all rfl); (case z_set => first | k_is | rfl | with_unfolding_all rfl); (case z_list => first | k_is | rfl | with_unfolding_all rfl); (case z_isinstance => first | k_is | rfl | with_unfolding_all rfl); (case z_sum => first | k_is | rfl | with_unfolding_all rfl); (case z_sorted => first | k_is | rfl | with_unfolding_all rfl); (case z_zip => first | k_is | rfl | with_unfolding_all rfl); (case z_tuple => first | k_is | rfl | with_unfolding_all rfl); (case z_enumerate => first | k_is | rfl | with_unfolding_all rfl); (case pgC => first | k_is | rfl | with_unfolding_all rfl); (case hdC => first | k_is | rfl | with_unfolding_all rfl); (case poC => first | k_is | rfl | with_unfolding_all rfl); (case saC => first | k_is | rfl | with_unfolding_all rfl); (case n1C => first | k_is | rfl | with_unfolding_all rfl); (case n2C => first | k_is | rfl | with_unfolding_all rfl); (case n3C => first | k_is | rfl | with_unfolding_all rfl); (case n4C => first | k_is | rfl | with_unfolding_all rfl); (case mkC => first | k_is | rfl | with_unfolding_all rfl); (case kpC => first | k_is | rfl | with_unfolding_all rfl); (case gD => first | k_is | rfl | with_unfolding_all rfl); (case pgD => first | k_is | rfl | with_unfolding_all rfl); (case hdD => first | k_is | rfl | with_unfolding_all rfl); (case poD => first | k_is | rfl | with_unfolding_all rfl); (case saD => first | k_is | rfl | with_unfolding_all rfl); (case n1D => first | k_is | rfl | with_unfolding_all rfl); (case n2D => first | k_is | rfl | with_unfolding_all rfl); (case n3D => first | k_is | rfl | with_unfolding_all rfl); (case mkD => first | k_is | rfl | with_unfolding_all rfl); (case kpD => first | k_is | rfl | with_unfolding_all rfl); (case haD => first | k_is | rfl | with_unfolding_all rfl); (case hnD => first | k_is | rfl | with_unfolding_all rfl); (case htD => first | k_is | rfl | with_unfolding_all rfl); (case hmD => first | k_is | rfl | with_unfolding_all rfl); (case meD => first | k_is | rfl | with_unfolding_all rfl); (case gG => first | k_is | rfl | with_unfolding_all rfl); (case pgG => first | k_is | rfl | with_unfolding_all rfl); (case hdG => first | k_is | rfl | with_unfolding_all rfl); (case poG => first | k_is | rfl | with_unfolding_all rfl); (case saG => first | k_is | rfl | with_unfolding_all rfl); (case n1G => first | k_is | rfl | with_unfolding_all rfl); (case n2G => first | k_is | rfl | with_unfolding_all rfl); (case n3G => first | k_is | rfl | with_unfolding_all rfl); (case n4G => first | k_is | rfl | with_unfolding_all rfl); (case mkG => first | k_is | rfl | with_unfolding_all rfl); (case kpG => first | k_is | rfl | with_unfolding_all rfl); (case haG => first | k_is | rfl | with_unfolding_all rfl); (case hnG => first | k_is | rfl | with_unfolding_all rfl); (case htG => first | k_is | rfl | with_unfolding_all rfl); (case hmG => first | k_is | rfl | with_unfolding_all rfl); (case meG => first | k_is | rfl | with_unfolding_all rfl); (case a0 => first | k_is | rfl | with_unfolding_all rfl); (case l0 => first | k_is | rfl | with_unfolding_all rfl); (case c0 => first | k_is | rfl | with_unfolding_all rfl); (case k0 => first | k_is | rfl | with_unfolding_all rfl); (case a1 => first | k_is | rfl | with_unfolding_all rfl); (case l1 => first | k_is | rfl | with_unfolding_all rfl); (case c1 => first | k_is | rfl | with_unfolding_all rfl); (case k1 => first | k_is | rfl | with_unfolding_all rfl); (case a2 => first | k_is | rfl | with_unfolding_all rfl); (case l2 => first | k_is | rfl | with_unfolding_all rfl); (case c2 => first | k_is | rfl | with_unfolding_all rfl); (case k2 => first | k_is | rfl | with_unfolding_all rfl); (case a3 => first | k_is | rfl | with_unfolding_all rfl); (case l3 => first | k_is | rfl | with_unfolding_all rfl); (case c3 => first | k_is | rfl | with_unfolding_all rfl); (case k3 => first | k_is | rfl | with_unfolding_all rfl); (case a4 => first | k_is | rfl | with_unfolding_all rfl); (case l4 => first | k_is | rfl | with_unfolding_all rfl); (case c4 => first | k_is | rfl | with_unfolding_all rfl); (case k4 => first | k_is | rfl | with_unfolding_all rfl); (case a5 => first | k_is | rfl | with_unfolding_all rfl); (case l5 => first | k_is | rfl | with_unfolding_all rfl); (case c5 => first | k_is | rfl | with_unfolding_all rfl); (case k5 => first | k_is | rfl | with_unfolding_all rfl); (case a6 => first | k_is | rfl | with_unfolding_all rfl); (case l6 => first | k_is | rfl | with_unfolding_all rfl); (case c6 => first | k_is | rfl | with_unfolding_all rfl); (case k6 => first | k_is | rfl | with_unfolding_all rfl); (case a7 => first | k_is | rfl | with_unfolding_all rfl); (case l7 => first | k_is | rfl | with_unfolding_all rfl); (case c7 => first | k_is | rfl | with_unfolding_all rfl); (case k7 => first | k_is | rfl | with_unfolding_all rfl); (case a8 => first | k_is | rfl | with_unfolding_all rfl); (case l8 => first | k_is | rfl | with_unfolding_all rfl); (case c8 => first | k_is | rfl | with_unfolding_all rfl); (case k8 => first | k_is | rfl | with_unfolding_all rfl); (case a9 => first | k_is | rfl | with_unfolding_all rfl); (case l9 => first | k_is | rfl | with_unfolding_all rfl); (case c9 => first | k_is | rfl | with_unfolding_all rfl); (case k9 => first | k_is | rfl | with_unfolding_all rfl); (case a10 => first | k_is | rfl | with_unfolding_all rfl); (case l10 => first | k_is | rfl | with_unfolding_all rfl); (case c10 => first | k_is | rfl | with_unfolding_all rfl); (case k10 => first | k_is | rfl | with_unfolding_all rfl); (case a11 => first | k_is | rfl | with_unfolding_all rfl); (case l11 => first | k_is | rfl | with_unfolding_all rfl); (case c11 => first | k_is | rfl | with_unfolding_all rfl); (case k11 => first | k_is | rfl | with_unfolding_all rfl); (case a12 => first | k_is | rfl | with_unfolding_all rfl); (case l12 => first | k_is | rfl | with_unfolding_all rfl); (case c12 => first | k_is | rfl | with_unfolding_all rfl); (case k12 => first | k_is | rfl | with_unfolding_all rfl); (case a13 => first | k_is | rfl | with_unfolding_all rfl); (case l13 => first | k_is | rfl | with_unfolding_all rfl); (case c13 => first | k_is | rfl | with_unfolding_all rfl); (case k13 => first | k_is | rfl | with_unfolding_all rfl); (case a14 => first | k_is | rfl | with_unfolding_all rfl); (case l14 => first | k_is | rfl | with_unfolding_all rfl); (case c14 => first | k_is | rfl | with_unfolding_all rfl); (case k14 => first | k_is | rfl | with_unfolding_all rfl); (case a15 => first | k_is | rfl | with_unfolding_all rfl); (case l15 => first | k_is | rfl | with_unfolding_all rfl); (case c15 => first | k_is | rfl | with_unfolding_all rfl); (case k15 => first | k_is | rfl | with_unfolding_all rfl); (case a16 => first | k_is | rfl | with_unfolding_all rfl); (case l16 => first | k_is | rfl | with_unfolding_all rfl); (case c16 => first | k_is | rfl | with_unfolding_all rfl); (case k16 => first | k_is | rfl | with_unfolding_all rfl); (case a17 => first | k_is | rfl | with_unfolding_all rfl); (case l17 => first | k_is | rfl | with_unfolding_all rfl); (case c17 => first | k_is | rfl | with_unfolding_all rfl); (case k17 => first | k_is | rfl | with_unfolding_all rfl); (case a18 => first | k_is | rfl | with_unfolding_all rfl); (case l18 => first | k_is | rfl | with_unfolding_all rfl); (case c18 => first | k_is | rfl | with_unfolding_all rfl); (case k18 => first | k_is | rfl | with_unfolding_all rfl); (case a19 => first | k_is | rfl | with_unfolding_all rfl); (case l19 => first | k_is | rfl | with_unfolding_all rfl); (case c19 => first | k_is | rfl | with_unfolding_all rfl); (case k19 => first | k_is | rfl | with_unfolding_all rfl); (case a20 => first | k_is | rfl | with_unfolding_all rfl); (case l20 => first | k_is | rfl | with_unfolding_all rfl); (case c20 => first | k_is | rfl | with_unfolding_all rfl); (case k20 => first | k_is | rfl | with_unfolding_all rfl); (case a21 => first | k_is | rfl | with_unfolding_all rfl); (case l21 => first | k_is | rfl | with_unfolding_all rfl); (case c21 => first | k_is | rfl | with_unfolding_all rfl); (case k21 => first | k_is | rfl | with_unfolding_all rfl); (case a22 => first | k_is | rfl | with_unfolding_all rfl); (case l22 => first | k_is | rfl | with_unfolding_all rfl); (case c22 => first | k_is | rfl | with_unfolding_all rfl); (case k22 => first | k_is | rfl | with_unfolding_all rfl); (case a23 => first | k_is | rfl | with_unfolding_all rfl); (case l23 => first | k_is | rfl | with_unfolding_all rfl); (case c23 => first | k_is | rfl | with_unfolding_all rfl); (case k23 => first | k_is | rfl | with_unfolding_all rfl); (case a24 => first | k_is | rfl | with_unfolding_all rfl); (case l24 => first | k_is | rfl | with_unfolding_all rfl); (case c24 => first | k_is | rfl | with_unfolding_all rfl); (case k24 => first | k_is | rfl | with_unfolding_all rfl); (case a25 => first | k_is | rfl | with_unfolding_all rfl); (case l25 => first | k_is | rfl | with_unfolding_all rfl); (case c25 => first | k_is | rfl | with_unfolding_all rfl); (case k25 => first | k_is | rfl | with_unfolding_all rfl); (case a26 => first | k_is | rfl | with_unfolding_all rfl); (case l26 => first | k_is | rfl | with_unfolding_all rfl); (case c26 => first | k_is | rfl | with_unfolding_all rfl); (case k26 => first | k_is | rfl | with_unfolding_all rfl); (case a27 => first | k_is | rfl | with_unfolding_all rfl); (case l27 => first | k_is | rfl | with_unfolding_all rfl); (case c27 => first | k_is | rfl | with_unfolding_all rfl); (case k27 => first | k_is | rfl | with_unfolding_all rfl); (case a28 => first | k_is | rfl | with_unfolding_all rfl); (case l28 => first | k_is | rfl | with_unfolding_all rfl); (case c28 => first | k_is | rfl | with_unfolding_all rfl); (case k28 => first | k_is | rfl | with_unfolding_all rfl); (case a29 => first | k_is | rfl | with_unfolding_all rfl); (case l29 => first | k_is | rfl | with_unfolding_all rfl); (case c29 => first | k_is | rfl | with_unfolding_all rfl); (case k29 => first | k_is | rfl | with_unfolding_all rfl); (case a30 => first | k_is | rfl | with_unfolding_all rfl); (case l30 => first | k_is | rfl | with_unfolding_all rfl); (case c30 => first | k_is | rfl | with_unfolding_all rfl); (case k30 => first | k_is | rfl | with_unfolding_all rfl); (case a31 => first | k_is | rfl | with_unfolding_all rfl); (case l31 => first | k_is | rfl | with_unfolding_all rfl); (case c31 => first | k_is | rfl | with_unfolding_all rfl); (case k31 => first | k_is | rfl | with_unfolding_all rfl); (case a32 => first | k_is | rfl | with_unfolding_all rfl); (case l32 => first | k_is | rfl | with_unfolding_all rfl); (case c32 => first | k_is | rfl | with_unfolding_all rfl); (case k32 => first | k_is | rfl | with_unfolding_all rfl); (case a33 => first | k_is | rfl | with_unfolding_all rfl); (case l33 => first | k_is | rfl | with_unfolding_all rfl); (case c33 => first | k_is | rfl | with_unfolding_all rfl); (case k33 => first | k_is | rfl | with_unfolding_all rfl); (case a34 => first | k_is | rfl | with_unfolding_all rfl); (case l34 => first | k_is | rfl | with_unfolding_all rfl); (case c34 => first | k_is | rfl | with_unfolding_all rfl); (case k34 => first | k_is | rfl | with_unfolding_all rfl); (case n34 => first | k_is | rfl | with_unfolding_all rfl); (case a35 => first | k_is | rfl | with_unfolding_all rfl); (case l35 => first | k_is | rfl | with_unfolding_all rfl); (case c35 => first | k_is | rfl | with_unfolding_all rfl); (case k35 => first | k_is | rfl | with_unfolding_all rfl); (case n35 => first | k_is | rfl | with_unfolding_all rfl); (case a36 => first | k_is | rfl | with_unfolding_all rfl); (case l36 => first | k_is | rfl | with_unfolding_all rfl); (case c36 => first | k_is | rfl | with_unfolding_all rfl); (case k36 => first | k_is | rfl | with_unfolding_all rfl); (case n36 => first | k_is | rfl | with_unfolding_all rfl); (case a37 => first | k_is | rfl | with_unfolding_all rfl); (case l37 => first | k_is | rfl | with_unfolding_all rfl); (case c37 => first | k_is | rfl | with_unfolding_all rfl); (case k37 => first | k_is | rfl | with_unfolding_all rfl); (case n37 => first | k_is | rfl | with_unfolding_all rfl); (case a38 => first | k_is | rfl | with_unfolding_all rfl); (case l38 => first | k_is | rfl | with_unfolding_all rfl); (case c38 => first | k_is | rfl | with_unfolding_all rfl); (case k38 => first | k_is | rfl | with_unfolding_all rfl); (case n38 => first | k_is | rfl | with_unfolding_all rfl); (case a39 => first | k_is | rfl | with_unfolding_all rfl); (case l39 => first | k_is | rfl | with_unfolding_all rfl); (case c39 => first | k_is | rfl | with_unfolding_all rfl); (case k39 => first | k_is | rfl | with_unfolding_all rfl); (case n39 => first | k_is | rfl | with_unfolding_all rfl); (case a40 => first | k_is | rfl | with_unfolding_all rfl); (case l40 => first | k_is | rfl | with_unfolding_all rfl); (case c40 => first | k_is | rfl | with_unfolding_all rfl); (case k40 => first | k_is | rfl | with_unfolding_all rfl); (case n40 => first | k_is | rfl | with_unfolding_all rfl); (case a41 => first | k_is | rfl | with_unfolding_all rfl); (case l41 => first | k_is | rfl | with_unfolding_all rfl); (case c41 => first | k_is | rfl | with_unfolding_all rfl); (case k41 => first | k_is | rfl | with_unfolding_all rfl); (case n41 => first | k_is | rfl | with_unfolding_all rfl); (case a42 => first | k_is | rfl | with_unfolding_all rfl); (case l42 => first | k_is | rfl | with_unfolding_all rfl); (case c42 => first | k_is | rfl | with_unfolding_all rfl); (case k42 => first | k_is | rfl | with_unfolding_all rfl); (case n42 => first | k_is | rfl | with_unfolding_all rfl); (case a43 => first | k_is | rfl | with_unfolding_all rfl); (case l43 => first | k_is | rfl | with_unfolding_all rfl); (case c43 => first | k_is | rfl | with_unfolding_all rfl); (case k43 => first | k_is | rfl | with_unfolding_all rfl); (case n43 => first | k_is | rfl | with_unfolding_all rfl)

