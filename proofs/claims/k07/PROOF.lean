import PyProof.Rows.All
import Wide.All
import OpenK.AllK
import Wide.FinOn
import HandS.ForMost
import HandS.Flow
import HandS.Conv
import HandS.TupAny
import HandS.DictComp
import HandS.IsInst
import HandS.ListItems
import KE.GoesEnum
import HandS.Style
import KE.SortKeyHeap
import KE.SortUse
import HandS.Ends
import HandS.Iter
import HandS.Zip
import HandS.SetBool
import HandS.SetTxt0
import PyProof.SetRoads
import HandS.More
import HandS.SortOrd
import HandS.SortRule
import KE.KSortTup
import HandS.Strs
import HandS.Text
import HandS.Deep
import PySem.Challenge.RW_stylefall_k07_whole_forms_of_chains
set_option Elab.async false
set_option linter.all false
set_option maxRecDepth 100000
/-! Trees over the hand layer: values as trees, mutable things as numbered cells, a def as a plain function of these. -/
namespace TL
open PySem PySem.Spec L2
open PyProof.Rows hiding St

inductive T where
  | non | bl (b : Bool) | int (i : Int) | str (x : Str)
  | tup (ts : List T) | lst (ts : List T) | sls (ts : List T) | dct (ks : List Key) (ts : List T)
  | ref (n : Nat) | val (v : V)

abbrev Sto := List T
abbrev Fr := List (Option T)

def TupK (K : PySem.W.Frag) (a : Addr) (xs : List V) : Prop :=
  ∃ (o : Obj) (its : Array Value) (n : Nat), K.lookup a = some o ∧ o.cls = .type "tuple" ∧ o.data = .seq its n ∧ its.size ≤ sizeLine ∧ Vals xs its.toList
def LstK (K : PySem.W.Frag) (a : Addr) (xs : List V) : Prop :=
  ∃ (o : Obj) (its : Array Value) (n : Nat), K.lookup a = some o ∧ o.cls = .type "list" ∧ o.dict = none ∧ o.data = .seq its n ∧ its.size ≤ sizeLine ∧ Vals xs its.toList
/-- the cells' addresses; addresses that no tree may name -/
structure Mu where
  c : List Addr
  r : List Addr
def Mu.out (μ : Mu) (a : Addr) : Prop := a ∉ μ.c ∧ a ∉ μ.r
def Mu.hide (μ : Mu) (a : Addr) : Mu := ⟨μ.c, a :: μ.r⟩
def Mu.unh (μ : Mu) (a : Addr) : Mu := ⟨μ.c, μ.r.filter (· ≠ a)⟩
def Mu.more (μ : Mu) (a : Addr) : Mu := ⟨μ.c ++ [a], μ.r⟩
/-- a thing that is tracked, not among the cells -/
def Fix (H : Hp) (μ : Mu) (a : Addr) (u : HO) : Prop := Rd H a u ∧ μ.out a
def OT (K : PySem.W.Frag) (H : Hp) (μ : Mu) (a : Addr) (xs : List V) : Prop := Fix H μ a (.tup xs) ∨ TupK K a xs
/-- a list that is only read: known, or of the module -/
def OL (K : PySem.W.Frag) (H : Hp) (μ : Mu) (a : Addr) (xs : List V) : Prop := Fix H μ a (.lst xs) ∨ LstK K a xs
/-- a thing that is tracked as it stands, not among the cells -/
def Fx (H : Hp) (μ : Mu) (a : Addr) (u : HO) : Prop := H a = some u ∧ μ.out a

mutual
def Rel (K : PySem.W.Frag) (H : Hp) (μ : Mu) : T → V → Prop
  | .non, v => v = .non
  | .bl b, v => v = .bl b
  | .int i, v => v = .int i
  | .str x, v => v = .str x
  | .tup ts, v => ∃ a xs, v = .ref a ∧ OT K H μ a xs ∧ Rels K H μ ts xs
  | .lst ts, v => ∃ a xs, v = .ref a ∧ Fx H μ a (.lst xs) ∧ Rels K H μ ts xs
  | .sls ts, v => ∃ a xs, v = .ref a ∧ OL K H μ a xs ∧ Rels K H μ ts xs
  | .dct ks ts, v => ∃ a kvs, v = .ref a ∧ Fx H μ a (.dK kvs) ∧ kvs.map (·.1) = ks ∧ Rels K H μ ts (kvs.map (·.2))
  | .ref n, v => ∃ a, μ.c[n]? = some a ∧ v = .ref a
  | .val u, v => v = u
def Rels (K : PySem.W.Frag) (H : Hp) (μ : Mu) : List T → List V → Prop
  | [], vs => vs = []
  | t :: ts, vs => ∃ v r, vs = v :: r ∧ Rel K H μ t v ∧ Rels K H μ ts r
end

structure Ext (H : Hp) (μ : Mu) (H' : Hp) (μ' : Mu) : Prop where
  pre : ∃ ν, μ'.c = μ.c ++ ν ∧ ∀ p ∈ ν, H p = none
  res : (∀ p ∈ μ.r, p ∈ μ'.r) ∧ ∀ p ∈ μ'.r, p ∈ μ.r ∨ H p = none
  keep : ∀ a o, H a = some o → a ∉ μ.c → H' a = some o
  live : ∀ a, H a ≠ none → H' a ≠ none

theorem Ext.refl (H : Hp) (μ : Mu) : Ext H μ H μ := ⟨⟨[], by simp, fun _ h => nomatch h⟩, ⟨fun _ h => h, fun _ h => .inl h⟩, fun _ _ h _ => h, fun _ h => h⟩
theorem Ext.trans {H H1 H2 : Hp} {μ μ1 μ2 : Mu} (a : Ext H μ H1 μ1) (b : Ext H1 μ1 H2 μ2) : Ext H μ H2 μ2 := by
  obtain ⟨ν, eν, hν⟩ := a.pre
  obtain ⟨ξ, eξ, hξ⟩ := b.pre
  have hξ' : ∀ p ∈ ξ, H p = none := fun p hp => by
    cases q : H p with
    | none => rfl
    | some o => exact absurd (hξ p hp) (a.live p (by rw [q]; simp))
  have back : ∀ p, H1 p = none → H p = none := fun p hp => by
    cases q : H p with
    | none => rfl
    | some o => exact absurd hp (a.live p (by rw [q]; simp))
  refine ⟨⟨ν ++ ξ, by rw [eξ, eν]; simp, fun p hp => (List.mem_append.mp hp).elim (hν p) (hξ' p)⟩, ⟨fun p hp => b.res.1 p (a.res.1 p hp), fun p hp => (b.res.2 p hp).elim (a.res.2 p) fun z => .inr (back p z)⟩, fun c o e n => ?_, fun c h => b.live c (a.live c h)⟩
  refine b.keep c o (a.keep c o e n) fun h => ?_
  rw [eν] at h
  rcases List.mem_append.mp h with h | h
  · exact n h
  · rw [hν c h] at e; cases e
theorem Ext.out {H H' : Hp} {μ μ' : Mu} {a : Addr} {o : HO} (x : Ext H μ H' μ') (r : H a = some o) (n : μ.out a) : μ'.out a := by
  obtain ⟨ν, eν, hν⟩ := x.pre
  refine ⟨fun h => ?_, fun h => (x.res.2 a h).elim n.2 fun z => by rw [z] at r; cases r⟩
  rw [eν] at h
  exact (List.mem_append.mp h).elim n.1 fun h => by rw [hν a h] at r; cases r
theorem Ext.fix {H H' : Hp} {μ μ' : Mu} {a : Addr} {u : HO} (x : Ext H μ H' μ') (f : Fix H μ a u) : Fix H' μ' a u := by
  obtain ⟨r, n⟩ := f
  rcases r with r | ⟨o, r⟩
  · exact ⟨.inl (x.keep _ _ r n.1), x.out r n⟩
  · exact ⟨.inr ⟨o, x.keep _ _ r n.1⟩, x.out r n⟩
theorem Ext.fx {H H' : Hp} {μ μ' : Mu} {a : Addr} {u : HO} (x : Ext H μ H' μ') (f : Fx H μ a u) : Fx H' μ' a u := ⟨x.keep _ _ f.1 f.2.1, x.out f.1 f.2⟩
theorem Ext.of_same {H H' : Hp} {μ : Mu} (s : Same H H') : Ext H μ H' μ := ⟨⟨[], by simp, fun _ h => nomatch h⟩, ⟨fun _ h => h, fun _ h => .inl h⟩, fun a o e _ => s a o e, fun a h z => by
  cases q : H a with
  | none => exact h q
  | some o => rw [s a o q] at z; cases z⟩

mutual
theorem Rel.mono {K : PySem.W.Frag} {H H' : Hp} {μ μ' : Mu} (x : Ext H μ H' μ') : ∀ (t : T) {v : V}, Rel K H μ t v → Rel K H' μ' t v
  | .non, _, h => by simpa only [Rel] using h
  | .bl _, _, h => by simpa only [Rel] using h
  | .int _, _, h => by simpa only [Rel] using h
  | .str _, _, h => by simpa only [Rel] using h
  | .val _, _, h => by simpa only [Rel] using h
  | .ref n, _, h => by
    simp only [Rel] at h ⊢
    obtain ⟨a, e, rfl⟩ := h
    obtain ⟨ν, eν, _⟩ := x.pre
    exact ⟨a, by rw [eν, List.getElem?_append_left (List.getElem?_eq_some_iff.mp e).1]; exact e, rfl⟩
  | .tup ts, _, h => by
    simp only [Rel] at h ⊢
    obtain ⟨a, xs, rfl, o, r⟩ := h
    exact ⟨a, xs, rfl, o.imp x.fix id, Rels.mono x ts r⟩
  | .lst ts, _, h => by
    simp only [Rel] at h ⊢
    obtain ⟨a, xs, rfl, o, r⟩ := h
    exact ⟨a, xs, rfl, x.fx o, Rels.mono x ts r⟩
  | .sls ts, _, h => by
    simp only [Rel] at h ⊢
    obtain ⟨a, xs, rfl, o, r⟩ := h
    exact ⟨a, xs, rfl, o.imp x.fix id, Rels.mono x ts r⟩
  | .dct ks ts, _, h => by
    simp only [Rel] at h ⊢
    obtain ⟨a, kvs, rfl, o, e, r⟩ := h
    exact ⟨a, kvs, rfl, x.fx o, e, Rels.mono x ts r⟩
theorem Rels.mono {K : PySem.W.Frag} {H H' : Hp} {μ μ' : Mu} (x : Ext H μ H' μ') : ∀ (ts : List T) {vs : List V}, Rels K H μ ts vs → Rels K H' μ' ts vs
  | [], _, h => by simpa only [Rels] using h
  | t :: ts, _, h => by
    simp only [Rels] at h ⊢
    obtain ⟨v, r, rfl, h1, h2⟩ := h
    exact ⟨v, r, rfl, Rel.mono x t h1, Rels.mono x ts h2⟩
end

def CellR (K : PySem.W.Frag) (H : Hp) (μ : Mu) (a : Addr) : T → Prop
  | .lst ts => ∃ vs, H a = some (.lst vs) ∧ Rels K H μ ts vs
  | .dct ks ts => ∃ kvs, H a = some (.dK kvs) ∧ kvs.map (·.1) = ks ∧ Rels K H μ ts (kvs.map (·.2))
  | _ => False
structure RelS (K : PySem.W.Frag) (H : Hp) (μ : Mu) (S : Sto) : Prop where
  len : μ.c.length = S.length
  nd : μ.c.Nodup
  cell : ∀ (n : Nat) (c : T) (a : Addr), S[n]? = some c → μ.c[n]? = some a → CellR K H μ a c
  live : ∀ p ∈ μ.r, H p ≠ none
  dis : ∀ p ∈ μ.r, p ∉ μ.c
theorem RelS.same {K : PySem.W.Frag} {H H' : Hp} {μ : Mu} {S : Sto} (r : RelS K H μ S) (s : Same H H') : RelS K H' μ S := by
  refine ⟨r.len, r.nd, fun n c a e1 e2 => ?_, fun p hp z => ?_, r.dis⟩
  rotate_left
  · cases q : H p with
    | none => exact r.live p hp q
    | some o => rw [s p o q] at z; cases z
  have q := r.cell n c a e1 e2
  cases c <;> first
    | exact q.elim
    | (obtain ⟨vs, h, q⟩ := q; exact ⟨vs, s _ _ h, Rels.mono (Ext.of_same s) _ q⟩)
    | (obtain ⟨vs, h, e, q⟩ := q; exact ⟨vs, s _ _ h, e, Rels.mono (Ext.of_same s) _ q⟩)

def RelF (K : PySem.W.Frag) (H : Hp) (μ : Mu) (τ : Fr) (σ : St) : Prop := τ.length = σ.length ∧ ∀ (i : Nat) (t : T), τ[i]? = some (some t) → ∃ v, σ[i]? = some (some v) ∧ Rel K H μ t v
theorem RelF.mono {K : PySem.W.Frag} {H H' : Hp} {μ μ' : Mu} {τ : Fr} {σ : St} (x : Ext H μ H' μ') (h : RelF K H μ τ σ) : RelF K H' μ' τ σ :=
  ⟨h.1, fun i t e => let ⟨v, a, b⟩ := h.2 i t e; ⟨v, a, Rel.mono x t b⟩⟩
theorem RelF.set {K : PySem.W.Frag} {H : Hp} {μ : Mu} {τ : Fr} {σ : St} {i : Nat} {t : T} {v : V} (h : RelF K H μ τ σ) (r : Rel K H μ t v) : RelF K H μ (τ.set i (some t)) (σ.set i (some v)) := by
  refine ⟨by rw [List.length_set, List.length_set]; exact h.1, fun j u e => ?_⟩
  by_cases hj : i = j
  · subst hj
    by_cases hl : i < τ.length
    · rw [List.getElem?_set_self hl] at e
      have e' : t = u := by simpa using e
      subst e'
      exact ⟨v, by rw [List.getElem?_set_self (h.1 ▸ hl)], r⟩
    · rw [List.getElem?_eq_none (by rw [List.length_set]; omega)] at e
      cases e
  · rw [List.getElem?_set_ne hj] at e ⊢
    exact h.2 j u e

/-- an error at this level: its class's name, its fields -/
abbrev XT := Str × List (Str × T)
inductive Res (α : Type) where
  | ok (a : α) (S : Sto) | exc (x : XT) (S : Sto) | stuck
def Res.bind {α β : Type} (r : Res α) (k : α → Sto → Res β) : Res β := match r with
  | .ok a S => k a S
  | .exc x S => .exc x S
  | .stuck => .stuck
abbrev WT := XT → Mu → Fr → Sto → St → Hp → Prop
/-- what is wanted of an error, where the frame is known -/
abbrev XW := XT → Mu → Sto → Hp → Prop
abbrev WT.fr (wx : WT) (τ : Fr) (σ : St) : XW := fun x μ S H => wx x μ τ S σ H
abbrev RL (α β : Type) := Hp → Mu → α → β → Prop
def post {α β : Type} (K : PySem.W.Frag) (wx : XW) (rel : RL α β) (μ : Mu) (H : Hp) (r : Res α) (Q : β → Hp → Prop) : Prop := match r with
  | .ok t S' => ∀ μ' v H', Ext H μ H' μ' → RelS K H' μ' S' → rel H' μ' t v → Q v H'
  | .exc x S' => ∀ μ' H', Ext H μ H' μ' → RelS K H' μ' S' → wx x μ' S' H'
  | .stuck => False
theorem post.shift {α β : Type} {K : PySem.W.Frag} {wx : XW} {rel : RL α β} {μ μ1 : Mu} {H H1 : Hp} {r : Res α} {Q : β → Hp → Prop} (x : Ext H μ H1 μ1) (h : post K wx rel μ H r Q) : post K wx rel μ1 H1 r Q := by
  cases r with
  | ok t S' => exact fun μ' v H' y => h μ' v H' (x.trans y)
  | exc e S' => exact fun μ' H' y => h μ' H' (x.trans y)
  | stuck => exact h

/-- a reading, from a function on trees -/
def tG {α β : Type} (K : PySem.W.Frag) (wx : WT) (rel : RL α β) (F : Fr → Sto → Res α) : St → Hp → (β → Hp → Prop) → Prop := fun σ H Q =>
  ∃ μ τ S, RelS K H μ S ∧ RelF K H μ τ σ ∧ post K (wx.fr τ σ) rel μ H (F τ S) Q
/-- where a reading has come to -/
structure At {α β : Type} (K : PySem.W.Frag) (μ : Mu) (H : Hp) (τ : Fr) (σ : St) (rel : RL α β) (μ1 : Mu) (H1 : Hp) (t : α) (v : β) (S1 : Sto) : Prop where
  ext : Ext H μ H1 μ1
  st : RelS K H1 μ1 S1
  fr : RelF K H1 μ1 τ σ
  rel : rel H1 μ1 t v
theorem tG.seq {α β γ δ : Type} {K : PySem.W.Frag} {wx : WT} {rel : RL α β} {rel2 : RL γ δ} {F : Fr → Sto → Res α} {k : α → Sto → Res γ} {μ : Mu} {H : Hp} {τ : Fr} {σ : St} {S : Sto} {Q : δ → Hp → Prop} {R : β → Hp → Prop}
    (s : RelS K H μ S) (f : RelF K H μ τ σ) (h : post K (wx.fr τ σ) rel2 μ H ((F τ S).bind k) Q)
    (hR : ∀ μ1 H1 t v S1, At K μ H τ σ rel μ1 H1 t v S1 → post K (wx.fr τ σ) rel2 μ1 H1 (k t S1) Q → R v H1) : tG K wx rel F σ H R := by
  refine ⟨μ, τ, S, s, f, ?_⟩
  cases e : F τ S with
  | stuck => rw [e] at h; exact h
  | exc x S1 => rw [e] at h; exact h
  | ok t S1 =>
    rw [e] at h
    exact fun μ1 v H1 x st r => hR μ1 H1 t v S1 ⟨x, st, f.mono x, r⟩ (h.shift x)
/-- the end: a value, the heap as it is -/
theorem post.here {α β : Type} {K : PySem.W.Frag} {wx : XW} {rel : RL α β} {μ : Mu} {H : Hp} {t : α} {v : β} {S : Sto} {Q : β → Hp → Prop} (h : post K wx rel μ H (.ok t S) Q) (st : RelS K H μ S) (r : rel H μ t v) : Q v H := h μ v H (Ext.refl _ _) st r

/-! ### the judgements -/
abbrev rV (K : PySem.W.Frag) : RL T V := fun H μ t v => Rel K H μ t v
abbrev rVs (K : PySem.W.Frag) : RL (List T) (List V) := fun H μ t v => Rels K H μ t v
abbrev rB : RL Bool Bool := fun _ _ b c => b = c
abbrev FE := Fr → Sto → Res T
abbrev FT := Fr → Sto → Res Bool
abbrev FA := Fr → Sto → Res (List T)
def PF (X : Cx) (wx : WT) (e : Expr) (F : FE) : Prop := PE X e (tG X.K wx (rV X.K) F)
def PFT (X : Cx) (wx : WT) (e : Expr) (F : FT) : Prop := PT X e (tG X.K wx rB F)
def PFA (X : Cx) (wx : WT) (es : List Expr) (F : FA) : Prop := PA X es (tG X.K wx (rVs X.K) F)
theorem PE.imp {X : Cx} {e : Expr} {t t' : TE} (h : PE X e t) (i : ∀ σ H Q, t' σ H Q → t σ H Q) : PE X e t' := ⟨fun pins s σ H Q I q => h.run pins s σ H Q I (i σ H Q q)⟩
theorem PT.imp {X : Cx} {e : Expr} {t t' : TT} (h : PT X e t) (i : ∀ σ H Q, t' σ H Q → t σ H Q) : PT X e t' := ⟨fun pins s σ H Q I q => h.run pins s σ H Q I (i σ H Q q)⟩
theorem PA.imp {X : Cx} {e : List Expr} {t t' : TA} (h : PA X e t) (i : ∀ σ H Q, t' σ H Q → t σ H Q) : PA X e t' := ⟨fun pos pins s σ H Q I q => h.run pos pins s σ H Q I (i σ H Q q)⟩
end TL
set_option Elab.async false
set_option linter.all false
set_option maxRecDepth 100000
namespace TL
open PySem PySem.Spec L2
open PyProof.Rows hiding St
/-! ### reading trees -/
def seqL (S : Sto) : T → Option (List T)
  | .lst ts => some ts
  | .sls ts => some ts
  | .ref n => match S[n]? with
    | some (.lst ts) => some ts
    | _ => none
  | _ => none
def plnL (S : Sto) : T → Option (List T)
  | .lst ts => some ts
  | .ref n => match S[n]? with
    | some (.lst ts) => some ts
    | _ => none
  | _ => none
def dctT (S : Sto) : T → Option (List Key × List T)
  | .dct ks ts => some (ks, ts)
  | .ref n => match S[n]? with
    | some (.dct ks ts) => some (ks, ts)
    | _ => none
  | _ => none
section
variable {K : PySem.W.Frag} {H H' : Hp} {μ : Mu} {S : Sto} {t : T} {v : V} {ts : List T} {ks : List Key}
theorem cell_at (s : RelS K H μ S) {n : Nat} {c : T} (e : S[n]? = some c) : ∃ a, μ.c[n]? = some a ∧ CellR K H μ a c := by
  have hn := (List.getElem?_eq_some_iff.mp e).1
  have hm : n < μ.c.length := by rw [s.len]; exact hn
  exact ⟨μ.c[n], List.getElem?_eq_getElem hm, s.cell n c _ e (List.getElem?_eq_getElem hm)⟩
theorem plnL_ok (e : plnL S t = some ts) (s : RelS K H μ S) (r : Rel K H μ t v) : ∃ a vs, v = .ref a ∧ H a = some (.lst vs) ∧ Rels K H μ ts vs := by
  unfold plnL at e
  split at e
  · cases e
    simp only [Rel] at r
    obtain ⟨a, xs, rfl, o, r⟩ := r
    exact ⟨a, xs, rfl, o.1, r⟩
  · split at e
    · rename_i n ts' e'
      cases e
      simp only [Rel] at r
      obtain ⟨a, ha, rfl⟩ := r
      obtain ⟨b, hb, q⟩ := cell_at s e'
      rw [ha] at hb
      cases hb
      obtain ⟨vs, h, q⟩ := q
      exact ⟨a, vs, rfl, h, q⟩
    · cases e
  · cases e
theorem seqL_ok (e : seqL S t = some ts) (s : RelS K H μ S) (r : Rel K H μ t v) : ∃ a vs, v = .ref a ∧ SqL K H a vs ∧ Rels K H μ ts vs := by
  cases t with
  | sls us =>
    simp only [seqL] at e
    cases e
    simp only [Rel] at r
    obtain ⟨a, xs, rfl, o, r⟩ := r
    exact ⟨a, xs, rfl, o.imp (fun z => z.1) id, r⟩
  | lst us =>
    obtain ⟨a, vs, e1, e2, e3⟩ := plnL_ok (t := .lst us) (ts := ts) e s r
    exact ⟨a, vs, e1, .inl (.inl e2), e3⟩
  | ref n =>
    obtain ⟨a, vs, e1, e2, e3⟩ := plnL_ok (t := .ref n) (ts := ts) e s r
    exact ⟨a, vs, e1, .inl (.inl e2), e3⟩
  | _ => cases e
theorem tup_ok (r : Rel K H μ (.tup ts) v) : ∃ a vs, v = .ref a ∧ SqT K H a vs ∧ Rels K H μ ts vs := by
  simp only [Rel] at r
  obtain ⟨a, xs, rfl, o, r⟩ := r
  exact ⟨a, xs, rfl, o.imp (fun z => z.1) id, r⟩
theorem dctT_ok (e : dctT S t = some (ks, ts)) (s : RelS K H μ S) (r : Rel K H μ t v) : ∃ a kvs, v = .ref a ∧ H a = some (.dK kvs) ∧ kvs.map (·.1) = ks ∧ Rels K H μ ts (kvs.map (·.2)) := by
  unfold dctT at e
  split at e
  · cases e
    simp only [Rel] at r
    obtain ⟨a, xs, rfl, o, e, r⟩ := r
    exact ⟨a, xs, rfl, o.1, e, r⟩
  · split at e
    · rename_i n ks' ts' e'
      cases e
      simp only [Rel] at r
      obtain ⟨a, ha, rfl⟩ := r
      obtain ⟨b, hb, q⟩ := cell_at s e'
      rw [ha] at hb
      cases hb
      obtain ⟨vs, h, e, q⟩ := q
      exact ⟨a, vs, rfl, h, e, q⟩
    · cases e
  · cases e
theorem Rels.length : ∀ {ts : List T} {vs : List V}, Rels K H μ ts vs → ts.length = vs.length
  | [], _, h => by simp only [Rels] at h; subst h; rfl
  | t :: ts, _, h => by
    simp only [Rels] at h
    obtain ⟨v, r, rfl, _, h⟩ := h
    simp [Rels.length h]
theorem Rels.get : ∀ {ts : List T} {vs : List V} {i : Nat} {t : T}, Rels K H μ ts vs → ts[i]? = some t → ∃ v, vs[i]? = some v ∧ Rel K H μ t v
  | [], _, _, _, _, e => by simp at e
  | t :: ts, _, 0, u, h, e => by
    simp only [Rels] at h
    obtain ⟨v, r, rfl, h1, _⟩ := h
    simp at e
    subst e
    exact ⟨v, rfl, h1⟩
  | t :: ts, _, i + 1, u, h, e => by
    simp only [Rels] at h
    obtain ⟨v, r, rfl, _, h⟩ := h
    obtain ⟨w, e1, e2⟩ := Rels.get (i := i) h (by simpa using e)
    exact ⟨w, by simpa using e1, e2⟩
theorem Rels.getV : ∀ {ts : List T} {vs : List V} {i : Nat} {v : V}, Rels K H μ ts vs → vs[i]? = some v → ∃ t, ts[i]? = some t ∧ Rel K H μ t v
  | [], _, _, _, h, e => by simp only [Rels] at h; subst h; simp at e
  | t :: ts, _, 0, u, h, e => by
    simp only [Rels] at h
    obtain ⟨v, r, rfl, h1, _⟩ := h
    simp at e
    subst e
    exact ⟨t, rfl, h1⟩
  | t :: ts, _, i + 1, u, h, e => by
    simp only [Rels] at h
    obtain ⟨v, r, rfl, _, h⟩ := h
    obtain ⟨w, e1, e2⟩ := Rels.getV (i := i) h (by simpa using e)
    exact ⟨w, by simpa using e1, e2⟩
theorem Rels.append : ∀ {ts us : List T} {vs ws : List V}, Rels K H μ ts vs → Rels K H μ us ws → Rels K H μ (ts ++ us) (vs ++ ws)
  | [], _, _, _, h, g => by simp only [Rels] at h; subst h; exact g
  | t :: ts, _, _, _, h, g => by
    simp only [Rels] at h
    obtain ⟨v, r, rfl, h1, h2⟩ := h
    simp only [List.cons_append, Rels]
    exact ⟨v, _, rfl, h1, Rels.append h2 g⟩
theorem Rels.take : ∀ {ts : List T} {vs : List V} (n : Nat), Rels K H μ ts vs → Rels K H μ (ts.take n) (vs.take n)
  | _, _, 0, _ => by simp only [List.take_zero, Rels]
  | [], _, n + 1, h => by simp only [Rels] at h; subst h; simp only [List.take_nil, Rels]
  | t :: ts, _, n + 1, h => by
    simp only [Rels] at h
    obtain ⟨v, r, rfl, h1, h2⟩ := h
    simp only [List.take_succ_cons, Rels]
    exact ⟨v, _, rfl, h1, Rels.take n h2⟩
theorem Rels.drop : ∀ {ts : List T} {vs : List V} (n : Nat), Rels K H μ ts vs → Rels K H μ (ts.drop n) (vs.drop n)
  | _, _, 0, h => by simpa using h
  | [], _, n + 1, h => by simp only [Rels] at h; subst h; simp only [List.drop_nil, Rels]
  | t :: ts, _, n + 1, h => by
    simp only [Rels] at h
    obtain ⟨v, r, rfl, h1, h2⟩ := h
    simp only [List.drop_succ_cons]
    exact Rels.drop n h2
theorem Rels.set : ∀ {ts : List T} {vs : List V} {t : T} {v : V} (n : Nat), Rels K H μ ts vs → Rel K H μ t v → Rels K H μ (ts.set n t) (vs.set n v)
  | [], _, _, _, n, h, _ => by simp only [Rels] at h; subst h; simp only [List.set_nil, Rels]
  | t :: ts, _, u, w, 0, h, g => by
    simp only [Rels] at h
    obtain ⟨v, r, rfl, h1, h2⟩ := h
    simp only [List.set_cons_zero, Rels]
    exact ⟨w, r, rfl, g, h2⟩
  | t :: ts, _, u, w, n + 1, h, g => by
    simp only [Rels] at h
    obtain ⟨v, r, rfl, h1, h2⟩ := h
    simp only [List.set_cons_succ, Rels]
    exact ⟨v, _, rfl, h1, Rels.set n h2 g⟩
end

/-! ### names, constants -/
def fVar (i : Nat) : FE := fun τ S => match τ[i]? with
  | some (some t) => .ok t S
  | _ => .stuck
def fC (t : T) : FE := fun _ S => .ok t S
section
variable {X : Cx} {wx : WT} {pos : Pos}
theorem pf_var (i : Nat) {x : Str} (hN : X.N[i]? = some x := by rfl) (hv : Vis X.env.scope x := by first | exact Or.inl rfl | exact Or.inr (Or.inl rfl) | exact Or.inr (Or.inr rfl)) (hd : (x == ("__debug__" : Str)) = false := by decide)
    (hcd : (x == ("__classdict__" : Str)) = false := by decide) : PF X wx (.Name x pos) (fVar i) := by
  refine PE.imp (pe_var (i := i) hN hv hd hcd) fun σ H Q h => ?_
  obtain ⟨μ, τ, S, s, f, h⟩ := h
  unfold fVar at h
  split at h
  · rename_i t e
    obtain ⟨v, e1, r⟩ := f.2 i t e
    exact ⟨v, e1, h.here s r⟩
  · exact h.elim
theorem pf_c {e : Expr} {v : V} {t : T} (h : PE X e (tC v)) (r : ∀ H μ, Rel X.K H μ t v) : PF X wx e (fC t) := PE.imp h fun σ H Q ⟨μ, τ, S, s, f, q⟩ => q.here s (r H μ)
theorem pf_int {i j} : PF X wx (.Constant (.int i) j pos) (fC (.int i)) := pf_c pe_int fun _ _ => by simp only [Rel]
theorem pf_bl {i j} : PF X wx (.Constant (.bool i) j pos) (fC (.bl i)) := pf_c pe_bl fun _ _ => by simp only [Rel]
theorem pf_non {j} : PF X wx (.Constant .none j pos) (fC .non) := pf_c pe_non fun _ _ => by simp only [Rel]
theorem pf_str {x j} : PF X wx (.Constant (.str x) j pos) (fC (.str x)) := pf_c pe_str fun _ _ => by simp only [Rel]
/-- a module's int or text -/
theorem pf_globI {x : Str} {i : Int} {t : Tok} (hm : X.mg x = some (.int i t)) (hg : Gl X x := by rfl) (hd : (x == ("__debug__" : Str)) = false := by decide) : PF X wx (.Name x pos) (fC (.int i)) := pf_c (pe_glob hg hm (v := .int i) ⟨t, rfl⟩ hd) fun _ _ => by simp only [Rel]
theorem pf_globS {x y : Str} {t : Tok} (hm : X.mg x = some (.str y t)) (hg : Gl X x := by rfl) (hd : (x == ("__debug__" : Str)) = false := by decide) : PF X wx (.Name x pos) (fC (.str y)) := pf_c (pe_glob hg hm (v := .str y) ⟨t, rfl⟩ hd) fun _ _ => by simp only [Rel]
theorem pf_globR {x : Str} {a : Addr} (hm : X.mg x = some (.ref a)) (hg : Gl X x := by rfl) (hd : (x == ("__debug__" : Str)) = false := by decide) : PF X wx (.Name x pos) (fC (.val (.ref a))) := pf_c (pe_glob hg hm (v := .ref a) rfl hd) fun _ _ => by simp only [Rel]
/-- a builtin type's name -/
theorem pf_ty {x : Str} {n : String} (hm : X.mg x = none) (hv : bootBuiltins x = some (.type n)) (hg : Gl X x := by rfl) (hn : x ≠ "__name__" := by decide) (hd : (x == ("__debug__" : Str)) = false := by decide) : PF X wx (.Name x pos) (fC (.val (.ty n))) := pf_c (pe_bltn hg hm hv (v := .ty n) rfl hn hd) fun _ _ => by simp only [Rel]

/-! ### operations that give a tree and leave the cells -/
def ofO {α : Type} (o : Option α) (S : Sto) : Res α := match o with
  | some t => .ok t S
  | none => .stuck
theorem post_ofO {α β : Type} {K : PySem.W.Frag} {wx : XW} {rel : RL α β} {μ : Mu} {H : Hp} {o : Option α} {S : Sto} {Q : β → Hp → Prop} (h : post K wx rel μ H (ofO o S) Q) (s : RelS K H μ S) :
    ∃ t, o = some t ∧ ∀ v H', Same H H' → rel H' μ t v → Q v H' := by
  cases o with
  | none => exact h.elim
  | some t => exact ⟨t, rfl, fun v H' sm r => h μ v H' (Ext.of_same sm) (s.same sm) r⟩
def rP (K : PySem.W.Frag) (g : Sto → T → T → Option T) : R2 := fun x y H Q => ∃ μ S tx ty t, RelS K H μ S ∧ Rel K H μ tx x ∧ Rel K H μ ty y ∧ g S tx ty = some t ∧ ∀ v H', Same H H' → Rel K H' μ t v → Q v H'
def rU1 (K : PySem.W.Frag) (g : Sto → T → Option T) : V → Hp → VK → Prop := fun x H Q => ∃ μ S tx t, RelS K H μ S ∧ Rel K H μ tx x ∧ g S tx = some t ∧ ∀ v H', Same H H' → Rel K H' μ t v → Q v H'
def rN (K : PySem.W.Frag) (g : Sto → List T → Option T) : List V → Hp → VK → Prop := fun xs H Q => ∃ μ S ts t, RelS K H μ S ∧ Rels K H μ ts xs ∧ g S ts = some t ∧ ∀ v H', Same H H' → Rel K H' μ t v → Q v H'
def fBin (g : Sto → T → T → Option T) (Fa Fb : FE) : FE := fun τ S => (Fa τ S).bind fun x S1 => (Fb τ S1).bind fun y S2 => ofO (g S2 x y) S2
def fUn (g : Sto → T → Option T) (Fa : FE) : FE := fun τ S => (Fa τ S).bind fun x S1 => ofO (g S1 x) S1
def fTest (F : FE) : FT := fun τ S => (F τ S).bind fun x S1 => match x with
  | .bl b => .ok b S1
  | _ => .stuck
variable {a b c : Expr} {Fa Fb Fc : FE} {g : Sto → T → T → Option T}
theorem bin_imp {σ : St} {H : Hp} {Q : VK} (h : tG X.K wx (rV X.K) (fBin g Fa Fb) σ H Q) : tOp (rP X.K g) (tG X.K wx (rV X.K) Fa) (tG X.K wx (rV X.K) Fb) σ H Q := by
  obtain ⟨μ, τ, S, s, f, h⟩ := h
  refine tG.seq s f h fun μ1 H1 x v S1 A1 h1 => tG.seq A1.st A1.fr h1 fun μ2 H2 y u S2 A2 h2 => ?_
  obtain ⟨t, e, q⟩ := post_ofO h2 A2.st
  exact ⟨μ2, S2, x, y, t, A2.st, Rel.mono A2.ext x A1.rel, A2.rel, e, q⟩
theorem test_imp {F : FE} {σ : St} {H : Hp} {Q : Bool → Hp → Prop} (h : tG X.K wx rB (fTest F) σ H Q) : tTest (tG X.K wx (rV X.K) F) σ H Q := by
  obtain ⟨μ, τ, S, s, f, h⟩ := h
  refine tG.seq s f h fun μ1 H1 x v S1 A1 h1 => ?_
  cases x with
  | bl k =>
    have r := A1.rel
    simp only [Rel] at r
    exact ⟨k, r, h1.here A1.st rfl⟩
  | _ => exact h1.elim
theorem pf_bin {op : Operator} (ho : OpR X (binaryOp op) (rP X.K g)) (ha : PF X wx a Fa) (hb : PF X wx b Fb) : PF X wx (.BinOp a op b pos) (fBin g Fa Fb) := PE.imp (pe_op ho ha hb) fun _ _ _ h => bin_imp h
theorem pf_cmp {op : CmpOp} (ho : OpR X (compareOp op) (rP X.K g)) (ha : PF X wx a Fa) (hb : PF X wx b Fb) (hm : behindInMarks op b = false := by with_unfolding_all rfl) : PF X wx (.Compare a [op] [b] pos) (fBin g Fa Fb) := PE.imp (pe_cmpR ho ha hb hm) fun _ _ _ h => bin_imp h
theorem pft_cmp {op : CmpOp} (ho : OpR X (compareOp op) (rP X.K g)) (ha : PF X wx a Fa) (hb : PF X wx b Fb) (hm : behindInMarks op b = false := by with_unfolding_all rfl) : PFT X wx (.Compare a [op] [b] pos) (fTest (fBin g Fa Fb)) :=
  PT.imp (pt_cmpR ho ha hb hm) fun σ H Q h => by
    have h1 := test_imp h
    exact bin_imp h1
theorem pf_un {op : UnaryOp} {g : Sto → T → Option T} (ho : UnR X (unaryOp op) (rU1 X.K g)) (ha : PF X wx a Fa) : PF X wx (.UnaryOp op a pos) (fUn g Fa) := PE.imp (pe_un ho ha) fun σ H Q h => by
  obtain ⟨μ, τ, S, s, f, h⟩ := h
  refine tG.seq s f h fun μ1 H1 x v S1 A1 h1 => ?_
  obtain ⟨t, e, q⟩ := post_ofO h1 A1.st
  exact ⟨μ1, S1, x, t, A1.st, A1.rel, e, q⟩
def fChain (g g' : Sto → T → T → Option T) (Fa Fb Fc : FE) : FE := fun τ S => (Fa τ S).bind fun x S1 => (Fb τ S1).bind fun y S2 => match g S2 x y with
  | some (.bl true) => (Fc τ S2).bind fun z S3 => ofO (g' S3 y z) S3
  | some (.bl false) => .ok (.bl false) S2
  | _ => .stuck
theorem chain_imp {g' : Sto → T → T → Option T} {σ : St} {H : Hp} {Q : VK} (h : tG X.K wx (rV X.K) (fChain g g' Fa Fb Fc) σ H Q) : tChain (rP X.K g) (rP X.K g') (tG X.K wx (rV X.K) Fa) (tG X.K wx (rV X.K) Fb) (tG X.K wx (rV X.K) Fc) σ H Q := by
  obtain ⟨μ, τ, S, s, f, h⟩ := h
  refine tG.seq s f h fun μ1 H1 x v S1 A1 h1 => tG.seq A1.st A1.fr h1 fun μ2 H2 y u S2 A2 h2 => ?_
  cases e : g S2 x y with
  | none => simp only [e] at h2; exact h2.elim
  | some t =>
    cases t with
    | bl k =>
      refine ⟨μ2, S2, x, y, .bl k, A2.st, Rel.mono A2.ext x A1.rel, A2.rel, e, fun v' H' sm r => ?_⟩
      simp only [Rel] at r
      refine ⟨k, r, ?_⟩
      have E := Ext.of_same (μ := μ2) sm
      cases k with
      | false =>
        simp only [e] at h2
        exact iteF (h2 μ2 _ H' E (A2.st.same sm) (by simp only [Rel]))
      | true =>
        simp only [e] at h2
        refine iteT (tG.seq (A2.st.same sm) (A2.fr.mono E) (h2.shift E) fun μ3 H3 z w' S3 A3 h3 => ?_)
        obtain ⟨t, e3, q⟩ := post_ofO h3 A3.st
        exact ⟨μ3, S3, y, z, t, A3.st, Rel.mono A3.ext y (Rel.mono E y A2.rel), A3.rel, e3, q⟩
    | _ => simp only [e] at h2; exact h2.elim
theorem pf_chain {op op' : CmpOp} {g' : Sto → T → T → Option T} (ho : OpR X (compareOp op) (rP X.K g)) (ho' : OpR X (compareOp op') (rP X.K g')) (ha : PF X wx a Fa) (hb : PF X wx b Fb) (hc : PF X wx c Fc) (hm : lastMarks [op, op'] [b, c] = false := by with_unfolding_all rfl) :
    PF X wx (.Compare a [op, op'] [b, c] pos) (fChain g g' Fa Fb Fc) := PE.imp (pe_chain ho ho' ha hb hc hm) fun _ _ _ h => chain_imp h
theorem pft_chain {op op' : CmpOp} {g' : Sto → T → T → Option T} (ho : OpR X (compareOp op) (rP X.K g)) (ho' : OpR X (compareOp op') (rP X.K g')) (ha : PF X wx a Fa) (hb : PF X wx b Fb) (hc : PF X wx c Fc) (hm : lastMarks [op, op'] [b, c] = false := by with_unfolding_all rfl) :
    PFT X wx (.Compare a [op, op'] [b, c] pos) (fTest (fChain g g' Fa Fb Fc)) := PT.imp (pt_chain ho ho' ha hb hc hm) fun σ H Q h => by
  have h1 := test_imp h
  exact chain_imp h1
end

/-! ### truth -/
def truT (S : Sto) : T → Option Bool
  | .non => some false
  | .bl b => some b
  | .int i => some (i != 0)
  | .str x => if x.length ≤ sizeLine then some ((x.length : Int) != 0) else none
  | .tup ts => some !ts.isEmpty
  | .lst ts => some !ts.isEmpty
  | .sls ts => some !ts.isEmpty
  | .dct ks _ => some !ks.isEmpty
  | .ref n => match S[n]? with
    | some (.lst ts) => some !ts.isEmpty
    | some (.dct ks _) => some !ks.isEmpty
    | _ => none
  | .val _ => none
theorem isEmpty_of_length {α β : Type} {xs : List α} {ys : List β} (h : xs.length = ys.length) : xs.isEmpty = ys.isEmpty := by
  cases xs <;> cases ys <;> simp_all
section
variable {X : Cx} {wx : WT} {pos : Pos}
theorem truT_ok {K : PySem.W.Frag} {H : Hp} {μ : Mu} {S : Sto} {t : T} {v : V} {k : Bool} (e : truT S t = some k) (s : RelS K H μ S) (r : Rel K H μ t v) : TruV K v H k := by
  have lst : ∀ {ts : List T}, seqL S t = some ts → k = !ts.isEmpty → TruV K v H k := fun {ts} e1 e2 => by
    obtain ⟨a, vs, rfl, h, q⟩ := seqL_ok e1 s r
    exact .inl ⟨vs, h, by rw [e2, isEmpty_of_length q.length]⟩
  have dct : ∀ {ks : List Key} {ts : List T}, dctT S t = some (ks, ts) → k = !ks.isEmpty → TruV K v H k := fun {ks ts} e1 e2 => by
    obtain ⟨a, kvs, rfl, h, q, _⟩ := dctT_ok e1 s r
    exact .inr (.inr ⟨kvs, h, by rw [e2, ← q, isEmpty_of_length (List.length_map _)]⟩)
  cases t with
  | non => simp only [Rel] at r; simp only [truT] at e; cases e; subst r; rfl
  | bl b => simp only [Rel] at r; simp only [truT] at e; cases e; subst r; rfl
  | int i => simp only [Rel] at r; simp only [truT] at e; cases e; subst r; rfl
  | str x =>
    simp only [Rel] at r; simp only [truT] at e
    split at e
    · rename_i h
      cases e; subst r; exact ⟨h, rfl⟩
    · cases e
  | tup ts =>
    simp only [truT] at e
    cases e
    obtain ⟨a, vs, rfl, h, q⟩ := tup_ok r
    exact .inr (.inl ⟨vs, h, by rw [isEmpty_of_length q.length]⟩)
  | lst ts => simp only [truT] at e; cases e; exact lst rfl rfl
  | sls ts => simp only [truT] at e; cases e; exact lst rfl rfl
  | dct ks ts => simp only [truT] at e; cases e; exact dct rfl rfl
  | ref n =>
    simp only [truT] at e
    split at e
    · rename_i ts e1
      cases e; exact lst (by simp only [seqL, e1]) rfl
    · rename_i ks ts e1
      cases e; exact dct (ts := ts) (by simp only [dctT, e1]) rfl
    · cases e
  | val u => simp only [truT] at e; cases e
variable {a b c : Expr} {Fa Fb Fc : FE}
def fTru (F : FE) : FT := fun τ S => (F τ S).bind fun x S1 => ofO (truT S1 x) S1
theorem pft_val (ha : PF X wx a Fa) (he : ∀ whole, isTrue a X.env whole = (do let v ← whole; standAt a.pos; holding [v] (truthy v)) := by intro _; rfl) : PFT X wx a (fTru Fa) := PT.imp (pt_truth ha he) fun σ H Q h => by
  obtain ⟨μ, τ, S, s, f, h⟩ := h
  refine tG.seq s f h fun μ1 H1 x v S1 A1 h1 => ?_
  obtain ⟨k, e, q⟩ := post_ofO h1 A1.st
  exact ⟨k, truT_ok e A1.st A1.rel, q k H1 (Same.refl _) rfl⟩
def fNotT (F : FT) : FT := fun τ S => (F τ S).bind fun b S1 => .ok (!b) S1
theorem pft_not {F : FT} (ha : PFT X wx a F) : PFT X wx (.UnaryOp .Not a pos) (fNotT F) := PT.imp (pt_not ha) fun σ H Q h => by
  obtain ⟨μ, τ, S, s, f, h⟩ := h
  refine tG.seq s f h fun μ1 H1 x v S1 A1 h1 => ?_
  have r : x = v := A1.rel
  subst r
  exact h1.here A1.st rfl
def fAndT (F G : FT) : FT := fun τ S => (F τ S).bind fun b S1 => match b with
  | true => G τ S1
  | false => .ok false S1
def fOrT (F G : FT) : FT := fun τ S => (F τ S).bind fun b S1 => match b with
  | false => G τ S1
  | true => .ok true S1
/-- a written row of and, or, as a test -/
def PFW (X : Cx) (wx : WT) (e : Expr) (F : FT) : Prop := PW X e (tG X.K wx rB F)
theorem PW.imp {X : Cx} {e : Expr} {t t' : TT} (h : PW X e t) (i : ∀ σ H Q, t' σ H Q → t σ H Q) : PW X e t' := ⟨fun w pins s σ H Q I q => h.run w pins s σ H Q I (i σ H Q q)⟩
variable {F G : FT} {rest : List Expr}
theorem pfw_pt (h : PFW X wx a F) : PFT X wx a F := L2.PW.pt h
theorem pfw_and1 (ha : PFT X wx a F) : PFW X wx (.BoolOp .And [a] pos) F := pw_and1 ha
theorem pfw_or1 (ha : PFT X wx a F) : PFW X wx (.BoolOp .Or [a] pos) F := pw_or1 ha
theorem pfw_and (ha : PFT X wx a F) (hb : PFW X wx (.BoolOp .And (b :: rest) pos) G) : PFW X wx (.BoolOp .And (a :: b :: rest) pos) (fAndT F G) := PW.imp (pw_and ha hb) fun σ H Q h => by
  obtain ⟨μ, τ, S, s, f, h⟩ := h
  refine tG.seq s f h fun μ1 H1 x v S1 A1 h1 => ?_
  have r : x = v := A1.rel
  subst r
  cases x with
  | true => exact iteT ⟨μ1, τ, S1, A1.st, A1.fr, h1⟩
  | false => exact iteF (h1.here A1.st rfl)
theorem pfw_or (ha : PFT X wx a F) (hb : PFW X wx (.BoolOp .Or (b :: rest) pos) G) : PFW X wx (.BoolOp .Or (a :: b :: rest) pos) (fOrT F G) := PW.imp (pw_or ha hb) fun σ H Q h => by
  obtain ⟨μ, τ, S, s, f, h⟩ := h
  refine tG.seq s f h fun μ1 H1 x v S1 A1 h1 => ?_
  have r : x = v := A1.rel
  subst r
  cases x with
  | false => exact iteF ⟨μ1, τ, S1, A1.st, A1.fr, h1⟩
  | true => exact iteT (h1.here A1.st rfl)
/-! .. as values -/
def fAnd (Fa Fb : FE) : FE := fun τ S => (Fa τ S).bind fun x S1 => match truT S1 x with
  | some true => Fb τ S1
  | some false => .ok x S1
  | none => .stuck
def fOr (Fa Fb : FE) : FE := fun τ S => (Fa τ S).bind fun x S1 => match truT S1 x with
  | some false => Fb τ S1
  | some true => .ok x S1
  | none => .stuck
def fNot (Fa : FE) : FE := fun τ S => (Fa τ S).bind fun x S1 => match truT S1 x with
  | some k => .ok (.bl !k) S1
  | none => .stuck
theorem pf_one {op} (h : PF X wx a Fa) : PF X wx (.BoolOp op [a] pos) Fa := pe_one h
theorem pf_and (ha : PF X wx a Fa) (hb : PF X wx (.BoolOp .And (b :: rest) pos) Fb) : PF X wx (.BoolOp .And (a :: b :: rest) pos) (fAnd Fa Fb) := PE.imp (pe_andT ha hb) fun σ H Q h => by
  obtain ⟨μ, τ, S, s, f, h⟩ := h
  refine tG.seq s f h fun μ1 H1 x v S1 A1 h1 => ?_
  cases e : truT S1 x with
  | none => simp only [e] at h1; exact h1.elim
  | some k =>
    refine ⟨k, truT_ok e A1.st A1.rel, ?_⟩
    cases k with
    | true => simp only [e] at h1; exact iteT ⟨μ1, τ, S1, A1.st, A1.fr, h1⟩
    | false => simp only [e] at h1; exact iteF (h1.here A1.st A1.rel)
theorem pf_or (ha : PF X wx a Fa) (hb : PF X wx (.BoolOp .Or (b :: rest) pos) Fb) : PF X wx (.BoolOp .Or (a :: b :: rest) pos) (fOr Fa Fb) := PE.imp (pe_orT ha hb) fun σ H Q h => by
  obtain ⟨μ, τ, S, s, f, h⟩ := h
  refine tG.seq s f h fun μ1 H1 x v S1 A1 h1 => ?_
  cases e : truT S1 x with
  | none => simp only [e] at h1; exact h1.elim
  | some k =>
    refine ⟨k, truT_ok e A1.st A1.rel, ?_⟩
    cases k with
    | false => simp only [e] at h1; exact iteF ⟨μ1, τ, S1, A1.st, A1.fr, h1⟩
    | true => simp only [e] at h1; exact iteT (h1.here A1.st A1.rel)
theorem pf_not (ha : PF X wx a Fa) : PF X wx (.UnaryOp .Not a pos) (fNot Fa) := PE.imp (pe_notT ha) fun σ H Q h => by
  obtain ⟨μ, τ, S, s, f, h⟩ := h
  refine tG.seq s f h fun μ1 H1 x v S1 A1 h1 => ?_
  cases e : truT S1 x with
  | none => simp only [e] at h1; exact h1.elim
  | some k =>
    simp only [e] at h1
    exact ⟨k, truT_ok e A1.st A1.rel, h1.here A1.st (by simp only [Rel])⟩
def fIf (F : FT) (Fa Fb : FE) : FE := fun τ S => (F τ S).bind fun k S1 => match k with
  | true => Fa τ S1
  | false => Fb τ S1
theorem pf_if (hc : PFT X wx c F) (ha : PF X wx a Fa) (hb : PF X wx b Fb) : PF X wx (.IfExp c a b pos) (fIf F Fa Fb) := PE.imp (pe_ifExp hc ha hb) fun σ H Q h => by
  obtain ⟨μ, τ, S, s, f, h⟩ := h
  refine tG.seq s f h fun μ1 H1 x v S1 A1 h1 => ?_
  have r : x = v := A1.rel
  subst r
  cases x with
  | true => exact iteT ⟨μ1, τ, S1, A1.st, A1.fr, h1⟩
  | false => exact iteF ⟨μ1, τ, S1, A1.st, A1.fr, h1⟩

/-! ### arguments, displays -/
def fNil : FA := fun _ S => .ok [] S
def fCons (F : FE) (Fs : FA) : FA := fun τ S => (F τ S).bind fun x S1 => (Fs τ S1).bind fun xs S2 => .ok (x :: xs) S2
theorem pfa_nil : PFA X wx [] fNil := PA.imp pa_nil fun σ H Q ⟨μ, τ, S, s, f, h⟩ => h.here s (by simp only [Rels])
theorem pfa_cons {es : List Expr} {Fs : FA} (ha : PF X wx a Fa) (hr : PFA X wx es Fs) (hs : starEach (a :: es) X.env = (false, eval a X.env) :: starEach es X.env := by rfl) : PFA X wx (a :: es) (fCons Fa Fs) := PA.imp (pa_cons ha hr hs) fun σ H Q h => by
  obtain ⟨μ, τ, S, s, f, h⟩ := h
  refine tG.seq s f h fun μ1 H1 x v S1 A1 h1 => tG.seq A1.st A1.fr h1 fun μ2 H2 y u S2 A2 h2 => ?_
  refine h2.here A2.st ?_
  simp only [Rels]
  exact ⟨v, u, rfl, Rel.mono A2.ext x A1.rel, A2.rel⟩
theorem fresh_same {H : Hp} {p : Addr} {o : HO} (h : H p = none) : Same H (upd H p o) := fun b x e => by
  rw [upd_ne (ne_of_none e h)]
  exact e
theorem RelS.free {K : PySem.W.Frag} {H : Hp} {μ : Mu} {S : Sto} (s : RelS K H μ S) {p : Addr} (h : H p = none) : μ.out p := ⟨fun hp => by
  obtain ⟨n, hn, e⟩ := List.mem_iff_getElem.mp hp
  have e1 : μ.c[n]? = some p := by rw [List.getElem?_eq_getElem hn, e]
  have hn' : n < S.length := by rw [← s.len]; exact hn
  have q := s.cell n S[n] p (List.getElem?_eq_getElem hn') e1
  cases ec : S[n] with
  | lst ts => rw [ec] at q; obtain ⟨vs, e, _⟩ := q; rw [h] at e; cases e
  | dct ks ts => rw [ec] at q; obtain ⟨vs, e, _⟩ := q; rw [h] at e; cases e
  | _ => rw [ec] at q; exact q, fun hp => s.live p hp h⟩
/-- a new thing that is no cell -/
theorem Fx.new {K : PySem.W.Frag} {H : Hp} {μ : Mu} {S : Sto} (s : RelS K H μ S) {p : Addr} {o : HO} (h : H p = none) : Fx (upd H p o) μ p o := ⟨upd_same, s.free h⟩
theorem rel_tup {K : PySem.W.Frag} {H : Hp} {μ : Mu} {S : Sto} {ts : List T} {vs : List V} (s : RelS K H μ S) {p : Addr} (h : H p = none) (r : Rels K H μ ts vs) : Rel K (upd H p (.tup vs)) μ (.tup ts) (.ref p) := by
  simp only [Rel]
  exact ⟨p, vs, rfl, .inl ⟨.inl upd_same, s.free h⟩, Rels.mono (Ext.of_same (fresh_same h)) ts r⟩
theorem rel_lst {K : PySem.W.Frag} {H : Hp} {μ : Mu} {S : Sto} {ts : List T} {vs : List V} (s : RelS K H μ S) {p : Addr} (h : H p = none) (r : Rels K H μ ts vs) : Rel K (upd H p (.lst vs)) μ (.lst ts) (.ref p) := by
  simp only [Rel]
  exact ⟨p, vs, rfl, Fx.new s h, Rels.mono (Ext.of_same (fresh_same h)) ts r⟩
def fTup (Fs : FA) : FE := fun τ S => (Fs τ S).bind fun ts S1 => if ts.length ≤ sizeLine then .ok (.tup ts) S1 else .stuck
def fLst (Fs : FA) : FE := fun τ S => (Fs τ S).bind fun ts S1 => if ts.length ≤ sizeLine then .ok (.lst ts) S1 else .stuck
variable {es : List Expr} {Fs : FA}
theorem pf_tup {k} (h : PFA X wx es Fs) : PF X wx (.Tuple es k pos) (fTup Fs) := PE.imp (pe_tup h) fun σ H Q h => by
  obtain ⟨μ, τ, S, s, f, h⟩ := h
  refine tG.seq s f h fun μ1 H1 x v S1 A1 h1 => ?_
  have r := A1.rel
  by_cases hl : x.length ≤ sizeLine
  · rw [if_pos hl] at h1
    exact ⟨by rw [← Rels.length r]; exact hl, fun p hp => h1 μ1 _ _ (Ext.of_same (fresh_same hp)) (A1.st.same (fresh_same hp)) (rel_tup A1.st hp r)⟩
  · rw [if_neg hl] at h1; exact h1.elim
theorem pf_lst (h : PFA X wx es Fs) : PF X wx (.List es pos) (fLst Fs) := PE.imp (pe_lst h) fun σ H Q h => by
  obtain ⟨μ, τ, S, s, f, h⟩ := h
  refine tG.seq s f h fun μ1 H1 x v S1 A1 h1 => ?_
  have r := A1.rel
  by_cases hl : x.length ≤ sizeLine
  · rw [if_pos hl] at h1
    exact ⟨by rw [← Rels.length r]; exact hl, fun p hp => h1 μ1 _ _ (Ext.of_same (fresh_same hp)) (A1.st.same (fresh_same hp)) (rel_lst A1.st hp r)⟩
  · rw [if_neg hl] at h1; exact h1.elim
/-! a pure list or dict becomes a cell: it is the only holder of it that goes on -/
def toCell (S : Sto) : T → Option (T × Sto)
  | .lst ts => some (.ref S.length, S ++ [.lst ts])
  | .dct ks ts => some (.ref S.length, S ++ [.dct ks ts])
  | _ => none
end
end TL
set_option Elab.async false
set_option linter.all false
set_option maxRecDepth 100000
namespace TL
open PySem PySem.Spec L2
open PyProof.Rows hiding St
/-! ### calls -/
def Res.nox {α : Type} : Res α → Res α
  | .exc _ _ => .stuck
  | .ok a S => .ok a S
  | .stuck => .stuck
def xF : XW := fun _ _ _ _ => False
abbrev FF := List T → Sto → Res T
theorem post.nox {α β : Type} {K : PySem.W.Frag} {wx wx' : XW} {rel : RL α β} {μ : Mu} {H : Hp} {r : Res α} {Q : β → Hp → Prop} (h : post K wx rel μ H r.nox Q) : post K wx' rel μ H r Q := by
  cases r with
  | ok t S => exact h
  | exc x S => exact h.elim
  | stuck => exact h
/-- what a def promises, from a function on trees -/
def spT (K : PySem.W.Frag) (F : FF) : Sp := fun vs H Q _ => ∃ μ S ts, RelS K H μ S ∧ Rels K H μ ts vs ∧ post K xF (rV K) μ H (F ts S) Q
/-- a def that keeps such a promise where no repr is under way, at most k calls deep -/
structure Df (P : Program) (w : World) (K : PySem.W.Frag) (mg : Str → Option Value) (base : Heap) (k : Nat) (f : Addr) (fd : FuncData) (ps : List Str) (F : FF) : Prop where
  arity : ∀ ts S, ts.length ≠ ps.length → F ts S = .stuck
  go : ∀ (A : Around) (fs : List Env) (s : Shared) (H : Hp) (given : Args) (us : List Value) (vs : List V) (Q : VK), Room k A → A.guards = some [] → Env0 P w K mg base A fs s H →
    BindsTo s fd given (ps.zip us) → Vals vs us → spT K F vs H Q E0 → codeAny (model P w) A (.call (.ref f) given) (CR CX0 fs P w H s Q E0) s
theorem Df.mono {P : Program} {w : World} {K : PySem.W.Frag} {mg : Str → Option Value} {base : Heap} {j k : Nat} {f : Addr} {fd : FuncData} {ps : List Str} {F : FF} (D : Df P w K mg base j f fd ps F) (h : j ≤ k) : Df P w K mg base k f fd ps F :=
  ⟨D.arity, fun A fs s H given us vs Q r => D.go A fs s H given us vs Q (r.mono h)⟩
theorem Df.eq {P : Program} {w : World} {K : PySem.W.Frag} {mg : Str → Option Value} {base : Heap} {k : Nat} {f : Addr} {fd : FuncData} {ps : List Str} {F G : FF} (D : Df P w K mg base k f fd ps F) (h : ∀ ts S, F ts S = G ts S) : Df P w K mg base k f fd ps G := by
  have e : F = G := funext fun ts => funext fun S => h ts S
  rw [← e]; exact D
theorem spT_len {P : Program} {w : World} {K : PySem.W.Frag} {mg : Str → Option Value} {base : Heap} {k : Nat} {f : Addr} {fd : FuncData} {ps : List Str} {F : FF} (D : Df P w K mg base k f fd ps F) {vs : List V} {H : Hp} {Q : VK} {E : XK} (h : spT K F vs H Q E) : vs.length = ps.length := by
  obtain ⟨μ, S, ts, _, r, h⟩ := h
  rw [← r.length]
  by_cases e : ts.length = ps.length
  · exact e
  · rw [D.arity ts S e] at h
    exact h.elim
/-- a call of it, in a body -/
theorem Df.call {X : Cx} {k : Nat} {f : Addr} {fd : FuncData} {ps : List Str} {F : FF} (D : Df X.prog X.w X.K X.mg X.base k f fd ps F) (hr : Room k X.A) (hgd : X.A.guards = some []) (hb : L2.Binds X.K fd ps []) {pins : List (Addr × Obj)} {σ : L2.St} {H : Hp} {s : Shared} {Q : VK} {us : List Value} {vs : List V}
    (I : L2.Inv X pins σ H s) (r : Vals vs us) (h : spT X.K F vs H Q E0) : wpAny (model X.prog X.w) X.A (call (.ref f) us) (EP X pins σ Q) X.xe s := by
  have n : (us ++ []).length = ps.length := by
    rw [List.append_nil, ← r.length]
    exact spT_len D h
  have bd := hb s us I.kIn n
  rw [List.append_nil] at bd
  refine wpAny_call (codeAny_mono (D.go X.A X.stack s H _ us vs Q hr hgd I.env0 bd r h) fun out s' hq => ?_)
  match out, hq with
  | .ok (.ret u), hq => exact I.after hq
def fCall (F : FF) (Fs : FA) : FE := fun τ S => (Fs τ S).bind fun ts S1 => (F ts S1).nox
section
variable {X : Cx} {wx : WT} {pos : Pos} {k : Nat} {f : Addr} {fd : FuncData} {ps : List Str} {F : FF} {x : Str} {p : Pos} {e : Expr} {es : List Expr} {Fs : FA}
theorem pf_call (D : Df X.prog X.w X.K X.mg X.base k f fd ps F) (hr : Room k X.A) (hgd : X.A.guards = some []) (hm : X.mg x = some (.ref f)) (hk : PySem.W.keepIn X.K (.ref f) = true) (hb : L2.Binds X.K fd ps []) (ha : PFA X wx (e :: es) Fs)
    (hg : Gl X x := by rfl) (hdb : (x == ("__debug__" : Str)) = false := by decide) (he : starEach (e :: es) X.env = (false, eval e X.env) :: starEach es X.env := by rfl) (hpl : (backTo pos (starEach es X.env)).any (·.1) = false := by rfl) :
    PF X wx (.Call (.Name x p) (e :: es) [] pos) (fCall F Fs) := by
  have go : PE X (.Call (.Name x p) (e :: es) [] pos) (fun σ H Q => tG X.K wx (rVs X.K) Fs σ H fun vs H1 => spT X.K F vs H1 Q E0) := ⟨fun pins s σ H Q I h => by
    refine wpAny_Call_Name_kw (ld_glob I hg hm ?_ hdb)
    refine PySem.W.callWith_K (h₀ := X.base) I.ok.mod.kin hk (thn (ha.run pos pins s σ H _ I h) fun us s1 h1 => ?_) he hpl
    obtain ⟨vs, H1, I1, r, q⟩ := h1
    exact ⟨I1.kIn, D.call hr hgd hb I1 r q⟩⟩
  refine PE.imp go fun σ H Q h => ?_
  obtain ⟨μ, τ, S, s, fr, h⟩ := h
  exact tG.seq s fr h fun μ1 H1 ts vs S1 A1 h1 => ⟨μ1, S1, ts, A1.st, A1.rel, h1.nox⟩
theorem pf_call0 (D : Df X.prog X.w X.K X.mg X.base k f fd ps F) (hr : Room k X.A) (hgd : X.A.guards = some []) (hm : X.mg x = some (.ref f)) (hk : PySem.W.keepIn X.K (.ref f) = true) (hb : L2.Binds X.K fd ps [])
    (hg : Gl X x := by rfl) (hdb : (x == ("__debug__" : Str)) = false := by decide) : PF X wx (.Call (.Name x p) [] [] pos) (fCall F fNil) := by
  have go : PE X (.Call (.Name x p) [] [] pos) (fun _ H Q => spT X.K F [] H Q E0) := ⟨fun pins s σ H Q I h => by
    refine wpAny_Call_Name_kw (ld_glob I hg hm ?_ hdb)
    exact PySem.W.callWith_K0 I.kIn hk (D.call hr hgd hb I .nil h)⟩
  refine PE.imp go fun σ H Q h => ?_
  obtain ⟨μ, τ, S, s, fr, h⟩ := h
  exact ⟨μ, S, [], s, by simp only [Rels], post.nox (show post X.K (wx.fr τ σ) (rV X.K) μ H (F [] S).nox Q from h)⟩
/-! built-in functions -/
def fBlt (g : Sto → List T → Option T) (Fs : FA) : FE := fun τ S => (Fs τ S).bind fun ts S1 => ofO (g S1 ts) S1
variable {g : Sto → List T → Option T} {id : String}
theorem blt_imp {σ : St} {H : Hp} {Q : VK} (h : tG X.K wx (rV X.K) (fBlt g Fs) σ H Q) : tCB (rN X.K g) (tG X.K wx (rVs X.K) Fs) σ H Q := by
  obtain ⟨μ, τ, S, s, fr, h⟩ := h
  refine tG.seq s fr h fun μ1 H1 ts vs S1 A1 h1 => ?_
  obtain ⟨t, e, q⟩ := post_ofO h1 A1.st
  exact ⟨μ1, S1, ts, t, A1.st, A1.rel, e, q⟩
theorem pf_blt (hc : CallR X (.builtin id) (rN X.K g)) (hm : X.mg x = none) (hv : bootBuiltins x = some (.builtin id)) (ha : PFA X wx (e :: es) Fs) (hg : Gl X x := by rfl) (hn : x ≠ "__name__" := by decide) (hdb : (x == ("__debug__" : Str)) = false := by decide)
    (he : starEach (e :: es) X.env = (false, eval e X.env) :: starEach es X.env := by rfl) (hpl : (backTo pos (starEach es X.env)).any (·.1) = false := by rfl) : PF X wx (.Call (.Name x p) (e :: es) [] pos) (fBlt g Fs) :=
  PE.imp (pe_callB hc hg hm hv ha hn hdb he hpl) fun _ _ _ h => blt_imp h
theorem pf_bltTy (hc : CallR X (.type id) (rN X.K g)) (hm : X.mg x = none) (hv : bootBuiltins x = some (.type id)) (ha : PFA X wx (e :: es) Fs) (hg : Gl X x := by rfl) (hn : x ≠ "__name__" := by decide) (hdb : (x == ("__debug__" : Str)) = false := by decide)
    (he : starEach (e :: es) X.env = (false, eval e X.env) :: starEach es X.env := by rfl) (hpl : (backTo pos (starEach es X.env)).any (·.1) = false := by rfl) : PF X wx (.Call (.Name x p) (e :: es) [] pos) (fBlt g Fs) :=
  PE.imp (pe_callTy hc hg hm hv ha hn hdb he hpl) fun _ _ _ h => blt_imp h
end

/-! ### what is walked -/
/-- the iterator J hands on xs -/
def Src (K : PySem.W.Frag) (J : It) (xs : List T) (μ : Mu) (H : Hp) : Prop := ∀ μ2 H2, Ext H μ H2 μ2 →
  (∀ i x, xs[i]? = some x → J.go i H2 ∧ ∀ v H3, J.yld i H2 v H3 → Same H2 H3 ∧ ∀ S, RelS K H2 μ2 S → Rel K H3 μ2 x v) ∧ ∀ i, xs.length ≤ i → J.stop i H2
abbrev FI := Fr → Sto → Res (List T)
def rI (K : PySem.W.Frag) : RL (List T) It := fun H μ xs J => Src K J xs μ H
def wiT (K : PySem.W.Frag) (wx : WT) (Fi : FI) : TI := tG K wx (rI K) Fi
def PFI (X : Cx) (wx : WT) (tg e : Expr) (Fi : FI) : Prop := PI X tg e (wiT X.K wx Fi)
theorem PI.imp {X : Cx} {tg e : Expr} {t t' : TI} (h : PI X tg e t) (i : ∀ σ H Q, t' σ H Q → t σ H Q) : PI X tg e t' := ⟨fun pins s σ H Q I q => h.run pins s σ H Q I (i σ H Q q)⟩
theorem Src.list {K : PySem.W.Frag} {H : Hp} {μ : Mu} {a : Addr} {xs : List V} {ts : List T} (f : OL K H μ a xs) (r : Rels K H μ ts xs) : Src K (Itl K a) ts μ H := fun μ2 H2 E => by
  have f2 : OL K H2 μ2 a xs := f.imp E.fix id
  have q : SqL K H2 a xs := f2.imp (fun z => z.1) id
  have r2 := Rels.mono E ts r
  refine ⟨fun i x e => ?_, fun i h => ⟨xs, q, by rw [← r2.length]; exact h⟩⟩
  obtain ⟨v, e1, e2⟩ := r2.get e
  refine ⟨⟨xs, v, q, e1⟩, fun u H3 y => ?_⟩
  obtain ⟨rfl, y⟩ := y
  have e3 := y xs q
  rw [e1] at e3
  cases e3
  exact ⟨Same.refl _, fun S s => e2⟩
theorem Src.tup {K : PySem.W.Frag} {H : Hp} {μ : Mu} {a : Addr} {xs : List V} {ts : List T} (f : OT K H μ a xs) (r : Rels K H μ ts xs) : Src K (Itt K a) ts μ H := fun μ2 H2 E => by
  have f2 : OT K H2 μ2 a xs := f.imp E.fix id
  have q : SqT K H2 a xs := f2.imp (fun z => z.1) id
  have r2 := Rels.mono E ts r
  refine ⟨fun i x e => ?_, fun i h => ⟨xs, q, by rw [← r2.length]; exact h⟩⟩
  obtain ⟨v, e1, e2⟩ := r2.get e
  refine ⟨⟨xs, v, q, e1⟩, fun u H3 y => ?_⟩
  obtain ⟨rfl, y⟩ := y
  have e3 := y xs q
  rw [e1] at e3
  cases e3
  exact ⟨Same.refl _, fun S s => e2⟩
theorem Src.ints {K : PySem.W.Frag} {H : Hp} {μ : Mu} (lo : Int) (n : Nat) : Src K (Itr lo n) ((List.range n).map fun i => T.int (lo + (i : Nat))) μ H := fun μ2 H2 E => by
  refine ⟨fun i x e => ?_, fun i h => by
    show n ≤ i
    simpa using h⟩
  have hi : i < n := by
    have := (List.getElem?_eq_some_iff.mp e).1
    simpa using this
  have ex : x = T.int (lo + (i : Nat)) := by
    rw [List.getElem?_map, List.getElem?_range hi] at e
    exact (Option.some.inj e).symm
  subst ex
  refine ⟨hi, fun u H3 y => ?_⟩
  obtain ⟨rfl, rfl⟩ := y
  exact ⟨Same.refl _, fun S s => by simp only [Rel]⟩
/-- the letters of a text -/
def chars (x : Str) : List T := x.cps.toList.map fun c => T.str ⟨#[c]⟩
theorem Src.str {K : PySem.W.Frag} {H : Hp} {μ : Mu} (x : Str) : Src K (Its x) (chars x) μ H := fun μ2 H2 E => by
  unfold chars
  refine ⟨fun i t e => ?_, fun i h => by
    show x.cps.size ≤ i
    simpa using h⟩
  have hi : i < x.cps.size := by
    have := (List.getElem?_eq_some_iff.mp e).1
    simpa using this
  have ec : x.cps[i]? = some x.cps[i] := Array.getElem?_eq_getElem hi
  have et : t = T.str ⟨#[x.cps[i]]⟩ := by
    rw [List.getElem?_map, Array.getElem?_toList, ec] at e
    exact (Option.some.inj e).symm
  subst et
  refine ⟨hi, fun u H3 y => ?_⟩
  obtain ⟨rfl, c, e1, rfl⟩ := y
  rw [ec] at e1
  cases e1
  exact ⟨Same.refl _, fun S s => by simp only [Rel]⟩
section
variable {X : Cx} {wx : WT} {pos p : Pos} {tg a b : Expr} {Fa Fb : FE} {Fs : FA}
/-- a list that is not changed -/
def fiL (Fa : FE) : FI := fun τ S => (Fa τ S).bind fun t S1 => match t with
  | .lst ts => .ok ts S1
  | .sls ts => .ok ts S1
  | _ => .stuck
def fiT (Fa : FE) : FI := fun τ S => (Fa τ S).bind fun t S1 => match t with
  | .tup ts => .ok ts S1
  | _ => .stuck
def fiS (Fa : FE) : FI := fun τ S => (Fa τ S).bind fun t S1 => match t with
  | .str x => if x.length < sizeLine then .ok (chars x) S1 else .stuck
  | _ => .stuck
theorem pfi_list (ha : PF X wx a Fa) : PFI X wx tg a (fiL Fa) := PI.imp (pi_list ha) fun σ H Q h => by
  obtain ⟨μ, τ, S, s, f, h⟩ := h
  refine tG.seq s f h fun μ1 H1 t v S1 A1 h1 => ?_
  have r := A1.rel
  cases t with
  | lst ts =>
    simp only [Rel] at r
    obtain ⟨a, xs, rfl, o, r⟩ := r
    have o' : OL X.K H1 μ1 a xs := .inl ⟨.inl o.1, o.2⟩
    exact ⟨a, rfl, ⟨xs, .inl (.inl o.1)⟩, h1.here A1.st (Src.list o' r)⟩
  | sls ts =>
    simp only [Rel] at r
    obtain ⟨a, xs, rfl, o, r⟩ := r
    exact ⟨a, rfl, ⟨xs, o.imp (fun z => z.1) fun z => z⟩, h1.here A1.st (Src.list o r)⟩
  | _ => exact h1.elim
theorem pfi_tup (ha : PF X wx a Fa) : PFI X wx tg a (fiT Fa) := PI.imp (pi_tup ha) fun σ H Q h => by
  obtain ⟨μ, τ, S, s, f, h⟩ := h
  refine tG.seq s f h fun μ1 H1 t v S1 A1 h1 => ?_
  have r := A1.rel
  cases t with
  | tup ts =>
    simp only [Rel] at r
    obtain ⟨a, xs, rfl, o, r⟩ := r
    exact ⟨a, rfl, ⟨xs, o.imp (fun z => z.1) fun z => z⟩, h1.here A1.st (Src.tup o r)⟩
  | _ => exact h1.elim
theorem pfi_str (ha : PF X wx a Fa) : PFI X wx tg a (fiS Fa) := PI.imp (pi_str ha) fun σ H Q h => by
  obtain ⟨μ, τ, S, s, f, h⟩ := h
  refine tG.seq s f h fun μ1 H1 t v S1 A1 h1 => ?_
  have r := A1.rel
  cases t with
  | str x =>
    simp only [Rel] at r
    subst r
    by_cases hl : x.length < sizeLine
    · simp only [if_pos hl] at h1
      exact ⟨x, rfl, h1.here A1.st (Src.str x)⟩
    · simp only [if_neg hl] at h1; exact h1.elim
  | _ => exact h1.elim
/-- a list or tuple, as it comes -/
def inR (i j : Int) : Bool := decide (-(2 ^ 62) ≤ i ∧ i < 2 ^ 62 ∧ -(2 ^ 62) ≤ j ∧ j < 2 ^ 62)
def rng (i j : Int) : List T := (List.range (j - i).toNat).map fun n => T.int (i + (n : Nat))
def fiR1 (Fs : FA) : FI := fun τ S => (Fs τ S).bind fun ts S1 => match ts with
  | [.int j] => if inR 0 j then .ok (rng 0 j) S1 else .stuck
  | _ => .stuck
def fiR2 (Fs : FA) : FI := fun τ S => (Fs τ S).bind fun ts S1 => match ts with
  | [.int i, .int j] => if inR i j then .ok (rng i j) S1 else .stuck
  | _ => .stuck
theorem pfi_range1 (hm : X.mg "range" = none) (ha : PFA X wx [a] Fs) (hg : Gl X "range" := by rfl) (hs : starEach [a] X.env = [(false, eval a X.env)] := by rfl) : PFI X wx tg (.Call (.Name "range" p) [a] [] pos) (fiR1 Fs) := PI.imp (pi_range1 hg hm ha hs) fun σ H Q h => by
  obtain ⟨μ, τ, S, s, f, h⟩ := h
  refine tG.seq s f h fun μ1 H1 ts vs S1 A1 h1 => ?_
  have r := A1.rel
  match ts, h1 with
  | [.int j], h1 =>
    simp only [Rels, Rel] at r
    obtain ⟨v, r', rfl, rfl, rfl⟩ := r
    by_cases hl : inR 0 j
    · simp only [if_pos hl] at h1
      have hl' := of_decide_eq_true hl
      refine ⟨j, rfl, hl'.2.2.1, hl'.2.2.2, h1.here A1.st ?_⟩
      have q := Src.ints (K := X.K) (H := H1) (μ := μ1) 0 j.toNat
      unfold rng
      rw [show (j - 0).toNat = j.toNat by simp]
      exact q
    · simp only [if_neg hl] at h1; exact h1.elim
theorem pfi_range2 (hm : X.mg "range" = none) (ha : PFA X wx [a, b] Fs) (hg : Gl X "range" := by rfl) (hs : starEach [a, b] X.env = [(false, eval a X.env), (false, eval b X.env)] := by rfl) (hs2 : starEach [b] X.env = [(false, eval b X.env)] := by rfl) :
    PFI X wx tg (.Call (.Name "range" p) [a, b] [] pos) (fiR2 Fs) := PI.imp (pi_range2 hg hm ha hs hs2) fun σ H Q h => by
  obtain ⟨μ, τ, S, s, f, h⟩ := h
  refine tG.seq s f h fun μ1 H1 ts vs S1 A1 h1 => ?_
  have r := A1.rel
  match ts, h1 with
  | [.int i, .int j], h1 =>
    simp only [Rels, Rel] at r
    obtain ⟨v, r', rfl, rfl, v2, r2, rfl, rfl, rfl⟩ := r
    by_cases hl : inR i j
    · simp only [if_pos hl] at h1
      have hl' := of_decide_eq_true hl
      exact ⟨i, j, rfl, hl', h1.here A1.st (Src.ints i _)⟩
    · simp only [if_neg hl] at h1; exact h1.elim
end

section
variable {X : Cx} {wx : WT} {tg a : Expr} {Fa : FE}
/-- a list, a tuple or a text, as it comes -/
def fiA (Fa : FE) : FI := fun τ S => (Fa τ S).bind fun t S1 => match t with
  | .lst ts => .ok ts S1
  | .sls ts => .ok ts S1
  | .tup ts => .ok ts S1
  | .str x => if x.length < sizeLine then .ok (chars x) S1 else .stuck
  | _ => .stuck
theorem pfi_any (ha : PF X wx a Fa) : PFI X wx tg a (fiA Fa) := ⟨fun pins s σ H R I h => by
  obtain ⟨μ, τ, S, st, f, h⟩ := h
  have lists : ∀ {q : Res (List T)}, fiL Fa τ S = q → post X.K (wx.fr τ σ) (rI X.K) μ H q R → _ := fun {q} e z => (pfi_list (tg := tg) ha).run pins s σ H R I ⟨μ, τ, S, st, f, by rw [e]; exact z⟩
  have tups : ∀ {q : Res (List T)}, fiT Fa τ S = q → post X.K (wx.fr τ σ) (rI X.K) μ H q R → _ := fun {q} e z => (pfi_tup (tg := tg) ha).run pins s σ H R I ⟨μ, τ, S, st, f, by rw [e]; exact z⟩
  have txts : ∀ {q : Res (List T)}, fiS Fa τ S = q → post X.K (wx.fr τ σ) (rI X.K) μ H q R → _ := fun {q} e z => (pfi_str (tg := tg) ha).run pins s σ H R I ⟨μ, τ, S, st, f, by rw [e]; exact z⟩
  cases e : Fa τ S with
  | stuck => simp only [fiA, e, Res.bind] at h; exact h.elim
  | exc x S1 =>
    simp only [fiA, e, Res.bind] at h
    exact lists (by simp only [fiL, e, Res.bind]) h
  | ok t S1 =>
    simp only [fiA, e, Res.bind] at h
    cases t with
    | lst ts => exact lists (by simp only [fiL, e, Res.bind]) h
    | sls ts => exact lists (by simp only [fiL, e, Res.bind]) h
    | tup ts => exact tups (by simp only [fiT, e, Res.bind]) h
    | str x => exact txts (by simp only [fiS, e, Res.bind]) h
    | _ => exact h.elim⟩
end

/-! ### targets -/
/-- what a target stores: slots and trees -/
abbrev Asg := List (Nat × T)
abbrev GT := T → Option Asg
abbrev GTs := List T → Option Asg
def setsT (τ : Fr) (l : Asg) : Fr := l.foldl (fun τ p => τ.set p.1 (some p.2)) τ
def setsV (σ : St) (l : List (Nat × V)) : St := l.foldl (fun σ p => σ.set p.1 (some p.2)) σ
inductive AsgR (K : PySem.W.Frag) (H : Hp) (μ : Mu) : Asg → List (Nat × V) → Prop
  | nil : AsgR K H μ [] []
  | cons {i : Nat} {t : T} {v : V} {l : Asg} {l' : List (Nat × V)} : Rel K H μ t v → AsgR K H μ l l' → AsgR K H μ ((i, t) :: l) ((i, v) :: l')
theorem AsgR.append {K : PySem.W.Frag} {H : Hp} {μ : Mu} {a b : Asg} {a' b' : List (Nat × V)} (h : AsgR K H μ a a') (g : AsgR K H μ b b') : AsgR K H μ (a ++ b) (a' ++ b') := by
  induction h with
  | nil => exact g
  | cons r _ ih => exact .cons r ih
theorem RelF.sets {K : PySem.W.Frag} {H : Hp} {μ : Mu} {l : Asg} {l' : List (Nat × V)} (h : AsgR K H μ l l') : ∀ {τ : Fr} {σ : St}, RelF K H μ τ σ → RelF K H μ (setsT τ l) (setsV σ l') := by
  induction h with
  | nil => exact fun f => f
  | cons r _ ih => exact fun f => ih (f.set r)
theorem AsgR.slots {K : PySem.W.Frag} {H : Hp} {μ : Mu} {a : Asg} {a' : List (Nat × V)} (h : AsgR K H μ a a') : a'.map (·.1) = a.map (·.1) := by
  induction h with
  | nil => rfl
  | cons r _ ih => simp [ih]
def gT (K : PySem.W.Frag) (g : GT) : TG := fun v σ H Q => ∃ μ t l, Rel K H μ t v ∧ g t = some l ∧ ∀ l', AsgR K H μ l l' → Q (setsV σ l') H
def gTs (K : PySem.W.Frag) (g : GTs) : TGs := fun vs σ H Q => ∃ μ ts l, Rels K H μ ts vs ∧ g ts = some l ∧ ∀ l', AsgR K H μ l l' → Q (setsV σ l') H
def PFG (X : Cx) (tg : Expr) (g : GT) : Prop := PG X tg (gT X.K g)
def PFGs (X : Cx) (tgs : List Expr) (g : GTs) : Prop := PGs X tgs (gTs X.K g)
theorem PG.imp {X : Cx} {e : Expr} {t t' : TG} (h : PG X e t) (i : ∀ v σ H Q, t' v σ H Q → t v σ H Q) : PG X e t' := ⟨fun pins s σ H v u Q I r q => h.run pins s σ H v u Q I r (i v σ H Q q)⟩
theorem PGs.imp {X : Cx} {e : List Expr} {t t' : TGs} (h : PGs X e t) (i : ∀ v σ H Q, t' v σ H Q → t v σ H Q) : PGs X e t' := ⟨fun pins s σ H v u Q I r q => h.run pins s σ H v u Q I r (i v σ H Q q)⟩
def sName (i : Nat) : GT := fun t => some [(i, t)]
def sNil : GTs := fun ts => match ts with
  | [] => some []
  | _ => none
def sCons (g : GT) (gs : GTs) : GTs := fun ts => match ts with
  | t :: r => (g t).bind fun a => (gs r).bind fun b => some (a ++ b)
  | [] => none
def sTup (n : Nat) (gs : GTs) : GT := fun t => match t with
  | .tup ts => if ts.length = n then gs ts else none
  | _ => none
section
variable {X : Cx} {pos : Pos}
theorem pfg_name {i : Nat} {x : Str} (hN : X.N.Nodup) (hi : X.N[i]? = some x := by rfl) (hx : Loc X.env.scope x := by first | exact Or.inl rfl | exact Or.inr rfl) (hf : X.fn x = true ∨ X.env.scope.names.lookup x = some .local := by first | exact .inl rfl | exact .inr rfl | assumption) : PFG X (.Name x pos) (sName i) :=
  PG.imp (pg_name hN hi hx hf) fun v σ H Q h => by
    obtain ⟨μ, t, l, r, e, q⟩ := h
    cases e
    exact q [(i, v)] (.cons r .nil)
theorem pfgs_nil : PFGs X [] sNil := PGs.imp pgs_nil fun v σ H Q h => by
  obtain ⟨μ, ts, l, r, e, q⟩ := h
  cases ts with
  | nil =>
    cases e
    simp only [Rels] at r
    exact ⟨r, q [] .nil⟩
  | cons t ts => cases e
theorem pfgs_cons {e : Expr} {es : List Expr} {g : GT} {gs : GTs} (h1 : PFG X e g) (h2 : PFGs X es gs) (hs : (assignEach (e :: es) X.env).map (·.2) = assign e X.env :: (assignEach es X.env).map (·.2) := by rfl) : PFGs X (e :: es) (sCons g gs) :=
  PGs.imp (pgs_cons h1 h2 hs) fun v σ H Q h => by
    obtain ⟨μ, ts, l, r, e, q⟩ := h
    cases ts with
    | nil => cases e
    | cons t ts =>
      simp only [Rels] at r
      obtain ⟨u, us, rfl, r1, r2⟩ := r
      simp only [sCons] at e
      cases e1 : g t with
      | none => rw [e1] at e; cases e
      | some a =>
        cases e2 : gs ts with
        | none => rw [e1, e2] at e; cases e
        | some b =>
          rw [e1, e2] at e
          cases e
          refine ⟨u, us, rfl, μ, t, a, r1, e1, fun a' ha => ⟨μ, ts, b, r2, e2, fun b' hb => ?_⟩⟩
          have z := q (a' ++ b') (ha.append hb)
          unfold setsV at z ⊢
          rw [List.foldl_append] at z
          exact z
theorem pfg_tup {es : List Expr} {k : Nat} {gs : GTs} {n : Nat} (hc : X.calm = true) (h : PFGs X es gs) (hn : (assignEach es X.env).length = n := by rfl) (hst : (assignEach es X.env).findIdx? (·.1) = none := by rfl) : PFG X (.Tuple es k pos) (sTup n gs) :=
  PG.imp (pg_tup hc h hn hst) fun v σ H Q h => by
    obtain ⟨μ, t, l, r, e, q⟩ := h
    cases t with
    | tup ts =>
      simp only [sTup] at e
      split at e
      · rename_i hl
        obtain ⟨a, vs, rfl, o, r⟩ := tup_ok r
        exact ⟨a, vs, rfl, o, by rw [← r.length]; exact hl, μ, ts, l, r, e, q⟩
      · cases e
    | _ => cases e
end

/-! ### statements -/
inductive RS where
  | nx (τ : Fr) (S : Sto) | rt (t : T) (S : Sto) | bk (τ : Fr) (S : Sto) | ct (τ : Fr) (S : Sto) | exc (x : XT) (τ : Fr) (S : Sto) | stuck
def postS (K : PySem.W.Frag) (wx : WT) (μ : Mu) (H : Hp) (r : RS) (D : Ends) : Prop := match r with
  | .nx τ S' => ∀ μ' σ' H', Ext H μ H' μ' → RelS K H' μ' S' → RelF K H' μ' τ σ' → D.nx σ' H'
  | .rt t S' => ∀ μ' v H', Ext H μ H' μ' → RelS K H' μ' S' → Rel K H' μ' t v → D.rt v H'
  | .bk τ S' => ∀ μ' σ' H', Ext H μ H' μ' → RelS K H' μ' S' → RelF K H' μ' τ σ' → D.bk σ' H'
  | .ct τ S' => ∀ μ' σ' H', Ext H μ H' μ' → RelS K H' μ' S' → RelF K H' μ' τ σ' → D.ct σ' H'
  | .exc x τ S' => ∀ μ' σ' H', Ext H μ H' μ' → RelS K H' μ' S' → RelF K H' μ' τ σ' → wx x μ' τ S' σ' H'
  | .stuck => False
theorem postS.shift {K : PySem.W.Frag} {wx : WT} {μ μ1 : Mu} {H H1 : Hp} {r : RS} {D : Ends} (x : Ext H μ H1 μ1) (h : postS K wx μ H r D) : postS K wx μ1 H1 r D := by
  cases r with
  | stuck => exact h
  | _ => exact fun μ' v H' y => h μ' v H' (x.trans y)
abbrev BS := Fr → Sto → RS
def tS (K : PySem.W.Frag) (wx : WT) (B : BS) : TS := fun D σ H => ∃ μ τ S, RelS K H μ S ∧ RelF K H μ τ σ ∧ postS K wx μ H (B τ S) D
def Res.bindS {α : Type} (r : Res α) (τ : Fr) (k : α → Sto → RS) : RS := match r with
  | .ok a S => k a S
  | .exc x S => .exc x τ S
  | .stuck => .stuck
theorem tG.seqS {α β : Type} {K : PySem.W.Frag} {wx : WT} {rel : RL α β} {F : Fr → Sto → Res α} {k : α → Sto → RS} {μ : Mu} {H : Hp} {τ : Fr} {σ : St} {S : Sto} {D : Ends} {R : β → Hp → Prop}
    (s : RelS K H μ S) (f : RelF K H μ τ σ) (h : postS K wx μ H ((F τ S).bindS τ k) D)
    (hR : ∀ μ1 H1 t v S1, At K μ H τ σ rel μ1 H1 t v S1 → postS K wx μ1 H1 (k t S1) D → R v H1) : tG K wx rel F σ H R := by
  refine ⟨μ, τ, S, s, f, ?_⟩
  cases e : F τ S with
  | stuck => rw [e] at h; exact h
  | exc x S1 => rw [e] at h; exact fun μ' H' E st => h μ' σ H' E st (f.mono E)
  | ok t S1 =>
    rw [e] at h
    exact fun μ1 v H1 x st r => hR μ1 H1 t v S1 ⟨x, st, f.mono x, r⟩ (h.shift x)
def PFS (X : Cx) (wx : WT) (st : Stmt) (B : BS) : Prop := PS X st (tS X.K wx B)
def PFSs (X : Cx) (wx : WT) (st : List Stmt) (B : BS) : Prop := PSs X st (tS X.K wx B)
theorem PS.imp {X : Cx} {e : Stmt} {t t' : TS} (h : PS X e t) (i : ∀ D σ H, t' D σ H → t D σ H) : PS X e t' := ⟨fun pins s σ H D I q => h.run pins s σ H D I (i D σ H q)⟩
theorem PSs.imp {X : Cx} {e : List Stmt} {t t' : TS} (h : PSs X e t) (i : ∀ D σ H, t' D σ H → t D σ H) : PSs X e t' := ⟨fun pins s σ H D I q => h.run pins s σ H D I (i D σ H q)⟩
def bNext : BS := fun τ S => .nx τ S
def bSeq (B C : BS) : BS := fun τ S => match B τ S with
  | .nx τ1 S1 => C τ1 S1
  | r => r
def bSet (i : Nat) (F : FE) : BS := fun τ S => (F τ S).bindS τ fun t S1 => .nx (τ.set i (some t)) S1
def bAsg (g : GT) (F : FE) : BS := fun τ S => (F τ S).bindS τ fun t S1 => match g t with
  | some l => .nx (setsT τ l) S1
  | none => .stuck
def bRet (F : FE) : BS := fun τ S => (F τ S).bindS τ fun t S1 => .rt t S1
def bRetN : BS := fun τ S => .rt .non S
def bExpr (F : FE) : BS := fun τ S => (F τ S).bindS τ fun _ S1 => .nx τ S1
def bIf (F : FT) (B C : BS) : BS := fun τ S => (F τ S).bindS τ fun k S1 => match k with
  | true => B τ S1
  | false => C τ S1
def bStuck : BS := fun _ _ => .stuck
section
variable {X : Cx} {wx : WT} {pos : Pos} {st : Stmt} {sts : List Stmt} {B C : BS} {e : Expr} {F : FE}
theorem pfss_nil : PFSs X wx [] bNext := PSs.imp pss_nil fun D σ H h => by
  obtain ⟨μ, τ, S, s, f, h⟩ := h
  exact h μ σ H (Ext.refl _ _) s f
theorem pfss_one (h : PFS X wx st B) : PFSs X wx [st] B := pss_one h
theorem pfss_cons (h1 : PFS X wx st B) (h2 : PFSs X wx sts C) : PFSs X wx (st :: sts) (bSeq B C) := PSs.imp (pss_cons h1 h2) fun D σ H h => by
  obtain ⟨μ, τ, S, s, f, h⟩ := h
  refine ⟨μ, τ, S, s, f, ?_⟩
  unfold bSeq at h
  cases e : B τ S with
  | nx τ1 S1 =>
    rw [e] at h
    exact fun μ' σ' H' E st' fr => ⟨μ', τ1, S1, st', fr, h.shift E⟩
  | _ => rw [e] at h; exact h
theorem pfs_never : PFS X wx st bStuck := PS.imp ps_never fun D σ H h => by
  obtain ⟨μ, τ, S, s, f, h⟩ := h
  exact h
theorem pfss_never : PFSs X wx sts bStuck := PSs.imp pss_never fun D σ H h => by
  obtain ⟨μ, τ, S, s, f, h⟩ := h
  exact h
theorem pfs_pass : PFS X wx (.Pass pos) bNext := PS.imp ps_pass fun D σ H h => by
  obtain ⟨μ, τ, S, s, f, h⟩ := h
  exact h μ σ H (Ext.refl _ _) s f
theorem pfs_break : PFS X wx (.Break pos) (fun τ S => .bk τ S) := PS.imp ps_break fun D σ H h => by
  obtain ⟨μ, τ, S, s, f, h⟩ := h
  exact h μ σ H (Ext.refl _ _) s f
theorem pfs_cont : PFS X wx (.Continue pos) (fun τ S => .ct τ S) := PS.imp ps_continue fun D σ H h => by
  obtain ⟨μ, τ, S, s, f, h⟩ := h
  exact h μ σ H (Ext.refl _ _) s f
theorem pfs_set {i : Nat} {x : Str} {pos' : Pos} (hN : X.N.Nodup) (he : PF X wx e F) (hi : X.N[i]? = some x := by rfl) (hx : Loc X.env.scope x := by first | exact Or.inl rfl | exact Or.inr rfl) (hs : swapsWith e (some (.Name x pos')) pos.line X.env = pure false := by rfl) (hf : X.fn x = true ∨ X.env.scope.names.lookup x = some .local := by first | exact .inl rfl | exact .inr rfl | assumption) :
    PFS X wx (.Assign [.Name x pos'] e pos) (bSet i F) := PS.imp (ps_set hN hi hx he hs hf) fun D σ H h => by
  obtain ⟨μ, τ, S, s, f, h⟩ := h
  exact tG.seqS s f h fun μ1 H1 t v S1 A1 h1 => h1 μ1 _ H1 (Ext.refl _ _) A1.st (A1.fr.set A1.rel)
theorem pfs_asg {tg : Expr} {g : GT} (he : PF X wx e F) (hg : PFG X tg g) (hs : swapsWithSole [tg] e pos.line X.env = pure false := by rfl) (hw : swappedStores [tg] e X.env = pure none := by rfl)
    (h1 : (assignEach [tg] X.env).map (·.2) = [assign tg X.env] := by rfl) : PFS X wx (.Assign [tg] e pos) (bAsg g F) := PS.imp (ps_asg he hg hs hw h1) fun D σ H h => by
  obtain ⟨μ, τ, S, s, f, h⟩ := h
  refine tG.seqS s f h fun μ1 H1 t v S1 A1 h1 => ?_
  cases e1 : g t with
  | none => simp only [e1] at h1; exact h1.elim
  | some l =>
    simp only [e1] at h1
    exact ⟨μ1, t, l, A1.rel, e1, fun l' f' => h1 μ1 _ H1 (Ext.refl _ _) A1.st (RelF.sets f' A1.fr)⟩
theorem pfs_ret (he : PF X wx e F) : PFS X wx (.Return (some e) pos) (bRet F) := PS.imp (ps_ret he) fun D σ H h => by
  obtain ⟨μ, τ, S, s, f, h⟩ := h
  exact tG.seqS s f h fun μ1 H1 t v S1 A1 h1 => h1 μ1 v H1 (Ext.refl _ _) A1.st A1.rel
theorem pfs_retN : PFS X wx (.Return none pos) bRetN := PS.imp ps_retN fun D σ H h => by
  obtain ⟨μ, τ, S, s, f, h⟩ := h
  exact h μ .non H (Ext.refl _ _) s (by simp only [Rel])
theorem pfs_expr (he : PF X wx e F) (hs : swapsWith e none pos.line X.env = pure false := by rfl) : PFS X wx (.Expr e pos) (bExpr F) := PS.imp (ps_expr he hs) fun D σ H h => by
  obtain ⟨μ, τ, S, s, f, h⟩ := h
  exact tG.seqS s f h fun μ1 H1 t v S1 A1 h1 => h1 μ1 σ H1 (Ext.refl _ _) A1.st A1.fr
theorem pfs_if {c : Expr} {a b : List Stmt} {Fc : FT} (hc : PFT X wx c Fc) (ha : PFSs X wx a B) (hb : PFSs X wx b C) : PFS X wx (.If c a b pos) (bIf Fc B C) := PS.imp (ps_if hc ha hb) fun D σ H h => by
  obtain ⟨μ, τ, S, s, f, h⟩ := h
  refine tG.seqS s f h fun μ1 H1 t v S1 A1 h1 => ?_
  have r : t = v := A1.rel
  subst r
  cases t with
  | true => exact iteT ⟨μ1, τ, S1, A1.st, A1.fr, h1⟩
  | false => exact iteF ⟨μ1, τ, S1, A1.st, A1.fr, h1⟩
/-! for -/
def forF (g : GT) (B : BS) : List T → BS
  | [], τ, S => .nx τ S
  | x :: xs, τ, S => match g x with
    | none => .stuck
    | some l => match B (setsT τ l) S with
      | .nx τ2 S2 => forF g B xs τ2 S2
      | .ct τ2 S2 => forF g B xs τ2 S2
      | .bk τ2 S2 => .nx τ2 S2
      | r => r
def bFor (Fi : FI) (g : GT) (B : BS) : BS := fun τ S => (Fi τ S).bindS τ fun xs S1 => forF g B xs τ S1
theorem drop_cons {xs : List T} {i : Nat} (h : i < xs.length) : xs.drop i = xs[i] :: xs.drop (i + 1) := List.drop_eq_getElem_cons h
theorem pfs_for {tg iter : Expr} {body : List Stmt} {Fi : FI} {g : GT} (hp : PassesOwn (model X.prog X.w) X.A X.env X.xe) (hc : X.calm = true) (hi : PFI X wx tg iter Fi) (hg : PFG X tg g) (hb : PFSs X wx body B)
    (hs : ∀ x, foldedSetIterable iter X.env x = pure x := by intro _; rfl) : PFS X wx (.For tg iter body [] pos) (bFor Fi g B) := PS.imp (ps_for hp hc hi hg hb hs) fun D σ H h => by
  obtain ⟨μ, τ, S, s, f, h⟩ := h
  refine tG.seqS s f h fun μ1 H1 xs J S1 A1 h1 => ?_
  refine ⟨fun i m σ2 H2 => ∃ μ2 τ2 S2, Ext H1 μ1 H2 μ2 ∧ RelS X.K H2 μ2 S2 ∧ RelF X.K H2 μ2 τ2 σ2 ∧ m = xs.length - i ∧ i ≤ xs.length ∧ postS X.K wx μ2 H2 (forF g B (xs.drop i) τ2 S2) D,
    ⟨xs.length, μ1, τ, S1, Ext.refl _ _, A1.st, A1.fr, rfl, Nat.zero_le _, by simpa using h1⟩, fun i m σ2 H2 hW => ?_⟩
  obtain ⟨μ2, τ2, S2, E2, s2, f2, rfl, hi, h2⟩ := hW
  obtain ⟨go, stop⟩ := A1.rel μ2 H2 E2
  by_cases hlt : i < xs.length
  · rw [drop_cons hlt] at h2
    obtain ⟨hgo, hy⟩ := go i xs[i] (List.getElem?_eq_getElem hlt)
    refine .inr ⟨hgo, fun σ' H' => ∃ μ2 τ2 S2, Ext H1 μ1 H' μ2 ∧ RelS X.K H' μ2 S2 ∧ RelF X.K H' μ2 τ2 σ' ∧ postS X.K wx μ2 H' (forF g B (xs.drop (i + 1)) τ2 S2) D, fun σ' H' hN => ?_, fun v H3 yl => ?_⟩
    · obtain ⟨μ3, τ3, S3, a, b, c, d⟩ := hN
      exact ⟨xs.length - (i + 1), by omega, μ3, τ3, S3, a, b, c, rfl, hlt, d⟩
    · obtain ⟨sm, hr⟩ := hy v H3 yl
      have E3 : Ext H2 μ2 H3 μ2 := Ext.of_same sm
      simp only [forF] at h2
      cases eg : g xs[i] with
      | none => simp only [eg] at h2; exact h2.elim
      | some l =>
        simp only [eg] at h2
        refine ⟨μ2, xs[i], l, hr S2 s2, eg, fun l' f' => ⟨μ2, setsT τ2 l, S2, s2.same sm, RelF.sets f' (f2.mono E3), ?_⟩⟩
        cases eb : B (setsT τ2 l) S2 with
        | stuck => simp only [eb] at h2; exact h2.elim
        | nx τ4 S4 =>
          simp only [eb] at h2
          exact fun μ4 σ4 H4 E4 s4 f4 => ⟨μ4, τ4, S4, (E2.trans E3).trans E4, s4, f4, h2.shift (E3.trans E4)⟩
        | ct τ4 S4 =>
          simp only [eb] at h2
          exact fun μ4 σ4 H4 E4 s4 f4 => ⟨μ4, τ4, S4, (E2.trans E3).trans E4, s4, f4, h2.shift (E3.trans E4)⟩
        | bk τ4 S4 =>
          simp only [eb] at h2
          exact fun μ4 σ4 H4 E4 s4 f4 => h2 μ4 σ4 H4 (E3.trans E4) s4 f4
        | rt t S4 =>
          simp only [eb] at h2
          exact fun μ4 v4 H4 E4 s4 f4 => h2 μ4 v4 H4 (E3.trans E4) s4 f4
        | exc x τ4 S4 =>
          simp only [eb] at h2
          exact fun μ4 v4 H4 E4 s4 f4 => h2 μ4 v4 H4 (E3.trans E4) s4 f4
  · have e : i = xs.length := by omega
    subst e
    rw [List.drop_length] at h2
    exact .inl ⟨stop _ (Nat.le_refl _), h2 μ2 σ2 H2 (Ext.refl _ _) s2 f2⟩
end

/-! ### a def -/
def startT (N : List Str) (ts : List T) : Fr := ts.map some ++ List.replicate (N.length - ts.length) none
def RS.fin : RS → Res T
  | .nx _ S => .ok .non S
  | .rt t S => .ok t S
  | .exc x _ S => .exc x S
  | _ => .stuck
def body (N : List Str) (n : Nat) (B : BS) : FF := fun ts S => if ts.length = n then (B (startT N ts) S).fin else .stuck
theorem relF_start {K : PySem.W.Frag} {H : Hp} {μ : Mu} {N : List Str} {ts : List T} {vs : List V} (r : Rels K H μ ts vs) : RelF K H μ (startT N ts) (L2.start N vs) := by
  have hl := r.length
  unfold startT L2.start
  refine ⟨by simp [hl], fun i t e => ?_⟩
  by_cases hi : i < ts.length
  · rw [List.getElem?_append_left (by simpa using hi), List.getElem?_map] at e
    cases e1 : ts[i]? with
    | none => rw [e1] at e; cases e
    | some u =>
      rw [e1] at e
      have e2 : u = t := by simpa using e
      subst e2
      obtain ⟨v, e3, r3⟩ := r.get e1
      exact ⟨v, by rw [List.getElem?_append_left (by simpa [← hl] using hi), List.getElem?_map, e3]; rfl, r3⟩
  · rw [List.getElem?_append_right (by simpa using hi)] at e
    have := (List.mem_of_getElem? e)
    simp at this
/-- no error leaves -/
def wF : WT := fun _ _ _ _ _ _ => False
section
variable {P : Program} {w : World} {K : PySem.W.Frag} {mg : Str → Option Value} {base : Heap}
/-- a def's body keeps its promise -/
theorem df_mk {x qual : Str} {st : Stmt} {f : Addr} {fd : FuncData} {N ps : List Str} {k : Nat} {B : BS} (F : Fun K x qual st f fd) (sc : FnScope N ps (defScope st))
    (hB : ∀ (cdv : Value) (A : Around) (fs : List Env) (s : Shared) (H : Hp), Room k (A.deeper (envOfC qual (defScope st) s.heap.objs.size f cdv)) → A.guards = some [] → PFSs (cxOf CX0 P w K mg base N qual (defScope st) f cdv A fs s H E0).nox wF (defBody st) B) :
    Df P w K mg base (k + 1) f fd ps (body N ps.length B) := by
  obtain ⟨oc, od, kV, doc, pm, an, cdv, ct, osl, rfl, lk, hcd⟩ := F.ex
  refine ⟨fun ts S h => if_neg h, fun A fs s H given us vs Q r hgd e0 hb rv h => ?_⟩
  obtain ⟨μ, S, ts, st', rt, h⟩ := h
  unfold body at h
  by_cases hl : ts.length = ps.length
  rotate_left
  · rw [if_neg hl] at h; exact h.elim
  rw [if_pos hl] at h
  have lv : vs.length = ps.length := by rw [← rt.length]; exact hl
  have kx : K.In s.heap := e0.mod.kin.keeps fun b o q => (e0.bs b o q).1
  have nl : s.heap.NoLimit := e0.mod.nolimit.keeps fun b o q => (e0.bs b o q).1
  have seen : ∀ y ∈ ps.zip us, (defScope st).names.lookup y.1 = some .local ∨ ((defScope st).names.lookup y.1 = some .cell ∧ ((cellsFrom (s.heap.objs.size + 1) (defScope st).names []).lookup y.1).isSome = true) := by
    rintro ⟨n, v⟩ hy
    exact (sc.par n (List.of_mem_zip hy).1).imp id fun q => ⟨q, PySem.W.cellsFrom_some _ _ _ (.inl q)⟩
  refine codeAny_call_function r.depth (kx _ _ lk) rfl sc.co sc.gen rfl (PySem.W.codeRec_of kx hcd) (hb _ _ _ _ ?_)
  refine wpAny_newFunctionEnv_cells sc.kind seen fun env he s1 z => ?_
  subst he
  refine ⟨nl.keeps z.toInCall.keep, codeAny_func ?_⟩
  have I := inv_start (CX := CX0) (E := E0) sc r.hd e0 lv rv z
  have bd : PFSs (cxOf CX0 P w K mg base N qual (defScope st) f cdv A fs s H E0).nox wF (defBody st) B := hB cdv A fs s H (r.deeper _) hgd
  have asked : tS K wF B { nx := fun _ H' => Q .non H', rt := Q } (L2.start N vs) H := by
    refine ⟨μ, startT N ts, S, st', relF_start rt, ?_⟩
    cases e : B (startT N ts) S with
    | nx τ1 S1 =>
      simp only [e, RS.fin] at h
      exact fun μ' σ' H' E sr fr => h μ' .non H' E sr (by simp only [Rel])
    | rt t S1 =>
      simp only [e, RS.fin] at h
      exact h
    | exc x τ S1 =>
      simp only [e, RS.fin] at h
      exact fun μ' σ' H' E sr fr => h μ' H' E sr
    | _ => simp only [e, RS.fin] at h; exact h.elim
  refine wpAny_mono (bd.run [] s1 (L2.start N vs) H _ (I.wish _) asked) (fun fl s' hs => ?_) fun e s' hs => hs.elim
  match fl, hs with
  | .ret u, hs =>
    obtain ⟨v, σ', H', J, rv', q⟩ := hs
    exact ⟨v, H', J.os, J.bare, J.base, J.hok, rv', q⟩
  | .next, hs =>
    obtain ⟨σ', H', J, q⟩ := hs
    exact ⟨.non, H', J.os, J.bare, J.base, J.hok, rfl, q⟩
  | .brk, hs =>
    obtain ⟨_, _, _, q⟩ := hs
    exact q.elim
  | .cont, hs =>
    obtain ⟨_, _, _, q⟩ := hs
    exact q.elim
end
end TL
set_option Elab.async false
set_option linter.all false
set_option maxRecDepth 100000
namespace TL
open PySem PySem.Spec L2
open PyProof.Rows hiding St
/-! ### other cells, other hidden addresses -/
mutual
/-- the trees stay where the heap keeps what they name, and they name nothing that is taken -/
theorem Rel.to {K : PySem.W.Frag} {H H' : Hp} {μ μ' : Mu} (hc : ∀ (n : Nat) (a : Addr), μ.c[n]? = some a → μ'.c[n]? = some a) (hk : ∀ a o, H a = some o → μ.out a → H' a = some o ∧ μ'.out a) : ∀ (t : T) {v : V}, Rel K H μ t v → Rel K H' μ' t v
  | .non, _, h => by simpa only [Rel] using h
  | .bl _, _, h => by simpa only [Rel] using h
  | .int _, _, h => by simpa only [Rel] using h
  | .str _, _, h => by simpa only [Rel] using h
  | .val _, _, h => by simpa only [Rel] using h
  | .ref n, _, h => by
    simp only [Rel] at h ⊢
    obtain ⟨a, e, rfl⟩ := h
    exact ⟨a, hc n a e, rfl⟩
  | .tup ts, _, h => by
    simp only [Rel] at h ⊢
    obtain ⟨a, xs, rfl, o, r⟩ := h
    refine ⟨a, xs, rfl, o.imp (fun z => ?_) id, Rels.to hc hk ts r⟩
    obtain ⟨z | ⟨o, z⟩, n⟩ := z
    · exact ⟨.inl (hk _ _ z n).1, (hk _ _ z n).2⟩
    · exact ⟨.inr ⟨o, (hk _ _ z n).1⟩, (hk _ _ z n).2⟩
  | .lst ts, _, h => by
    simp only [Rel] at h ⊢
    obtain ⟨a, xs, rfl, ⟨z, n⟩, r⟩ := h
    exact ⟨a, xs, rfl, hk _ _ z n, Rels.to hc hk ts r⟩
  | .sls ts, _, h => by
    simp only [Rel] at h ⊢
    obtain ⟨a, xs, rfl, o, r⟩ := h
    refine ⟨a, xs, rfl, o.imp (fun z => ?_) id, Rels.to hc hk ts r⟩
    obtain ⟨z | ⟨o, z⟩, n⟩ := z
    · exact ⟨.inl (hk _ _ z n).1, (hk _ _ z n).2⟩
    · exact ⟨.inr ⟨o, (hk _ _ z n).1⟩, (hk _ _ z n).2⟩
  | .dct ks ts, _, h => by
    simp only [Rel] at h ⊢
    obtain ⟨a, kvs, rfl, ⟨z, n⟩, e, r⟩ := h
    exact ⟨a, kvs, rfl, hk _ _ z n, e, Rels.to hc hk ts r⟩
theorem Rels.to {K : PySem.W.Frag} {H H' : Hp} {μ μ' : Mu} (hc : ∀ (n : Nat) (a : Addr), μ.c[n]? = some a → μ'.c[n]? = some a) (hk : ∀ a o, H a = some o → μ.out a → H' a = some o ∧ μ'.out a) : ∀ (ts : List T) {vs : List V}, Rels K H μ ts vs → Rels K H' μ' ts vs
  | [], _, h => by simpa only [Rels] using h
  | t :: ts, _, h => by
    simp only [Rels] at h ⊢
    obtain ⟨v, r, rfl, h1, h2⟩ := h
    exact ⟨v, r, rfl, Rel.to hc hk t h1, Rels.to hc hk ts h2⟩
end
section
variable {K : PySem.W.Frag} {H H' : Hp} {μ μ' : Mu} {S : Sto} {D : Addr} {o : HO}
theorem CellR.to {a : Addr} {c : T} (hc : ∀ (n : Nat) (a : Addr), μ.c[n]? = some a → μ'.c[n]? = some a) (hk : ∀ a o, H a = some o → μ.out a → H' a = some o ∧ μ'.out a) (ha : ∀ o, H a = some o → H' a = some o) (q : CellR K H μ a c) : CellR K H' μ' a c := by
  cases c <;> first
    | exact q.elim
    | (obtain ⟨vs, h, q⟩ := q; exact ⟨vs, ha _ h, Rels.to hc hk _ q⟩)
    | (obtain ⟨vs, h, e, q⟩ := q; exact ⟨vs, ha _ h, e, Rels.to hc hk _ q⟩)
theorem RelF.to {τ : Fr} {σ : L2.St} (hc : ∀ (n : Nat) (a : Addr), μ.c[n]? = some a → μ'.c[n]? = some a) (hk : ∀ a o, H a = some o → μ.out a → H' a = some o ∧ μ'.out a) (f : RelF K H μ τ σ) : RelF K H' μ' τ σ :=
  ⟨f.1, fun i t e => let ⟨v, a, b⟩ := f.2 i t e; ⟨v, a, Rel.to hc hk t b⟩⟩
/-- a new thing comes, hidden -/
theorem hide_keep (h : H D = none) : ∀ a u, H a = some u → μ.out a → upd H D o a = some u ∧ (μ.hide D).out a := fun a u e n =>
  ⟨by rw [upd_ne (ne_of_none e h)]; exact e, n.1, fun z => (List.mem_cons.mp z).elim (ne_of_none e h) n.2⟩
theorem RelS.hide (h : H D = none) (s : RelS K H μ S) : RelS K (upd H D o) (μ.hide D) S := by
  refine ⟨s.len, s.nd, fun n c a e1 e2 => CellR.to (μ := μ) (fun _ _ e => e) (hide_keep h) (q := s.cell n c a e1 e2) fun u e => by rw [upd_ne (ne_of_none e h)]; exact e, fun p hp => ?_, fun p hp => ?_⟩
  · by_cases hp' : p = D
    · subst hp'; rw [upd_same]; simp
    · rw [upd_ne hp']; exact s.live p ((List.mem_cons.mp hp).elim (fun z => absurd z hp') id)
  · rcases List.mem_cons.mp hp with z | z
    · rw [z]; exact (s.free h).1
    · exact s.dis p z
theorem Ext.hide (h : H D = none) : Ext H μ (upd H D o) (μ.hide D) :=
  ⟨⟨[], by simp [Mu.hide], fun _ z => nomatch z⟩, ⟨fun p hp => List.mem_cons_of_mem _ hp, fun p hp => (List.mem_cons.mp hp).elim (fun z => .inr (by rw [z]; exact h)) .inl⟩, fun a u e _ => by rw [upd_ne (ne_of_none e h)]; exact e, fun a n => by
    by_cases z : a = D
    · subst z; rw [upd_same]; simp
    · rw [upd_ne z]; exact n⟩
/-- a hidden thing changes -/
theorem hid_keep (h : D ∈ μ.r) : ∀ a u, H a = some u → μ.out a → upd H D o a = some u ∧ μ.out a := fun a u e n => ⟨by rw [upd_ne (fun z : a = D => n.2 (by rw [z]; exact h))]; exact e, n⟩
theorem RelS.hid (h : D ∈ μ.r) (s : RelS K H μ S) : RelS K (upd H D o) μ S := by
  refine ⟨s.len, s.nd, fun n c a e1 e2 => CellR.to (μ := μ) (fun _ _ e => e) (hid_keep h) (q := s.cell n c a e1 e2) fun u e => ?_, fun p hp => ?_, s.dis⟩
  · rw [upd_ne (fun z : a = D => s.dis D h (by rw [← z]; exact List.mem_of_getElem? e2))]; exact e
  · by_cases z : p = D
    · subst z; rw [upd_same]; simp
    · rw [upd_ne z]; exact s.live p hp
theorem Ext.hid {H0 : Hp} {μ0 : Mu} (h : H0 D = none) (x : Ext H0 μ0 H μ) : Ext H0 μ0 (upd H D o) μ :=
  ⟨x.pre, x.res, fun a u e n => by rw [upd_ne (ne_of_none e h)]; exact x.keep a u e n, fun a n => by
    by_cases z : a = D
    · subst z; rw [upd_same]; simp
    · rw [upd_ne z]; exact x.live a n⟩
/-- a hidden thing is shown -/
theorem unh_keep : ∀ a u, H a = some u → μ.out a → H a = some u ∧ (μ.unh D).out a := fun a u e n => ⟨e, n.1, fun z => n.2 ((List.mem_filter.mp z).1)⟩
theorem RelS.unh (s : RelS K H μ S) : RelS K H (μ.unh D) S :=
  ⟨s.len, s.nd, fun n c a e1 e2 => CellR.to (μ := μ) (fun _ _ e => e) unh_keep (q := s.cell n c a e1 e2) fun _ e => e, fun p hp => s.live p ((List.mem_filter.mp hp).1), fun p hp => s.dis p ((List.mem_filter.mp hp).1)⟩
theorem Ext.unh {H0 : Hp} {μ0 : Mu} (h : H0 D = none) (s : RelS K H0 μ0 S) (x : Ext H0 μ0 H μ) : Ext H0 μ0 H (μ.unh D) :=
  ⟨x.pre, ⟨fun p hp => List.mem_filter.mpr ⟨x.res.1 p hp, by
    have : p ≠ D := fun z => s.live p hp (z ▸ h)
    simpa using this⟩, fun p hp => x.res.2 p ((List.mem_filter.mp hp).1)⟩, x.keep, x.live⟩
theorem unh_not : D ∉ (μ.unh D).r := fun z => by
  have := (List.mem_filter.mp z).2
  simp at this
/-- it becomes a cell -/
theorem more_keep (h : D ∈ μ.r) : ∀ a u, H a = some u → μ.out a → H a = some u ∧ ((μ.unh D).more D).out a := fun a u e n =>
  ⟨e, fun z => (List.mem_append.mp z).elim n.1 fun q => n.2 (by rw [List.mem_singleton.mp q]; exact h), fun z => n.2 ((List.mem_filter.mp z).1)⟩
theorem more_get (n : Nat) (a : Addr) (e : μ.c[n]? = some a) : ((μ.unh D).more D).c[n]? = some a := (List.getElem?_append_left (List.getElem?_eq_some_iff.mp e).1).trans e
theorem RelS.more {c : T} (h : D ∈ μ.r) (s : RelS K H μ S) (q : CellR K H μ D c) : RelS K H ((μ.unh D).more D) (S ++ [c]) := by
  have dn : D ∉ μ.c := s.dis D h
  have hl : μ.c.length = S.length := s.len
  refine ⟨?_, ?_, fun n c' a e1 e2 => ?_, fun p hp => s.live p ((List.mem_filter.mp hp).1), fun p hp z => ?_⟩
  · show (μ.c ++ [D]).length = _
    rw [List.length_append, List.length_append, hl]; rfl
  · show (μ.c ++ [D]).Nodup
    rw [List.nodup_append]
    exact ⟨s.nd, by simp, fun a ha b hb => by rw [List.mem_singleton.mp hb]; exact fun z => dn (z ▸ ha)⟩
  · have e2' : (μ.c ++ [D])[n]? = some a := e2
    by_cases hn : n < S.length
    · rw [List.getElem?_append_left hn] at e1
      rw [List.getElem?_append_left (by omega)] at e2'
      exact (s.cell n c' a e1 e2').to more_get (more_keep h) fun _ e => e
    · rw [List.getElem?_append_right (by omega)] at e1
      rw [List.getElem?_append_right (by omega)] at e2'
      have h0 : n - S.length = 0 := by
        have := (List.getElem?_eq_some_iff.mp e1).1
        simp at this
        omega
      rw [h0] at e1
      rw [show n - μ.c.length = 0 by omega] at e2'
      simp at e1 e2'
      subst e1 e2'
      exact q.to more_get (more_keep h) fun _ e => e
  · rcases List.mem_append.mp z with z | z
    · exact s.dis p ((List.mem_filter.mp hp).1) z
    · rw [List.mem_singleton.mp z] at hp
      exact unh_not hp
end

/-! ### a new list or dict: as a tree, or as a cell -/
/-- what comes to stand at a new place: a list's or dict's content -/
def postN (K : PySem.W.Frag) (wx : XW) (μ : Mu) (H : Hp) (r : Res T) (Q : VK) : Prop := match r with
  | .ok c S' => ∀ μ' H' D, Ext H μ H' μ' → H D = none → D ∈ μ'.r → RelS K H' μ' S' → CellR K H' μ' D c → Q (.ref D) H'
  | .exc x S' => ∀ μ' H', Ext H μ H' μ' → RelS K H' μ' S' → wx x μ' S' H'
  | .stuck => False
def tN (K : PySem.W.Frag) (wx : WT) (F : FE) : TE := fun σ H Q => ∃ μ τ S, RelS K H μ S ∧ RelF K H μ τ σ ∧ postN K (wx.fr τ σ) μ H (F τ S) Q
def PFN (X : Cx) (wx : WT) (e : Expr) (F : FE) : Prop := PE X e (tN X.K wx F)
def isCell : T → Bool
  | .lst _ => true
  | .dct _ _ => true
  | _ => false
/-- as a tree -/
def fPure (F : FE) : FE := fun τ S => (F τ S).bind fun c S1 => if isCell c then .ok c S1 else .stuck
/-- as a cell -/
def fCell (F : FE) : FE := fun τ S => (F τ S).bind fun c S1 => if isCell c then .ok (.ref S1.length) (S1 ++ [c]) else .stuck
section
variable {X : Cx} {wx : WT} {e : Expr} {F : FE}
theorem pure_imp {K : PySem.W.Frag} {σ : L2.St} {H : Hp} {Q : VK} (q : tG K wx (rV K) (fPure F) σ H Q) : tN K wx F σ H Q := by
  obtain ⟨μ, τ, S, s, f, q⟩ := q
  refine ⟨μ, τ, S, s, f, ?_⟩
  unfold fPure at q
  cases e : F τ S with
  | stuck => rw [e] at q; exact q
  | exc x S1 => rw [e] at q; exact q
  | ok c S1 =>
    rw [e] at q
    intro μ' H' D E hn hD st cr
    have dn : D ∉ μ'.c := st.dis D hD
    have E' := E.unh hn s
    cases c with
    | lst ts =>
      obtain ⟨vs, h, r⟩ := cr
      exact q _ _ H' E' st.unh (by simp only [Rel]; exact ⟨D, vs, rfl, ⟨h, dn, unh_not⟩, Rels.to (μ := μ') (μ' := μ'.unh D) (fun _ _ e => e) unh_keep _ r⟩)
    | dct ks ts =>
      obtain ⟨vs, h, ek, r⟩ := cr
      exact q _ _ H' E' st.unh (by simp only [Rel]; exact ⟨D, vs, rfl, ⟨h, dn, unh_not⟩, ek, Rels.to (μ := μ') (μ' := μ'.unh D) (fun _ _ e => e) unh_keep _ r⟩)
    | _ => exact q.elim
theorem pf_pure (h : PFN X wx e F) : PF X wx e (fPure F) := PE.imp h fun _ _ _ q => pure_imp q
theorem cell_imp {K : PySem.W.Frag} {σ : L2.St} {H : Hp} {Q : VK} (q : tG K wx (rV K) (fCell F) σ H Q) : tN K wx F σ H Q := by
  obtain ⟨μ, τ, S, s, f, q⟩ := q
  refine ⟨μ, τ, S, s, f, ?_⟩
  unfold fCell at q
  cases e : F τ S with
  | stuck => rw [e] at q; exact q
  | exc x S1 => rw [e] at q; exact q
  | ok c S1 =>
    rw [e] at q
    intro μ' H' D E hn hD st cr
    have fin : isCell c = true → Q (.ref D) H' := fun hc => by
      simp only [Res.bind, hc, if_true] at q
      have E1 := E.unh hn s
      obtain ⟨ν, eν, hν⟩ := E1.pre
      have E2 : Ext H μ H' ((μ'.unh D).more D) := ⟨⟨ν ++ [D], by show (μ'.unh D).c ++ [D] = _; rw [eν, List.append_assoc], fun p hp => (List.mem_append.mp hp).elim (hν p) fun z => by rw [List.mem_singleton.mp z]; exact hn⟩, E1.res, E1.keep, E1.live⟩
      refine q _ _ H' E2 (st.more hD cr) ?_
      simp only [Rel]
      refine ⟨D, ?_, rfl⟩
      show (μ'.c ++ [D])[S1.length]? = some D
      rw [List.getElem?_append_right (by rw [show μ'.c.length = S1.length from st.len]; exact Nat.le_refl _), show μ'.c.length = S1.length from st.len]
      simp
    cases c <;> first | exact fin rfl | exact cr.elim
theorem pf_cell (h : PFN X wx e F) : PF X wx e (fCell F) := PE.imp h fun _ _ _ q => cell_imp q
end
/-! displays -/
section
variable {X : Cx} {wx : WT} {pos : Pos} {es : List Expr} {Fs : FA}
theorem Ext.back {H H' : Hp} {μ μ' : Mu} (E : Ext H μ H' μ') {p : Addr} (h : H' p = none) : H p = none := by
  cases z : H p with
  | none => rfl
  | some u => exact absurd h (E.live p (by rw [z]; simp))
theorem new_at {K : PySem.W.Frag} {wx : XW} {μ μ0 : Mu} {H0 H : Hp} {c : T} {S : Sto} {Q : VK} {p : Addr} {o : HO} (E : Ext H0 μ0 H μ) (q : postN K wx μ0 H0 (.ok c S) Q) (s : RelS K H μ S) (hp : H p = none) (hc : CellR K (upd H p o) (μ.hide p) p c) : Q (.ref p) (upd H p o) :=
  q (μ.hide p) (upd H p o) p (E.trans (Ext.hide hp)) (E.back hp) List.mem_cons_self (s.hide hp) hc
theorem rels_new {K : PySem.W.Frag} {μ : Mu} {H : Hp} {p : Addr} {o : HO} {ts : List T} {vs : List V} (hp : H p = none) (r : Rels K H μ ts vs) : Rels K (upd H p o) (μ.hide p) ts vs := Rels.to (μ := μ) (μ' := μ.hide p) (fun _ _ e => e) (hide_keep hp) ts r
def fLstN (Fs : FA) : FE := fun τ S => (Fs τ S).bind fun ts S1 => if ts.length ≤ sizeLine then .ok (.lst ts) S1 else .stuck
/-- .. from a reading -/
theorem tG.seqN {α β : Type} {K : PySem.W.Frag} {wx : WT} {rel : RL α β} {F : Fr → Sto → Res α} {k : α → Sto → Res T} {μ : Mu} {H : Hp} {τ : Fr} {σ : L2.St} {S : Sto} {Q : VK} {R : β → Hp → Prop}
    (s : RelS K H μ S) (f : RelF K H μ τ σ) (h : postN K (wx.fr τ σ) μ H ((F τ S).bind k) Q)
    (hR : ∀ μ1 H1 t v S1, At K μ H τ σ rel μ1 H1 t v S1 → postN K (wx.fr τ σ) μ H (k t S1) Q → R v H1) : tG K wx rel F σ H R := by
  refine ⟨μ, τ, S, s, f, ?_⟩
  cases e : F τ S with
  | stuck => rw [e] at h; exact h
  | exc x S1 => rw [e] at h; exact h
  | ok t S1 =>
    rw [e] at h
    exact fun μ1 v H1 x st r => hR μ1 H1 t v S1 ⟨x, st, f.mono x, r⟩ h
theorem pfn_lst (h : PFA X wx es Fs) : PFN X wx (.List es pos) (fLstN Fs) := PE.imp (pe_lst h) fun σ H Q h => by
  obtain ⟨μ, τ, S, s, f, h⟩ := h
  refine tG.seqN s f h fun μ1 H1 x v S1 A1 h1 => ?_
  have r : Rels X.K H1 μ1 x v := A1.rel
  by_cases hl : x.length ≤ sizeLine
  · rw [if_pos hl] at h1
    exact ⟨by rw [← Rels.length r]; exact hl, fun p hp => new_at A1.ext h1 A1.st hp ⟨v, upd_same, rels_new hp r⟩⟩
  · rw [if_neg hl] at h1; exact h1.elim
end

/-! ### comprehensions -/
def wipeT (τ : Fr) : List Nat → Fr
  | [] => τ
  | v :: vs => (wipeT τ vs).set v none
theorem relF_none {K : PySem.W.Frag} {H : Hp} {μ : Mu} {τ : Fr} {σ : L2.St} (f : RelF K H μ τ σ) (i : Nat) : RelF K H μ (τ.set i none) (σ.set i none) := by
  refine ⟨by simp [f.1], fun j t e => ?_⟩
  by_cases hj : i = j
  · subst hj
    by_cases hl : i < τ.length
    · rw [List.getElem?_set_self hl] at e; cases e
    · rw [List.getElem?_eq_none (by rw [List.length_set]; omega)] at e; cases e
  · rw [List.getElem?_set_ne hj] at e ⊢
    exact f.2 j t e
theorem relF_wipe {K : PySem.W.Frag} {H : Hp} {μ : Mu} {τ : Fr} {σ : L2.St} (f : RelF K H μ τ σ) : ∀ vs : List Nat, RelF K H μ (wipeT τ vs) (wipe σ vs)
  | [] => f
  | v :: vs => relF_none (relF_wipe f vs) v
theorem wipe_get (σ : L2.St) (i : Nat) : ∀ vs : List Nat, (wipe σ vs)[i]? = if i ∈ vs ∧ i < σ.length then some none else σ[i]?
  | [] => by simp [wipe]
  | v :: vs => by
    have ih := wipe_get σ i vs
    simp only [wipe]
    by_cases hv : v = i
    · subst hv
      by_cases hl : v < σ.length
      · rw [List.getElem?_set_self (by rw [wipe_length]; exact hl), if_pos ⟨List.mem_cons_self, hl⟩]
      · rw [List.getElem?_eq_none (by rw [List.length_set, wipe_length]; omega), if_neg (fun z => hl z.2), List.getElem?_eq_none (by omega)]
    · rw [List.getElem?_set_ne hv, ih]
      have : (i ∈ v :: vs) ↔ i ∈ vs := ⟨fun z => (List.mem_cons.mp z).elim (fun q => absurd q.symm hv) id, List.mem_cons_of_mem _⟩
      simp only [this]
theorem setsV_get (i : Nat) : ∀ (l : List (Nat × V)) (σ : L2.St), i ∉ l.map (·.1) → (setsV σ l)[i]? = σ[i]?
  | [], _, _ => rfl
  | p :: l, σ, h => by
    simp only [List.map_cons, List.mem_cons, not_or] at h
    have := setsV_get i l (σ.set p.1 (some p.2)) h.2
    show (setsV (σ.set p.1 (some p.2)) l)[i]? = _
    rw [this, List.getElem?_set_ne (fun z => h.1 z.symm)]
theorem setsV_length : ∀ (l : List (Nat × V)) (σ : L2.St), (setsV σ l).length = σ.length
  | [], _ => rfl
  | p :: l, σ => by
    show (setsV (σ.set p.1 (some p.2)) l).length = _
    rw [setsV_length l, List.length_set]
theorem wipe_back {σ : L2.St} {vs : List Nat} {l : List (Nat × V)} (h : ∀ i ∈ l.map (·.1), i ∈ vs) : wipe (setsV (wipe σ vs) l) vs = wipe σ vs := by
  apply List.ext_getElem?
  intro i
  rw [wipe_get, setsV_length, wipe_length]
  by_cases hi : i ∈ vs ∧ i < σ.length
  · rw [if_pos hi, wipe_get, if_pos hi]
  · rw [if_neg hi]
    by_cases hv : i ∈ l.map (·.1)
    · have h1 := h i hv
      have h2 : ¬ i < σ.length := fun z => hi ⟨h1, z⟩
      rw [List.getElem?_eq_none (by rw [setsV_length, wipe_length]; omega), List.getElem?_eq_none (by rw [wipe_length]; omega)]
    · rw [setsV_get i l _ hv]
def slotsIn (l : Asg) (vs : List Nat) : Bool := l.all fun p => vs.contains p.1
theorem slotsIn_mem {K : PySem.W.Frag} {H : Hp} {μ : Mu} {l : Asg} {l' : List (Nat × V)} {vs : List Nat} (h : slotsIn l vs = true) (r : AsgR K H μ l l') : ∀ j ∈ l'.map (·.1), j ∈ vs := fun j hj => by
  rw [AsgR.slots r] at hj
  obtain ⟨p, hp, rfl⟩ := List.mem_map.mp hj
  have := List.all_eq_true.mp h p hp
  simpa using this
def lcF (g : GT) (Ft : FT) (Fe : FE) (vs : List Nat) (τ : Fr) : List T → Sto → Res (List T)
  | [], S => .ok [] S
  | x :: xs, S => match g x with
    | none => .stuck
    | some l => if slotsIn l vs then (Ft (setsT τ l) S).nox.bind fun k S1 => match k with
        | true => (Fe (setsT τ l) S1).nox.bind fun y S2 => (lcF g Ft Fe vs τ xs S2).bind fun ys S3 => .ok (y :: ys) S3
        | false => lcF g Ft Fe vs τ xs S1
      else .stuck
def fLc (Fi : FI) (g : GT) (Ft : FT) (Fe : FE) (vs : List Nat) : FE := fun τ S => (Fi τ S).bind fun xs S1 => if xs.length ≤ sizeLine then (lcF g Ft Fe vs (wipeT τ vs) xs S1).bind fun ys S2 => .ok (.lst ys) S2 else .stuck
def fYes : FT := fun _ S => .ok true S
def PFTs (X : Cx) (wx : WT) (ifs : List Expr) (F : FT) : Prop := PTs X ifs (tG X.K wx rB F)
theorem tG.known {α β : Type} {K : PySem.W.Frag} {wx : WT} {rel : RL α β} {F : Fr → Sto → Res α} {μ : Mu} {H : Hp} {τ : Fr} {σ : L2.St} {S S1 : Sto} {t : α} {R : β → Hp → Prop} (s : RelS K H μ S) (f : RelF K H μ τ σ) (e : F τ S = .ok t S1)
    (hR : ∀ μ1 H1 v, At K μ H τ σ rel μ1 H1 t v S1 → R v H1) : tG K wx rel F σ H R := by
  refine ⟨μ, τ, S, s, f, ?_⟩
  rw [e]
  exact fun μ1 v H1 x st r => hR μ1 H1 v ⟨x, st, f.mono x, r⟩
section
variable {X : Cx} {wx : WT} {pos : Pos}
theorem pfts_nil : PFTs X wx [] fYes := ⟨fun pins s σ H Q I h => pts_nil.run pins s σ H Q I (by
  obtain ⟨μ, τ, S, st, f, q⟩ := h
  exact q.here st rfl)⟩
theorem pfts_one {c : Expr} {F : FT} (h : PFT X wx c F) : PFTs X wx [c] F := pts_one h
theorem lc_imp {Fi : FI} {g : GT} {Ft : FT} {Fe : FE} {vs : List Nat} {σ : L2.St} {H : Hp} {Q : VK} (h : tN X.K wx (fLc Fi g Ft Fe vs) σ H Q) : tLc (wiT X.K wx Fi) (gT X.K g) (tG X.K wF rB Ft) (tG X.K wF (rV X.K) Fe) vs σ H Q := by
  obtain ⟨μ, τ, S, s, f, h⟩ := h
  refine tG.seqN s f h fun μ1 H1 xs J S1 A1 h1 => ?_
  by_cases hl : xs.length ≤ sizeLine
  · rw [if_pos hl] at h1
    intro D hD
    have hD0 : H D = none := A1.ext.back hD
    -- what is kept: the list so far stands at D, which no tree names
    refine ⟨fun i m H2 => ∃ M S2 acc accT, Ext H1 μ1 H2 M ∧ D ∈ M.r ∧ RelS X.K H2 M S2 ∧ RelF X.K H2 M τ σ ∧ H2 D = some (.lst acc) ∧ Rels X.K H2 M accT acc ∧ acc.length ≤ i ∧ i ≤ xs.length ∧ m = xs.length - i ∧
        postN X.K (wx.fr τ σ) μ H ((lcF g Ft Fe vs (wipeT τ vs) (xs.drop i) S2).bind fun ys S3 => .ok (.lst (accT ++ ys)) S3) Q,
      ⟨xs.length, μ1.hide D, S1, [], [], Ext.hide hD, List.mem_cons_self, A1.st.hide hD, RelF.to (μ := μ1) (fun _ _ e => e) (hide_keep hD) A1.fr, upd_same, by simp only [Rels], Nat.zero_le _, Nat.zero_le _, rfl, by simpa using h1⟩, fun i m H2 hW => ?_⟩
    obtain ⟨M, S2, acc, accT, E2, nr2, s2, f2, d2, a2, hai, hix, rfl, h2⟩ := hW
    obtain ⟨go, stop⟩ := A1.rel M H2 E2
    by_cases hlt : i < xs.length
    · rw [drop_cons hlt] at h2
      obtain ⟨hgo, hy⟩ := go i xs[i] (List.getElem?_eq_getElem hlt)
      refine .inr ⟨hgo, fun H' => ∃ M S2 acc accT, Ext H1 μ1 H' M ∧ D ∈ M.r ∧ RelS X.K H' M S2 ∧ RelF X.K H' M τ σ ∧ H' D = some (.lst acc) ∧ Rels X.K H' M accT acc ∧ acc.length ≤ i + 1 ∧
        postN X.K (wx.fr τ σ) μ H ((lcF g Ft Fe vs (wipeT τ vs) (xs.drop (i + 1)) S2).bind fun ys S3 => .ok (.lst (accT ++ ys)) S3) Q, fun H' hN' => ?_, fun v H3 yl => ?_⟩
      · obtain ⟨M3, S3, acc3, accT3, q1, q2, q3, q4, q5, q6, q7, q8⟩ := hN'
        exact ⟨xs.length - (i + 1), by omega, M3, S3, acc3, accT3, q1, q2, q3, q4, q5, q6, q7, hlt, rfl, q8⟩
      · -- a turn
        obtain ⟨sm, hr⟩ := hy v H3 yl
        have E3 : Ext H2 M H3 M := Ext.of_same sm
        have s3 := s2.same sm
        have f3 := f2.mono E3
        simp only [lcF] at h2
        cases eg : g xs[i] with
        | none => simp only [eg] at h2; exact h2.elim
        | some l =>
          simp only [eg] at h2
          by_cases ha : slotsIn l vs = true
          · rw [if_pos ha] at h2
            refine ⟨M, xs[i], l, hr S2 s2, eg, fun l' fl => ⟨wipe_back (slotsIn_mem ha fl), ?_⟩⟩
            have fb : RelF X.K H3 M (setsT (wipeT τ vs) l) (setsV (wipe σ vs) l') := RelF.sets fl (relF_wipe f3 vs)
            cases et : Ft (setsT (wipeT τ vs) l) S2 with
            | stuck => rw [et] at h2; exact h2.elim
            | exc x S4 => rw [et] at h2; exact h2.elim
            | ok k S4 =>
              rw [et] at h2
              simp only [Res.nox, Res.bind] at h2
              refine tG.known s3 fb et fun M4 H4 b A4 => ?_
              have e : k = b := A4.rel
              subst e
              have E4 : Ext H2 M H4 M4 := E3.trans A4.ext
              cases k with
              | false =>
                simp only at h2
                refine iteF ⟨M4, S4, acc, accT, E2.trans E4, A4.ext.res.1 D nr2, A4.st, f2.mono E4, ?_, Rels.mono E4 _ a2, by omega, h2⟩
                exact E4.keep D _ d2 (s2.dis D nr2)
              | true =>
                simp only at h2
                refine iteT ?_
                cases ee : Fe (setsT (wipeT τ vs) l) S4 with
                | stuck => rw [ee] at h2; exact h2.elim
                | exc x S5 => rw [ee] at h2; exact h2.elim
                | ok y S5 =>
                  rw [ee] at h2
                  simp only at h2
                  refine tG.known A4.st A4.fr ee fun M5 H5 w A5 => ?_
                  have E5 : Ext H2 M H5 M5 := E4.trans A5.ext
                  have nr5 : D ∈ M5.r := A5.ext.res.1 D (A4.ext.res.1 D nr2)
                  have d5 : H5 D = some (.lst acc) := E5.keep D _ d2 (s2.dis D nr2)
                  refine ⟨acc, d5, by omega, M5, S5, acc ++ [w], accT ++ [y], (E2.trans E5).hid hD, nr5, A5.st.hid nr5, RelF.to (μ := M5) (fun _ _ e => e) (hid_keep nr5) (f2.mono E5), upd_same, ?_, by simp; omega, ?_⟩
                  · refine Rels.to (μ := M5) (fun _ _ e => e) (hid_keep nr5) _ (Rels.append (Rels.mono E5 _ a2) ?_)
                    simp only [Rels]
                    exact ⟨w, [], rfl, A5.rel, rfl⟩
                  · cases er : lcF g Ft Fe vs (wipeT τ vs) (xs.drop (i + 1)) S5 with
                    | stuck => rw [er] at h2; exact h2.elim
                    | exc x S6 => rw [er] at h2; exact h2
                    | ok ys S6 =>
                      rw [er] at h2
                      simp only [Res.bind] at h2 ⊢
                      rw [List.append_assoc]
                      exact h2
          · rw [if_neg ha] at h2; exact h2.elim
    · have e : i = xs.length := by omega
      subst e
      rw [List.drop_length] at h2
      refine .inl ⟨stop _ (Nat.le_refl _), ?_⟩
      simp only [lcF, Res.bind, List.append_nil] at h2
      exact h2 M H2 D (A1.ext.trans E2) hD0 nr2 s2 ⟨acc, d2, a2⟩
  · rw [if_neg hl] at h1; exact h1.elim
theorem pfn_lc {elt tg iter : Expr} {ifs : List Expr} {scope : Scope} {own : List (Str × Nat)} {Fi : FI} {g : GT} {Ft : FT} {Fe : FE} (hc : X.calm = true) (hN : X.N.Nodup) (hi : PFI X wx tg iter Fi) (ok : BlkOk X.N X.env.scope scope own)
    (hg : ∀ (s : Shared) (H : Hp) (C : Addr) (cl : List (Str × Addr)) (fp : List Addr), PFG (X.blk s H scope (compEnvC scope cl C X.env) fp) tg g) (ht : ∀ (s : Shared) (H : Hp) (C : Addr) (cl : List (Str × Addr)) (fp : List Addr), PFTs (X.blk s H scope (compEnvC scope cl C X.env) fp) wF ifs Ft)
    (he : ∀ (s : Shared) (H : Hp) (C : Addr) (cl : List (Str × Addr)) (fp : List Addr), PF (X.blk s H scope (compEnvC scope cl C X.env) fp) wF elt Fe) (hs : ∀ x, foldedSetIterable iter X.env x = pure x := by intro _; rfl) :
    PFN X wx (.ListComp elt [⟨tg, iter, ifs, 0⟩] scope pos) (fLc Fi g Ft Fe (own.map (·.2))) := PE.imp (pe_lc (g := gT X.K g) (tt := tG X.K wF rB Ft) (te := tG X.K wF (rV X.K) Fe) hc hN hi ok hg ht he hs) fun _ _ _ h => lc_imp h
/-- a name set to what is new -/
theorem set_imp {K : PySem.W.Frag} {i : Nat} {G : FE} {D : Ends} {σ : L2.St} {H : Hp} (h : tS K wx (bSet i G) D σ H) : tG K wx (rV K) G σ H (fun x H1 => D.nx (σ.set i (some x)) H1) := by
  obtain ⟨μ, τ, S, s, f, h⟩ := h
  exact tG.seqS s f h fun μ1 H1 t v S1 A1 h1 => h1 μ1 _ H1 (Ext.refl _ _) A1.st (A1.fr.set A1.rel)
section
variable {elt tg iter : Expr} {ifs : List Expr} {scope : Scope} {own : List (Str × Nat)} {Fi : FI} {g : GT} {Ft : FT} {Fe : FE} {i : Nat} {y : Str} {py spos : Pos} (hc : X.calm = true) (hN : X.N.Nodup) (hy : X.N[i]? = some y) (hyl : X.env.scope.names.lookup y = some .local)
  (hsw : swapsWith (.ListComp elt [⟨tg, iter, ifs, 0⟩] scope pos) (some (.Name y py)) spos.line X.env = pure true) (hi : PFI X wx tg iter Fi) (ok : BlkOk X.N X.env.scope scope own)
  (hg : ∀ (s : Shared) (H : Hp) (C : Addr) (cl : List (Str × Addr)) (fp : List Addr), PFG (X.blk s H scope (compEnvC scope cl C X.env) fp) tg g) (ht : ∀ (s : Shared) (H : Hp) (C : Addr) (cl : List (Str × Addr)) (fp : List Addr), PFTs (X.blk s H scope (compEnvC scope cl C X.env) fp) wF ifs Ft)
  (he : ∀ (s : Shared) (H : Hp) (C : Addr) (cl : List (Str × Addr)) (fp : List Addr), PF (X.blk s H scope (compEnvC scope cl C X.env) fp) wF elt Fe) (hs : ∀ x, foldedSetIterable iter X.env x = pure x := by intro _; rfl)
include hc hN hy hyl hsw hi ok hg ht he hs
theorem pfs_setLc : PFS X wx (.Assign [.Name y py] (.ListComp elt [⟨tg, iter, ifs, 0⟩] scope pos) spos) (bSet i (fPure (fLc Fi g Ft Fe (own.map (·.2))))) :=
  PS.imp (ps_setLc (g := gT X.K g) (tt := tG X.K wF rB Ft) (te := tG X.K wF (rV X.K) Fe) hc hN hy hyl hsw hi ok hg ht he hs) fun D σ H h => by
    have h1 := pure_imp (set_imp h)
    exact lc_imp h1
theorem pfs_setLcC : PFS X wx (.Assign [.Name y py] (.ListComp elt [⟨tg, iter, ifs, 0⟩] scope pos) spos) (bSet i (fCell (fLc Fi g Ft Fe (own.map (·.2))))) :=
  PS.imp (ps_setLc (g := gT X.K g) (tt := tG X.K wF rB Ft) (te := tG X.K wF (rV X.K) Fe) hc hN hy hyl hsw hi ok hg ht he hs) fun D σ H h => by
    have h1 := cell_imp (set_imp h)
    exact lc_imp h1
end
end
end TL
set_option Elab.async false
set_option linter.all false
set_option maxRecDepth 100000
namespace TL
open PySem PySem.Spec L2
open PyProof.Rows hiding St
/-! ### trees as data -/
mutual
def toD : T → Option PyData
  | .non => some .none
  | .bl b => some (.bool b)
  | .int i => some (.int i)
  | .str x => some (.str x)
  | .tup ts => (toDs ts).map .tuple
  | .lst ts => (toDs ts).map .list
  | .sls ts => (toDs ts).map .list
  | .dct _ _ => none
  | .ref _ => none
  | .val _ => none
def toDs : List T → Option (List PyData)
  | [] => some []
  | t :: ts => (toD t).bind fun d => (toDs ts).bind fun ds => some (d :: ds)
end
mutual
theorem toD_ok {K : PySem.W.Frag} {H : Hp} {μ : Mu} : ∀ (t : T) {v : V} {d : PyData}, toD t = some d → Rel K H μ t v → Dp K H v d
  | .non, _, _, e, r => by simp only [toD] at e; cases e; simp only [Rel] at r; subst r; exact .non
  | .bl _, _, _, e, r => by simp only [toD] at e; cases e; simp only [Rel] at r; subst r; exact .bl _
  | .int _, _, _, e, r => by simp only [toD] at e; cases e; simp only [Rel] at r; subst r; exact .int _
  | .str _, _, _, e, r => by simp only [toD] at e; cases e; simp only [Rel] at r; subst r; exact .str _
  | .tup ts, _, _, e, r => by
    simp only [toD, Option.map_eq_some_iff] at e
    obtain ⟨ds, e, rfl⟩ := e
    simp only [Rel] at r
    obtain ⟨a, xs, rfl, o, r⟩ := r
    exact .tup (o.imp (fun z => z.1) id) (toDs_ok ts e r)
  | .lst ts, _, _, e, r => by
    simp only [toD, Option.map_eq_some_iff] at e
    obtain ⟨ds, e, rfl⟩ := e
    simp only [Rel] at r
    obtain ⟨a, xs, rfl, o, r⟩ := r
    exact .lst (.inl (.inl o.1)) (toDs_ok ts e r)
  | .sls ts, _, _, e, r => by
    simp only [toD, Option.map_eq_some_iff] at e
    obtain ⟨ds, e, rfl⟩ := e
    simp only [Rel] at r
    obtain ⟨a, xs, rfl, o, r⟩ := r
    exact .lst (o.imp (fun z => z.1) id) (toDs_ok ts e r)
  | .dct _ _, _, _, e, _ => by simp only [toD] at e; cases e
  | .ref _, _, _, e, _ => by simp only [toD] at e; cases e
  | .val _, _, _, e, _ => by simp only [toD] at e; cases e
theorem toDs_ok {K : PySem.W.Frag} {H : Hp} {μ : Mu} : ∀ (ts : List T) {vs : List V} {ds : List PyData}, toDs ts = some ds → Rels K H μ ts vs → DpAll K H vs ds
  | [], _, _, e, r => by simp only [toDs] at e; cases e; simp only [Rels] at r; subst r; exact .nil
  | t :: ts, _, _, e, r => by
    simp only [toDs, Option.bind_eq_some_iff] at e
    obtain ⟨d, e1, ds, e2, e⟩ := e
    cases e
    simp only [Rels] at r
    obtain ⟨v, r', rfl, r1, r2⟩ := r
    exact .cons (toD_ok t e1 r1) (toDs_ok ts e2 r2)
end
/-- a list cell too -/
def toD1 (S : Sto) (t : T) : Option PyData := match t with
  | .ref n => match S[n]? with
    | some (.lst ts) => (toDs ts).map .list
    | _ => none
  | t => toD t
theorem toD1_ok {K : PySem.W.Frag} {H : Hp} {μ : Mu} {S : Sto} {t : T} {v : V} {d : PyData} (e : toD1 S t = some d) (s : RelS K H μ S) (r : Rel K H μ t v) : Dp K H v d := by
  cases t with
  | ref n =>
    simp only [toD1] at e
    split at e
    · rename_i ts e1
      simp only [Option.map_eq_some_iff] at e
      obtain ⟨ds, e, rfl⟩ := e
      obtain ⟨a, vs, rfl, h, q⟩ := plnL_ok (t := .ref n) (ts := ts) (by simp only [plnL, e1]) s r
      exact .lst (.inl (.inl h)) (toDs_ok ts e q)
    · cases e
  | _ => exact toD_ok _ e r
/-! ### dicts as rows of keys and trees -/
def getK : List Key → List T → Key → Option T
  | k' :: ks, t :: ts, k => if k' = k then some t else getK ks ts k
  | _, _, _ => none
def putK' (ks : List Key) (ts : List T) (k : Key) (t : T) : List Key × List T :=
  if ks.any (fun k' => decide (k' = k)) then (ks, List.zipWith (fun k' u => if k' = k then t else u) ks ts) else (ks ++ [k], ts ++ [t])
def keyT : T → Option Key
  | .int i => some (.inl i)
  | .str x => some (.inr x)
  | _ => none
def tKey : Key → T
  | .inl i => .int i
  | .inr x => .str x
section
variable {K : PySem.W.Frag} {H : Hp} {μ : Mu} {S : Sto}
theorem keyT_ok {t : T} {k : Key} {v : V} (e : keyT t = some k) (r : Rel K H μ t v) : v = kV k := by
  cases t <;> first
    | (simp only [keyT] at e; cases e; simp only [Rel] at r; subst r; rfl)
    | (simp only [keyT] at e; cases e)
theorem tKey_rel (k : Key) : Rel K H μ (tKey k) (kV k) := by
  cases k <;> simp only [tKey, kV, Rel]
theorem getK_ok : ∀ {kvs : List (Key × V)} {ks : List Key} {ts : List T} {k : Key} {t : T}, kvs.map (·.1) = ks → Rels K H μ ts (kvs.map (·.2)) → getK ks ts k = some t → ∃ v, valV kvs k = some v ∧ Rel K H μ t v
  | [], _, _, _, _, e, _, g => by subst e; simp [getK] at g
  | (k', v) :: kvs, _, ts, k, t, e, r, g => by
    subst e
    cases ts with
    | nil => simp [Rels] at r
    | cons u ts =>
      simp only [List.map_cons, Rels] at r
      obtain ⟨w, r', e, r1, r2⟩ := r
      cases e
      simp only [List.map_cons, getK] at g
      split at g
      · rename_i h
        cases g
        exact ⟨v, valV_pos h, r1⟩
      · rename_i h
        obtain ⟨w, e1, e2⟩ := getK_ok rfl r2 g
        exact ⟨w, by rw [valV_neg h]; exact e1, e2⟩
theorem getK_none : ∀ {kvs : List (Key × V)} {ks : List Key} {ts : List T} {k : Key}, kvs.map (·.1) = ks → Rels K H μ ts (kvs.map (·.2)) → getK ks ts k = none → valV kvs k = none
  | [], _, _, _, e, _, g => rfl
  | (k', v) :: kvs, _, ts, k, e, r, g => by
    subst e
    cases ts with
    | nil => simp [Rels] at r
    | cons u ts =>
      simp only [List.map_cons, Rels] at r
      obtain ⟨w, r', e, r1, r2⟩ := r
      cases e
      simp only [List.map_cons, getK] at g
      split at g
      · cases g
      · rename_i h
        rw [valV_neg h]
        exact getK_none rfl r2 g
theorem rels_zip : ∀ {kvs : List (Key × V)} {ts : List T} {k : Key} {t : T} {v : V}, Rels K H μ ts (kvs.map (·.2)) → Rel K H μ t v →
    Rels K H μ (List.zipWith (fun k' u => if k' = k then t else u) (kvs.map (·.1)) ts) ((kvs.map fun kv => if kv.1 = k then (kv.1, v) else kv).map (·.2))
  | [], ts, k, t, v, r, g => by
    simp only [List.map_nil, List.zipWith_nil_left, Rels]
  | (k', w) :: kvs, ts, k, t, v, r, g => by
    cases ts with
    | nil => simp [Rels] at r
    | cons u ts =>
      simp only [List.map_cons, Rels] at r
      obtain ⟨w', r', e, r1, r2⟩ := r
      cases e
      simp only [List.map_cons, List.zipWith_cons_cons, Rels]
      refine ⟨_, _, rfl, ?_, rels_zip r2 g⟩
      by_cases h : k' = k
      · simp only [h, if_true]; exact g
      · simp only [h, if_false]; exact r1
theorem putK_keys (k : Key) (v : V) : ∀ kvs : List (Key × V), (kvs.map fun kv => if kv.1 = k then (kv.1, v) else kv).map (·.1) = kvs.map (·.1)
  | [] => rfl
  | (k', w) :: kvs => by
    simp only [List.map_cons, putK_keys k v kvs]
    by_cases h : k' = k <;> simp [h]
theorem putK_ok {kvs : List (Key × V)} {ks : List Key} {ts : List T} {k : Key} {t : T} {v : V} (e : kvs.map (·.1) = ks) (r : Rels K H μ ts (kvs.map (·.2))) (g : Rel K H μ t v) :
    (putK kvs k v).map (·.1) = (putK' ks ts k t).1 ∧ Rels K H μ (putK' ks ts k t).2 ((putK kvs k v).map (·.2)) := by
  subst e
  have ha : (kvs.map (·.1)).any (fun k' => decide (k' = k)) = kvs.any (fun kv => decide (kv.1 = k)) := by rw [List.any_map]; rfl
  unfold putK putK'
  rw [ha]
  by_cases h : kvs.any (fun kv => decide (kv.1 = k)) = true
  · rw [if_pos h, if_pos h]
    exact ⟨putK_keys k v kvs, rels_zip r g⟩
  · rw [if_neg h, if_neg h]
    simp only [List.map_append, List.map_cons, List.map_nil]
    exact ⟨trivial, Rels.append r (by simp only [Rels]; exact ⟨v, [], rfl, g, rfl⟩)⟩
end

/-! ### operations on trees -/
def addT (S : Sto) (x y : T) : Option T := match x, y with
  | .int i, .int j => some (.int (i + j))
  | .str a, .str b => if a.length + b.length ≤ sizeLine then some (.str (a ++ b)) else none
  | .tup a, .tup b => if a.length + b.length ≤ sizeLine then some (.tup (a ++ b)) else none
  | x, y => match plnL S x, plnL S y with
    | some a, some b => if a.length + b.length ≤ sizeLine then some (.lst (a ++ b)) else none
    | _, _ => none
def intsT (g : Int → Int → Option T) (_ : Sto) (x y : T) : Option T := match x, y with
  | .int i, .int j => g i j
  | _, _ => none
def mulT : Sto → T → T → Option T := intsT fun i j => if (decide (-(2 ^ 64) < i) && decide (i < 2 ^ 64)) || (decide (-(2 ^ 64) < j) && decide (j < 2 ^ 64)) then some (.int (i * j)) else none
def fdivT : Sto → T → T → Option T := intsT fun i j => if decide (0 < j) && decide (j < 1073741824) then some (.int (i / j)) else none
def modT : Sto → T → T → Option T := intsT fun i j => if decide (0 < j) then some (.int (i % j)) else none
def powT : Sto → T → T → Option T := intsT fun i j => if decide (0 ≤ j) && (decide (j ≤ 1000000) && decide (i.natAbs < 2 ^ 64)) then some (.int (i ^ j.toNat)) else none
def subT : Sto → T → T → Option T := intsT fun i j => some (.int (i - j))
def ltT (_ : Sto) (x y : T) : Option T := match x, y with
  | .int i, .int j => some (.bl (decide (i < j)))
  | .str a, .str b => some (.bl (decide (a.cps.toList < b.cps.toList)))
  | _, _ => none
def leT : Sto → T → T → Option T := intsT fun i j => some (.bl (decide (i ≤ j)))
def gtT : Sto → T → T → Option T := intsT fun i j => some (.bl (decide (j < i)))
def geT : Sto → T → T → Option T := intsT fun i j => some (.bl (decide (j ≤ i)))
/-- two dicts that hold the same -/
def dctSame (ks : List Key) (ts : List T) (ls : List Key) (us : List T) : Bool :=
  decide (ks.length = ls.length) && (List.zip ks ts).all fun p => match p.2, getK ls us p.1 with
    | .non, some .non => true
    | .bl a, some (.bl b) => a == b
    | .int a, some (.int b) => decide (a = b)
    | .str a, some (.str b) => decide (a = b)
    | _, _ => false
def eqB (S : Sto) (x y : T) : Option Bool := match toD1 S x, toD1 S y with
  | some d, some e => if SeqAt.shaped d && SeqAt.shaped e then some (PyData.eqv d e) else none
  | _, _ => match dctT S x, dctT S y with
    | some (ks, ts), some (ls, us) => if dctSame ks ts ls us then some true else none
    | _, _ => none
def eqT (S : Sto) (x y : T) : Option T := (eqB S x y).map .bl
def neT (S : Sto) (x y : T) : Option T := (eqB S x y).map fun b => .bl !b
def isNT (_ : Sto) (x y : T) : Option T := match x, y with
  | .non, .non => some (.bl true)
  | .ref _, .non => some (.bl false)
  | .val _, .non => none
  | _, .non => some (.bl false)
  | _, _ => none
def notNT (S : Sto) (x y : T) : Option T := match isNT S x y with
  | some (.bl b) => some (.bl !b)
  | _ => none
def flatT : T → Option V
  | .non => some .non
  | .bl b => some (.bl b)
  | .int i => some (.int i)
  | .str x => some (.str x)
  | _ => none
def flats : List T → Option (List V)
  | [] => some []
  | t :: ts => (flatT t).bind fun v => (flats ts).bind fun vs => some (v :: vs)
def inB (S : Sto) (x y : T) : Option Bool := match dctT S y with
  | some (ks, ts) => match keyT x with
    | some k => some (getK ks ts k).isSome
    | none => none
  | none => match x, y with
    | .str a, .str b => some (!(Builtin.Str.occurrences b a 0 b.length 1).isEmpty)
    | x, .tup ts => match flatT x, flats ts with
      | some v, some vs => some (inV v vs)
      | _, _ => none
    | x, y => match seqL S y with
      | some ts => match flatT x, flats ts with
        | some v, some vs => some (inV v vs)
        | _, _ => none
      | none => none
def inT (S : Sto) (x y : T) : Option T := (inB S x y).map .bl
def ninT (S : Sto) (x y : T) : Option T := (inB S x y).map fun b => .bl !b
def ixT (S : Sto) (x y : T) : Option T := match dctT S x with
  | some (ks, ts) => (keyT y).bind fun k => getK ks ts k
  | none => match x, y with
    | .tup ts, .int i => atI ts i
    | .str a, .int i => if a.length ≤ sizeLine then (atI a.cps.toList i).map fun c => .str ⟨#[c]⟩ else none
    | x, .int i => (seqL S x).bind fun ts => atI ts i
    | _, _ => none
section
variable {X : Cx} {K : PySem.W.Frag} {H : Hp} {μ : Mu} {S : Sto}
theorem rel_bl {b : Bool} : Rel K H μ (.bl b) (.bl b) := by simp only [Rel]
theorem rel_int {b : Int} : Rel K H μ (.int b) (.int b) := by simp only [Rel]
theorem rel_str {b : Str} : Rel K H μ (.str b) (.str b) := by simp only [Rel]
theorem op_ints {f : Value → Value → Sem Value} {C : Int → Int → Prop} {g' : Int → Int → V} {g : Int → Int → Option T} (h : OpR X f (L2.rI C g')) (hg : ∀ i j t, g i j = some t → C i j ∧ ∀ K H μ, Rel K H μ t (g' i j)) : OpR X f (rP X.K (intsT g)) := by
  intro pins s σ H x y v u Q I rx ry q
  obtain ⟨μ, S, tx, ty, t, st, r1, r2, e, q⟩ := q
  unfold intsT at e
  split at e
  · rename_i i j
    simp only [Rel] at r1 r2
    obtain ⟨c, r⟩ := hg i j t e
    exact h pins s σ H x y v u Q I rx ry ⟨i, j, r1, r2, c, q _ H (Same.refl _) (r _ _ _)⟩
  · cases e
theorem op_ints0 {f : Value → Value → Sem Value} {g' : Int → Int → V} {g : Int → Int → Option T} (h : OpR X f (rI0 g')) (hg : ∀ i j t, g i j = some t → ∀ K H μ, Rel K H μ t (g' i j)) : OpR X f (rP X.K (intsT g)) := by
  intro pins s σ H x y v u Q I rx ry q
  obtain ⟨μ, S, tx, ty, t, st, r1, r2, e, q⟩ := q
  unfold intsT at e
  split at e
  · rename_i i j
    simp only [Rel] at r1 r2
    exact h pins s σ H x y v u Q I rx ry ⟨i, j, r1, r2, q _ H (Same.refl _) (hg i j t e _ _ _)⟩
  · cases e
theorem o_sub : OpR X (binaryOp .Sub) (rP X.K subT) := op_ints0 op_sub fun i j t e K H μ => by cases e; exact rel_int
theorem o_mul : OpR X (binaryOp .Mult) (rP X.K mulT) := op_ints op_mul fun i j t e => by
  split at e
  · rename_i h
    cases e
    simp only [Bool.or_eq_true, Bool.and_eq_true, decide_eq_true_eq] at h
    exact ⟨h, fun _ _ _ => rel_int⟩
  · cases e
theorem o_fdiv : OpR X (binaryOp .FloorDiv) (rP X.K fdivT) := op_ints op_fdiv fun i j t e => by
  split at e
  · rename_i h
    cases e
    simp only [Bool.and_eq_true, decide_eq_true_eq] at h
    exact ⟨h, fun _ _ _ => rel_int⟩
  · cases e
theorem o_mod : OpR X (binaryOp .Mod) (rP X.K modT) := op_ints op_mod fun i j t e => by
  split at e
  · rename_i h
    cases e
    simp only [decide_eq_true_eq] at h
    exact ⟨h, fun _ _ _ => rel_int⟩
  · cases e
theorem o_pow : OpR X (binaryOp .Pow) (rP X.K powT) := op_ints op_pow fun i j t e => by
  split at e
  · rename_i h
    cases e
    simp only [Bool.and_eq_true, decide_eq_true_eq] at h
    exact ⟨h, fun _ _ _ => rel_int⟩
  · cases e
theorem o_le : OpR X (compareOp .LtE) (rP X.K leT) := op_ints0 op_le fun i j t e K H μ => by cases e; exact rel_bl
theorem o_gt : OpR X (compareOp .Gt) (rP X.K gtT) := op_ints0 op_gt fun i j t e K H μ => by cases e; exact rel_bl
theorem o_ge : OpR X (compareOp .GtE) (rP X.K geT) := op_ints0 op_ge fun i j t e K H μ => by cases e; exact rel_bl
theorem o_lt : OpR X (compareOp .Lt) (rP X.K ltT) := by
  intro pins s σ H x y v u Q I rx ry q
  obtain ⟨μ, S, tx, ty, t, st, r1, r2, e, q⟩ := q
  unfold ltT at e
  split at e
  · rename_i i j
    cases e
    simp only [Rel] at r1 r2
    exact op_lt pins s σ H x y v u Q I rx ry ⟨i, j, r1, r2, q _ H (Same.refl _) rel_bl⟩
  · rename_i i j
    cases e
    simp only [Rel] at r1 r2
    exact op_lt_str pins s σ H x y v u Q I rx ry ⟨i, j, r1, r2, q _ H (Same.refl _) rel_bl⟩
  · cases e
theorem o_add : OpR X (binaryOp .Add) (rP X.K addT) := by
  intro pins s σ H x y v u Q I rx ry q
  obtain ⟨μ, S, tx, ty, t, st, r1, r2, e, q⟩ := q
  have lists : ∀ {a b : List T}, plnL S tx = some a → plnL S ty = some b → a.length + b.length ≤ sizeLine → t = .lst (a ++ b) → wpAny (model X.prog X.w) X.A (binaryOp .Add v u) (EP X pins σ Q) X.xe s := fun {a b} h1 h2 hl ht => by
    obtain ⟨p, xs, rfl, hp, ra⟩ := plnL_ok h1 st r1
    obtain ⟨p2, ys, rfl, hp2, rb⟩ := plnL_ok h2 st r2
    subst ht
    exact op_cat pins s σ H _ _ v u Q I rx ry ⟨p, p2, xs, ys, rfl, rfl, hp, hp2, by rw [← ra.length, ← rb.length]; exact hl, fun l nl => q _ _ (fresh_same nl) (rel_lst st nl (Rels.append ra rb))⟩
  unfold addT at e
  split at e
  · rename_i i j
    cases e
    simp only [Rel] at r1 r2
    exact op_add pins s σ H x y v u Q I rx ry ⟨i, j, r1, r2, q _ H (Same.refl _) rel_int⟩
  · rename_i a b
    split at e
    · rename_i hl
      cases e
      simp only [Rel] at r1 r2
      exact op_add_str pins s σ H x y v u Q I rx ry ⟨a, b, r1, r2, hl, q _ H (Same.refl _) rel_str⟩
    · cases e
  · rename_i a b
    split at e
    · rename_i hl
      cases e
      obtain ⟨p, xs, rfl, hp, ra⟩ := tup_ok r1
      obtain ⟨p2, ys, rfl, hp2, rb⟩ := tup_ok r2
      refine op_catA pins s σ H _ _ v u Q I rx ry ⟨p, p2, xs, ys, rfl, rfl, hp, hp2, by rw [← ra.length, ← rb.length]; exact hl, fun h => ?_, fun _ h => ?_, fun _ _ l nl => q _ _ (fresh_same nl) (rel_tup st nl (Rels.append ra rb))⟩
      · have : a = [] := List.length_eq_zero_iff.mp (by rw [ra.length, h]; rfl)
        subst this
        exact q _ H (Same.refl _) r2
      · have : b = [] := List.length_eq_zero_iff.mp (by rw [rb.length, h]; rfl)
        subst this
        rw [List.append_nil] at q
        exact q _ H (Same.refl _) r1
    · cases e
  · split at e
    · rename_i a b h1 h2
      split at e
      · rename_i hl
        cases e
        exact lists h1 h2 hl rfl
      · cases e
    · cases e
theorem eqB_dct {ks ls : List Key} {ts us : List T} {x y : V} {tx ty : T} {S : Sto} (st : RelS X.K H μ S) (r1 : Rel X.K H μ tx x) (r2 : Rel X.K H μ ty y) (h1 : dctT S tx = some (ks, ts)) (h2 : dctT S ty = some (ls, us)) (h : dctSame ks ts ls us = true) :
    ∃ a b kvs lvs, x = .ref a ∧ y = .ref b ∧ H a = some (.dK kvs) ∧ H b = some (.dK lvs) ∧ kvs.length = lvs.length ∧ (∀ p ∈ kvs, valV lvs p.1 = some p.2 ∧ flatB p.2 = true) := by
  obtain ⟨a, kvs, rfl, ha, ek, rk⟩ := dctT_ok h1 st r1
  obtain ⟨b, lvs, rfl, hb, el, rl⟩ := dctT_ok h2 st r2
  unfold dctSame at h
  simp only [Bool.and_eq_true, decide_eq_true_eq, List.all_eq_true] at h
  refine ⟨a, b, kvs, lvs, rfl, rfl, ha, hb, by rw [← ek, ← el] at h; simpa using h.1, fun p hp => ?_⟩
  obtain ⟨i, hi, rfl⟩ := List.mem_iff_getElem.mp hp
  have e2 : (kvs.map (·.2))[i]? = some kvs[i].2 := by rw [List.getElem?_map, List.getElem?_eq_getElem hi]; rfl
  obtain ⟨t, et, rt⟩ := rk.getV e2
  have e1 : ks[i]? = some kvs[i].1 := by rw [← ek, List.getElem?_map, List.getElem?_eq_getElem hi]; rfl
  have hz : (kvs[i].1, t) ∈ List.zip ks ts := by
    have : (List.zip ks ts)[i]? = some (kvs[i].1, t) := by rw [List.getElem?_zip_eq_some]; exact ⟨e1, et⟩
    exact List.mem_of_getElem? this
  have q := h.2 _ hz
  simp only at q
  cases t <;> cases eg : getK ls us kvs[i].1 with
  | none => simp [eg] at q
  | some u =>
    rw [eg] at q
    obtain ⟨w, e3, rw'⟩ := getK_ok el rl eg
    cases u <;> simp only [Bool.false_eq_true] at q
    all_goals
      simp only [Rel] at rt rw'
      rw [e3, rt, rw']
      first
        | exact ⟨rfl, rfl⟩
        | (simp only [beq_iff_eq] at q; subst q; exact ⟨rfl, rfl⟩)
        | (simp only [decide_eq_true_eq] at q; subst q; exact ⟨rfl, rfl⟩)
end
end TL
set_option Elab.async false
set_option linter.all false
set_option maxRecDepth 100000
namespace TL
open PySem PySem.Spec L2
open PyProof.Rows hiding St
section
variable {X : Cx} {K : PySem.W.Frag} {H : Hp} {μ : Mu} {S : Sto}
theorem o_eq (hu : X.A.units + 64 < cLine) : OpR X (compareOp .Eq) (rP X.K eqT) := by
  intro pins s σ H x y v u Q I rx ry q
  obtain ⟨μ, S, tx, ty, t, st, r1, r2, e, q⟩ := q
  simp only [eqT, Option.map_eq_some_iff] at e
  obtain ⟨b, e, rfl⟩ := e
  unfold eqB at e
  split at e
  · rename_i d d' h1 h2
    split at e
    · rename_i hs
      cases e
      simp only [Bool.and_eq_true] at hs
      exact op_eqD hu pins s σ H x y v u Q I rx ry ⟨d, d', toD1_ok h1 st r1, toD1_ok h2 st r2, hs.1, hs.2, q _ H (Same.refl _) rel_bl⟩
    · cases e
  · split at e
    · rename_i ks ts ls us h1 h2
      split at e
      · rename_i hs
        cases e
        obtain ⟨a, b, kvs, lvs, e1, e2, ha, hb, hl, hp⟩ := eqB_dct st r1 r2 h1 h2 hs
        exact op_eq_dictA (by omega) pins s σ H x y v u Q I rx ry ⟨a, b, kvs, lvs, e1, e2, ha, hb, hl, hp, q _ H (Same.refl _) rel_bl⟩
      · cases e
    · cases e
theorem o_ne (hu : X.A.units + 64 < cLine) : OpR X (compareOp .NotEq) (rP X.K neT) := by
  intro pins s σ H x y v u Q I rx ry q
  obtain ⟨μ, S, tx, ty, t, st, r1, r2, e, q⟩ := q
  simp only [neT, Option.map_eq_some_iff] at e
  obtain ⟨b, e, rfl⟩ := e
  unfold eqB at e
  split at e
  · rename_i d d' h1 h2
    split at e
    · rename_i hs
      cases e
      simp only [Bool.and_eq_true] at hs
      exact op_neD hu pins s σ H x y v u Q I rx ry ⟨d, d', toD1_ok h1 st r1, toD1_ok h2 st r2, hs.1, hs.2, q _ H (Same.refl _) rel_bl⟩
    · cases e
  · split at e
    · rename_i ks ts ls us h1 h2
      split at e
      · rename_i hs
        cases e
        obtain ⟨a, b, kvs, lvs, e1, e2, ha, hb, hl, hp⟩ := eqB_dct st r1 r2 h1 h2 hs
        exact op_ne_dictA (by omega) pins s σ H x y v u Q I rx ry ⟨a, b, kvs, lvs, e1, e2, ha, hb, hl, hp, q _ H (Same.refl _) rel_bl⟩
      · cases e
    · cases e
theorem isNT_ok {tx ty t : T} {x y : V} (e : isNT S tx ty = some t) (r1 : Rel K H μ tx x) (r2 : Rel K H μ ty y) : y = .non ∧ t = .bl (decide (x = .non)) := by
  cases ty <;> (try (cases tx <;> simp only [isNT] at e <;> cases e; done))
  simp only [Rel] at r2
  subst r2
  cases tx <;> simp only [isNT] at e <;> (try (cases e; done)) <;> cases e <;> simp only [Rel] at r1
  · subst r1; exact ⟨rfl, rfl⟩
  · subst r1; exact ⟨rfl, rfl⟩
  · subst r1; exact ⟨rfl, rfl⟩
  · subst r1; exact ⟨rfl, rfl⟩
  all_goals
    first
      | (obtain ⟨a, _, rfl, _⟩ := r1; exact ⟨rfl, rfl⟩)
      | (obtain ⟨a, _, rfl⟩ := r1; exact ⟨rfl, rfl⟩)
theorem o_is : OpR X (compareOp .Is) (rP X.K isNT) := by
  intro pins s σ H x y v u Q I rx ry q
  obtain ⟨μ, S, tx, ty, t, st, r1, r2, e, q⟩ := q
  obtain ⟨e1, rfl⟩ := isNT_ok e r1 r2
  exact op_isN pins s σ H x y v u Q I rx ry ⟨e1, q _ H (Same.refl _) rel_bl⟩
theorem o_isnot : OpR X (compareOp .IsNot) (rP X.K notNT) := by
  intro pins s σ H x y v u Q I rx ry q
  obtain ⟨μ, S, tx, ty, t, st, r1, r2, e, q⟩ := q
  unfold notNT at e
  split at e
  · rename_i b e1
    cases e
    obtain ⟨e2, e3⟩ := isNT_ok e1 r1 r2
    cases e3
    exact op_notN pins s σ H x y v u Q I rx ry ⟨e2, q _ H (Same.refl _) rel_bl⟩
  · cases e
theorem flatT_ok {t : T} {v w : V} (e : flatT t = some w) (r : Rel K H μ t v) : v = w ∧ flatV w = true := by
  cases t <;> simp only [flatT] at e <;> cases e <;> simp only [Rel] at r <;> subst r <;> exact ⟨rfl, rfl⟩
theorem flats_ok : ∀ {ts : List T} {vs ws : List V}, flats ts = some ws → Rels K H μ ts vs → vs = ws ∧ ws.all flatV = true
  | [], _, _, e, r => by simp only [flats] at e; cases e; simp only [Rels] at r; subst r; exact ⟨rfl, rfl⟩
  | t :: ts, _, _, e, r => by
    simp only [flats, Option.bind_eq_some_iff] at e
    obtain ⟨w, e1, ws, e2, e⟩ := e
    cases e
    simp only [Rels] at r
    obtain ⟨v, r', rfl, r1, r2⟩ := r
    obtain ⟨rfl, f1⟩ := flatT_ok e1 r1
    obtain ⟨rfl, f2⟩ := flats_ok e2 r2
    exact ⟨rfl, by simp [f1, f2]⟩
/-- what in asks -/
inductive InFact (K : PySem.W.Frag) (H : Hp) (x y : V) (b : Bool) : Prop
  | dict (a : Addr) (o : Option V) (e : y = .ref a) (g : DGet H a x o) (h : b = o.isSome)
  | str (i j : Str) (e1 : x = .str i) (e2 : y = .str j) (h : b = !(Builtin.Str.occurrences j i 0 j.length 1).isEmpty)
  | seq (p : Addr) (xs : List V) (e : y = .ref p) (hs : SqL K H p xs ∨ SqT K H p xs) (fx : flatV x = true) (fs : xs.all flatV = true) (h : b = inV x xs)
theorem inB_ok {tx ty : T} {x y : V} {b : Bool} (e : inB S tx ty = some b) (st : RelS K H μ S) (r1 : Rel K H μ tx x) (r2 : Rel K H μ ty y) : InFact K H x y b := by
  unfold inB at e
  split at e
  · rename_i ks ts h
    obtain ⟨a, kvs, rfl, ha, ek, rk⟩ := dctT_ok h st r2
    split at e
    · rename_i k hk
      cases e
      have := keyT_ok hk r1
      subst this
      refine .dict a (valV kvs k) rfl (DGet.k ha) ?_
      cases g : getK ks ts k with
      | none => rw [getK_none ek rk g]; rfl
      | some t =>
        obtain ⟨v, e1, _⟩ := getK_ok ek rk g
        rw [e1]; rfl
    · cases e
  · split at e
    · cases e
      simp only [Rel] at r1 r2
      exact .str _ _ r1 r2 rfl
    · split at e
      · rename_i v vs h1 h2
        cases e
        obtain ⟨p, xs, rfl, hp, rk⟩ := tup_ok r2
        obtain ⟨rfl, f1⟩ := flatT_ok h1 r1
        obtain ⟨rfl, f2⟩ := flats_ok h2 rk
        exact .seq p _ rfl (.inr hp) f1 f2 rfl
      · cases e
    · split at e
      · rename_i ts hs
        split at e
        · rename_i v vs h1 h2
          cases e
          obtain ⟨p, xs, rfl, hp, rk⟩ := seqL_ok hs st r2
          obtain ⟨rfl, f1⟩ := flatT_ok h1 r1
          obtain ⟨rfl, f2⟩ := flats_ok h2 rk
          exact .seq p _ rfl (.inl hp) f1 f2 rfl
        · cases e
      · cases e
theorem o_in (hu : X.A.units + 64 < cLine) : OpR X (compareOp .In) (rP X.K inT) := by
  intro pins s σ H x y v u Q I rx ry q
  obtain ⟨μ, S, tx, ty, t, st, r1, r2, e, q⟩ := q
  simp only [inT, Option.map_eq_some_iff] at e
  obtain ⟨b, e, rfl⟩ := e
  have q1 := q _ H (Same.refl _) rel_bl
  rcases inB_ok e st r1 r2 with ⟨a, o, rfl, g, rfl⟩ | ⟨i, j, rfl, rfl, rfl⟩ | ⟨p, xs, rfl, hs, fx, fs, rfl⟩
  · cases ry
    exact d_in (by omega) I g rx fun s' I' => ⟨.bl o.isSome, H, I', rfl, q1⟩
  · exact op_in_str pins s σ H _ _ v u Q I rx ry ⟨i, j, rfl, rfl, q1⟩
  · exact op_in_seq pins s σ H _ _ v u Q I rx ry ⟨p, xs, rfl, hs, fx, fs, by simpa using q1⟩
theorem o_nin (hu : X.A.units + 64 < cLine) : OpR X (compareOp .NotIn) (rP X.K ninT) := by
  intro pins s σ H x y v u Q I rx ry q
  obtain ⟨μ, S, tx, ty, t, st, r1, r2, e, q⟩ := q
  simp only [ninT, Option.map_eq_some_iff] at e
  obtain ⟨b, e, rfl⟩ := e
  have q1 := q _ H (Same.refl _) rel_bl
  rcases inB_ok e st r1 r2 with ⟨a, o, rfl, g, rfl⟩ | ⟨i, j, rfl, rfl, rfl⟩ | ⟨p, xs, rfl, hs, fx, fs, rfl⟩
  · cases ry
    exact d_notIn (by omega) I g rx fun s' I' => ⟨.bl (!o.isSome), H, I', rfl, q1⟩
  · exact op_notin_str pins s σ H _ _ v u Q I rx ry ⟨i, j, rfl, rfl, q1⟩
  · exact op_notIn_seq pins s σ H _ _ v u Q I rx ry ⟨p, xs, rfl, hs, fx, fs, by simpa using q1⟩
/-! ### subscripts -/
theorem ix_dict (hu : X.A.units + 64 < cLine) : IxR X (fun x y H Q => ∃ a v, x = .ref a ∧ DGet H a y (some v) ∧ Q v H) := by
  intro value slice pins s σ H x y v u Q I rx ry q hs
  obtain ⟨a, w, rfl, g, q⟩ := q
  cases rx
  have hT := dict_typeIs I g
  unfold subscriptTail
  refine wpAny_bind ?_
  rw [getitemInPython_of_ne hT.not_modules]
  refine wpAny_bind (wpAny_specialOf hT PySem.F.slot_dict_getitem.lookup ?_)
  have fin : wpAny (model X.prog X.w) X.A (subscripted slice false (.ref a) u) (fun r s₃ => wpAny (model X.prog X.w) X.A (letTemporaryGo value (.ref a) r >>= fun _ => pure r) (EP X pins σ Q) X.xe s₃) X.xe s := by
    rw [hs]
    exact wpAny_operating (wpAny_mono (d_getItem (by omega) I g ry fun w' s' I' rw' => (⟨w, H, I', rw', q⟩ : EP X pins σ Q w' s')) (fun r s₃ h₃ => wpAny_bind (wpAny_letTemporaryGo (wpAny_pure h₃))) fun _ _ x => x)
  first
    | exact wpAny_pure (wpAny_bind fin)
    | exact wpAny_bind (wpAny_pure (wpAny_bind fin))
    | exact wpAny_bind fin
theorem atI_rels {ts : List T} {vs : List V} {i : Int} {t : T} (r : Rels K H μ ts vs) (e : atI ts i = some t) : ∃ v, atI vs i = some v ∧ Rel K H μ t v := by
  unfold atI at e ⊢
  rw [← r.length]
  cases h : ixN ts.length i with
  | none => rw [h] at e; cases e
  | some j =>
    rw [h] at e
    obtain ⟨v, e1, e2⟩ := r.get (show ts[j]? = some t from e)
    exact ⟨v, e1, e2⟩
theorem o_ix (hu : X.A.units + 64 < cLine) : IxR X (rP X.K ixT) := by
  intro value slice pins s σ H x y v u Q I rx ry q hs
  obtain ⟨μ, S, tx, ty, t, st, r1, r2, e, q⟩ := q
  unfold ixT at e
  split at e
  · rename_i ks ts h
    simp only [Option.bind_eq_some_iff] at e
    obtain ⟨k, hk, g⟩ := e
    obtain ⟨a, kvs, rfl, ha, ek, rk⟩ := dctT_ok h st r1
    have := keyT_ok hk r2
    subst this
    obtain ⟨w, e1, rw'⟩ := getK_ok ek rk g
    refine ix_dict hu value slice pins s σ H _ _ v u Q I rx ry ⟨a, w, rfl, ?_, q w H (Same.refl _) rw'⟩ hs
    rw [← e1]
    exact DGet.k ha
  · split at e
    · rename_i ts i _
      obtain ⟨a, vs, rfl, ha, r⟩ := tup_ok r1
      simp only [Rel] at r2
      obtain ⟨w, e1, rw'⟩ := atI_rels r e
      exact ix_tup value slice pins s σ H _ _ v u Q I rx ry ⟨a, vs, i, w, rfl, r2, ha, e1, q w H (Same.refl _) rw'⟩ hs
    · rename_i a i _
      simp only [Rel] at r1 r2
      split at e
      · rename_i hl
        simp only [Option.map_eq_some_iff] at e
        obtain ⟨c, e, rfl⟩ := e
        exact ix_str value slice pins s σ H _ _ v u Q I rx ry ⟨a, i, c, r1, r2, hl, e, q _ H (Same.refl _) rel_str⟩ hs
      · cases e
    · rename_i i _ _
      simp only [Option.bind_eq_some_iff] at e
      obtain ⟨ts, h, e⟩ := e
      obtain ⟨a, vs, rfl, ha, r⟩ := seqL_ok h st r1
      simp only [Rel] at r2
      obtain ⟨w, e1, rw'⟩ := atI_rels r e
      exact ix_list value slice pins s σ H _ _ v u Q I rx ry ⟨a, vs, i, w, rfl, r2, ha, e1, q w H (Same.refl _) rw'⟩ hs
    · cases e
variable {wx : WT} {pos : Pos} {a b : Expr} {Fa Fb : FE}
theorem pf_ix (hu : X.A.units + 64 < cLine) (ha : PF X wx a Fa) (hb : PF X wx b Fb) (hs : PlainIx b := by intro _ _; rfl) : PF X wx (.Subscript a b pos) (fBin ixT Fa Fb) := PE.imp (pe_ix (o_ix hu) ha hb hs) fun _ _ _ h => bin_imp h
/-! slices of tuples and lists -/
def cutT (ts : List T) (lo hi : Option Int) : List T := (ts.drop (HT.sIx ts.length 0 lo)).take (HT.sIx ts.length ts.length hi - HT.sIx ts.length 0 lo)
def slT (S : Sto) (x : T) (lo hi : Option Int) : Option T := match x with
  | .tup ts => some (.tup (cutT ts lo hi))
  | x => (seqL S x).map fun ts => .lst (cutT ts lo hi)
theorem cut_rels {ts : List T} {vs : List V} {lo hi : Option Int} (r : Rels K H μ ts vs) : Rels K H μ (cutT ts lo hi) (cutV vs lo hi) := by
  unfold cutT cutV
  rw [← r.length]
  exact Rels.take _ (Rels.drop _ r)
theorem cut_whole {ts : List T} {lo hi : Option Int} (h : HT.sIx ts.length 0 lo = 0 ∧ HT.sIx ts.length ts.length hi = ts.length) : cutT ts lo hi = ts := by
  unfold cutT
  rw [h.1, h.2]
  simp
theorem o_sl : SlR X (fun x lo hi H Q => ∃ μ S tx t, RelS X.K H μ S ∧ Rel X.K H μ tx x ∧ slT S tx lo hi = some t ∧ ∀ v H', Same H H' → Rel X.K H' μ t v → Q v H') := by
  intro pins s σ H x v vl vu lo hi sl Q I rx hs pl pu q
  obtain ⟨μ, S, tx, t, st, r1, e, q⟩ := q
  unfold slT at e
  split at e
  · rename_i ts
    cases e
    obtain ⟨a, vs, rfl, ha, r⟩ := tup_ok r1
    refine sl_tupA pins s σ H _ v vl vu lo hi sl Q I rx hs pl pu ⟨a, vs, rfl, ha, fun h => ?_, fun _ p hp => q _ _ (fresh_same hp) (rel_tup st hp (cut_rels r))⟩
    rw [← r.length] at h
    rw [cut_whole h] at q
    exact q _ H (Same.refl _) r1
  · simp only [Option.map_eq_some_iff] at e
    obtain ⟨ts, h, rfl⟩ := e
    obtain ⟨a, vs, rfl, ha, r⟩ := seqL_ok h st r1
    exact sl_list pins s σ H _ v vl vu lo hi sl Q I rx hs pl pu ⟨a, vs, rfl, ha, fun p hp => q _ _ (fresh_same hp) (rel_lst st hp (cut_rels r))⟩
abbrev FO := Fr → Sto → Res (Option Int)
def PFO (X : Cx) (wx : WT) (e : Option Expr) (F : FO) : Prop := PO X e (tG X.K wx (fun _ _ a b => a = b) F)
def foN : FO := fun _ S => .ok none S
def foS (F : FE) : FO := fun τ S => (F τ S).bind fun t S1 => match t with
  | .int i => .ok (some i) S1
  | _ => .stuck
theorem PO.imp {X : Cx} {e : Option Expr} {t t' : TO} (h : PO X e t) (i : ∀ σ H Q, t' σ H Q → t σ H Q) : PO X e t' := ⟨fun pins s σ H Q I q => h.run pins s σ H Q I (i σ H Q q)⟩
theorem pfo_none : PFO X wx none foN := PO.imp po_none fun σ H Q ⟨μ, τ, S, s, f, h⟩ => h.here s rfl
theorem pfo_some (h : PF X wx a Fa) : PFO X wx (some a) (foS Fa) := PO.imp (po_some h) fun σ H Q h => by
  obtain ⟨μ, τ, S, s, f, h⟩ := h
  refine tG.seq s f h fun μ1 H1 t v S1 A1 h1 => ?_
  have r := A1.rel
  cases t with
  | int i =>
    simp only [Rel] at r
    exact ⟨i, r, h1.here A1.st rfl⟩
  | _ => exact h1.elim
def fSl (F : FE) (L U : FO) : FE := fun τ S => (F τ S).bind fun x S1 => (L τ S1).bind fun l S2 => (U τ S2).bind fun u S3 => ofO (slT S3 x l u) S3
theorem pf_slice {lo hi : Option Expr} {L U : FO} {p2 : Pos} (ha : PF X wx a Fa) (hl : PFO X wx lo L) (hh : PFO X wx hi U) : PF X wx (.Subscript a (.Slice lo hi none p2) pos) (fSl Fa L U) := PE.imp (pe_slice o_sl ha hl hh) fun σ H Q h => by
  obtain ⟨μ, τ, S, s, f, h⟩ := h
  refine tG.seq s f h fun μ1 H1 x v S1 A1 h1 => tG.seq A1.st A1.fr h1 fun μ2 H2 l l' S2 A2 h2 => tG.seq A2.st A2.fr h2 fun μ3 H3 u u' S3 A3 h3 => ?_
  obtain ⟨t, e, q⟩ := post_ofO h3 A3.st
  have e1 : l = l' := A2.rel
  have e2 : u = u' := A3.rel
  subst e1 e2
  exact ⟨μ3, S3, x, t, A3.st, Rel.mono A3.ext x (Rel.mono A2.ext x A1.rel), e, q⟩
end
end TL
set_option Elab.async false
set_option linter.all false
set_option maxRecDepth 100000
namespace TL
open PySem PySem.Spec L2
open PyProof.Rows hiding St
section
variable {X : Cx} {wx : WT} {pos : Pos} {K : PySem.W.Frag} {H : Hp} {μ : Mu} {S : Sto}
/-! ### built-ins that hand back a tree -/
def lenT (S : Sto) (ts : List T) : Option T := match ts with
  | [.str x] => if x.length ≤ sizeLine then some (.int x.length) else none
  | [.tup ts] => some (.int ts.length)
  | [t] => match dctT S t with
    | some (ks, _) => some (.int ks.length)
    | none => (seqL S t).map fun ts => .int ts.length
  | _ => none
theorem rels1 {t : T} {vs : List V} (r : Rels K H μ [t] vs) : ∃ v, vs = [v] ∧ Rel K H μ t v := by
  simp only [Rels] at r
  obtain ⟨v, _, rfl, r, rfl⟩ := r
  exact ⟨v, rfl, r⟩
theorem rels2 {t u : T} {vs : List V} (r : Rels K H μ [t, u] vs) : ∃ v w, vs = [v, w] ∧ Rel K H μ t v ∧ Rel K H μ u w := by
  simp only [Rels] at r
  obtain ⟨v, _, rfl, r, w, _, rfl, r2, rfl⟩ := r
  exact ⟨v, w, rfl, r, r2⟩
theorem c_len : CallR X (.builtin "len") (rN X.K lenT) := by
  intro pins s σ H xs us Q I rv q
  obtain ⟨μ, S, ts, t, st, r, e, q⟩ := q
  unfold lenT at e
  split at e
  · split at e
    · rename_i hl
      cases e
      obtain ⟨v, ev, rr⟩ := rels1 r
      subst ev
      replace r := rr
      simp only [Rel] at r
      subst r
      exact call_len pins s σ H _ us Q I rv ⟨_, _, rfl, ⟨hl, rfl⟩, q _ H (Same.refl _) rel_int⟩
    · cases e
  · rename_i ts
    cases e
    obtain ⟨v, ev, rr⟩ := rels1 r
    subst ev
    replace r := rr
    obtain ⟨a, vs, rfl, ha, r⟩ := tup_ok r
    exact call_len pins s σ H _ us Q I rv ⟨_, _, rfl, .inr ⟨vs, ha, r.length⟩, q _ H (Same.refl _) rel_int⟩
  · rename_i t' _ _
    obtain ⟨v, ev, rr⟩ := rels1 r
    subst ev
    replace r := rr
    split at e
    · rename_i ks ts h
      cases e
      obtain ⟨a, kvs, rfl, ha, ek, rk⟩ := dctT_ok h st r
      obtain ⟨u, rfl, rx⟩ := vals1 rv
      cases rx
      exact d_len I (.inl ha) fun t s' I' => ⟨.int kvs.length, H, I', ⟨_, rfl⟩, by
        have : ks.length = kvs.length := by rw [← ek, List.length_map]
        rw [← this]; exact q _ H (Same.refl _) rel_int⟩
    · simp only [Option.map_eq_some_iff] at e
      obtain ⟨ts, h, rfl⟩ := e
      obtain ⟨a, vs, rfl, ha, r⟩ := seqL_ok h st r
      exact call_len pins s σ H _ us Q I rv ⟨_, _, rfl, .inl ⟨vs, ha, r.length⟩, q _ H (Same.refl _) rel_int⟩
  · cases e
def intT (_ : Sto) (ts : List T) : Option T := match ts with
  | [.int i] => some (.int i)
  | [.bl k] => some (.int (if k then 1 else 0))
  | _ => none
theorem c_int : CallR X (.type "int") (rN X.K intT) := by
  intro pins s σ H xs us Q I rv q
  obtain ⟨μ, S, ts, t, st, r, e, q⟩ := q
  unfold intT at e
  split at e
  · cases e
    obtain ⟨v, ev, rr⟩ := rels1 r
    subst ev
    replace r := rr
    simp only [Rel] at r
    subst r
    exact call_int1 pins s σ H _ us Q I rv (.inl ⟨_, rfl, q _ H (Same.refl _) rel_int⟩)
  · cases e
    obtain ⟨v, ev, rr⟩ := rels1 r
    subst ev
    replace r := rr
    simp only [Rel] at r
    subst r
    exact call_int1 pins s σ H _ us Q I rv (.inr ⟨_, rfl, q _ H (Same.refl _) rel_int⟩)
  · cases e
def minT (_ : Sto) (ts : List T) : Option T := match ts with
  | [.int i, .int j] => some (.int (if j < i then j else i))
  | _ => none
def maxT (_ : Sto) (ts : List T) : Option T := match ts with
  | [.int i, .int j] => some (.int (if j > i then j else i))
  | _ => none
theorem c_min (hc : X.calm = true) : CallR X (.builtin "min") (rN X.K minT) := by
  intro pins s σ H xs us Q I rv q
  obtain ⟨μ, S, ts, t, st, r, e, q⟩ := q
  unfold minT at e
  split at e
  · cases e
    obtain ⟨v, w, ev, rr, r2⟩ := rels2 r
    subst ev
    replace r := rr
    simp only [Rel] at r r2
    subst r r2
    exact call_min2 hc pins s σ H _ us Q I rv ⟨_, _, rfl, q _ H (Same.refl _) rel_int⟩
  · cases e
theorem c_max (hc : X.calm = true) : CallR X (.builtin "max") (rN X.K maxT) := by
  intro pins s σ H xs us Q I rv q
  obtain ⟨μ, S, ts, t, st, r, e, q⟩ := q
  unfold maxT at e
  split at e
  · cases e
    obtain ⟨v, w, ev, rr, r2⟩ := rels2 r
    subst ev
    replace r := rr
    simp only [Rel] at r r2
    subst r r2
    exact call_max2 hc pins s σ H _ us Q I rv ⟨_, _, rfl, q _ H (Same.refl _) rel_int⟩
  · cases e
def tupT (S : Sto) (ts : List T) : Option T := match ts with
  | [.tup ts] => some (.tup ts)
  | [t] => (seqL S t).map .tup
  | _ => none
theorem c_tup : CallR X (.type "tuple") (rN X.K tupT) := by
  intro pins s σ H xs us Q I rv q
  obtain ⟨μ, S, ts, t, st, r, e, q⟩ := q
  unfold tupT at e
  split at e
  · cases e
    obtain ⟨v, ev, rr⟩ := rels1 r
    subst ev
    replace r := rr
    have r0 := r
    obtain ⟨a, vs, rfl, ha, r⟩ := tup_ok r
    exact call_tuple_of pins s σ H _ us Q I rv ⟨a, vs, rfl, .inr ⟨ha, q _ H (Same.refl _) r0⟩⟩
  · obtain ⟨v, ev, rr⟩ := rels1 r
    subst ev
    replace r := rr
    simp only [Option.map_eq_some_iff] at e
    obtain ⟨ts, h, rfl⟩ := e
    obtain ⟨a, vs, rfl, ha, r⟩ := seqL_ok h st r
    exact call_tuple_of pins s σ H _ us Q I rv ⟨a, vs, rfl, .inl ⟨ha, fun l hl => q _ _ (fresh_same hl) (rel_tup st hl r)⟩⟩
  · cases e
def bools : List T → Option (List Bool)
  | [] => some []
  | .bl b :: ts => (bools ts).map (b :: ·)
  | _ => none
theorem bools_ok : ∀ {ts : List T} {vs : List V} {bs : List Bool}, bools ts = some bs → Rels K H μ ts vs → vs = bs.map V.bl
  | [], _, _, e, r => by simp only [bools] at e; cases e; simp only [Rels] at r; subst r; rfl
  | .bl b :: ts, _, _, e, r => by
    simp only [bools, Option.map_eq_some_iff] at e
    obtain ⟨bs, e, rfl⟩ := e
    simp only [Rels, Rel] at r
    obtain ⟨v, r', rfl, rfl, r⟩ := r
    rw [bools_ok e r]
    rfl
  | .non :: _, _, _, e, _ | .int _ :: _, _, _, e, _ | .str _ :: _, _, _, e, _ | .tup _ :: _, _, _, e, _ | .lst _ :: _, _, _, e, _ | .sls _ :: _, _, _, e, _ | .dct _ _ :: _, _, _, e, _ | .ref _ :: _, _, _, e, _ | .val _ :: _, _, _, e, _ => by simp only [bools] at e; cases e
def allT (S : Sto) (ts : List T) : Option T := match ts with
  | [t] => (seqL S t).bind fun ts => (bools ts).map fun bs => .bl (bs.all id)
  | _ => none
def anyT (S : Sto) (ts : List T) : Option T := match ts with
  | [t] => (seqL S t).bind fun ts => (bools ts).map fun bs => .bl (bs.any id)
  | _ => none
theorem c_all (hc : X.calm = true) : CallR X (.builtin "all") (rN X.K allT) := by
  intro pins s σ H xs us Q I rv q
  obtain ⟨μ, S, ts, t, st, r, e, q⟩ := q
  unfold allT at e
  split at e
  · obtain ⟨v, ev, rr⟩ := rels1 r
    subst ev
    replace r := rr
    simp only [Option.bind_eq_some_iff, Option.map_eq_some_iff] at e
    obtain ⟨ts, h, bs, hb, rfl⟩ := e
    obtain ⟨a, vs, rfl, ha, r⟩ := seqL_ok h st r
    rw [bools_ok hb r] at ha
    exact cr_all hc pins s σ H _ us Q I rv ⟨a, bs, rfl, ha, q _ H (Same.refl _) rel_bl⟩
  · cases e
theorem c_any (hc : X.calm = true) : CallR X (.builtin "any") (rN X.K anyT) := by
  intro pins s σ H xs us Q I rv q
  obtain ⟨μ, S, ts, t, st, r, e, q⟩ := q
  unfold anyT at e
  split at e
  · obtain ⟨v, ev, rr⟩ := rels1 r
    subst ev
    replace r := rr
    simp only [Option.bind_eq_some_iff, Option.map_eq_some_iff] at e
    obtain ⟨ts, h, bs, hb, rfl⟩ := e
    obtain ⟨a, vs, rfl, ha, r⟩ := seqL_ok h st r
    rw [bools_ok hb r] at ha
    exact cr_any hc pins s σ H _ us Q I rv ⟨a, bs, rfl, ha, q _ H (Same.refl _) rel_bl⟩
  · cases e
/-- the built-in type of a tree -/
def tyT (S : Sto) : T → Option String
  | .non => some "NoneType"
  | .bl _ => some "bool"
  | .int _ => some "int"
  | .str _ => some "str"
  | .tup _ => some "tuple"
  | .lst _ => some "list"
  | .sls _ => some "list"
  | .dct _ _ => some "dict"
  | .ref n => match S[n]? with
    | some (.lst _) => some "list"
    | some (.dct _ _) => some "dict"
    | _ => none
  | .val _ => none
theorem tyT_ok {t : T} {v : V} {n : String} (e : tyT S t = some n) (st : RelS K H μ S) (r : Rel K H μ t v) : TyX K H v (.type n) := by
  cases t with
  | non => simp only [tyT] at e; cases e; simp only [Rel] at r; subst r; exact .base .non
  | bl b => simp only [tyT] at e; cases e; simp only [Rel] at r; subst r; exact .base (.bl _)
  | int b => simp only [tyT] at e; cases e; simp only [Rel] at r; subst r; exact .base (.int _)
  | str b => simp only [tyT] at e; cases e; simp only [Rel] at r; subst r; exact .base (.str _)
  | tup ts =>
    simp only [tyT] at e; cases e
    simp only [Rel] at r
    obtain ⟨a, xs, rfl, o, r⟩ := r
    rcases o with ⟨z | ⟨o, z⟩, _⟩ | ⟨o, its, n, z, hc, _⟩
    · exact .base (.tup z)
    · exact .fTuple z
    · exact .kTuple z hc
  | lst ts =>
    simp only [tyT] at e; cases e
    simp only [Rel] at r
    obtain ⟨a, xs, rfl, o, r⟩ := r
    exact .base (.lst o.1)
  | sls ts =>
    simp only [tyT] at e; cases e
    simp only [Rel] at r
    obtain ⟨a, xs, rfl, o, r⟩ := r
    rcases o with ⟨z | ⟨o, z⟩, _⟩ | ⟨o, its, n, z, hc, _⟩
    · exact .base (.lst z)
    · exact .base (.frz z)
    · exact .kList z hc
  | dct ks ts =>
    simp only [tyT] at e; cases e
    simp only [Rel] at r
    obtain ⟨a, xs, rfl, o, r⟩ := r
    exact .base (.dK o.1)
  | ref n =>
    simp only [tyT] at e
    split at e
    · rename_i ts e1
      cases e
      obtain ⟨a, vs, rfl, h, _⟩ := plnL_ok (t := .ref n) (ts := ts) (by simp only [plnL, e1]) st r
      exact .base (.lst h)
    · rename_i ks ts e1
      cases e
      obtain ⟨a, vs, rfl, h, _⟩ := dctT_ok (t := .ref n) (ks := ks) (ts := ts) (by simp only [dctT, e1]) st r
      exact .base (.dK h)
    · cases e
  | val u => simp only [tyT] at e; cases e
def isiT (S : Sto) (ts : List T) : Option T := match ts with
  | [t, .val (.ty n)] => (tyT S t).bind fun m => (kitB m n).map .bl
  | _ => none
theorem c_isi : CallR X (.builtin "isinstance") (rN X.K isiT) := by
  intro pins s σ H xs us Q I rv q
  obtain ⟨μ, S, ts, t, st, r, e, q⟩ := q
  unfold isiT at e
  split at e
  · obtain ⟨v, w, ev, rr, r2⟩ := rels2 r
    subst ev
    replace r := rr
    simp only [Rel] at r2
    subst r2
    simp only [Option.bind_eq_some_iff, Option.map_eq_some_iff] at e
    obtain ⟨m, hm, b, hb, rfl⟩ := e
    exact call_isi pins s σ H _ us Q I rv ⟨_, _, _, _, _, rfl, .ty _, tyT_ok hm st r, kit_ty hb, q _ H (Same.refl _) rel_bl⟩
  · cases e
/-! repr of what is shown by its items -/
def dispD : PyData → Bool
  | .list _ => true
  | .tuple _ => true
  | _ => false
def reprT (S : Sto) (ts : List T) : Option T := match ts with
  | [t] => (toD1 S t).bind fun d => if dispD d && d.showable && !d.hasDict && decide (d.depth ≤ 60) && decide (d.shown.length ≤ sizeLine) then some (.str d.shown) else none
  | _ => none
theorem c_repr (hgd : X.A.guards = some []) (hu : X.A.units + 64 < cLine) : CallR X (.builtin "repr") (rN X.K reprT) := by
  intro pins s σ H xs us Q I rv q
  obtain ⟨μ, S, ts, t, st, r, e, q⟩ := q
  unfold reprT at e
  split at e
  · obtain ⟨v, ev, rr⟩ := rels1 r
    subst ev
    replace r := rr
    simp only [Option.bind_eq_some_iff] at e
    obtain ⟨d, hd, e⟩ := e
    split at e
    · rename_i h
      cases e
      simp only [Bool.and_eq_true, Bool.not_eq_true', decide_eq_true_eq] at h
      obtain ⟨⟨⟨⟨h1, h2⟩, h3⟩, h4⟩, h5⟩ := h
      obtain ⟨u, rfl, rx⟩ := vals1 rv
      have dp := toD1_ok hd st r
      obtain ⟨as, rd⟩ := Dp.reads I d v u dp rx
      have href : ∃ a, u = .ref a := by
        cases dp with
        | lst => cases rx; exact ⟨_, rfl⟩
        | tup => cases rx; exact ⟨_, rfl⟩
        | _ => cases h1
      obtain ⟨a, rfl⟩ := href
      exact repr_of_reads' rd h2 (PyData.noDict_hsm h3) hgd (by omega) (fun _ _ e => e) (fun h' u tk hk => ⟨.str d.shown, H, I.kept hk, ⟨_, rfl⟩, q _ H (Same.refl _) rel_str⟩) h5
    · cases e
  · cases e
/-! ### built-ins that make a list or dict -/
def rNw (K : PySem.W.Frag) (g : Sto → List T → Option T) : List V → Hp → VK → Prop := fun xs H Q => ∃ μ S ts c, RelS K H μ S ∧ Rels K H μ ts xs ∧ g S ts = some c ∧ ∀ p o, H p = none → CellR K (upd H p o) (μ.hide p) p c → Q (.ref p) (upd H p o)
variable {x : Str} {p : Pos} {e : Expr} {es : List Expr} {Fs : FA} {g : Sto → List T → Option T} {id : String}
theorem nw_imp {σ : L2.St} {H : Hp} {Q : VK} (h : tN X.K wx (fBlt g Fs) σ H Q) : tCB (rNw X.K g) (tG X.K wx (rVs X.K) Fs) σ H Q := by
  obtain ⟨μ, τ, S, s, fr, h⟩ := h
  refine tG.seqN s fr h fun μ1 H1 ts vs S1 A1 h1 => ?_
  cases e : g S1 ts with
  | none => simp only [e, ofO] at h1; exact h1.elim
  | some c =>
    simp only [e, ofO] at h1
    exact ⟨μ1, S1, ts, c, A1.st, A1.rel, e, fun p o hp hc => new_at A1.ext h1 A1.st hp hc⟩
theorem pfn_blt (hc : CallR X (.builtin id) (rNw X.K g)) (hm : X.mg x = none) (hv : bootBuiltins x = some (.builtin id)) (ha : PFA X wx (e :: es) Fs) (hg : Gl X x := by rfl) (hn : x ≠ "__name__" := by decide) (hdb : (x == ("__debug__" : Str)) = false := by decide)
    (he : starEach (e :: es) X.env = (false, eval e X.env) :: starEach es X.env := by rfl) (hpl : (backTo pos (starEach es X.env)).any (·.1) = false := by rfl) : PFN X wx (.Call (.Name x p) (e :: es) [] pos) (fBlt g Fs) :=
  PE.imp (pe_callB hc hg hm hv ha hn hdb he hpl) fun _ _ _ h => nw_imp h
theorem pfn_bltTy (hc : CallR X (.type id) (rNw X.K g)) (hm : X.mg x = none) (hv : bootBuiltins x = some (.type id)) (ha : PFA X wx (e :: es) Fs) (hg : Gl X x := by rfl) (hn : x ≠ "__name__" := by decide) (hdb : (x == ("__debug__" : Str)) = false := by decide)
    (he : starEach (e :: es) X.env = (false, eval e X.env) :: starEach es X.env := by rfl) (hpl : (backTo pos (starEach es X.env)).any (·.1) = false := by rfl) : PFN X wx (.Call (.Name x p) (e :: es) [] pos) (fBlt g Fs) :=
  PE.imp (pe_callTy hc hg hm hv ha hn hdb he hpl) fun _ _ _ h => nw_imp h
def listT (S : Sto) (ts : List T) : Option T := match ts with
  | [.tup ts] => some (.lst ts)
  | [t] => match dctT S t with
    | some (ks, _) => some (.lst (ks.map tKey))
    | none => (seqL S t).map .lst
  | _ => none
theorem keys_rels : ∀ ks : List Key, Rels K H μ (ks.map tKey) (ks.map kV)
  | [] => by simp only [List.map_nil, Rels]
  | k :: ks => by
    simp only [List.map_cons, Rels]
    exact ⟨kV k, _, rfl, tKey_rel k, keys_rels ks⟩
theorem c_list (hc : X.calm = true) : CallR X (.type "list") (rNw X.K listT) := by
  intro pins s σ H xs us Q I rv q
  obtain ⟨μ, S, ts, t, st, r, e, q⟩ := q
  unfold listT at e
  split at e
  · cases e
    obtain ⟨v, ev, rr⟩ := rels1 r
    subst ev
    replace r := rr
    obtain ⟨a, vs, rfl, ha, r⟩ := tup_ok r
    exact call_list_of pins s σ H _ us Q I rv ⟨a, vs, rfl, .inr ha, fun l hl => q _ _ hl ⟨vs, upd_same, rels_new hl r⟩⟩
  · obtain ⟨v, ev, rr⟩ := rels1 r
    subst ev
    replace r := rr
    split at e
    · rename_i ks ts h
      cases e
      obtain ⟨a, kvs, rfl, ha, ek, rk⟩ := dctT_ok h st r
      refine call_listD hc pins s σ H _ us Q I rv ⟨a, kvs, rfl, .inl ha, fun l hl => q _ _ hl ⟨_, upd_same, ?_⟩⟩
      have := keys_rels (K := X.K) (H := upd H l (.lst (kvs.map fun kv => kV kv.1))) (μ := μ.hide l) ks
      rw [← ek, List.map_map] at this
      rw [← ek, List.map_map]
      rw [List.map_map] at this
      exact this
    · simp only [Option.map_eq_some_iff] at e
      obtain ⟨ts, h, rfl⟩ := e
      obtain ⟨a, vs, rfl, ha, r⟩ := seqL_ok h st r
      exact call_list_of pins s σ H _ us Q I rv ⟨a, vs, rfl, .inl ha, fun l hl => q _ _ hl ⟨vs, upd_same, rels_new hl r⟩⟩
  · cases e
/-- pairs of keys and values -/
def pairsT : List T → Option (List (Key × T))
  | [] => some []
  | .tup [k, v] :: ts => (keyT k).bind fun k => (pairsT ts).map fun r => (k, v) :: r
  | _ => none
def mergeT (kt : List Key × List T) (more : List (Key × T)) : List Key × List T := more.foldl (fun acc kv => putK' acc.1 acc.2 kv.1 kv.2) kt
theorem merge_ok : ∀ {more : List (Key × T)} {kvs m : List (Key × V)} {ks : List Key} {ts : List T}, kvs.map (·.1) = ks → Rels K H μ ts (kvs.map (·.2)) → m.map (·.1) = more.map (·.1) → Rels K H μ (more.map (·.2)) (m.map (·.2)) →
    (mergeK kvs m).map (·.1) = (mergeT (ks, ts) more).1 ∧ Rels K H μ (mergeT (ks, ts) more).2 ((mergeK kvs m).map (·.2))
  | [], kvs, m, ks, ts, e, r, em, rm => by
    have : m = [] := by simpa using em
    subst this
    exact ⟨e, r⟩
  | (k, t) :: more, kvs, m, ks, ts, e, r, em, rm => by
    cases m with
    | nil => simp at em
    | cons p m =>
      obtain ⟨k', v⟩ := p
      simp only [List.map_cons, List.cons.injEq] at em
      obtain ⟨rfl, em⟩ := em
      simp only [List.map_cons, Rels] at rm
      obtain ⟨w, r', e', r1, r2⟩ := rm
      cases e'
      obtain ⟨q1, q2⟩ := putK_ok (k := k') (t := t) (v := v) e r r1
      exact merge_ok (more := more) (m := m) q1 q2 em r2
theorem pairs_ok : ∀ {ts : List T} {prs : List (Key × T)} {vs : List V}, pairsT ts = some prs → Rels K H μ ts vs → ∃ (as : List Addr) (m : List (Key × V)), vs = as.map V.ref ∧ Paired (fun p kv => SqT K H p [kV kv.1, kv.2]) as m ∧ m.map (·.1) = prs.map (·.1) ∧ Rels K H μ (prs.map (·.2)) (m.map (·.2))
  | [], _, _, e, r => by
    simp only [pairsT] at e; cases e
    simp only [Rels] at r; subst r
    exact ⟨[], [], rfl, .nil, rfl, by simp only [List.map_nil, Rels]⟩
  | t :: ts, prs, vs, e, r => by
    unfold pairsT at e
    split at e
    · rename_i h; cases h
    · rename_i k v ts' h
      cases h
      simp only [Option.bind_eq_some_iff, Option.map_eq_some_iff] at e
      obtain ⟨k', hk, pr, hp, rfl⟩ := e
      simp only [Rels] at r
      obtain ⟨u, r', rfl, r1, r2⟩ := r
      obtain ⟨as, m, rfl, q1, q2, q3⟩ := pairs_ok hp r2
      obtain ⟨a, xs, rfl, ha, rx⟩ := tup_ok r1
      obtain ⟨v1, v2, rfl, rk, rv⟩ := rels2 rx
      rw [keyT_ok hk rk] at ha
      exact ⟨a :: as, (k', v2) :: m, rfl, .cons ha q1, by simp [q2], by simp only [List.map_cons, Rels]; exact ⟨v2, _, rfl, rv, q3⟩⟩
    · cases e
def dictT (S : Sto) (ts : List T) : Option T := match ts with
  | [t] => match dctT S t with
    | some (ks, ts) => some (.dct ks ts)
    | none => (seqL S t).bind fun ts => (pairsT ts).map fun prs => let m := mergeT ([], []) prs; .dct m.1 m.2
  | _ => none
theorem c_dict (hc : X.calm = true) : CallR X (.type "dict") (rNw X.K dictT) := by
  intro pins s σ H xs us Q I rv q
  obtain ⟨μ, S, ts, t, st, r, e, q⟩ := q
  unfold dictT at e
  split at e
  · obtain ⟨v, ev, rr⟩ := rels1 r
    subst ev
    replace r := rr
    split at e
    · rename_i ks ts h
      cases e
      obtain ⟨a, kvs, rfl, ha, ek, rk⟩ := dctT_ok h st r
      exact call_dictD pins s σ H _ us Q I rv ⟨a, kvs, rfl, .inl ha, fun l hl => q _ _ hl ⟨kvs, upd_same, ek, rels_new hl rk⟩⟩
    · simp only [Option.bind_eq_some_iff, Option.map_eq_some_iff] at e
      obtain ⟨ts, h, prs, hp, rfl⟩ := e
      obtain ⟨a, vs, rfl, ha, r⟩ := seqL_ok h st r
      obtain ⟨as, m, rfl, q1, q2, q3⟩ := pairs_ok hp r
      obtain ⟨z1, z2⟩ := merge_ok (more := prs) (kvs := []) (m := m) (ks := []) (ts := []) (K := X.K) (H := H) (μ := μ) rfl (by simp only [List.map_nil, Rels]) q2 q3
      exact call_dictP hc pins s σ H _ us Q I rv ⟨a, as, m, rfl, ha, q1, fun l hl => q _ _ hl ⟨_, upd_same, z1, rels_new hl z2⟩⟩
  · cases e
end
end TL
set_option Elab.async false
set_option linter.all false
set_option maxRecDepth 100000
namespace TL
open PySem PySem.Spec L2
open PyProof.Rows hiding St
/-! ### cells change -/
section
variable {K : PySem.W.Frag} {H : Hp} {μ : Mu} {S : Sto} {n : Nat} {a : Addr} {o : HO} {c : T}
theorem cell_keep (ha : μ.c[n]? = some a) : ∀ b u, H b = some u → μ.out b → upd H a o b = some u ∧ μ.out b := fun b u e z => ⟨by rw [upd_ne (fun q : b = a => z.1 (q ▸ List.mem_of_getElem? ha))]; exact e, z⟩
theorem Ext.setc (ha : μ.c[n]? = some a) : Ext H μ (upd H a o) μ :=
  ⟨⟨[], by simp, fun _ z => nomatch z⟩, ⟨fun _ z => z, fun _ z => .inl z⟩, fun b u e z => by rw [upd_ne (fun q : b = a => z (q ▸ List.mem_of_getElem? ha))]; exact e, fun b z => by
    by_cases q : b = a
    · subst q; rw [upd_same]; simp
    · rw [upd_ne q]; exact z⟩
theorem RelS.setc (s : RelS K H μ S) (ha : μ.c[n]? = some a) (hc : CellR K (upd H a o) μ a c) : RelS K (upd H a o) μ (S.set n c) := by
  have hn : n < S.length := by rw [← s.len]; exact (List.getElem?_eq_some_iff.mp ha).1
  refine ⟨by rw [List.length_set]; exact s.len, s.nd, fun m c' b e1 e2 => ?_, fun p hp => ?_, s.dis⟩
  · by_cases h : n = m
    · subst h
      rw [List.getElem?_set_self hn] at e1
      cases e1
      rw [ha] at e2
      cases e2
      exact hc
    · rw [List.getElem?_set_ne h] at e1
      have ne : b ≠ a := fun q => by
        subst q
        obtain ⟨h1, e1'⟩ := List.getElem?_eq_some_iff.mp ha
        obtain ⟨h2, e2'⟩ := List.getElem?_eq_some_iff.mp e2
        exact h ((List.getElem_inj s.nd).mp (e1'.trans e2'.symm))
      exact CellR.to (μ := μ) (fun _ _ e => e) (cell_keep ha) (q := s.cell m c' b e1 e2) fun u e => by rw [upd_ne ne]; exact e
  · by_cases q : p = a
    · subst q; rw [upd_same]; simp
    · rw [upd_ne q]; exact s.live p hp
theorem rels_setc (ha : μ.c[n]? = some a) {ts : List T} {vs : List V} (r : Rels K H μ ts vs) : Rels K (upd H a o) μ ts vs := Rels.to (μ := μ) (μ' := μ) (fun _ _ e => e) (cell_keep ha) ts r
theorem rel_setc (ha : μ.c[n]? = some a) {t : T} {v : V} (r : Rel K H μ t v) : Rel K (upd H a o) μ t v := Rel.to (μ := μ) (μ' := μ) (fun _ _ e => e) (cell_keep ha) t r
end
section
variable {X : Cx} {wx : WT} {pos : Pos}
/-! x.append(y) -/
def lstAt (S : Sto) (n : Nat) : Option (List T) := match S[n]? with
  | some (.lst ts) => some ts
  | _ => none
theorem lstAt_ok {K : PySem.W.Frag} {H : Hp} {μ : Mu} {S : Sto} {n : Nat} {ts : List T} (e : lstAt S n = some ts) (s : RelS K H μ S) : ∃ a vs, μ.c[n]? = some a ∧ H a = some (.lst vs) ∧ Rels K H μ ts vs := by
  unfold lstAt at e
  split at e
  · rename_i us h
    cases e
    obtain ⟨a, ha, vs, h1, h2⟩ := cell_at s h
    exact ⟨a, vs, ha, h1, h2⟩
  · cases e
def fApp (Fo : FE) (Fs : FA) : FE := fun τ S => (Fo τ S).bind fun o S1 => match o with
  | .ref n => match lstAt S1 n with
    | some _ => (Fs τ S1).bind fun ts S2 => match ts, lstAt S2 n with
      | [y], some xs => if xs.length < sizeLine then .ok .non (S2.set n (.lst (xs ++ [y]))) else .stuck
      | _, _ => .stuck
    | none => .stuck
  | _ => .stuck
theorem pf_append {o e : Expr} {Fo : FE} {Fs : FA} {apos cpos : Pos} (ho : PF X wx o Fo) (ha : PFA X wx [e] Fs)
    (hbase : attributeBase o "append" X.env (eval o X.env) = eval o X.env := by rfl)
    (hfew : ((backTo cpos (starEach [e] X.env)).all (fun x => !x.1) && (backToKw cpos (keywordEach [] X.env)).all (fun x => x.1.isSome)
      && decide (([e] : List Expr).length + ([] : List Keyword).length + (if ([] : List Keyword).isEmpty then 0 else 1) < 30)) = true := by rfl)
    (hline : (apos.endLine == cpos.line) = true := by rfl) (hs : starEach [e] X.env = (false, eval e X.env) :: starEach [] X.env := by rfl) (hplain : (backTo cpos (starEach [] X.env)).any (·.1) = false := by rfl) :
    PF X wx (.Call (.Attribute o "append" apos) [e] [] cpos) (fApp Fo Fs) := PE.imp (pe_bm PySem.F.plainAttrs_list PySem.F.slot_list_append PySem.F.type_list_append mt_append ho ha hbase hfew hline hs hplain) fun σ H Q h => by
  obtain ⟨μ, τ, S, s, f, h⟩ := h
  refine tG.seq s f h fun μ1 H1 x v S1 A1 h1 => ?_
  cases x with
  | ref n =>
    simp only at h1
    cases e1 : lstAt S1 n with
    | none => simp only [e1] at h1; exact h1.elim
    | some us =>
      simp only [e1] at h1
      have r := A1.rel
      simp only [Rel] at r
      obtain ⟨a, ha1, rfl⟩ := r
      obtain ⟨a', vs, ha', hl, _⟩ := lstAt_ok e1 A1.st
      rw [ha1] at ha'
      cases ha'
      refine ⟨.inl ⟨rfl, vs, .inl (.inl hl)⟩, tG.seq A1.st A1.fr h1 fun μ2 H2 ts ws S2 A2 h2 => ?_⟩
      have r2 := A2.rel
      split at h2
      · rename_i y xs e2
        obtain ⟨w, rfl, r3⟩ := rels1 r2
        split at h2
        · rename_i hz
          obtain ⟨b, us', hb, hl2, r4⟩ := lstAt_ok e2 A2.st
          obtain ⟨ν, eν, _⟩ := A2.ext.pre
          have ha2 : μ2.c[n]? = some a := by rw [eν, List.getElem?_append_left (List.getElem?_eq_some_iff.mp ha1).1]; exact ha1
          rw [ha2] at hb
          cases hb
          refine ⟨a, us', w, rfl, rfl, hl2, by rw [← r4.length]; exact hz, h2 μ2 .non _ (Ext.setc ha2) (A2.st.setc ha2 ⟨_, upd_same, ?_⟩) (by simp only [Rel])⟩
          refine Rels.append (rels_setc ha2 r4) ?_
          simp only [Rels]
          exact ⟨w, [], rfl, rel_setc ha2 r3, rfl⟩
        · exact h2.elim
      · exact h2.elim
  | _ => exact h1.elim
/-! o[i] = v -/
def setT (S : Sto) (o i v : T) : Option Sto := match o with
  | .ref n => match S[n]? with
    | some (.lst ts) => match i with
      | .int k => (ixN ts.length k).map fun j => S.set n (.lst (ts.set j v))
      | _ => none
    | some (.dct ks ts) => (keyT i).bind fun k => if ks.length < sizeLine then some (S.set n (.dct (putK' ks ts k v).1 (putK' ks ts k v).2)) else none
    | _ => none
  | _ => none
def rSet (K : PySem.W.Frag) : TSet := fun o i v H Q => ∃ μ S to ti tv S', RelS K H μ S ∧ Rel K H μ to o ∧ Rel K H μ ti i ∧ Rel K H μ tv v ∧ setT S to ti tv = some S' ∧ ∀ H', Ext H μ H' μ → RelS K H' μ S' → Q H'
theorem o_set (hu : X.A.units + 64 < cLine) : PSet X (rSet X.K) := by
  intro pins s σ H o i v ov iv u Q I ro ri rv q
  obtain ⟨μ, S, to, ti, tv, S', st, r1, r2, r3, e, q⟩ := q
  cases to with
  | ref n =>
    simp only [setT] at e
    split at e
    · rename_i ts e1
      split at e
      · rename_i k
        simp only [Option.map_eq_some_iff] at e
        obtain ⟨j, hj, rfl⟩ := e
        simp only [Rel] at r1 r2
        obtain ⟨a, ha, rfl⟩ := r1
        subst r2
        obtain ⟨a', ha', vs, hl, rl⟩ := cell_at st e1
        rw [ha] at ha'
        cases ha'
        exact set_list pins s σ H _ _ v ov iv u Q I ro ri rv ⟨a, vs, k, j, rfl, rfl, hl, by rw [← rl.length]; exact hj, q _ (Ext.setc ha) (st.setc ha ⟨_, upd_same, Rels.set j (rels_setc ha rl) (rel_setc ha r3)⟩)⟩
      · cases e
    · rename_i ks ts e1
      simp only [Option.bind_eq_some_iff] at e
      obtain ⟨k, hk, e⟩ := e
      split at e
      · rename_i hz
        cases e
        have := keyT_ok hk r2
        subst this
        simp only [Rel] at r1
        obtain ⟨a, ha, rfl⟩ := r1
        obtain ⟨a', ha', kvs, hl, ek, rk⟩ := cell_at st e1
        rw [ha] at ha'
        cases ha'
        cases ro
        obtain ⟨z1, z2⟩ := putK_ok (k := k) (t := tv) (v := v) ek rk r3
        refine d_setItem (by omega) I (DPut.k hl (by rw [← ek, List.length_map] at hz; exact hz)) ri rv fun s' I' => ⟨_, I', q _ (Ext.setc ha) (st.setc ha ⟨_, upd_same, z1, rels_setc ha z2⟩)⟩
      · cases e
    · cases e
  | _ => cases e
def bStore (Fo Fi Fv : FE) : BS := fun τ S => (Fv τ S).bindS τ fun v S1 => (Fo τ S1).bindS τ fun o S2 => (Fi τ S2).bindS τ fun i S3 => match setT S3 o i v with
  | some S4 => .nx τ S4
  | none => .stuck
theorem pfs_store {o i e : Expr} {Fo Fi Fv : FE} {tpos : Pos} (hu : X.A.units + 64 < cLine) (he : PF X wx e Fv) (ho : PF X wx o Fo) (hi : PF X wx i Fi)
    (ha : ∀ v, assign (.Subscript o i tpos) X.env v = (do
      let ov ← holding [v] (eval o X.env)
      let iv ← holding [v, ov] (eval i X.env)
      standAt tpos
      holding [v, ov, iv] (setItem ov iv v)
      release [v, ov, iv] []) := by intro _; rfl)
    (hs : swapsWithSole [.Subscript o i tpos] e pos.line X.env = pure false := by rfl) (hw : swappedStores [.Subscript o i tpos] e X.env = pure none := by rfl)
    (h1 : (assignEach [.Subscript o i tpos] X.env).map (·.2) = [assign (.Subscript o i tpos) X.env] := by rfl) : PFS X wx (.Assign [.Subscript o i tpos] e pos) (bStore Fo Fi Fv) := PS.imp (ps_asg he (pg_sub ho hi (o_set hu) ha) hs hw h1) fun D σ H h => by
  obtain ⟨μ, τ, S, s, f, h⟩ := h
  refine tG.seqS s f h fun μ1 H1 v v' S1 A1 h1 => tG.seqS A1.st A1.fr h1 fun μ2 H2 o o' S2 A2 h2 => tG.seqS A2.st A2.fr h2 fun μ3 H3 i i' S3 A3 h3 => ?_
  cases e : setT S3 o i v with
  | none => simp only [e] at h3; exact h3.elim
  | some S4 =>
    simp only [e] at h3
    exact ⟨μ3, S3, o, i, v, S4, A3.st, Rel.mono A3.ext _ A2.rel, A3.rel, Rel.mono A3.ext _ (Rel.mono A2.ext _ A1.rel), e, fun H' E st => h3 μ3 σ H' E st (A3.fr.mono E)⟩
/-! {k: v, ..} -/
def prF : List (FE × FE) → Fr → Sto → Res (List (T × T))
  | [], _, S => .ok [] S
  | (Fk, Fv) :: r, τ, S => (Fk τ S).bind fun k S1 => (Fv τ S1).bind fun v S2 => (prF r τ S2).bind fun ps S3 => .ok ((k, v) :: ps) S3
def PFPs (X : Cx) (wx : WT) (pos : Pos) (ks : List (Option Expr)) (vs : List Expr) (fs : List (FE × FE)) : Prop := PPs X pos ks vs (fs.map fun p => (tG X.K wx (rV X.K) p.1, tG X.K wx (rV X.K) p.2))
theorem pfps_nil : PFPs X wx pos [] [] [] := pps_nil
theorem pfps_cons {k v : Expr} {ks : List (Option Expr)} {vs : List Expr} {Fk Fv : FE} {fs : List (FE × FE)} (hk : PF X wx k Fk) (hv : PF X wx v Fv) (hr : PFPs X wx pos ks vs fs) : PFPs X wx pos (some k :: ks) (v :: vs) ((Fk, Fv) :: fs) := pps_cons hk hv hr
inductive PrR (K : PySem.W.Frag) (H : Hp) (μ : Mu) : List (T × T) → List (V × V) → Prop
  | nil : PrR K H μ [] []
  | cons {a b : T} {x y : V} {l : List (T × T)} {l' : List (V × V)} : Rel K H μ a x → Rel K H μ b y → PrR K H μ l l' → PrR K H μ ((a, b) :: l) ((x, y) :: l')
theorem prs_run {K : PySem.W.Frag} {τ : Fr} {σ : L2.St} : ∀ {fs : List (FE × FE)} {μ : Mu} {H : Hp} {S S1 : Sto} {prs : List (T × T)} {Q : List (V × V) → Hp → Prop}, RelS K H μ S → RelF K H μ τ σ → prF fs τ S = .ok prs S1 →
    (∀ μ1 H1 vps, Ext H μ H1 μ1 → RelS K H1 μ1 S1 → PrR K H1 μ1 prs vps → Q vps H1) → tPairs (fs.map fun p => (tG K wx (rV K) p.1, tG K wx (rV K) p.2)) σ H Q
  | [], μ, H, S, S1, prs, Q, s, f, e, h => by
    simp only [prF] at e
    cases e
    exact h μ H [] (Ext.refl _ _) s .nil
  | (Fk, Fv) :: r, μ, H, S, S1, prs, Q, s, f, e, h => by
    simp only [prF] at e
    cases ek : Fk τ S with
    | stuck => rw [ek] at e; cases e
    | exc x S' => rw [ek] at e; cases e
    | ok k S2 =>
      rw [ek] at e
      simp only [Res.bind] at e
      cases ev : Fv τ S2 with
      | stuck => rw [ev] at e; cases e
      | exc x S' => rw [ev] at e; cases e
      | ok v S3 =>
        rw [ev] at e
        simp only at e
        cases er : prF r τ S3 with
        | stuck => rw [er] at e; cases e
        | exc x S' => rw [er] at e; cases e
        | ok ps S4 =>
          rw [er] at e
          cases e
          refine tG.known s f ek fun μ1 H1 x A1 => tG.known A1.st A1.fr ev fun μ2 H2 y A2 => prs_run A2.st A2.fr er fun μ3 H3 vps E3 s3 r3 => ?_
          exact h μ3 H3 _ ((A1.ext.trans A2.ext).trans E3) s3 (.cons (Rel.mono E3 _ (Rel.mono A2.ext _ A1.rel)) (Rel.mono E3 _ A2.rel) r3)
def keyed : List (T × T) → Option (List (Key × T))
  | [] => some []
  | (k, v) :: r => (keyT k).bind fun k => (keyed r).map fun r => (k, v) :: r
theorem keyed_ok {K : PySem.W.Frag} {H : Hp} {μ : Mu} : ∀ {prs : List (T × T)} {m : List (Key × T)} {vps : List (V × V)}, keyed prs = some m → PrR K H μ prs vps → ∃ kvs : List (Key × V), vps = kvs.map (fun kv => (kV kv.1, kv.2)) ∧ kvs.map (·.1) = m.map (·.1) ∧ Rels K H μ (m.map (·.2)) (kvs.map (·.2))
  | [], _, _, e, r => by
    simp only [keyed] at e; cases e
    cases r
    exact ⟨[], rfl, rfl, by simp only [List.map_nil, Rels]⟩
  | (k, v) :: prs, _, _, e, r => by
    simp only [keyed, Option.bind_eq_some_iff, Option.map_eq_some_iff] at e
    obtain ⟨k', hk, m, hm, rfl⟩ := e
    cases r with
    | @cons _ _ x y _ _ r1 r2 r3 =>
      obtain ⟨kvs, rfl, q1, q2⟩ := keyed_ok hm r3
      have := keyT_ok hk r1
      subst this
      exact ⟨(k', y) :: kvs, rfl, by simp [q1], by simp only [List.map_cons, Rels]; exact ⟨y, _, rfl, r2, q2⟩⟩
def fDisp (fs : List (FE × FE)) : FE := fun τ S => (prF fs τ S).nox.bind fun prs S1 => match keyed prs with
  | some m => if m.length ≤ 15 then .ok (.dct (mergeT ([], []) m).1 (mergeT ([], []) m).2) S1 else .stuck
  | none => .stuck
theorem pfn_disp {ks : List (Option Expr)} {vs : List Expr} {fs : List (FE × FE)} (h : PFPs X wx pos ks vs fs) (hall : ks.all (·.isSome) = true := by rfl) (hl : ks.length = vs.length := by rfl) (h0 : ks ≠ [] := by exact fun z => nomatch z) (h15 : ks.length ≤ 15 := by decide) :
    PFN X wx (.Dict ks vs pos) (fDisp fs) := PE.imp (pe_disp h hall hl h0 h15) fun σ H Q q => by
  obtain ⟨μ, τ, S, s, f, q⟩ := q
  intro p hp
  unfold fDisp at q
  cases e : prF fs τ S with
  | stuck => rw [e] at q; exact q.elim
  | exc x S1 => rw [e] at q; exact q.elim
  | ok prs S1 =>
    rw [e] at q
    simp only [Res.nox, Res.bind] at q
    have f1 : RelF X.K (upd H p (.dK [])) (μ.hide p) τ σ := RelF.to (μ := μ) (fun _ _ e => e) (hide_keep hp) f
    refine prs_run (s.hide hp) f1 e fun μ1 H1 vps E1 s1 r1 => ?_
    have dn : p ∈ μ1.r := E1.res.1 p List.mem_cons_self
    have hd : H1 p = some (.dK []) := E1.keep p _ upd_same (fun z => (s.hide (o := .dK []) hp).dis p List.mem_cons_self z)
    refine ⟨hd, ?_⟩
    cases ek : keyed prs with
    | none => simp only [ek] at q; exact q.elim
    | some m =>
      simp only [ek] at q
      split at q
      · rename_i hz
        obtain ⟨kvs, e2, q1, q2⟩ := keyed_ok ek r1
        have hlen : kvs.length = m.length := by simpa using congrArg List.length q1
        refine ⟨kvs, e2, by omega, ?_⟩
        obtain ⟨z1, z2⟩ := merge_ok (more := m) (kvs := []) (m := kvs) (ks := []) (ts := []) (K := X.K) (H := H1) (μ := μ1) rfl (by simp only [List.map_nil, Rels]) q1 q2
        refine q μ1 _ p (((Ext.hide hp).trans E1).hid hp) hp dn (s1.hid dn) ⟨_, upd_same, z1, Rels.to (μ := μ1) (μ' := μ1) (fun _ _ e => e) (hid_keep dn) _ z2⟩
      · exact q.elim
/-! {} -/
theorem pfn_dict0 : PFN X wx (.Dict [] [] pos) (fun _ S => .ok (.dct [] []) S) := PE.imp pe_dnewK fun σ H Q q => by
  obtain ⟨μ, τ, S, s, f, q⟩ := q
  exact fun p hp => new_at (Ext.refl _ _) q s hp ⟨[], upd_same, rfl, by simp only [List.map_nil, Rels]⟩
/-! list(d.items()) -/
def itemsT (ks : List Key) (ts : List T) : List T := List.zipWith (fun k t => .tup [tKey k, t]) ks ts
def fItems (F : FE) : FE := fun τ S => (F τ S).bind fun d S1 => match dctT S1 d with
  | some (ks, ts) => .ok (.lst (itemsT ks ts)) S1
  | none => .stuck
theorem pfn_items {e : Expr} {F : FE} {p apos cpos pos : Pos} (hc : X.calm = true) (he : PF X wx e F) (hm : X.mg "list" = none) (hg : Gl X "list" := by rfl) (hv : bootBuiltins "list" = some (.type "list") := by rfl) (hbase : attributeBase e "items" X.env (eval e X.env) = eval e X.env := by rfl) (hline : (apos.endLine == cpos.line) = true := by rfl)
    (hs : starEach [.Call (.Attribute e "items" apos) [] [] cpos] X.env = (false, eval (.Call (.Attribute e "items" apos) [] [] cpos) X.env) :: starEach [] X.env := by rfl) :
    PFN X wx (.Call (.Name "list" p) [.Call (.Attribute e "items" apos) [] [] cpos] [] pos) (fItems F) := PE.imp (LiI.pe_listItems hc he hg hm hv hbase hline hs) fun σ H Q q => by
  obtain ⟨μ, τ, S, s, f, h⟩ := q
  refine tG.seqN s f h fun μ1 H1 d v S1 A1 h1 => ?_
  cases e1 : dctT S1 d with
  | none => simp only [e1] at h1; exact h1.elim
  | some kt =>
    obtain ⟨ks, ts⟩ := kt
    simp only [e1] at h1
    obtain ⟨a, kvs, rfl, ha, ek, rk⟩ := dctT_ok e1 A1.st A1.rel
    refine ⟨a, kvs, rfl, ha, fun H' p as hk hp has hpa hl pr => ?_⟩
    have E : Ext H1 μ1 H' (μ1.hide p) := ⟨⟨[], by simp [Mu.hide], fun _ z => nomatch z⟩, ⟨fun q hq => List.mem_cons_of_mem _ hq, fun q hq => (List.mem_cons.mp hq).elim (fun z => .inr (by rw [z]; exact hp)) .inl⟩, fun b u e _ => hk b u e, fun b z => by
      cases q : H1 b with
      | none => exact absurd q z
      | some u => rw [hk b u q]; simp⟩
    have keep : ∀ b u, H1 b = some u → μ1.out b → H' b = some u ∧ (μ1.hide p).out b := fun b u e n => ⟨hk b u e, n.1, fun z => (List.mem_cons.mp z).elim (ne_of_none e hp) n.2⟩
    have st : RelS X.K H' (μ1.hide p) S1 := by
      refine ⟨A1.st.len, A1.st.nd, fun n c b e1 e2 => CellR.to (μ := μ1) (fun _ _ e => e) keep (q := A1.st.cell n c b e1 e2) fun u e => hk b u e, fun q hq => ?_, fun q hq => ?_⟩
      · rcases List.mem_cons.mp hq with z | z
        · rw [z, hl]; simp
        · exact E.live q (A1.st.live q z)
      · rcases List.mem_cons.mp hq with z | z
        · rw [z]; exact (A1.st.free hp).1
        · exact A1.st.dis q z
    have hout : ∀ t ∈ as, (μ1.hide p).out t := fun t ht => ⟨(A1.st.free (has t ht)).1, fun z => (List.mem_cons.mp z).elim (fun q => hpa (q ▸ ht)) (A1.st.free (has t ht)).2⟩
    refine h1 _ _ p (A1.ext.trans E) (A1.ext.back hp) List.mem_cons_self st ⟨_, hl, ?_⟩
    have rk' := Rels.to (μ := μ1) (μ' := μ1.hide p) (fun _ _ e => e) keep _ rk
    clear h1 h hl has hpa ha
    revert hout
    clear e1 A1 st
    induction kvs generalizing ks ts as with
    | nil =>
      cases pr
      subst ek
      intro _
      simp only [itemsT, List.map_nil, List.zipWith_nil_left, Rels]
    | cons kv kvs ih =>
      obtain ⟨k, w⟩ := kv
      intro hout
      cases pr with
      | @cons a' _ as' _ h' pr =>
        subst ek
        cases ts with
        | nil => simp [Rels] at rk
        | cons t ts =>
          simp only [List.map_cons, Rels] at rk rk'
          obtain ⟨w1, r1', e1', r1, r2⟩ := rk
          cases e1'
          obtain ⟨w2, r2', e2', r3, r4⟩ := rk'
          cases e2'
          simp only [itemsT, List.map_cons, List.zipWith_cons_cons, Rels]
          have more : ∀ t ∈ as', (μ1.hide p).out t := fun t ht => hout t (List.mem_cons_of_mem _ ht)
          have tail : Rels X.K H' (μ1.hide p) (itemsT (kvs.map (·.1)) ts) (as'.map V.ref) := by
            apply ih <;> first | assumption | rfl
          refine ⟨.ref a', _, rfl, ?_, tail⟩
          simp only [Rel, Rels]
          exact ⟨a', _, rfl, .inl ⟨.inl h', hout a' List.mem_cons_self⟩, kV k, _, rfl, tKey_rel k, w, [], rfl, r3, rfl⟩
end
end TL
set_option Elab.async false
set_option linter.all false
set_option maxRecDepth 100000
namespace TL
open PySem PySem.Spec L2
open PyProof.Rows hiding St
/-! ### enumerate of a tuple -/
open AutoSeq1 (wpAny_loadPart') in
set_option maxHeartbeats 1000000 in
theorem enum_newT (a : Addr) (items : Array Value) (n : Nat) (dd : Option Addr) (sl : Array (Option Value)) :
    Meets (Builtin.«enumerate.__new__» ⟨[.type "enumerate", .ref a], []⟩) (fun _ R s => s.heap.get? a = some { cls := .type "tuple", dict := dd, data := .seq items n, slots := sl } ∧
      R (.ok (.ret (.ref (s.heap.push { cls := .type "tuple_iterator", data := .fields #[.ref a, .int 0 0] }).objs.size)))
        { s with heap := (s.heap.push { cls := .type "tuple_iterator", data := .fields #[.ref a, .int 0 0] }).push { cls := .type "enumerate", data := .fields #[.none, .bool false, .ref s.heap.objs.size, rawInt 0, .none, .none] } }) :=
  .of_wp fun prog w A R s q => by
    obtain ⟨h0, g, d, tk, os⟩ := s
    obtain ⟨ha, q⟩ := q
    have hE := sub_enumerate
    have hT : Heap.IsTuple (Shared.heap ⟨h0, g, d, tk, os⟩) a items := ⟨_, ha, rfl, n, rfl⟩
    wp_walk using wpAny_loadPart' ha
    refine wpAny_stack_any fun st => wpAny_pure ?_
    split
    case h_1 c _ _ _ _ _ => cases (c == Value.type "enumerate") <;> (wp_walk using wpAny_loadPart' ha, wpAny_pyIter_tuple hT; exact ⟨_, rfl, q⟩)
    all_goals (wp_walk using wpAny_loadPart' ha, wpAny_pyIter_tuple hT; exact ⟨_, rfl, q⟩)
theorem call_enumT {prog : Program} {w : World} {A : Around} {E : Value → Shared → Prop} {s : Shared} {a : Addr} {items : Array Value} {Q : Value → Shared → Prop} (hT : s.heap.IsTuple a items)
    (q : ∀ h', IsEnum h' (s.heap.objs.size + 1) s.heap.objs.size 0 .none → h'.IsTupleIter s.heap.objs.size a 0 → (∀ b o, s.heap.get? b = some o → h'.get? b = some o) → Q (.ref (s.heap.objs.size + 1)) { s with heap := h' }) :
    wpAny (model prog w) A (call (.type "enumerate") [.ref a]) Q E s := by
  obtain ⟨⟨c, dd, dt, sl⟩, ha, hc, n, hd⟩ := hT
  simp only at hc hd
  subst hc hd
  refine callType_new F.called_enumerate (by decide) (F.typeCall_enumerate_1 _) (F.newCall_enumerate_1 _) (fun o => F.args_object_init_2 o _) F.entry_enumerate_new (enum_newT a items n dd sl) ⟨ha, ?_⟩
  have z : (s.heap.push { cls := .type "tuple_iterator", data := .fields #[.ref a, .int 0 0] }).objs.size = s.heap.objs.size + 1 := Heap.size_push ..
  have e1 := Heap.get?_push_size (s.heap.push { cls := .type "tuple_iterator", data := .fields #[.ref a, .int 0 0] }) (o := { cls := .type "enumerate", data := .fields #[.none, .bool false, .ref s.heap.objs.size, rawInt 0, .none, .none] }) rfl
  rw [z] at e1
  show _ ∧ _
  rw [z]
  exact ⟨⟨_, e1, rfl⟩, q _ e1 ⟨_, Heap.get?_push_of_some _ (Heap.get?_push_size _ rfl), rfl, rfl⟩ fun b o y => Heap.get?_push_of_some _ (Heap.get?_push_of_some _ y)⟩
/-- the tuple at a, each item in a new pair with its number -/
def ItE (K : PySem.W.Frag) (a : Addr) : It :=
  ⟨fun i H => ∃ (xs : List V) (x : V), SqT K H a xs ∧ xs[i]? = some x, fun i H v H' => ∃ T x, v = .ref T ∧ H T = none ∧ H' = upd H T (.tup [.int (i : Nat), x]) ∧ ∀ xs, SqT K H a xs → xs[i]? = some x, fun i H => ∃ xs : List V, SqT K H a xs ∧ xs.length ≤ i⟩
theorem turn_enumT {P : Program} {w : World} {K : PySem.W.Frag} {elts : List Expr} {kk : Nat} {tpos : Pos} (a e it : Addr) :
    Turn P w K (.Tuple elts kk tpos) (ItE K a) [e, it] e (fun i h => (∃ old, IsEnum h e it ((i : Nat) : Int) old) ∧ h.IsTupleIter it a i ∧ e ≠ it) where
  mem := List.mem_cons_self
  obj := fun i h st b hb => by
    obtain ⟨⟨old, he⟩, ⟨o, ho, hc, hd⟩, _⟩ := st
    rcases List.mem_cons.mp hb with z | z
    · subst z; exact ⟨_, he, fun v q => nomatch q⟩
    · rw [List.mem_singleton.mp z]; exact ⟨o, ho, fun v q => by rw [hd] at q; cases q⟩
  keep := fun i h h' st k => by
    obtain ⟨⟨old, he⟩, hi, hne⟩ := st
    exact ⟨⟨old, k e List.mem_cons_self _ he⟩, hi.at fun o q => k it (List.mem_cons_of_mem _ List.mem_cons_self) o q, hne⟩
  item := by
    intro X hP hw hK hc i pins s σ H E I hf st hg
    subst hP hw hK
    obtain ⟨⟨old, he⟩, hit, hne⟩ := st
    obtain ⟨xs, x, hq, hx⟩ := hg
    obtain ⟨its, rv, p, hz⟩ := I.tuple hq
    obtain ⟨u, hu, ru⟩ := rv.get hx
    have hT : s.heap.IsTuple a its.toArray := p
    have nae : e ≠ a := fun z => by
      subst z
      obtain ⟨o, ho, hc', _⟩ := hT
      have : s.heap.get? e = some _ := he
      rw [ho] at this
      cases this
      exact absurd (show Value.type "enumerate" = Value.type "tuple" from hc') (by decide)
    have nai : a ≠ it := fun z => by
      subst z
      obtain ⟨o, ho, hc', _⟩ := hT
      obtain ⟨o2, ho2, hc2, _⟩ := hit
      rw [ho] at ho2
      cases ho2
      rw [hc'] at hc2
      exact absurd hc2 (by decide)
    have hel : e < s.heap.objs.size := Heap.lt_size he
    have hil : it < s.heap.objs.size := by obtain ⟨_, q, _⟩ := hit; exact Heap.lt_size q
    have hlt : i < its.toArray.size := by
      have := (List.getElem?_eq_some_iff.mp hu).1
      simpa using this
    refine wpAny_pyNext_enum_itemD (Draws.tuple (A := X.A.in1) (I.ok.hd hc) it a nai its.toArray) he ⟨hit, hT⟩ hlt hne (by simp [hne, nae]) fun y h' tk hP' ho hit' hTn hsz hk => ?_
    have ey : y = u := by
      have z : its.toArray[i]? = some y := hP'
      simp only [List.getElem?_toArray] at z
      rw [hu] at z
      exact (Option.some.inj z).symm
    subst ey
    refine ⟨_, rfl, wpAny_letOwnedTupleGo_enum (s := { s with heap := h', toks := tk + 1 }) ho fun h'' he' sb => ?_⟩
    have hT2 : h''.get? s.heap.objs.size = some { cls := .type "tuple", data := .seq #[.int i tk, y] } := (sb.2 _ (Nat.ne_of_gt hel)).trans hTn
    have new : ObjOk X.prog X.w (upd H s.heap.objs.size (.tup [.int (i : Nat), x])) h'' s.heap.objs.size (.tup [.int (i : Nat), x]) :=
      ⟨by show 2 ≤ sizeLine; decide, [.int i tk, y], .cons ⟨_, rfl⟩ (.cons ru .nil), ⟨_, hT2, rfl, _, rfl⟩⟩
    have I1 : L2.Inv X pins σ (upd H s.heap.objs.size (.tup [.int (i : Nat), x])) { s with heap := h'', toks := tk + 1 } := by
      refine I.turnedNew (ch := [e, it]) (fun b ob hb q => ?_) hf (Nat.le_refl _) new
      have h1 : b ≠ e := fun z => hb (by simp [z])
      have h2 : b ≠ it := fun z => hb (by simp [z])
      exact (sb.2 b h1).trans (hk b ob h1 h2 q)
    refine ⟨.ref s.heap.objs.size, _, I1, rfl, ⟨_, x, rfl, I.hok.fresh (Nat.le_refl _), rfl, fun ys hy => by rw [I.tuple_inj hy hq]; exact hx⟩, ⟨⟨y, ?_⟩, hit'.1.at fun o q => (sb.2 it (Ne.symm hne)).trans q, hne⟩, fun b hb => ?_⟩
    · rw [show ((i + 1 : Nat) : Int) = (i : Int) + 1 by omega]
      exact he'
    · have hb' : b < s.heap.objs.size := by
        rcases List.mem_cons.mp hb with z | z
        · rw [z]; exact hel
        · rw [List.mem_singleton.mp z]; exact hil
      rw [upd_ne (Nat.ne_of_lt hb')]
      exact (hf b hb).1
  done := by
    intro X hP hw hK hc i pins s σ H E I hf st hg
    subst hP hw hK
    obtain ⟨⟨old, he⟩, hit, hne⟩ := st
    obtain ⟨xs, hq, hx⟩ := hg
    obtain ⟨its, rv, p, hz⟩ := I.tuple hq
    have hT : s.heap.IsTuple a its.toArray := p
    have nai : a ≠ it := fun z => by
      subst z
      obtain ⟨o, ho, hc', _⟩ := hT
      obtain ⟨o2, ho2, hc2, _⟩ := hit
      rw [ho] at ho2
      cases ho2
      rw [hc'] at hc2
      exact absurd hc2 (by decide)
    obtain ⟨f0, f1, f2, f3, f4, f5⟩ := hf it (by simp)
    have hl := rv.length
    have hnone : its.toArray[i]? = none := by
      rw [List.getElem?_toArray]
      exact List.getElem?_eq_none (by omega)
    have D : Draws X.prog X.w X.A.in1 it [it, a] 0 (fun _ _ => False) (fun _ h => h.IsTupleIter it a i ∧ h.IsTuple a its.toArray) :=
      ⟨fun _ _ st => let ⟨o, ho, _⟩ := st.1; ⟨o, ho⟩, fun _ _ _ st hk => ⟨st.1.at fun o e => hk it (by simp) o e, st.2.at fun o e => hk a (by simp) o e⟩, fun _ _ _ _ hi _ _ => absurd hi (Nat.not_lt_zero _),
        fun s Q E st hE => wpAny_nextOf_tuple_end (show X.A.in1.handled = none from I.ok.hd hc) st.1 st.2 hnone hE⟩
    exact wpAny_pyNext_enum_endD D he ⟨hit, hT⟩ fun h' eb => ⟨rfl, I.turned (t' := s.toks) (fun b o hb q => eb b o hb q) f0 f1 f3 f4 f5⟩
  self := fun A i s Q E st h => by
    obtain ⟨⟨_, he⟩, _⟩ := st
    exact wpAny_pyIter_enum he h
def fiE (Fs : FA) : FI := fun τ S => (Fs τ S).bind fun ts S1 => match ts with
  | [.tup xs] => .ok ((List.range xs.length).zipWith (fun i x => T.tup [.int (i : Nat), x]) xs) S1
  | _ => .stuck
theorem zip_range {xs : List T} {i : Nat} {y : T} (e : ((List.range xs.length).zipWith (fun i x => T.tup [.int (i : Nat), x]) xs)[i]? = some y) : ∃ x, xs[i]? = some x ∧ y = T.tup [.int (i : Nat), x] := by
  rw [List.getElem?_zipWith] at e
  by_cases hi : i < xs.length
  · rw [List.getElem?_range hi, List.getElem?_eq_getElem hi] at e
    exact ⟨xs[i], List.getElem?_eq_getElem hi, (Option.some.inj e).symm⟩
  · rw [List.getElem?_eq_none (by omega : xs.length ≤ i)] at e
    split at e <;> simp_all
theorem pfi_enum {X : Cx} {wx : WT} {e : Expr} {Fs : FA} {p pos tpos : Pos} {elts : List Expr} {kk : Nat} (ha : PFA X wx [e] Fs) (hm : X.mg "enumerate" = none) (hg : Gl X "enumerate" := by rfl) (hs : starEach [e] X.env = [(false, eval e X.env)] := by rfl) :
    PFI X wx (.Tuple elts kk tpos) (.Call (.Name "enumerate" p) [e] [] pos) (fiE Fs) := by
  refine ⟨fun pins s σ H R I h => ?_⟩
  obtain ⟨μ, τ, S, st, f, h⟩ := h
  refine Call_ (ld_blt I hg hm boot_enumerate (PyProof.Rows.callWith_type1 (thn (ha.run pos pins s σ H (fun vs H1 => ∃ μ1 xs S1, At X.K μ H τ σ (rVs X.K) μ1 H1 [.tup xs] vs S1 ∧ ∀ J, Src X.K J ((List.range xs.length).zipWith (fun i x => T.tup [.int (i : Nat), x]) xs) μ1 H1 → R J H1) I ?_) fun us s1 q1 => ?_) hs rfl))
  · refine tG.seq st f h fun μ1 H1 ts vs S1 A1 h1 => ?_
    split at h1
    · rename_i xs
      exact ⟨μ1, xs, S1, A1, fun J hJ => h1.here A1.st hJ⟩
    · exact h1.elim
  · obtain ⟨vs, H1, I1, r1, μ1, xs, S1, A1, hR⟩ := q1
    obtain ⟨v, rfl, rt⟩ := rels1 (show Rels X.K H1 μ1 [.tup xs] vs from A1.rel)
    simp only [Rel] at rt
    obtain ⟨a, ws, rfl, ho, rw'⟩ := rt
    obtain ⟨u, rfl, ru⟩ := vals1 r1
    cases ru
    have hq : SqT X.K H1 a ws := ho.imp (fun z => z.1) id
    obtain ⟨its, rv, p', hz⟩ := I1.tuple hq
    refine call_enumT (show s1.heap.IsTuple a its.toArray from p') fun h' he hit hk => wpAny_pyIter_enum he ?_
    have I2 : L2.Inv X pins σ H1 { s1 with heap := h' } := I1.kept (t' := s1.toks) hk
    refine ⟨s1.heap.objs.size + 1, [s1.heap.objs.size + 1, s1.heap.objs.size], _, _, H1, rfl, I2, turn_enumT a (s1.heap.objs.size + 1) s1.heap.objs.size, ⟨⟨.none, he⟩, hit, Nat.succ_ne_self _⟩, fun b hb => ?_, hR _ ?_⟩
    · have hle : s1.heap.objs.size ≤ b := by
        rcases List.mem_cons.mp hb with z | z
        · rw [z]; exact Nat.le_succ _
        · rw [List.mem_singleton.mp z]; exact Nat.le_refl _
      obtain ⟨f0, f1, f2, f3, f4, f5⟩ := I1.fpOk hle (I1.hok.fresh hle)
      exact ⟨f0, f1, f2, f3, f4, f5⟩
    · intro μ2 H2 E
      have ho2 : OT X.K H2 μ2 a ws := ho.imp E.fix id
      have hq2 : SqT X.K H2 a ws := ho2.imp (fun z => z.1) id
      have r2 := Rels.mono E xs rw'
      refine ⟨fun i y e => ?_, fun i hi => ⟨ws, hq2, by rw [← r2.length]; simpa using hi⟩⟩
      obtain ⟨x, ex, rfl⟩ := zip_range e
      obtain ⟨v, ev, rv2⟩ := r2.get ex
      refine ⟨⟨ws, v, hq2, ev⟩, fun u H3 y => ?_⟩
      obtain ⟨T', x', rfl, nT, rfl, hx'⟩ := y
      have := hx' ws hq2
      rw [ev] at this
      cases this
      have sm := fresh_same (o := .tup [.int (i : Nat), v]) nT
      refine ⟨sm, fun S s => ?_⟩
      exact rel_tup s nT (by simp only [Rels, Rel]; exact ⟨_, _, rfl, rfl, v, [], rfl, rv2, rfl⟩)
end TL
set_option Elab.async false
set_option linter.all false
set_option maxRecDepth 100000
namespace TL
open PySem PySem.Spec L2
open PyProof.Rows hiding St
def negT (_ : Sto) (x : T) : Option T := match x with
  | .int i => some (.int (-i))
  | _ => none
theorem o_neg {X : Cx} : UnR X (unaryOp .USub) (rU1 X.K negT) := by
  intro pins s σ H x v Q I rx q
  obtain ⟨μ, S, tx, t, st, r1, e, q⟩ := q
  cases tx with
  | int i =>
    simp only [negT] at e
    cases e
    simp only [Rel] at r1
    exact un_neg pins s σ H x v Q I rx ⟨i, r1, q _ H (Same.refl _) rel_int⟩
  | _ => cases e
/-- a def of the module, to be called by its name -/
structure Gd (K : PySem.W.Frag) (mg : Str → Option Value) (x : Str) (st : Stmt) (ps : List Str) (f : Addr) (fd : FuncData) : Prop where
  F : Fun K x x st f fd
  m : mg x = some (.ref f)
  b : L2.Binds K fd ps []
  kp : PySem.W.keepIn K (.ref f) = true
end TL
set_option Elab.async false
set_option linter.all false
set_option maxRecDepth 100000
namespace TL
open PySem PySem.Spec L2
open PyProof.Rows hiding St
/-! ### {k: v for ..} -/
def dcF (g : GT) (Ft : FT) (Fk Fv : FE) (vs : List Nat) (τ : Fr) : List T → Sto → Res (List (Key × T))
  | [], S => .ok [] S
  | x :: xs, S => match g x with
    | none => .stuck
    | some l => if slotsIn l vs then (Ft (setsT τ l) S).nox.bind fun b S1 => match b with
        | true => (Fk (setsT τ l) S1).nox.bind fun k S2 => (Fv (setsT τ l) S2).nox.bind fun v S3 => match keyT k with
          | some k => (dcF g Ft Fk Fv vs τ xs S3).bind fun ys S4 => .ok ((k, v) :: ys) S4
          | none => .stuck
        | false => dcF g Ft Fk Fv vs τ xs S1
      else .stuck
def fDc (Fi : FI) (g : GT) (Ft : FT) (Fk Fv : FE) (vs : List Nat) : FE := fun τ S => (Fi τ S).bind fun xs S1 => if xs.length ≤ sizeLine then (dcF g Ft Fk Fv vs (wipeT τ vs) xs S1).bind fun ys S2 => .ok (.dct (mergeT ([], []) ys).1 (mergeT ([], []) ys).2) S2 else .stuck
theorem mergeT_snoc (kt : List Key × List T) (m : List (Key × T)) (k : Key) (t : T) : mergeT kt (m ++ [(k, t)]) = putK' (mergeT kt m).1 (mergeT kt m).2 k t := by
  unfold mergeT
  rw [List.foldl_append]
  rfl
section
variable {X : Cx} {wx : WT} {pos : Pos}
theorem dc_imp {Fi : FI} {g : GT} {Ft : FT} {Fk Fv : FE} {vs : List Nat} {σ : L2.St} {H : Hp} {Q : VK} (h : tN X.K wx (fDc Fi g Ft Fk Fv vs) σ H Q) : tDc (wiT X.K wx Fi) (gT X.K g) (tG X.K wF rB Ft) (tG X.K wF (rV X.K) Fk) (tG X.K wF (rV X.K) Fv) vs σ H Q := by
  obtain ⟨μ, τ, S, s, f, h⟩ := h
  refine tG.seqN s f h fun μ1 H1 xs J S1 A1 h1 => ?_
  by_cases hl : xs.length ≤ sizeLine
  · rw [if_pos hl] at h1
    intro D hD
    have hD0 : H D = none := A1.ext.back hD
    refine ⟨fun i m H2 => ∃ M S2 kvs prs, Ext H1 μ1 H2 M ∧ D ∈ M.r ∧ RelS X.K H2 M S2 ∧ RelF X.K H2 M τ σ ∧ H2 D = some (.dK kvs) ∧ kvs.map (·.1) = (mergeT ([], []) prs).1 ∧ Rels X.K H2 M (mergeT ([], []) prs).2 (kvs.map (·.2)) ∧ kvs.length ≤ i ∧ i ≤ xs.length ∧ m = xs.length - i ∧
        postN X.K (wx.fr τ σ) μ H ((dcF g Ft Fk Fv vs (wipeT τ vs) (xs.drop i) S2).bind fun ys S3 => .ok (.dct (mergeT ([], []) (prs ++ ys)).1 (mergeT ([], []) (prs ++ ys)).2) S3) Q,
      ⟨xs.length, μ1.hide D, S1, [], [], Ext.hide hD, List.mem_cons_self, A1.st.hide hD, RelF.to (μ := μ1) (fun _ _ e => e) (hide_keep hD) A1.fr, upd_same, rfl, by simp only [mergeT, List.foldl_nil, List.map_nil, Rels], Nat.zero_le _, Nat.zero_le _, rfl, by simpa using h1⟩, fun i m H2 hW => ?_⟩
    obtain ⟨M, S2, kvs, prs, E2, nr2, s2, f2, d2, a2, b2, hai, hix, rfl, h2⟩ := hW
    obtain ⟨go, stop⟩ := A1.rel M H2 E2
    by_cases hlt : i < xs.length
    · rw [drop_cons hlt] at h2
      obtain ⟨hgo, hy⟩ := go i xs[i] (List.getElem?_eq_getElem hlt)
      refine .inr ⟨hgo, fun H' => ∃ M S2 kvs prs, Ext H1 μ1 H' M ∧ D ∈ M.r ∧ RelS X.K H' M S2 ∧ RelF X.K H' M τ σ ∧ H' D = some (.dK kvs) ∧ kvs.map (·.1) = (mergeT ([], []) prs).1 ∧ Rels X.K H' M (mergeT ([], []) prs).2 (kvs.map (·.2)) ∧ kvs.length ≤ i + 1 ∧
        postN X.K (wx.fr τ σ) μ H ((dcF g Ft Fk Fv vs (wipeT τ vs) (xs.drop (i + 1)) S2).bind fun ys S3 => .ok (.dct (mergeT ([], []) (prs ++ ys)).1 (mergeT ([], []) (prs ++ ys)).2) S3) Q, fun H' hN' => ?_, fun v H3 yl => ?_⟩
      · obtain ⟨M3, S3, kvs3, prs3, q1, q2, q3, q4, q5, q6, q6', q7, q8⟩ := hN'
        exact ⟨xs.length - (i + 1), by omega, M3, S3, kvs3, prs3, q1, q2, q3, q4, q5, q6, q6', q7, hlt, rfl, q8⟩
      · obtain ⟨sm, hr⟩ := hy v H3 yl
        have E3 : Ext H2 M H3 M := Ext.of_same sm
        have s3 := s2.same sm
        have f3 := f2.mono E3
        simp only [dcF] at h2
        cases eg : g xs[i] with
        | none => simp only [eg] at h2; exact h2.elim
        | some l =>
          simp only [eg] at h2
          by_cases ha : slotsIn l vs = true
          · rw [if_pos ha] at h2
            refine ⟨M, xs[i], l, hr S2 s2, eg, fun l' fl => ⟨wipe_back (slotsIn_mem ha fl), ?_⟩⟩
            have fb : RelF X.K H3 M (setsT (wipeT τ vs) l) (setsV (wipe σ vs) l') := RelF.sets fl (relF_wipe f3 vs)
            cases et : Ft (setsT (wipeT τ vs) l) S2 with
            | stuck => rw [et] at h2; exact h2.elim
            | exc x S4 => rw [et] at h2; exact h2.elim
            | ok b S4 =>
              rw [et] at h2
              simp only [Res.nox, Res.bind] at h2
              refine tG.known s3 fb et fun M4 H4 b' A4 => ?_
              have e : b = b' := A4.rel
              subst e
              have E4 : Ext H2 M H4 M4 := E3.trans A4.ext
              cases b with
              | false =>
                simp only at h2
                refine iteF ⟨M4, S4, kvs, prs, E2.trans E4, A4.ext.res.1 D nr2, A4.st, f2.mono E4, ?_, a2, Rels.mono E4 _ b2, by omega, h2⟩
                exact E4.keep D _ d2 (s2.dis D nr2)
              | true =>
                simp only at h2
                refine iteT ?_
                cases ek : Fk (setsT (wipeT τ vs) l) S4 with
                | stuck => rw [ek] at h2; exact h2.elim
                | exc x S5 => rw [ek] at h2; exact h2.elim
                | ok k S5 =>
                  rw [ek] at h2
                  simp only at h2
                  refine tG.known A4.st A4.fr ek fun M5 H5 y A5 => ?_
                  cases ev : Fv (setsT (wipeT τ vs) l) S5 with
                  | stuck => rw [ev] at h2; exact h2.elim
                  | exc x S6 => rw [ev] at h2; exact h2.elim
                  | ok u S6 =>
                    rw [ev] at h2
                    simp only at h2
                    refine tG.known A5.st A5.fr ev fun M6 H6 z A6 => ?_
                    cases eq : keyT k with
                    | none => simp only [eq] at h2; exact h2.elim
                    | some key =>
                      simp only [eq] at h2
                      have E6 : Ext H2 M H6 M6 := (E4.trans A5.ext).trans A6.ext
                      have nr6 : D ∈ M6.r := E6.res.1 D nr2
                      have d6 : H6 D = some (.dK kvs) := E6.keep D _ d2 (s2.dis D nr2)
                      obtain ⟨p1, p2⟩ := putK_ok (k := key) (t := u) (v := z) a2 (Rels.mono E6 _ b2) A6.rel
                      rw [← mergeT_snoc] at p1 p2
                      have hlen := length_putK kvs key z
                      refine ⟨kvs, key, keyT_ok eq (Rel.mono A6.ext k A5.rel), d6, by omega, M6, S6, _, prs ++ [(key, u)], (E2.trans E6).hid hD, nr6, A6.st.hid nr6, RelF.to (μ := M6) (fun _ _ e => e) (hid_keep nr6) (f2.mono E6), upd_same, p1, ?_, by omega, ?_⟩
                      · exact Rels.to (μ := M6) (fun _ _ e => e) (hid_keep nr6) _ p2
                      · cases er : dcF g Ft Fk Fv vs (wipeT τ vs) (xs.drop (i + 1)) S6 with
                        | stuck => rw [er] at h2; exact h2.elim
                        | exc x S7 => rw [er] at h2; exact h2
                        | ok ys S7 =>
                          rw [er] at h2
                          simp only [Res.bind] at h2 ⊢
                          rw [List.append_assoc]
                          exact h2
          · rw [if_neg ha] at h2; exact h2.elim
    · have e : i = xs.length := by omega
      subst e
      rw [List.drop_length] at h2
      refine .inl ⟨stop _ (Nat.le_refl _), ?_⟩
      simp only [dcF, Res.bind, List.append_nil] at h2
      exact h2 M H2 D (A1.ext.trans E2) hD0 nr2 s2 ⟨kvs, d2, a2, b2⟩
  · rw [if_neg hl] at h1; exact h1.elim
theorem pfn_dc {kx vx tg iter : Expr} {ifs : List Expr} {scope : Scope} {own : List (Str × Nat)} {Fi : FI} {g : GT} {Ft : FT} {Fk Fv : FE} (hc : X.calm = true) (hN : X.N.Nodup) (hi : PFI X wx tg iter Fi) (ok : BlkOk X.N X.env.scope scope own)
    (hg : ∀ (s : Shared) (H : Hp) (C : Addr) (cl : List (Str × Addr)) (fp : List Addr), PFG (X.blk s H scope (compEnvC scope cl C X.env) fp) tg g) (ht : ∀ (s : Shared) (H : Hp) (C : Addr) (cl : List (Str × Addr)) (fp : List Addr), PFTs (X.blk s H scope (compEnvC scope cl C X.env) fp) wF ifs Ft)
    (hk : ∀ (s : Shared) (H : Hp) (C : Addr) (cl : List (Str × Addr)) (fp : List Addr), PF (X.blk s H scope (compEnvC scope cl C X.env) fp) wF kx Fk)
    (he : ∀ (s : Shared) (H : Hp) (C : Addr) (cl : List (Str × Addr)) (fp : List Addr), PF (X.blk s H scope (compEnvC scope cl C X.env) fp) wF vx Fv) (hs : ∀ x, foldedSetIterable iter X.env x = pure x := by intro _; rfl) :
    PFN X wx (.DictComp kx vx [⟨tg, iter, ifs, 0⟩] scope pos) (fDc Fi g Ft Fk Fv (own.map (·.2))) := PE.imp (pe_dc (g := gT X.K g) (tt := tG X.K wF rB Ft) (tk := tG X.K wF (rV X.K) Fk) (tv := tG X.K wF (rV X.K) Fv) hc hN hi ok hg ht hk he hs) fun _ _ _ h => dc_imp h
/-- a name set to a comprehension's dict on one row -/
theorem swD_true {kx vx : Expr} {gs : List Comprehension} {scope : Scope} {pos py : Pos} {y : Str} {l : Nat} {env : Env} (hk : env.scope.kind = .function) (hy : env.scope.names.lookup y = some .local) (hl : (py.line == pos.line) = true)
    (ha : (scope.names.any fun (n, k) => n == y && (k == .local || k == .cell)) = false) : swapsWith (.DictComp kx vx gs scope pos) (some (.Name y py)) l env = pure true := by
  have k1 : env.kindOf y = some .local := hy
  have k2 : env.blockKind = .function := by
    unfold Env.blockKind
    rw [hk]
    rfl
  unfold swapsWith
  simp only [k2, k1, ha, Expr.pos, hl]
  rfl
section
variable {kx vx tg iter : Expr} {ifs : List Expr} {scope : Scope} {own : List (Str × Nat)} {Fi : FI} {g : GT} {Ft : FT} {Fk Fv : FE} {i : Nat} {y : Str} {py spos : Pos} (hc : X.calm = true) (hN : X.N.Nodup) (hy : X.N[i]? = some y) (hyl : X.env.scope.names.lookup y = some .local)
  (hsw : swapsWith (.DictComp kx vx [⟨tg, iter, ifs, 0⟩] scope pos) (some (.Name y py)) spos.line X.env = pure true) (hi : PFI X wx tg iter Fi) (ok : BlkOk X.N X.env.scope scope own)
  (hg : ∀ (s : Shared) (H : Hp) (C : Addr) (cl : List (Str × Addr)) (fp : List Addr), PFG (X.blk s H scope (compEnvC scope cl C X.env) fp) tg g) (ht : ∀ (s : Shared) (H : Hp) (C : Addr) (cl : List (Str × Addr)) (fp : List Addr), PFTs (X.blk s H scope (compEnvC scope cl C X.env) fp) wF ifs Ft)
  (hk : ∀ (s : Shared) (H : Hp) (C : Addr) (cl : List (Str × Addr)) (fp : List Addr), PF (X.blk s H scope (compEnvC scope cl C X.env) fp) wF kx Fk)
  (he : ∀ (s : Shared) (H : Hp) (C : Addr) (cl : List (Str × Addr)) (fp : List Addr), PF (X.blk s H scope (compEnvC scope cl C X.env) fp) wF vx Fv) (hs : ∀ x, foldedSetIterable iter X.env x = pure x := by intro _; rfl)
include hc hN hy hyl hsw hi ok hg ht hk he hs
theorem ps_setD : PS X (.Assign [.Name y py] (.DictComp kx vx [⟨tg, iter, ifs, 0⟩] scope pos) spos) (fun D σ H => tN X.K wx (fDc Fi g Ft Fk Fv (own.map (·.2))) σ H (fun x H1 => D.nx (σ.set i (some x)) H1)) := by
  refine ⟨fun pins s σ H D I h => ?_⟩
  rw [exec_Assign_Name_used _ _ _ _ hsw]
  refine wpAny_bind (wpAny_standAt (wpAny_bind ?_))
  show wpAny _ X.A (do
    let _ ← comprehension (.DictComp kx vx [⟨tg, iter, ifs, 0⟩] scope pos) scope X.env (firstIterPos [⟨tg, iter, ifs, 0⟩] pos) newDict false
      (eval iter X.env) (some (assign (.Name y py) X.env))) _ _ s
  have core := dc_core (pos := pos) (g := gT X.K g) (tt := tG X.K wF rB Ft) (tk := tG X.K wF (rV X.K) Fk) (tv := tG X.K wF (rV X.K) Fv) (Qf := fun _ s' => SP X pins D .next s') (use := some (assign (.Name y py) X.env)) (pos' := firstIterPos [⟨tg, iter, ifs, 0⟩] pos) hc hN I hi ok hg ht hk he hs (dc_imp h) fun L C s' m H' I' q hn f => by
    show wpAny _ _ (assign (.Name y py) X.env (.ref L)) _ _ _
    refine wpAny_assign_Name (store_ok2 (v := V.ref L) I' hN hy (.inl hyl) rfl (fun s2 I2 z => ?_) (.inr hyl))
    obtain ⟨a, sb, ha⟩ := z
    obtain ⟨f0, f1, f2, f3, f4, f5⟩ := f
    have nCa : C ≠ a := ha.elim (fun z => by rw [z]; exact f1) fun z e => f4 y a z e.symm
    exact ⟨m, hn.sameBut sb nCa, fun h3 sb3 => ⟨_, H', I2.turned (t' := s2.toks) (fun b o hb e => (sb3.2 b hb).trans e) f0 f1 f3 f4 f5, q⟩⟩
  exact wpAny_bind (thn core fun _ s' hq => wpAny_pure (wpAny_pure hq))
theorem pfs_setDc : PFS X wx (.Assign [.Name y py] (.DictComp kx vx [⟨tg, iter, ifs, 0⟩] scope pos) spos) (bSet i (fPure (fDc Fi g Ft Fk Fv (own.map (·.2))))) := by
  refine PS.imp (ps_setD (wx := wx) hc hN hy hyl hsw hi ok hg ht hk he hs) fun D σ H h => ?_
  exact pure_imp (set_imp h)
theorem pfs_setDcC : PFS X wx (.Assign [.Name y py] (.DictComp kx vx [⟨tg, iter, ifs, 0⟩] scope pos) spos) (bSet i (fCell (fDc Fi g Ft Fk Fv (own.map (·.2))))) := by
  refine PS.imp (ps_setD (wx := wx) hc hN hy hyl hsw hi ok hg ht hk he hs) fun D σ H h => ?_
  exact cell_imp (set_imp h)
end
end
end TL
set_option Elab.async false
set_option linter.all false
set_option maxRecDepth 100000
namespace TL
open PySem PySem.Spec L2
open PyProof.Rows hiding St
/-! ### texts in order -/
def leS (a b : Str) : Bool := !ltCps b.cps.toList a.cps.toList
def insS (x : Str) : List Str → List Str
  | [] => [x]
  | y :: r => if leS x y then x :: y :: r else y :: insS x r
def sortS : List Str → List Str
  | [] => []
  | x :: r => insS x (sortS r)
theorem leS_iff {a b : Str} : leS a b = true ↔ ¬ (b.cps.toList < a.cps.toList) := by
  unfold leS
  rw [ltCps_eq]
  simp
theorem leS_total (a b : Str) : leS a b = true ∨ leS b a = true := by
  rw [leS_iff, leS_iff]
  by_cases h : b.cps.toList < a.cps.toList
  · exact .inr fun z => List.lt_irrefl _ (List.lt_trans h z)
  · exact .inl h
theorem leS_trans {a b c : Str} (h : leS a b = true) (g : leS b c = true) : leS a c = true := by
  rw [leS_iff] at h g ⊢
  exact List.le_trans (show a.cps.toList ≤ b.cps.toList from h) (show b.cps.toList ≤ c.cps.toList from g)
theorem leS_anti {a b : Str} (h : leS a b = true) (g : leS b a = true) : a = b := by
  rw [leS_iff] at h g
  have : a.cps.toList = b.cps.toList := List.le_antisymm (show a.cps.toList ≤ b.cps.toList from h) (show b.cps.toList ≤ a.cps.toList from g)
  cases a; cases b
  simp only [Str.mk.injEq] at this ⊢
  exact Array.ext' this
theorem rising_pw : ∀ {l : List Str} {p : Str}, risingS p l = true → (p :: l).Pairwise fun a b => leS a b = true
  | [], p, _ => by simp
  | x :: r, p, h => by
    have h' : (leS p x && risingS x r) = true := h
    simp only [Bool.and_eq_true] at h'
    have ih := rising_pw h'.2
    rw [List.pairwise_cons]
    refine ⟨fun y hy => ?_, ih⟩
    rcases List.mem_cons.mp hy with z | z
    · rw [z]; exact h'.1
    · exact leS_trans h'.1 ((List.pairwise_cons.mp ih).1 y z)
theorem sorted_pw : ∀ {l : List Str}, sortedS l = true → l.Pairwise fun a b => leS a b = true
  | [], _ => List.Pairwise.nil
  | x :: r, h => rising_pw h
theorem insS_perm (x : Str) : ∀ l : List Str, (insS x l).Perm (x :: l)
  | [] => List.Perm.refl _
  | y :: r => by
    unfold insS
    by_cases h : leS x y = true
    · rw [if_pos h]
    · rw [if_neg h]
      exact ((insS_perm x r).cons y).trans (List.Perm.swap x y r)
theorem sortS_perm : ∀ l : List Str, (sortS l).Perm l
  | [] => List.Perm.refl _
  | x :: r => (insS_perm x _).trans ((sortS_perm r).cons x)
theorem insS_pw (x : Str) : ∀ {l : List Str}, l.Pairwise (fun a b => leS a b = true) → (insS x l).Pairwise fun a b => leS a b = true
  | [], _ => by simp [insS]
  | y :: r, h => by
    unfold insS
    by_cases hx : leS x y = true
    · rw [if_pos hx, List.pairwise_cons]
      refine ⟨fun z hz => ?_, h⟩
      rcases List.mem_cons.mp hz with q | q
      · rw [q]; exact hx
      · exact leS_trans hx ((List.pairwise_cons.mp h).1 z q)
    · rw [if_neg hx, List.pairwise_cons]
      refine ⟨fun z hz => ?_, insS_pw x (List.pairwise_cons.mp h).2⟩
      rcases List.mem_cons.mp ((insS_perm x r).mem_iff.mp hz) with q | q
      · rw [q]; exact (leS_total x y).resolve_left hx
      · exact (List.pairwise_cons.mp h).1 z q
theorem sortS_pw : ∀ l : List Str, (sortS l).Pairwise fun a b => leS a b = true
  | [] => List.Pairwise.nil
  | x :: r => insS_pw x (sortS_pw r)
theorem sort_one {ys xs : List Str} (p : ys.Perm xs) (h : sortedS ys = true) : ys = sortS xs :=
  List.Perm.eq_of_pairwise (fun _ _ _ _ a b => leS_anti a b) (sorted_pw h) (sortS_pw xs) (p.trans (sortS_perm xs).symm)
def strsT : List T → Option (List Str)
  | [] => some []
  | .str x :: r => (strsT r).map (x :: ·)
  | _ => none
theorem strsT_ok {K : PySem.W.Frag} {H : Hp} {μ : Mu} : ∀ {ts : List T} {xs : List Str} {vs : List V}, strsT ts = some xs → Rels K H μ ts vs → vs = xs.map V.str
  | [], _, _, e, r => by simp only [strsT] at e; cases e; simp only [Rels] at r; subst r; rfl
  | t :: ts, _, _, e, r => by
    cases t with
    | str x =>
      simp only [strsT, Option.map_eq_some_iff] at e
      obtain ⟨xs, e, rfl⟩ := e
      simp only [Rels, Rel] at r
      obtain ⟨v, r', rfl, rfl, r⟩ := r
      rw [strsT_ok e r]
      rfl
    | _ => simp only [strsT] at e; cases e
theorem strs_rels {K : PySem.W.Frag} {H : Hp} {μ : Mu} : ∀ xs : List Str, Rels K H μ (xs.map T.str) (xs.map V.str)
  | [] => by simp only [List.map_nil, Rels]
  | x :: r => by
    simp only [List.map_cons, Rels, Rel]
    exact ⟨_, _, rfl, rfl, strs_rels r⟩
def keyStrs : List Key → Option (List Str)
  | [] => some []
  | .inr x :: r => (keyStrs r).map (x :: ·)
  | .inl _ :: _ => none
theorem keyStrs_ok : ∀ {ks : List Key} {xs : List Str}, keyStrs ks = some xs → ks = xs.map Sum.inr
  | [], _, e => by simp only [keyStrs] at e; cases e; rfl
  | .inr x :: r, _, e => by
    simp only [keyStrs, Option.map_eq_some_iff] at e
    obtain ⟨xs, e, rfl⟩ := e
    rw [keyStrs_ok e]; rfl
  | .inl _ :: _, _, e => by simp only [keyStrs] at e; cases e
section
variable {prog : Program} {w : World} {A : Around} {E : Value → Shared → Prop} {s : Shared}
/-- what stands in a tuple is gathered into a new list -/
theorem gather_tup {a : Addr} {us : List Value} {Q : List Value → Shared → Prop} (hT : s.heap.IsTuple a us.toArray) (hz : us.length ≤ sizeLine)
    (q : ∀ h', (∀ b o, s.heap.get? b = some o → h'.get? b = some o) → Q us { s with heap := h' }) : wpAny (model prog w) A (collect (.ref a)) Q E s := by
  obtain ⟨o, ho, hc, n, hd⟩ := id hT
  have ho1 : (s.heap.push (seqObj "list" #[] 0)).get? a = some o := Heap.get?_push_of_some _ ho
  have hl1 : (s.heap.push (seqObj "list" #[] 0)).get? s.heap.objs.size = some (seqObj "list" #[] 0) := Heap.get?_push_size _ rfl
  have fits : (#[] ++ us.toArray).size ≤ sizeLine + 1 := by simp; omega
  unfold collect
  refine wpAny_bind (wpAny_runValue (codeAny_builtin entry_proto_collect' ?_))
  refine wpAny_bind (wpAny_newList (wpAny_pure ⟨Code.quiet_builtin _ (by decide +kernel), codeAny_builtin entry_list_iadd' ?_⟩))
  show wpAny _ _ (Builtin.List.listExtendWith (.ref s.heap.objs.size) (.ref a) (.ref s.heap.objs.size)) _ _
    { s with heap := s.heap.push (seqObj "list" #[] 0) }
  unfold Builtin.List.listExtendWith
  refine wpAny_bind (wpAny_typeOf (T := "tuple") ⟨o, ho1, hc⟩ ?_)
  have same : (Value.type "tuple" == Value.type "tuple") = true := rfl
  rw [if_pos (by rw [same]; simp)]
  refine wpAny_bind (listItems_at ho1 hd (wpAny_bind (listItems_at hl1 rfl ?_)))
  rw [if_neg (by simp)]
  refine wpAny_bind (listUpdate_at hl1 rfl (wpAny_pure ?_) (Nat.zero_le _) fits)
  refine wpAny_bind (wpAny_load (get?_update_seq hl1 _) ?_)
  show wpAny _ _ (pure ((#[] : Array Value) ++ us.toArray).toList) Q E _
  rw [show ((#[] : Array Value) ++ us.toArray).toList = us by simp]
  refine wpAny_pure (q _ fun b u e => ?_)
  have hb : b ≠ s.heap.objs.size := Nat.ne_of_lt (Heap.lt_size e)
  rw [Heap.get?_update_ne _ _ _ _ hb]
  exact Heap.get?_push_of_some _ e
end
/-- sorted of a tuple of texts -/
theorem sorted_tupS {X : Cx} : CallR X (.builtin "sorted") (fun vs H Q => ∃ (a : Addr) (xs : List Str), vs = [V.ref a] ∧ SqT X.K H a (xs.map V.str) ∧ xs.length < 64 ∧
    ∀ p, H p = none → Q (.ref p) (upd H p (.lst ((sortS xs).map V.str)))) := by
  intro pins s σ H vs us Q I r h
  obtain ⟨a, xs, rfl, hs, h64, q⟩ := h
  obtain ⟨its, rv, hT, hz⟩ := I.tuple hs
  rw [Vals.ref1 r]
  have hS := rv.strs
  have hl : its.length = xs.length := by
    have := rv.length
    rw [List.length_map] at this
    exact this.symm
  refine Calls.call_function_entry kind_sorted plain_sorted entry_sorted (args_sorted1 _) ?_
  unfold Builtin.«sorted»
  refine wpAny_bind (m := checkCount "sorted" 1 1 _) (wpAny_pure (wpAny_bind (gather_tup hT (by rw [hl, sizeLine_eq]; omega) fun h' hk => ?_)))
  have I1 : L2.Inv X pins σ H { s with heap := h' } := I.kept (t' := s.toks) hk
  refine wpAny_bind (wpAny_newList ?_ (by rw [hl, sizeLine_eq]; omega))
  have hoL : (h'.push (seqObj "list" its.toArray 0)).get? h'.objs.size = some (seqObj "list" its.toArray 0) := Heap.get?_push_size _ rfl
  show wpAny _ _ _ _ _ { s with heap := h'.push (seqObj "list" its.toArray 0) }
  refine wpAny_bind (wpAny_holding (wpAny_call_entry slot_list_sort ⟨_, hoL, rfl⟩ entry_list_sort (list_sort_treeK strKind_oneLt (s := { s with heap := h'.push (seqObj "list" its.toArray 0) }) hoL hS.keysOf
    (fun v₁ v₂ rest e => keyKind_strs (by rw [← e]; exact hS)) (by rw [hl]; exact h64) fun st' hp hss => ⟨_, rfl, ?_⟩) (args_list_sort _)))
  obtain ⟨ys, g1, g2, g3⟩ := sorted_out_str hS hp hss
  obtain ⟨n', he⟩ := sortedHeap_at (vs := its) (out := (arrOf st').map (·.2)) hoL
  have ey := sort_one g2 g3
  subst ey
  have hlen : ((sortS xs).map V.str).length ≤ sizeLine := by
    rw [List.length_map, g2.length_eq, sizeLine_eq]; omega
  refine wpAny_pure ⟨_, rfl, .ref h'.objs.size, upd H h'.objs.size (.lst ((sortS xs).map V.str)), I1.laid (t' := s.toks) (fun b u e => ?_) (Nat.le_refl _)
    (show ObjOk X.prog X.w _ _ _ (.lst ((sortS xs).map V.str)) from ⟨hlen, ((arrOf st').map (·.2)).toList, n', vals_of_strs g1, by rw [Array.toArray_toList]; exact he⟩), rfl, q _ (I1.hok.fresh (Nat.le_refl _))⟩
  have hb : b < h'.objs.size := Heap.lt_size e
  rw [sortedHeap_old (Nat.ne_of_lt hb) (by rw [size_push']; exact Nat.lt_succ_of_lt hb)]
  exact Heap.get?_push_of_some _ e
def sortT (S : Sto) (ts : List T) : Option T := match ts with
  | [.tup ts] => (strsT ts).bind fun xs => if xs.length < 64 then some (.lst ((sortS xs).map T.str)) else none
  | [t] => match dctT S t with
    | some (ks, _) => (keyStrs ks).bind fun xs => if xs.length < 64 then some (.lst ((sortS xs).map T.str)) else none
    | none => (seqL S t).bind fun ts => (strsT ts).bind fun xs => if xs.length < 64 then some (.lst ((sortS xs).map T.str)) else none
  | _ => none
theorem c_sorted {X : Cx} (hc : X.calm = true) : CallR X (.builtin "sorted") (rNw X.K sortT) := by
  intro pins s σ H xs us Q I rv q
  obtain ⟨μ, S, ts, c, st, r, e, q⟩ := q
  unfold sortT at e
  split at e
  · simp only [Option.bind_eq_some_iff] at e
    obtain ⟨xs, hx, e⟩ := e
    split at e
    · rename_i h64
      cases e
      obtain ⟨v, ev, rr⟩ := rels1 r
      subst ev
      obtain ⟨a, vs, rfl, ha, r2⟩ := tup_ok rr
      rw [strsT_ok hx r2] at ha
      exact sorted_tupS pins s σ H _ us Q I rv ⟨a, xs, rfl, ha, h64, fun p hp => q p _ hp ⟨_, upd_same, strs_rels _⟩⟩
    · cases e
  · obtain ⟨v, ev, rr⟩ := rels1 r
    subst ev
    split at e
    · rename_i ks ts' hd
      simp only [Option.bind_eq_some_iff] at e
      obtain ⟨xs, hx, e⟩ := e
      split at e
      · rename_i h64
        cases e
        obtain ⟨a, kvs, rfl, ha, ek, _⟩ := dctT_ok hd st rr
        refine call_sortedD hc pins s σ H _ us Q I rv ⟨a, kvs, xs, rfl, .inl ha, by rw [ek]; exact keyStrs_ok hx, h64, fun ys p h1 h2 hp => ?_⟩
        have ey := sort_one h1 h2
        subst ey
        exact q p _ hp ⟨_, upd_same, strs_rels _⟩
      · cases e
    · simp only [Option.bind_eq_some_iff] at e
      obtain ⟨ts', hs, xs, hx, e⟩ := e
      split at e
      · rename_i h64
        cases e
        obtain ⟨a, vs, rfl, ha, r2⟩ := seqL_ok hs st rr
        rw [strsT_ok hx r2] at ha
        refine cr_sortedS pins s σ H _ us Q I rv ⟨a, xs, rfl, ha, h64, fun ys p h1 h2 hp => ?_⟩
        have ey := sort_one h1 h2
        subst ey
        exact q p _ hp ⟨_, upd_same, strs_rels _⟩
      · cases e
  · cases e
end TL
set_option Elab.async false
set_option linter.all false
set_option maxRecDepth 100000
namespace TL
open PySem PySem.Spec L2
open PyProof.Rows hiding St
/-! ### for k, v in d.items() -/
mutual
def noD : T → Bool
  | .non => true
  | .bl _ => true
  | .int _ => true
  | .str _ => true
  | .tup ts => noDs ts
  | .lst ts => noDs ts
  | .sls ts => noDs ts
  | .dct _ _ => false
  | .ref _ => true
  | .val _ => true
def noDs : List T → Bool
  | [] => true
  | t :: ts => noD t && noDs ts
end
def noDc : T → Bool
  | .lst ts => noDs ts
  | .dct _ ts => noDs ts
  | _ => true
section
variable {K : PySem.W.Frag} {H H' : Hp} {μ : Mu} {S : Sto} {d : Addr} {od : Obj} {kvs : List (Key × V)}
mutual
theorem Rel.lock (hd : H d = some (.dK kvs)) : ∀ (t : T) {v : V}, noD t = true → Rel K H μ t v → Rel K (upd H d (.frz od (.dK kvs))) μ t v
  | .non, _, _, h => by simpa only [Rel] using h
  | .bl _, _, _, h => by simpa only [Rel] using h
  | .int _, _, _, h => by simpa only [Rel] using h
  | .str _, _, _, h => by simpa only [Rel] using h
  | .val _, _, _, h => by simpa only [Rel] using h
  | .ref n, _, _, h => by simpa only [Rel] using h
  | .tup ts, _, n, h => by
    simp only [Rel] at h ⊢
    obtain ⟨a, xs, rfl, o, r⟩ := h
    refine ⟨a, xs, rfl, o.imp (fun z => ?_) id, Rels.lock hd ts (by simpa only [noD] using n) r⟩
    have ne : ∀ u, H a = some u → u ≠ .dK kvs → a ≠ d := fun u e q z => by subst z; rw [hd] at e; cases e; exact q rfl
    obtain ⟨z | ⟨o, z⟩, m⟩ := z
    · exact ⟨.inl (by rw [upd_ne (ne _ z (fun q => nomatch q))]; exact z), m⟩
    · exact ⟨.inr ⟨o, by rw [upd_ne (ne _ z (fun q => nomatch q))]; exact z⟩, m⟩
  | .lst ts, _, n, h => by
    simp only [Rel] at h ⊢
    obtain ⟨a, xs, rfl, ⟨z, m⟩, r⟩ := h
    refine ⟨a, xs, rfl, ⟨?_, m⟩, Rels.lock hd ts (by simpa only [noD] using n) r⟩
    rw [upd_ne (fun q : a = d => by subst q; rw [hd] at z; cases z)]
    exact z
  | .sls ts, _, n, h => by
    simp only [Rel] at h ⊢
    obtain ⟨a, xs, rfl, o, r⟩ := h
    refine ⟨a, xs, rfl, o.imp (fun z => ?_) id, Rels.lock hd ts (by simpa only [noD] using n) r⟩
    have ne : ∀ u, H a = some u → u ≠ .dK kvs → a ≠ d := fun u e q z => by subst z; rw [hd] at e; cases e; exact q rfl
    obtain ⟨z | ⟨o, z⟩, m⟩ := z
    · exact ⟨.inl (by rw [upd_ne (ne _ z (fun q => nomatch q))]; exact z), m⟩
    · exact ⟨.inr ⟨o, by rw [upd_ne (ne _ z (fun q => nomatch q))]; exact z⟩, m⟩
  | .dct _ _, _, n, _ => by simp only [noD] at n; cases n
theorem Rels.lock (hd : H d = some (.dK kvs)) : ∀ (ts : List T) {vs : List V}, noDs ts = true → Rels K H μ ts vs → Rels K (upd H d (.frz od (.dK kvs))) μ ts vs
  | [], _, _, h => by simpa only [Rels] using h
  | t :: ts, _, n, h => by
    simp only [Rels] at h ⊢
    simp only [noDs, Bool.and_eq_true] at n
    obtain ⟨v, r, rfl, h1, h2⟩ := h
    exact ⟨v, r, rfl, Rel.lock hd t n.1 h1, Rels.lock hd ts n.2 h2⟩
end
theorem RelS.lock (hd : H d = some (.dK kvs)) (hn : d ∉ μ.c) (s : RelS K H μ S) (n : S.all noDc = true) : RelS K (upd H d (.frz od (.dK kvs))) μ S := by
  refine ⟨s.len, s.nd, fun m c a e1 e2 => ?_, fun p hp => ?_, s.dis⟩
  · have q := s.cell m c a e1 e2
    have nc := List.all_eq_true.mp n c (List.mem_of_getElem? e1)
    have ne : a ≠ d := fun z => hn (z ▸ List.mem_of_getElem? e2)
    cases c with
    | lst ts =>
      obtain ⟨vs, h, q⟩ := q
      exact ⟨vs, by rw [upd_ne ne]; exact h, Rels.lock hd ts nc q⟩
    | dct ks ts =>
      obtain ⟨vs, h, e, q⟩ := q
      exact ⟨vs, by rw [upd_ne ne]; exact h, e, Rels.lock hd ts nc q⟩
    | _ => exact q.elim
  · by_cases z : p = d
    · subst z; rw [upd_same]; simp
    · rw [upd_ne z]; exact s.live p hp
/-- back again: what is known while it is locked names it nowhere -/
theorem unlock_keep (hd : H' d = some (.frz od (.dK kvs))) : ∀ a u, (∀ o w, u = .frz o (.dK w) → False) → H' a = some u → upd H' d (.dK kvs) a = some u := fun a u q e => by
  rw [upd_ne (fun z : a = d => by subst z; rw [hd] at e; cases e; exact q _ _ rfl)]
  exact e
mutual
theorem Rel.unlock (hd : H' d = some (.frz od (.dK kvs))) : ∀ (t : T) {v : V}, Rel K H' μ t v → Rel K (upd H' d (.dK kvs)) μ t v
  | .non, _, h => by simpa only [Rel] using h
  | .bl _, _, h => by simpa only [Rel] using h
  | .int _, _, h => by simpa only [Rel] using h
  | .str _, _, h => by simpa only [Rel] using h
  | .val _, _, h => by simpa only [Rel] using h
  | .ref n, _, h => by simpa only [Rel] using h
  | .tup ts, _, h => by
    simp only [Rel] at h ⊢
    obtain ⟨a, xs, rfl, o, r⟩ := h
    refine ⟨a, xs, rfl, o.imp (fun z => ?_) id, Rels.unlock hd ts r⟩
    obtain ⟨z | ⟨o, z⟩, m⟩ := z
    · exact ⟨.inl (unlock_keep hd a _ (fun _ _ q => nomatch q) z), m⟩
    · exact ⟨.inr ⟨o, unlock_keep hd a _ (fun _ _ q => by cases q) z⟩, m⟩
  | .lst ts, _, h => by
    simp only [Rel] at h ⊢
    obtain ⟨a, xs, rfl, ⟨z, m⟩, r⟩ := h
    exact ⟨a, xs, rfl, ⟨unlock_keep hd a _ (fun _ _ q => nomatch q) z, m⟩, Rels.unlock hd ts r⟩
  | .sls ts, _, h => by
    simp only [Rel] at h ⊢
    obtain ⟨a, xs, rfl, o, r⟩ := h
    refine ⟨a, xs, rfl, o.imp (fun z => ?_) id, Rels.unlock hd ts r⟩
    obtain ⟨z | ⟨o, z⟩, m⟩ := z
    · exact ⟨.inl (unlock_keep hd a _ (fun _ _ q => nomatch q) z), m⟩
    · exact ⟨.inr ⟨o, unlock_keep hd a _ (fun _ _ q => by cases q) z⟩, m⟩
  | .dct ks ts, _, h => by
    simp only [Rel] at h ⊢
    obtain ⟨a, xs, rfl, ⟨z, m⟩, e, r⟩ := h
    exact ⟨a, xs, rfl, ⟨unlock_keep hd a _ (fun _ _ q => nomatch q) z, m⟩, e, Rels.unlock hd ts r⟩
theorem Rels.unlock (hd : H' d = some (.frz od (.dK kvs))) : ∀ (ts : List T) {vs : List V}, Rels K H' μ ts vs → Rels K (upd H' d (.dK kvs)) μ ts vs
  | [], _, h => by simpa only [Rels] using h
  | t :: ts, _, h => by
    simp only [Rels] at h ⊢
    obtain ⟨v, r, rfl, h1, h2⟩ := h
    exact ⟨v, r, rfl, Rel.unlock hd t h1, Rels.unlock hd ts h2⟩
end
theorem RelS.unlock (hd : H' d = some (.frz od (.dK kvs))) (s : RelS K H' μ S) : RelS K (upd H' d (.dK kvs)) μ S := by
  refine ⟨s.len, s.nd, fun m c a e1 e2 => ?_, fun p hp => ?_, s.dis⟩
  · have q := s.cell m c a e1 e2
    cases c with
    | lst ts =>
      obtain ⟨vs, h, q⟩ := q
      exact ⟨vs, unlock_keep hd a _ (fun _ _ q => nomatch q) h, Rels.unlock hd ts q⟩
    | dct ks ts =>
      obtain ⟨vs, h, e, q⟩ := q
      exact ⟨vs, unlock_keep hd a _ (fun _ _ q => nomatch q) h, e, Rels.unlock hd ts q⟩
    | _ => exact q.elim
  · by_cases z : p = d
    · subst z; rw [upd_same]; simp
    · rw [upd_ne z]; exact s.live p hp
theorem RelF.unlock {τ : Fr} {σ : L2.St} (hd : H' d = some (.frz od (.dK kvs))) (f : RelF K H' μ τ σ) : RelF K (upd H' d (.dK kvs)) μ τ σ :=
  ⟨f.1, fun i t e => let ⟨v, a, b⟩ := f.2 i t e; ⟨v, a, Rel.unlock hd t b⟩⟩
theorem Ext.unlock {μ' : Mu} (hd : H d = some (.dK kvs)) (E : Ext (upd H d (.frz od (.dK kvs))) μ H' μ') : Ext H μ (upd H' d (.dK kvs)) μ' := by
  have nn : ∀ p, upd H d (.frz od (.dK kvs)) p = none → H p = none := fun p h => by
    by_cases z : p = d
    · subst z; rw [upd_same] at h; cases h
    · rw [upd_ne z] at h; exact h
  obtain ⟨ν, e1, e2⟩ := E.pre
  refine ⟨⟨ν, e1, fun p hp => nn p (e2 p hp)⟩, ⟨E.res.1, fun p hp => (E.res.2 p hp).imp id (nn p)⟩, fun a u e n => ?_, fun a h => ?_⟩
  · by_cases z : a = d
    · subst z; rw [upd_same]; rw [hd] at e; exact e
    · rw [upd_ne z]
      exact E.keep a u (by rw [upd_ne z]; exact e) n
  · by_cases z : a = d
    · subst z; rw [upd_same]; simp
    · rw [upd_ne z]
      exact E.live a (by rw [upd_ne z]; exact h)
end
def maskT (τ : Fr) : Fr := τ.map fun o => o.bind fun t => if noD t then some t else none
def itemsP (ks : List Key) (ts : List T) : List T := List.zipWith (fun k t => .tup [tKey k, t]) ks ts
def bForI (j : Nat) (g : GT) (B : BS) : BS := fun τ S => match τ[j]? with
  | some (some (.dct ks ts)) => if noDs ts && S.all noDc then forF g B (itemsP ks ts) (maskT τ) S else .stuck
  | _ => .stuck
section
variable {X : Cx} {wx : WT} {pos : Pos}
theorem items_at {kvs : List (Key × V)} {K : PySem.W.Frag} {H : Hp} {μ : Mu} : ∀ {ks : List Key} {ts : List T} {i : Nat} {t : T}, kvs.map (·.1) = ks → Rels K H μ ts (kvs.map (·.2)) → (itemsP ks ts)[i]? = some t → ∃ k v u, kvs[i]? = some (k, v) ∧ t = .tup [tKey k, u] ∧ Rel K H μ u v := by
  intro ks ts i t ek rk e
  unfold itemsP at e
  rw [List.getElem?_zipWith] at e
  cases e1 : ks[i]? with
  | none => rw [e1] at e; cases e
  | some k =>
    cases e2 : ts[i]? with
    | none => rw [e1, e2] at e; cases e
    | some u =>
      rw [e1, e2] at e
      obtain ⟨v, e3, r3⟩ := rk.get e2
      rw [← ek] at e1
      rw [List.getElem?_map] at e1 e3
      cases e4 : kvs[i]? with
      | none => rw [e4] at e1; cases e1
      | some p =>
        rw [e4] at e1 e3
        cases e1
        cases e3
        exact ⟨p.1, p.2, u, rfl, (Option.some.inj e).symm, r3⟩
/-- a loop over what J hands on, from where it stands -/
theorem forF_run {J : It} {xs : List T} {μ1 : Mu} {H1 : Hp} {τ : Fr} {σ : L2.St} {S1 : Sto} {g : GT} {B : BS} {D : Ends} (src : Src X.K J xs μ1 H1) (st : RelS X.K H1 μ1 S1) (fr : RelF X.K H1 μ1 τ σ) (h1 : postS X.K wx μ1 H1 (forF g B xs τ S1) D) :
    ∃ W : Nat → Nat → L2.St → Hp → Prop, (∃ m, W 0 m σ H1) ∧ ∀ i m σ H, W i m σ H →
      (J.stop i H ∧ D.nx σ H) ∨ (J.go i H ∧ ∃ N : L2.St → Hp → Prop, (∀ σ' H', N σ' H' → ∃ m', m' < m ∧ W (i + 1) m' σ' H') ∧ ∀ x H', J.yld i H x H' → gT X.K g x σ H' fun σ2 H2 => tS X.K wx B { D with nx := N, ct := N, bk := D.nx } σ2 H2) := by
  refine ⟨fun i m σ2 H2 => ∃ μ2 τ2 S2, Ext H1 μ1 H2 μ2 ∧ RelS X.K H2 μ2 S2 ∧ RelF X.K H2 μ2 τ2 σ2 ∧ m = xs.length - i ∧ i ≤ xs.length ∧ postS X.K wx μ2 H2 (forF g B (xs.drop i) τ2 S2) D,
    ⟨xs.length, μ1, τ, S1, Ext.refl _ _, st, fr, rfl, Nat.zero_le _, by simpa using h1⟩, fun i m σ2 H2 hW => ?_⟩
  obtain ⟨μ2, τ2, S2, E2, s2, f2, rfl, hi, h2⟩ := hW
  obtain ⟨go, stop⟩ := src μ2 H2 E2
  by_cases hlt : i < xs.length
  · rw [drop_cons hlt] at h2
    obtain ⟨hgo, hy⟩ := go i xs[i] (List.getElem?_eq_getElem hlt)
    refine .inr ⟨hgo, fun σ' H' => ∃ μ2 τ2 S2, Ext H1 μ1 H' μ2 ∧ RelS X.K H' μ2 S2 ∧ RelF X.K H' μ2 τ2 σ' ∧ postS X.K wx μ2 H' (forF g B (xs.drop (i + 1)) τ2 S2) D, fun σ' H' hN => ?_, fun v H3 yl => ?_⟩
    · obtain ⟨μ3, τ3, S3, a, b, c, d⟩ := hN
      exact ⟨xs.length - (i + 1), by omega, μ3, τ3, S3, a, b, c, rfl, hlt, d⟩
    · obtain ⟨sm, hr⟩ := hy v H3 yl
      have E3 : Ext H2 μ2 H3 μ2 := Ext.of_same sm
      simp only [forF] at h2
      cases eg : g xs[i] with
      | none => simp only [eg] at h2; exact h2.elim
      | some l =>
        simp only [eg] at h2
        refine ⟨μ2, xs[i], l, hr S2 s2, eg, fun l' f' => ⟨μ2, setsT τ2 l, S2, s2.same sm, RelF.sets f' (f2.mono E3), ?_⟩⟩
        cases eb : B (setsT τ2 l) S2 with
        | stuck => simp only [eb] at h2; exact h2.elim
        | nx τ4 S4 =>
          simp only [eb] at h2
          exact fun μ4 σ4 H4 E4 s4 f4 => ⟨μ4, τ4, S4, (E2.trans E3).trans E4, s4, f4, h2.shift (E3.trans E4)⟩
        | ct τ4 S4 =>
          simp only [eb] at h2
          exact fun μ4 σ4 H4 E4 s4 f4 => ⟨μ4, τ4, S4, (E2.trans E3).trans E4, s4, f4, h2.shift (E3.trans E4)⟩
        | bk τ4 S4 =>
          simp only [eb] at h2
          exact fun μ4 σ4 H4 E4 s4 f4 => h2 μ4 σ4 H4 (E3.trans E4) s4 f4
        | rt t S4 =>
          simp only [eb] at h2
          exact fun μ4 v4 H4 E4 s4 f4 => h2 μ4 v4 H4 (E3.trans E4) s4 f4
        | exc x τ4 S4 =>
          simp only [eb] at h2
          exact fun μ4 v4 H4 E4 s4 f4 => h2 μ4 v4 H4 (E3.trans E4) s4 f4
  · have e : i = xs.length := by omega
    subst e
    rw [List.drop_length] at h2
    exact .inl ⟨stop _ (Nat.le_refl _), h2 μ2 σ2 H2 (Ext.refl _ _) s2 f2⟩
theorem pfs_forI {j : Nat} {x : Str} {elts : List Expr} {kk : Nat} {tpos npos apos cpos : Pos} {body : List Stmt} {g : GT} {B : BS} (hp : PassesOwn (model X.prog X.w) X.A X.env X.xe) (hc : X.calm = true) (hg : PFG X (.Tuple elts kk tpos) g) (hb : PFSs X wF body B)
    (hN : X.N[j]? = some x := by rfl) (hv : Vis X.env.scope x := by first | exact Or.inl rfl | exact Or.inr (Or.inl rfl) | exact Or.inr (Or.inr rfl)) (hd : (x == ("__debug__" : Str)) = false := by decide) (hcd : (x == ("__classdict__" : Str)) = false := by decide)
    (hbase : attributeBase (.Name x npos) "items" X.env (eval (.Name x npos) X.env) = eval (.Name x npos) X.env := by rfl) (hline : (apos.endLine == cpos.line) = true := by rfl)
    (hs : ∀ y, foldedSetIterable (.Call (.Attribute (.Name x npos) "items" apos) [] [] cpos) X.env y = pure y := by intro _; rfl) :
    PFS X wF (.For (.Tuple elts kk tpos) (.Call (.Attribute (.Name x npos) "items" apos) [] [] cpos) body [] pos) (bForI j g B) := PS.imp (ps_lock (ps_for hp hc (pi_items (pe_var hN hv hd hcd) hbase hline) hg hb hs)) fun D σ H h => by
  obtain ⟨μ, τ, S, s, f, h⟩ := h
  unfold bForI at h
  split at h
  · rename_i ks ts ej
    split at h
    · rename_i hnd
      simp only [Bool.and_eq_true] at hnd
      obtain ⟨v, hv, rv⟩ := f.2 j _ ej
      simp only [Rel] at rv
      obtain ⟨d, kvs, rfl, ⟨hd1, hout⟩, ek, rk⟩ := rv
      refine ⟨d, .dK kvs, hd1, True.intro, fun od => ?_⟩
      refine ⟨.ref d, hv, d, od, kvs, rfl, upd_same, ?_⟩
      have s1 : RelS X.K (upd H d (.frz od (.dK kvs))) μ S := s.lock hd1 hout.1 hnd.2
      have f1 : RelF X.K (upd H d (.frz od (.dK kvs))) μ (maskT τ) σ := by
        refine ⟨by unfold maskT; rw [List.length_map]; exact f.1, fun i t e => ?_⟩
        unfold maskT at e
        rw [List.getElem?_map] at e
        cases e1 : τ[i]? with
        | none => rw [e1] at e; cases e
        | some o =>
          rw [e1] at e
          cases o with
          | none => cases e
          | some u =>
            simp only [Option.map_some, Option.bind_some] at e
            by_cases hn : noD u = true
            · rw [if_pos hn] at e
              cases e
              obtain ⟨w, h1, h2⟩ := f.2 i _ e1
              exact ⟨w, h1, Rel.lock hd1 _ hn h2⟩
            · rw [if_neg hn] at e; cases e
      have rk1 : Rels X.K (upd H d (.frz od (.dK kvs))) μ ts (kvs.map (·.2)) := Rels.lock hd1 ts hnd.1 rk
      have src : Src X.K (Iti d od kvs) (itemsP ks ts) μ (upd H d (.frz od (.dK kvs))) := fun μ2 H2 E => by
        have hd2 : H2 d = some (.frz od (.dK kvs)) := E.keep d _ upd_same hout.1
        refine ⟨fun i t e => ?_, fun i hi => ⟨hd2, ?_⟩⟩
        · obtain ⟨k, w, u, e1, rfl, ru⟩ := items_at ek (Rels.mono E _ rk1) e
          refine ⟨⟨hd2, (List.getElem?_eq_some_iff.mp e1).1⟩, fun y H3 yl => ?_⟩
          obtain ⟨T', k', w', e2, rfl, nT, rfl⟩ := yl
          rw [e1] at e2
          cases e2
          refine ⟨fresh_same nT, fun S' s' => rel_tup s' nT ?_⟩
          simp only [Rels]
          exact ⟨_, _, rfl, tKey_rel k, _, [], rfl, ru, rfl⟩
        · have h1 : ks.length = kvs.length := by rw [← ek, List.length_map]
          have h2 : ts.length = kvs.length := by rw [rk.length, List.length_map]
          unfold itemsP at hi
          rw [List.length_zipWith, h1, h2] at hi
          omega
      refine forF_run (wx := wF) src s1 f1 ?_
      have fin : ∀ {μ' : Mu} {H' : Hp}, Ext (upd H d (.frz od (.dK kvs))) μ H' μ' → H' d = some (.frz od (.dK kvs)) := fun E => E.keep d _ upd_same hout.1
      cases e : forF g B (itemsP ks ts) (maskT τ) S with
      | stuck => rw [e] at h; exact h
      | nx τ1 S1 =>
        rw [e] at h
        exact fun μ' σ' H' E st fr => ⟨fin E, h μ' σ' _ (E.unlock hd1) (st.unlock (fin E)) (fr.unlock (fin E))⟩
      | bk τ1 S1 =>
        rw [e] at h
        exact fun μ' σ' H' E st fr => ⟨fin E, h μ' σ' _ (E.unlock hd1) (st.unlock (fin E)) (fr.unlock (fin E))⟩
      | ct τ1 S1 =>
        rw [e] at h
        exact fun μ' σ' H' E st fr => ⟨fin E, h μ' σ' _ (E.unlock hd1) (st.unlock (fin E)) (fr.unlock (fin E))⟩
      | rt t S1 =>
        rw [e] at h
        exact fun μ' v' H' E st r => ⟨fin E, h μ' v' _ (E.unlock hd1) (st.unlock (fin E)) (Rel.unlock (fin E) _ r)⟩
      | exc x τ1 S1 =>
        rw [e] at h
        exact fun μ' σ' H' E st fr => show False from h μ' σ' (upd H' d (.dK kvs)) (E.unlock hd1) (st.unlock (fin E)) (fr.unlock (fin E))
    · exact h.elim
  · exact h.elim
end
end TL
set_option Elab.async false
set_option linter.all false
set_option maxRecDepth 100000
namespace TL
open PySem PySem.Spec L2
open PyProof.Rows hiding St
def bPar (i j : Nat) (F : FA) : BS := fun τ S => (F τ S).bindS τ fun vs S1 => match vs with
  | [v, w] => .nx ((τ.set i (some v)).set j (some w)) S1
  | _ => .stuck
def bPar3 (i j l : Nat) (F : FA) : BS := fun τ S => (F τ S).bindS τ fun vs S1 => match vs with
  | [u, v, w] => .nx (((τ.set i (some u)).set j (some v)).set l (some w)) S1
  | _ => .stuck
section
variable {X : Cx} {wx : WT} {F : FA} {pos : Pos}
theorem pfs_par {i j : Nat} {x y : Str} {a b : Expr} {px py pt : Pos} {kt k2 pt2} (hc : X.calm = true) (hN : X.N.Nodup) (ha : PFA X wx [a, b] F) (hi : X.N[i]? = some x := by rfl) (hj : X.N[j]? = some y := by rfl) (hij : i ≠ j := by decide)
    (hx : X.env.scope.names.lookup x = some .local := by rfl) (hy : X.env.scope.names.lookup y = some .local := by rfl)
    (hw : swappedStores [.Tuple [.Name x px, .Name y py] kt pt] (.Tuple [a, b] k2 pt2) X.env = pure (some [x, y]) := by rfl)
    (hs : swapsWithSole [.Tuple [.Name x px, .Name y py] kt pt] (.Tuple [a, b] k2 pt2) pos.line X.env = pure false := by rfl) :
    PFS X wx (.Assign [.Tuple [.Name x px, .Name y py] kt pt] (.Tuple [a, b] k2 pt2) pos) (bPar i j F) := PS.imp (ps_par hc hN hi hj hij hx hy ha hw hs) fun D σ H h => by
  obtain ⟨μ, τ, S, s, f, h⟩ := h
  refine tG.seqS s f h fun μ1 H1 ts vs S1 A1 h1 => ?_
  have r := A1.rel
  match ts, h1, r with
  | [t, u], h1, r =>
    simp only [Rels] at r
    obtain ⟨v, vs1, rfl, rv, w, vs2, rfl, rw', rfl⟩ := r
    exact ⟨v, w, rfl, h1 μ1 _ H1 (Ext.refl _ _) A1.st ((A1.fr.set rv).set rw')⟩
theorem pfs_par3 {i j l : Nat} {x y z : Str} {a b c : Expr} {px py pz pt : Pos} {kt k2 pt2} (hc : X.calm = true) (hN : X.N.Nodup) (ha : PFA X wx [a, b, c] F) (hi : X.N[i]? = some x := by rfl) (hj : X.N[j]? = some y := by rfl) (hl : X.N[l]? = some z := by rfl)
    (hij : i ≠ j := by decide) (hil : i ≠ l := by decide) (hjl : j ≠ l := by decide)
    (hx : X.env.scope.names.lookup x = some .local := by rfl) (hy : X.env.scope.names.lookup y = some .local := by rfl) (hz : X.env.scope.names.lookup z = some .local := by rfl)
    (hw : swappedStores [.Tuple [.Name x px, .Name y py, .Name z pz] kt pt] (.Tuple [a, b, c] k2 pt2) X.env = pure (some [x, y, z]) := by rfl)
    (hs : swapsWithSole [.Tuple [.Name x px, .Name y py, .Name z pz] kt pt] (.Tuple [a, b, c] k2 pt2) pos.line X.env = pure false := by rfl) :
    PFS X wx (.Assign [.Tuple [.Name x px, .Name y py, .Name z pz] kt pt] (.Tuple [a, b, c] k2 pt2) pos) (bPar3 i j l F) := PS.imp (ps_par3 hc hN hi hj hl hij hil hjl hx hy hz ha hw hs) fun D σ H h => by
  obtain ⟨μ, τ, S, s, f, h⟩ := h
  refine tG.seqS s f h fun μ1 H1 ts vs S1 A1 h1 => ?_
  have r := A1.rel
  match ts, h1, r with
  | [t, u, q], h1, r =>
    simp only [Rels] at r
    obtain ⟨v, vs1, rfl, rv, w, vs2, rfl, rw', z, vs3, rfl, rz, rfl⟩ := r
    exact ⟨v, w, z, rfl, h1 μ1 _ H1 (Ext.refl _ _) A1.st (((A1.fr.set rv).set rw').set rz)⟩
end
end TL
set_option Elab.async false
set_option linter.all false
set_option maxRecDepth 100000
namespace TL
open PySem PySem.Spec L2
open PyProof.Rows hiding St
/-! ### sorted(rows, key=len) of tuples -/
def tLen : T → Nat
  | .tup us => us.length
  | _ => 0
def kLen (t : T) : PyData := .int (tLen t)
def isTupT : T → Bool
  | .tup _ => true
  | _ => false
def sortLenL (ts : List T) : List T := ts.mergeSort (PySem.W.dataLe false kLen)
theorem sortLenL_perm (ts : List T) : (sortLenL ts).Perm ts := List.mergeSort_perm _ _
def sortLenT (S : Sto) (ts : List T) : Option T := match ts with
  | [t] => (seqL S t).bind fun ts => if ts.all isTupT then some (.lst (sortLenL ts)) else none
  | _ => none
section
variable {X : Cx} {wx : WT} {K : PySem.W.Frag} {H : Hp} {μ : Mu}
def RtV (K : PySem.W.Frag) (H : Hp) (μ : Mu) (v : Value) (t : T) : Prop := ∃ x, Rel K H μ t x ∧ RelV x v
theorem each_of : ∀ {ts : List T} {xs : List V} {its : List Value}, Rels K H μ ts xs → Vals xs its → PySem.W.EachIs (RtV K H μ) its ts
  | [], _, _, r, v => by
    simp only [Rels] at r; subst r
    cases v
    exact .nil
  | t :: ts, _, _, r, v => by
    simp only [Rels] at r
    obtain ⟨x, xs, rfl, r1, r2⟩ := r
    cases v with
    | cons p q => exact .cons ⟨x, r1, p⟩ (each_of r2 q)
theorem each_to : ∀ {its : List Value} {ts : List T}, PySem.W.EachIs (RtV K H μ) its ts → ∃ xs, Rels K H μ ts xs ∧ Vals xs its
  | _, _, .nil => ⟨[], by simp only [Rels], .nil⟩
  | _, _, .cons ⟨x, r, p⟩ h => by
    obtain ⟨xs, r2, q⟩ := each_to h
    exact ⟨x :: xs, by simp only [Rels]; exact ⟨x, xs, rfl, r, r2⟩, .cons p q⟩
theorem cr_sortLen {pins : List (Addr × Obj)} {s : Shared} {σ : L2.St} {vs : List V} {us : List Value} {Q : VK} (hu : X.A.units + 64 < cLine) (I : Inv X pins σ H s) (r : Vals vs us) (h : rNw X.K sortLenT vs H Q) :
    wpAny (model X.prog X.w) X.A (call (.builtin "sorted") us [(Str.ofString "key", .builtin "len")]) (EP X pins σ Q) X.xe s := by
  obtain ⟨μ, S, ts, c, st, rr, e, q⟩ := h
  unfold sortLenT at e
  split at e
  · rename_i t
    simp only [Option.bind_eq_some_iff] at e
    obtain ⟨ts, hs, e⟩ := e
    by_cases ha : ts.all isTupT = true
    · rw [if_pos ha] at e
      cases e
      obtain ⟨v, ev, rv⟩ := rels1 rr
      subst ev
      obtain ⟨a, xs, rfl, hl, r2⟩ := seqL_ok hs st rv
      obtain rfl := Vals.ref1 r
      obtain ⟨its, rx, pl, hz⟩ := I.list hl
      have ee := each_of (K := X.K) r2 rx
      have n63 := line63
      have hlen : ts.length = xs.length := by
        have h1 := ee.length
        have h2 := rx.length
        omega
      refine PySem.W.sorted_key_data (b := false) kLen pl.isList ee (PySem.W.AllAlike.of fun _ _ => by simp [PySem.W.alike, kLen]) (PySem.W.Sortable.others fun t => ⟨by simp [kLen], fun xs => by simp [kLen]⟩) (by rw [hlen]; exact hz) (fun t _ => ?_)
        (ksk_s1 _ _) (fun _ => ksk_l1 _ _) (fun _ => ksk_t4 _ _) (fun v t ⟨x, rt, rxv⟩ ht hp tk kp => ?_) fun out cc h' tk kp hn hD hlo eo => ?_
      · show X.A.units + 2 + (PyData.int _).depth < cLine
        simp only [PyData.depth]
        omega
      · have it := List.all_eq_true.mp ha t ht
        cases t with
        | tup ws =>
          obtain ⟨b, zs, rfl, hb, r3⟩ := tup_ok rt
          cases rxv
          obtain ⟨it2, rz, pt, hz2⟩ := I.tuple hb
          have l1 := rz.length
          have l2 : ws.length = zs.length := by
            have h1 := (each_of (K := X.K) r3 rz).length
            omega
          obtain ⟨o, g1, g2⟩ := pt
          refine PyProof.Rows.len_tuple (s := { s with heap := hp, toks := tk }) ⟨o, kp b o g1, g2⟩ (by simp only [List.size_toArray]; omega) ⟨_, _, rfl, fun _ _ q => q, ?_⟩
          have e1 : (it2.toArray.size : Int) = ((tLen (.tup ws) : Nat) : Int) := by
            rw [List.size_toArray, ← l1, ← l2]; rfl
          rw [e1]
          exact Reads.int _ _
        | _ => simp [isTupT] at it
      · obtain ⟨zs, r3, vz⟩ := each_to eo
        have hlz : zs.length ≤ sizeLine := by
          have h1 := vz.length
          omega
        refine ⟨.ref (s.heap.objs.size + 1), upd H (s.heap.objs.size + 1) (.lst zs), I.laid (t' := tk) kp (Nat.le_succ _) ⟨hlz, out, cc, vz, hD⟩, rfl, q _ _ (I.hok.fresh (Nat.le_succ _)) ?_⟩
        exact ⟨_, upd_same, rels_new (I.hok.fresh (Nat.le_succ _)) r3⟩
    · rw [if_neg ha] at e
      cases e
  · cases e
theorem pfn_sortLen {x y : Str} {p p2 kp pos : Pos} {e : Expr} {es : List Expr} {Fs : FA} (hu : X.A.units + 64 < cLine) (hx : x = Str.ofString "sorted") (hy : y = Str.ofString "len") (hm : X.mg x = none) (hml : X.mg y = none) (ha : PFA X wx (e :: es) Fs) (hg : Gl X x := by rfl) (hgl : Gl X y := by rfl)
    (he : backTo pos (starEach (e :: es) X.env) = (false, eval e X.env) :: backTo pos (starEach es X.env) := by rfl) (hpl : (backTo pos (starEach (e :: es) X.env)).any (·.1) = false := by rfl) :
    PFN X wx (.Call (.Name x p) (e :: es) [⟨some (Str.ofString "key"), .Name y p2, kp⟩] pos) (fBlt sortLenT Fs) := by
  subst hx hy
  refine ⟨fun pins s σ H Q I h => ?_⟩
  refine wpAny_Call_Name_kw (ld_blt (u := .builtin "sorted") I hg hm rfl ?_ (by decide) (by decide))
  refine PyProof.Rows.callWith_kw (thn (ha.run pos pins s σ H _ I (nw_imp h)) fun us s1 ⟨vs, H1, I1, r1, q1⟩ => ?_) he hpl
  show wpAny _ _ (evalAll [do let v ← eval (.Name (Str.ofString "len") p2) X.env; standAt pos; pure v]) _ _ s1
  refine wpAny_evalAll_cons (wpAny_bind (ld_blt (u := .builtin "len") I1 hgl hml rfl (wpAny_bind (wpAny_standAt (wpAny_pure (wpAny_evalAll_nil ?_)))) (by decide) (by decide)))
  exact cr_sortLen hu I1 r1 q1
end
end TL
set_option Elab.async false
set_option linter.all false
set_option maxRecDepth 100000
namespace TL
open PySem PySem.Spec L2
open PyProof.Rows hiding St
/-! ### the law's own end -/
theorem ints_rels {K : PySem.W.Frag} {H : Hp} {μ : Mu} : ∀ ns : List Int, Rels K H μ (ns.map T.int) (ns.map V.int)
  | [] => by simp only [List.map_nil, Rels]
  | n :: r => by
    simp only [List.map_cons, Rels, Rel]
    exact ⟨_, _, rfl, rfl, ints_rels r⟩
/-- the goal that a call of the law from outside leaves -/
abbrev LawEnd (P : Program) (w : World) (f a : Addr) (s1 : Shared) : Prop :=
  codeAny (model P w) callerA (.call (.ref f) ⟨[.ref a], []⟩)
    (fun r t => r = .ok (.ret (.bool true)) ∧ OldK s1.heap t.heap ∧ t.os = s1.os ∧ AllBare t.gens) s1
section
variable {P : Program} {w : World} {K : PySem.W.Frag} {mg mb : Str → Option Value} {k : Nat} {f a : Addr} {fd : FuncData} {x : Str} {F : FF} {s1 : Shared} {its : List Value} {ns : List Int}
structure Start (K : PySem.W.Frag) (mg mb : Str → Option Value) (s1 : Shared) (a : Addr) (its : List Value) (ns : List Int) : Prop where
  kin : K.In s1.heap
  gl : s1.heap.Ns mainGlobals mg
  nb : s1.heap.Ns builtinsNs mb
  bb : ∀ y : Str, y ≠ "__name__" → mb y = bootBuiltins y
  lim : s1.heap.NoLimit
  gen : s1.gens = #[]
  at_ : s1.heap.get? a = some { cls := .type "list", data := .seq its.toArray }
  int : IntsAre its ns
  sz : ns.length ≤ sizeLine
theorem law_with (Z : Start K mg mb s1 a its ns) (hr : Room k callerA) (D : ∀ base : Heap, K.In base → base.Ns mainGlobals mg → Df P w K mg base k f fd [x] F)
    (bd : ∀ (s : Shared) (u : Value), BindsTo s fd ⟨[u], []⟩ [(x, u)]) (hF : ∃ S, F [.sls (ns.map T.int)] [] = .ok (.bl true) S)
    {H : Hp} (hO : Only H) (hS : OL K H ⟨[], []⟩ a (ns.map V.int)) (hok : HOk P w H s1.heap) (hA : ∀ b, H b ≠ none → b = a) (hK : H a ≠ none → K.lookup a = none) : LawEnd P w f a s1 := by
  have out : ∀ {b : Addr}, b ≠ a → H b = none := fun {b} n => Classical.byContradiction fun z => n (hA b z)
  have noA : ∀ {b : Addr} {o : Obj} {es : Array DictEntry} {ep : Nat}, s1.heap.get? b = some o → o.data = .dict es ep → H b = none := fun {b o es ep} e d => out fun z => by
    subst z
    rw [Z.at_] at e
    cases e
    have d2 : Data.seq its.toArray _ = Data.dict es ep := d
    cases d2
  have up : ∀ {b : Addr} {m : Str → Option Value}, s1.heap.Ns b m → (hidT s1.heap H).Ns b m := fun {b m} ⟨o, es, ep, e, d, r⟩ => ⟨o, es, ep, hidT_get e (noA e d), d, r⟩
  have kb : K.In (hidT s1.heap H) := fun b o e => hidT_get (Z.kin b o e) (Classical.byContradiction fun z => by
    have n := hA b z
    subst n
    rw [hK z] at e
    cases e)
  have hM : Mod K mg (hidT s1.heap H) := ⟨kb, up Z.gl, ⟨mb, up Z.nb, Z.bb⟩, Z.lim.imp fun _ h => ⟨up h.1, h.2⟩⟩
  have e0 : Env0 P w K mg (hidT s1.heap H) callerA [] s1 H := ⟨rfl, hM, fun b o e => of_hidT e, Nat.le_of_eq (hidT_size _ _), trivial, fun b hb => absurd (show b ∈ ([] : List Addr) from hb) (by simp), hok, .of_eq Z.gen⟩
  obtain ⟨S, hF⟩ := hF
  refine codeAny_mono ((D _ kb (up Z.gl)).go callerA [] s1 H ⟨[.ref a], []⟩ [.ref a] [.ref a] (fun v _ => v = .bl true) hr rfl e0 (bd s1 (.ref a)) (.cons rfl .nil) ?_) fun r t h => ?_
  · refine ⟨⟨[], []⟩, [], [.sls (ns.map T.int)], ⟨rfl, .nil, fun n c b e => (by simp at e), fun p hp => (by simp at hp), fun p hp => (by simp at hp)⟩, ?_, ?_⟩
    · simp only [Rels, Rel]
      exact ⟨_, _, rfl, ⟨_, _, rfl, hS, ints_rels ns⟩, rfl⟩
    · rw [hF]
      intro μ' v H' _ _ rv
      simp only [rV, Rel] at rv
      exact rv
  · match r, h with
    | .ok (.ret u), h =>
      obtain ⟨v, H', os, bare, un, hok', rv, q⟩ := h
      have q2 : v = .bl true := q
      subst q2
      obtain rfl : u = Value.bool true := rv
      refine ⟨rfl, OldK.of_keep fun b o e => ?_, os, bare⟩
      cases q : H b with
      | none => exact un.keep b o e q (fun z => absurd (show b ∈ ([] : List Addr) from z) (by simp)) (by simp)
      | some u =>
        rcases hO b with z | ⟨ob, zs, z⟩
        · rw [q] at z
          cases z
        · obtain ⟨e1, _⟩ := hok b _ z
          obtain ⟨e2, _⟩ := hok' b _ (un.frzs b ob _ z)
          rw [e] at e1
          cases e1
          exact e2
    | .error e, h => exact h.elim
    | .ok .next, h => exact False.elim h
    | .ok .brk, h => exact False.elim h
    | .ok .cont, h => exact False.elim h
theorem law_callT (Z : Start K mg mb s1 a its ns) (hr : Room k callerA) (D : ∀ base : Heap, K.In base → base.Ns mainGlobals mg → Df P w K mg base k f fd [x] F)
    (bd : ∀ (s : Shared) (u : Value), BindsTo s fd ⟨[u], []⟩ [(x, u)]) (hF : ∃ S, F [.sls (ns.map T.int)] [] = .ok (.bl true) S) : LawEnd P w f a s1 := by
  have rv := vals_ints Z.int
  have l1 := Z.int.length
  have nout : ∀ b : Addr, Mu.out ⟨[], []⟩ b := fun b => ⟨by simp, by simp⟩
  cases hk : K.lookup a with
  | some o =>
    have e := Z.kin a o hk
    rw [Z.at_] at e
    cases e
    exact law_with Z hr D bd hF (H := fun _ => none) (fun _ => .inl rfl) (.inr ⟨_, its.toArray, _, hk, rfl, rfl, rfl, by rw [List.size_toArray, l1]; exact Z.sz, by simpa using rv⟩)
      (fun b u z => nomatch (show (none : Option HO) = some u from z)) (fun b z => absurd rfl z) fun z => absurd rfl z
  | none =>
    refine law_with Z hr D bd hF (H := fun b => if b = a then some (.frz { cls := .type "list", data := .seq its.toArray } (.lst (ns.map V.int))) else none) (fun b => ?_) (.inl ⟨.inr ⟨_, if_pos rfl⟩, nout a⟩) (fun b u z => ?_) (fun b z => ?_) fun _ => hk
    · by_cases hb : b = a
      · exact .inr ⟨_, _, if_pos hb⟩
      · exact .inl (if_neg hb)
    · by_cases hb : b = a
      · have y := (if_pos hb).symm.trans z
        cases y
        subst hb
        exact ⟨Z.at_, by rw [List.length_map]; exact Z.sz, its, _, rv, Z.at_⟩
      · have y := (if_neg hb).symm.trans z
        cases y
    · exact Classical.byContradiction fun hb => z (if_neg hb)
end
/-- what is left of a law's row once its top is known -/
theorem walk_T {l : PySem.W.OpenLaw} {n k : Nat} {q : Program} {loose : List Str} {XP : (Str → Option Value) → Heap → Prop} {YP : World → Heap → Prop} {d : DefRec} {K : Params → PySem.W.Frag} {x : Str} {F : FF}
    (h1 : l.most = some n) (h2 : n ≤ sizeLine) (h3 : d.params.defaults = []) (hr : Room k callerA) (hY : ∀ (w : World) (h : Heap), YP w h → (K w.params).In h)
    (G : ∀ (w : World) (mg : Str → Option Value) (f : Addr) (h : Heap), (K w.params).In h → h.Ns mainGlobals mg → mg d.name = some (.ref f) →
      ∃ fd : FuncData, (∀ (s : Shared) (u : Value), BindsTo s fd ⟨[u], []⟩ [(x, u)]) ∧ ∀ base : Heap, (K w.params).In base → base.Ns mainGlobals mg → Df l.prog w (K w.params) mg base k f fd [x] F)
    (hF : ∀ ns : List Int, ns.length ≤ n → ∃ S, F [.sls (ns.map T.int)] [] = .ok (.bl true) S) : PySem.W.WalkO q loose XP YP l.row.toRowW d [] (fun f vs => PySem.call f vs) := by
  refine Att.attach_call h1 h3 fun w s0 s1 mg mb f o pm cd doc a vs ns g Y ho hd hcd hm hob hi hl hg => ?_
  have kx := hY w _ Y
  obtain ⟨fd, bd, D⟩ := G w mg f _ kx g.T.g hm
  exact law_callT ⟨kx, g.T.g, g.T.b, g.T.builtins, g.T.nolimit, hg, hob, hi, Nat.le_trans hl h2⟩ hr D bd (hF ns hl)
end TL
namespace TL
open PySem PySem.Spec L2
open PyProof.Rows hiding St
/-! ### what the row's top has left -/
/-- a def stands at its name -/
def FnIn (K : PySem.W.Frag) (x : Str) (st : Stmt) : Prop :=
  ∃ (f : Addr) (oc kV doc pm cdv ct : Value) (od an : Option Addr) (osl : Array (Option Value)), PySem.W.nsIn K mainGlobals x = some (some (.ref f)) ∧
    K.lookup f = some ⟨oc, od, .func (PySem.W.fnOf x x (defArgs st) (defBody st) (defScope st) .none kV doc pm an cdv ct), osl⟩ ∧ PySem.W.codeIn K cdv x = true ∧ PySem.W.keepIn K (.ref f) = true
theorem fnIn_mk {K : PySem.W.Frag} {x : Str} {st : Stmt} {f : Addr} {oc kV doc pm cdv ct : Value} {od an : Option Addr} {osl : Array (Option Value)} (a : PySem.W.nsIn K mainGlobals x = some (some (.ref f)))
    (l : K.lookup f = some ⟨oc, od, .func (PySem.W.fnOf x x (defArgs st) (defBody st) (defScope st) .none kV doc pm an cdv ct), osl⟩) (c : PySem.W.codeIn K cdv x = true) (k : PySem.W.keepIn K (.ref f) = true) : FnIn K x st :=
  ⟨f, oc, kV, doc, pm, cdv, ct, od, an, osl, a, l, c, k⟩
theorem some_mk {K : PySem.W.Frag} {x : Str} {t : Tok} {c : Tok → Value} (a : PySem.W.nsIn K mainGlobals x = some (some (c t))) : ∃ t, PySem.W.nsIn K mainGlobals x = some (some (c t)) := ⟨t, a⟩
section
variable {K : PySem.W.Frag} {x : Str} {st : Stmt} {h : Heap} {mg : Str → Option Value} {ps : List Str}
theorem FnIn.gd (e : FnIn K x st) (X : K.In h) (G : h.Ns mainGlobals mg) (b : ∀ {f : Addr} {fd : FuncData}, Fun K x x st f fd → L2.Binds K fd ps []) : ∃ f fd, Gd K mg x st ps f fd := by
  obtain ⟨f, oc, kV, doc, pm, cdv, ct, od, an, osl, a, l, c, k⟩ := e
  have F := fun_mk (st := st) l c k
  exact ⟨f, _, F, PySem.W.mg_of X G a, b F, k⟩
theorem FnIn.law {fa : Addr} {y : Str} (e : FnIn K x st) (X : K.In h) (G : h.Ns mainGlobals mg) (hfa : mg x = some (.ref fa))
    (b : ∀ (kV doc pm : Value) (an : Option Addr) (cdv ct v : Value), bindArgs (PySem.W.fnOf x x (defArgs st) (defBody st) (defScope st) .none kV doc pm an cdv ct) ⟨[v], []⟩ = pure [(y, v)]) :
    ∃ fd, Fun K x x st fa fd ∧ ∀ (s : Shared) (v : Value), BindsTo s fd ⟨[v], []⟩ [(y, v)] := by
  obtain ⟨f, oc, kV, doc, pm, cdv, ct, od, an, osl, a, l, c, k⟩ := e
  have z := hfa.symm.trans (PySem.W.mg_of X G a)
  cases z
  exact ⟨_, fun_mk (st := st) l c k, fun s v => .of_eq (b kV doc pm an cdv ct v)⟩
end
end TL
set_option Elab.async false
set_option linter.all false
set_option maxRecDepth 100000
namespace TL
open PySem PySem.Spec L2
open PyProof.Rows hiding St
/-! ### running functions on trees -/
theorem bind_ok {α β : Type} (a : α) (S : Sto) (k : α → Sto → Res β) : (Res.ok a S).bind k = k a S := rfl
theorem bindS_ok {α : Type} (a : α) (S : Sto) (τ : Fr) (k : α → Sto → RS) : (Res.ok a S).bindS τ k = k a S := rfl
theorem nox_ok {α : Type} (a : α) (S : Sto) : (Res.ok a S).nox = .ok a S := rfl
theorem ofO_some {α : Type} (a : α) (S : Sto) : ofO (some a) S = .ok a S := rfl
theorem fVar_at {τ : Fr} {i : Nat} {t : T} {S : Sto} (h : τ[i]? = some (some t)) : fVar i τ S = .ok t S := by
  unfold fVar
  rw [h]
theorem lc_map {g : GT} {Ft : FT} {Fe : FE} {vs : List Nat} {τ : Fr} {r : T → T} {S : Sto} : ∀ {xs : List T},
    (∀ x ∈ xs, ∃ l, g x = some l ∧ slotsIn l vs = true ∧ Ft (setsT τ l) S = .ok true S ∧ Fe (setsT τ l) S = .ok (r x) S) → lcF g Ft Fe vs τ xs S = .ok (xs.map r) S
  | [], _ => rfl
  | x :: xs, h => by
    obtain ⟨l, h1, h2, h3, h4⟩ := h x List.mem_cons_self
    have ih := lc_map fun y hy => h y (List.mem_cons_of_mem _ hy)
    simp only [lcF, h1, h2, h3, h4, ih, if_true, bind_ok, nox_ok, List.map_cons]
theorem lc_filter {g : GT} {Ft : FT} {Fe : FE} {vs : List Nat} {τ : Fr} {p : T → Bool} {r : T → T} {S : Sto} : ∀ {xs : List T},
    (∀ x ∈ xs, ∃ l, g x = some l ∧ slotsIn l vs = true ∧ Ft (setsT τ l) S = .ok (p x) S ∧ (p x = true → Fe (setsT τ l) S = .ok (r x) S)) → lcF g Ft Fe vs τ xs S = .ok ((xs.filter p).map r) S
  | [], _ => rfl
  | x :: xs, h => by
    obtain ⟨l, h1, h2, h3, h4⟩ := h x List.mem_cons_self
    have ih := lc_filter fun y hy => h y (List.mem_cons_of_mem _ hy)
    cases e : p x with
    | true => simp only [lcF, h1, h2, h3, e, h4 e, ih, if_true, bind_ok, nox_ok, List.filter_cons_of_pos, List.map_cons]
    | false =>
      rw [List.filter_cons_of_neg (by simp [e])]
      simp only [lcF, h1, h2, h3, e, ih, if_true, bind_ok, nox_ok]
/-- a comprehension whose items change the store -/
theorem lc_inv {g : GT} {Ft : FT} {Fe : FE} {vs : List Nat} {τ : Fr} {I : List T → Sto → Prop} : ∀ {xs done : List T} {S : Sto}, I done S →
    (∀ x ∈ xs, ∀ done S, I done S → ∃ l, g x = some l ∧ slotsIn l vs = true ∧ ∃ b S1, Ft (setsT τ l) S = .ok b S1 ∧ (b = false → I done S1) ∧ (b = true → ∃ y S2, Fe (setsT τ l) S1 = .ok y S2 ∧ I (done ++ [y]) S2)) →
    ∃ ys S2, lcF g Ft Fe vs τ xs S = .ok ys S2 ∧ I (done ++ ys) S2
  | [], done, S, h0, _ => ⟨[], S, rfl, by simpa using h0⟩
  | x :: xs, done, S, h0, h => by
    obtain ⟨l, h1, h2, b, S1, h3, h4, h5⟩ := h x List.mem_cons_self done S h0
    cases b with
    | true =>
      obtain ⟨y, S2, h6, h7⟩ := h5 rfl
      obtain ⟨ys, S3, e, q⟩ := lc_inv h7 fun z hz => h z (List.mem_cons_of_mem _ hz)
      exact ⟨y :: ys, S3, by simp only [lcF, h1, h2, h3, h6, e, if_true, bind_ok, nox_ok], by simpa using q⟩
    | false =>
      obtain ⟨ys, S3, e, q⟩ := lc_inv (h4 rfl) fun z hz => h z (List.mem_cons_of_mem _ hz)
      exact ⟨ys, S3, by simp only [lcF, h1, h2, h3, e, if_true, bind_ok, nox_ok], q⟩
theorem dc_map {g : GT} {Ft : FT} {Fk Fv : FE} {vs : List Nat} {τ : Fr} {k : T → Key} {r : T → T} {S : Sto} : ∀ {xs : List T},
    (∀ x ∈ xs, ∃ l, g x = some l ∧ slotsIn l vs = true ∧ Ft (setsT τ l) S = .ok true S ∧ Fk (setsT τ l) S = .ok (tKey (k x)) S ∧ Fv (setsT τ l) S = .ok (r x) S) → dcF g Ft Fk Fv vs τ xs S = .ok (xs.map fun x => (k x, r x)) S
  | [], _ => rfl
  | x :: xs, h => by
    obtain ⟨l, h1, h2, h3, h4, h5⟩ := h x List.mem_cons_self
    have ih := dc_map fun y hy => h y (List.mem_cons_of_mem _ hy)
    have hk : keyT (tKey (k x)) = some (k x) := by
      cases k x <;> rfl
    simp only [dcF, h1, h2, h3, h4, h5, hk, ih, if_true, bind_ok, nox_ok, List.map_cons]
/-- a loop that goes through -/
theorem for_inv {g : GT} {B : BS} {I : Nat → Fr → Sto → Prop} : ∀ {xs : List T} {n : Nat} {τ : Fr} {S : Sto}, I n τ S →
    (∀ i x τ S, xs[i]? = some x → I (n + i) τ S → ∃ l, g x = some l ∧ ∃ τ2 S2, (B (setsT τ l) S = .nx τ2 S2 ∨ B (setsT τ l) S = .ct τ2 S2) ∧ I (n + i + 1) τ2 S2) →
    ∃ τ2 S2, forF g B xs τ S = .nx τ2 S2 ∧ I (n + xs.length) τ2 S2
  | [], n, τ, S, h0, _ => ⟨τ, S, rfl, h0⟩
  | x :: xs, n, τ, S, h0, h => by
    obtain ⟨l, h1, τ2, S2, h2, h3⟩ := h 0 x τ S rfl h0
    obtain ⟨τ3, S3, e, q⟩ := for_inv (n := n + 1) (xs := xs) (I := I) (g := g) (B := B) h3 fun i y τ S hy hI => by
      have q := h (i + 1) y τ S (by simpa using hy) (by rw [show n + (i + 1) = n + 1 + i by omega]; exact hI)
      rw [show n + (i + 1) + 1 = n + 1 + i + 1 by omega] at q
      exact q
    refine ⟨τ3, S3, ?_, by rw [List.length_cons, show n + (xs.length + 1) = n + 1 + xs.length by omega]; exact q⟩
    rcases h2 with h2 | h2 <;> simp only [forF, h1, h2, e]
/-- a turn that goes on -/
def Goes (r : RS) (I : Fr → Sto → Prop) : Prop := match r with
  | .nx τ S => I τ S
  | .ct τ S => I τ S
  | _ => False
theorem goes_nx {τ : Fr} {S : Sto} {I : Fr → Sto → Prop} (h : I τ S) : Goes (.nx τ S) I := h
theorem for_go {g : GT} {B : BS} {xs : List T} {τ : Fr} {S : Sto} {R : RS} (hF : forF g B xs τ S = R) (I : Nat → Fr → Sto → Prop) (h0 : I 0 τ S)
    (h : ∀ i x τ S, xs[i]? = some x → I i τ S → ∃ l, g x = some l ∧ Goes (B (setsT τ l) S) (I (i + 1))) : ∃ τ2 S2, R = .nx τ2 S2 ∧ I xs.length τ2 S2 := by
  obtain ⟨τ2, S2, e, q⟩ := for_inv (n := 0) (xs := xs) (g := g) (B := B) (I := I) h0 fun i x τ S hx hI => by
    rw [Nat.zero_add] at hI ⊢
    obtain ⟨l, h1, h2⟩ := h i x τ S hx hI
    refine ⟨l, h1, ?_⟩
    unfold Goes at h2
    split at h2
    · rename_i e
      exact ⟨_, _, .inl e, h2⟩
    · rename_i e
      exact ⟨_, _, .inr e, h2⟩
    · exact h2.elim
  rw [Nat.zero_add] at q
  exact ⟨τ2, S2, hF.symm.trans e, q⟩
theorem for_thn {g : GT} {B : BS} {xs : List T} {τ : Fr} {S : Sto} {R : RS} {P : RS → Prop} (hF : forF g B xs τ S = R) (I : Nat → Fr → Sto → Prop) (h0 : I 0 τ S)
    (h : ∀ i x τ S, xs[i]? = some x → I i τ S → ∃ l, g x = some l ∧ Goes (B (setsT τ l) S) (I (i + 1))) (k : ∀ τ2 S2, I xs.length τ2 S2 → P (.nx τ2 S2)) : P R := by
  obtain ⟨τ2, S2, e, q⟩ := for_go hF I h0 h
  rw [e]
  exact k τ2 S2 q
/-- the store: what is laid at its end -/
theorem sto_end (S : Sto) (x : T) (J : Sto) : (S ++ x :: J)[S.length]? = some x := by simp
theorem sto_set (S : Sto) (x y : T) (J : Sto) : (S ++ x :: J).set S.length y = S ++ y :: J := by simp
theorem lstAt_end (S : Sto) (ts : List T) (J : Sto) : lstAt (S ++ .lst ts :: J) S.length = some ts := by
  unfold lstAt
  rw [sto_end]
theorem truT_bl (b : Bool) (S : Sto) : truT S (.bl b) = some b := rfl
theorem truT_tup (b : List T) (S : Sto) : truT S (.tup b) = some !b.isEmpty := rfl
theorem isi_str (x : Str) (S : Sto) : isiT S [.str x, .val (.ty "str")] = some (.bl true) := rfl
theorem isi_tup (x : List T) (S : Sto) : isiT S [.tup x, .val (.ty "tuple")] = some (.bl true) := rfl
theorem isi_dct (k : List Key) (x : List T) (S : Sto) : isiT S [.dct k x, .val (.ty "dict")] = some (.bl true) := rfl
theorem len_tup (x : List T) (S : Sto) : lenT S [.tup x] = some (.int x.length) := rfl
theorem len_lst (x : List T) (S : Sto) : lenT S [.lst x] = some (.int x.length) := rfl
theorem len_sls (x : List T) (S : Sto) : lenT S [.sls x] = some (.int x.length) := rfl
theorem len_dct (k : List Key) (x : List T) (S : Sto) : lenT S [.dct k x] = some (.int k.length) := rfl
theorem eq_int (i j : Int) (S : Sto) : TL.eqT S (.int i) (.int j) = some (.bl (decide (i = j))) := by
  show (Option.map T.bl (some (PyData.eqv (.int i) (.int j)))) = _
  simp only [Option.map_some]
  congr 2
theorem ne_int (i j : Int) (S : Sto) : neT S (.int i) (.int j) = some (.bl (!decide (i = j))) := by
  show (Option.map (fun b => T.bl !b) (some (PyData.eqv (.int i) (.int j)))) = _
  simp only [Option.map_some]
  congr 3
theorem ix_0 (x : T) (r : List T) (S : Sto) : ixT S (.tup (x :: r)) (.int 0) = some x := by
  show atI (x :: r) 0 = some x
  unfold atI
  have h : ixN (x :: r).length 0 = some 0 := by
    unfold ixN
    simp
  rw [h]
  rfl
theorem ix_1 (x y : T) (r : List T) (S : Sto) : ixT S (.tup (x :: y :: r)) (.int 1) = some y := by
  show atI (x :: y :: r) 1 = some y
  unfold atI
  have h : ixN (x :: y :: r).length 1 = some 1 := by
    unfold ixN
    simp
    omega
  rw [h]
  rfl
theorem ix_2 (x y z : T) (r : List T) (S : Sto) : ixT S (.tup (x :: y :: z :: r)) (.int 2) = some z := by
  show atI (x :: y :: z :: r) 2 = some z
  unfold atI
  have h : ixN (x :: y :: z :: r).length 2 = some 2 := by
    unfold ixN
    simp
    omega
  rw [h]
  rfl
theorem bools_true {α : Type} : ∀ xs : List α, bools (xs.map fun _ => T.bl true) = some (xs.map fun _ => true)
  | [] => rfl
  | x :: xs => by simp only [List.map_cons, bools, bools_true xs, Option.map_some]
theorem all_lst {α : Type} (xs : List α) (S : Sto) : allT S [.lst (xs.map fun _ => T.bl true)] = some (.bl true) := by
  show ((bools (xs.map fun _ => T.bl true)).map fun bs => T.bl (bs.all id)) = some (.bl true)
  rw [bools_true]
  simp
theorem tup_lst (xs : List T) (S : Sto) : tupT S [.lst xs] = some (.tup xs) := rfl
theorem tup_tup (xs : List T) (S : Sto) : tupT S [.tup xs] = some (.tup xs) := rfl
theorem slots1 (i : Nat) (t : T) : slotsIn [(i, t)] [i] = true := by
  simp [slotsIn]
theorem flats_strs : ∀ l : List Str, flats (l.map T.str) = some (l.map V.str)
  | [] => rfl
  | x :: l => by simp only [List.map_cons, flats, flatT, flats_strs l, Option.bind_some]
theorem inV_strs (x : Str) : ∀ l : List Str, inV (V.str x) (l.map V.str) = decide (x ∈ l)
  | [] => rfl
  | y :: l => by
    have ih := inV_strs x l
    unfold inV at ih ⊢
    rw [List.map_cons, List.any_cons, ih]
    have e : eqV (V.str y) (V.str x) = decide (x = y) := by
      show (y == x) = decide (x = y)
      by_cases h : x = y
      · subst h
        rw [beq_self_eq_true, decide_eq_true rfl]
      · rw [decide_eq_false h]
        exact beq_false_of_ne fun z => h z.symm
    rw [e, ← Bool.decide_or]
    exact decide_eq_decide.mpr List.mem_cons.symm
theorem in_tup (x : Str) (l : List Str) (S : Sto) : inT S (.str x) (.tup (l.map T.str)) = some (.bl (decide (x ∈ l))) := by
  show Option.map T.bl (match flatT (.str x), flats (l.map T.str) with | some v, some vs => some (inV v vs) | _, _ => none) = _
  rw [flats_strs]
  simp only [flatT, inV_strs, Option.map_some]
theorem in_lst (x : Str) (l : List Str) (S : Sto) : inT S (.str x) (.lst (l.map T.str)) = some (.bl (decide (x ∈ l))) := by
  show Option.map T.bl (match flatT (.str x), flats (l.map T.str) with | some v, some vs => some (inV v vs) | _, _ => none) = _
  rw [flats_strs]
  simp only [flatT, inV_strs, Option.map_some]
theorem in_ref {n : Nat} {l : List Str} {S : Sto} (h : S[n]? = some (.lst (l.map T.str))) (x : Str) : inT S (.str x) (.ref n) = some (.bl (decide (x ∈ l))) := by
  have e : dctT S (.ref n) = none := by
    simp only [dctT, h]
  unfold inT inB
  simp only [e, seqL, h, flats_strs, flatT, inV_strs, Option.map_some]
theorem nin_of {S : Sto} {x y : T} {b : Bool} (h : inT S x y = some (.bl b)) : ninT S x y = some (.bl !b) := by
  unfold inT at h
  unfold ninT
  cases e : inB S x y with
  | none => rw [e] at h; cases h
  | some c =>
    rw [e] at h
    simp only [Option.map_some, Option.some.injEq, T.bl.injEq] at h
    simp only [h, Option.map_some]
theorem sto_1 (S : Sto) (z x : T) (J : Sto) : (S ++ z :: x :: J)[S.length + 1]? = some x := by simp
theorem sto_set1 (S : Sto) (z x y : T) (J : Sto) : (S ++ z :: x :: J).set (S.length + 1) y = S ++ z :: y :: J := by simp
theorem lstAt_1 (S : Sto) (z : T) (ts : List T) (J : Sto) : lstAt (S ++ z :: .lst ts :: J) (S.length + 1) = some ts := by
  unfold lstAt
  rw [sto_1]
theorem in_end (S : Sto) (l : List Str) (J : Sto) (x : Str) : inT (S ++ .lst (l.map T.str) :: J) (.str x) (.ref S.length) = some (.bl (decide (x ∈ l))) := in_ref (sto_end S _ J) x
theorem in_1 (S : Sto) (z : T) (l : List Str) (J : Sto) (x : Str) : inT (S ++ z :: .lst (l.map T.str) :: J) (.str x) (.ref (S.length + 1)) = some (.bl (decide (x ∈ l))) := in_ref (sto_1 S z _ J) x
theorem nin_end (S : Sto) (l : List Str) (J : Sto) (x : Str) : ninT (S ++ .lst (l.map T.str) :: J) (.str x) (.ref S.length) = some (.bl (!decide (x ∈ l))) := nin_of (in_end S l J x)
theorem nin_1 (S : Sto) (z : T) (l : List Str) (J : Sto) (x : Str) : ninT (S ++ z :: .lst (l.map T.str) :: J) (.str x) (.ref (S.length + 1)) = some (.bl (!decide (x ∈ l))) := nin_of (in_1 S z l J x)
theorem len_ref {S : Sto} {n : Nat} {ts : List T} (h : S[n]? = some (.lst ts)) : lenT S [.ref n] = some (.int ts.length) := by
  have e : dctT S (.ref n) = none := by
    simp only [dctT, h]
  unfold lenT
  simp only [e, seqL, h, Option.map_some]
theorem len_end (S : Sto) (ts : List T) (J : Sto) : lenT (S ++ .lst ts :: J) [.ref S.length] = some (.int ts.length) := len_ref (sto_end S _ J)
theorem len_1 (S : Sto) (z : T) (ts : List T) (J : Sto) : lenT (S ++ z :: .lst ts :: J) [.ref (S.length + 1)] = some (.int ts.length) := len_ref (sto_1 S z _ J)
theorem tup_end (S : Sto) (ts : List T) (J : Sto) : tupT (S ++ .lst ts :: J) [.ref S.length] = some (.tup ts) := by
  show (seqL (S ++ .lst ts :: J) (.ref S.length)).map T.tup = some (.tup ts)
  unfold seqL
  simp only [sto_end, Option.map_some]
theorem tup_1 (S : Sto) (z : T) (ts : List T) (J : Sto) : tupT (S ++ z :: .lst ts :: J) [.ref (S.length + 1)] = some (.tup ts) := by
  show (seqL (S ++ z :: .lst ts :: J) (.ref (S.length + 1))).map T.tup = some (.tup ts)
  unfold seqL
  simp only [sto_1, Option.map_some]
theorem noDs_app : ∀ a b : List T, noDs (a ++ b) = (noDs a && noDs b)
  | [], b => by simp [noDs]
  | x :: a, b => by simp only [List.cons_append, noDs, noDs_app a b, Bool.and_assoc]
theorem lc_strs {i : Nat} {Fe : FE} {τ : Fr} {S : Sto} {h : Str → Str} : ∀ {al : List Str}, (∀ a ∈ al, Fe (setsT τ [(i, .str a)]) S = .ok (.str (h a)) S) → lcF (sName i) fYes Fe [i] τ (al.map T.str) S = .ok ((al.map h).map T.str) S
  | [], _ => rfl
  | a :: al, H => by
    have ih := lc_strs (fun b hb => H b (List.mem_cons_of_mem _ hb))
    simp only [List.map_cons, lcF, sName, slots1, if_true, fYes, nox_ok, bind_ok, H a List.mem_cons_self, ih]
theorem gt_int (i j : Int) (S : Sto) : gtT S (.int i) (.int j) = some (.bl (decide (j < i))) := rfl
theorem lt_int (i j : Int) (S : Sto) : ltT S (.int i) (.int j) = some (.bl (decide (i < j))) := rfl
theorem map_snoc (l : List Str) (x : Str) : l.map T.str ++ [.str x] = (l ++ [x]).map T.str := by simp
end TL
set_option Elab.async false
set_option linter.all false
set_option maxRecDepth 100000
namespace TL
open PySem PySem.Spec L2
open PyProof.Rows hiding St
/-! ### what a def leaves behind: cells that nobody holds any more are forgotten, what it returns is pure -/
mutual
def sub (f : Nat → Option T) : T → Option T
  | .non => some .non
  | .bl b => some (.bl b)
  | .int i => some (.int i)
  | .str x => some (.str x)
  | .val v => some (.val v)
  | .tup ts => (subs f ts).map .tup
  | .lst ts => (subs f ts).map .lst
  | .sls ts => (subs f ts).map .sls
  | .dct ks ts => (subs f ts).map (.dct ks)
  | .ref m => f m
def subs (f : Nat → Option T) : List T → Option (List T)
  | [] => some []
  | t :: ts => (sub f t).bind fun u => (subs f ts).bind fun us => some (u :: us)
end
def oldR (k : Nat) (m : Nat) : Option T := if m < k then some (.ref m) else none
def frzR (k : Nat) (S : Sto) : Nat → Nat → Option T
  | 0, m => oldR k m
  | n + 1, m => if m < k then some (.ref m) else match S[m]? with
    | some (.lst ts) => (subs (frzR k S n) ts).map .lst
    | some (.dct ks ts) => (subs (frzR k S n) ts).map (.dct ks)
    | _ => none
def OldS (S S1 : Sto) : Prop := ∀ (n : Nat) (c : T), n < S.length → S1[n]? = some c → S[n]? = some c ∨ sub (oldR S.length) c = some c
open Classical in
noncomputable def gc (F : FF) : FF := fun ts S => match F ts S with
  | .ok t S1 => match sub (frzR S.length S1 3) t with
    | some t' => if S.length ≤ S1.length ∧ OldS S S1 then .ok t' (S1.take S.length) else .stuck
    | none => .stuck
  | r => r
mutual
/-- a tree without cells -/
def nr : T → Bool
  | .ref _ => false
  | .tup ts => nrs ts
  | .lst ts => nrs ts
  | .sls ts => nrs ts
  | .dct _ ts => nrs ts
  | _ => true
def nrs : List T → Bool
  | [] => true
  | t :: ts => nr t && nrs ts
end
mutual
theorem sub_nr (f : Nat → Option T) : ∀ {t : T}, nr t = true → sub f t = some t
  | .non, _ => rfl
  | .bl _, _ => rfl
  | .int _, _ => rfl
  | .str _, _ => rfl
  | .val _, _ => rfl
  | .tup ts, h => by simp only [sub, subs_nr f (show nrs ts = true from h), Option.map_some]
  | .lst ts, h => by simp only [sub, subs_nr f (show nrs ts = true from h), Option.map_some]
  | .sls ts, h => by simp only [sub, subs_nr f (show nrs ts = true from h), Option.map_some]
  | .dct ks ts, h => by simp only [sub, subs_nr f (show nrs ts = true from h), Option.map_some]
  | .ref _, h => by cases h
theorem subs_nr (f : Nat → Option T) : ∀ {ts : List T}, nrs ts = true → subs f ts = some ts
  | [], _ => rfl
  | t :: ts, h => by
    simp only [nrs, Bool.and_eq_true] at h
    simp only [subs, sub_nr f h.1, subs_nr f h.2, Option.bind_some]
end
section
variable {K : PySem.W.Frag} {H H' : Hp} {μ μ' μ'' : Mu} {S S1 : Sto}
mutual
/-- what the trees say stays when fewer cells are told, where each cell's tree is told otherwise -/
theorem Rel.sub {f : Nat → Option T} (ho : ∀ a, μ'.out a → μ''.out a) (hf : ∀ m u v, f m = some u → Rel K H' μ' (.ref m) v → Rel K H' μ'' u v) : ∀ (t : T) {t' : T} {v : V}, sub f t = some t' → Rel K H' μ' t v → Rel K H' μ'' t' v
  | .non, _, _, e, h => by cases e; simpa only [Rel] using h
  | .bl _, _, _, e, h => by cases e; simpa only [Rel] using h
  | .int _, _, _, e, h => by cases e; simpa only [Rel] using h
  | .str _, _, _, e, h => by cases e; simpa only [Rel] using h
  | .val _, _, _, e, h => by cases e; simpa only [Rel] using h
  | .ref n, t', v, e, h => hf n t' v e h
  | .tup ts, _, _, e, h => by
    simp only [TL.sub, Option.map_eq_some_iff] at e
    obtain ⟨us, e, rfl⟩ := e
    simp only [Rel] at h ⊢
    obtain ⟨a, xs, rfl, o, r⟩ := h
    exact ⟨a, xs, rfl, o.imp (fun z => ⟨z.1, ho _ z.2⟩) id, Rels.sub ho hf ts e r⟩
  | .lst ts, _, _, e, h => by
    simp only [TL.sub, Option.map_eq_some_iff] at e
    obtain ⟨us, e, rfl⟩ := e
    simp only [Rel] at h ⊢
    obtain ⟨a, xs, rfl, o, r⟩ := h
    exact ⟨a, xs, rfl, ⟨o.1, ho _ o.2⟩, Rels.sub ho hf ts e r⟩
  | .sls ts, _, _, e, h => by
    simp only [TL.sub, Option.map_eq_some_iff] at e
    obtain ⟨us, e, rfl⟩ := e
    simp only [Rel] at h ⊢
    obtain ⟨a, xs, rfl, o, r⟩ := h
    exact ⟨a, xs, rfl, o.imp (fun z => ⟨z.1, ho _ z.2⟩) id, Rels.sub ho hf ts e r⟩
  | .dct ks ts, _, _, e, h => by
    simp only [TL.sub, Option.map_eq_some_iff] at e
    obtain ⟨us, e, rfl⟩ := e
    simp only [Rel] at h ⊢
    obtain ⟨a, xs, rfl, o, q, r⟩ := h
    exact ⟨a, xs, rfl, ⟨o.1, ho _ o.2⟩, q, Rels.sub ho hf ts e r⟩
theorem Rels.sub {f : Nat → Option T} (ho : ∀ a, μ'.out a → μ''.out a) (hf : ∀ m u v, f m = some u → Rel K H' μ' (.ref m) v → Rel K H' μ'' u v) : ∀ (ts : List T) {ts' : List T} {vs : List V}, subs f ts = some ts' → Rels K H' μ' ts vs → Rels K H' μ'' ts' vs
  | [], _, _, e, h => by cases e; simpa only [Rels] using h
  | t :: ts, _, _, e, h => by
    simp only [TL.subs] at e
    cases e1 : TL.sub f t with
    | none => rw [e1] at e; cases e
    | some u =>
      cases e2 : TL.subs f ts with
      | none => rw [e1, e2] at e; cases e
      | some us =>
        rw [e1, e2] at e
        cases e
        simp only [Rels] at h ⊢
        obtain ⟨v, r, rfl, h1, h2⟩ := h
        exact ⟨v, r, rfl, Rel.sub ho hf t e1 h1, Rels.sub ho hf ts e2 h2⟩
end
mutual
theorem Rel.old : ∀ (t : T) {v : V}, Rel K H μ t v → TL.sub (oldR μ.c.length) t = some t
  | .non, _, _ => rfl
  | .bl _, _, _ => rfl
  | .int _, _, _ => rfl
  | .str _, _, _ => rfl
  | .val _, _, _ => rfl
  | .ref n, _, h => by
    simp only [Rel] at h
    obtain ⟨a, e, _⟩ := h
    exact if_pos (List.getElem?_eq_some_iff.mp e).1
  | .tup ts, _, h => by
    simp only [Rel] at h
    obtain ⟨a, xs, _, _, r⟩ := h
    simp only [TL.sub, Rels.old ts r, Option.map_some]
  | .lst ts, _, h => by
    simp only [Rel] at h
    obtain ⟨a, xs, _, _, r⟩ := h
    simp only [TL.sub, Rels.old ts r, Option.map_some]
  | .sls ts, _, h => by
    simp only [Rel] at h
    obtain ⟨a, xs, _, _, r⟩ := h
    simp only [TL.sub, Rels.old ts r, Option.map_some]
  | .dct ks ts, _, h => by
    simp only [Rel] at h
    obtain ⟨a, xs, _, _, _, r⟩ := h
    simp only [TL.sub, Rels.old ts r, Option.map_some]
theorem Rels.old : ∀ (ts : List T) {vs : List V}, Rels K H μ ts vs → TL.subs (oldR μ.c.length) ts = some ts
  | [], _, _ => rfl
  | t :: ts, _, h => by
    simp only [Rels] at h
    obtain ⟨v, r, rfl, h1, h2⟩ := h
    simp only [TL.subs, Rel.old t h1, Rels.old ts h2, Option.bind_some]
end
theorem CellR.old {a : Addr} {c : T} (h : CellR K H μ a c) : TL.sub (oldR μ.c.length) c = some c := by
  cases c with
  | lst ts =>
    obtain ⟨vs, _, r⟩ := h
    simp only [TL.sub, Rels.old ts r, Option.map_some]
  | dct ks ts =>
    obtain ⟨kvs, _, _, r⟩ := h
    simp only [TL.sub, Rels.old ts r, Option.map_some]
  | _ => exact h.elim
theorem oldR_rel (hc : ∃ ν, μ'.c = μ.c ++ ν) (h2 : μ''.c = μ.c) : ∀ m u v, oldR μ.c.length m = some u → Rel K H' μ' (.ref m) v → Rel K H' μ'' u v := fun m u v e h => by
  unfold oldR at e
  split at e
  · rename_i hm
    cases e
    simp only [Rel] at h ⊢
    obtain ⟨a, ea, rfl⟩ := h
    obtain ⟨ν, eν⟩ := hc
    rw [eν, List.getElem?_append_left hm] at ea
    exact ⟨a, by rw [h2]; exact ea, rfl⟩
  · cases e
theorem frzR_rel (hc : ∃ ν, μ'.c = μ.c ++ ν) (h2 : μ''.c = μ.c) (hr : μ''.r = μ'.r) (s : RelS K H' μ' S1) : ∀ n m u v, frzR μ.c.length S1 n m = some u → Rel K H' μ' (.ref m) v → Rel K H' μ'' u v
  | 0, m, u, v, e, h => oldR_rel hc h2 m u v e h
  | n + 1, m, u, v, e, h => by
    have ho : ∀ a, μ'.out a → μ''.out a := fun a o => ⟨fun z => o.1 (by
      obtain ⟨ν, eν⟩ := hc
      rw [eν]
      exact List.mem_append_left _ (by rw [← h2]; exact z)), by rw [hr]; exact o.2⟩
    unfold frzR at e
    split at e
    · rename_i hm
      cases e
      exact oldR_rel hc h2 m _ v (if_pos hm) h
    · rename_i hm
      simp only [Rel] at h
      obtain ⟨a, ea, rfl⟩ := h
      have ao : μ''.out a := ⟨fun z => by
        rw [h2] at z
        obtain ⟨ν, eν⟩ := hc
        have nd := s.nd
        rw [eν, List.nodup_append] at nd
        rw [eν, List.getElem?_append_right (Nat.le_of_not_lt hm)] at ea
        exact nd.2.2 a z a (List.mem_of_getElem? ea) rfl, fun z => s.dis a (hr ▸ z) (List.mem_of_getElem? ea)⟩
      cases es : S1[m]? with
      | none => rw [es] at e; cases e
      | some c =>
        have q := s.cell m c a es ea
        rw [es] at e
        cases c with
        | lst ts =>
          simp only [Option.map_eq_some_iff] at e
          obtain ⟨us, e, rfl⟩ := e
          obtain ⟨vs, hv, r⟩ := q
          simp only [Rel]
          exact ⟨a, vs, rfl, ⟨hv, ao⟩, Rels.sub ho (fun m u v e h => frzR_rel hc h2 hr s n m u v e h) ts e r⟩
        | dct ks ts =>
          simp only [Option.map_eq_some_iff] at e
          obtain ⟨us, e, rfl⟩ := e
          obtain ⟨vs, hv, hk, r⟩ := q
          simp only [Rel]
          exact ⟨a, vs, rfl, ⟨hv, ao⟩, hk, Rels.sub ho (fun m u v e h => frzR_rel hc h2 hr s n m u v e h) ts e r⟩
        | _ => cases e
end
section
variable {P : Program} {w : World} {K : PySem.W.Frag} {mg : Str → Option Value} {base : Heap} {k : Nat} {f : Addr} {fd : FuncData} {ps : List Str} {F : FF}
theorem post_gc {μ : Mu} {H : Hp} {S : Sto} {ts : List T} {Q : VK} (s : RelS K H μ S) (h : post K xF (rV K) μ H (gc F ts S) Q) : post K xF (rV K) μ H (F ts S) Q := by
  unfold gc at h
  cases e : F ts S with
  | stuck => simp only [e] at h; exact h
  | exc x S1 => simp only [e] at h; exact h
  | ok t S1 =>
    simp only [e] at h
    cases e1 : sub (frzR S.length S1 3) t with
    | none => simp only [e1] at h; exact h.elim
    | some t' =>
      simp only [e1] at h
      split at h
      · rename_i hz
        obtain ⟨hl, hz⟩ := hz
        intro μ' v H' E s' r
        have hc : ∃ ν, μ'.c = μ.c ++ ν := by
          obtain ⟨ν, eν, _⟩ := E.pre
          exact ⟨ν, eν⟩
        have ho : ∀ a, μ'.out a → Mu.out ⟨μ.c, μ'.r⟩ a := fun a o => ⟨fun z => o.1 (by
          obtain ⟨ν, eν⟩ := hc
          rw [eν]
          exact List.mem_append_left _ z), o.2⟩
        refine h ⟨μ.c, μ'.r⟩ v H' ⟨⟨[], by simp, fun _ z => nomatch z⟩, E.res, E.keep, E.live⟩ ⟨?_, s.nd, fun n c a ec ea => ?_, s'.live, fun p hp z => s'.dis p hp ?_⟩ ?_
        · rw [List.length_take, s.len]
          omega
        · have hn : n < S.length := by
            rw [← s.len]
            exact (List.getElem?_eq_some_iff.mp ea).1
          rw [List.getElem?_take_of_lt hn] at ec
          obtain ⟨ν, eν⟩ := hc
          have ea' : μ'.c[n]? = some a := by
            rw [eν, List.getElem?_append_left (by rw [s.len]; exact hn)]
            exact ea
          have q := s'.cell n c a ec ea'
          have oc : TL.sub (oldR μ.c.length) c = some c := by
            rcases hz n c hn ec with y | y
            · exact (s.cell n c a y ea).old
            · rw [s.len]; exact y
          have hf := oldR_rel (K := K) (H' := H') (μ := μ) (μ' := μ') (μ'' := ⟨μ.c, μ'.r⟩) ⟨ν, eν⟩ rfl
          cases c with
          | lst ts =>
            obtain ⟨vs, hv, r⟩ := q
            simp only [TL.sub, Option.map_eq_some_iff, T.lst.injEq] at oc
            obtain ⟨us, oc, rfl⟩ := oc
            exact ⟨vs, hv, Rels.sub ho hf _ oc r⟩
          | dct ks ts =>
            obtain ⟨vs, hv, hk, r⟩ := q
            simp only [TL.sub, Option.map_eq_some_iff, T.dct.injEq, true_and] at oc
            obtain ⟨us, oc, rfl⟩ := oc
            exact ⟨vs, hv, hk, Rels.sub ho hf _ oc r⟩
          | _ => exact q.elim
        · obtain ⟨ν, eν⟩ := hc
          rw [eν]
          exact List.mem_append_left _ z
        · rw [← s.len] at e1
          exact Rel.sub ho (fun m u v e h => frzR_rel (μ'' := ⟨μ.c, μ'.r⟩) hc rfl rfl s' 3 m u v e h) t e1 r
      · exact h.elim
theorem df_gc (D : Df P w K mg base k f fd ps F) : Df P w K mg base k f fd ps (gc F) where
  arity := fun ts S h => by unfold gc; rw [D.arity ts S h]
  go := fun A fs s H given us vs Q hr hg he hb hv hs => D.go A fs s H given us vs Q hr hg he hb hv (by
    obtain ⟨μ, S, ts, st, r, h⟩ := hs
    exact ⟨μ, S, ts, st, r, post_gc st h⟩)
end
/-! the two ways of use -/
theorem gc_eq {F : FF} {ts : List T} {S J : Sto} {t t' : T} (h : F ts S = .ok t (S ++ J)) (e : sub (frzR S.length (S ++ J) 3) t = some t') : gc F ts S = .ok t' S := by
  unfold gc
  rw [h]
  simp only [e]
  rw [if_pos ⟨by simp, fun n c hn hc => .inl (by rw [← hc, List.getElem?_append_left hn])⟩, List.take_left' rfl]
theorem gc_nr {F : FF} {ts : List T} {S J : Sto} {t : T} (h : F ts S = .ok t (S ++ J)) (e : nr t = true) : gc F ts S = .ok t S := gc_eq h (sub_nr _ e)
theorem gc_nr0 {F : FF} {ts : List T} {S : Sto} {t : T} (h : F ts S = .ok t S) (e : nr t = true) : gc F ts S = .ok t S := gc_nr (J := []) (by simpa using h) e
/-- what is returned is the cell itself -/
theorem gc_ref {F : FF} {ts us : List T} {S J : Sto} {m : Nat} (h : F ts S = .ok (.ref m) (S ++ J)) (hm : S.length ≤ m) (e : (S ++ J)[m]? = some (.lst us)) (hn : nrs us = true) : gc F ts S = .ok (.lst us) S := gc_eq h (by
  simp only [sub, frzR]
  rw [if_neg (by omega), e]
  simp only [subs_nr _ hn, Option.map_some])
theorem gc_dref {F : FF} {ts us : List T} {ks : List Key} {S J : Sto} {m : Nat} (h : F ts S = .ok (.ref m) (S ++ J)) (hm : S.length ≤ m) (e : (S ++ J)[m]? = some (.dct ks us)) (hn : nrs us = true) : gc F ts S = .ok (.dct ks us) S := gc_eq h (by
  simp only [sub, frzR]
  rw [if_neg (by omega), e]
  simp only [subs_nr _ hn, Option.map_some])
/-- a call that changes what stands -/
theorem gc_old {F : FF} {ts : List T} {S S' J : Sto} {t : T} (h : F ts S = .ok t (S' ++ J)) (hl : S'.length = S.length) (e : nr t = true) (ho : ∀ (n : Nat) (c : T), S'[n]? = some c → S[n]? = some c ∨ sub (oldR S.length) c = some c) : gc F ts S = .ok t S' := by
  unfold gc
  rw [h]
  simp only [sub_nr _ e]
  rw [if_pos ⟨by simp [hl], fun n c hn hc => ho n c (by rw [← hc, List.getElem?_append_left (by omega)])⟩, List.take_left' hl]
theorem nrs_app : ∀ a b : List T, nrs (a ++ b) = (nrs a && nrs b)
  | [], b => by simp [nrs]
  | x :: a, b => by simp only [List.cons_append, nrs, nrs_app a b, Bool.and_assoc]
theorem nrs_all : ∀ {ts : List T}, (∀ t ∈ ts, nr t = true) → nrs ts = true
  | [], _ => rfl
  | t :: ts, h => by simp only [nrs, h t List.mem_cons_self, nrs_all fun u hu => h u (List.mem_cons_of_mem _ hu), Bool.and_self]
theorem nrs_map {α : Type} {f : α → T} {l : List α} (h : ∀ x ∈ l, nr (f x) = true) : nrs (l.map f) = true := nrs_all fun t ht => by
  obtain ⟨x, hx, rfl⟩ := List.mem_map.mp ht
  exact h x hx
theorem nrs_str (l : List Str) : nrs (l.map T.str) = true := nrs_map fun _ _ => rfl
theorem nrs_int (l : List Int) : nrs (l.map T.int) = true := nrs_map fun _ _ => rfl
end TL
set_option Elab.async false
set_option linter.all false
set_option maxRecDepth 100000
namespace TL
open PySem PySem.Spec L2
open PyProof.Rows hiding St
/-! ### going over a list in a cell, which stays as it is meanwhile -/
abbrev CS := List T × Nat × T
abbrev FIC := Fr → Sto → Res CS
def SrcC (K : PySem.W.Frag) (J : It) (p : CS) (μ : Mu) (H : Hp) : Prop := ∀ μ2 H2 S2, Ext H μ H2 μ2 → RelS K H2 μ2 S2 → S2[p.2.1]? = some p.2.2 →
  (∀ i x, p.1[i]? = some x → J.go i H2 ∧ ∀ v H3, J.yld i H2 v H3 → Same H2 H3 ∧ ∀ S, RelS K H2 μ2 S → Rel K H3 μ2 x v) ∧ ∀ i, p.1.length ≤ i → J.stop i H2
def rIC (K : PySem.W.Frag) : RL CS It := fun H μ p J => SrcC K J p μ H
def wiC (K : PySem.W.Frag) (wx : WT) (Fi : FIC) : TI := tG K wx (rIC K) Fi
def PFIC (X : Cx) (wx : WT) (tg e : Expr) (Fi : FIC) : Prop := PI X tg e (wiC X.K wx Fi)
def lstC (S : Sto) (t : T) : Option (Nat × List T) := match t with
  | .ref n => match S[n]? with
    | some (.lst ts) => some (n, ts)
    | _ => none
  | _ => none
theorem lstC_eq {S : Sto} {t : T} {n : Nat} {ts : List T} (h : lstC S t = some (n, ts)) : t = .ref n ∧ S[n]? = some (.lst ts) := by
  unfold lstC at h
  split at h
  · rename_i m
    split at h
    · rename_i us e
      cases h
      exact ⟨rfl, e⟩
    · cases h
  · cases h
def fiAC (Fa : FE) : FIC := fun τ S => (Fa τ S).bind fun t S1 => match lstC S1 t with
  | some (n, ts) => .ok (ts, n, .lst ts) S1
  | none => .stuck
def numbT (xs : List T) : List T := (List.range xs.length).zipWith (fun i x => T.tup [.int (i : Nat), x]) xs
def fiEC (Fs : FA) : FIC := fun τ S => (Fs τ S).bind fun ts S1 => match ts with
  | [t] => match lstC S1 t with
    | some (n, ts) => .ok (numbT ts, n, .lst ts) S1
    | none => .stuck
  | _ => .stuck
open Classical in
noncomputable def forC (n : Nat) (c : T) (g : GT) (B : BS) : List T → BS
  | [], τ, S => if S[n]? = some c then .nx τ S else .stuck
  | x :: xs, τ, S => if S[n]? = some c then (match g x with
    | none => .stuck
    | some l => match B (setsT τ l) S with
      | .nx τ2 S2 => forC n c g B xs τ2 S2
      | .ct τ2 S2 => forC n c g B xs τ2 S2
      | .bk τ2 S2 => .nx τ2 S2
      | r => r) else .stuck
noncomputable def bForC (Fi : FIC) (g : GT) (B : BS) : BS := fun τ S => (Fi τ S).bindS τ fun p S1 => forC p.2.1 p.2.2 g B p.1 τ S1
open Classical in
noncomputable def lcC (n : Nat) (c : T) (g : GT) (Ft : FT) (Fe : FE) (vs : List Nat) (τ : Fr) : List T → Sto → Res (List T)
  | [], S => if S[n]? = some c then .ok [] S else .stuck
  | x :: xs, S => if S[n]? = some c then (match g x with
    | none => .stuck
    | some l => if slotsIn l vs then (Ft (setsT τ l) S).nox.bind fun k S1 => match k with
        | true => (Fe (setsT τ l) S1).nox.bind fun y S2 => (lcC n c g Ft Fe vs τ xs S2).bind fun ys S3 => .ok (y :: ys) S3
        | false => lcC n c g Ft Fe vs τ xs S1
      else .stuck) else .stuck
noncomputable def fLcC (Fi : FIC) (g : GT) (Ft : FT) (Fe : FE) (vs : List Nat) : FE := fun τ S => (Fi τ S).bind fun p S1 => if p.1.length ≤ sizeLine then (lcC p.2.1 p.2.2 g Ft Fe vs (wipeT τ vs) p.1 S1).bind fun ys S2 => .ok (.lst ys) S2 else .stuck
section
variable {X : Cx} {wx : WT} {pos p : Pos} {tg a e : Expr} {Fa : FE} {Fs : FA}
theorem lstC_ok {K : PySem.W.Frag} {H : Hp} {μ : Mu} {S : Sto} {t : T} {v : V} {n : Nat} {ts : List T} (h : lstC S t = some (n, ts)) (s : RelS K H μ S) (r : Rel K H μ t v) : ∃ a vs, μ.c[n]? = some a ∧ v = .ref a ∧ H a = some (.lst vs) ∧ Rels K H μ ts vs := by
  obtain ⟨rfl, e⟩ := lstC_eq h
  simp only [Rel] at r
  obtain ⟨a, ea, rfl⟩ := r
  obtain ⟨vs, hv, rv⟩ := s.cell n _ a e ea
  exact ⟨a, vs, ea, rfl, hv, rv⟩
theorem cell_later {K : PySem.W.Frag} {H H2 : Hp} {μ μ2 : Mu} {S2 : Sto} {n : Nat} {a : Addr} {ts : List T} (ea : μ.c[n]? = some a) (E : Ext H μ H2 μ2) (s2 : RelS K H2 μ2 S2) (e2 : S2[n]? = some (.lst ts)) : ∃ vs, H2 a = some (.lst vs) ∧ Rels K H2 μ2 ts vs := by
  obtain ⟨ν, eν, _⟩ := E.pre
  have ea2 : μ2.c[n]? = some a := by rw [eν, List.getElem?_append_left (List.getElem?_eq_some_iff.mp ea).1]; exact ea
  exact s2.cell n _ a e2 ea2
theorem pfi_cell (ha : PF X wx a Fa) : PFIC X wx tg a (fiAC Fa) := PI.imp (pi_list ha) fun σ H Q h => by
  obtain ⟨μ, τ, S, s, f, h⟩ := h
  refine tG.seq s f h fun μ1 H1 t v S1 A1 h1 => ?_
  cases e : lstC S1 t with
  | none => simp only [e] at h1; exact h1.elim
  | some q =>
    obtain ⟨n, ts⟩ := q
    simp only [e] at h1
    obtain ⟨a, vs, ea, rfl, hv, rv⟩ := lstC_ok e A1.st A1.rel
    refine ⟨a, rfl, ⟨vs, .inl (.inl hv)⟩, h1.here A1.st fun μ2 H2 S2 E s2 e2 => ?_⟩
    obtain ⟨ws, hw, rw'⟩ := cell_later ea E s2 e2
    have hq : SqL X.K H2 a ws := .inl (.inl hw)
    refine ⟨fun i x ei => ?_, fun i hi => ⟨ws, hq, by rw [← rw'.length]; exact hi⟩⟩
    obtain ⟨u, eu, ru⟩ := rw'.get ei
    refine ⟨⟨ws, u, hq, eu⟩, fun v H3 y => ?_⟩
    obtain ⟨rfl, hy⟩ := y
    have := hy ws hq
    rw [eu] at this
    cases this
    exact ⟨Same.refl _, fun _ _ => ru⟩
theorem pfi_enumC {elts : List Expr} {kk : Nat} {tpos : Pos} (ha : PFA X wx [e] Fs) (hm : X.mg "enumerate" = none) (hg : Gl X "enumerate" := by rfl) (hs : starEach [e] X.env = [(false, eval e X.env)] := by rfl) :
    PFIC X wx (.Tuple elts kk tpos) (.Call (.Name "enumerate" p) [e] [] pos) (fiEC Fs) := PI.imp (pi_enum hg hm ha hs) fun σ H Q h => by
  obtain ⟨μ, τ, S, s, f, h⟩ := h
  refine tG.seq s f h fun μ1 H1 ts vs S1 A1 h1 => ?_
  split at h1
  · rename_i t
    cases e : lstC S1 t with
    | none => simp only [e] at h1; exact h1.elim
    | some q =>
      obtain ⟨n, us⟩ := q
      simp only [e] at h1
      obtain ⟨v, rfl, rt⟩ := rels1 (show Rels X.K H1 μ1 [t] vs from A1.rel)
      obtain ⟨a, ws, ea, rfl, hv, rv⟩ := lstC_ok e A1.st rt
      refine ⟨a, ws, rfl, .inl (.inl hv), h1.here A1.st fun μ2 H2 S2 E s2 e2 => ?_⟩
      obtain ⟨ws, hw, rw'⟩ := cell_later ea E s2 e2
      have hq : SqL X.K H2 a ws := .inl (.inl hw)
      refine ⟨fun i y ei => ?_, fun i hi => ⟨ws, hq, by rw [← rw'.length]; simpa [numbT] using hi⟩⟩
      obtain ⟨x, ex, rfl⟩ := zip_range ei
      obtain ⟨v, ev, rv2⟩ := rw'.get ex
      refine ⟨⟨ws, v, hq, ev⟩, fun u H3 y => ?_⟩
      obtain ⟨T', x', rfl, nT, rfl, hx'⟩ := y
      have := hx' ws hq
      rw [ev] at this
      cases this
      have sm := fresh_same (o := .tup [.int (i : Nat), v]) nT
      refine ⟨sm, fun S s => ?_⟩
      exact rel_tup s nT (by simp only [Rels, Rel]; exact ⟨_, _, rfl, rfl, v, [], rfl, rv2, rfl⟩)
  · exact h1.elim
def fiEL (Fs : FA) : FI := fun τ S => (Fs τ S).bind fun ts S1 => match ts with
  | [.lst xs] => .ok (numbT xs) S1
  | [.sls xs] => .ok (numbT xs) S1
  | _ => .stuck
theorem Src.enumL {K : PySem.W.Frag} {H : Hp} {μ : Mu} {a : Addr} {ws : List V} {xs : List T} (f : OL K H μ a ws) (r : Rels K H μ xs ws) : Src K (Ite K a) (numbT xs) μ H := fun μ2 H2 E => by
  have f2 : OL K H2 μ2 a ws := f.imp E.fix id
  have hq : SqL K H2 a ws := f2.imp (fun z => z.1) id
  have rw' := Rels.mono E xs r
  refine ⟨fun i y ei => ?_, fun i hi => ⟨ws, hq, by rw [← rw'.length]; simpa [numbT] using hi⟩⟩
  obtain ⟨x, ex, rfl⟩ := zip_range ei
  obtain ⟨v, ev, rv2⟩ := rw'.get ex
  refine ⟨⟨ws, v, hq, ev⟩, fun u H3 y => ?_⟩
  obtain ⟨T', x', rfl, nT, rfl, hx'⟩ := y
  have := hx' ws hq
  rw [ev] at this
  cases this
  have sm := fresh_same (o := .tup [.int (i : Nat), v]) nT
  refine ⟨sm, fun S s => ?_⟩
  exact rel_tup s nT (by simp only [Rels, Rel]; exact ⟨_, _, rfl, rfl, v, [], rfl, rv2, rfl⟩)
theorem pfi_enumL {elts : List Expr} {kk : Nat} {tpos : Pos} (ha : PFA X wx [e] Fs) (hm : X.mg "enumerate" = none) (hg : Gl X "enumerate" := by rfl) (hs : starEach [e] X.env = [(false, eval e X.env)] := by rfl) :
    PFI X wx (.Tuple elts kk tpos) (.Call (.Name "enumerate" p) [e] [] pos) (fiEL Fs) := PI.imp (pi_enum hg hm ha hs) fun σ H Q h => by
  obtain ⟨μ, τ, S, s, f, h⟩ := h
  refine tG.seq s f h fun μ1 H1 ts vs S1 A1 h1 => ?_
  split at h1
  · rename_i xs
    obtain ⟨v, rfl, rt⟩ := rels1 (show Rels X.K H1 μ1 [.lst xs] vs from A1.rel)
    simp only [Rel] at rt
    obtain ⟨a, ws, rfl, o, r⟩ := rt
    have o' : OL X.K H1 μ1 a ws := .inl ⟨.inl o.1, o.2⟩
    exact ⟨a, ws, rfl, .inl (.inl o.1), h1.here A1.st (Src.enumL o' r)⟩
  · rename_i xs
    obtain ⟨v, rfl, rt⟩ := rels1 (show Rels X.K H1 μ1 [.sls xs] vs from A1.rel)
    simp only [Rel] at rt
    obtain ⟨a, ws, rfl, o, r⟩ := rt
    exact ⟨a, ws, rfl, o.imp (fun z => z.1) fun z => z, h1.here A1.st (Src.enumL o r)⟩
  · exact h1.elim
/-- enumerate of a list or a tuple -/
def fiEA (Fs : FA) : FI := fun τ S => (Fs τ S).bind fun ts S1 => match ts with
  | [.tup xs] => .ok (numbT xs) S1
  | [.lst xs] => .ok (numbT xs) S1
  | [.sls xs] => .ok (numbT xs) S1
  | _ => .stuck
theorem pfi_enumA {elts : List Expr} {kk : Nat} {tpos : Pos} (ha : PFA X wx [e] Fs) (hm : X.mg "enumerate" = none) (hg : Gl X "enumerate" := by rfl) (hs : starEach [e] X.env = [(false, eval e X.env)] := by rfl) :
    PFI X wx (.Tuple elts kk tpos) (.Call (.Name "enumerate" p) [e] [] pos) (fiEA Fs) := ⟨fun pins s σ H R I h => by
  obtain ⟨μ, τ, S, st, f, h⟩ := h
  have lists : ∀ {q : Res (List T)}, fiEL Fs τ S = q → post X.K (wx.fr τ σ) (rI X.K) μ H q R → _ := fun {q} e z => (pfi_enumL (p := p) (pos := pos) (elts := elts) (kk := kk) (tpos := tpos) ha hm hg hs).run pins s σ H R I ⟨μ, τ, S, st, f, by rw [e]; exact z⟩
  have tups : ∀ {q : Res (List T)}, fiE Fs τ S = q → post X.K (wx.fr τ σ) (rI X.K) μ H q R → _ := fun {q} e z => (pfi_enum (p := p) (pos := pos) (elts := elts) (kk := kk) (tpos := tpos) ha hm hg hs).run pins s σ H R I ⟨μ, τ, S, st, f, by rw [e]; exact z⟩
  cases e : Fs τ S with
  | stuck => simp only [fiEA, e, Res.bind] at h; exact h.elim
  | exc x S1 =>
    simp only [fiEA, e, Res.bind] at h
    exact lists (by simp only [fiEL, e, Res.bind]) h
  | ok ts S1 =>
    simp only [fiEA, e, Res.bind] at h
    split at h
    · exact tups (by simp only [fiE, e, Res.bind, numbT]) h
    · exact lists (by simp only [fiEL, e, Res.bind]) h
    · exact lists (by simp only [fiEL, e, Res.bind]) h
    · exact h.elim⟩
end
section
variable {X : Cx} {wx : WT} {pos : Pos} {B : BS}
theorem pfs_forC {tg iter : Expr} {body : List Stmt} {Fi : FIC} {g : GT} (hp : PassesOwn (model X.prog X.w) X.A X.env X.xe) (hc : X.calm = true) (hi : PFIC X wx tg iter Fi) (hg : PFG X tg g) (hb : PFSs X wx body B)
    (hs : ∀ x, foldedSetIterable iter X.env x = pure x := by intro _; rfl) : PFS X wx (.For tg iter body [] pos) (bForC Fi g B) := PS.imp (ps_for hp hc hi hg hb hs) fun D σ H h => by
  obtain ⟨μ, τ, S, s, f, h⟩ := h
  refine tG.seqS s f h fun μ1 H1 p J S1 A1 h1 => ?_
  obtain ⟨xs, n, c⟩ := p
  simp only at h1
  refine ⟨fun i m σ2 H2 => ∃ μ2 τ2 S2, Ext H1 μ1 H2 μ2 ∧ RelS X.K H2 μ2 S2 ∧ RelF X.K H2 μ2 τ2 σ2 ∧ m = xs.length - i ∧ i ≤ xs.length ∧ postS X.K wx μ2 H2 (forC n c g B (xs.drop i) τ2 S2) D,
    ⟨xs.length, μ1, τ, S1, Ext.refl _ _, A1.st, A1.fr, rfl, Nat.zero_le _, by simpa using h1⟩, fun i m σ2 H2 hW => ?_⟩
  obtain ⟨μ2, τ2, S2, E2, s2, f2, rfl, hi, h2⟩ := hW
  by_cases hck : S2[n]? = some c
  · obtain ⟨go, stop⟩ := A1.rel μ2 H2 S2 E2 s2 hck
    by_cases hlt : i < xs.length
    · rw [drop_cons hlt] at h2
      obtain ⟨hgo, hy⟩ := go i xs[i] (List.getElem?_eq_getElem hlt)
      refine .inr ⟨hgo, fun σ' H' => ∃ μ2 τ2 S2, Ext H1 μ1 H' μ2 ∧ RelS X.K H' μ2 S2 ∧ RelF X.K H' μ2 τ2 σ' ∧ postS X.K wx μ2 H' (forC n c g B (xs.drop (i + 1)) τ2 S2) D, fun σ' H' hN => ?_, fun v H3 yl => ?_⟩
      · obtain ⟨μ3, τ3, S3, a, b, c, d⟩ := hN
        exact ⟨xs.length - (i + 1), by omega, μ3, τ3, S3, a, b, c, rfl, hlt, d⟩
      · obtain ⟨sm, hr⟩ := hy v H3 yl
        have E3 : Ext H2 μ2 H3 μ2 := Ext.of_same sm
        simp only [forC] at h2
        rw [if_pos hck] at h2
        cases eg : g xs[i] with
        | none => simp only [eg] at h2; exact h2.elim
        | some l =>
          simp only [eg] at h2
          refine ⟨μ2, xs[i], l, hr S2 s2, eg, fun l' f' => ⟨μ2, setsT τ2 l, S2, s2.same sm, RelF.sets f' (f2.mono E3), ?_⟩⟩
          cases eb : B (setsT τ2 l) S2 with
          | stuck => simp only [eb] at h2; exact h2.elim
          | nx τ4 S4 =>
            simp only [eb] at h2
            exact fun μ4 σ4 H4 E4 s4 f4 => ⟨μ4, τ4, S4, (E2.trans E3).trans E4, s4, f4, h2.shift (E3.trans E4)⟩
          | ct τ4 S4 =>
            simp only [eb] at h2
            exact fun μ4 σ4 H4 E4 s4 f4 => ⟨μ4, τ4, S4, (E2.trans E3).trans E4, s4, f4, h2.shift (E3.trans E4)⟩
          | bk τ4 S4 =>
            simp only [eb] at h2
            exact fun μ4 σ4 H4 E4 s4 f4 => h2 μ4 σ4 H4 (E3.trans E4) s4 f4
          | rt t S4 =>
            simp only [eb] at h2
            exact fun μ4 v4 H4 E4 s4 r4 => h2 μ4 v4 H4 (E3.trans E4) s4 r4
          | exc x τ4 S4 =>
            simp only [eb] at h2
            exact fun μ4 σ4 H4 E4 s4 f4 => h2 μ4 σ4 H4 (E3.trans E4) s4 f4
    · have e : i = xs.length := by omega
      subst e
      rw [List.drop_length] at h2
      simp only [forC] at h2
      rw [if_pos hck] at h2
      exact .inl ⟨stop _ (Nat.le_refl _), h2 μ2 σ2 H2 (Ext.refl _ _) s2 f2⟩
  · exfalso
    cases hd : xs.drop i with
    | nil => rw [hd] at h2; simp only [forC] at h2; rw [if_neg hck] at h2; exact h2
    | cons x r => rw [hd] at h2; simp only [forC] at h2; rw [if_neg hck] at h2; exact h2
theorem lcC_imp {Fi : FIC} {g : GT} {Ft : FT} {Fe : FE} {vs : List Nat} {σ : L2.St} {H : Hp} {Q : VK} (h : tN X.K wx (fLcC Fi g Ft Fe vs) σ H Q) : tLc (wiC X.K wx Fi) (gT X.K g) (tG X.K wF rB Ft) (tG X.K wF (rV X.K) Fe) vs σ H Q := by
  obtain ⟨μ, τ, S, s, f, h⟩ := h
  refine tG.seqN s f h fun μ1 H1 p J S1 A1 h1 => ?_
  obtain ⟨xs, n, c⟩ := p
  simp only at h1
  by_cases hl : xs.length ≤ sizeLine
  · rw [if_pos hl] at h1
    intro D hD
    have hD0 : H D = none := A1.ext.back hD
    -- what is kept: the list so far stands at D, which no tree names
    refine ⟨fun i m H2 => ∃ M S2 acc accT, Ext H1 μ1 H2 M ∧ D ∈ M.r ∧ RelS X.K H2 M S2 ∧ RelF X.K H2 M τ σ ∧ H2 D = some (.lst acc) ∧ Rels X.K H2 M accT acc ∧ acc.length ≤ i ∧ i ≤ xs.length ∧ m = xs.length - i ∧
        postN X.K (wx.fr τ σ) μ H ((lcC n c g Ft Fe vs (wipeT τ vs) (xs.drop i) S2).bind fun ys S3 => .ok (.lst (accT ++ ys)) S3) Q,
      ⟨xs.length, μ1.hide D, S1, [], [], Ext.hide hD, List.mem_cons_self, A1.st.hide hD, RelF.to (μ := μ1) (fun _ _ e => e) (hide_keep hD) A1.fr, upd_same, by simp only [Rels], Nat.zero_le _, Nat.zero_le _, rfl, by simpa using h1⟩, fun i m H2 hW => ?_⟩
    obtain ⟨M, S2, acc, accT, E2, nr2, s2, f2, d2, a2, hai, hix, rfl, h2⟩ := hW
    have hck : S2[n]? = some c := Classical.byContradiction fun hck => by
      cases hd : xs.drop i with
      | nil => rw [hd] at h2; simp only [lcC] at h2; rw [if_neg hck] at h2; exact h2
      | cons x r => rw [hd] at h2; simp only [lcC] at h2; rw [if_neg hck] at h2; exact h2
    obtain ⟨go, stop⟩ := A1.rel M H2 S2 E2 s2 hck
    by_cases hlt : i < xs.length
    · rw [drop_cons hlt] at h2
      obtain ⟨hgo, hy⟩ := go i xs[i] (List.getElem?_eq_getElem hlt)
      refine .inr ⟨hgo, fun H' => ∃ M S2 acc accT, Ext H1 μ1 H' M ∧ D ∈ M.r ∧ RelS X.K H' M S2 ∧ RelF X.K H' M τ σ ∧ H' D = some (.lst acc) ∧ Rels X.K H' M accT acc ∧ acc.length ≤ i + 1 ∧
        postN X.K (wx.fr τ σ) μ H ((lcC n c g Ft Fe vs (wipeT τ vs) (xs.drop (i + 1)) S2).bind fun ys S3 => .ok (.lst (accT ++ ys)) S3) Q, fun H' hN' => ?_, fun v H3 yl => ?_⟩
      · obtain ⟨M3, S3, acc3, accT3, q1, q2, q3, q4, q5, q6, q7, q8⟩ := hN'
        exact ⟨xs.length - (i + 1), by omega, M3, S3, acc3, accT3, q1, q2, q3, q4, q5, q6, q7, hlt, rfl, q8⟩
      · -- a turn
        obtain ⟨sm, hr⟩ := hy v H3 yl
        have E3 : Ext H2 M H3 M := Ext.of_same sm
        have s3 := s2.same sm
        have f3 := f2.mono E3
        simp only [lcC] at h2
        rw [if_pos hck] at h2
        cases eg : g xs[i] with
        | none => simp only [eg] at h2; exact h2.elim
        | some l =>
          simp only [eg] at h2
          by_cases ha : slotsIn l vs = true
          · rw [if_pos ha] at h2
            refine ⟨M, xs[i], l, hr S2 s2, eg, fun l' fl => ⟨wipe_back (slotsIn_mem ha fl), ?_⟩⟩
            have fb : RelF X.K H3 M (setsT (wipeT τ vs) l) (setsV (wipe σ vs) l') := RelF.sets fl (relF_wipe f3 vs)
            cases et : Ft (setsT (wipeT τ vs) l) S2 with
            | stuck => rw [et] at h2; exact h2.elim
            | exc x S4 => rw [et] at h2; exact h2.elim
            | ok k S4 =>
              rw [et] at h2
              simp only [Res.nox, Res.bind] at h2
              refine tG.known s3 fb et fun M4 H4 b A4 => ?_
              have e : k = b := A4.rel
              subst e
              have E4 : Ext H2 M H4 M4 := E3.trans A4.ext
              cases k with
              | false =>
                simp only at h2
                refine iteF ⟨M4, S4, acc, accT, E2.trans E4, A4.ext.res.1 D nr2, A4.st, f2.mono E4, ?_, Rels.mono E4 _ a2, by omega, h2⟩
                exact E4.keep D _ d2 (s2.dis D nr2)
              | true =>
                simp only at h2
                refine iteT ?_
                cases ee : Fe (setsT (wipeT τ vs) l) S4 with
                | stuck => rw [ee] at h2; exact h2.elim
                | exc x S5 => rw [ee] at h2; exact h2.elim
                | ok y S5 =>
                  rw [ee] at h2
                  simp only at h2
                  refine tG.known A4.st A4.fr ee fun M5 H5 w A5 => ?_
                  have E5 : Ext H2 M H5 M5 := E4.trans A5.ext
                  have nr5 : D ∈ M5.r := A5.ext.res.1 D (A4.ext.res.1 D nr2)
                  have d5 : H5 D = some (.lst acc) := E5.keep D _ d2 (s2.dis D nr2)
                  refine ⟨acc, d5, by omega, M5, S5, acc ++ [w], accT ++ [y], (E2.trans E5).hid hD, nr5, A5.st.hid nr5, RelF.to (μ := M5) (fun _ _ e => e) (hid_keep nr5) (f2.mono E5), upd_same, ?_, by simp; omega, ?_⟩
                  · refine Rels.to (μ := M5) (fun _ _ e => e) (hid_keep nr5) _ (Rels.append (Rels.mono E5 _ a2) ?_)
                    simp only [Rels]
                    exact ⟨w, [], rfl, A5.rel, rfl⟩
                  · cases er : lcC n c g Ft Fe vs (wipeT τ vs) (xs.drop (i + 1)) S5 with
                    | stuck => rw [er] at h2; exact h2.elim
                    | exc x S6 => rw [er] at h2; exact h2
                    | ok ys S6 =>
                      rw [er] at h2
                      simp only [Res.bind] at h2 ⊢
                      rw [List.append_assoc]
                      exact h2
          · rw [if_neg ha] at h2; exact h2.elim
    · have e : i = xs.length := by omega
      subst e
      rw [List.drop_length] at h2
      refine .inl ⟨stop _ (Nat.le_refl _), ?_⟩
      simp only [lcC] at h2
      rw [if_pos hck] at h2
      simp only [Res.bind, List.append_nil] at h2
      exact h2 M H2 D (A1.ext.trans E2) hD0 nr2 s2 ⟨acc, d2, a2⟩
  · rw [if_neg hl] at h1; exact h1.elim
theorem pfn_lcC {elt tg iter : Expr} {ifs : List Expr} {scope : Scope} {own : List (Str × Nat)} {Fi : FIC} {g : GT} {Ft : FT} {Fe : FE} (hc : X.calm = true) (hN : X.N.Nodup) (hi : PFIC X wx tg iter Fi) (ok : BlkOk X.N X.env.scope scope own)
    (hg : ∀ (s : Shared) (H : Hp) (C : Addr) (cl : List (Str × Addr)) (fp : List Addr), PFG (X.blk s H scope (compEnvC scope cl C X.env) fp) tg g) (ht : ∀ (s : Shared) (H : Hp) (C : Addr) (cl : List (Str × Addr)) (fp : List Addr), PFTs (X.blk s H scope (compEnvC scope cl C X.env) fp) wF ifs Ft)
    (he : ∀ (s : Shared) (H : Hp) (C : Addr) (cl : List (Str × Addr)) (fp : List Addr), PF (X.blk s H scope (compEnvC scope cl C X.env) fp) wF elt Fe) (hs : ∀ x, foldedSetIterable iter X.env x = pure x := by intro _; rfl) :
    PFN X wx (.ListComp elt [⟨tg, iter, ifs, 0⟩] scope pos) (fLcC Fi g Ft Fe (own.map (·.2))) := PE.imp (pe_lc (g := gT X.K g) (tt := tG X.K wF rB Ft) (te := tG X.K wF (rV X.K) Fe) hc hN hi ok hg ht he hs) fun _ _ _ h => lcC_imp h
section
variable {elt tg iter : Expr} {ifs : List Expr} {scope : Scope} {own : List (Str × Nat)} {Fi : FIC} {g : GT} {Ft : FT} {Fe : FE} {i : Nat} {y : Str} {py spos : Pos} (hc : X.calm = true) (hN : X.N.Nodup) (hy : X.N[i]? = some y) (hyl : X.env.scope.names.lookup y = some .local)
  (hsw : swapsWith (.ListComp elt [⟨tg, iter, ifs, 0⟩] scope pos) (some (.Name y py)) spos.line X.env = pure true) (hi : PFIC X wx tg iter Fi) (ok : BlkOk X.N X.env.scope scope own)
  (hg : ∀ (s : Shared) (H : Hp) (C : Addr) (cl : List (Str × Addr)) (fp : List Addr), PFG (X.blk s H scope (compEnvC scope cl C X.env) fp) tg g) (ht : ∀ (s : Shared) (H : Hp) (C : Addr) (cl : List (Str × Addr)) (fp : List Addr), PFTs (X.blk s H scope (compEnvC scope cl C X.env) fp) wF ifs Ft)
  (he : ∀ (s : Shared) (H : Hp) (C : Addr) (cl : List (Str × Addr)) (fp : List Addr), PF (X.blk s H scope (compEnvC scope cl C X.env) fp) wF elt Fe) (hs : ∀ x, foldedSetIterable iter X.env x = pure x := by intro _; rfl)
include hc hN hy hyl hsw hi ok hg ht he hs
theorem pfs_setLcK : PFS X wx (.Assign [.Name y py] (.ListComp elt [⟨tg, iter, ifs, 0⟩] scope pos) spos) (bSet i (fPure (fLcC Fi g Ft Fe (own.map (·.2))))) :=
  PS.imp (ps_setLc (g := gT X.K g) (tt := tG X.K wF rB Ft) (te := tG X.K wF (rV X.K) Fe) hc hN hy hyl hsw hi ok hg ht he hs) fun D σ H h => by
    have h1 := pure_imp (set_imp h)
    exact lcC_imp h1
theorem pfs_setLcCK : PFS X wx (.Assign [.Name y py] (.ListComp elt [⟨tg, iter, ifs, 0⟩] scope pos) spos) (bSet i (fCell (fLcC Fi g Ft Fe (own.map (·.2))))) :=
  PS.imp (ps_setLc (g := gT X.K g) (tt := tG X.K wF rB Ft) (te := tG X.K wF (rV X.K) Fe) hc hN hy hyl hsw hi ok hg ht he hs) fun D σ H h => by
    have h1 := cell_imp (set_imp h)
    exact lcC_imp h1
end
end
end TL
set_option Elab.async false
set_option linter.all false
set_option maxRecDepth 100000
namespace TL
open PySem PySem.Spec L2
open PyProof.Rows hiding St
open RZ
/-! ### zip -/
def pairT (xs ys : List T) : List T := List.zipWith (fun x y => T.tup [x, y]) xs ys
def fiZ (Fs : FA) : FI := fun τ S => (Fs τ S).bind fun ts S1 => match ts with
  | [.lst xs, .lst ys] => .ok (pairT xs ys) S1
  | [.tup xs, .tup ys] => .ok (pairT xs ys) S1
  | _ => .stuck
theorem pair_at {xs ys : List T} {i : Nat} {z : T} (e : (pairT xs ys)[i]? = some z) : ∃ x y, xs[i]? = some x ∧ ys[i]? = some y ∧ z = T.tup [x, y] := by
  unfold pairT at e
  rw [List.getElem?_zipWith] at e
  split at e
  · rename_i x y e1 e2
    cases e
    exact ⟨x, y, e1, e2, rfl⟩
  · cases e
theorem pair_len (xs ys : List T) : (pairT xs ys).length = min xs.length ys.length := by
  unfold pairT
  rw [List.length_zipWith]
section
variable {X : Cx} {wx : WT} {pos p : Pos} {e e2 : Expr} {Fs : FA}
theorem Src.zipL {K : PySem.W.Frag} {H : Hp} {μ : Mu} {a b : Addr} {ws us : List V} {xs ys : List T} (f : OL K H μ a ws) (g : OL K H μ b us) (r : Rels K H μ xs ws) (r' : Rels K H μ ys us) : Src K (Itz K a b) (pairT xs ys) μ H := fun μ2 H2 E => by
  have f2 : OL K H2 μ2 a ws := f.imp E.fix id
  have g2 : OL K H2 μ2 b us := g.imp E.fix id
  have hq : SqL K H2 a ws := f2.imp (fun z => z.1) id
  have hq' : SqL K H2 b us := g2.imp (fun z => z.1) id
  have rw1 := Rels.mono E xs r
  have rw2 := Rels.mono E ys r'
  refine ⟨fun i z ei => ?_, fun i hi => ⟨ws, us, hq, hq', ?_⟩⟩
  · obtain ⟨x, y, ex, ey, rfl⟩ := pair_at ei
    obtain ⟨v, ev, rv⟩ := rw1.get ex
    obtain ⟨v', ev', rv'⟩ := rw2.get ey
    refine ⟨⟨ws, us, v, v', hq, hq', ev, ev'⟩, fun u H3 y => ?_⟩
    obtain ⟨T', x', y', rfl, nT, rfl, hx', hy'⟩ := y
    have h1 := hx' ws hq
    have h2 := hy' us hq'
    rw [ev] at h1
    rw [ev'] at h2
    cases h1
    cases h2
    have sm := fresh_same (o := .tup [v, v']) nT
    exact ⟨sm, fun S s => rel_tup s nT (by simp only [Rels, Rel]; exact ⟨v, [v'], rfl, rv, v', [], rfl, rv', rfl⟩)⟩
  · rw [pair_len, rw1.length, rw2.length] at hi
    omega
theorem Src.zipT {K : PySem.W.Frag} {H : Hp} {μ : Mu} {a b : Addr} {ws us : List V} {xs ys : List T} (f : OT K H μ a ws) (g : OT K H μ b us) (r : Rels K H μ xs ws) (r' : Rels K H μ ys us) : Src K (ItzT K a b) (pairT xs ys) μ H := fun μ2 H2 E => by
  have f2 : OT K H2 μ2 a ws := f.imp E.fix id
  have g2 : OT K H2 μ2 b us := g.imp E.fix id
  have hq : SqT K H2 a ws := f2.imp (fun z => z.1) id
  have hq' : SqT K H2 b us := g2.imp (fun z => z.1) id
  have rw1 := Rels.mono E xs r
  have rw2 := Rels.mono E ys r'
  refine ⟨fun i z ei => ?_, fun i hi => ⟨ws, us, hq, hq', ?_⟩⟩
  · obtain ⟨x, y, ex, ey, rfl⟩ := pair_at ei
    obtain ⟨v, ev, rv⟩ := rw1.get ex
    obtain ⟨v', ev', rv'⟩ := rw2.get ey
    refine ⟨⟨ws, us, v, v', hq, hq', ev, ev'⟩, fun u H3 y => ?_⟩
    obtain ⟨T', x', y', rfl, nT, rfl, hx', hy'⟩ := y
    have h1 := hx' ws hq
    have h2 := hy' us hq'
    rw [ev] at h1
    rw [ev'] at h2
    cases h1
    cases h2
    have sm := fresh_same (o := .tup [v, v']) nT
    exact ⟨sm, fun S s => rel_tup s nT (by simp only [Rels, Rel]; exact ⟨v, [v'], rfl, rv, v', [], rfl, rv', rfl⟩)⟩
  · rw [pair_len, rw1.length, rw2.length] at hi
    omega
theorem pfi_zip {elts : List Expr} {kk : Nat} {tpos : Pos} (ha : PFA X wx [e, e2] Fs) (hm : X.mg "zip" = none) (hg : Gl X "zip" := by rfl)
    (hs : starEach [e, e2] X.env = (false, eval e X.env) :: starEach [e2] X.env := by rfl) (hpl : (backTo pos (starEach [e2] X.env)).any (·.1) = false := by rfl) :
    PFI X wx (.Tuple elts kk tpos) (.Call (.Name "zip" p) [e, e2] [] pos) (fiZ Fs) := PI.imp (pi_zipA hg hm ha hs hpl) fun σ H Q h => by
  obtain ⟨μ, τ, S, s, f, h⟩ := h
  refine tG.seq s f h fun μ1 H1 ts vs S1 A1 h1 => ?_
  split at h1
  · rename_i xs ys
    obtain ⟨v, w, rfl, r1, r2⟩ := rels2 (show Rels X.K H1 μ1 [.lst xs, .lst ys] vs from A1.rel)
    simp only [Rel] at r1 r2
    obtain ⟨a, ws, rfl, o, r⟩ := r1
    obtain ⟨b, us, rfl, o', r'⟩ := r2
    exact ⟨a, b, ws, us, rfl, .inl ⟨.inl (.inl o.1), .inl (.inl o'.1), h1.here A1.st (Src.zipL (.inl ⟨.inl o.1, o.2⟩) (.inl ⟨.inl o'.1, o'.2⟩) r r')⟩⟩
  · rename_i xs ys
    obtain ⟨v, w, rfl, r1, r2⟩ := rels2 (show Rels X.K H1 μ1 [.tup xs, .tup ys] vs from A1.rel)
    simp only [Rel] at r1 r2
    obtain ⟨a, ws, rfl, o, r⟩ := r1
    obtain ⟨b, us, rfl, o', r'⟩ := r2
    exact ⟨a, b, ws, us, rfl, .inr ⟨o.imp (fun z => z.1) id, o'.imp (fun z => z.1) id, h1.here A1.st (Src.zipT o o' r r')⟩⟩
  · exact h1.elim
end
/-! ### while -/
def whF (Ft : FT) (B : BS) : Nat → BS
  | 0 => fun _ _ => .stuck
  | n + 1 => fun τ S => (Ft τ S).bindS τ fun k S1 => match k with
    | true => match B τ S1 with
      | .nx τ2 S2 => whF Ft B n τ2 S2
      | .ct τ2 S2 => whF Ft B n τ2 S2
      | .bk τ2 S2 => .nx τ2 S2
      | r => r
    | false => .nx τ S1
def bWhile (Ft : FT) (B : BS) : BS := whF Ft B 1000
section
variable {X : Cx} {wx : WT} {pos : Pos} {B : BS} {c : Expr} {body : List Stmt} {Ft : FT}
theorem pfs_while (hp : PassesOwn (model X.prog X.w) X.A X.env X.xe) (hc : PFT X wx c Ft) (hb : PFSs X wx body B) : PFS X wx (.While c body [] pos) (bWhile Ft B) := PS.imp (ps_while hp hc hb) fun D σ H h => by
  obtain ⟨μ, τ, S, s, f, h⟩ := h
  refine ⟨fun n σ2 H2 => ∃ μ2 τ2 S2, RelS X.K H2 μ2 S2 ∧ RelF X.K H2 μ2 τ2 σ2 ∧ postS X.K wx μ2 H2 (whF Ft B n τ2 S2) D, ⟨1000, μ, τ, S, s, f, h⟩, fun n σ2 H2 hW => ?_⟩
  obtain ⟨μ2, τ2, S2, s2, f2, h2⟩ := hW
  cases n with
  | zero => exact h2.elim
  | succ n =>
    refine tG.seqS s2 f2 h2 fun μ3 H3 k b S3 A3 h3 => ?_
    obtain rfl : k = b := A3.rel
    cases k with
    | false => exact iteF (h3 μ3 σ2 H3 (Ext.refl _ _) A3.st A3.fr)
    | true =>
      refine iteT ⟨fun σ' H' => ∃ μ2 τ2 S2, RelS X.K H' μ2 S2 ∧ RelF X.K H' μ2 τ2 σ' ∧ postS X.K wx μ2 H' (whF Ft B n τ2 S2) D, fun σ' H' hN => ⟨n, Nat.lt_succ_self n, hN⟩, μ3, τ2, S3, A3.st, A3.fr, ?_⟩
      simp only at h3
      cases eb : B τ2 S3 with
      | stuck => simp only [eb] at h3; exact h3.elim
      | nx τ4 S4 =>
        simp only [eb] at h3
        exact fun μ4 σ4 H4 E4 s4 f4 => ⟨μ4, τ4, S4, s4, f4, h3.shift E4⟩
      | ct τ4 S4 =>
        simp only [eb] at h3
        exact fun μ4 σ4 H4 E4 s4 f4 => ⟨μ4, τ4, S4, s4, f4, h3.shift E4⟩
      | bk τ4 S4 =>
        simp only [eb] at h3
        exact fun μ4 σ4 H4 E4 s4 f4 => h3 μ4 σ4 H4 E4 s4 f4
      | rt t S4 =>
        simp only [eb] at h3
        exact fun μ4 v4 H4 E4 s4 f4 => h3 μ4 v4 H4 E4 s4 f4
      | exc x τ4 S4 =>
        simp only [eb] at h3
        exact fun μ4 v4 H4 E4 s4 f4 => h3 μ4 v4 H4 E4 s4 f4
end
/-! ### is True, is False -/
def isBT (_ : Sto) (x y : T) : Option T := match x, y with
  | .val _, _ => none
  | .bl a, .bl b => some (.bl (decide (a = b)))
  | _, .bl _ => some (.bl false)
  | _, _ => none
def notBT (S : Sto) (x y : T) : Option T := match isBT S x y with
  | some (.bl b) => some (.bl !b)
  | _ => none
theorem isBT_ok {K : PySem.W.Frag} {H : Hp} {μ : Mu} {S : Sto} {x y t : T} {v u : V} (h : isBT S x y = some t) (r : Rel K H μ x v) (r' : Rel K H μ y u) :
    ∃ b k, u = .bl b ∧ t = .bl k ∧ ((k = true ∧ v = .bl b) ∨ (k = false ∧ v ≠ .bl b)) ∧ ∀ z, RelV v z → plainIs z (.bool b) = true := by
  cases y with
  | bl b =>
    simp only [Rel] at r'
    subst r'
    cases x with
    | bl a =>
      simp only [isBT, Option.some.injEq] at h
      subst h
      simp only [Rel] at r
      subst r
      refine ⟨b, _, rfl, rfl, ?_, fun z hz => by cases hz; rfl⟩
      by_cases e : a = b
      · subst e; exact .inl ⟨by simp, rfl⟩
      · exact .inr ⟨by simp [e], fun z => e (V.bl.inj z)⟩
    | val _ => cases h
    | non =>
      cases h
      simp only [Rel] at r
      subst r
      exact ⟨b, _, rfl, rfl, .inr ⟨rfl, fun z => nomatch z⟩, fun z hz => by cases hz; rfl⟩
    | int i =>
      cases h
      simp only [Rel] at r
      subst r
      exact ⟨b, _, rfl, rfl, .inr ⟨rfl, fun z => nomatch z⟩, fun z hz => by obtain ⟨_, rfl⟩ := hz; rfl⟩
    | str i =>
      cases h
      simp only [Rel] at r
      subst r
      exact ⟨b, _, rfl, rfl, .inr ⟨rfl, fun z => nomatch z⟩, fun z hz => by obtain ⟨_, rfl⟩ := hz; rfl⟩
    | tup ts =>
      cases h
      simp only [Rel] at r
      obtain ⟨a, _, rfl, _⟩ := r
      exact ⟨b, _, rfl, rfl, .inr ⟨rfl, fun z => nomatch z⟩, fun z hz => by cases hz; rfl⟩
    | lst ts =>
      cases h
      simp only [Rel] at r
      obtain ⟨a, _, rfl, _⟩ := r
      exact ⟨b, _, rfl, rfl, .inr ⟨rfl, fun z => nomatch z⟩, fun z hz => by cases hz; rfl⟩
    | sls ts =>
      cases h
      simp only [Rel] at r
      obtain ⟨a, _, rfl, _⟩ := r
      exact ⟨b, _, rfl, rfl, .inr ⟨rfl, fun z => nomatch z⟩, fun z hz => by cases hz; rfl⟩
    | dct ks ts =>
      cases h
      simp only [Rel] at r
      obtain ⟨a, _, rfl, _⟩ := r
      exact ⟨b, _, rfl, rfl, .inr ⟨rfl, fun z => nomatch z⟩, fun z hz => by cases hz; rfl⟩
    | ref n =>
      cases h
      simp only [Rel] at r
      obtain ⟨a, _, rfl⟩ := r
      exact ⟨b, _, rfl, rfl, .inr ⟨rfl, fun z => nomatch z⟩, fun z hz => by cases hz; rfl⟩
  | _ => cases x <;> cases h
theorem val_bl {v : V} {u : Value} {b : Bool} (h : v ≠ .bl b) (r : RelV v u) : u ≠ .bool b := fun z => by
  subst z
  cases v <;> first
    | (cases r; exact h rfl)
    | (obtain ⟨_, r⟩ := r; cases r)
    | (cases r)
    | (exact r.elim)
section
variable {X : Cx}
theorem o_isB : OpR X (compareOp .Is) (rP X.K isBT) := by
  intro pins s σ H x y v u Q I rx ry q
  obtain ⟨μ, S, tx, ty, t, st, r1, r2, e, q⟩ := q
  obtain ⟨b, k, rfl, rfl, z, hp⟩ := isBT_ok e r1 r2
  cases (show u = Value.bool b from ry)
  rcases z with ⟨rfl, rfl⟩ | ⟨rfl, hn⟩
  · cases (show v = Value.bool b from rx)
    exact wpAny_is_self rfl ⟨.bl true, H, I, rfl, q _ H (Same.refl _) rel_bl⟩
  · exact PySem.wpAny_is_other (hp v rx) (val_bl hn rx) ⟨.bl false, H, I, rfl, q _ H (Same.refl _) rel_bl⟩
theorem o_isnotB : OpR X (compareOp .IsNot) (rP X.K notBT) := by
  intro pins s σ H x y v u Q I rx ry q
  obtain ⟨μ, S, tx, ty, t, st, r1, r2, e, q⟩ := q
  unfold notBT at e
  split at e
  · rename_i k0 e1
    cases e
    obtain ⟨b, k, rfl, hk, z, hp⟩ := isBT_ok e1 r1 r2
    cases hk
    cases (show u = Value.bool b from ry)
    rcases z with ⟨rfl, rfl⟩ | ⟨rfl, hn⟩
    · cases (show v = Value.bool b from rx)
      exact wpAny_isNot_self rfl ⟨.bl false, H, I, rfl, q _ H (Same.refl _) rel_bl⟩
    · exact wpAny_isNot_other (hp v rx) (val_bl hn rx) ⟨.bl true, H, I, rfl, q _ H (Same.refl _) rel_bl⟩
  · cases e
end
/-! ### going over a cell, in proofs -/
theorem lcC_filter {n : Nat} {c : T} {g : GT} {Ft : FT} {Fe : FE} {vs : List Nat} {τ : Fr} {p : T → Bool} {r : T → T} {S : Sto} (hS : S[n]? = some c) : ∀ {xs : List T},
    (∀ x ∈ xs, ∃ l, g x = some l ∧ slotsIn l vs = true ∧ Ft (setsT τ l) S = .ok (p x) S ∧ (p x = true → Fe (setsT τ l) S = .ok (r x) S)) → lcC n c g Ft Fe vs τ xs S = .ok ((xs.filter p).map r) S
  | [], _ => by unfold lcC; rw [if_pos hS]; rfl
  | x :: xs, h => by
    obtain ⟨l, h1, h2, h3, h4⟩ := h x List.mem_cons_self
    have ih := lcC_filter hS fun y hy => h y (List.mem_cons_of_mem _ hy)
    unfold lcC
    rw [if_pos hS]
    cases e : p x with
    | true => simp only [h1, h2, h3, e, h4 e, ih, if_true, bind_ok, nox_ok, List.filter_cons_of_pos, List.map_cons]
    | false =>
      rw [List.filter_cons_of_neg (by simp [e])]
      simp only [h1, h2, h3, e, ih, if_true, bind_ok, nox_ok]
theorem lcC_map {n : Nat} {c : T} {g : GT} {Ft : FT} {Fe : FE} {vs : List Nat} {τ : Fr} {r : T → T} {S : Sto} (hS : S[n]? = some c) {xs : List T}
    (h : ∀ x ∈ xs, ∃ l, g x = some l ∧ slotsIn l vs = true ∧ Ft (setsT τ l) S = .ok true S ∧ Fe (setsT τ l) S = .ok (r x) S) : lcC n c g Ft Fe vs τ xs S = .ok (xs.map r) S := by
  rw [lcC_filter (p := fun _ => true) (r := r) hS fun x hx => (h x hx).imp fun l z => ⟨z.1, z.2.1, z.2.2.1, fun _ => z.2.2.2⟩]
  rw [List.filter_eq_self.mpr fun _ _ => rfl]
theorem forC_go {n : Nat} {c : T} {g : GT} {B : BS} (I : Nat → Fr → Sto → Prop) (hI : ∀ k τ S, I k τ S → S[n]? = some c) : ∀ {xs : List T} {m : Nat} {τ : Fr} {S : Sto}, I m τ S →
    (∀ i x τ S, xs[i]? = some x → I (m + i) τ S → ∃ l, g x = some l ∧ Goes (B (setsT τ l) S) (I (m + i + 1))) → ∃ τ2 S2, forC n c g B xs τ S = .nx τ2 S2 ∧ I (m + xs.length) τ2 S2
  | [], m, τ, S, h0, _ => ⟨τ, S, by unfold forC; rw [if_pos (hI m τ S h0)], h0⟩
  | x :: xs, m, τ, S, h0, h => by
    obtain ⟨l, h1, h2⟩ := h 0 x τ S rfl h0
    have rest : ∀ τ2 S2, I (m + 0 + 1) τ2 S2 → ∃ τ3 S3, forC n c g B xs τ2 S2 = .nx τ3 S3 ∧ I (m + (xs.length + 1)) τ3 S3 := fun τ2 S2 z => by
      obtain ⟨τ3, S3, e, q⟩ := forC_go I hI (xs := xs) (m := m + 1) (g := g) (B := B) z fun i y τ S hy hz => by
        have q := h (i + 1) y τ S (by simpa using hy) (by rw [show m + (i + 1) = m + 1 + i by omega]; exact hz)
        rw [show m + (i + 1) + 1 = m + 1 + i + 1 by omega] at q
        exact q
      exact ⟨τ3, S3, e, by rw [show m + (xs.length + 1) = m + 1 + xs.length by omega]; exact q⟩
    unfold forC
    rw [if_pos (hI m τ S h0)]
    simp only [h1]
    unfold Goes at h2
    split at h2
    · rename_i τ2 S2 e
      simp only [e]
      exact rest τ2 S2 h2
    · rename_i τ2 S2 e
      simp only [e]
      exact rest τ2 S2 h2
    · exact h2.elim
/-! ### x += n -/
def bAug (i : Nat) (F : FE) : BS := fun τ S => match τ[i]? with
  | some (some (.int a)) => (F τ S).bindS τ fun y S1 => match y with
    | .int b => .nx (τ.set i (some (.int (a + b)))) S1
    | _ => .stuck
  | _ => .stuck
section
variable {X : Cx} {wx : WT} {pos : Pos} {e : Expr} {F : FE}
theorem pfs_aug {i : Nat} {x : Str} {pos' : Pos} (hN : X.N.Nodup) (he : PF X wx e F) (hi : X.N[i]? = some x := by rfl) (hx : Loc X.env.scope x := by first | exact Or.inl rfl | exact Or.inr rfl) (hf : X.fn x = true ∨ X.env.scope.names.lookup x = some .local := by first | exact .inl rfl | exact .inr rfl | assumption) :
    PFS X wx (.AugAssign (.Name x pos') .Add e pos) (bAug i F) := PS.imp (ps_aug hN hi hx he ip_add hf) fun D σ H h => by
  obtain ⟨μ, τ, S, s, f, h⟩ := h
  unfold bAug at h
  split at h
  · rename_i a ea
    obtain ⟨v, ev, rv⟩ := f.2 i _ ea
    simp only [Rel] at rv
    subst rv
    refine ⟨_, ev, tG.seqS s f h fun μ1 H1 t v S1 A1 h1 => ?_⟩
    split at h1
    · rename_i b
      have r := A1.rel
      simp only [Rel] at r
      subst r
      exact ⟨a, b, rfl, rfl, h1 μ1 _ H1 (Ext.refl _ _) A1.st (A1.fr.set (by simp only [Rel]))⟩
    · exact h1.elim
  · exact h.elim
end
end TL
set_option Elab.async false
set_option linter.all false
set_option maxRecDepth 100000
namespace TL
open PySem PySem.Spec L2
open PyProof.Rows hiding St
theorem gc_pure {F : FF} {ts : List T} {S : Sto} {t : T} (h : ∃ J, F ts S = .ok t (S ++ J)) (e : nr t = true) : gc F ts S = .ok t S := by
  obtain ⟨J, h⟩ := h
  exact gc_nr h e
theorem nrs_at {ts : List T} {t : T} (h : nrs ts = true) (m : t ∈ ts) : nr t = true := by
  induction ts with
  | nil => cases m
  | cons x r ih =>
    simp only [nrs, Bool.and_eq_true] at h
    rcases List.mem_cons.mp m with rfl | m
    · exact h.1
    · exact ih h.2 m
theorem lstC_ref {S : Sto} {n : Nat} {ts : List T} (h : S[n]? = some (.lst ts)) : lstC S (.ref n) = some (n, ts) := by
  unfold lstC
  simp only [h]
theorem lstC_end (S : Sto) (ts : List T) (J : Sto) : lstC (S ++ .lst ts :: J) (.ref S.length) = some (S.length, ts) := lstC_ref (sto_end S _ J)
theorem lstC_1 (S : Sto) (z : T) (ts : List T) (J : Sto) : lstC (S ++ z :: .lst ts :: J) (.ref (S.length + 1)) = some (S.length + 1, ts) := lstC_ref (sto_1 S z _ J)
theorem is_bl (a b : Bool) (S : Sto) : isBT S (.bl a) (.bl b) = some (.bl (decide (a = b))) := rfl
theorem isnot_bl (a b : Bool) (S : Sto) : notBT S (.bl a) (.bl b) = some (.bl (!decide (a = b))) := rfl
theorem len_tup0 (S : Sto) (n : Nat) (ts : List T) (h : S[n]? = some (.lst ts)) : lenT S [.ref n] = some (.int ts.length) := len_ref h
end TL
section
open PySem PySem.Spec L2 TL
open PyProof.Rows hiding St
local macro_rules
  | `(tactic| simp_arith $[$loc:location]?) => `(tactic| simp_arith [TL.bind_ok] $[$loc:location]?)
  | `(tactic| simp_arith [$ls,*] $[$loc:location]?) => `(tactic| simp -implicitDefEqProofs only [TL.body, TL.startT, TL.RS.fin, TL.bSeq, TL.bSet, TL.bAsg, TL.bRet, TL.bRetN, TL.bExpr, TL.bIf, TL.bNext, TL.bFor, TL.bPar, TL.bPar3, TL.fVar, TL.fC, TL.fBin, TL.fUn, TL.fTest, TL.fChain, TL.fTru, TL.fNotT, TL.fAndT, TL.fOrT, TL.fAnd, TL.fOr, TL.fNot, TL.fIf, TL.fNil, TL.fCons, TL.fTup, TL.fLst, TL.fCall, TL.fBlt, TL.fPure, TL.fCell, TL.fLstN, TL.fLc, TL.fDc, TL.fYes, TL.fSl, TL.foS, TL.foN, TL.fItems, TL.fiA, TL.fiL, TL.fiT, TL.fiS, TL.fiR1, TL.fiR2, TL.fiE, TL.fiEA, TL.fiEL, TL.fiEC, TL.fiAC, TL.fiZ, fLcC, bForC, TL.fApp,
      TL.bind_ok, TL.bindS_ok, TL.nox_ok, TL.ofO_some, TL.isCell, TL.truT_bl, TL.truT_tup, TL.isi_str, TL.isi_tup, TL.isi_dct, TL.len_tup, TL.len_lst, TL.len_sls, TL.len_dct, TL.eq_int, TL.ne_int, TL.in_tup, TL.in_lst, TL.sto_end, TL.sto_set, TL.sto_1, TL.sto_set1, TL.lstAt_end, TL.lstAt_1, TL.in_end, TL.in_1, TL.nin_end, TL.nin_1, TL.len_end, TL.len_1, TL.lstC_end, TL.lstC_1, TL.is_bl, TL.isnot_bl, TL.bWhile, TL.bAug,  TL.tup_end, TL.tup_1, TL.gt_int, TL.lt_int, TL.ix_0, TL.ix_1, TL.ix_2, TL.tup_lst, TL.tup_tup, TL.wipeT, TL.setsT, TL.sName, TL.sTup, TL.sCons, TL.sNil, TL.slotsIn, List.map_cons, List.map_nil, List.length_cons, List.length_nil, List.cons_append, List.nil_append, List.getElem?_cons_zero, List.getElem?_cons_succ, List.set_cons_zero, List.set_cons_succ, List.foldl_cons, List.foldl_nil, List.reduceReplicate,
      Nat.reduceAdd, Nat.reduceSub, Nat.reduceLeDiff, Nat.reduceEqDiff, Nat.zero_add, Nat.zero_le, if_true, if_false, Option.map_some, Option.bind_some, Bool.not_true, Bool.not_false, decide_true, decide_false, decide_not, reduceCtorEq, Int.reduceNeg, Int.cast_ofNat_Int, Int.reduceEq, Int.reduceLT, Int.reduceLE, gt_iff_lt, Bool.and_true, Bool.true_and, Bool.false_and, Bool.or_false, Bool.false_or, Bool.false_eq_true, $ls,*] $[$loc]?)
set_option Elab.async false
set_option linter.all false
set_option maxRecDepth 100000
set_option maxHeartbeats 2000000
namespace TL
open PySem PySem.Spec L2
open PyProof.Rows hiding St
open PySem.Froz (SD sObj TxOk addTx tailTx)
/-! sets of texts: made by a comprehension, measured, sorted -/
def tOf (e : Int × Value) : Str := match e.2 with
  | .str k _ => k
  | _ => ⟨#[]⟩
def GdT (w : World) (e : Int × Value) : Prop := ∃ k u, e = (hashStr w k, Value.str k u)
structure TxR (P : Program) (w : World) (D : SD) (l : List Str) : Prop where
  ok : TxOk P w D l
  gd : ∀ e ∈ D.1.toList, GdT w e
  pm : (D.1.toList.map tOf).Perm l
  nd : l.Nodup
  sz : l.length < scanBound
  ris : Ris D.2.2.place.toList
  led : w.params.followText "set-order" = true ∨ D.2.2.led = true
def addS (l : List Str) (k : Str) : List Str := if k ∈ l then l else k :: l
section
variable {P : Program} {w : World} {A : Around} {E : Value → Shared → Prop} {s : Shared}
theorem tx_tail {ep : Nat} {es : Array (Int × Value)} {t : SetTable} {b : Bool} {l : List Str} (F : TxR P w (es, ep, t) l) : TxR P w (tailTx ep es t b) l := by
  refine ⟨Froz.tail_ok F.ok, ?_, ?_, F.nd, F.sz, ?_, ?_⟩
  all_goals (unfold tailTx; split)
  · exact fun e he => F.gd e ((relayAll_perm t es _).mem_iff.mp he)
  · exact F.gd
  · exact ((relayAll_perm t es _).map tOf).trans F.pm
  · exact F.pm
  · exact relayAll_ris t es _
  · exact F.ris
  · exact F.led.imp id fun z => (relayAll_led t es _).trans z
  · exact F.led
theorem tx_add {D : SD} {l : List Str} {k : Str} (u : Tok) (F : TxR P w D l) (hk : k ∉ l) (room : l.length + 1 < scanBound) : TxR P w (addTx (hashStr w k) (.str k u) D) (k :: l) := by
  obtain ⟨es, ep, t⟩ := D
  have hp := layNew_perm t es (hashStr w k) (.str k u)
  have hr := layNew_ris t es (hashStr w k) (.str k u) F.ris
  have hl := layNew_led t es (hashStr w k) (.str k u)
  have hf := layNew_fits t es (hashStr w k) (.str k u)
  have h0 := F.ok.push hp hf (ep' := ep)
  rw [Array.toList_push] at hp
  unfold addTx
  refine tx_tail ⟨?_, ?_, ?_, List.nodup_cons.mpr ⟨hk, F.nd⟩, by rw [List.length_cons]; exact room, ?_, ?_⟩
  · dsimp only
    split
    · exact ⟨h0.el, h0.mem, h0.sz, SetTable.fits_plain_off hf⟩
    · exact ⟨h0.el, h0.mem, h0.sz, hf⟩
  · intro e he
    rcases List.mem_append.mp (hp.mem_iff.mp he) with z | z
    · exact F.gd e z
    · exact ⟨k, u, List.mem_singleton.mp z⟩
  · refine (hp.map tOf).trans ?_
    rw [List.map_append]
    exact (List.perm_append_singleton _ _).trans (List.Perm.cons _ F.pm)
  · dsimp only
    split <;> exact hr
  · refine F.led.imp id fun z => ?_
    dsimp only
    split <;> exact hl.trans z
theorem tx_hashed {a : Addr} {D : SD} {l : List Str} {k : Str} {u : Tok} {Q : Bool → Shared → Prop} (ho : s.heap.get? a = some (sObj "set" D)) (F : TxR P w D l) (room : l.length + 1 < scanBound)
    (hQ : ∀ b h' D', Heap.SameBut a s.heap h' → h'.get? a = some (sObj "set" D') → TxR P w D' (addS l k) → Q b { s with heap := h' }) : wpAny (model P w) A (setAddHashed a (.str k u) (hashStr w k)) Q E s := by
  by_cases hk : k ∈ l
  · obtain ⟨es, ep, t⟩ := D
    have hd : (sObj "set" (es, ep, t)).data = .set es ep t := rfl
    have hsz : es.size = l.length := F.ok.sz
    have hb0 : es.size < scanBound := by omega
    have F1 := hQ false s.heap (es, ep, t) (Heap.SameBut.refl a s.heap) ho (by unfold addS; rw [if_pos hk]; exact F)
    unfold setAddHashed setAddHashedIn
    refine wpAny_holding (wpAny_bind (wpAny_setState_of ho hd F.ok.fit ?_))
    dsimp only
    rw [byScan_of rfl hb0 F.ok.el, if_pos rfl]
    unfold setAddByScan
    refine wpAny_bind (wpAny_bind (wpAny_rule (wpAny_bind (wpAny_setScan_of (knd := strKind P w) (k := k) (Froz.is_str k u) ho hd F.ok.fit F.ok.el ?_))))
    cases hr : List.findIdx? (fun e => (strKind P w).is k e.2) es.toList with
    | none =>
      obtain ⟨e, he, q⟩ := (F.ok.mem k).mp hk
      exact absurd q (by rw [List.findIdx?_eq_none_iff.mp hr e he]; exact Bool.false_ne_true)
    | some j =>
      dsimp only
      exact wpAny_pure (wpAny_pure F1)
  · refine Froz.add_x ho F.ok hk room ?_
    refine hQ true _ _ (Heap.SameBut.update s.heap a _) (Froz.get_upd _ ho rfl) ?_
    unfold addS
    rw [if_neg hk]
    exact tx_add u F hk room
def TxO (P : Program) (w : World) (a : Addr) (l : List Str) : HO := .ext fun h => ∃ D, h.get? a = some (sObj "set" D) ∧ TxR P w D l
theorem txO_new {H : Hp} {h : Heap} {a : Addr} {l : List Str} {D : SD} (ho : h.get? a = some (sObj "set" D)) (F : TxR P w D l) : ObjOk P w H h a (TxO P w a l) :=
  ⟨⟨D, ho, F⟩, ⟨_, ho⟩, fun _ _ p k => let ⟨D, q, F⟩ := p; ⟨D, k _ q, F⟩⟩
theorem tx_fresh {t : SetTable} (hf : t.fits 0 = true) (hr : Ris t.place.toList) (hl : w.params.followText "set-order" = true ∨ t.led = true) {ep : Nat} : TxR P w (#[], ep, t) [] :=
  ⟨TxOk.nil hf, fun e he => by simp at he, by simp, List.nodup_nil, by decide, hr, hl⟩
end
section
variable {X : Cx}
theorem txO_get {pins : List (Addr × Obj)} {σ : L2.St} {H : Hp} {s : Shared} {a : Addr} {l : List Str} (I : L2.Inv X pins σ H s) (ha : H a = some (TxO X.prog X.w a l)) : ∃ D, s.heap.get? a = some (sObj "set" D) ∧ TxR X.prog X.w D l := (I.hok a _ ha).1
theorem tx_add_ok {pins : List (Addr × Obj)} {σ : L2.St} {H : Hp} {s : Shared} {E : Value → Shared → Prop} {D : Addr} {l : List Str} {k : Str} {u : Tok} {Q : Value → Shared → Prop} (I : L2.Inv X pins σ H s) (hD : H D = some (TxO X.prog X.w D l)) (room : l.length + 1 < scanBound)
    (h : ∀ s', L2.Inv X pins σ (upd H D (TxO X.prog X.w D (addS l k))) s' → Q .none s') : wpAny (model X.prog X.w) X.A (call (.builtin "set.add") [.ref D, .str k u]) Q E s := by
  obtain ⟨D0, ho, F⟩ := txO_get I hD
  refine wpAny_call_entry PySem.F.slot_set_add ⟨_, ho, rfl⟩ PySem.F.entry_set_add ?_ (PySem.F.args_set_add_2 _ _)
  unfold Builtin.«set.add» Builtin.Frozenset.oneOther
  simp only [List.isEmpty_nil, bind_assoc]
  unfold Builtin.Frozenset.addrOf setAdd
  refine wpAny_bind (wpAny_pure (wpAny_bind (wpAny_pure (wpAny_bind (wpAny_holding (wpAny_bind ((strKind X.prog X.w).pyHash (Froz.is_str k u) ?_)))))))
  refine tx_hashed (s := { s with toks := s.toks + 1 }) ho F room fun b h' D' sb ho' F' => ?_
  show wpAny _ _ (ret Value.none) _ _ _
  exact wpAny_pure ⟨_, rfl, h _ (I.write (e := D) (t' := s.toks + 1) (by rw [hD]; trivial) (.inl rfl) (fun b u hb hu => (sb.2 b hb).trans hu) ⟨_, ho'⟩ (txO_new ho' F'))⟩
end
end TL
set_option Elab.async false
set_option linter.all false
set_option maxRecDepth 100000
set_option maxHeartbeats 2000000
namespace TL
open PySem PySem.Spec L2
open PyProof.Rows hiding St
open PySem.Froz (SD sObj TxOk addTx tailTx)
/-! the comprehension of a set of texts -/
def tSt (P : Program) (w : World) (wi : TI) (g : TG) (tt : TT) (te : TE) (vs : List Nat) : TE := fun σ H Q => wi σ H fun J H1 => ∀ D, H1 D = none →
  ∃ Z : Nat → Nat → Hp → Prop, (∃ m, Z 0 m (upd H1 D (TxO P w D []))) ∧ ∀ i m H2, Z i m H2 → (J.stop i H2 ∧ Q (.ref D) H2) ∨ (J.go i H2 ∧
    ∃ N : Hp → Prop, (∀ H3, N H3 → ∃ k, k < m ∧ Z (i + 1) k H3) ∧ ∀ x H3, J.yld i H2 x H3 → g x (wipe σ vs) H3 fun σ4 H4 => wipe σ4 vs = wipe σ vs ∧ tt σ4 H4 fun b H5 =>
      if b = true then te σ4 H5 fun y H6 => ∃ k l, y = .str k ∧ H6 D = some (TxO P w D l) ∧ l.length + 1 < scanBound ∧ N (upd H6 D (TxO P w D (addS l k))) else N H5)
abbrev Blk (X : Cx) (sc : Scope) (s : Shared) (H : Hp) (C : Addr) (cl : List (Str × Addr)) (fp : List Addr) : Cx := X.blk s H sc (compEnvC sc cl C X.env) fp
section
variable {X : Cx}
theorem pe_st {elt tg iter : Expr} {ifs : List Expr} {sc : Scope} {own : List (Str × Nat)} {pos : Pos} {wi : TI} {g : TG} {tt : TT} {te : TE} (hc : X.calm = true) (hN : X.N.Nodup) (hi : PI X tg iter wi) (ok : BlkOk X.N X.env.scope sc own)
    (hg : ∀ s H C cl fp, PG (Blk X sc s H C cl fp) tg g) (ht : ∀ s H C cl fp, PTs (Blk X sc s H C cl fp) ifs tt) (he : ∀ s H C cl fp, PE (Blk X sc s H C cl fp) elt te) (hs : ∀ x, foldedSetIterable iter X.env x = pure x := by intro _; rfl) :
    PE X (.SetComp elt [⟨tg, iter, ifs, 0⟩] sc pos) (tSt X.prog X.w wi g tt te (own.map (·.2))) := by
  refine ⟨fun pins s σ H Q I h => ?_⟩
  rw [PpSet.eval_SetComp]
  have caught : ∀ y ∈ sc.names, y.2 = .free → ∃ c, X.env.cells.lookup y.1 = some c := fun y hy e => I.ok.has _ (ok.free y hy e)
  refine wpAny_comprehension_free rfl hs (closure_ok caught) ok.kind (fun y hy e => by rw [ok.uniq y hy, e]) (thn (hi.run pins s σ H _ I h) fun xv s1 hx => thn hx fun itv s2 hit => ?_)
  obtain ⟨it, fp, tn, J, Ha, rfl, Ia, T, sta, fa, q⟩ := hit
  refine PpSet.newSet_ok (newEnv_comp ?_)
  generalize eD : s2.heap.objs.size = D
  have nD : Ha D = none := Ia.hok.fresh (Nat.le_of_eq eD)
  obtain ⟨Z, ⟨m0, z0⟩, turn⟩ := q D nD
  -- the set, empty
  generalize eb : ({ s2 with heap := s2.heap.push { cls := .type "set", dict := none, data := .set #[] 0 (.fresh 0 0 (!X.w.params.followText "set-order")) } } : Shared) = sb
  have pb : sb.heap = s2.heap.push { cls := .type "set", dict := none, data := .set #[] 0 (.fresh 0 0 (!X.w.params.followText "set-order")) } := by rw [← eb]
  have stays : ∀ {b : Addr} {o : Obj}, s2.heap.get? b = some o → sb.heap.get? b = some o := fun e => by rw [pb]; exact Heap.get?_push_of_some _ e
  have Ib : L2.Inv X pins σ (upd Ha D (TxO X.prog X.w D [])) sb := by
    rw [← eb]
    refine Ia.laid (t' := s2.toks) (fun b o e => Heap.get?_push_of_some _ e) (Nat.le_of_eq eD) ?_
    rw [← eD]
    refine txO_new (D := (#[], 0, .fresh 0 0 (!X.w.params.followText "set-order"))) (Heap.get?_push_size _ rfl) (tx_fresh (by rfl) (by exact List.Pairwise.nil) ?_)
    show _ ∨ (!X.w.params.followText "set-order") = true
    cases X.w.params.followText "set-order" <;> simp
  have room : ∀ b ∈ fp, b < s2.heap.objs.size := fun b hb => let ⟨_, e, _⟩ := T.obj _ _ sta b hb; Heap.lt_size e
  have fb : ∀ b ∈ fp, FpOk X pins (upd Ha D (TxO X.prog X.w D [])) b ∧ b < sb.heap.objs.size := fun b hb =>
    ⟨⟨by rw [upd_ne (by rw [← eD]; exact Nat.ne_of_lt (room b hb))]; exact (fa b hb).1, (fa b hb).2⟩, by rw [pb, Heap.size_push]; exact Nat.lt_succ_of_lt (room b hb)⟩
  have stb : tn 0 sb.heap := T.keep _ _ _ sta fun b _ o e => stays e
  have Ic := block_start Ib ok hN fb
  have pg := hg sb (upd Ha D (TxO X.prog X.w D [])) sb.heap.objs.size (cellsFrom (sb.heap.objs.size + 1) sc.names (cloFrom X.env.cells sc.names [])) fp
  have pt := ht sb (upd Ha D (TxO X.prog X.w D [])) sb.heap.objs.size (cellsFrom (sb.heap.objs.size + 1) sc.names (cloFrom X.env.cells sc.names [])) fp
  have pe := he sb (upd Ha D (TxO X.prog X.w D [])) sb.heap.objs.size (cellsFrom (sb.heap.objs.size + 1) sc.names (cloFrom X.env.cells sc.names [])) fp
  unfold Blk at pg pt pe
  show codeAny _ _ (.compStart (.SetComp elt [⟨tg, iter, ifs, 0⟩] sc pos) 0 (.ref it) (.ref D) (compEnvC sc (cellsFrom (sb.heap.objs.size + 1) sc.names (cloFrom X.env.cells sc.names [])) sb.heap.objs.size X.env)) _ { sb with heap := pushCells (sb.heap.push { cls := .type "dict", data := .dict #[] }) sc.names }
  have nb : ∀ b ∈ fp, (upd Ha D (TxO X.prog X.w D [])) b = none := fun b hb => (fb b hb).1.1
  generalize ece : compEnvC sc (cellsFrom (sb.heap.objs.size + 1) sc.names (cloFrom X.env.cells sc.names [])) sb.heap.objs.size X.env = ce at Ic pg pt pe ⊢
  have lce : ce.locals = sb.heap.objs.size := by subst ece; rfl
  generalize eHb : upd Ha D (TxO X.prog X.w D []) = Hb at Ib Ic pg pt pe z0 nb fb
  generalize ec : ({ sb with heap := pushCells (sb.heap.push { cls := .type "dict", data := .dict #[] }) sc.names } : Shared) = sc0 at Ic ⊢
  have stc : tn 0 sc0.heap := T.keep _ _ _ stb fun b _ o e => by rw [← ec]; exact pushCells_keeps _ _ _ _ (Heap.get?_push_of_some _ e)
  have foot : ∀ {σ' : L2.St} {H' : Hp} {s' : Shared}, L2.Inv (X.blk sb Hb sc ce fp) [] σ' H' s' → (∀ b ∈ fp, H' b = none) → ∀ b ∈ fp, FpOk (X.blk sb Hb sc ce fp) [] H' b := fun {σ' H' s'} K hn b hb =>
    ⟨hn b hb, (K.ok.exf b hb).1, K.ok.exfs b hb, .inl hb, fun x c e => (K.ok.exf b hb).2 x c e, fun p hp => absurd (show p ∈ ([] : List (Addr × Obj)) ++ [] from hp) (by simp)⟩
  refine PpSet.codeAny_compStart_set ?_ (T.self X.A 0 _ _ _ stc ?_)
  all_goals
    refine PpSet.compLoopS_any (fun n s' => ∃ i H', L2.Inv (X.blk sb Hb sc ce fp) [] (wipe σ (own.map (·.2))) H' s' ∧ tn i s'.heap ∧ (∀ b ∈ fp, H' b = none) ∧ Z i n H') ?_ m0 ⟨0, Hb, Ic, stc, nb, z0⟩
    rintro n s5 ⟨i, H5, I5, st5, n5, z5⟩
    rcases turn i n H5 z5 with ⟨stop, qq⟩ | ⟨go, N, hN', step⟩
    · refine thnF (T.done (X.blk sb Hb sc ce fp) rfl rfl rfl hc i [] s5 _ H5 (fun _ _ => False) I5 (foot I5 n5) st5 stop) fun r s6 hr => ?_
      obtain ⟨rfl, I6⟩ := hr
      -- out of the block
      have I7 : L2.Inv X pins σ H5 s6 := Ib.call' (ch := fp) I6.os I6.base I6.hok I6.bare fun b hb => ⟨(fb b hb).1.2.2.2.1, (fb b hb).1.2.1, (fb b hb).1.2.2.2.2.1, (fb b hb).1.2.2.2.2.2⟩
      have nC : H5 sb.heap.objs.size = none := lce ▸ (show H5 ce.locals = none from I6.free)
      obtain ⟨m, hn, _⟩ := I6.loc
      have hn : s6.heap.Ns sb.heap.objs.size m := lce ▸ (show s6.heap.Ns ce.locals m from hn)
      obtain ⟨f0, f1, f2, f3, f4, f5⟩ := Ib.fpOk (H' := H5) (Nat.le_refl _) nC
      exact ⟨m, hn, fun h'' k => ⟨.ref D, H5, I7.turned (t' := s6.toks) (fun b o hb e => (k.2 b hb).trans e) f0 f1 f3 f4 f5, rfl, qq⟩⟩
    · refine thnF (T.item (X.blk sb Hb sc ce fp) rfl rfl rfl hc i [] s5 _ H5 (fun _ _ => False) I5 (foot I5 n5) st5 go) fun r s6 hr => ?_
      obtain ⟨u, rfl, h6⟩ := hr
      refine thnF h6 fun _ s7 ⟨x, H7, I7, r7, y7, st7, n7⟩ => ?_
      refine thnF (pg.run _ s7 _ H7 x u _ (I7.pinned (foot I7 n7) (T.obj _ _ st7)) r7 (step x H7 y7)) fun _ s8 ⟨σ8, H8, I8, hw8, q8⟩ => ?_
      refine thnF (pt.run _ s8 σ8 H8 _ I8 q8) fun b s9 ⟨H9, I9, q9⟩ => ?_
      have fin : ∀ {s' : Shared} {H' : Hp}, L2.Inv (X.blk sb Hb sc ce fp) ([] ++ pinsAt fp s7.heap) σ8 H' s' → N H' → ∃ m, m < n ∧ ∃ i H', L2.Inv (X.blk sb Hb sc ce fp) [] (wipe σ (own.map (·.2))) H' s' ∧ tn i s'.heap ∧ (∀ b ∈ fp, H' b = none) ∧ Z i m H' := fun {s' H'} K nx => by
        obtain ⟨m', hm, z'⟩ := hN' H' nx
        have pin : ∀ b ∈ fp, ∀ o, s7.heap.get? b = some o → s'.heap.get? b = some o ∧ H' b = none := fun b hb o e => ((K.pin (b, o) (List.mem_append_right _ (List.mem_append_right _ (mem_pinsAt hb e))))).imp id (·.1)
        exact ⟨m', hm, i + 1, H', (K.unpinned (pins := [])).weak (by rw [← hw8, wipe_length]) (fun j v e => (wipe_some (hw8 ▸ e)).1), T.keep _ _ _ st7 fun b hb o e => (pin b hb o e).1,
          fun b hb => let ⟨o, e, _⟩ := T.obj _ _ st7 b hb; (pin b hb o e).2, z'⟩
      cases b with
      | false =>
        simp only [Bool.false_eq_true, if_false] at q9 ⊢
        exact fin I9 q9
      | true =>
        simp only [if_true] at q9 ⊢
        refine thnF (pe.run _ s9 σ8 H9 _ I9 q9) fun z s10 hz => ?_
        obtain ⟨yv, Hd, Id, rd, k, l, rfl, dD, rm, nx⟩ := hz
        obtain ⟨tk, rfl⟩ := rd
        exact tx_add_ok (X := X.blk sb Hb sc ce fp) Id dD rm fun s11 I11 => fin I11 nx
end
end TL
set_option Elab.async false
set_option linter.all false
set_option maxRecDepth 100000
set_option maxHeartbeats 2000000
namespace TL
open PySem PySem.Spec L2
open PyProof.Rows hiding St
open PySem.Froz (SD sObj TxOk)
/-! sets of texts in trees: the members, in some order -/
def postX (P : Program) (w : World) (K : PySem.W.Frag) (wx : XW) (μ : Mu) (H : Hp) (r : Res (List Str)) (Q : VK) : Prop := match r with
  | .ok l S' => ∀ μ' H' D, Ext H μ H' μ' → H D = none → RelS K H' μ' S' → H' D = some (TxO P w D l) → Q (.ref D) H'
  | .exc x S' => ∀ μ' H', Ext H μ H' μ' → RelS K H' μ' S' → wx x μ' S' H'
  | .stuck => False
abbrev FS := Fr → Sto → Res (List Str)
def tX (P : Program) (w : World) (K : PySem.W.Frag) (wx : WT) (F : FS) : TE := fun σ H Q => ∃ μ τ S, RelS K H μ S ∧ RelF K H μ τ σ ∧ postX P w K (wx.fr τ σ) μ H (F τ S) Q
def PFX (X : Cx) (wx : WT) (e : Expr) (F : FS) : Prop := PE X e (tX X.prog X.w X.K wx F)
def stF (g : GT) (Ft : FT) (Fe : FE) (vs : List Nat) (τ : Fr) : List T → List Str → Sto → Res (List Str)
  | [], l, S => .ok l S
  | x :: xs, l, S => match g x with
    | none => .stuck
    | some a => if slotsIn a vs then (Ft (setsT τ a) S).nox.bind fun k S1 => match k with
        | true => (Fe (setsT τ a) S1).nox.bind fun y S2 => match y with
          | .str u => stF g Ft Fe vs τ xs (addS l u) S2
          | _ => .stuck
        | false => stF g Ft Fe vs τ xs l S1
      else .stuck
def fSt (Fi : FI) (g : GT) (Ft : FT) (Fe : FE) (vs : List Nat) : FS := fun τ S => (Fi τ S).bind fun xs S1 => if xs.length + 1 < scanBound then stF g Ft Fe vs (wipeT τ vs) xs [] S1 else .stuck
theorem addS_len (l : List Str) (u : Str) : (addS l u).length ≤ l.length + 1 := by
  unfold addS
  split <;> simp
section
variable {X : Cx} {wx : WT} {pos : Pos}
theorem seqX {α β : Type} {P : Program} {w : World} {K : PySem.W.Frag} {wx : WT} {rel : RL α β} {F : Fr → Sto → Res α} {k : α → Sto → Res (List Str)} {μ : Mu} {H : Hp} {τ : Fr} {σ : L2.St} {S : Sto} {Q : VK} {R : β → Hp → Prop}
    (s : RelS K H μ S) (f : RelF K H μ τ σ) (h : postX P w K (wx.fr τ σ) μ H ((F τ S).bind k) Q) (hR : ∀ μ1 H1 t v S1, At K μ H τ σ rel μ1 H1 t v S1 → postX P w K (wx.fr τ σ) μ H (k t S1) Q → R v H1) : tG K wx rel F σ H R := by
  refine ⟨μ, τ, S, s, f, ?_⟩
  cases e : F τ S with
  | stuck => rw [e] at h; exact h.elim
  | exc x S1 => rw [e] at h; exact h
  | ok t S1 =>
    rw [e] at h
    exact fun μ1 v H1 x st r => hR μ1 H1 t v S1 ⟨x, st, f.mono x, r⟩ h
theorem st_imp {Fi : FI} {g : GT} {Ft : FT} {Fe : FE} {vs : List Nat} {σ : L2.St} {H : Hp} {Q : VK} (h : tX X.prog X.w X.K wx (fSt Fi g Ft Fe vs) σ H Q) : tSt X.prog X.w (wiT X.K wx Fi) (gT X.K g) (tG X.K wF rB Ft) (tG X.K wF (rV X.K) Fe) vs σ H Q := by
  obtain ⟨μ, τ, S, s, f, h⟩ := h
  refine seqX s f h fun μ1 H1 xs J S1 A1 h1 => ?_
  by_cases hl : xs.length + 1 < scanBound
  · rw [if_pos hl] at h1
    intro D hD
    have hD0 : H D = none := A1.ext.back hD
    refine ⟨fun i m H2 => ∃ M S2 l, Ext H1 μ1 H2 M ∧ D ∈ M.r ∧ RelS X.K H2 M S2 ∧ RelF X.K H2 M τ σ ∧ H2 D = some (TxO X.prog X.w D l) ∧ l.length ≤ i ∧ i ≤ xs.length ∧ m = xs.length - i ∧
        postX X.prog X.w X.K (wx.fr τ σ) μ H (stF g Ft Fe vs (wipeT τ vs) (xs.drop i) l S2) Q,
      ⟨xs.length, μ1.hide D, S1, [], Ext.hide hD, List.mem_cons_self, A1.st.hide hD, RelF.to (μ := μ1) (fun _ _ e => e) (hide_keep hD) A1.fr, upd_same, Nat.zero_le _, Nat.zero_le _, rfl, by simpa using h1⟩, fun i m H2 hW => ?_⟩
    obtain ⟨M, S2, l, E2, nr2, s2, f2, d2, hai, hix, rfl, h2⟩ := hW
    obtain ⟨go, stop⟩ := A1.rel M H2 E2
    by_cases hlt : i < xs.length
    · rw [drop_cons hlt] at h2
      obtain ⟨hgo, hy⟩ := go i xs[i] (List.getElem?_eq_getElem hlt)
      refine .inr ⟨hgo, fun H' => ∃ M S2 l, Ext H1 μ1 H' M ∧ D ∈ M.r ∧ RelS X.K H' M S2 ∧ RelF X.K H' M τ σ ∧ H' D = some (TxO X.prog X.w D l) ∧ l.length ≤ i + 1 ∧
        postX X.prog X.w X.K (wx.fr τ σ) μ H (stF g Ft Fe vs (wipeT τ vs) (xs.drop (i + 1)) l S2) Q, fun H' hN' => ?_, fun v H3 yl => ?_⟩
      · obtain ⟨M3, S3, l3, q1, q2, q3, q4, q5, q6, q8⟩ := hN'
        exact ⟨xs.length - (i + 1), by omega, M3, S3, l3, q1, q2, q3, q4, q5, q6, hlt, rfl, q8⟩
      · obtain ⟨sm, hr⟩ := hy v H3 yl
        have E3 : Ext H2 M H3 M := Ext.of_same sm
        have s3 := s2.same sm
        have f3 := f2.mono E3
        simp only [stF] at h2
        cases eg : g xs[i] with
        | none => simp only [eg] at h2; exact h2.elim
        | some a =>
          simp only [eg] at h2
          by_cases ha : slotsIn a vs = true
          · rw [if_pos ha] at h2
            refine ⟨M, xs[i], a, hr S2 s2, eg, fun l' fl => ⟨wipe_back (slotsIn_mem ha fl), ?_⟩⟩
            have fb : RelF X.K H3 M (setsT (wipeT τ vs) a) (setsV (wipe σ vs) l') := RelF.sets fl (relF_wipe f3 vs)
            cases et : Ft (setsT (wipeT τ vs) a) S2 with
            | stuck => rw [et] at h2; exact h2.elim
            | exc x S4 => rw [et] at h2; exact h2.elim
            | ok k S4 =>
              rw [et] at h2
              simp only [Res.nox, Res.bind] at h2
              refine tG.known s3 fb et fun M4 H4 b A4 => ?_
              have e : k = b := A4.rel
              subst e
              have E4 : Ext H2 M H4 M4 := E3.trans A4.ext
              cases k with
              | false =>
                simp only at h2
                exact iteF ⟨M4, S4, l, E2.trans E4, A4.ext.res.1 D nr2, A4.st, f2.mono E4, E4.keep D _ d2 (s2.dis D nr2), by omega, h2⟩
              | true =>
                simp only at h2
                refine iteT ?_
                cases ee : Fe (setsT (wipeT τ vs) a) S4 with
                | stuck => rw [ee] at h2; exact h2.elim
                | exc x S5 => rw [ee] at h2; exact h2.elim
                | ok y S5 =>
                  rw [ee] at h2
                  simp only at h2
                  refine tG.known A4.st A4.fr ee fun M5 H5 w A5 => ?_
                  have E5 : Ext H2 M H5 M5 := E4.trans A5.ext
                  have nr5 : D ∈ M5.r := A5.ext.res.1 D (A4.ext.res.1 D nr2)
                  have d5 := E5.keep D _ d2 (s2.dis D nr2)
                  have ry := A5.rel
                  cases y with
                  | str u =>
                    simp only at h2
                    have ew : w = V.str u := ry
                    have := addS_len l u
                    exact ⟨u, l, ew, d5, by omega, M5, S5, addS l u, (E2.trans E5).hid hD, nr5, A5.st.hid nr5, RelF.to (μ := M5) (fun _ _ e => e) (hid_keep nr5) (f2.mono E5), upd_same, by omega, h2⟩
                  | _ => exact h2.elim
          · rw [if_neg ha] at h2; exact h2.elim
    · have e : i = xs.length := by omega
      subst e
      rw [List.drop_length] at h2
      exact .inl ⟨stop _ (Nat.le_refl _), h2 M H2 D (A1.ext.trans E2) hD0 s2 d2⟩
  · rw [if_neg hl] at h1; exact h1.elim
theorem pfx_st {elt tg iter : Expr} {ifs : List Expr} {scope : Scope} {own : List (Str × Nat)} {Fi : FI} {g : GT} {Ft : FT} {Fe : FE} (hc : X.calm = true) (hN : X.N.Nodup) (hi : PFI X wx tg iter Fi) (ok : BlkOk X.N X.env.scope scope own)
    (hg : ∀ (s : Shared) (H : Hp) (C : Addr) (cl : List (Str × Addr)) (fp : List Addr), PFG (X.blk s H scope (compEnvC scope cl C X.env) fp) tg g) (ht : ∀ (s : Shared) (H : Hp) (C : Addr) (cl : List (Str × Addr)) (fp : List Addr), PFTs (X.blk s H scope (compEnvC scope cl C X.env) fp) wF ifs Ft)
    (he : ∀ (s : Shared) (H : Hp) (C : Addr) (cl : List (Str × Addr)) (fp : List Addr), PF (X.blk s H scope (compEnvC scope cl C X.env) fp) wF elt Fe) (hs : ∀ x, foldedSetIterable iter X.env x = pure x := by intro _; rfl) :
    PFX X wx (.SetComp elt [⟨tg, iter, ifs, 0⟩] scope pos) (fSt Fi g Ft Fe (own.map (·.2))) := PE.imp (pe_st (g := gT X.K g) (tt := tG X.K wF rB Ft) (te := tG X.K wF (rV X.K) Fe) hc hN hi ok hg ht he hs) fun _ _ _ h => st_imp h
/-! len -/
theorem cr_lenX : CallR X (.builtin "len") (fun xs H Q => ∃ a l, xs = [.ref a] ∧ H a = some (TxO X.prog X.w a l) ∧ Q (.int (l.length : Nat)) H) := by
  intro pins s σ H xs us Q I r q
  obtain ⟨a, l, rfl, ha, q⟩ := q
  obtain ⟨D, ho, F⟩ := txO_get I ha
  rw [Vals.ref1 r]
  have hs : D.1.size = l.length := F.ok.sz
  refine call_len_set ho ⟨rfl, rfl, rfl⟩ (rfl : (sObj "set" D).data = .set D.1 D.2.1 D.2.2) F.ok.fit ?_ ⟨.int (l.length : Nat), H, I.tok _, ⟨_, by rw [hs]⟩, q⟩
  have h1 := F.sz
  rw [hs]
  have h2 : scanBound < 2 ^ 62 := by decide
  omega
def fLenX (F : FS) : FE := fun τ S => (F τ S).bind fun l S1 => .ok (.int (l.length : Nat)) S1
def fSortX (F : FS) : FE := fun τ S => (F τ S).bind fun l S1 => if l.length < 64 then .ok (.lst ((sortS l).map T.str)) S1 else .stuck
theorem gds {w : World} : ∀ {vs : List Value}, (∀ v ∈ vs, ∃ k u, v = Value.str k u) → StrsAre vs (vs.map fun v => tOf (0, v))
  | [], _ => .nil
  | v :: vs, h => by
    obtain ⟨k, u, rfl⟩ := h v List.mem_cons_self
    exact .cons k u (gds (w := w) fun x hx => h x (List.mem_cons_of_mem _ hx))
theorem cr_sortX (hc : X.calm = true) : CallR X (.builtin "sorted") (fun xs H Q => ∃ a l, xs = [.ref a] ∧ H a = some (TxO X.prog X.w a l) ∧ l.length < 64 ∧ ∀ p, H p = none → Q (.ref p) (upd H p (.lst ((sortS l).map V.str)))) := by
  intro pins s σ H xs us Q I r q
  obtain ⟨a, l, rfl, ha, h64, q⟩ := q
  obtain ⟨D, ho, F⟩ := txO_get I ha
  rw [Vals.ref1 r]
  have hs : D.1.size = l.length := F.ok.sz
  have hb := F.sz
  refine Calls.call_function_entry kind_sorted plain_sorted entry_sorted (args_sorted1 _) ?_
  unfold Builtin.«sorted»
  refine wpAny_bind (m := checkCount "sorted" 1 1 _) (wpAny_pure (wpAny_bind (collect_set (A := X.A.in1) (I.ok.hd hc) ⟨_, ho, rfl, rfl⟩ F.ok.fit (by rw [hs]; exact hb) F.ris F.led fun s1 vs k1 hz g1 o1 pm => ?_)))
  have hvl : vs.length = l.length := by rw [pm.length_eq, List.length_map, Array.length_toList]; exact hs
  have hstr : ∀ v ∈ vs, ∃ k u, v = Value.str k u := fun v hv => by
    obtain ⟨e, he, rfl⟩ := List.mem_map.mp (pm.mem_iff.mp hv)
    obtain ⟨k, u, z⟩ := F.gd e he
    exact ⟨k, u, by rw [z]⟩
  have hS := gds (w := X.w) hstr
  have hp : (vs.map fun v => tOf (0, v)).Perm l := by
    refine ((pm.map fun v => tOf (0, v)).trans ?_).trans F.pm
    rw [List.map_map]
    exact List.Perm.of_eq (List.map_congr_left fun e _ => rfl)
  refine wpAny_bind (wpAny_newList ?_ (by rw [hvl, sizeLine_eq]; omega))
  have hoL : (s1.heap.push (seqObj "list" vs.toArray 0)).get? s1.heap.objs.size = some (seqObj "list" vs.toArray 0) := Heap.get?_push_size _ rfl
  refine wpAny_bind (wpAny_holding (wpAny_call_entry slot_list_sort ⟨_, hoL, rfl⟩ entry_list_sort (list_sort_treeK strKind_oneLt (s := { s1 with heap := s1.heap.push (seqObj "list" vs.toArray 0) }) hoL hS.keysOf
    (fun v₁ v₂ rest e => keyKind_strs (by rw [← e]; exact hS)) (by rw [hvl]; exact h64) fun st' hp' hss => ⟨_, rfl, ?_⟩) (args_list_sort _)))
  obtain ⟨ys, g2, g3, g4⟩ := sorted_out_str hS hp' hss
  obtain ⟨n', he⟩ := sortedHeap_at (vs := vs) (out := (arrOf st').map (·.2)) hoL
  have ey := sort_one (g3.trans hp) g4
  subst ey
  have hlen : ((sortS l).map V.str).length ≤ sizeLine := by
    rw [List.length_map, (sortS_perm l).length_eq, sizeLine_eq]; omega
  have kk : ∀ b u, s.heap.get? b = some u → (sortedHeap (s1.heap.push (seqObj "list" vs.toArray 0)) s1.heap.objs.size vs ((arrOf st').map (·.2))).get? b = some u := fun b u e => by
    have q1 := k1 b u e
    have hb : b < s1.heap.objs.size := Heap.lt_size q1
    rw [sortedHeap_old (Nat.ne_of_lt hb) (by rw [size_push']; exact Nat.lt_succ_of_lt hb)]
    exact Heap.get?_push_of_some _ q1
  have hn : H s1.heap.objs.size = none := I.hok.fresh hz
  have new : ObjOk X.prog X.w (upd H s1.heap.objs.size (.lst ((sortS l).map V.str))) (sortedHeap (s1.heap.push (seqObj "list" vs.toArray 0)) s1.heap.objs.size vs ((arrOf st').map (·.2))) s1.heap.objs.size (.lst ((sortS l).map V.str)) :=
    ⟨hlen, ((arrOf st').map (·.2)).toList, n', vals_of_strs g2, by rw [Array.toArray_toList]; exact he⟩
  refine wpAny_pure ⟨_, rfl, .ref s1.heap.objs.size, upd H s1.heap.objs.size (.lst ((sortS l).map V.str)), ?_, rfl, q _ hn⟩
  exact I.call' (ch := []) o1 (Un.laid kk hz hn) (I.hok.laid kk hz new) (by show AllBare s1.gens; rw [g1]; exact I.bare) (fun _ z => nomatch z)
theorem seqXE {P : Program} {w : World} {K : PySem.W.Frag} {wx : WT} {F : FS} {μ : Mu} {H : Hp} {τ : Fr} {σ : L2.St} {S : Sto} {Q : VK} {rel : RL (List Str) V} {k : List Str → Sto → Res T}
    (s : RelS K H μ S) (f : RelF K H μ τ σ) (h : post K (wx.fr τ σ) (rV K) μ H ((F τ S).bind k) Q) :
    tX P w K wx F σ H fun v H1 => ∃ μ1 S1 l D, v = .ref D ∧ Ext H μ H1 μ1 ∧ H D = none ∧ RelS K H1 μ1 S1 ∧ H1 D = some (TxO P w D l) ∧ post K (wx.fr τ σ) (rV K) μ H (k l S1) Q := by
  refine ⟨μ, τ, S, s, f, ?_⟩
  cases e : F τ S with
  | stuck => rw [e] at h; exact h.elim
  | exc x S1 => rw [e] at h; exact h
  | ok t S1 =>
    rw [e] at h
    exact fun μ1 H1 D x hd st r => ⟨μ1, S1, t, D, rfl, x, hd, st, r, h⟩
theorem pf_lenX {x : Str} {p : Pos} {e : Expr} {F : FS} (hm : X.mg x = none) (hv : bootBuiltins x = some (.builtin "len")) (ha : PFX X wx e F) (hg : Gl X x := by rfl) (hn : x ≠ "__name__" := by decide) (hdb : (x == ("__debug__" : Str)) = false := by decide)
    (he : starEach [e] X.env = (false, eval e X.env) :: starEach [] X.env := by rfl) (hpl : (backTo pos (starEach [] X.env)).any (·.1) = false := by rfl) : PF X wx (.Call (.Name x p) [e] [] pos) (fLenX F) :=
  PE.imp (pe_callB cr_lenX hg hm hv (pa_cons ha pa_nil he) hn hdb he hpl) fun σ H Q h => by
    obtain ⟨μ, τ, S, s, f, h⟩ := h
    obtain ⟨μ', τ', S', s', f', h'⟩ := seqXE (P := X.prog) (w := X.w) (rel := fun _ _ _ _ => True) s f h
    refine ⟨μ', τ', S', s', f', ?_⟩
    cases e0 : F τ' S' with
    | stuck => rw [e0] at h'; exact h'
    | exc x S1 => rw [e0] at h'; exact h'
    | ok t S1 =>
      rw [e0] at h'
      intro μ1 H1 D x hd st r
      obtain ⟨μ2, S2, l, D2, evq, x2, hd2, st2, r2, q⟩ := h' μ1 H1 D x hd st r
      cases evq
      exact ⟨D, l, rfl, r2, q μ2 _ H1 x2 st2 (by simp only [Rel])⟩
theorem pfn_sortX {x : Str} {p : Pos} {e : Expr} {F : FS} (hc : X.calm = true) (hm : X.mg x = none) (hv : bootBuiltins x = some (.builtin "sorted")) (ha : PFX X wx e F) (hg : Gl X x := by rfl) (hn : x ≠ "__name__" := by decide) (hdb : (x == ("__debug__" : Str)) = false := by decide)
    (he : starEach [e] X.env = (false, eval e X.env) :: starEach [] X.env := by rfl) (hpl : (backTo pos (starEach [] X.env)).any (·.1) = false := by rfl) : PFN X wx (.Call (.Name x p) [e] [] pos) (fSortX F) :=
  PE.imp (pe_callB (cr_sortX hc) hg hm hv (pa_cons ha pa_nil he) hn hdb he hpl) fun σ H Q h => by
    obtain ⟨μ, τ, S, s, f, h⟩ := h
    refine ⟨μ, τ, S, s, f, ?_⟩
    unfold fSortX at h
    cases e0 : F τ S with
    | stuck => rw [e0] at h; exact h.elim
    | exc x S1 => rw [e0] at h; exact h
    | ok t S1 =>
      rw [e0] at h
      simp only [Res.bind] at h
      intro μ1 H1 D x hd st r
      by_cases h64 : t.length < 64
      · rw [if_pos h64] at h
        refine ⟨D, t, rfl, r, h64, fun p hp => new_at x h st hp ⟨_, upd_same, ?_⟩⟩
        exact rels_new hp (strs_rels (sortS t))
      · rw [if_neg h64] at h; exact h.elim
end
end TL
set_option Elab.async false
set_option linter.all false
set_option maxRecDepth 100000
set_option maxHeartbeats 2000000
namespace TL
open PySem PySem.Spec L2
open PyProof.Rows hiding St
/-! ### sorted(rows) of tuples of texts -/
def ltS (a b : Str) : Bool := decide (a.cps.toList < b.cps.toList)
theorem ltS_no {a b : Str} : ltS a b = false ↔ leS b a = true := by
  rw [leS_iff]
  simp [ltS]
theorem ltS_asym {a b : Str} (h : ltS a b = true) : ltS b a = false := by
  simp only [ltS, decide_eq_true_eq, decide_eq_false_iff_not] at h ⊢
  exact fun z => List.lt_irrefl _ (List.lt_trans h z)
theorem ltS_irr (a : Str) : ltS a a = false := by
  simp only [ltS, decide_eq_false_iff_not]
  exact List.lt_irrefl _
/-- row a before row b -/
def lexS : List Str → List Str → Bool
  | [], ys => !ys.isEmpty
  | _ :: _, [] => false
  | x :: xs, y :: ys => if x = y then lexS xs ys else ltS x y
theorem lexS_asym : ∀ a b : List Str, lexS a b = true → lexS b a = false
  | [], [], h => rfl
  | [], _ :: _, _ => rfl
  | _ :: _, [], h => by cases h
  | x :: xs, y :: ys, h => by
    unfold lexS at h ⊢
    by_cases e : x = y
    · rw [if_pos e] at h
      rw [if_pos e.symm]
      exact lexS_asym xs ys h
    · rw [if_neg e] at h
      rw [if_neg (fun z => e z.symm)]
      exact ltS_asym h
theorem lexS_tr : ∀ a b c : List Str, lexS b a = false → lexS c b = false → lexS c a = false
  | [], _, [], _, _ => rfl
  | [], _, _ :: _, _, _ => rfl
  | _ :: _, [], [], h, _ => by cases h
  | _ :: _, _ :: _, [], _, h => by cases h
  | _ :: _, [], _ :: _, h, _ => by cases h
  | x :: xs, y :: ys, z :: zs, h, g => by
    unfold lexS at h g ⊢
    by_cases e1 : y = x
    · subst e1
      rw [if_pos rfl] at h
      by_cases e2 : z = y
      · rw [if_pos e2] at g ⊢
        exact lexS_tr xs ys zs h g
      · rw [if_neg e2] at g ⊢
        exact g
    · rw [if_neg e1] at h
      by_cases e2 : z = y
      · subst e2
        rw [if_neg e1]
        exact h
      · rw [if_neg e2] at g
        have h1 := ltS_no.mp h
        have g1 := ltS_no.mp g
        have t := leS_trans h1 g1
        by_cases e3 : z = x
        · subst e3
          exact absurd (leS_anti h1 g1).symm e1
        · rw [if_neg e3]
          exact ltS_no.mpr t
theorem lexS_eq : ∀ a b : List Str, lexS a b = false → lexS b a = false → a = b
  | [], [], _, _ => rfl
  | [], _ :: _, h, _ => by cases h
  | _ :: _, [], _, h => by cases h
  | x :: xs, y :: ys, h, g => by
    unfold lexS at h g
    by_cases e : x = y
    · subst e
      rw [if_pos rfl] at h g
      rw [lexS_eq xs ys h g]
    · rw [if_neg e] at h
      rw [if_neg (fun z => e z.symm)] at g
      exact absurd (leS_anti (ltS_no.mp g) (ltS_no.mp h)) e
def insL (x : List Str) : List (List Str) → List (List Str)
  | [] => [x]
  | y :: r => if lexS y x then y :: insL x r else x :: y :: r
def sortL : List (List Str) → List (List Str)
  | [] => []
  | x :: r => insL x (sortL r)
theorem insL_perm (x : List Str) : ∀ l, (insL x l).Perm (x :: l)
  | [] => List.Perm.refl _
  | y :: r => by
    unfold insL
    split
    · exact ((insL_perm x r).cons y).trans (List.Perm.swap x y r)
    · exact List.Perm.refl _
theorem sortL_perm : ∀ l, (sortL l).Perm l
  | [] => List.Perm.refl _
  | x :: r => (insL_perm x _).trans ((sortL_perm r).cons x)
abbrev UpL (l : List (List Str)) : Prop := l.Pairwise fun a b => lexS b a = false
theorem insL_up (x : List Str) : ∀ {l}, UpL l → UpL (insL x l)
  | [], _ => by simp [insL, UpL]
  | y :: r, h => by
    obtain ⟨h1, h2⟩ := List.pairwise_cons.mp h
    unfold insL
    split
    · rename_i e
      refine List.pairwise_cons.mpr ⟨fun z hz => ?_, insL_up x h2⟩
      rcases List.mem_cons.mp ((insL_perm x r).mem_iff.mp hz) with rfl | hz
      · exact lexS_asym _ _ e
      · exact h1 z hz
    · rename_i e
      have e : lexS y x = false := by simpa using e
      refine List.pairwise_cons.mpr ⟨fun z hz => ?_, h⟩
      rcases List.mem_cons.mp hz with rfl | hz
      · exact e
      · exact lexS_tr _ _ _ e (h1 z hz)
theorem sortL_up : ∀ l, UpL (sortL l)
  | [] => List.Pairwise.nil
  | x :: r => insL_up x (sortL_up r)
theorem up_one : ∀ {a b : List (List Str)}, a.Perm b → UpL a → UpL b → a = b
  | [], _, p, _, _ => (List.Perm.nil_eq p)
  | x :: a, [], p, _, _ => absurd p.length_eq (by simp)
  | x :: a, y :: b, p, h, g => by
    obtain ⟨h1, h2⟩ := List.pairwise_cons.mp h
    obtain ⟨g1, g2⟩ := List.pairwise_cons.mp g
    have e : x = y := by
      refine lexS_eq x y ?_ ?_
      · rcases List.mem_cons.mp (p.mem_iff.mp (List.mem_cons_self (a := x) (l := a))) with e | m
        · subst e
          cases z : lexS x x with
          | false => rfl
          | true => exact (lexS_asym _ _ z).symm.trans z |> fun q => by cases q
        · exact g1 x m
      · rcases List.mem_cons.mp (p.mem_iff.mpr (List.mem_cons_self (a := y) (l := b))) with e | m
        · subst e
          cases z : lexS y y with
          | false => rfl
          | true => exact (lexS_asym _ _ z).symm.trans z |> fun q => by cases q
        · exact h1 y m
    subst e
    rw [up_one p.cons_inv h2 g2]
theorem sortL_of {a b : List (List Str)} (p : a.Perm b) : sortL a = sortL b := up_one (((sortL_perm a).trans p).trans (sortL_perm b).symm) (sortL_up a) (sortL_up b)
theorem swoL {α : Type} (k : α → List Str) : SrtO.Swo fun x y : α => lexS (k x) (k y) := ⟨fun x y h => lexS_asym _ _ h, fun x y z h g => lexS_tr _ _ _ h g⟩
/-! at the values -/
section
variable {prog : Program} {w : World} {A : Around} {E : Value → Shared → Prop} {s : Shared}
def strOf : Value → Str
  | .str x _ => x
  | _ => ⟨#[]⟩
def rowAt (h : Heap) (v : Value) : List Str := match v with
  | .ref a => match h.get? a with
    | some o => match o.data with
      | .seq its _ => its.toList.map strOf
      | _ => []
    | none => []
  | _ => []
def IsRow (h : Heap) (v : Value) (l : List Str) : Prop := ∃ a o its n, v = .ref a ∧ h.get? a = some o ∧ o.cls = .type "tuple" ∧ o.data = .seq its n ∧ StrsAre its.toList l
theorem strs_of : ∀ {vs : List Value} {l : List Str}, StrsAre vs l → vs.map strOf = l
  | _, _, .nil => rfl
  | _, _, .cons x t h => by
    rw [List.map_cons, strs_of h]
    rfl
theorem IsRow.at {h : Heap} {v : Value} {l : List Str} (r : IsRow h v l) : rowAt h v = l := by
  obtain ⟨a, o, its, n, rfl, ho, hc, hd, hs⟩ := r
  unfold rowAt
  simp only [ho, hd]
  exact strs_of hs
theorem IsRow.keeps {h h' : Heap} {v : Value} {l : List Str} (r : IsRow h v l) (k : ∀ b o, h.get? b = some o → o.cls = .type "tuple" → h'.get? b = some o) : IsRow h' v l := by
  obtain ⟨a, o, its, n, rfl, ho, hc, hd, hs⟩ := r
  exact ⟨a, o, its, n, rfl, k _ _ ho hc, hc, hd, hs⟩
def lexZ (fin : Bool) : List Str → List Str → Bool
  | x :: xs, y :: ys => if x = y then lexZ fin xs ys else ltS x y
  | _, _ => fin
theorem lexZ_eq : ∀ l m : List Str, lexZ (decide (l.length < m.length)) l m = lexS l m
  | [], [] => rfl
  | [], _ :: _ => by simp [lexZ, lexS]
  | _ :: _, [] => by simp [lexZ, lexS]
  | x :: xs, y :: ys => by
    have := lexZ_eq xs ys
    simp only [List.length_cons, Nat.add_lt_add_iff_right]
    unfold lexZ lexS
    rw [this]
theorem kat_rows {b fin : Bool} {Q : Bool → Shared → Prop} : ∀ {us vs : List Value} {l m : List Str} {i : Nat}, StrsAre us l → StrsAre vs m →
    Q (lexZ fin l m) s → PySem.W.KatLex prog w A b fin Q (us.zip vs) i s
  | _, _, _, _, i, .nil, _, h => PySem.W.kat_nil h
  | _, _, _, _, i, .cons x t h1, .nil, h => PySem.W.kat_nil h
  | _, _, _, _, i, .cons x t h1, .cons y u h2, h => by
    refine PySem.W.kat_cons (SeqAt.EqAt.str_str x t y u prog w _ _ ?_)
    refine PySem.W.kat_go (fun e1 => ?_) (fun e1 => ?_)
    · have ex : x = y := by simpa using e1
      subst ex
      unfold lexZ at h
      rw [if_pos rfl] at h
      exact PySem.W.kat_yes (kat_rows h1 h2 h)
    · have ex : ¬ x = y := by simpa using e1
      refine PySem.W.kat_no ?_
      unfold lexZ at h
      rw [if_neg ex] at h
      cases (b && i == 0) with
      | true => exact oneLt_str h
      | false => exact PySem.W.kat_one _ _ (PyProof.Rows.lt_str h)
theorem strsAre_len : ∀ {us : List Value} {l : List Str}, StrsAre us l → us.length = l.length
  | _, _, .nil => rfl
  | _, _, .cons x t h => by rw [List.length_cons, List.length_cons, strsAre_len h]
theorem row_cmp {vs : List Value} (hp : ∀ v ∈ vs, ∃ l, IsRow s.heap v l) : SrtO.Cmp prog w A s (tuples' true) (fun p => p.1 ∈ vs) (SrtO.lt2 fun v u => lexS (rowAt s.heap v) (rowAt s.heap u)) := by
  intro p q hm hm'
  obtain ⟨l, h1⟩ := hp _ hm
  obtain ⟨m, h2⟩ := hp _ hm'
  show wpAny (model prog w) A (keyLt' (tuples' true) p.1 q.1) (fun r s' => s' = s ∧ r = lexS (rowAt s.heap p.1) (rowAt s.heap q.1)) (fun _ _ => False) s
  rw [h1.at, h2.at]
  obtain ⟨a, o, its, n, e, ho, hc, hd, hs⟩ := h1
  obtain ⟨a', o', its', n', e', ho', hc', hd', hs'⟩ := h2
  rw [e, e']
  refine PySem.W.kat_lt ho hd ho' hd' (kat_rows hs hs' ⟨rfl, ?_⟩)
  rw [← lexZ_eq, ← Array.length_toList, ← Array.length_toList, strsAre_len hs, strsAre_len hs']
theorem row_firsts {h : Heap} : ∀ {vs : List Value}, (∀ v ∈ vs, ∃ x l, IsRow h v (x :: l)) → ∃ fs : List Value, PySem.W.KatTups h vs fs ∧ fs.length = vs.length ∧ ∀ f ∈ fs, ∃ x t, f = Value.str x t
  | [], _ => ⟨[], PySem.W.KatTups.nil, rfl, fun _ hm => by simp at hm⟩
  | v :: vs, hp => by
    obtain ⟨fs, h1, h2, h3⟩ := row_firsts (vs := vs) fun v' hm => hp v' (List.mem_cons_of_mem _ hm)
    obtain ⟨x, l, a, o, its, n, rfl, ho, hc, hd, hs⟩ := hp v (List.mem_cons_self ..)
    obtain ⟨us, rfl⟩ : ∃ us : List Value, its = us.toArray := ⟨its.toList, by simp⟩
    have hs : StrsAre us (x :: l) := by simpa using hs
    cases hs with
    | cons _ t hr =>
      refine ⟨.str x t :: fs, PySem.W.KatTups.cons ho hc hd (by simp) h1, by rw [List.length_cons, List.length_cons, h2], fun f hm => ?_⟩
      rcases List.mem_cons.mp hm with rfl | hm
      · exact ⟨x, t, rfl⟩
      · exact h3 f hm
theorem rows_sortable {a : Addr} {vs : List Value} (h0 : 0 < vs.length) (hp : ∀ v ∈ vs, ∃ x l, IsRow s.heap v (x :: l)) (ha : ∀ o, s.heap.get? a = some o → o.cls ≠ .type "tuple") : SrtO.SortableO prog w A s a vs fun v u => lexS (rowAt s.heap v) (rowAt s.heap u) := by
  intro h' keep
  have hp' : ∀ v ∈ vs, ∃ x l, IsRow h' v (x :: l) := fun v hm => let ⟨x, l, r⟩ := hp v hm; ⟨x, l, r.keeps fun b o e c => keep b o (fun z => by subst z; exact ha o e c) e⟩
  obtain ⟨fs, h1, h2, h3⟩ := row_firsts hp'
  refine ⟨tuples' true, fun Q E hq => ?_, ?_⟩
  · refine PySem.W.kat_kind (T := .type "str") h1 (by omega) (fun f hm => ?_) (by rfl) ?_
    · obtain ⟨x, t, rfl⟩ := h3 f hm
      exact PySem.W.Looks.now
    · have e : (Value.type "str" != Value.type "tuple") = true := by first | decide +kernel | rfl | decide
      rw [e]
      exact hq
  · intro p q hm hm'
    have c := row_cmp (prog := prog) (w := w) (A := A) (s := { s with heap := h' }) (fun v hv => let ⟨x, l, r⟩ := hp' v hv; ⟨_, r⟩) p q hm hm'
    have ek : ∀ v ∈ vs, rowAt h' v = rowAt s.heap v := fun v hv => by
      obtain ⟨x, l, r⟩ := hp v hv
      rw [r.at, (r.keeps fun b o e c => keep b o (fun z => by subst z; exact ha o e c) e).at]
    have e1 : SrtO.lt2 (fun v u => lexS (rowAt h' v) (rowAt h' u)) p q = SrtO.lt2 (fun v u => lexS (rowAt s.heap v) (rowAt s.heap u)) p q := by
      show lexS (rowAt h' p.1) (rowAt h' q.1) = lexS (rowAt s.heap p.1) (rowAt s.heap q.1)
      rw [ek _ hm, ek _ hm']
    rw [← e1]
    exact c
theorem sorted_rows {l : Addr} {vs : List Value} {Q : Value → Shared → Prop} (hl : s.heap.IsList l vs.toArray) (hz : vs.length ≤ sizeLine) (hp : 2 ≤ vs.length → ∀ v ∈ vs, ∃ x l, IsRow s.heap v (x :: l))
    (h : ∀ (h' : Heap) (d : Addr) (out : List Value), SrtO.Srtd (fun v u => lexS (rowAt s.heap v) (rowAt s.heap u)) out → out.Perm vs → (∀ b o, s.heap.get? b = some o → h'.get? b = some o) → s.heap.objs.size ≤ d → (∃ n, h'.get? d = some (seqObj "list" out.toArray n)) → Q (.ref d) { s with heap := h' }) :
    wpAny (model prog w) A (call (.builtin "sorted") [.ref l]) Q E s := by
  refine SrtO.sorted_ord (swoL (rowAt s.heap)) hl hz (fun h2 h₁ a ha kk => ?_) fun out hs hb => ?_
  · have ek : ∀ v ∈ vs, rowAt h₁ v = rowAt s.heap v := fun v hv => by
      obtain ⟨x, l, r⟩ := hp h2 v hv
      rw [r.at, (r.keeps fun b o e c => (kk b o e).2).at]
    have S := rows_sortable (prog := prog) (w := w) (A := A.in1.in1) (s := { s with heap := h₁ }) (a := a) (vs := vs) (by omega) (fun v hm => let ⟨x, l, r⟩ := hp h2 v hm; ⟨x, l, r.keeps fun b o e c => (kk b o e).2⟩) fun o e => ?_
    · intro h' keep
      obtain ⟨κ, g1, g2⟩ := S h' keep
      refine ⟨κ, g1, fun p q hm hm' => ?_⟩
      have e1 : SrtO.lt2 (fun v u => lexS (rowAt h₁ v) (rowAt h₁ u)) p q = SrtO.lt2 (fun v u => lexS (rowAt s.heap v) (rowAt s.heap u)) p q := by
        show lexS (rowAt h₁ p.1) (rowAt h₁ q.1) = lexS (rowAt s.heap p.1) (rowAt s.heap q.1)
        rw [ek _ hm, ek _ hm']
      rw [← e1]
      exact g2 p q hm hm'
    · have e' : some o = some (seqObj "list" vs.toArray 0) := e.symm.trans ha
      cases e'
      intro c
      exact absurd (Value.type.inj c) (by decide)
  · exact h _ _ out hs hb.perm (fun b o e => sortedAll_old e) (Nat.le_succ _) (sortedAll_at s.heap vs out.toArray)
end
def rowsT : List T → Option (List (List Str))
  | [] => some []
  | .tup us :: ts => (strsT us).bind fun x => (rowsT ts).map fun r => x :: r
  | _ => none
abbrev tL (l : List Str) : T := .tup (l.map T.str)
theorem strsT_eq : ∀ {ts : List T} {xs : List Str}, strsT ts = some xs → ts = xs.map T.str
  | [], xs, h => by cases h; rfl
  | .str x :: ts, xs, h => by
    simp only [strsT, Option.map_eq_some_iff] at h
    obtain ⟨r, h, rfl⟩ := h
    rw [strsT_eq h]
    rfl
  | .non :: _, _, h => by cases h
  | .bl _ :: _, _, h => by cases h
  | .int _ :: _, _, h => by cases h
  | .tup _ :: _, _, h => by cases h
  | .lst _ :: _, _, h => by cases h
  | .sls _ :: _, _, h => by cases h
  | .dct _ _ :: _, _, h => by cases h
  | .ref _ :: _, _, h => by cases h
  | .val _ :: _, _, h => by cases h
theorem rowsT_eq : ∀ {ts : List T} {ls : List (List Str)}, rowsT ts = some ls → ts = ls.map tL
  | [], xs, h => by cases h; rfl
  | .tup us :: ts, xs, h => by
    simp only [rowsT, Option.bind_eq_some_iff, Option.map_eq_some_iff] at h
    obtain ⟨x, h1, r, h, rfl⟩ := h
    rw [rowsT_eq h, strsT_eq h1]
    rfl
  | .non :: _, _, h => by cases h
  | .bl _ :: _, _, h => by cases h
  | .int _ :: _, _, h => by cases h
  | .str _ :: _, _, h => by cases h
  | .lst _ :: _, _, h => by cases h
  | .sls _ :: _, _, h => by cases h
  | .dct _ _ :: _, _, h => by cases h
  | .ref _ :: _, _, h => by cases h
  | .val _ :: _, _, h => by cases h
theorem strsT_map : ∀ l : List Str, strsT (l.map T.str) = some l
  | [] => rfl
  | y :: l => by simp only [List.map_cons, strsT, strsT_map l, Option.map_some]
def okRows (ls : List (List Str)) : Bool := decide (ls.length < 2) || ls.all (fun l => !l.isEmpty)
def sortRT (S : Sto) (ts : List T) : Option T := match ts with
  | [t] => (seqL S t).bind fun ts => (rowsT ts).bind fun ls => if okRows ls then some (.lst ((sortL ls).map tL)) else none
  | _ => none
theorem c_sortR {X : Cx} : CallR X (.builtin "sorted") (rNw X.K sortRT) := by
  intro pins s σ H vs us Q I r h
  obtain ⟨μ, S, ts, c, st, rr, e, q⟩ := h
  unfold sortRT at e
  split at e
  · rename_i t
    simp only [Option.bind_eq_some_iff] at e
    obtain ⟨ts, hs, ls, hls, e⟩ := e
    split at e
    · rename_i hok
      cases e
      obtain ⟨v, evq, rv⟩ := rels1 rr
      subst evq
      obtain ⟨a, xs, rfl, hl, r2⟩ := seqL_ok hs st rv
      obtain rfl := Vals.ref1 r
      obtain ⟨its, rx, pl, hz⟩ := I.list hl
      have ets := rowsT_eq hls
      subst ets
      have ee := each_of (K := X.K) r2 rx
      have key : ∀ {ls : List (List Str)} {its : List Value}, PySem.W.EachIs (RtV X.K H μ) its (ls.map tL) → its.map (rowAt s.heap) = ls ∧ ∀ v ∈ its, ∃ l ∈ ls, IsRow s.heap v l ∧ RtV X.K H μ v (tL l) := by
        intro ls
        induction ls with
        | nil => intro its h; cases h; exact ⟨rfl, fun v hv => nomatch hv⟩
        | cons l ls ih =>
          intro its h
          cases h with
          | cons p h =>
            rename_i v its
            obtain ⟨i1, i2⟩ := ih h
            have row : IsRow s.heap v l := by
              have p0 := p
              obtain ⟨x, rt, rxv⟩ := p0
              obtain ⟨b, zs, rfl, hb, r3⟩ := tup_ok rt
              obtain rfl : v = Value.ref b := rxv
              obtain ⟨it2, rz, pt, _⟩ := I.tuple hb
              have ez := strsT_ok (strsT_map l) r3
              rw [ez] at rz
              obtain ⟨o, g1, g2, n, g3⟩ := pt
              exact ⟨b, o, _, n, rfl, g1, g2, g3, by simpa using rz.strs⟩
            refine ⟨by rw [List.map_cons, row.at, i1], fun u hu => ?_⟩
            rcases List.mem_cons.mp hu with rfl | hu
            · exact ⟨l, List.mem_cons_self, row, p⟩
            · obtain ⟨m, hm, z⟩ := i2 u hu
              exact ⟨m, List.mem_cons_of_mem _ hm, z⟩
      obtain ⟨k1, k2⟩ := key ee
      have hlen : its.length = ls.length := by rw [← k1, List.length_map]
      refine sorted_rows pl.isList (by rw [← rx.length]; exact hz) (fun h2 v hv => ?_) fun h' d out o1 o2 kp hd hn => ?_
      · obtain ⟨l, hl', row, _⟩ := k2 v hv
        have ne : l ≠ [] := by
          intro z
          subst z
          simp only [okRows, Bool.or_eq_true, decide_eq_true_eq, List.all_eq_true] at hok
          rcases hok with z | z
          · omega
          · exact absurd (z _ hl') (by simp)
        cases l with
        | nil => exact absurd rfl ne
        | cons x l => exact ⟨x, l, row⟩
      · have em : out.map (rowAt s.heap) = sortL ls := by
          refine up_one ?_ (List.pairwise_map.mpr (List.Pairwise.imp (fun z => z) o1)) (sortL_up _)
          exact ((o2.map (rowAt s.heap)).trans (by rw [k1])).trans (sortL_perm ls).symm
        have eo : PySem.W.EachIs (RtV X.K H μ) out (out.map fun v => tL (rowAt s.heap v)) := by
          have z : ∀ v ∈ out, RtV X.K H μ v (tL (rowAt s.heap v)) := fun v hv => by
            obtain ⟨l, _, row, p⟩ := k2 v (o2.mem_iff.mp hv)
            rw [row.at]
            exact p
          clear em o1 o2 hn
          induction out with
          | nil => exact .nil
          | cons v out ih => exact .cons (z v List.mem_cons_self) (ih fun u hu => z u (List.mem_cons_of_mem _ hu))
        have e2 : (out.map fun v => tL (rowAt s.heap v)) = (sortL ls).map tL := by rw [← em, List.map_map]; rfl
        rw [e2] at eo
        obtain ⟨zs, r3, vz⟩ := each_to eo
        have hlz : zs.length ≤ sizeLine := by
          have h1 := vz.length
          have h2 := o2.length_eq
          have h3 := rx.length
          omega
        obtain ⟨cc, hn⟩ := hn
        have hf : H d = none := I.hok.fresh hd
        refine ⟨.ref d, upd H d (.lst zs), I.laid (t' := s.toks) kp hd ⟨hlz, out, cc, vz, hn⟩, rfl, q _ _ hf ?_⟩
        exact ⟨_, upd_same, rels_new hf r3⟩
    · cases e
  · cases e
end TL
set_option Elab.async false
set_option linter.all false
set_option maxRecDepth 100000
set_option maxHeartbeats 2000000
namespace TL
open PySem PySem.Spec L2
open PyProof.Rows hiding St
/-! ### methods that change a list in a cell: pop, insert, extend -/
abbrev CM := Sto → List T → List T → Option (T × List T)
def lstD (o : Option (List T)) (k : List T → Res T) : Res T := match o with
  | some xs => k xs
  | none => .stuck
theorem lstD_some (xs : List T) (k : List T → Res T) : lstD (some xs) k = k xs := rfl
def cmEnd (n : Nat) (S : Sto) (o : Option (T × List T)) : Res T := match o with
  | some p => .ok p.1 (S.set n (.lst p.2))
  | none => .stuck
theorem cmEnd_some (n : Nat) (S : Sto) (r : T) (ys : List T) : cmEnd n S (some (r, ys)) = .ok r (S.set n (.lst ys)) := rfl
def refD (o : T) (k : Nat → Res T) : Res T := match o with
  | .ref n => k n
  | _ => .stuck
theorem refD_ref (n : Nat) (k : Nat → Res T) : refD (.ref n) k = k n := rfl
def fCM (op : CM) (Fo : FE) (Fs : FA) : FE := fun τ S => (Fo τ S).bind fun o S1 => refD o fun n => lstD (lstAt S1 n) fun _ => (Fs τ S1).bind fun ts S2 => lstD (lstAt S2 n) fun xs => cmEnd n S2 (op S2 xs ts)
/-- what the list's method does at the values -/
def CmR (K : PySem.W.Frag) (op : CM) (rule : V → List V → Hp → VK → Prop) : Prop := ∀ (μ : Mu) (H : Hp) (S : Sto) (a : Addr) (xs ts : List T) (vs ws : List V) (r : T) (ys : List T) (Q : VK), RelS K H μ S → H a = some (.lst vs) → Rels K H μ xs vs → Rels K H μ ts ws →
  op S xs ts = some (r, ys) → (∀ v us, Rel K H μ r v → Rels K H μ ys us → Q v (upd H a (.lst us))) → rule (.ref a) ws H Q
section
variable {X : Cx} {wx : WT} {pos : Pos} {K : PySem.W.Frag}
theorem cm_imp {op : CM} {rule : V → List V → Hp → VK → Prop} (hr : CmR X.K op rule) {Fo : FE} {Fs : FA} {σ : L2.St} {H : Hp} {Q : VK} (h : tG X.K wx (rV X.K) (fCM op Fo Fs) σ H Q) : tBM X.K "list" rule (tG X.K wx (rV X.K) Fo) (tG X.K wx (rVs X.K) Fs) σ H Q := by
  obtain ⟨μ, τ, S, s, f, h⟩ := h
  refine tG.seq s f h fun μ1 H1 x v S1 A1 h1 => ?_
  cases x with
  | ref n =>
    rw [refD_ref] at h1
    cases e1 : lstAt S1 n with
    | none => rw [e1] at h1; exact h1.elim
    | some us =>
      rw [e1, lstD_some] at h1
      have r := A1.rel
      simp only [Rel] at r
      obtain ⟨a, ha1, rfl⟩ := r
      obtain ⟨a', vs, ha', hl, _⟩ := lstAt_ok e1 A1.st
      rw [ha1] at ha'
      cases ha'
      refine ⟨.inl ⟨rfl, vs, .inl (.inl hl)⟩, tG.seq A1.st A1.fr h1 fun μ2 H2 ts ws S2 A2 h2 => ?_⟩
      cases e2 : lstAt S2 n with
      | none => rw [e2] at h2; exact h2.elim
      | some xs =>
        rw [e2, lstD_some] at h2
        cases e3 : op S2 xs ts with
        | none => rw [e3] at h2; exact h2.elim
        | some p =>
          obtain ⟨r, ys⟩ := p
          rw [e3, cmEnd_some] at h2
          obtain ⟨b, us', hb, hl2, r4⟩ := lstAt_ok e2 A2.st
          obtain ⟨ν, eν, _⟩ := A2.ext.pre
          have ha2 : μ2.c[n]? = some a := by rw [eν, List.getElem?_append_left (List.getElem?_eq_some_iff.mp ha1).1]; exact ha1
          rw [ha2] at hb
          cases hb
          refine hr μ2 H2 S2 a xs ts us' ws r ys Q A2.st hl2 r4 A2.rel e3 fun v zs rv rz => ?_
          exact h2 μ2 v _ (Ext.setc ha2) (A2.st.setc ha2 ⟨_, upd_same, rels_setc ha2 rz⟩) (rel_setc ha2 rv)
  | _ => exact h1.elim
theorem pf_cm {op : CM} {rule : V → List V → Hp → VK → Prop} {id : String} {name : Str} (hr : CmR X.K op rule) (slot : Slot "list" name id) (hty : typeOf (.builtin id) = pure (.type "method_descriptor")) (hm : MtR X id rule) {o e : Expr} {es : List Expr} {Fo : FE} {Fs : FA} {apos cpos : Pos} (ho : PF X wx o Fo) (ha : PFA X wx (e :: es) Fs)
    (hbase : attributeBase o name X.env (eval o X.env) = eval o X.env := by rfl)
    (hfew : ((backTo cpos (starEach (e :: es) X.env)).all (fun x => !x.1) && (backToKw cpos (keywordEach [] X.env)).all (fun x => x.1.isSome)
      && decide ((e :: es).length + ([] : List Keyword).length + (if ([] : List Keyword).isEmpty then 0 else 1) < 30)) = true := by rfl)
    (hline : (apos.endLine == cpos.line) = true := by rfl) (hs : starEach (e :: es) X.env = (false, eval e X.env) :: starEach es X.env := by rfl) (hplain : (backTo cpos (starEach es X.env)).any (·.1) = false := by rfl) :
    PF X wx (.Call (.Attribute o name apos) (e :: es) [] cpos) (fCM op Fo Fs) := PE.imp (pe_bm PySem.F.plainAttrs_list slot hty hm ho ha hbase hfew hline hs hplain) fun σ H Q h => cm_imp hr h
theorem Rels.erase {H : Hp} {μ : Mu} : ∀ {ts : List T} {vs : List V} (n : Nat), Rels K H μ ts vs → Rels K H μ (ts.eraseIdx n) (vs.eraseIdx n)
  | [], _, n, r => by simp only [Rels] at r; subst r; simp [Rels]
  | t :: ts, vs, n, r => by
    simp only [Rels] at r
    obtain ⟨v, r', rfl, h1, h2⟩ := r
    cases n with
    | zero => exact h2
    | succ n =>
      simp only [List.eraseIdx_cons_succ, Rels]
      exact ⟨v, _, rfl, h1, Rels.erase n h2⟩
def opPop : CM := fun _ xs ts => match ts with
  | [.int i] => if decide (-(2 ^ 62) ≤ i) && decide (i < 2 ^ 62) then (seqIndex? i xs.length).bind fun k => (xs[k]?).map fun y => (y, xs.eraseIdx k) else none
  | _ => none
theorem cm_pop : CmR K opPop rPopAt := by
  intro μ H S a xs ts vs ws r ys Q s hl rx rt e q
  unfold opPop at e
  split at e
  · rename_i i
    split at e
    · rename_i hi
      simp only [Bool.and_eq_true, decide_eq_true_eq] at hi
      simp only [Option.bind_eq_some_iff, Option.map_eq_some_iff] at e
      obtain ⟨k, hk, y, hy, e⟩ := e
      cases e
      obtain ⟨w, rfl, rw'⟩ := rels1 rt
      have ew : w = .int i := rw'
      subst ew
      obtain ⟨v, hv, rv⟩ := rx.get hy
      exact ⟨a, vs, i, k, v, rfl, rfl, hl, by omega, by omega, by rw [← rx.length]; exact hk, hv, q v _ rv (rx.erase k)⟩
    · cases e
  · cases e
def opIns : CM := fun _ xs ts => match ts with
  | [.int i, y] => if decide (0 ≤ i) && (decide (i < 2 ^ 62) && decide (xs.length < sizeLine)) then some (.non, xs.take i.toNat ++ [y] ++ xs.drop i.toNat) else none
  | _ => none
theorem cm_ins : CmR K opIns (fun x vs H Q => ∃ (l : Addr) (xs : List V) (i : Int) (y : V), x = .ref l ∧ vs = [.int i, y] ∧ H l = some (.lst xs) ∧ xs.length < sizeLine ∧ 0 ≤ i ∧ i < 2 ^ 63 ∧
    Q .non (upd H l (.lst (xs.take i.toNat ++ [y] ++ xs.drop i.toNat)))) := by
  intro μ H S a xs ts vs ws r ys Q s hl rx rt e q
  unfold opIns at e
  split at e
  · rename_i i y
    split at e
    · rename_i hi
      simp only [Bool.and_eq_true, decide_eq_true_eq] at hi
      cases e
      obtain ⟨w, u, rfl, rw', ru⟩ := rels2 rt
      have ew : w = .int i := rw'
      subst ew
      refine ⟨a, vs, i, u, rfl, rfl, hl, by rw [← rx.length]; exact hi.2.2, hi.1, by omega, q .non _ (by simp only [Rel]) ?_⟩
      refine Rels.append (Rels.append (rx.take _) ?_) (rx.drop _)
      simp only [Rels]
      exact ⟨u, [], rfl, ru, rfl⟩
    · cases e
  · cases e
def opExt : CM := fun S xs ts => match ts with
  | [t] => (plnL S t).bind fun ys => if xs.length + ys.length ≤ sizeLine then some (.non, xs ++ ys) else none
  | _ => none
theorem cm_ext : CmR K opExt rExtend := by
  intro μ H S a xs ts vs ws r ys Q s hl rx rt e q
  unfold opExt at e
  split at e
  · rename_i t
    simp only [Option.bind_eq_some_iff] at e
    obtain ⟨zs, hz, e⟩ := e
    split at e
    · rename_i hi
      cases e
      obtain ⟨w, rfl, rw'⟩ := rels1 rt
      obtain ⟨b, us, rfl, hb, ru⟩ := plnL_ok hz s rw'
      exact ⟨a, b, vs, us, rfl, rfl, hl, hb, by rw [← rx.length, ← ru.length]; exact hi, q .non _ (by simp only [Rel]) (Rels.append rx ru)⟩
    · cases e
  · cases e
theorem pf_pop {o e : Expr} {Fo : FE} {Fs : FA} {apos cpos : Pos} (ho : PF X wx o Fo) (ha : PFA X wx [e] Fs) (hbase : attributeBase o "pop" X.env (eval o X.env) = eval o X.env := by rfl)
    (hfew : ((backTo cpos (starEach [e] X.env)).all (fun x => !x.1) && (backToKw cpos (keywordEach [] X.env)).all (fun x => x.1.isSome) && decide (([e] : List Expr).length + ([] : List Keyword).length + (if ([] : List Keyword).isEmpty then 0 else 1) < 30)) = true := by rfl)
    (hline : (apos.endLine == cpos.line) = true := by rfl) (hs : starEach [e] X.env = (false, eval e X.env) :: starEach [] X.env := by rfl) (hplain : (backTo cpos (starEach [] X.env)).any (·.1) = false := by rfl) :
    PF X wx (.Call (.Attribute o "pop" apos) [e] [] cpos) (fCM opPop Fo Fs) := pf_cm cm_pop PySem.F.slot_list_pop PySem.F.type_list_pop mt_popAt ho ha hbase hfew hline hs hplain
theorem pf_extend {o e : Expr} {Fo : FE} {Fs : FA} {apos cpos : Pos} (ho : PF X wx o Fo) (ha : PFA X wx [e] Fs) (hbase : attributeBase o "extend" X.env (eval o X.env) = eval o X.env := by rfl)
    (hfew : ((backTo cpos (starEach [e] X.env)).all (fun x => !x.1) && (backToKw cpos (keywordEach [] X.env)).all (fun x => x.1.isSome) && decide (([e] : List Expr).length + ([] : List Keyword).length + (if ([] : List Keyword).isEmpty then 0 else 1) < 30)) = true := by rfl)
    (hline : (apos.endLine == cpos.line) = true := by rfl) (hs : starEach [e] X.env = (false, eval e X.env) :: starEach [] X.env := by rfl) (hplain : (backTo cpos (starEach [] X.env)).any (·.1) = false := by rfl) :
    PF X wx (.Call (.Attribute o "extend" apos) [e] [] cpos) (fCM opExt Fo Fs) := pf_cm cm_ext PySem.F.slot_list_extend PySem.F.type_list_extend mt_extend ho ha hbase hfew hline hs hplain
theorem pf_insert {o e e2 : Expr} {Fo : FE} {Fs : FA} {apos cpos : Pos} (ho : PF X wx o Fo) (ha : PFA X wx [e, e2] Fs) (hbase : attributeBase o "insert" X.env (eval o X.env) = eval o X.env := by rfl)
    (hfew : ((backTo cpos (starEach [e, e2] X.env)).all (fun x => !x.1) && (backToKw cpos (keywordEach [] X.env)).all (fun x => x.1.isSome) && decide (([e, e2] : List Expr).length + ([] : List Keyword).length + (if ([] : List Keyword).isEmpty then 0 else 1) < 30)) = true := by rfl)
    (hline : (apos.endLine == cpos.line) = true := by rfl) (hs : starEach [e, e2] X.env = (false, eval e X.env) :: starEach [e2] X.env := by rfl) (hplain : (backTo cpos (starEach [e2] X.env)).any (·.1) = false := by rfl) :
    PF X wx (.Call (.Attribute o "insert" apos) [e, e2] [] cpos) (fCM opIns Fo Fs) := pf_cm cm_ins PySem.F.slot_list_insert PySem.F.type_list_insert mt_insert ho ha hbase hfew hline hs hplain
end
end TL
set_option Elab.async false
set_option linter.all false
set_option maxRecDepth 100000
set_option maxHeartbeats 2000000
namespace TL
open PySem PySem.Spec L2
open PyProof.Rows hiding St
section
variable {X : Cx} {wx : WT} {pos : Pos}
/-! ### a list, so many times -/
def mulLT (S : Sto) (x y : T) : Option T := match y with
  | .int k => (plnL S x).bind fun ts => if decide (0 ≤ k) && (decide (k < 1000) && decide (ts.length * k.toNat ≤ sizeLine)) then some (.lst (List.replicate k.toNat ts).flatten) else none
  | _ => none
theorem rels_rep {K : PySem.W.Frag} {H : Hp} {μ : Mu} {ts : List T} {vs : List V} (r : Rels K H μ ts vs) : ∀ n : Nat, Rels K H μ (List.replicate n ts).flatten (List.replicate n vs).flatten
  | 0 => by simp [Rels]
  | n + 1 => by
    rw [List.replicate_succ, List.replicate_succ, List.flatten_cons, List.flatten_cons]
    exact Rels.append r (rels_rep r n)
theorem o_mulL : OpR X (binaryOp .Mult) (rP X.K mulLT) := by
  intro pins s σ H x y v u Q I rx ry q
  obtain ⟨μ, S, tx, ty, t, st, r1, r2, e, q⟩ := q
  unfold mulLT at e
  split at e
  · rename_i k
    simp only [Option.bind_eq_some_iff] at e
    obtain ⟨ts, h1, e⟩ := e
    split at e
    · rename_i hk
      simp only [Bool.and_eq_true, decide_eq_true_eq] at hk
      cases e
      obtain ⟨p, xs, rfl, hp, ra⟩ := plnL_ok h1 st r1
      have ey : y = .int k := r2
      subst ey
      exact op_rep pins s σ H _ _ v u Q I rx ry ⟨p, k, xs, rfl, rfl, hp, by omega, by omega, by rw [← ra.length]; exact hk.2.2, fun l nl => q _ _ (fresh_same nl) (rel_lst st nl (rels_rep ra _))⟩
    · cases e
  · cases e
/-! ### texts compared -/
def leAT (S : Sto) (x y : T) : Option T := match x, y with
  | .str a, .str b => some (.bl (!decide (b.cps.toList < a.cps.toList)))
  | x, y => leT S x y
theorem o_leA : OpR X (compareOp .LtE) (rP X.K leAT) := by
  intro pins s σ H x y v u Q I rx ry q
  obtain ⟨μ, S, tx, ty, t, st, r1, r2, e, q⟩ := q
  unfold leAT at e
  split at e
  · rename_i i j
    cases e
    simp only [Rel] at r1 r2
    exact op_le_str pins s σ H x y v u Q I rx ry ⟨i, j, r1, r2, q _ H (Same.refl _) (by simp only [Rel])⟩
  · exact o_le pins s σ H x y v u Q I rx ry ⟨μ, S, _, _, t, st, r1, r2, e, q⟩
/-! ### repr of a truth value -/
def reprAT (S : Sto) (ts : List T) : Option T := match ts with
  | [.bl b] => some (.str (if b then "True" else "False"))
  | ts => reprT S ts
theorem c_reprA (hgd : X.A.guards = some []) (hu : X.A.units + 64 < cLine) : CallR X (.builtin "repr") (rN X.K reprAT) := by
  intro pins s σ H xs us Q I rv q
  obtain ⟨μ, S, ts, t, st, r, e, q⟩ := q
  unfold reprAT at e
  split at e
  · rename_i b
    cases e
    obtain ⟨v, rfl, rr⟩ := rels1 r
    have ev' : v = .bl b := rr
    subst ev'
    obtain ⟨u, rfl, rx⟩ := vals1 rv
    obtain rfl : u = Value.bool b := rx
    exact PySem.P.repr_of_bool ⟨.str (if b then "True" else "False"), H, I.tok _, ⟨_, by cases b <;> rfl⟩, q _ H (Same.refl _) (by simp only [Rel])⟩
  · exact c_repr hgd hu pins s σ H xs us Q I rv ⟨μ, S, _, t, st, r, e, q⟩
/-! ### o1[i1], o2[i2] = a, b -/
def bSwap (Fo Fi Fo2 Fi2 Fv : FE) : BS := fun τ S => (Fv τ S).bindS τ fun v S1 => match v with
  | .tup [a, b] => (Fo τ S1).bindS τ fun o S2 => (Fi τ S2).bindS τ fun i S3 => match setT S3 o i a with
    | some S4 => (Fo2 τ S4).bindS τ fun o2 S5 => (Fi2 τ S5).bindS τ fun i2 S6 => match setT S6 o2 i2 b with
      | some S7 => .nx τ S7
      | none => .stuck
    | none => .stuck
  | _ => .stuck
theorem pfs_swap {o i o2 i2 e : Expr} {Fo Fi Fo2 Fi2 Fv : FE} {tpos tpos2 tp : Pos} {kk : Nat} (hc : X.calm = true) (hu : X.A.units + 64 < cLine) (he : PF X wx e Fv) (ho : PF X wx o Fo) (hi : PF X wx i Fi) (ho2 : PF X wx o2 Fo2) (hi2 : PF X wx i2 Fi2)
    (ha : ∀ v, assign (.Subscript o i tpos) X.env v = (do
      let ov ← holding [v] (eval o X.env)
      let iv ← holding [v, ov] (eval i X.env)
      standAt tpos
      holding [v, ov, iv] (setItem ov iv v)
      release [v, ov, iv] []) := by intro _; rfl)
    (ha2 : ∀ v, assign (.Subscript o2 i2 tpos2) X.env v = (do
      let ov ← holding [v] (eval o2 X.env)
      let iv ← holding [v, ov] (eval i2 X.env)
      standAt tpos2
      holding [v, ov, iv] (setItem ov iv v)
      release [v, ov, iv] []) := by intro _; rfl)
    (hs : swapsWithSole [.Tuple [.Subscript o i tpos, .Subscript o2 i2 tpos2] kk tp] e pos.line X.env = pure false := by rfl) (hw : swappedStores [.Tuple [.Subscript o i tpos, .Subscript o2 i2 tpos2] kk tp] e X.env = pure none := by rfl)
    (h1 : (assignEach [.Tuple [.Subscript o i tpos, .Subscript o2 i2 tpos2] kk tp] X.env).map (·.2) = [assign (.Tuple [.Subscript o i tpos, .Subscript o2 i2 tpos2] kk tp) X.env] := by rfl)
    (hn : (assignEach [.Subscript o i tpos, .Subscript o2 i2 tpos2] X.env).length = 2 := by rfl) (hst : (assignEach [.Subscript o i tpos, .Subscript o2 i2 tpos2] X.env).findIdx? (·.1) = none := by rfl)
    (hs1 : (assignEach [.Subscript o i tpos, .Subscript o2 i2 tpos2] X.env).map (·.2) = assign (.Subscript o i tpos) X.env :: (assignEach [.Subscript o2 i2 tpos2] X.env).map (·.2) := by rfl)
    (hs2 : (assignEach [.Subscript o2 i2 tpos2] X.env).map (·.2) = assign (.Subscript o2 i2 tpos2) X.env :: (assignEach [] X.env).map (·.2) := by rfl) :
    PFS X wx (.Assign [.Tuple [.Subscript o i tpos, .Subscript o2 i2 tpos2] kk tp] e pos) (bSwap Fo Fi Fo2 Fi2 Fv) :=
  PS.imp (ps_asg he (pg_tup hc (pgs_cons (pg_sub ho hi (o_set hu) ha) (pgs_cons (pg_sub ho2 hi2 (o_set hu) ha2) pgs_nil hs2) hs1) hn hst) hs hw h1) fun D σ H h => by
    obtain ⟨μ, τ, S, s, f, h⟩ := h
    refine tG.seqS s f h fun μ1 H1 v v' S1 A1 h1 => ?_
    split at h1
    · rename_i a b
      obtain ⟨p, xs, rfl, hp, r⟩ := tup_ok A1.rel
      obtain ⟨a', b', rfl, ra, rb⟩ := rels2 r
      refine ⟨p, _, rfl, hp, rfl, a', [b'], rfl, tG.seqS A1.st A1.fr h1 fun μ2 H2 o o' S2 A2 h2 => tG.seqS A2.st A2.fr h2 fun μ3 H3 i i' S3 A3 h3 => ?_⟩
      cases e1 : setT S3 o i a with
      | none => simp only [e1] at h3; exact h3.elim
      | some S4 =>
        simp only [e1] at h3
        refine ⟨μ3, S3, o, i, a, S4, A3.st, Rel.mono A3.ext _ A2.rel, A3.rel, Rel.mono A3.ext _ (Rel.mono A2.ext _ ra), e1, fun H4 E4 st4 => ?_⟩
        have rb4 := Rel.mono E4 _ (Rel.mono A3.ext _ (Rel.mono A2.ext _ rb))
        refine ⟨b', [], rfl, tG.seqS st4 (A3.fr.mono E4) (postS.shift E4 h3) fun μ5 H5 o2 o2' S5 A5 h5 => tG.seqS A5.st A5.fr h5 fun μ6 H6 i2 i2' S6 A6 h6 => ?_⟩
        cases e2 : setT S6 o2 i2 b with
        | none => simp only [e2] at h6; exact h6.elim
        | some S7 =>
          simp only [e2] at h6
          exact ⟨μ6, S6, o2, i2, b, S7, A6.st, Rel.mono A6.ext _ A5.rel, A6.rel, Rel.mono A6.ext _ (Rel.mono A5.ext _ rb4), e2, fun H7 E7 st7 => ⟨rfl, h6 μ6 σ H7 E7 st7 (A6.fr.mono E7)⟩⟩
    · exact h1.elim
end
end TL
set_option Elab.async false
set_option linter.all false
set_option maxRecDepth 100000
set_option maxHeartbeats 2000000
namespace TL
open PySem PySem.Spec L2
open PyProof.Rows hiding St
/-! ### in: data in a list of data -/
def inDB (S : Sto) (x y : T) : Option Bool := match toD1 S x, toD1 S y with
  | some d, some (.list ds) => if SeqAt.shaped d && SeqAt.shaped (.list ds) then some (ds.any fun z => PyData.eqv z d) else none
  | _, _ => none
def inDT (S : Sto) (x y : T) : Option T := (inDB S x y).map .bl
def ninDT (S : Sto) (x y : T) : Option T := (inDB S x y).map fun b => .bl !b
theorem room65 {k : Nat} {A : Around} (r : Room k A) : A.units + 65 < cLine := by have := r.un; omega
section
variable {X : Cx}
theorem o_inD (hu : X.A.units + 65 < cLine) : OpR X (compareOp .In) (rP X.K inDT) := by
  intro pins s σ H x y v u Q I rx ry q
  obtain ⟨μ, S, tx, ty, t, st, r1, r2, e, q⟩ := q
  simp only [inDT, Option.map_eq_some_iff] at e
  obtain ⟨b, e, rfl⟩ := e
  unfold inDB at e
  split at e
  · rename_i d ds e1 e2
    split at e
    · rename_i h
      simp only [Bool.and_eq_true] at h
      cases e
      exact op_inD hu pins s σ H x y v u Q I rx ry ⟨d, ds, toD1_ok e1 st r1, toD1_ok e2 st r2, h.1, h.2, q _ H (Same.refl _) rel_bl⟩
    · cases e
  · cases e
theorem o_ninD (hu : X.A.units + 65 < cLine) : OpR X (compareOp .NotIn) (rP X.K ninDT) := by
  intro pins s σ H x y v u Q I rx ry q
  obtain ⟨μ, S, tx, ty, t, st, r1, r2, e, q⟩ := q
  simp only [ninDT, Option.map_eq_some_iff] at e
  obtain ⟨b, e, rfl⟩ := e
  unfold inDB at e
  split at e
  · rename_i d ds e1 e2
    split at e
    · rename_i h
      simp only [Bool.and_eq_true] at h
      cases e
      exact op_notInD hu pins s σ H x y v u Q I rx ry ⟨d, ds, toD1_ok e1 st r1, toD1_ok e2 st r2, h.1, h.2, q _ H (Same.refl _) rel_bl⟩
    · cases e
  · cases e
end
end TL
set_option Elab.async false
set_option linter.all false
set_option maxRecDepth 100000
set_option maxHeartbeats 2000000
namespace TL
open PySem PySem.Spec L2
open PyProof.Rows hiding St
/-! ### an iterator that outlives what is done to what is hidden -/
/-- what is tracked stands, cells and hidden things aside -/
def Sup (H : Hp) (μ : Mu) (H' : Hp) (μ' : Mu) : Prop := (∀ (n : Nat) (a : Addr), μ.c[n]? = some a → μ'.c[n]? = some a) ∧ ∀ a o, H a = some o → μ.out a → H' a = some o ∧ μ'.out a
theorem Sup.refl (H : Hp) (μ : Mu) : Sup H μ H μ := ⟨fun _ _ e => e, fun _ _ e n => ⟨e, n⟩⟩
theorem Ext.sup {H H' : Hp} {μ μ' : Mu} (x : Ext H μ H' μ') : Sup H μ H' μ' := ⟨fun n a e => by
  obtain ⟨ν, eν, -⟩ := x.pre
  rw [eν, List.getElem?_append_left (List.getElem?_eq_some_iff.mp e).1]
  exact e, fun a o e n => ⟨x.keep a o e n.1, x.out e n⟩⟩
theorem Sup.trans {H H1 H2 : Hp} {μ μ1 μ2 : Mu} (a : Sup H μ H1 μ1) (b : Sup H1 μ1 H2 μ2) : Sup H μ H2 μ2 := ⟨fun n p e => b.1 n p (a.1 n p e), fun p o e n => b.2 p o (a.2 p o e n).1 (a.2 p o e n).2⟩
theorem Sup.hid {H : Hp} {μ : Mu} {D : Addr} {o : HO} (h : D ∈ μ.r) : Sup H μ (upd H D o) μ := ⟨fun _ _ e => e, hid_keep h⟩
theorem Sup.fix {H H' : Hp} {μ μ' : Mu} {a : Addr} {u : HO} (x : Sup H μ H' μ') (f : Fix H μ a u) : Fix H' μ' a u := by
  obtain ⟨r, n⟩ := f
  rcases r with r | ⟨o, r⟩
  · exact ⟨.inl (x.2 _ _ r n).1, (x.2 _ _ r n).2⟩
  · exact ⟨.inr ⟨o, (x.2 _ _ r n).1⟩, (x.2 _ _ r n).2⟩
def Src2 (K : PySem.W.Frag) (J : It) (xs : List T) (μ : Mu) (H : Hp) : Prop := ∀ μ2 H2, Sup H μ H2 μ2 →
  (∀ i x, xs[i]? = some x → J.go i H2 ∧ ∀ v H3, J.yld i H2 v H3 → Same H2 H3 ∧ ∀ S, RelS K H2 μ2 S → Rel K H3 μ2 x v) ∧ ∀ i, xs.length ≤ i → J.stop i H2
def rI2 (K : PySem.W.Frag) : RL (List T) It := fun H μ xs J => Src2 K J xs μ H
def wiT2 (K : PySem.W.Frag) (wx : WT) (Fi : FI) : TI := tG K wx (rI2 K) Fi
def PFI2 (X : Cx) (wx : WT) (tg e : Expr) (Fi : FI) : Prop := PI X tg e (wiT2 X.K wx Fi)
theorem Src2.list {K : PySem.W.Frag} {H : Hp} {μ : Mu} {a : Addr} {xs : List V} {ts : List T} (f : OL K H μ a xs) (r : Rels K H μ ts xs) : Src2 K (Itl K a) ts μ H := fun μ2 H2 E => by
  have f2 : OL K H2 μ2 a xs := f.imp E.fix id
  have q : SqL K H2 a xs := f2.imp (fun z => z.1) id
  have r2 := Rels.to E.1 E.2 ts r
  refine ⟨fun i x e => ?_, fun i h => ⟨xs, q, by rw [← r2.length]; exact h⟩⟩
  obtain ⟨v, e1, e2⟩ := r2.get e
  refine ⟨⟨xs, v, q, e1⟩, fun u H3 y => ?_⟩
  obtain ⟨rfl, y⟩ := y
  have e3 := y xs q
  rw [e1] at e3
  cases e3
  exact ⟨Same.refl _, fun S s => e2⟩
theorem Src2.tup {K : PySem.W.Frag} {H : Hp} {μ : Mu} {a : Addr} {xs : List V} {ts : List T} (f : OT K H μ a xs) (r : Rels K H μ ts xs) : Src2 K (Itt K a) ts μ H := fun μ2 H2 E => by
  have f2 : OT K H2 μ2 a xs := f.imp E.fix id
  have q : SqT K H2 a xs := f2.imp (fun z => z.1) id
  have r2 := Rels.to E.1 E.2 ts r
  refine ⟨fun i x e => ?_, fun i h => ⟨xs, q, by rw [← r2.length]; exact h⟩⟩
  obtain ⟨v, e1, e2⟩ := r2.get e
  refine ⟨⟨xs, v, q, e1⟩, fun u H3 y => ?_⟩
  obtain ⟨rfl, y⟩ := y
  have e3 := y xs q
  rw [e1] at e3
  cases e3
  exact ⟨Same.refl _, fun S s => e2⟩
section
variable {X : Cx} {wx : WT} {tg a : Expr} {Fa : FE}
theorem pfi2_list (ha : PF X wx a Fa) : PFI2 X wx tg a (fiL Fa) := PI.imp (pi_list ha) fun σ H Q h => by
  obtain ⟨μ, τ, S, s, f, h⟩ := h
  refine tG.seq s f h fun μ1 H1 t v S1 A1 h1 => ?_
  have r := A1.rel
  cases t with
  | lst ts =>
    simp only [Rel] at r
    obtain ⟨a, xs, rfl, o, r⟩ := r
    have o' : OL X.K H1 μ1 a xs := .inl ⟨.inl o.1, o.2⟩
    exact ⟨a, rfl, ⟨xs, .inl (.inl o.1)⟩, h1.here A1.st (Src2.list o' r)⟩
  | sls ts =>
    simp only [Rel] at r
    obtain ⟨a, xs, rfl, o, r⟩ := r
    exact ⟨a, rfl, ⟨xs, o.imp (fun z => z.1) fun z => z⟩, h1.here A1.st (Src2.list o r)⟩
  | _ => exact h1.elim
theorem pfi2_tup (ha : PF X wx a Fa) : PFI2 X wx tg a (fiT Fa) := PI.imp (pi_tup ha) fun σ H Q h => by
  obtain ⟨μ, τ, S, s, f, h⟩ := h
  refine tG.seq s f h fun μ1 H1 t v S1 A1 h1 => ?_
  have r := A1.rel
  cases t with
  | tup ts =>
    simp only [Rel] at r
    obtain ⟨a, xs, rfl, o, r⟩ := r
    exact ⟨a, rfl, ⟨xs, o.imp (fun z => z.1) fun z => z⟩, h1.here A1.st (Src2.tup o r)⟩
  | _ => exact h1.elim
end
/-! ### a list comprehension with two walks -/
def lc2F (g : GT) (Ft : FT) (Fi1 : FI) (g1 : GT) (Ft1 : FT) (Fe : FE) (vs1 : List Nat) (vs : List Nat) (τ : Fr) : List T → Sto → Res (List T)
  | [], S => .ok [] S
  | x :: xs, S => match g x with
    | none => .stuck
    | some l => if slotsIn l vs then (Ft (setsT τ l) S).nox.bind fun k S1 => match k with
        | true => (Fi1 (setsT τ l) S1).nox.bind fun ys S2 => if ys.length ≤ 1000 then (lcF g1 Ft1 Fe vs1 (wipeT (setsT τ l) vs1) ys S2).bind fun zs S3 => (lc2F g Ft Fi1 g1 Ft1 Fe vs1 vs τ xs S3).bind fun ws S4 => .ok (zs ++ ws) S4 else .stuck
        | false => lc2F g Ft Fi1 g1 Ft1 Fe vs1 vs τ xs S1
      else .stuck
def fLc2 (Fi : FI) (g : GT) (Ft : FT) (Fi1 : FI) (g1 : GT) (Ft1 : FT) (Fe : FE) (vs1 vs : List Nat) : FE := fun τ S => (Fi τ S).bind fun xs S1 => if xs.length ≤ 1000 then (lc2F g Ft Fi1 g1 Ft1 Fe vs1 vs (wipeT τ vs) xs S1).bind fun ys S2 => .ok (.lst ys) S2 else .stuck
theorem lc_len {g : GT} {Ft : FT} {Fe : FE} {vs : List Nat} {τ : Fr} : ∀ {xs : List T} {S S1 : Sto} {zs : List T}, lcF g Ft Fe vs τ xs S = .ok zs S1 → zs.length ≤ xs.length := by
  intro xs
  induction xs with
  | nil => intro S S1 zs h; cases h; exact Nat.le_refl _
  | cons x xs ih =>
    intro S S1 zs h
    simp only [lcF] at h
    cases eg : g x with
    | none => rw [eg] at h; cases h
    | some l =>
      rw [eg] at h
      simp only at h
      by_cases ha : slotsIn l vs = true
      · rw [if_pos ha] at h
        cases et : Ft (setsT τ l) S with
        | stuck => rw [et] at h; cases h
        | exc x S4 => rw [et] at h; cases h
        | ok k S4 =>
          rw [et] at h
          simp only [Res.nox, Res.bind] at h
          cases k with
          | false => exact Nat.le_succ_of_le (ih h)
          | true =>
            simp only at h
            cases ee : Fe (setsT τ l) S4 with
            | stuck => rw [ee] at h; cases h
            | exc x S5 => rw [ee] at h; cases h
            | ok y S5 =>
              rw [ee] at h
              simp only at h
              cases er : lcF g Ft Fe vs τ xs S5 with
              | stuck => rw [er] at h; cases h
              | exc x S6 => rw [er] at h; cases h
              | ok ys S6 =>
                rw [er] at h
                cases h
                exact Nat.succ_le_succ (ih er)
      · rw [if_neg ha] at h; cases h
section
variable {X : Cx} {wx : WT} {pos : Pos}
theorem lc2_imp {Fi Fi1 : FI} {g g1 : GT} {Ft Ft1 : FT} {Fe : FE} {vs vs1 : List Nat} {σ : L2.St} {H : Hp} {Q : VK} (h : tN X.K wx (fLc2 Fi g Ft Fi1 g1 Ft1 Fe vs1 vs) σ H Q) :
    tLc2 (wiT X.K wx Fi) (gT X.K g) (tG X.K wF rB Ft) (wiT2 X.K wF Fi1) (gT X.K g1) (tG X.K wF rB Ft1) (tG X.K wF (rV X.K) Fe) vs vs1 σ H Q := by
  obtain ⟨μ, τ, S, s, f, h⟩ := h
  refine tG.seqN s f h fun μ1 H1 xs J S1 A1 h1 => ?_
  by_cases hl : xs.length ≤ 1000
  · rw [if_pos hl] at h1
    intro D hD
    have hD0 : H D = none := A1.ext.back hD
    have sz : 2000000 < sizeLine := by decide
    refine ⟨fun i m H2 => ∃ M S2 acc accT, Ext H1 μ1 H2 M ∧ D ∈ M.r ∧ RelS X.K H2 M S2 ∧ RelF X.K H2 M τ σ ∧ H2 D = some (.lst acc) ∧ Rels X.K H2 M accT acc ∧ acc.length ≤ 1000 * i ∧ i ≤ xs.length ∧ m = xs.length - i ∧
        postN X.K (wx.fr τ σ) μ H ((lc2F g Ft Fi1 g1 Ft1 Fe vs1 vs (wipeT τ vs) (xs.drop i) S2).bind fun ys S3 => .ok (.lst (accT ++ ys)) S3) Q,
      ⟨xs.length, μ1.hide D, S1, [], [], Ext.hide hD, List.mem_cons_self, A1.st.hide hD, RelF.to (μ := μ1) (fun _ _ e => e) (hide_keep hD) A1.fr, upd_same, by simp only [Rels], Nat.zero_le _, Nat.zero_le _, rfl, by simpa using h1⟩, fun i m H2 hW => ?_⟩
    obtain ⟨M, S2, acc, accT, E2, nr2, s2, f2, d2, a2, hai, hix, rfl, h2⟩ := hW
    obtain ⟨go, stop⟩ := A1.rel M H2 E2
    by_cases hlt : i < xs.length
    · rw [drop_cons hlt] at h2
      obtain ⟨hgo, hy⟩ := go i xs[i] (List.getElem?_eq_getElem hlt)
      refine .inr ⟨hgo, fun H' => ∃ M S2 acc accT, Ext H1 μ1 H' M ∧ D ∈ M.r ∧ RelS X.K H' M S2 ∧ RelF X.K H' M τ σ ∧ H' D = some (.lst acc) ∧ Rels X.K H' M accT acc ∧ acc.length ≤ 1000 * (i + 1) ∧
        postN X.K (wx.fr τ σ) μ H ((lc2F g Ft Fi1 g1 Ft1 Fe vs1 vs (wipeT τ vs) (xs.drop (i + 1)) S2).bind fun ys S3 => .ok (.lst (accT ++ ys)) S3) Q, fun H' hN' => ?_, fun v H3 yl => ?_⟩
      · obtain ⟨M3, S3, acc3, accT3, q1, q2, q3, q4, q5, q6, q7, q8⟩ := hN'
        exact ⟨xs.length - (i + 1), by omega, M3, S3, acc3, accT3, q1, q2, q3, q4, q5, q6, q7, hlt, rfl, q8⟩
      · obtain ⟨sm, hr⟩ := hy v H3 yl
        have E3 : Ext H2 M H3 M := Ext.of_same sm
        have s3 := s2.same sm
        have f3 := f2.mono E3
        simp only [lc2F] at h2
        cases eg : g xs[i] with
        | none => simp only [eg] at h2; exact h2.elim
        | some l =>
          simp only [eg] at h2
          by_cases ha : slotsIn l vs = true
          · rw [if_pos ha] at h2
            refine ⟨M, xs[i], l, hr S2 s2, eg, fun l' fl => ⟨wipe_back (slotsIn_mem ha fl), ?_⟩⟩
            have fb : RelF X.K H3 M (setsT (wipeT τ vs) l) (setsV (wipe σ vs) l') := RelF.sets fl (relF_wipe f3 vs)
            cases et : Ft (setsT (wipeT τ vs) l) S2 with
            | stuck => rw [et] at h2; exact h2.elim
            | exc x S4 => rw [et] at h2; exact h2.elim
            | ok k S4 =>
              rw [et] at h2
              simp only [Res.nox, Res.bind] at h2
              refine tG.known s3 fb et fun M4 H4 b A4 => ?_
              have e : k = b := A4.rel
              subst e
              have E4 : Ext H2 M H4 M4 := E3.trans A4.ext
              have nr4 : D ∈ M4.r := A4.ext.res.1 D nr2
              have d4 : H4 D = some (.lst acc) := E4.keep D _ d2 (s2.dis D nr2)
              cases k with
              | false =>
                simp only at h2
                exact iteF ⟨M4, S4, acc, accT, E2.trans E4, nr4, A4.st, f2.mono E4, d4, Rels.mono E4 _ a2, by omega, h2⟩
              | true =>
                simp only at h2
                refine iteT ?_
                cases ei : Fi1 (setsT (wipeT τ vs) l) S4 with
                | stuck => rw [ei] at h2; exact h2.elim
                | exc x S5 => rw [ei] at h2; exact h2.elim
                | ok ys S5 =>
                  rw [ei] at h2
                  simp only at h2
                  by_cases hl1 : ys.length ≤ 1000
                  · rw [if_pos hl1] at h2
                    refine tG.known A4.st A4.fr ei fun M5 H5 J1 A5 => ?_
                    have E5 : Ext H2 M H5 M5 := E4.trans A5.ext
                    have nr5 : D ∈ M5.r := A5.ext.res.1 D nr4
                    have d5 : H5 D = some (.lst acc) := E5.keep D _ d2 (s2.dis D nr2)
                    -- the inner walk
                    refine ⟨fun j m H6 => ∃ M6 S6 ac acT, Sup H5 M5 H6 M6 ∧ Ext H1 μ1 H6 M6 ∧ D ∈ M6.r ∧ RelS X.K H6 M6 S6 ∧ RelF X.K H6 M6 τ σ ∧ RelF X.K H6 M6 (setsT (wipeT τ vs) l) (setsV (wipe σ vs) l') ∧ H6 D = some (.lst ac) ∧ Rels X.K H6 M6 acT ac ∧ ac.length ≤ 1000 * i + j ∧ j ≤ ys.length ∧ m = ys.length - j ∧
                        postN X.K (wx.fr τ σ) μ H ((lcF g1 Ft1 Fe vs1 (wipeT (setsT (wipeT τ vs) l) vs1) (ys.drop j) S6).bind fun zs S7 => (lc2F g Ft Fi1 g1 Ft1 Fe vs1 vs (wipeT τ vs) (xs.drop (i + 1)) S7).bind fun ws S8 => .ok (.lst (acT ++ (zs ++ ws))) S8) Q,
                      ⟨ys.length, M5, S5, acc, accT, Sup.refl _ _, E2.trans E5, nr5, A5.st, f2.mono E5, A5.fr, d5, Rels.mono E5 _ a2, by omega, Nat.zero_le _, rfl, ?_⟩, fun j m H6 hW => ?_⟩
                    · rw [List.drop_zero]
                      refine cast ?_ h2
                      congr 1
                      cases lcF g1 Ft1 Fe vs1 (wipeT (setsT (wipeT τ vs) l) vs1) ys S5 with
                      | stuck => rfl
                      | exc x S => rfl
                      | ok zs S =>
                        simp only [Res.bind]
                        cases lc2F g Ft Fi1 g1 Ft1 Fe vs1 vs (wipeT τ vs) (xs.drop (i + 1)) S <;> rfl
                    · obtain ⟨M6, S6, ac, acT, E6, E16, nr6, s6, f6, fb6, d6, a6, hac, hjy, rfl, h6⟩ := hW
                      obtain ⟨go1, stop1⟩ := A5.rel M6 H6 E6
                      by_cases hlt1 : j < ys.length
                      · rw [drop_cons hlt1] at h6
                        obtain ⟨hgo1, hy1⟩ := go1 j ys[j] (List.getElem?_eq_getElem hlt1)
                        refine .inr ⟨hgo1, fun H' => ∃ M6 S6 ac acT, Sup H5 M5 H' M6 ∧ Ext H1 μ1 H' M6 ∧ D ∈ M6.r ∧ RelS X.K H' M6 S6 ∧ RelF X.K H' M6 τ σ ∧ RelF X.K H' M6 (setsT (wipeT τ vs) l) (setsV (wipe σ vs) l') ∧ H' D = some (.lst ac) ∧ Rels X.K H' M6 acT ac ∧ ac.length ≤ 1000 * i + (j + 1) ∧
                          postN X.K (wx.fr τ σ) μ H ((lcF g1 Ft1 Fe vs1 (wipeT (setsT (wipeT τ vs) l) vs1) (ys.drop (j + 1)) S6).bind fun zs S7 => (lc2F g Ft Fi1 g1 Ft1 Fe vs1 vs (wipeT τ vs) (xs.drop (i + 1)) S7).bind fun ws S8 => .ok (.lst (acT ++ (zs ++ ws))) S8) Q, fun H' hN' => ?_, fun v H7 yl1 => ?_⟩
                        · obtain ⟨M3, S3, acc3, accT3, q0, q1, q2, q3, q4, q4', q5, q6, q7, q8⟩ := hN'
                          exact ⟨ys.length - (j + 1), by omega, M3, S3, acc3, accT3, q0, q1, q2, q3, q4, q4', q5, q6, q7, hlt1, rfl, q8⟩
                        · obtain ⟨sm1, hr1⟩ := hy1 v H7 yl1
                          have E7 : Ext H6 M6 H7 M6 := Ext.of_same sm1
                          have s7 := s6.same sm1
                          simp only [lcF] at h6
                          cases eg1 : g1 ys[j] with
                          | none => simp only [eg1] at h6; exact h6.elim
                          | some l1 =>
                            simp only [eg1] at h6
                            by_cases ha1 : slotsIn l1 vs1 = true
                            · rw [if_pos ha1] at h6
                              refine ⟨M6, ys[j], l1, hr1 S6 s6, eg1, fun l1' fl1 => ⟨wipe_back (slotsIn_mem ha1 fl1), ?_⟩⟩
                              have fb7 : RelF X.K H7 M6 (setsT (wipeT (setsT (wipeT τ vs) l) vs1) l1) (setsV (wipe (setsV (wipe σ vs) l') vs1) l1') := RelF.sets fl1 (relF_wipe (fb6.mono E7) vs1)
                              cases et1 : Ft1 (setsT (wipeT (setsT (wipeT τ vs) l) vs1) l1) S6 with
                              | stuck => rw [et1] at h6; exact h6.elim
                              | exc x S9 => rw [et1] at h6; exact h6.elim
                              | ok k1 S9 =>
                                rw [et1] at h6
                                simp only [Res.nox, Res.bind] at h6
                                refine tG.known s7 fb7 et1 fun M9 H9 b1 A9 => ?_
                                have e1 : k1 = b1 := A9.rel
                                subst e1
                                have E9 : Ext H6 M6 H9 M9 := E7.trans A9.ext
                                have nr9 : D ∈ M9.r := A9.ext.res.1 D nr6
                                cases k1 with
                                | false =>
                                  simp only at h6
                                  exact iteF ⟨M9, S9, ac, acT, E6.trans E9.sup, E16.trans E9, nr9, A9.st, f6.mono E9, fb6.mono E9, E9.keep D _ d6 (s6.dis D nr6), Rels.mono E9 _ a6, by omega, h6⟩
                                | true =>
                                  simp only at h6
                                  refine iteT ?_
                                  cases ee : Fe (setsT (wipeT (setsT (wipeT τ vs) l) vs1) l1) S9 with
                                  | stuck => rw [ee] at h6; exact h6.elim
                                  | exc x S10 => rw [ee] at h6; exact h6.elim
                                  | ok y S10 =>
                                    rw [ee] at h6
                                    simp only at h6
                                    refine tG.known A9.st A9.fr ee fun M10 H10 w A10 => ?_
                                    have E10 : Ext H6 M6 H10 M10 := E9.trans A10.ext
                                    have nr10 : D ∈ M10.r := A10.ext.res.1 D nr9
                                    have d10 : H10 D = some (.lst ac) := E10.keep D _ d6 (s6.dis D nr6)
                                    have hD5 : H1 D = none := hD
                                    have keepD : ∀ a u, H10 a = some u → M10.out a → upd H10 D (.lst (ac ++ [w])) a = some u ∧ M10.out a := hid_keep nr10
                                    have i1000 : 1000 * i ≤ 1000 * 1000 := Nat.mul_le_mul_left _ (by omega)
                                    refine ⟨ac, d10, by omega, M10, S10, ac ++ [w], acT ++ [y], (E6.trans E10.sup).trans (Sup.hid nr10), (E16.trans E10).hid hD, nr10, A10.st.hid nr10, RelF.to (μ := M10) (fun _ _ e => e) keepD (f6.mono E10), RelF.to (μ := M10) (fun _ _ e => e) keepD (fb6.mono E10), upd_same, ?_, by simp; omega, ?_⟩
                                    · refine Rels.to (μ := M10) (fun _ _ e => e) keepD _ (Rels.append (Rels.mono E10 _ a6) ?_)
                                      simp only [Rels]
                                      exact ⟨w, [], rfl, A10.rel, rfl⟩
                                    · cases er : lcF g1 Ft1 Fe vs1 (wipeT (setsT (wipeT τ vs) l) vs1) (ys.drop (j + 1)) S10 with
                                      | stuck => rw [er] at h6; exact h6.elim
                                      | exc x S11 => rw [er] at h6; exact h6
                                      | ok zs S11 =>
                                        rw [er] at h6
                                        simp only [Res.bind] at h6 ⊢
                                        simp only [List.append_assoc, List.cons_append, List.nil_append] at h6 ⊢
                                        exact h6
                            · rw [if_neg ha1] at h6; exact h6.elim
                      · have e : j = ys.length := by omega
                        subst e
                        rw [List.drop_length] at h6
                        refine .inl ⟨stop1 _ (Nat.le_refl _), M6, S6, ac, acT, E16, nr6, s6, f6, d6, a6, by omega, ?_⟩
                        simp only [lcF, Res.bind, List.nil_append] at h6
                        exact h6
                  · rw [if_neg hl1] at h2; exact h2.elim
          · rw [if_neg ha] at h2; exact h2.elim
    · have e : i = xs.length := by omega
      subst e
      rw [List.drop_length] at h2
      refine .inl ⟨stop _ (Nat.le_refl _), ?_⟩
      simp only [lc2F, Res.bind, List.append_nil] at h2
      exact h2 M H2 D (A1.ext.trans E2) hD0 nr2 s2 ⟨acc, d2, a2⟩
  · rw [if_neg hl] at h1; exact h1.elim
theorem pfn_lc2 {elt tg iter tg1 iter1 : Expr} {ifs ifs1 : List Expr} {scope : Scope} {own : List (Str × Nat)} {vs1 : List Nat} {Fi Fi1 : FI} {g g1 : GT} {Ft Ft1 : FT} {Fe : FE} (hc : X.calm = true) (hN : X.N.Nodup) (hi : PFI X wx tg iter Fi) (ok : BlkOk X.N X.env.scope scope own) (hv : ∀ i ∈ vs1, i ∈ own.map (·.2))
    (hg : ∀ (s : Shared) (H : Hp) (C : Addr) (cl : List (Str × Addr)) (fp : List Addr), PFG (X.blk s H scope (compEnvC scope cl C X.env) fp) tg g) (ht : ∀ (s : Shared) (H : Hp) (C : Addr) (cl : List (Str × Addr)) (fp : List Addr), PFTs (X.blk s H scope (compEnvC scope cl C X.env) fp) wF ifs Ft)
    (hi1 : ∀ (s : Shared) (H : Hp) (C : Addr) (cl : List (Str × Addr)) (fp : List Addr), PFI2 (X.blk s H scope (compEnvC scope cl C X.env) fp) wF tg1 iter1 Fi1)
    (hg1 : ∀ (s : Shared) (H : Hp) (C : Addr) (cl : List (Str × Addr)) (fp : List Addr), PFG (X.blk s H scope (compEnvC scope cl C X.env) fp) tg1 g1) (ht1 : ∀ (s : Shared) (H : Hp) (C : Addr) (cl : List (Str × Addr)) (fp : List Addr), PFTs (X.blk s H scope (compEnvC scope cl C X.env) fp) wF ifs1 Ft1)
    (he : ∀ (s : Shared) (H : Hp) (C : Addr) (cl : List (Str × Addr)) (fp : List Addr), PF (X.blk s H scope (compEnvC scope cl C X.env) fp) wF elt Fe) (hs : ∀ x, foldedSetIterable iter X.env x = pure x := by intro _; rfl) (hs1 : ∀ env x, foldedSetIterable iter1 env x = pure x := by intro _ _; rfl) :
    PFN X wx (.ListComp elt [⟨tg, iter, ifs, 0⟩, ⟨tg1, iter1, ifs1, 0⟩] scope pos) (fLc2 Fi g Ft Fi1 g1 Ft1 Fe vs1 (own.map (·.2))) :=
  PE.imp (pe_lc2 (wi1 := wiT2 X.K wF Fi1) (g := gT X.K g) (tt := tG X.K wF rB Ft) (g1 := gT X.K g1) (tt1 := tG X.K wF rB Ft1) (te := tG X.K wF (rV X.K) Fe) hc hN hi ok hv hg ht hi1 hg1 ht1 he hs hs1) fun _ _ _ h => lc2_imp h
section
variable {elt tg iter tg1 iter1 : Expr} {ifs ifs1 : List Expr} {scope : Scope} {own : List (Str × Nat)} {vs1 : List Nat} {Fi Fi1 : FI} {g g1 : GT} {Ft Ft1 : FT} {Fe : FE} {i : Nat} {y : Str} {py spos : Pos} (hc : X.calm = true) (hN : X.N.Nodup) (hy : X.N[i]? = some y) (hyl : X.env.scope.names.lookup y = some .local)
  (hsw : swapsWith (.ListComp elt [⟨tg, iter, ifs, 0⟩, ⟨tg1, iter1, ifs1, 0⟩] scope pos) (some (.Name y py)) spos.line X.env = pure true) (hi : PFI X wx tg iter Fi) (ok : BlkOk X.N X.env.scope scope own) (hv : ∀ i ∈ vs1, i ∈ own.map (·.2))
  (hg : ∀ (s : Shared) (H : Hp) (C : Addr) (cl : List (Str × Addr)) (fp : List Addr), PFG (X.blk s H scope (compEnvC scope cl C X.env) fp) tg g) (ht : ∀ (s : Shared) (H : Hp) (C : Addr) (cl : List (Str × Addr)) (fp : List Addr), PFTs (X.blk s H scope (compEnvC scope cl C X.env) fp) wF ifs Ft)
  (hi1 : ∀ (s : Shared) (H : Hp) (C : Addr) (cl : List (Str × Addr)) (fp : List Addr), PFI2 (X.blk s H scope (compEnvC scope cl C X.env) fp) wF tg1 iter1 Fi1)
  (hg1 : ∀ (s : Shared) (H : Hp) (C : Addr) (cl : List (Str × Addr)) (fp : List Addr), PFG (X.blk s H scope (compEnvC scope cl C X.env) fp) tg1 g1) (ht1 : ∀ (s : Shared) (H : Hp) (C : Addr) (cl : List (Str × Addr)) (fp : List Addr), PFTs (X.blk s H scope (compEnvC scope cl C X.env) fp) wF ifs1 Ft1)
  (he : ∀ (s : Shared) (H : Hp) (C : Addr) (cl : List (Str × Addr)) (fp : List Addr), PF (X.blk s H scope (compEnvC scope cl C X.env) fp) wF elt Fe) (hs : ∀ x, foldedSetIterable iter X.env x = pure x := by intro _; rfl) (hs1 : ∀ env x, foldedSetIterable iter1 env x = pure x := by intro _ _; rfl)
include hc hN hy hyl hsw hi ok hv hg ht hi1 hg1 ht1 he hs hs1
theorem pfs_setLc2 : PFS X wx (.Assign [.Name y py] (.ListComp elt [⟨tg, iter, ifs, 0⟩, ⟨tg1, iter1, ifs1, 0⟩] scope pos) spos) (bSet i (fPure (fLc2 Fi g Ft Fi1 g1 Ft1 Fe vs1 (own.map (·.2))))) :=
  PS.imp (ps_setLc2 (wi1 := wiT2 X.K wF Fi1) (g := gT X.K g) (tt := tG X.K wF rB Ft) (g1 := gT X.K g1) (tt1 := tG X.K wF rB Ft1) (te := tG X.K wF (rV X.K) Fe) hc hN hy hyl hsw hi ok hv hg ht hi1 hg1 ht1 he hs hs1) fun D σ H h => by
    have h1 := pure_imp (set_imp h)
    exact lc2_imp h1
end
end
end TL
set_option Elab.async false
set_option linter.all false
set_option maxRecDepth 100000
set_option maxHeartbeats 2000000
namespace TL
open PySem PySem.Spec L2
open PyProof.Rows hiding St
/-! ### enumerate of a text -/
set_option maxHeartbeats 1000000 in
theorem enum_newX (x : Str) (t : Tok) :
    Meets (Builtin.«enumerate.__new__» ⟨[.type "enumerate", .str x t], []⟩) (fun _ R s =>
      R (.ok (.ret (.ref (s.heap.push { cls := .type (strIterType x), data := .fields #[.str x t, .int 0 0] }).objs.size)))
        { s with heap := (s.heap.push { cls := .type (strIterType x), data := .fields #[.str x t, .int 0 0] }).push { cls := .type "enumerate", data := .fields #[.none, .bool false, .ref s.heap.objs.size, rawInt 0, .none, .none] } }) :=
  .of_wp fun prog w A R s q => by
    obtain ⟨h0, g, d, tk, os⟩ := s
    have hE := sub_enumerate
    wp_walk using wpAny_pyIter_strU
    refine wpAny_stack_any fun st => wpAny_pure ?_
    split
    case h_1 c _ _ _ _ _ => cases (c == Value.type "enumerate") <;> (wp_walk using wpAny_pyIter_strU; exact ⟨_, rfl, q⟩)
    all_goals (wp_walk using wpAny_pyIter_strU; exact ⟨_, rfl, q⟩)
theorem call_enumX {prog : Program} {w : World} {A : Around} {E : Value → Shared → Prop} {s : Shared} {x : Str} {t : Tok} {Q : Value → Shared → Prop}
    (q : ∀ h', IsEnum h' (s.heap.objs.size + 1) s.heap.objs.size 0 .none → h'.IsStrIter s.heap.objs.size (strIterType x) x t 0 → (∀ b o, s.heap.get? b = some o → h'.get? b = some o) → Q (.ref (s.heap.objs.size + 1)) { s with heap := h' }) :
    wpAny (model prog w) A (call (.type "enumerate") [.str x t]) Q E s := by
  refine callType_new F.called_enumerate (by decide) (F.typeCall_enumerate_1 _) (F.newCall_enumerate_1 _) (fun o => F.args_object_init_2 o _) F.entry_enumerate_new (enum_newX x t) ?_
  have z : (s.heap.push { cls := .type (strIterType x), data := .fields #[.str x t, .int 0 0] }).objs.size = s.heap.objs.size + 1 := Heap.size_push ..
  have e1 := Heap.get?_push_size (s.heap.push { cls := .type (strIterType x), data := .fields #[.str x t, .int 0 0] }) (o := { cls := .type "enumerate", data := .fields #[.none, .bool false, .ref s.heap.objs.size, rawInt 0, .none, .none] }) rfl
  rw [z] at e1
  show _ ∧ _
  rw [z]
  exact ⟨⟨_, e1, rfl⟩, q _ e1 ⟨_, Heap.get?_push_of_some _ (Heap.get?_push_size _ rfl), rfl, rfl⟩ fun b o y => Heap.get?_push_of_some _ (Heap.get?_push_of_some _ y)⟩
/-- the letters of a text, each in a new pair with its number -/
def ItX (x : Str) : It := ⟨fun i _ => i < x.cps.size, fun i H v H' => ∃ T c, v = .ref T ∧ H T = none ∧ x.cps[i]? = some c ∧ H' = upd H T (.tup [.int (i : Nat), .str ⟨#[c]⟩]), fun i _ => x.cps.size ≤ i⟩
theorem turn_enumX {P : Program} {w : World} {K : PySem.W.Frag} {elts : List Expr} {kk : Nat} {tpos : Pos} (x : Str) (t : Tok) (e it : Addr) :
    Turn P w K (.Tuple elts kk tpos) (ItX x) [e, it] e (fun i h => (∃ old, IsEnum h e it ((i : Nat) : Int) old) ∧ h.IsStrIter it (strIterType x) x t i ∧ e ≠ it) where
  mem := List.mem_cons_self
  obj := fun i h st b hb => by
    obtain ⟨⟨old, he⟩, ⟨o, ho, hc, hd⟩, _⟩ := st
    rcases List.mem_cons.mp hb with z | z
    · subst z; exact ⟨_, he, fun v q => nomatch q⟩
    · rw [List.mem_singleton.mp z]; exact ⟨o, ho, fun v q => by rw [hd] at q; cases q⟩
  keep := fun i h h' st k => by
    obtain ⟨⟨old, he⟩, ⟨o, ho, r⟩, hne⟩ := st
    exact ⟨⟨old, k e List.mem_cons_self _ he⟩, ⟨o, k it (List.mem_cons_of_mem _ List.mem_cons_self) o ho, r⟩, hne⟩
  item := by
    intro X hP hw hK hc i pins s σ H E I hf st hg
    subst hP hw hK
    obtain ⟨⟨old, he⟩, hit, hne⟩ := st
    have hel : e < s.heap.objs.size := Heap.lt_size he
    have hil : it < s.heap.objs.size := by obtain ⟨_, q, _⟩ := hit; exact Heap.lt_size q
    refine wpAny_pyNext_enum_itemD (Draws.text (A := X.A.in1) (I.ok.hd hc) it x t) he hit hg hne (by simp [hne]) fun y h' tk hP' ho hit' hTn hsz hk => ?_
    obtain ⟨c, u, hcx, rfl⟩ := hP'
    refine ⟨_, rfl, wpAny_letOwnedTupleGo_enum (s := { s with heap := h', toks := tk + 1 }) ho fun h'' he' sb => ?_⟩
    have hT2 : h''.get? s.heap.objs.size = some { cls := .type "tuple", data := .seq #[.int i tk, .str ⟨#[c]⟩ u] } := (sb.2 _ (Nat.ne_of_gt hel)).trans hTn
    have new : ObjOk X.prog X.w (upd H s.heap.objs.size (.tup [.int (i : Nat), .str ⟨#[c]⟩])) h'' s.heap.objs.size (.tup [.int (i : Nat), .str ⟨#[c]⟩]) :=
      ⟨by show 2 ≤ sizeLine; decide, [.int i tk, .str ⟨#[c]⟩ u], .cons ⟨_, rfl⟩ (.cons ⟨_, rfl⟩ .nil), ⟨_, hT2, rfl, _, rfl⟩⟩
    have I1 : L2.Inv X pins σ (upd H s.heap.objs.size (.tup [.int (i : Nat), .str ⟨#[c]⟩])) { s with heap := h'', toks := tk + 1 } := by
      refine I.turnedNew (ch := [e, it]) (fun b ob hb q => ?_) hf (Nat.le_refl _) new
      have h1 : b ≠ e := fun z => hb (by simp [z])
      have h2 : b ≠ it := fun z => hb (by simp [z])
      exact (sb.2 b h1).trans (hk b ob h1 h2 q)
    obtain ⟨oi, hoi, ri⟩ := hit'
    refine ⟨.ref s.heap.objs.size, _, I1, rfl, ⟨_, c, rfl, I.hok.fresh (Nat.le_refl _), hcx, rfl⟩, ⟨⟨.str ⟨#[c]⟩ u, ?_⟩, ⟨oi, (sb.2 it (Ne.symm hne)).trans hoi, ri⟩, hne⟩, fun b hb => ?_⟩
    · rw [show ((i + 1 : Nat) : Int) = (i : Int) + 1 by omega]
      exact he'
    · have hb' : b < s.heap.objs.size := by
        rcases List.mem_cons.mp hb with z | z
        · rw [z]; exact hel
        · rw [List.mem_singleton.mp z]; exact hil
      rw [upd_ne (Nat.ne_of_lt hb')]
      exact (hf b hb).1
  done := by
    intro X hP hw hK hc i pins s σ H E I hf st hg
    subst hP hw hK
    obtain ⟨⟨old, he⟩, hit, hne⟩ := st
    obtain ⟨f0, f1, f2, f3, f4, f5⟩ := hf it (by simp)
    have hx : x.cps[i]? = none := Array.getElem?_eq_none hg
    have D : Draws X.prog X.w X.A.in1 it [it] 0 (fun _ _ => False) (fun _ h => h.IsStrIter it (strIterType x) x t i) :=
      ⟨fun _ _ st => let ⟨o, ho, _⟩ := st; ⟨o, ho⟩, fun _ _ _ st hk => let ⟨o, ho, r⟩ := st; ⟨o, hk it (by simp) o ho, r⟩, fun _ _ _ _ hi _ _ => absurd hi (Nat.not_lt_zero _),
        fun s Q E st hE => by
          cases ha : x.cps.all (· < 128)
          · simp only [strIterType, ha, Bool.false_eq_true, if_false] at st
            exact wpAny_nextOf_wide_end (show X.A.in1.handled = none from I.ok.hd hc) st hx hE
          · simp only [strIterType, ha, if_true] at st
            exact wpAny_nextOf_ascii_end (show X.A.in1.handled = none from I.ok.hd hc) st hx hE⟩
    exact wpAny_pyNext_enum_endD D he hit fun h' eb => ⟨rfl, I.turned (t' := s.toks) (fun b o hb q => eb b o hb q) f0 f1 f3 f4 f5⟩
  self := fun A i s Q E st h => by
    obtain ⟨⟨_, he⟩, _⟩ := st
    exact wpAny_pyIter_enum he h
def fiEX (Fs : FA) : FI := fun τ S => (Fs τ S).bind fun ts S1 => match ts with
  | [.str x] => .ok (numbT (chars x)) S1
  | _ => .stuck
theorem pfi_enumX {X : Cx} {wx : WT} {e : Expr} {Fs : FA} {p pos tpos : Pos} {elts : List Expr} {kk : Nat} (ha : PFA X wx [e] Fs) (hm : X.mg "enumerate" = none) (hg : Gl X "enumerate" := by rfl) (hs : starEach [e] X.env = [(false, eval e X.env)] := by rfl) :
    PFI X wx (.Tuple elts kk tpos) (.Call (.Name "enumerate" p) [e] [] pos) (fiEX Fs) := by
  refine ⟨fun pins s σ H R I h => ?_⟩
  obtain ⟨μ, τ, S, st, f, h⟩ := h
  refine Call_ (ld_blt I hg hm boot_enumerate (PyProof.Rows.callWith_type1 (thn (ha.run pos pins s σ H (fun vs H1 => ∃ μ1 x S1, At X.K μ H τ σ (rVs X.K) μ1 H1 [.str x] vs S1 ∧ ∀ J, Src X.K J (numbT (chars x)) μ1 H1 → R J H1) I ?_) fun us s1 q1 => ?_) hs rfl))
  · refine tG.seq st f h fun μ1 H1 ts vs S1 A1 h1 => ?_
    split at h1
    · rename_i x
      exact ⟨μ1, x, S1, A1, fun J hJ => h1.here A1.st hJ⟩
    · exact h1.elim
  · obtain ⟨vs, H1, I1, r1, μ1, x, S1, A1, hR⟩ := q1
    obtain ⟨v, rfl, rt⟩ := rels1 (show Rels X.K H1 μ1 [.str x] vs from A1.rel)
    simp only [Rel] at rt
    subst rt
    obtain ⟨u, rfl, ru⟩ := vals1 r1
    obtain ⟨t, rfl⟩ := ru
    refine call_enumX fun h' he hit hk => wpAny_pyIter_enum he ?_
    have I2 : L2.Inv X pins σ H1 { s1 with heap := h' } := I1.kept (t' := s1.toks) hk
    refine ⟨s1.heap.objs.size + 1, [s1.heap.objs.size + 1, s1.heap.objs.size], _, _, H1, rfl, I2, turn_enumX x t (s1.heap.objs.size + 1) s1.heap.objs.size, ⟨⟨.none, he⟩, hit, Nat.succ_ne_self _⟩, fun b hb => ?_, hR _ ?_⟩
    · have hle : s1.heap.objs.size ≤ b := by
        rcases List.mem_cons.mp hb with z | z
        · rw [z]; exact Nat.le_succ _
        · rw [List.mem_singleton.mp z]; exact Nat.le_refl _
      obtain ⟨f0, f1, f2, f3, f4, f5⟩ := I1.fpOk hle (I1.hok.fresh hle)
      exact ⟨f0, f1, f2, f3, f4, f5⟩
    · intro μ2 H2 E
      have hl : (chars x).length = x.cps.size := by simp [chars]
      refine ⟨fun i y ei => ?_, fun i hi => ?_⟩
      · obtain ⟨z, ez, rfl⟩ := zip_range ei
        have hi : i < x.cps.size := by rw [← hl]; exact (List.getElem?_eq_some_iff.mp ez).1
        refine ⟨hi, fun u H3 y => ?_⟩
        obtain ⟨T', c, rfl, nT, hc, rfl⟩ := y
        have ec : z = .str ⟨#[c]⟩ := by
          simp only [chars, List.getElem?_map, Array.getElem?_toList, hc, Option.map_some] at ez
          exact (Option.some.inj ez).symm
        subst ec
        have sm := fresh_same (o := .tup [.int (i : Nat), .str ⟨#[c]⟩]) nT
        refine ⟨sm, fun S s => ?_⟩
        exact rel_tup s nT (by simp only [Rels, Rel]; exact ⟨_, _, rfl, rfl, _, [], rfl, rfl, rfl⟩)
      · show x.cps.size ≤ i
        rw [← hl]
        simpa [numbT] using hi
end TL
set_option Elab.async false
set_option linter.all false
set_option maxRecDepth 100000
namespace SF
open PySem PySem.Spec L2 TL
open PyProof.Rows hiding St
noncomputable def b__law_begin : BS := (bSeq (bSet 1 (fIf (fTest (fBin neT (fVar 0) (fPure (fLstN fNil)))) (fPure (fBlt listT (fCons (fVar 0) fNil))) (fPure (fLstN (fCons (fC (.int 0)) fNil))))) (bRet (fCell (fDisp (((fC (.str "cells")), (fVar 1)) :: (((fC (.str "lefts")), (fCell (fLc (fiA (fVar 1)) (sName 2) fYes (fIf (fTest (fBin geT (fVar 2) (fBin powT (fC (.int 10)) (fC (.int 18))))) (fVar 2) (fC (.int 0))) [2]))) :: (((fC (.str "at")), (fC (.int 0))) :: (((fC (.str "room")), (fC (.int 0))) :: []))))))))
noncomputable def m__law_begin : FF := body ["script", "cells", "cell"] 1 b__law_begin
noncomputable def b__law_mixed : BS := (bSeq (bSet 0 (fBin modT (fBlt intT (fCons (fVar 0) fNil)) (fC (.int 2147483647)))) (bRet (fBin modT (fBin mulT (fBin modT (fBin addT (fBin addT (fBin mulT (fVar 0) (fBin addT (fC (.int 48271)) (fBin mulT (fBin mulT (fC (.int 2)) (fVar 1)) (fVar 1)))) (fBin mulT (fC (.int 69621)) (fVar 1))) (fC (.int 11))) (fC (.int 2147483647))) (fC (.int 69621))) (fC (.int 2147483629)))))
noncomputable def m__law_mixed : FF := body ["cell", "k"] 2 b__law_mixed
noncomputable def b__law_draw : BS := (bSeq (bSet 2 (fBin ixT (fVar 0) (fC (.str "at")))) (bSeq (bStore (fVar 0) (fC (.str "at")) (fBin addT (fVar 2) (fC (.int 1)))) (bSeq (bSet 3 (fBin modT (fBlt intT (fCons (fVar 2) fNil)) (fBlt lenT (fCons (fBin ixT (fVar 0) (fC (.str "cells"))) fNil)))) (bSeq (bSet 4 (fBin ixT (fBin ixT (fVar 0) (fC (.str "lefts"))) (fVar 3))) (bSeq (bIf (fTest (fBin gtT (fVar 4) (fC (.int 0)))) (bSeq (bStore (fBin ixT (fVar 0) (fC (.str "lefts"))) (fVar 3) (fBin fdivT (fVar 4) (fVar 1))) (bRet (fBin modT (fBlt intT (fCons (fVar 4) fNil)) (fVar 1)))) bNext) (bSeq (bSet 5 (fCall m__law_mixed (fCons (fCall m__law_mixed (fCons (fBin ixT (fBin ixT (fVar 0) (fC (.str "cells"))) (fVar 3)) (fCons (fVar 2) fNil))) (fCons (fBin addT (fC (.int 40)) (fVar 2)) fNil)))) (bRet (fBin modT (fBin fdivT (fBlt intT (fCons (fBin addT (fBin mulT (fVar 5) (fC (.int 2147483647))) (fCall m__law_mixed (fCons (fVar 5) (fCons (fBin addT (fC (.int 7)) (fVar 2)) fNil)))) fNil)) (fC (.int 64))) (fVar 1)))))))))
noncomputable def m__law_draw : FF := body ["state", "many", "at", "place", "left", "number"] 2 b__law_draw
noncomputable def b__law_value : BS := (bRet (fBin ixT (fPure (fLstN (fCons (fC (.str "plain")) (fCons (fC (.str "u")) (fCons (fC (.str "v")) (fCons (fC (.str "u")) fNil)))))) (fCall m__law_draw (fCons (fVar 0) (fCons (fC (.int 4)) fNil)))))
noncomputable def m__law_value : FF := body ["state"] 1 b__law_value
noncomputable def b__law_book : BS := (bSeq (bSet 2 (fBin ixT (fPure (fLstN (fCons (fTup (fCons (fC (.str "a")) fNil)) (fCons (fTup (fCons (fC (.str "a")) (fCons (fC (.str "b")) fNil))) (fCons (fTup (fCons (fC (.str "a")) (fCons (fC (.str "b")) (fCons (fC (.str "c")) fNil)))) (fCons (fTup (fCons (fC (.str "a")) (fCons (fC (.str "b")) fNil))) fNil)))))) (fCall m__law_draw (fCons (fVar 0) (fCons (fC (.int 4)) fNil))))) (bSeq (bSet 3 (fBlt tupT (fCons (fPure (fLc (fiA (fVar 2)) (sName 8) (fTest (fBin eqT (fCall m__law_draw (fCons (fVar 0) (fCons (fC (.int 2)) fNil))) (fC (.int 0)))) (fVar 8) [8])) fNil))) (bSeq (bSet 4 (fCell (fLstN fNil))) (bSeq (bFor (fiR1 (fCons (fBin addT (fC (.int 1)) (fCall m__law_draw (fCons (fVar 0) (fCons (fVar 1) fNil)))) fNil)) (sName 5) (bSeq (bSet 6 (fBlt tupT (fCons (fPure (fLc (fiA (fVar 2)) (sName 8) (fTest (fBin eqT (fCall m__law_draw (fCons (fVar 0) (fCons (fC (.int 2)) fNil))) (fC (.int 0)))) (fTup (fCons (fVar 8) (fCons (fCall m__law_value (fCons (fVar 0) fNil)) fNil))) [8])) fNil))) (bSeq (bIf (fTest (fBin eqT (fVar 6) (fTup fNil))) (bSet 6 (fTup (fCons (fTup (fCons (fBin ixT (fVar 2) (fC (.int 0))) (fCons (fCall m__law_value (fCons (fVar 0) fNil)) fNil))) fNil))) bNext) (bSeq (bSet 7 (fBin ixT (fPure (fLstN (fCons (fC (.str "1")) (fCons (fC (.str "2")) (fCons (fC (.str "22")) (fCons (fC (.str "3;4")) (fCons (fC (.str "0")) (fCons (fC (.str "38;5;1")) (fCons (fC (.str "9")) (fCons (fC (.str "44")) fNil)))))))))) (fVar 5))) (bExpr (fApp (fVar 4) (fCons (fTup (fCons (fVar 7) (fCons (fBin ixT (fPure (fLstN (fCons (fC (.str "j")) (fCons (fC (.str "k")) (fCons (fC (.str "k")) (fCons (fC (.str "l")) fNil)))))) (fCall m__law_draw (fCons (fVar 0) (fCons (fC (.int 4)) fNil)))) (fCons (fVar 6) fNil)))) fNil))))))) (bRet (fTup (fCons (fVar 2) (fCons (fVar 3) (fCons (fBlt tupT (fCons (fVar 4) fNil)) fNil)))))))))
noncomputable def m__law_book : FF := gc (body ["state", "most", "aspects", "blank", "codes", "k", "gives", "word", "aspect"] 2 b__law_book)
noncomputable def b__law_stream : BS := (bSeq (bPar 4 5 (fCons (fPure (fLc (fiA (fBin ixT (fVar 1) (fC (.int 2)))) (sName 6) fYes (fBin ixT (fVar 6) (fC (.int 0))) [6])) (fCons (fCell (fLstN fNil)) fNil))) (bSeq (bFor (fiR1 (fCons (fCall m__law_draw (fCons (fVar 0) (fCons (fBin addT (fVar 2) (fC (.int 1))) fNil))) fNil)) (sName 3) (bIf (fTest (fBin gtT (fCall m__law_draw (fCons (fVar 0) (fCons (fC (.int 3)) fNil))) (fC (.int 0)))) (bExpr (fApp (fVar 5) (fCons (fBin ixT (fVar 4) (fCall m__law_draw (fCons (fVar 0) (fCons (fBlt lenT (fCons (fVar 4) fNil)) fNil)))) fNil))) (bExpr (fApp (fVar 5) (fCons (fBin ixT (fPure (fLstN (fCons (fC (.str "x")) (fCons (fC (.str "y")) (fCons (fC (.str "x")) (fCons (fC (.str " ")) (fCons (fC (.str "z")) (fCons (fC (.str "\n")) fNil)))))))) (fCall m__law_draw (fCons (fVar 0) (fCons (fC (.int 6)) fNil)))) fNil))))) (bRet (fBlt tupT (fCons (fVar 5) fNil)))))
noncomputable def m__law_stream : FF := gc (body ["state", "book", "most", "k", "words", "found", "code"] 3 b__law_stream)
noncomputable def b__law_sets : BS := (bSeq (bSet 1 (fPure (fLstN (fCons (fTup fNil) fNil)))) (bSeq (bFor (fiA (fVar 0)) (sName 2) (bSet 1 (fBin addT (fVar 1) (fPure (fLc (fiA (fVar 1)) (sName 3) fYes (fBin addT (fVar 3) (fTup (fCons (fVar 2) fNil))) [3]))))) (bRet (fPure (fBlt sortLenT (fCons (fVar 1) fNil))))))
noncomputable def m__law_sets : FF := body ["words", "found", "word", "row"] 1 b__law_sets
noncomputable def b_is_short : BS := (bRet (fAnd (fBlt isiT (fCons (fVar 0) (fCons (fC (.val (.ty "str"))) fNil))) (fChain leT leT (fC (.int 1)) (fBlt lenT (fCons (fVar 0) fNil)) (fC (.int 8)))))
noncomputable def m_is_short : FF := body ["thing"] 1 b_is_short
noncomputable def b_is_word : BS := (bSeq (bIf (fOrT (fNotT (fTru (fCall m_is_short (fCons (fVar 0) fNil)))) (fOrT (fTest (fBin eqT (fBin ixT (fVar 0) (fC (.int 0))) (fC (.str ";")))) (fTest (fBin eqT (fBin ixT (fVar 0) (fUn negT (fC (.int 1)))) (fC (.str ";")))))) (bRet (fC (.bl false))) bNext) (bRet (fBlt allT (fCons (fPure (fLc (fiA (fVar 0)) (sName 1) fYes (fOr (fBin inT (fVar 1) (fC (.str "0123456789"))) (fBin eqT (fVar 1) (fC (.str ";")))) [1])) fNil))))
noncomputable def m_is_word : FF := body ["thing", "sign"] 1 b_is_word
noncomputable def b_is_name : BS := (bRet (fAnd (fCall m_is_short (fCons (fVar 0) fNil)) (fBlt allT (fCons (fPure (fLc (fiA (fVar 0)) (sName 1) fYes (fBin inT (fVar 1) (fC (.str "abcdefghijklmnopqrstuvwxyz"))) [1])) fNil))))
noncomputable def m_is_name : FF := body ["thing", "sign"] 1 b_is_name
noncomputable def b_ascend : BS := (bRet (fBlt allT (fCons (fPure (fLc (fiR2 (fCons (fC (.int 1)) (fCons (fBlt lenT (fCons (fVar 0) fNil)) fNil))) (sName 1) fYes (fBin ltT (fBin ixT (fVar 0) (fBin subT (fVar 1) (fC (.int 1)))) (fBin ixT (fVar 0) (fVar 1))) [1])) fNil)))
noncomputable def m_ascend : FF := body ["names", "at"] 1 b_ascend
noncomputable def b_is_name_pair : BS := (bRet (fAnd (fBlt isiT (fCons (fVar 0) (fCons (fC (.val (.ty "tuple"))) fNil))) (fAnd (fBin eqT (fBlt lenT (fCons (fVar 0) fNil)) (fC (.int 2))) (fAnd (fCall m_is_name (fCons (fBin ixT (fVar 0) (fC (.int 0))) fNil)) (fCall m_is_name (fCons (fBin ixT (fVar 0) (fC (.int 1))) fNil))))))
noncomputable def m_is_name_pair : FF := body ["thing"] 1 b_is_name_pair
noncomputable def b_are_gifts : BS := (bSeq (bIf (fOrT (fNotT (fTru (fBlt isiT (fCons (fVar 0) (fCons (fC (.val (.ty "tuple"))) fNil))))) (fTest (fBin eqT (fBlt lenT (fCons (fVar 0) fNil)) (fC (.int 0))))) (bRet (fC (.bl false))) bNext) (bRet (fAnd (fBlt allT (fCons (fPure (fLc (fiA (fVar 0)) (sName 1) fYes (fCall m_is_name_pair (fCons (fVar 1) fNil)) [1])) fNil)) (fCall m_ascend (fCons (fPure (fLc (fiA (fVar 0)) (sName 1) fYes (fBin ixT (fVar 1) (fC (.int 0))) [1])) fNil)))))
noncomputable def m_are_gifts : FF := body ["thing", "pair"] 1 b_are_gifts
noncomputable def b_is_code : BS := (bSeq (bIf (fOrT (fNotT (fTru (fBlt isiT (fCons (fVar 0) (fCons (fC (.val (.ty "tuple"))) fNil))))) (fTest (fBin neT (fBlt lenT (fCons (fVar 0) fNil)) (fC (.int 3))))) (bRet (fC (.bl false))) bNext) (bSeq (bAsg (sTup 3 (sCons (sName 2) (sCons (sName 3) (sCons (sName 4) sNil)))) (fVar 0)) (bSeq (bIf (fOrT (fNotT (fTru (fCall m_is_word (fCons (fVar 2) fNil)))) (fOrT (fNotT (fTru (fCall m_is_name (fCons (fVar 3) fNil)))) (fNotT (fTru (fCall m_are_gifts (fCons (fVar 4) fNil)))))) (bRet (fC (.bl false))) bNext) (bRet (fBlt allT (fCons (fPure (fLc (fiA (fVar 4)) (sName 5) fYes (fBin inT (fBin ixT (fVar 5) (fC (.int 0))) (fVar 1)) [5])) fNil))))))
noncomputable def m_is_code : FF := body ["thing", "aspects", "word", "kind", "gives", "pair"] 2 b_is_code
noncomputable def b_need_codes : BS := (bSeq (bSet 2 (fCell (fLstN fNil))) (bSeq (bSet 3 (fCell (fLstN fNil))) (bFor (fiEA (fCons (fVar 1) fNil)) (sTup 2 (sCons (sName 4) (sCons (sName 5) sNil))) (bSeq (bIf (fOrT (fNotT (fTru (fCall m_is_code (fCons (fVar 5) (fCons (fVar 0) fNil))))) (fTest (fBin inT (fBin ixT (fVar 5) (fC (.int 0))) (fVar 2)))) bStuck bNext) (bSeq (bExpr (fApp (fVar 2) (fCons (fBin ixT (fVar 5) (fC (.int 0))) fNil))) (bSeq (bIf (fTest (fBin ninT (fBin ixT (fVar 5) (fC (.int 1))) (fVar 3))) (bExpr (fApp (fVar 3) (fCons (fBin ixT (fVar 5) (fC (.int 1))) fNil))) bNext) (bIf (fTest (fBin gtT (fBlt lenT (fCons (fVar 3) fNil)) (fC (.int 6)))) bStuck bNext)))))))
noncomputable def m_need_codes : FF := gc (body ["aspects", "codes", "words", "kinds", "number", "code"] 2 b_need_codes)
noncomputable def b_are_names : BS := (bSeq (bIf (fOrT (fNotT (fTru (fBlt isiT (fCons (fVar 0) (fCons (fC (.val (.ty "tuple"))) fNil))))) (fTest (fBin gtT (fBlt lenT (fCons (fVar 0) fNil)) (fVar 1)))) (bRet (fC (.bl false))) bNext) (bRet (fAnd (fBlt allT (fCons (fPure (fLc (fiA (fVar 0)) (sName 2) fYes (fCall m_is_name (fCons (fVar 2) fNil)) [2])) fNil)) (fCall m_ascend (fCons (fVar 0) fNil)))))
noncomputable def m_are_names : FF := body ["thing", "most", "part"] 2 b_are_names
noncomputable def b_need_book : BS := (bSeq (bIf (fOrT (fNotT (fTru (fBlt isiT (fCons (fVar 0) (fCons (fC (.val (.ty "tuple"))) fNil))))) (fTest (fBin neT (fBlt lenT (fCons (fVar 0) fNil)) (fC (.int 3))))) bStuck bNext) (bSeq (bAsg (sTup 3 (sCons (sName 1) (sCons (sName 2) (sCons (sName 3) sNil)))) (fVar 0)) (bSeq (bIf (fOrT (fNotT (fTru (fCall m_are_names (fCons (fVar 1) (fCons (fC (.int 6)) fNil))))) (fTest (fBin eqT (fBlt lenT (fCons (fVar 1) fNil)) (fC (.int 0))))) bStuck bNext) (bSeq (bIf (fOrT (fNotT (fTru (fCall m_are_names (fCons (fVar 2) (fCons (fC (.int 6)) fNil))))) (fNotT (fTru (fBlt allT (fCons (fPure (fLc (fiA (fVar 2)) (sName 4) fYes (fBin inT (fVar 4) (fVar 1)) [4])) fNil))))) bStuck bNext) (bSeq (bIf (fOrT (fNotT (fTru (fBlt isiT (fCons (fVar 3) (fCons (fC (.val (.ty "tuple"))) fNil))))) (fTest (fBin gtT (fBlt lenT (fCons (fVar 3) fNil)) (fC (.int 16))))) bStuck bNext) (bSeq (bExpr (fCall m_need_codes (fCons (fVar 1) (fCons (fVar 3) fNil)))) (bRet (fVar 0))))))))
noncomputable def m_need_book : FF := body ["thing", "aspects", "shown", "codes", "name"] 1 b_need_book
noncomputable def b_words_of : BS := (bRet (fPure (fLc (fiA (fBin ixT (fVar 0) (fC (.int 2)))) (sName 1) fYes (fBin ixT (fVar 1) (fC (.int 0))) [1])))
noncomputable def m_words_of : FF := body ["book", "code"] 1 b_words_of
noncomputable def b_is_letter : BS := (bRet (fAnd (fBin eqT (fBlt lenT (fCons (fVar 0) fNil)) (fC (.int 1))) (fBin inT (fVar 0) (fC (.str "abcdefghijklmnopqrstuvwxyz")))))
noncomputable def m_is_letter : FF := body ["item"] 1 b_is_letter
noncomputable def b_is_sign : BS := (bRet (fOr (fCall m_is_letter (fCons (fVar 0) fNil)) (fOr (fBin eqT (fVar 0) (fC (.str " "))) (fBin eqT (fVar 0) (fC (.str "\n"))))))
noncomputable def m_is_sign : FF := body ["item"] 1 b_is_sign
noncomputable def b_need_stream : BS := (bSeq (bExpr (fCall m_need_book (fCons (fVar 0) fNil))) (bSeq (bIf (fOrT (fNotT (fTru (fBlt isiT (fCons (fVar 1) (fCons (fC (.val (.ty "tuple"))) fNil))))) (fTest (fBin gtT (fBlt lenT (fCons (fVar 1) fNil)) (fC (.int 200))))) bStuck bNext) (bSeq (bSet 2 (fCall m_words_of (fCons (fVar 0) fNil))) (bSeq (bFor (fiEA (fCons (fVar 1) fNil)) (sTup 2 (sCons (sName 3) (sCons (sName 4) sNil))) (bIf (fOrT (fNotT (fTru (fBlt isiT (fCons (fVar 4) (fCons (fC (.val (.ty "str"))) fNil))))) (fNotT (fOrT (fTru (fCall m_is_sign (fCons (fVar 4) fNil))) (fTest (fBin inT (fVar 4) (fVar 2)))))) bStuck bNext)) (bRet (fVar 1))))))
noncomputable def m_need_stream : FF := body ["book", "thing", "words", "number", "item"] 2 b_need_stream
noncomputable def b_is_terminal : BS := (bRet (fCall m_are_names (fCons (fVar 0) (fCons (fC (.int 12)) fNil))))
noncomputable def m_is_terminal : FF := body ["thing"] 1 b_is_terminal
noncomputable def b_need_terminal : BS := (bSeq (bIf (fNotT (fTru (fCall m_is_terminal (fCons (fVar 0) fNil)))) bStuck bNext) (bRet (fVar 0)))
noncomputable def m_need_terminal : FF := body ["thing"] 1 b_need_terminal
noncomputable def b_is_entry : BS := (bSeq (bIf (fOrT (fNotT (fTru (fBlt isiT (fCons (fVar 0) (fCons (fC (.val (.ty "dict"))) fNil))))) (fTest (fBin neT (fBlt lenT (fCons (fVar 0) fNil)) (fBlt lenT (fCons (fVar 1) fNil))))) (bRet (fC (.bl false))) bNext) (bSeq (bForI 0 (sTup 2 (sCons (sName 2) (sCons (sName 3) sNil))) (bIf (fOrT (fNotT (fTru (fBlt isiT (fCons (fVar 2) (fCons (fC (.val (.ty "str"))) fNil))))) (fOrT (fTest (fBin ninT (fVar 2) (fVar 1))) (fNotT (fTru (fCall m_is_name (fCons (fVar 3) fNil)))))) (bRet (fC (.bl false))) bNext)) (bRet (fC (.bl true)))))
noncomputable def m_is_entry : FF := body ["thing", "aspects", "key", "value"] 2 b_is_entry
noncomputable def b_need_entry : BS := (bSeq (bSet 2 (fBin ixT (fCall m_need_book (fCons (fVar 0) fNil)) (fC (.int 0)))) (bSeq (bIf (fNotT (fTru (fCall m_is_entry (fCons (fVar 1) (fCons (fVar 2) fNil))))) bStuck bNext) (bRet (fVar 1))))
noncomputable def m_need_entry : FF := body ["book", "thing", "aspects"] 2 b_need_entry
noncomputable def b_codes_by_word : BS := (bRet (fPure (fDc (fiA (fBin ixT (fVar 0) (fC (.int 2)))) (sName 1) fYes (fBin ixT (fVar 1) (fC (.int 0))) (fVar 1) [1])))
noncomputable def m_codes_by_word : FF := body ["book", "code"] 1 b_codes_by_word
noncomputable def b_shown_at : BS := (bSeq (bAsg (sTup 3 (sCons (sName 2) (sCons (sName 3) (sCons (sName 4) sNil)))) (fVar 0)) (bSeq (bIf (fTru (fCall m_is_letter (fCons (fVar 1) fNil))) (bRet (fVar 2)) bNext) (bSeq (bIf (fTest (fBin eqT (fVar 1) (fC (.str " ")))) (bRet (fVar 3)) bNext) (bRet (fTup fNil)))))
noncomputable def m_shown_at : FF := body ["book", "sign", "aspects", "shown", "_"] 2 b_shown_at
noncomputable def b_seen : BS := (bSeq (bExpr (fCall m_need_stream (fCons (fVar 0) (fCons (fVar 1) fNil)))) (bSeq (bExpr (fCall m_need_terminal (fCons (fVar 2) fNil))) (bSeq (bExpr (fCall m_need_entry (fCons (fVar 0) (fCons (fVar 3) fNil)))) (bSeq (bSet 4 (fCall m_codes_by_word (fCons (fVar 0) fNil))) (bSeq (bSet 5 (fCell (fDc (fiA (fBin ixT (fVar 0) (fC (.int 0)))) (sName 8) fYes (fVar 8) (fBin ixT (fVar 3) (fVar 8)) [8]))) (bSeq (bSet 6 (fCell (fLstN fNil))) (bSeq (bFor (fiA (fVar 1)) (sName 7) (bIf (fTru (fCall m_is_sign (fCons (fVar 7) fNil))) (bSeq (bSet 9 (fBlt tupT (fCons (fPure (fLc (fiA (fCall m_shown_at (fCons (fVar 0) (fCons (fVar 7) fNil)))) (sName 8) fYes (fBin ixT (fVar 5) (fVar 8)) [8])) fNil))) (bExpr (fApp (fVar 6) (fCons (fTup (fCons (fVar 7) (fCons (fVar 9) fNil))) fNil)))) (bSeq (bAsg (sTup 3 (sCons (sName 10) (sCons (sName 11) (sCons (sName 12) sNil)))) (fBin ixT (fVar 4) (fVar 7))) (bIf (fTest (fBin inT (fVar 11) (fVar 2))) (bFor (fiA (fVar 12)) (sTup 2 (sCons (sName 8) (sCons (sName 13) sNil))) (bStore (fVar 5) (fVar 8) (fVar 13))) bNext)))) (bRet (fBlt tupT (fCons (fVar 6) fNil))))))))))
noncomputable def m_seen : FF := gc (body ["book", "stream", "terminal", "entry", "codes", "values", "pairs", "item", "aspect", "look", "_", "kind", "gives", "value"] 4 b_seen)
noncomputable def b__law_kinds : BS := (bRet (fPure (fBlt sortT (fCons (fPure (fBlt dictT (fCons (fPure (fLc (fiA (fBin ixT (fVar 0) (fC (.int 2)))) (sTup 3 (sCons (sName 1) (sCons (sName 2) (sCons (sName 3) sNil)))) fYes (fTup (fCons (fVar 2) (fCons (fC (.int 0)) fNil))) [1, 2, 3])) fNil))) fNil))))
noncomputable def m__law_kinds : FF := body ["book", "word", "kind", "gives"] 1 b__law_kinds
noncomputable def b__law_drawn_entry : BS := (bRet (fPure (fBlt dictT (fCons (fPure (fLc (fiA (fBin ixT (fVar 1) (fC (.int 0)))) (sName 2) fYes (fTup (fCons (fVar 2) (fCons (fBin ixT (fPure (fLstN (fCons (fC (.str "plain")) (fCons (fC (.str "u")) (fCons (fC (.str "v")) (fCons (fC (.str "zz")) fNil)))))) (fCall m__law_draw (fCons (fVar 0) (fCons (fC (.int 4)) fNil)))) fNil))) [2])) fNil))))
noncomputable def m__law_drawn_entry : FF := body ["state", "book", "aspect"] 2 b__law_drawn_entry
noncomputable def b__law_codes : BS := (bRet (fPure (fBlt dictT (fCons (fPure (fLc (fiA (fBin ixT (fVar 0) (fC (.int 2)))) (sTup 3 (sCons (sName 1) (sCons (sName 2) (sCons (sName 3) sNil)))) fYes (fTup (fCons (fVar 1) (fCons (fTup (fCons (fVar 2) (fCons (fVar 3) fNil))) fNil))) [1, 2, 3])) fNil))))
noncomputable def m__law_codes : FF := body ["book", "word", "kind", "gives"] 1 b__law_codes
noncomputable def b__law_left : BS := (bSeq (bPar 5 6 (fCons (fCall m__law_codes (fCons (fVar 0) fNil)) (fCons (fPure (fBlt dictT (fCons (fVar 3) fNil))) fNil))) (bSeq (bFor (fiA (fVar 1)) (sName 4) (bIf (fAndT (fTest (fBin inT (fVar 4) (fVar 5))) (fTest (fBin inT (fBin ixT (fBin ixT (fVar 5) (fVar 4)) (fC (.int 0))) (fVar 2)))) (bSet 6 (fPure (fBlt dictT (fCons (fBin addT (fPure (fItems (fVar 6))) (fPure (fBlt listT (fCons (fBin ixT (fBin ixT (fVar 5) (fVar 4)) (fC (.int 1))) fNil)))) fNil)))) bNext)) (bRet (fVar 6))))
noncomputable def m__law_left : FF := body ["book", "items", "terminal", "entry", "item", "codes", "now"] 4 b__law_left
noncomputable def b__law_seen : BS := (bSeq (bAsg (sTup 3 (sCons (sName 5) (sCons (sName 6) (sCons (sName 7) sNil)))) (fTup (fCons (fCall m__law_codes (fCons (fVar 0) fNil)) (fCons (fPure (fBlt dictT (fCons (fVar 3) fNil))) (fCons (fCell (fLstN fNil)) fNil))))) (bSeq (bFor (fiA (fVar 1)) (sName 4) (bIf (fTest (fBin inT (fVar 4) (fVar 5))) (bSeq (bAsg (sTup 2 (sCons (sName 8) (sCons (sName 9) sNil))) (fBin ixT (fVar 5) (fVar 4))) (bIf (fTest (fBin inT (fVar 8) (fVar 2))) (bSet 6 (fPure (fBlt dictT (fCons (fBin addT (fPure (fItems (fVar 6))) (fPure (fBlt listT (fCons (fVar 9) fNil)))) fNil)))) bNext)) (bIf (fTest (fBin eqT (fVar 4) (fC (.str "\n")))) (bExpr (fApp (fVar 7) (fCons (fTup (fCons (fVar 4) (fCons (fTup fNil) fNil))) fNil))) (bSeq (bSet 10 (fIf (fTest (fBin eqT (fVar 4) (fC (.str " ")))) (fBin ixT (fVar 0) (fC (.int 1))) (fBin ixT (fVar 0) (fC (.int 0))))) (bExpr (fApp (fVar 7) (fCons (fTup (fCons (fVar 4) (fCons (fBlt tupT (fCons (fPure (fLc (fiA (fVar 10)) (sName 11) fYes (fBin ixT (fVar 6) (fVar 11)) [11])) fNil)) fNil))) fNil))))))) (bRet (fBlt tupT (fCons (fVar 7) fNil)))))
noncomputable def m__law_seen : FF := gc (body ["book", "items", "terminal", "entry", "item", "codes", "now", "found", "kind", "gives", "some", "aspect"] 4 b__law_seen)
noncomputable def b_signs_of : BS := (bSeq (bExpr (fCall m_need_stream (fCons (fVar 0) (fCons (fVar 1) fNil)))) (bRet (fBlt tupT (fCons (fPure (fLc (fiA (fVar 1)) (sName 2) (fTru (fCall m_is_sign (fCons (fVar 2) fNil))) (fVar 2) [2])) fNil))))
noncomputable def m_signs_of : FF := body ["book", "stream", "item"] 2 b_signs_of
noncomputable def b__law_right : BS := (bSeq (bPar 12 13 (fCons (fPure (fBlt dictT (fCons (fVar 3) fNil))) (fCons (fCall m__law_seen (fCons (fVar 0) (fCons (fVar 1) (fCons (fVar 2) (fCons (fVar 3) fNil))))) fNil))) (bSeq (bFor (fiR1 (fCons (fC (.int 2)) fNil)) (sName 5) (bSeq (bSet 14 (fCall m_seen (fCons (fVar 0) (fCons (fVar 1) (fCons (fVar 2) (fCons (fVar 3) fNil)))))) (bIf (fOrT (fTest (fBin neT (fBlt reprT (fCons (fVar 14) fNil)) (fBlt reprT (fCons (fVar 13) fNil)))) (fTest (fBin neT (fVar 3) (fVar 12)))) (bRet (fC (.bl false))) bNext))) (bSeq (bIf (fTest (fBin neT (fCall m_signs_of (fCons (fVar 0) (fCons (fVar 1) fNil))) (fBlt tupT (fCons (fPure (fLc (fiA (fVar 13)) (sTup 2 (sCons (sName 15) (sCons (sName 16) sNil))) fYes (fVar 15) [15, 16])) fNil)))) (bRet (fC (.bl false))) bNext) (bSeq (bSet 6 (fCall m__law_left (fCons (fVar 0) (fCons (fSl (fVar 1) foN (foS (fVar 4))) (fCons (fVar 2) (fCons (fVar 3) fNil)))))) (bSeq (bSet 7 (fCall m_seen (fCons (fVar 0) (fCons (fSl (fVar 1) foN (foS (fVar 4))) (fCons (fVar 2) (fCons (fVar 3) fNil)))))) (bSeq (bSet 8 (fCall m_seen (fCons (fVar 0) (fCons (fSl (fVar 1) (foS (fVar 4)) foN) (fCons (fVar 2) (fCons (fVar 6) fNil)))))) (bSeq (bIf (fTest (fBin neT (fBin addT (fVar 7) (fVar 8)) (fVar 13))) (bRet (fC (.bl false))) bNext) (bSeq (bSet 9 (fCall m__law_codes (fCons (fVar 0) fNil))) (bSeq (bSet 10 (fCell (fLstN fNil))) (bSeq (bFor (fiA (fVar 1)) (sName 11) (bIf (fOrT (fTest (fBin ninT (fVar 11) (fVar 9))) (fTest (fBin inT (fBin ixT (fBin ixT (fVar 9) (fVar 11)) (fC (.int 0))) (fVar 2)))) (bExpr (fApp (fVar 10) (fCons (fVar 11) fNil))) bNext)) (bRet (fBin eqT (fCall m_seen (fCons (fVar 0) (fCons (fBlt tupT (fCons (fVar 10) fNil)) (fCons (fVar 2) (fCons (fVar 3) fNil))))) (fVar 13)))))))))))))
noncomputable def m__law_right : FF := gc (body ["book", "stream", "terminal", "entry", "at", "turn", "left", "whole", "rest", "codes", "known", "item", "kept", "due", "now", "sign", "values"] 5 b__law_right)
noncomputable def b_law : BS := (bSeq (bSet 1 (fCall m__law_begin (fCons (fVar 0) fNil))) (bSeq (bFor (fiR1 (fCons (fBin addT (fC (.int 3)) (fBlt minT (fCons (fC (.int 4)) (fCons (fBlt lenT (fCons (fVar 0) fNil)) fNil)))) fNil)) (sName 2) (bSeq (bSet 4 (fCall m__law_book (fCons (fVar 1) (fCons (fC (.int 8)) fNil)))) (bSeq (bSet 5 (fCall m__law_stream (fCons (fVar 1) (fCons (fVar 4) (fCons (fC (.int 30)) fNil))))) (bSeq (bSet 8 (fBin ixT (fPure (fLstN (fCons (fTup fNil) (fCons (fTup (fCons (fC (.str "a")) fNil)) (fCons (fTup (fCons (fC (.str "zz")) fNil)) (fCons (fTup (fCons (fC (.str "a")) (fCons (fC (.str "zz")) fNil))) fNil)))))) (fCall m__law_draw (fCons (fVar 1) (fCons (fC (.int 4)) fNil))))) (bFor (fiA (fCall m__law_sets (fCons (fCall m__law_kinds (fCons (fVar 4) fNil)) fNil))) (sName 9) (bSeq (bSet 10 (fBlt tupT (fCons (fPure (fBlt sortT (fCons (fBin addT (fVar 9) (fVar 8)) fNil))) fNil))) (bSeq (bSet 6 (fCall m__law_drawn_entry (fCons (fVar 1) (fCons (fVar 4) fNil)))) (bIf (fNotT (fTru (fCall m__law_right (fCons (fVar 4) (fCons (fVar 5) (fCons (fVar 10) (fCons (fVar 6) (fCons (fCall m__law_draw (fCons (fVar 1) (fCons (fBin addT (fBlt lenT (fCons (fVar 5) fNil)) (fC (.int 1))) fNil))) fNil)))))))) (bRet (fC (.bl false))) bNext)))))))) (bSeq (bSet 3 (fTup (fCons (fTup (fCons (fC (.str "1")) (fCons (fC (.str "basic")) (fCons (fTup (fCons (fTup (fCons (fC (.str "weight")) (fCons (fC (.str "bold")) fNil))) fNil)) fNil)))) (fCons (fTup (fCons (fC (.str "33")) (fCons (fC (.str "basic")) (fCons (fTup (fCons (fTup (fCons (fC (.str "ink")) (fCons (fC (.str "yellow")) fNil))) fNil)) fNil)))) fNil)))) (bSeq (bSet 3 (fBin addT (fVar 3) (fTup (fCons (fTup (fCons (fC (.str "38;5;208")) (fCons (fC (.str "many")) (fCons (fTup (fCons (fTup (fCons (fC (.str "ink")) (fCons (fC (.str "orange")) fNil))) fNil)) fNil)))) (fCons (fTup (fCons (fC (.str "39")) (fCons (fC (.str "basic")) (fCons (fTup (fCons (fTup (fCons (fC (.str "ink")) (fCons (fC (.str "plain")) fNil))) fNil)) fNil)))) fNil))))) (bSeq (bSet 4 (fTup (fCons (fTup (fCons (fC (.str "ink")) (fCons (fC (.str "weight")) fNil))) (fCons (fTup (fCons (fC (.str "ink")) fNil)) (fCons (fVar 3) fNil))))) (bSeq (bSet 5 (fTup (fCons (fC (.str "33")) (fCons (fC (.str "38;5;208")) (fCons (fC (.str "a")) (fCons (fC (.str "39")) (fCons (fC (.str "b")) (fCons (fC (.str "1")) (fCons (fC (.str " ")) (fCons (fC (.str "\n")) fNil)))))))))) (bSeq (bSet 6 (fPure (fDisp (((fC (.str "weight")), (fC (.str "plain"))) :: (((fC (.str "ink")), (fC (.str "red"))) :: []))))) (bSeq (bSet 7 (fTup (fCons (fTup (fCons (fC (.str "a")) (fCons (fTup (fCons (fC (.str "yellow")) (fCons (fC (.str "plain")) fNil))) fNil))) (fCons (fTup (fCons (fC (.str "b")) (fCons (fTup (fCons (fC (.str "plain")) (fCons (fC (.str "plain")) fNil))) fNil))) (fCons (fTup (fCons (fC (.str " ")) (fCons (fTup (fCons (fC (.str "plain")) fNil)) fNil))) (fCons (fTup (fCons (fC (.str "\n")) (fCons (fTup fNil) fNil))) fNil)))))) (bSeq (bIf (fTest (fBin neT (fCall m_seen (fCons (fVar 4) (fCons (fVar 5) (fCons (fTup (fCons (fC (.str "basic")) fNil)) (fCons (fVar 6) fNil))))) (fVar 7))) (bRet (fC (.bl false))) bNext) (bSeq (bSet 7 (fTup (fCons (fTup (fCons (fC (.str "a")) (fCons (fTup (fCons (fC (.str "orange")) (fCons (fC (.str "plain")) fNil))) fNil))) (fCons (fTup (fCons (fC (.str "b")) (fCons (fTup (fCons (fC (.str "orange")) (fCons (fC (.str "plain")) fNil))) fNil))) (fCons (fTup (fCons (fC (.str " ")) (fCons (fTup (fCons (fC (.str "orange")) fNil)) fNil))) (fCons (fTup (fCons (fC (.str "\n")) (fCons (fTup fNil) fNil))) fNil)))))) (bSeq (bIf (fOrT (fTest (fBin neT (fCall m_seen (fCons (fVar 4) (fCons (fVar 5) (fCons (fTup (fCons (fC (.str "many")) fNil)) (fCons (fVar 6) fNil))))) (fVar 7))) (fTest (fBin neT (fCall m_seen (fCons (fVar 4) (fCons (fTup fNil) (fCons (fTup fNil) (fCons (fVar 6) fNil))))) (fTup fNil)))) (bRet (fC (.bl false))) bNext) (bSeq (bSet 7 (fTup (fCons (fTup (fCons (fC (.str "a")) (fCons (fTup (fCons (fC (.str "red")) (fCons (fC (.str "plain")) fNil))) fNil))) (fCons (fTup (fCons (fC (.str "b")) (fCons (fTup (fCons (fC (.str "red")) (fCons (fC (.str "plain")) fNil))) fNil))) (fCons (fTup (fCons (fC (.str " ")) (fCons (fTup (fCons (fC (.str "red")) fNil)) fNil))) (fCons (fTup (fCons (fC (.str "\n")) (fCons (fTup fNil) fNil))) fNil)))))) (bRet (fBin eqT (fCall m_seen (fCons (fVar 4) (fCons (fVar 5) (fCons (fTup fNil) (fCons (fVar 6) fNil))))) (fVar 7)))))))))))))))
noncomputable def m_law : FF := body ["script", "state", "turn", "codes", "book", "stream", "entry", "due", "strange", "some", "terminal"] 1 b_law
noncomputable def b__law_entry : BS := (bRet (fPure (fBlt dictT (fCons (fPure (fLc (fiA (fBin ixT (fVar 0) (fC (.int 0)))) (sName 2) fYes (fTup (fCons (fVar 2) (fCons (fVar 1) fNil))) [2])) fNil))))
noncomputable def m__law_entry : FF := body ["book", "value", "aspect"] 2 b__law_entry
noncomputable def b__law_hung : BS := (bSeq (bSet 3 (fCall m__law_seen (fCons (fVar 0) (fCons (fVar 1) (fCons (fVar 2) (fCons (fCall m__law_entry (fCons (fVar 0) (fCons (fC (.str "mm")) fNil))) fNil)))))) (bSeq (bSet 4 (fCall m__law_seen (fCons (fVar 0) (fCons (fVar 1) (fCons (fVar 2) (fCons (fCall m__law_entry (fCons (fVar 0) (fCons (fC (.str "nn")) fNil))) fNil)))))) (bRet (fPure (fLc (fiEA (fCons (fVar 3) fNil)) (sTup 2 (sCons (sName 5) (sCons (sName 6) sNil))) (fTest (fBin neT (fVar 6) (fBin ixT (fVar 4) (fVar 5)))) (fVar 5) [5, 6])))))
noncomputable def m__law_hung : FF := body ["book", "items", "terminal", "one", "other", "number", "look"] 3 b__law_hung
noncomputable def b_no_chains : BS := (bRet (fCell (fDc (fiA (fBin ixT (fVar 0) (fC (.int 0)))) (sName 1) fYes (fVar 1) (fTup fNil) [1])))
noncomputable def m_no_chains : FF := body ["book", "aspect"] 1 b_no_chains
noncomputable def b_behind : BS := (bRet (fBin addT (fTup (fCons (fTup (fCons (fVar 1) (fCons (fVar 2) fNil))) fNil)) (fBlt tupT (fCons (fPure (fLc (fiA (fVar 0)) (sName 3) (fTest (fBin neT (fBin ixT (fVar 3) (fC (.int 0))) (fVar 1))) (fVar 3) [3])) fNil))))
noncomputable def m_behind : FF := body ["chain", "kind", "value", "pair"] 3 b_behind
noncomputable def b_pass_code : BS := (bSeq (bAsg (sTup 3 (sCons (sName 2) (sCons (sName 3) (sCons (sName 4) sNil)))) (fVar 1)) (bFor (fiA (fVar 4)) (sTup 2 (sCons (sName 5) (sCons (sName 6) sNil))) (bStore (fVar 0) (fVar 5) (fCall m_behind (fCons (fBin ixT (fVar 0) (fVar 5)) (fCons (fVar 3) (fCons (fVar 6) fNil)))))))
noncomputable def m_pass_code : FF := body ["chains", "code", "_", "kind", "gives", "aspect", "value"] 2 b_pass_code
noncomputable def b_chains_shown : BS := (bSeq (bSet 2 (fCall m_codes_by_word (fCons (fVar 0) fNil))) (bSeq (bSet 3 (fCall m_no_chains (fCons (fVar 0) fNil))) (bSeq (bSet 4 (fCell (fLstN fNil))) (bSeq (bFor (fiA (fVar 1)) (sName 5) (bIf (fTru (fCall m_is_sign (fCons (fVar 5) fNil))) (bExpr (fApp (fVar 4) (fCons (fBlt tupT (fCons (fPure (fLc (fiA (fCall m_shown_at (fCons (fVar 0) (fCons (fVar 5) fNil)))) (sName 6) fYes (fBin ixT (fVar 3) (fVar 6)) [6])) fNil)) fNil))) (bExpr (fCall m_pass_code (fCons (fVar 3) (fCons (fBin ixT (fVar 2) (fVar 5)) fNil)))))) (bRet (fVar 4))))))
noncomputable def m_chains_shown : FF := gc (body ["book", "stream", "codes", "chains", "rows", "item", "aspect"] 2 b_chains_shown)
noncomputable def b_worth_among : BS := (bSeq (bFor (fiA (fVar 0)) (sTup 2 (sCons (sName 2) (sCons (sName 3) sNil))) (bIf (fTest (fBin inT (fVar 2) (fVar 1))) (bRet (fVar 3)) bNext)) (bRet (fC .non)))
noncomputable def m_worth_among : FF := body ["chain", "kinds", "kind", "value"] 2 b_worth_among
noncomputable def b_hangs_there : BS := (bRet (fBlt anyT (fCons (fPure (fLc (fiA (fVar 0)) (sName 2) fYes (fBin isNT (fCall m_worth_among (fCons (fVar 2) (fCons (fVar 1) fNil))) (fC .non)) [2])) fNil)))
noncomputable def m_hangs_there : FF := body ["row", "terminal", "chain"] 2 b_hangs_there
noncomputable def b_hangs : BS := (bSeq (bExpr (fCall m_need_stream (fCons (fVar 0) (fCons (fVar 1) fNil)))) (bSeq (bExpr (fCall m_need_terminal (fCons (fVar 2) fNil))) (bSeq (bSet 3 (fCall m_chains_shown (fCons (fVar 0) (fCons (fVar 1) fNil)))) (bRet (fCell (fLc (fiEA (fCons (fVar 3) fNil)) (sTup 2 (sCons (sName 4) (sCons (sName 5) sNil))) (fTru (fCall m_hangs_there (fCons (fVar 5) (fCons (fVar 2) fNil)))) (fVar 4) [4, 5]))))))
noncomputable def m_hangs : FF := body ["book", "stream", "terminal", "rows", "number", "row"] 3 b_hangs
noncomputable def b__law_drawn_entry_k16 : BS := (bRet (fPure (fBlt dictT (fCons (fPure (fLc (fiA (fBin ixT (fVar 1) (fC (.int 0)))) (sName 2) fYes (fTup (fCons (fVar 2) (fCons (fBin ixT (fPure (fLstN (fCons (fC (.str "plain")) (fCons (fC (.str "u")) (fCons (fC (.str "v")) (fCons (fC (.str "mm")) (fCons (fC (.str "nn")) fNil))))))) (fCall m__law_draw (fCons (fVar 0) (fCons (fC (.int 5)) fNil)))) fNil))) [2])) fNil))))
noncomputable def m__law_drawn_entry_k16 : FF := body ["state", "book", "aspect"] 2 b__law_drawn_entry_k16
noncomputable def b__law_right_k16 : BS := (bSeq (bFor (fiA (fCall m__law_sets (fCons (fBin addT (fCall m__law_kinds (fCons (fVar 1) fNil)) (fPure (fLstN (fCons (fC (.str "zz")) fNil)))) fNil))) (sName 3) (bSeq (bSet 4 (fCall m__law_hung (fCons (fVar 1) (fCons (fVar 2) (fCons (fVar 3) fNil))))) (bSeq (bSet 5 (fCall m_hangs (fCons (fVar 1) (fCons (fVar 2) (fCons (fVar 3) fNil))))) (bSeq (bIf (fTest (fBin neT (fBlt reprT (fCons (fVar 5) fNil)) (fBlt reprT (fCons (fVar 4) fNil)))) (bRet (fC (.bl false))) bNext) (bSeq (bExpr (fApp (fVar 5) (fCons (fC (.int 99)) fNil))) (bSeq (bIf (fTest (fBin neT (fCall m_hangs (fCons (fVar 1) (fCons (fVar 2) (fCons (fVar 3) fNil)))) (fVar 4))) (bRet (fC (.bl false))) bNext) (bSeq (bSet 6 (fCall m__law_seen (fCons (fVar 1) (fCons (fVar 2) (fCons (fVar 3) (fCons (fCall m__law_drawn_entry_k16 (fCons (fVar 0) (fCons (fVar 1) fNil))) fNil)))))) (bSeq (bSet 7 (fCall m__law_seen (fCons (fVar 1) (fCons (fVar 2) (fCons (fVar 3) (fCons (fCall m__law_drawn_entry_k16 (fCons (fVar 0) (fCons (fVar 1) fNil))) fNil)))))) (bIf (fTest (fBin neT (fPure (fLc (fiEA (fCons (fVar 6) fNil)) (sTup 2 (sCons (sName 8) (sCons (sName 9) sNil))) (fAndT (fTest (fBin neT (fVar 9) (fBin ixT (fVar 7) (fVar 8)))) (fTest (fBin ninT (fVar 8) (fVar 4)))) (fVar 8) [8, 9])) (fPure (fLstN fNil)))) (bRet (fC (.bl false))) bNext))))))))) (bRet (fC (.bl true))))
noncomputable def m__law_right_k16 : FF := gc (body ["state", "book", "items", "terminal", "due", "told", "one", "other", "number", "look"] 3 b__law_right_k16)
noncomputable def b_law_k16 : BS := (bSeq (bSet 1 (fCall m__law_begin (fCons (fVar 0) fNil))) (bSeq (bFor (fiR1 (fCons (fBin addT (fC (.int 3)) (fBlt minT (fCons (fBlt lenT (fCons (fVar 0) fNil)) (fCons (fC (.int 6)) fNil)))) fNil)) (sName 2) (bSeq (bSet 3 (fCall m__law_book (fCons (fVar 1) (fCons (fC (.int 8)) fNil)))) (bIf (fNotT (fTru (fCall m__law_right_k16 (fCons (fVar 1) (fCons (fVar 3) (fCons (fCall m__law_stream (fCons (fVar 1) (fCons (fVar 3) (fCons (fC (.int 30)) fNil)))) fNil)))))) (bRet (fC (.bl false))) bNext))) (bRet (fC (.bl true)))))
noncomputable def m_law_k16 : FF := body ["script", "state", "turn", "book"] 1 b_law_k16
noncomputable def b__law_entries : BS := (bSeq (bSet 1 (fPure (fLstN (fCons (fCall m__law_entry (fCons (fVar 0) (fCons (fC (.str "own")) fNil))) (fCons (fCall m__law_entry (fCons (fVar 0) (fCons (fC (.str "plain")) fNil))) (fCons (fCall m__law_entry (fCons (fVar 0) (fCons (fC (.str "u")) fNil))) fNil)))))) (bRet (fBin addT (fVar 1) (fPure (fLstN (fCons (fPure (fBlt dictT (fCons (fPure (fLc (fiEA (fCons (fBin ixT (fVar 0) (fC (.int 0))) fNil)) (sTup 2 (sCons (sName 2) (sCons (sName 3) sNil))) fYes (fTup (fCons (fVar 3) (fCons (fBin ixT (fPure (fLstN (fCons (fC (.str "other")) (fCons (fC (.str "v")) fNil)))) (fBin modT (fVar 2) (fC (.int 2)))) fNil))) [2, 3])) fNil))) fNil))))))
noncomputable def m__law_entries : FF := body ["book", "found", "k", "aspect"] 1 b__law_entries
noncomputable def b__law_apart : BS := (bSeq (bSet 3 (fCell (fLstN fNil))) (bSeq (bFor (fiA (fCall m__law_sets (fCons (fCall m__law_kinds (fCons (fVar 0) fNil)) fNil))) (sName 4) (bFor (fiA (fCall m__law_entries (fCons (fVar 0) fNil))) (sName 5) (bIf (fTest (fBin neT (fCall m__law_seen (fCons (fVar 0) (fCons (fVar 1) (fCons (fVar 4) (fCons (fVar 5) fNil))))) (fCall m__law_seen (fCons (fVar 0) (fCons (fVar 2) (fCons (fVar 4) (fCons (fVar 5) fNil))))))) (bExpr (fApp (fVar 3) (fCons (fBlt lenT (fCons (fVar 4) fNil)) fNil))) bNext))) (bRet (fVar 3))))
noncomputable def m__law_apart : FF := gc (body ["book", "one", "other", "found", "terminal", "entry"] 3 b__law_apart)
noncomputable def b__law_needless : BS := (bSeq (bPar 2 3 (fCons (fPure (fLc (fiA (fBin ixT (fVar 0) (fC (.int 2)))) (sName 7) fYes (fBin ixT (fVar 7) (fC (.int 0))) [7])) (fCons (fCell (fLstN fNil)) fNil))) (bSeq (bFor (fiEA (fCons (fVar 1) fNil)) (sTup 2 (sCons (sName 4) (sCons (sName 5) sNil))) (bSeq (bSet 6 (fBin addT (fSl (fVar 1) foN (foS (fVar 4))) (fSl (fVar 1) (foS (fBin addT (fVar 4) (fC (.int 1)))) foN))) (bIf (fAndT (fTest (fBin inT (fVar 5) (fVar 2))) (fTest (fBin eqT (fCall m__law_apart (fCons (fVar 0) (fCons (fVar 1) (fCons (fVar 6) fNil)))) (fPure (fLstN fNil))))) (bExpr (fApp (fVar 3) (fCons (fVar 4) fNil))) bNext))) (bRet (fVar 3))))
noncomputable def m__law_needless : FF := gc (body ["book", "stream", "words", "found", "number", "item", "less", "code"] 2 b__law_needless)
noncomputable def b_runs_of : BS := (bSeq (bSet 1 (fCell (fLstN fNil))) (bSeq (bFor (fiA (fVar 0)) (sTup 2 (sCons (sName 2) (sCons (sName 3) sNil))) (bIf (fAndT (fTest (fBin gtT (fBlt lenT (fCons (fVar 1) fNil)) (fC (.int 0)))) (fTest (fBin eqT (fBin ixT (fBin ixT (fVar 1) (fUn negT (fC (.int 1)))) (fC (.int 0))) (fVar 3)))) (bExpr (fApp (fBin ixT (fBin ixT (fVar 1) (fUn negT (fC (.int 1)))) (fC (.int 1))) (fCons (fVar 2) fNil))) (bExpr (fApp (fVar 1) (fCons (fTup (fCons (fVar 3) (fCons (fCell (fLstN (fCons (fVar 2) fNil))) fNil))) fNil))))) (bRet (fBlt tupT (fCons (fPure (fLcC (fiAC (fVar 1)) (sTup 2 (sCons (sName 3) (sCons (sName 4) sNil))) fYes (fTup (fCons (fVar 3) (fCons (fBlt tupT (fCons (fPure (fBlt sortT (fCons (fVar 4) fNil))) fNil)) fNil))) [3, 4])) fNil)))))
noncomputable def m_runs_of : FF := gc (body ["chain", "runs", "kind", "value", "kinds"] 1 b_runs_of)
noncomputable def b_have_one_form : BS := (bRet (fOr (fBin eqT (fVar 0) (fVar 1)) (fBin eqT (fCall m_runs_of (fCons (fVar 0) fNil)) (fCall m_runs_of (fCons (fVar 1) fNil)))))
noncomputable def m_have_one_form : FF := body ["one", "other"] 2 b_have_one_form
noncomputable def b_look_alike : BS := (bSeq (bFor (fiZ (fCons (fVar 0) (fCons (fVar 1) fNil))) (sTup 2 (sCons (sName 2) (sCons (sName 3) sNil))) (bIf (fNotT (fTru (fBlt allT (fCons (fPure (fLc (fiZ (fCons (fVar 2) (fCons (fVar 3) fNil))) (sTup 2 (sCons (sName 4) (sCons (sName 5) sNil))) fYes (fCall m_have_one_form (fCons (fVar 4) (fCons (fVar 5) fNil))) [4, 5])) fNil)))) (bRet (fC (.bl false))) bNext)) (bRet (fC (.bl true))))
noncomputable def m_look_alike : FF := body ["rows", "others", "row", "more", "one", "other"] 2 b_look_alike
noncomputable def b_without : BS := (bRet (fBin addT (fSl (fVar 0) foN (foS (fVar 1))) (fSl (fVar 0) (foS (fBin addT (fVar 1) (fC (.int 1)))) foN)))
noncomputable def m_without : FF := body ["stream", "number"] 2 b_without
noncomputable def b_is_needless : BS := (bSeq (bIf (fTru (fCall m_is_sign (fCons (fBin ixT (fVar 1) (fVar 2)) fNil))) (bRet (fC (.bl false))) bNext) (bRet (fCall m_look_alike (fCons (fVar 3) (fCons (fCall m_chains_shown (fCons (fVar 0) (fCons (fCall m_without (fCons (fVar 1) (fCons (fVar 2) fNil))) fNil))) fNil)))))
noncomputable def m_is_needless : FF := body ["book", "stream", "number", "rows"] 4 b_is_needless
noncomputable def b_needless : BS := (bSeq (bExpr (fCall m_need_stream (fCons (fVar 0) (fCons (fVar 1) fNil)))) (bSeq (bSet 2 (fCall m_chains_shown (fCons (fVar 0) (fCons (fVar 1) fNil)))) (bRet (fCell (fLc (fiR1 (fCons (fBlt lenT (fCons (fVar 1) fNil)) fNil)) (sName 3) (fTru (fCall m_is_needless (fCons (fVar 0) (fCons (fVar 1) (fCons (fVar 3) (fCons (fVar 2) fNil)))))) (fVar 3) [3])))))
noncomputable def m_needless : FF := body ["book", "stream", "rows", "number"] 2 b_needless
noncomputable def b__law_stream_right : BS := (bSeq (bSet 2 (fCall m__law_needless (fCons (fVar 0) (fCons (fVar 1) fNil)))) (bSeq (bSet 3 (fCall m_needless (fCons (fVar 0) (fCons (fVar 1) fNil)))) (bSeq (bIf (fTest (fBin neT (fVar 3) (fVar 2))) (bRet (fC (.bl false))) bNext) (bSeq (bExpr (fApp (fVar 3) (fCons (fC (.int 999)) fNil))) (bSeq (bIf (fTest (fBin neT (fCall m_needless (fCons (fVar 0) (fCons (fVar 1) fNil))) (fVar 2))) (bRet (fC (.bl false))) bNext) (bSeq (bWhile (fTest (fBin neT (fVar 2) (fPure (fLstN fNil)))) (bSeq (bSet 1 (fBin addT (fSl (fVar 1) foN (foS (fBin ixT (fVar 2) (fC (.int 0))))) (fSl (fVar 1) (foS (fBin addT (fBin ixT (fVar 2) (fC (.int 0))) (fC (.int 1)))) foN))) (bSet 2 (fCall m__law_needless (fCons (fVar 0) (fCons (fVar 1) fNil)))))) (bRet (fVar 1))))))))
noncomputable def m__law_stream_right : FF := gc (body ["book", "stream", "due", "found"] 2 b__law_stream_right)
noncomputable def b_lean : BS := (bSeq (bExpr (fCall m_need_stream (fCons (fVar 0) (fCons (fVar 1) fNil)))) (bSeq (bSet 2 (fCall m_chains_shown (fCons (fVar 0) (fCons (fVar 1) fNil)))) (bSeq (bSet 3 (fC (.int 0))) (bSeq (bWhile (fTest (fBin ltT (fVar 3) (fBlt lenT (fCons (fVar 1) fNil)))) (bIf (fTru (fCall m_is_needless (fCons (fVar 0) (fCons (fVar 1) (fCons (fVar 3) (fCons (fVar 2) fNil)))))) (bSet 1 (fCall m_without (fCons (fVar 1) (fCons (fVar 3) fNil)))) (bAug 3 (fC (.int 1))))) (bRet (fVar 1))))))
noncomputable def m_lean : FF := body ["book", "stream", "rows", "number"] 2 b_lean
noncomputable def b_need_same_signs : BS := (bSeq (bExpr (fCall m_need_stream (fCons (fVar 0) (fCons (fVar 1) fNil)))) (bSeq (bExpr (fCall m_need_stream (fCons (fVar 0) (fCons (fVar 2) fNil)))) (bIf (fTest (fBin neT (fCall m_signs_of (fCons (fVar 0) (fCons (fVar 1) fNil))) (fCall m_signs_of (fCons (fVar 0) (fCons (fVar 2) fNil))))) bStuck bNext)))
noncomputable def m_need_same_signs : FF := body ["book", "one", "other"] 3 b_need_same_signs
noncomputable def b_alike : BS := (bSeq (bExpr (fCall m_need_same_signs (fCons (fVar 0) (fCons (fVar 1) (fCons (fVar 2) fNil))))) (bRet (fCall m_look_alike (fCons (fCall m_chains_shown (fCons (fVar 0) (fCons (fVar 1) fNil))) (fCons (fCall m_chains_shown (fCons (fVar 0) (fCons (fVar 2) fNil))) fNil)))))
noncomputable def m_alike : FF := body ["book", "one", "other"] 3 b_alike
noncomputable def b_law_k11 : BS := (bSeq (bSet 1 (fCall m__law_begin (fCons (fVar 0) fNil))) (bSeq (bFor (fiR1 (fCons (fC (.int 2)) fNil)) (sName 2) (bSeq (bSet 3 (fCall m__law_book (fCons (fVar 1) (fCons (fC (.int 6)) fNil)))) (bSeq (bSet 4 (fCall m__law_stream (fCons (fVar 1) (fCons (fVar 3) (fCons (fC (.int 12)) fNil))))) (bSeq (bSet 5 (fCall m__law_stream_right (fCons (fVar 3) (fCons (fVar 4) fNil)))) (bSeq (bIf (fOrT (fTest (fBin isBT (fVar 5) (fC (.bl false)))) (fOrT (fTest (fBin neT (fCall m_lean (fCons (fVar 3) (fCons (fVar 4) fNil))) (fVar 5))) (fTest (fBin neT (fCall m_needless (fCons (fVar 3) (fCons (fVar 5) fNil))) (fPure (fLstN fNil)))))) (bRet (fC (.bl false))) bNext) (bIf (fOrT (fTest (fBin notBT (fCall m_alike (fCons (fVar 3) (fCons (fVar 4) (fCons (fVar 5) fNil)))) (fC (.bl true)))) (fTest (fBin neT (fCall m_lean (fCons (fVar 3) (fCons (fVar 5) fNil))) (fVar 5)))) (bRet (fC (.bl false))) bNext)))))) (bRet (fC (.bl true)))))
noncomputable def m_law_k11 : FF := body ["script", "state", "turn", "book", "stream", "due"] 1 b_law_k11
end SF
set_option Elab.async false
set_option linter.all false
set_option maxRecDepth 100000
namespace SF
open PySem PySem.Spec L2 TL
open PyProof.Rows hiding St
noncomputable def b__law_full : BS := (bSeq (bSet 2 (fPure (fLc (fiA (fBin ixT (fVar 1) (fC (.int 2)))) (sName 3) (fTest (fBin gtT (fCall m__law_draw (fCons (fVar 0) (fCons (fC (.int 3)) fNil))) (fC (.int 0)))) (fBin ixT (fVar 3) (fC (.int 0))) [3]))) (bRet (fBin addT (fBlt tupT (fCons (fVar 2) fNil)) (fCall m__law_stream (fCons (fVar 0) (fCons (fVar 1) (fCons (fC (.int 16)) fNil)))))))
noncomputable def m__law_full : FF := body ["state", "book", "ahead", "code"] 2 b__law_full
noncomputable def b_sets_of : BS := (bSeq (bSet 1 (fPure (fLstN (fCons (fTup fNil) fNil)))) (bSeq (bFor (fiA (fVar 0)) (sName 2) (bSet 1 (fBin addT (fVar 1) (fPure (fLc (fiA (fVar 1)) (sName 3) fYes (fBin addT (fVar 3) (fTup (fCons (fVar 2) fNil))) [3]))))) (bRet (fVar 1))))
noncomputable def m_sets_of : FF := body ["kinds", "sets", "kind", "some"] 1 b_sets_of
noncomputable def b_kinds_of : BS := (bSeq (bSet 1 (fBin ixT (fCall m_need_book (fCons (fVar 0) fNil)) (fC (.int 2)))) (bRet (fBlt tupT (fCons (fPure (fSortX (fSt (fiA (fVar 1)) (sName 2) fYes (fBin ixT (fVar 2) (fC (.int 1))) [2]))) fNil))))
noncomputable def m_kinds_of : FF := body ["book", "codes", "code"] 1 b_kinds_of
noncomputable def b_has_all : BS := (bRet (fBlt allT (fCons (fPure (fLc (fiA (fVar 1)) (sName 2) fYes (fBin inT (fVar 2) (fVar 0)) [2])) fNil)))
noncomputable def m_has_all : FF := body ["kinds", "some", "kind"] 2 b_has_all
noncomputable def b_freeing : BS := (bSeq (bExpr (fCall m_need_stream (fCons (fVar 0) (fCons (fVar 1) fNil)))) (bSeq (bSet 2 (fCall m_chains_shown (fCons (fVar 0) (fCons (fVar 1) fNil)))) (bSeq (bSet 3 (fCell (fLstN fNil))) (bSeq (bFor (fiA (fCall m_sets_of (fCons (fCall m_kinds_of (fCons (fVar 0) fNil)) fNil))) (sName 4) (bIf (fNotT (fTru (fBlt anyT (fCons (fPure (fLcC (fiAC (fVar 3)) (sName 5) fYes (fCall m_has_all (fCons (fVar 4) (fCons (fVar 5) fNil))) [5])) fNil)))) (bIf (fNotT (fTru (fBlt anyT (fCons (fPure (fLc (fiA (fVar 2)) (sName 6) fYes (fCall m_hangs_there (fCons (fVar 6) (fCons (fVar 4) fNil))) [6])) fNil)))) (bExpr (fApp (fVar 3) (fCons (fVar 4) fNil))) bNext) bNext)) (bRet (fBlt tupT (fCons (fPure (fBlt sortRT (fCons (fVar 3) fNil))) fNil)))))))
noncomputable def m_freeing : FF := gc (body ["book", "stream", "rows", "least", "kinds", "some", "row"] 2 b_freeing)
noncomputable def b__law_is_freed : BS := (bSeq (bFor (fiA (fCall m__law_sets (fCons (fVar 3) fNil))) (sName 4) (bIf (fAndT (fTest (fBin eqT (fPure (fLc (fiA (fVar 2)) (sName 5) (fTest (fBin ninT (fVar 5) (fVar 4))) (fVar 5) [5])) (fPure (fLstN fNil)))) (fTest (fBin neT (fCall m__law_hung (fCons (fVar 0) (fCons (fVar 1) (fCons (fVar 4) fNil)))) (fPure (fLstN fNil))))) (bRet (fC (.bl false))) bNext)) (bRet (fC (.bl true))))
noncomputable def m__law_is_freed : FF := body ["book", "items", "some", "words", "terminal", "kind"] 4 b__law_is_freed
noncomputable def b_hangs_k17 : BS := (bSeq (bExpr (fCall m_need_stream (fCons (fVar 0) (fCons (fVar 1) fNil)))) (bSeq (bExpr (fCall m_need_terminal (fCons (fVar 2) fNil))) (bSeq (bSet 3 (fCall m_chains_shown (fCons (fVar 0) (fCons (fVar 1) fNil)))) (bRet (fPure (fLc (fiEA (fCons (fVar 3) fNil)) (sTup 2 (sCons (sName 4) (sCons (sName 5) sNil))) (fTru (fCall m_hangs_there (fCons (fVar 5) (fCons (fVar 2) fNil)))) (fVar 4) [4, 5]))))))
noncomputable def m_hangs_k17 : FF := body ["book", "stream", "terminal", "rows", "number", "row"] 3 b_hangs_k17
noncomputable def b__law_right_k17 : BS := (bSeq (bPar 4 5 (fCons (fCall m__law_kinds (fCons (fVar 0) fNil)) (fCons (fCell (fLstN fNil)) fNil))) (bSeq (bFor (fiA (fCall m__law_sets (fCons (fVar 4) fNil))) (sName 2) (bSeq (bSet 6 (fPure (fLcC (fiAC (fVar 5)) (sName 7) (fTest (fBin eqT (fPure (fLc (fiA (fVar 7)) (sName 8) (fTest (fBin ninT (fVar 8) (fVar 2))) (fVar 8) [8])) (fPure (fLstN fNil)))) (fVar 7) [7]))) (bIf (fAndT (fTest (fBin eqT (fVar 6) (fPure (fLstN fNil)))) (fTru (fCall m__law_is_freed (fCons (fVar 0) (fCons (fVar 1) (fCons (fVar 2) (fCons (fBin addT (fVar 4) (fPure (fLstN (fCons (fC (.str "zz")) fNil)))) fNil))))))) (bExpr (fApp (fVar 5) (fCons (fVar 2) fNil))) bNext))) (bSeq (bSet 3 (fCall m_freeing (fCons (fVar 0) (fCons (fVar 1) fNil)))) (bSeq (bIf (fOrT (fTest (fBin neT (fBlt reprT (fCons (fVar 3) fNil)) (fBlt reprT (fCons (fBlt tupT (fCons (fPure (fBlt sortRT (fCons (fVar 5) fNil))) fNil)) fNil)))) (fTest (fBin neT (fBlt reprT (fCons (fCall m_freeing (fCons (fVar 0) (fCons (fVar 1) fNil))) fNil)) (fBlt reprT (fCons (fVar 3) fNil))))) (bRet (fC (.bl false))) bNext) (bRet (fBin eqT (fPure (fLc (fiA (fVar 3)) (sName 2) (fTest (fBin neT (fCall m_hangs_k17 (fCons (fVar 0) (fCons (fVar 1) (fCons (fVar 2) fNil)))) (fPure (fLstN fNil)))) (fVar 2) [2])) (fPure (fLstN fNil))))))))
noncomputable def m__law_right_k17 : FF := gc (body ["book", "items", "some", "told", "words", "due", "less", "row", "kind"] 2 b__law_right_k17)
noncomputable def b_law_k17 : BS := (bSeq (bSet 1 (fCall m__law_begin (fCons (fVar 0) fNil))) (bSeq (bFor (fiR1 (fCons (fBin addT (fC (.int 3)) (fBlt minT (fCons (fBlt lenT (fCons (fVar 0) fNil)) (fCons (fC (.int 6)) fNil)))) fNil)) (sName 2) (bSeq (bSet 3 (fCall m__law_book (fCons (fVar 1) (fCons (fC (.int 8)) fNil)))) (bSeq (bSet 4 (fIf (fTest (fBin gtT (fCall m__law_draw (fCons (fVar 1) (fCons (fC (.int 4)) fNil))) (fC (.int 0)))) (fCall m__law_full (fCons (fVar 1) (fCons (fVar 3) fNil))) (fCall m__law_stream (fCons (fVar 1) (fCons (fVar 3) (fCons (fC (.int 25)) fNil)))))) (bIf (fNotT (fTru (fCall m__law_right_k17 (fCons (fVar 3) (fCons (fVar 4) fNil))))) (bRet (fC (.bl false))) bNext)))) (bRet (fC (.bl true)))))
noncomputable def m_law_k17 : FF := body ["script", "state", "turn", "book", "items"] 1 b_law_k17
noncomputable def b__law_hand_book : BS := (bSeq (bSet 0 (fTup (fCons (fTup (fCons (fC (.str "g")) (fCons (fC (.str "plain")) fNil))) (fCons (fTup (fCons (fC (.str "i")) (fCons (fC (.str "plain")) fNil))) (fCons (fTup (fCons (fC (.str "w")) (fCons (fC (.str "plain")) fNil))) fNil))))) (bSeq (bSet 1 (fTup (fCons (fTup (fCons (fC (.str "0")) (fCons (fC (.str "basic")) (fCons (fVar 0) fNil)))) (fCons (fTup (fCons (fC (.str "1")) (fCons (fC (.str "basic")) (fCons (fTup (fCons (fTup (fCons (fC (.str "w")) (fCons (fC (.str "bold")) fNil))) fNil)) fNil)))) (fCons (fTup (fCons (fC (.str "33")) (fCons (fC (.str "basic")) (fCons (fTup (fCons (fTup (fCons (fC (.str "i")) (fCons (fC (.str "red")) fNil))) fNil)) fNil)))) fNil))))) (bSeq (bSet 1 (fBin addT (fVar 1) (fTup (fCons (fTup (fCons (fC (.str "38;5")) (fCons (fC (.str "many")) (fCons (fTup (fCons (fTup (fCons (fC (.str "i")) (fCons (fC (.str "rust")) fNil))) fNil)) fNil)))) (fCons (fTup (fCons (fC (.str "48;5")) (fCons (fC (.str "many")) (fCons (fTup (fCons (fTup (fCons (fC (.str "g")) (fCons (fC (.str "sand")) fNil))) fNil)) fNil)))) fNil))))) (bSeq (bSet 1 (fBin addT (fVar 1) (fTup (fCons (fTup (fCons (fC (.str "38;2")) (fCons (fC (.str "true")) (fCons (fTup (fCons (fTup (fCons (fC (.str "g")) (fCons (fC (.str "sky")) fNil))) (fCons (fTup (fCons (fC (.str "i")) (fCons (fC (.str "ink")) fNil))) fNil))) fNil)))) (fCons (fTup (fCons (fC (.str "9")) (fCons (fC (.str "slant")) (fCons (fTup (fCons (fTup (fCons (fC (.str "w")) (fCons (fC (.str "plain")) fNil))) fNil)) fNil)))) fNil))))) (bRet (fTup (fCons (fTup (fCons (fC (.str "g")) (fCons (fC (.str "i")) (fCons (fC (.str "w")) fNil)))) (fCons (fTup (fCons (fC (.str "g")) fNil)) (fCons (fVar 1) fNil)))))))))
noncomputable def m__law_hand_book : FF := body ["all_plain", "codes"] 0 b__law_hand_book
noncomputable def b__law_hand_rows : BS := (bSeq (bAsg (sTup 2 (sCons (sName 3) (sCons (sName 4) sNil))) (fTup (fCons (fTup fNil) (fCons (fTup (fCons (fTup fNil) fNil)) fNil)))) (bSeq (bAsg (sTup 4 (sCons (sName 5) (sCons (sName 6) (sCons (sName 7) (sCons (sName 8) sNil))))) (fTup (fCons (fTup (fCons (fC (.str "basic")) fNil)) (fCons (fTup (fCons (fC (.str "many")) (fCons (fC (.str "true")) fNil))) (fCons (fTup (fCons (fC (.str "basic")) (fCons (fC (.str "many")) fNil))) (fCons (fTup (fCons (fC (.str "zz")) fNil)) fNil)))))) (bSeq (bSet 2 (fCell (fLstN (fCons (fTup (fCons (fTup (fCons (fVar 0) (fCons (fVar 1) fNil))) (fCons (fVar 3) (fCons (fBin mulLT (fPure (fLstN (fCons (fPure (fLstN (fCons (fC (.int 0)) (fCons (fC (.int 1)) fNil)))) fNil))) (fC (.int 4))) fNil)))) (fCons (fTup (fCons (fTup fNil) (fCons (fVar 4) (fCons (fBin mulLT (fPure (fLstN (fCons (fPure (fLstN fNil)) fNil))) (fC (.int 4))) fNil)))) (fCons (fTup (fCons (fTup (fCons (fC (.str "\n")) (fCons (fC (.str "0")) (fCons (fC (.str "\n")) fNil)))) (fCons (fVar 4) (fCons (fBin mulLT (fPure (fLstN (fCons (fPure (fLstN fNil)) fNil))) (fC (.int 4))) fNil)))) fNil)))))) (bSeq (bExpr (fApp (fVar 2) (fCons (fTup (fCons (fTup (fCons (fC (.str "0")) (fCons (fVar 0) fNil))) (fCons (fTup (fCons (fVar 5) fNil)) (fCons (fPure (fLstN (fCons (fPure (fLstN fNil)) (fCons (fPure (fLstN (fCons (fC (.int 0)) fNil))) (fCons (fPure (fLstN fNil)) (fCons (fPure (fLstN (fCons (fC (.int 0)) fNil))) fNil)))))) fNil)))) fNil))) (bSeq (bExpr (fApp (fVar 2) (fCons (fTup (fCons (fTup (fCons (fC (.str "0")) (fCons (fVar 0) (fCons (fC (.str "33")) (fCons (fVar 1) (fCons (fC (.str "\n")) fNil)))))) (fCons (fTup (fCons (fVar 5) fNil)) (fCons (fPure (fLstN (fCons (fPure (fLstN fNil)) (fCons (fPure (fLstN (fCons (fC (.int 0)) (fCons (fC (.int 1)) fNil)))) (fCons (fPure (fLstN fNil)) (fCons (fPure (fLstN (fCons (fC (.int 0)) (fCons (fC (.int 1)) fNil)))) fNil)))))) fNil)))) fNil))) (bSeq (bExpr (fApp (fVar 2) (fCons (fTup (fCons (fTup (fCons (fC (.str " ")) (fCons (fC (.str "0")) (fCons (fVar 0) fNil)))) (fCons (fVar 3) (fCons (fPure (fLstN (fCons (fPure (fLstN (fCons (fC (.int 0)) fNil))) (fCons (fPure (fLstN (fCons (fC (.int 0)) (fCons (fC (.int 1)) fNil)))) (fCons (fPure (fLstN (fCons (fC (.int 0)) fNil))) (fCons (fPure (fLstN (fCons (fC (.int 0)) (fCons (fC (.int 1)) fNil)))) fNil)))))) fNil)))) fNil))) (bSeq (bExpr (fApp (fVar 2) (fCons (fTup (fCons (fTup (fCons (fC (.str "48;5")) (fCons (fC (.str " ")) (fCons (fC (.str " ")) fNil)))) (fCons (fTup (fCons (fTup (fCons (fC (.str "many")) fNil)) fNil)) (fCons (fPure (fLstN (fCons (fPure (fLstN (fCons (fC (.int 0)) (fCons (fC (.int 1)) fNil)))) (fCons (fPure (fLstN fNil)) (fCons (fPure (fLstN fNil)) (fCons (fPure (fLstN (fCons (fC (.int 0)) (fCons (fC (.int 1)) fNil)))) fNil)))))) fNil)))) fNil))) (bSeq (bExpr (fApp (fVar 2) (fCons (fTup (fCons (fTup (fCons (fC (.str "48;5")) (fCons (fC (.str "38;2")) (fCons (fC (.str " ")) fNil)))) (fCons (fTup (fCons (fTup (fCons (fC (.str "many")) fNil)) (fCons (fTup (fCons (fC (.str "true")) fNil)) fNil))) (fCons (fPure (fLstN (fCons (fPure (fLstN (fCons (fC (.int 0)) fNil))) (fCons (fPure (fLstN fNil)) (fCons (fPure (fLstN fNil)) (fCons (fPure (fLstN (fCons (fC (.int 0)) fNil))) fNil)))))) fNil)))) fNil))) (bSeq (bExpr (fApp (fVar 2) (fCons (fTup (fCons (fTup (fCons (fC (.str "48;5")) (fCons (fC (.str "38;5")) (fCons (fC (.str "1")) (fCons (fVar 0) fNil))))) (fCons (fTup (fCons (fTup (fCons (fC (.str "basic")) (fCons (fC (.str "many")) fNil))) fNil)) (fCons (fPure (fLstN (fCons (fPure (fLstN (fCons (fC (.int 0)) fNil))) (fCons (fPure (fLstN (fCons (fC (.int 0)) fNil))) (fCons (fPure (fLstN fNil)) (fCons (fPure (fLstN (fCons (fC (.int 0)) fNil))) fNil)))))) fNil)))) fNil))) (bSeq (bExpr (fApp (fVar 2) (fCons (fTup (fCons (fTup (fCons (fC (.str "38;2")) (fCons (fC (.str "9")) (fCons (fVar 0) (fCons (fC (.str "0")) (fCons (fVar 1) fNil)))))) (fCons (fTup (fCons (fTup (fCons (fC (.str "slant")) (fCons (fC (.str "true")) fNil))) fNil)) (fCons (fPure (fLstN (fCons (fPure (fLstN (fCons (fC (.int 0)) fNil))) (fCons (fPure (fLstN (fCons (fC (.int 0)) (fCons (fC (.int 1)) fNil)))) (fCons (fPure (fLstN (fCons (fC (.int 0)) fNil))) (fCons (fPure (fLstN (fCons (fC (.int 0)) (fCons (fC (.int 1)) fNil)))) fNil)))))) fNil)))) fNil))) (bSeq (bExpr (fApp (fVar 2) (fCons (fTup (fCons (fTup (fCons (fC (.str "38;2")) (fCons (fC (.str "9")) (fCons (fC (.str "1")) (fCons (fVar 0) fNil))))) (fCons (fTup (fCons (fTup (fCons (fC (.str "basic")) (fCons (fC (.str "true")) fNil))) (fCons (fTup (fCons (fC (.str "slant")) (fCons (fC (.str "true")) fNil))) fNil))) (fCons (fPure (fLstN (fCons (fPure (fLstN (fCons (fC (.int 0)) fNil))) (fCons (fPure (fLstN (fCons (fC (.int 0)) fNil))) (fCons (fPure (fLstN (fCons (fC (.int 0)) fNil))) (fCons (fPure (fLstN (fCons (fC (.int 0)) fNil))) fNil)))))) fNil)))) fNil))) (bSeq (bExpr (fApp (fVar 2) (fCons (fTup (fCons (fTup (fCons (fC (.str "0")) (fCons (fC (.str "48;5")) (fCons (fC (.str "38;2")) (fCons (fC (.str " ")) (fCons (fVar 0) fNil)))))) (fCons (fTup (fCons (fTup (fCons (fC (.str "basic")) fNil)) fNil)) (fCons (fPure (fLstN (fCons (fPure (fLstN fNil)) (fCons (fPure (fLstN (fCons (fC (.int 1)) fNil))) (fCons (fPure (fLstN fNil)) (fCons (fPure (fLstN (fCons (fC (.int 0)) (fCons (fC (.int 1)) fNil)))) fNil)))))) fNil)))) fNil))) (bRet (fTup (fCons (fVar 2) (fCons (fTup (fCons (fVar 5) (fCons (fVar 6) (fCons (fVar 7) (fCons (fVar 8) fNil))))) fNil))))))))))))))))
noncomputable def m__law_hand_rows : FF := gc (body ["x", "y", "found", "never", "all_sets", "basic", "deep", "both", "strange"] 2 b__law_hand_rows)
noncomputable def b_law_k15 : BS := (bSeq (bAsg (sTup 2 (sCons (sName 3) (sCons (sName 4) sNil))) (fTup (fCons (fCall m__law_begin (fCons (fVar 0) fNil)) (fCons (fCall m__law_hand_book fNil) fNil)))) (bSeq (bFor (fiR1 (fCons (fBin addT (fC (.int 1)) (fBlt minT (fCons (fBlt lenT (fCons (fVar 0) fNil)) (fCons (fC (.int 5)) fNil)))) fNil)) (sName 1) (bSeq (bSet 5 (fC (.str "abcdefghijklmnopqrstuvwxyz"))) (bSeq (bAsg (sTup 2 (sCons (sName 6) (sCons (sName 7) sNil))) (fCall m__law_hand_rows (fCons (fBin ixT (fVar 5) (fCall m__law_draw (fCons (fVar 3) (fCons (fC (.int 26)) fNil)))) (fCons (fBin ixT (fVar 5) (fCall m__law_draw (fCons (fVar 3) (fCons (fC (.int 26)) fNil)))) fNil)))) (bFor (fiA (fVar 6)) (sTup 3 (sCons (sName 8) (sCons (sName 9) (sCons (sName 10) sNil)))) (bSeq (bIf (fTest (fBin neT (fBlt reprT (fCons (fCall m_freeing (fCons (fVar 4) (fCons (fVar 8) fNil))) fNil)) (fBlt reprT (fCons (fVar 9) fNil)))) (bRet (fC (.bl false))) bNext) (bIf (fTest (fBin neT (fBlt reprT (fCons (fPure (fLc (fiA (fVar 7)) (sName 11) fYes (fCall m_hangs_k17 (fCons (fVar 4) (fCons (fVar 8) (fCons (fVar 11) fNil)))) [11])) fNil)) (fBlt reprT (fCons (fVar 10) fNil)))) (bRet (fC (.bl false))) bNext)))))) (bSeq (bIf (fOrT (fTest (fBin neT (fCall m_hangs_k17 (fCons (fVar 4) (fCons (fTup (fCons (fC (.str "0")) (fCons (fC (.str "a")) fNil))) (fCons (fTup (fCons (fC (.str "basic")) (fCons (fC (.str "many")) (fCons (fC (.str "zz")) fNil)))) fNil)))) (fPure (fLstN fNil)))) (fTest (fBin neT (fCall m_freeing (fCons (fTup (fCons (fTup (fCons (fC (.str "a")) fNil)) (fCons (fTup fNil) (fCons (fTup fNil) fNil)))) (fCons (fTup (fCons (fC (.str "a")) fNil)) fNil))) (fTup fNil)))) (bRet (fC (.bl false))) bNext) (bSeq (bSet 2 (fTup (fCons (fTup (fCons (fC (.str "1")) (fCons (fC (.str "j")) (fCons (fTup (fCons (fTup (fCons (fC (.str "a")) (fCons (fC (.str "u")) fNil))) fNil)) fNil)))) (fCons (fTup (fCons (fC (.str "2")) (fCons (fC (.str "k")) (fCons (fTup (fCons (fTup (fCons (fC (.str "b")) (fCons (fC (.str "u")) fNil))) fNil)) fNil)))) (fCons (fTup (fCons (fC (.str "3")) (fCons (fC (.str "l")) (fCons (fTup (fCons (fTup (fCons (fC (.str "a")) (fCons (fC (.str "v")) fNil))) (fCons (fTup (fCons (fC (.str "b")) (fCons (fC (.str "v")) fNil))) fNil))) fNil)))) fNil))))) (bRet (fBin eqT (fCall m_freeing (fCons (fTup (fCons (fTup (fCons (fC (.str "a")) (fCons (fC (.str "b")) fNil))) (fCons (fTup fNil) (fCons (fVar 2) fNil)))) (fCons (fTup (fCons (fC (.str "1")) (fCons (fC (.str "2")) (fCons (fC (.str "3")) (fCons (fC (.str "x")) fNil))))) fNil))) (fTup (fCons (fTup (fCons (fC (.str "j")) (fCons (fC (.str "k")) fNil))) (fCons (fTup (fCons (fC (.str "l")) fNil)) fNil)))))))))
noncomputable def m_law_k15 : FF := body ["script", "turn", "codes", "state", "book", "letters", "rows", "terminals", "stream", "least", "due", "terminal"] 1 b_law_k15
end SF
set_option Elab.async false
set_option linter.all false
set_option maxRecDepth 100000
namespace SF
open PySem PySem.Spec L2 TL
open PyProof.Rows hiding St
noncomputable def b__law_near : BS := (bSeq (bAsg (sTup 2 (sCons (sName 5) (sCons (sName 6) sNil))) (fTup (fCons (fPure (fLc (fiA (fBin ixT (fVar 1) (fC (.int 2)))) (sName 9) fYes (fBin ixT (fVar 9) (fC (.int 0))) [9])) (fCons (fCell (fBlt listT (fCons (fVar 2) fNil))) fNil)))) (bSeq (bSet 3 (fPure (fLcC (fiEC (fCons (fVar 6) fNil)) (sTup 2 (sCons (sName 10) (sCons (sName 11) sNil))) (fTest (fBin inT (fVar 11) (fVar 5))) (fVar 10) [10, 11]))) (bSeq (bPar 7 8 (fCons (fCall m__law_draw (fCons (fVar 0) (fCons (fBin addT (fBlt lenT (fCons (fVar 6) fNil)) (fC (.int 1))) fNil))) (fCons (fCall m__law_draw (fCons (fVar 0) (fCons (fC (.int 5)) fNil))) fNil))) (bSeq (bIf (fOrT (fTest (fBin eqT (fVar 3) (fPure (fLstN fNil)))) (fTest (fBin eqT (fVar 8) (fC (.int 0))))) (bSeq (bExpr (fCM opIns (fVar 6) (fCons (fVar 7) (fCons (fBin ixT (fVar 5) (fCall m__law_draw (fCons (fVar 0) (fCons (fBlt lenT (fCons (fVar 5) fNil)) fNil)))) fNil)))) (bRet (fBlt tupT (fCons (fVar 6) fNil)))) bNext) (bSeq (bSet 4 (fBin ixT (fVar 3) (fCall m__law_draw (fCons (fVar 0) (fCons (fBlt lenT (fCons (fVar 3) fNil)) fNil))))) (bSeq (bIf (fTest (fBin eqT (fVar 8) (fC (.int 1)))) (bExpr (fCM opPop (fVar 6) (fCons (fVar 4) fNil))) (bIf (fTest (fBin eqT (fVar 8) (fC (.int 2)))) (bStore (fVar 6) (fVar 4) (fBin ixT (fVar 5) (fCall m__law_draw (fCons (fVar 0) (fCons (fBlt lenT (fCons (fVar 5) fNil)) fNil))))) (bIf (fTest (fBin eqT (fVar 8) (fC (.int 3)))) (bExpr (fCM opIns (fVar 6) (fCons (fBlt maxT (fCons (fC (.int 0)) (fCons (fBin subT (fBin subT (fVar 4) (fC (.int 1))) (fCall m__law_draw (fCons (fVar 0) (fCons (fC (.int 2)) fNil)))) fNil))) (fCons (fCM opPop (fVar 6) (fCons (fVar 4) fNil)) fNil)))) (bSeq (bSet 12 (fBin ixT (fVar 3) (fCall m__law_draw (fCons (fVar 0) (fCons (fBlt lenT (fCons (fVar 3) fNil)) fNil))))) (bSwap (fVar 6) (fVar 4) (fVar 6) (fVar 12) (fTup (fCons (fBin ixT (fVar 6) (fVar 12)) (fCons (fBin ixT (fVar 6) (fVar 4)) fNil)))))))) (bRet (fBlt tupT (fCons (fVar 6) fNil)))))))))
noncomputable def m__law_near : FF := gc (body ["state", "book", "stream", "some", "to", "words", "found", "at", "way", "code", "k", "item", "other"] 3 b__law_near)
noncomputable def b_is_number : BS := (bRet (fAnd (fBlt isiT (fCons (fVar 0) (fCons (fC (.val (.ty "int"))) fNil))) (fAnd (fNot (fBlt isiT (fCons (fVar 0) (fCons (fC (.val (.ty "bool"))) fNil)))) (fChain leT ltT (fC (.int 0)) (fVar 0) (fVar 1)))))
noncomputable def m_is_number : FF := body ["thing", "many"] 2 b_is_number
noncomputable def b_chains_behind : BS := (bSeq (bSet 2 (fCall m_codes_by_word (fCons (fVar 0) fNil))) (bSeq (bSet 3 (fCall m_no_chains (fCons (fVar 0) fNil))) (bSeq (bFor (fiA (fVar 1)) (sName 4) (bIf (fNotT (fTru (fCall m_is_sign (fCons (fVar 4) fNil)))) (bExpr (fCall m_pass_code (fCons (fVar 3) (fCons (fBin ixT (fVar 2) (fVar 4)) fNil)))) bNext)) (bRet (fVar 3)))))
noncomputable def m_chains_behind : FF := gc (body ["book", "items", "codes", "chains", "item"] 2 b_chains_behind)
noncomputable def b_chain_at : BS := (bSeq (bExpr (fCall m_need_stream (fCons (fVar 0) (fCons (fVar 1) fNil)))) (bSeq (bIf (fNotT (fTru (fCall m_is_number (fCons (fVar 2) (fCons (fBin addT (fBlt lenT (fCons (fVar 1) fNil)) (fC (.int 1))) fNil))))) bStuck bNext) (bSeq (bIf (fOrT (fNotT (fTru (fBlt isiT (fCons (fVar 3) (fCons (fC (.val (.ty "str"))) fNil))))) (fTest (fBin ninT (fVar 3) (fBin ixT (fVar 0) (fC (.int 0)))))) bStuck bNext) (bRet (fBin ixT (fCall m_chains_behind (fCons (fVar 0) (fCons (fSl (fVar 1) foN (foS (fVar 2))) fNil))) (fVar 3))))))
noncomputable def m_chain_at : FF := body ["book", "stream", "place", "aspect"] 4 b_chain_at
noncomputable def b_is_chain : BS := (bSeq (bIf (fOrT (fNotT (fTru (fBlt isiT (fCons (fVar 0) (fCons (fC (.val (.ty "tuple"))) fNil))))) (fTest (fBin gtT (fBlt lenT (fCons (fVar 0) fNil)) (fC (.int 12))))) (bRet (fC (.bl false))) bNext) (bSeq (bIf (fNotT (fTru (fBlt allT (fCons (fPure (fLc (fiA (fVar 0)) (sName 1) fYes (fCall m_is_name_pair (fCons (fVar 1) fNil)) [1])) fNil)))) (bRet (fC (.bl false))) bNext) (bRet (fBin eqT (fLenX (fSt (fiA (fVar 0)) (sName 1) fYes (fBin ixT (fVar 1) (fC (.int 0))) [1])) (fBlt lenT (fCons (fVar 0) fNil))))))
noncomputable def m_is_chain : FF := body ["thing", "pair"] 1 b_is_chain
noncomputable def b_need_chain : BS := (bSeq (bIf (fNotT (fTru (fCall m_is_chain (fCons (fVar 0) fNil)))) bStuck bNext) (bRet (fVar 0)))
noncomputable def m_need_chain : FF := body ["thing"] 1 b_need_chain
noncomputable def b_same : BS := (bSeq (bExpr (fCall m_need_chain (fCons (fVar 0) fNil))) (bSeq (bExpr (fCall m_need_chain (fCons (fVar 1) fNil))) (bRet (fCall m_have_one_form (fCons (fVar 0) (fCons (fVar 1) fNil))))))
noncomputable def m_same : FF := body ["one", "other"] 2 b_same
noncomputable def b__law_is_like_behind : BS := (bSeq (bFor (fiA (fBin ixT (fVar 0) (fC (.int 0)))) (sName 3) (bSeq (bPar 4 5 (fCons (fCall m_chain_at (fCons (fVar 0) (fCons (fVar 1) (fCons (fBlt lenT (fCons (fVar 1) fNil)) (fCons (fVar 3) fNil))))) (fCons (fCall m_chain_at (fCons (fVar 0) (fCons (fVar 2) (fCons (fBlt lenT (fCons (fVar 2) fNil)) (fCons (fVar 3) fNil))))) fNil))) (bIf (fNotT (fTru (fCall m_same (fCons (fVar 4) (fCons (fVar 5) fNil))))) (bRet (fC (.bl false))) bNext))) (bRet (fC (.bl true))))
noncomputable def m__law_is_like_behind : FF := body ["book", "one", "other", "aspect", "first", "second"] 3 b__law_is_like_behind
noncomputable def b__law_pair_right_k12 : BS := (bSeq (bPar 4 5 (fCons (fCall m__law_stream (fCons (fVar 0) (fCons (fVar 1) (fCons (fC (.int 6)) fNil)))) (fCons (fCall m__law_stream (fCons (fVar 0) (fCons (fVar 1) (fCons (fC (.int 6)) fNil)))) fNil))) (bSeq (bIf (fAndT (fNotT (fTru (fCall m_alike (fCons (fVar 1) (fCons (fBin addT (fVar 4) (fVar 2)) (fCons (fBin addT (fVar 4) (fVar 3)) fNil)))))) (fTru (fCall m_alike (fCons (fVar 1) (fCons (fVar 2) (fCons (fVar 3) fNil)))))) (bRet (fC (.bl false))) bNext) (bSeq (bIf (fOrT (fNotT (fTru (fCall m_alike (fCons (fVar 1) (fCons (fVar 2) (fCons (fVar 3) fNil)))))) (fNotT (fTru (fCall m__law_is_like_behind (fCons (fVar 1) (fCons (fVar 2) (fCons (fVar 3) fNil))))))) (bRet (fC (.bl true))) bNext) (bRet (fBin isBT (fCall m_alike (fCons (fVar 1) (fCons (fBin addT (fVar 2) (fVar 5)) (fCons (fBin addT (fVar 3) (fVar 5)) fNil)))) (fC (.bl true)))))))
noncomputable def m__law_pair_right_k12 : FF := body ["state", "book", "one", "other", "ahead", "behind_v"] 4 b__law_pair_right_k12
noncomputable def b_law_k12 : BS := (bSeq (bSet 1 (fCall m__law_begin (fCons (fVar 0) fNil))) (bSeq (bSet 2 (fCall m__law_book (fCons (fVar 1) (fCons (fC (.int 8)) fNil)))) (bSeq (bSet 3 (fCell (fLstN (fCons (fCall m__law_stream (fCons (fVar 1) (fCons (fVar 2) (fCons (fC (.int 10)) fNil)))) fNil)))) (bSeq (bSet 4 (fPure (fLc (fiA (fBin ixT (fVar 3) (fC (.int 0)))) (sName 8) (fTest (fBin inT (fVar 8) (fTup (fCons (fC (.str "x")) (fCons (fC (.str "y")) (fCons (fC (.str "z")) (fCons (fC (.str " ")) (fCons (fC (.str "\n")) fNil)))))))) (fVar 8) [8]))) (bSeq (bFor (fiR1 (fCons (fBin addT (fC (.int 2)) (fCall m__law_draw (fCons (fVar 1) (fCons (fC (.int 4)) fNil)))) fNil)) (sName 5) (bExpr (fApp (fVar 3) (fCons (fCall m__law_near (fCons (fVar 1) (fCons (fVar 2) (fCons (fBin ixT (fVar 3) (fBin ixT (fPure (fLstN (fCons (fC (.int 0)) (fCons (fUn negT (fC (.int 1))) fNil)))) (fCall m__law_draw (fCons (fVar 1) (fCons (fC (.int 2)) fNil))))) fNil)))) fNil)))) (bSeq (bSet 6 (fCell (fLstN fNil))) (bSeq (bFor (fiR1 (fCons (fBlt lenT (fCons (fVar 3) fNil)) fNil)) (sName 7) (bSeq (bIf (fTest (fBin neT (fPure (fLc (fiA (fBin ixT (fVar 3) (fVar 7))) (sName 8) (fTest (fBin inT (fVar 8) (fTup (fCons (fC (.str "x")) (fCons (fC (.str "y")) (fCons (fC (.str "z")) (fCons (fC (.str " ")) (fCons (fC (.str "\n")) fNil)))))))) (fVar 8) [8])) (fVar 4))) (bRet (fC (.bl false))) bNext) (bExpr (fCM opExt (fVar 6) (fCons (fPure (fLc (fiR1 (fCons (fBlt lenT (fCons (fVar 3) fNil)) fNil)) (sName 5) (fTru (fCall m_alike (fCons (fVar 2) (fCons (fBin ixT (fVar 3) (fVar 7)) (fCons (fBin ixT (fVar 3) (fVar 5)) fNil))))) (fTup (fCons (fVar 7) (fCons (fVar 5) fNil))) [5])) fNil))))) (bSeq (bForC (fiAC (fVar 6)) (sTup 2 (sCons (sName 7) (sCons (sName 5) sNil))) (bSeq (bIf (fOrT (fTest (fBin ninDT (fTup (fCons (fVar 5) (fCons (fVar 7) fNil))) (fVar 6))) (fNotT (fTru (fCall m__law_pair_right_k12 (fCons (fVar 1) (fCons (fVar 2) (fCons (fBin ixT (fVar 3) (fVar 7)) (fCons (fBin ixT (fVar 3) (fVar 5)) fNil)))))))) (bRet (fC (.bl false))) bNext) (bIf (fTest (fBin neT (fPure (fLc (fiR1 (fCons (fBlt lenT (fCons (fVar 3) fNil)) fNil)) (sName 9) (fAndT (fTest (fBin inDT (fTup (fCons (fVar 5) (fCons (fVar 9) fNil))) (fVar 6))) (fTest (fBin ninDT (fTup (fCons (fVar 7) (fCons (fVar 9) fNil))) (fVar 6)))) (fC (.int 1)) [9])) (fPure (fLstN fNil)))) (bRet (fC (.bl false))) bNext))) (bRet (fBin eqT (fPure (fLc (fiR1 (fCons (fBlt lenT (fCons (fVar 3) fNil)) fNil)) (sName 7) (fTest (fBin ninDT (fTup (fCons (fVar 7) (fCons (fVar 7) fNil))) (fVar 6))) (fC (.int 1)) [7])) (fPure (fLstN fNil))))))))))))
noncomputable def m_law_k12 : FF := body ["script", "state", "book", "row", "signs", "k", "pairs", "j", "item", "last"] 1 b_law_k12
end SF
set_option Elab.async false
set_option linter.all false
set_option maxRecDepth 100000
namespace SF
open PySem PySem.Spec L2 TL
open PyProof.Rows hiding St
noncomputable def b_least_apart : BS := (bSeq (bSet 2 (fPure (fSortX (fSt (fiA (fBin addT (fVar 0) (fVar 1))) (sName 8) fYes (fBin ixT (fVar 8) (fC (.int 0))) [8])))) (bSeq (bSet 3 (fPure (fLc (fiA (fVar 2)) (sName 6) fYes (fTup (fCons (fVar 6) fNil)) [6]))) (bSeq (bSet 4 (fPure (fLc2 (fiA (fVar 2)) (sName 6) fYes (fiL (fVar 2)) (sName 7) (fTest (fBin ltT (fVar 6) (fVar 7))) (fTup (fCons (fVar 6) (fCons (fVar 7) fNil))) [7] [6, 7]))) (bSeq (bFor (fiA (fBin addT (fVar 3) (fVar 4))) (sName 5) (bIf (fTest (fBin neT (fCall m_worth_among (fCons (fVar 0) (fCons (fVar 5) fNil))) (fCall m_worth_among (fCons (fVar 1) (fCons (fVar 5) fNil))))) (bRet (fVar 5)) bNext)) (bRet (fC .non))))))
noncomputable def m_least_apart : FF := body ["one", "other", "kinds", "singles", "twos", "terminal", "kind", "more", "pair"] 2 b_least_apart
noncomputable def b_told_apart : BS := (bSeq (bExpr (fCall m_need_chain (fCons (fVar 0) fNil))) (bSeq (bExpr (fCall m_need_chain (fCons (fVar 1) fNil))) (bRet (fCall m_least_apart (fCons (fVar 0) (fCons (fVar 1) fNil))))))
noncomputable def m_told_apart : FF := body ["one", "other"] 2 b_told_apart
noncomputable def b__law_long_right : BS := (bSeq (bSet 0 (fBlt tupT (fCons (fPure (fLc (fiEX (fCons (fC (.str "abcdefghij")) fNil)) (sTup 2 (sCons (sName 3) (sCons (sName 4) sNil))) fYes (fTup (fCons (fBin addT (fC (.str "k")) (fVar 4)) (fCons (fBin ixT (fPure (fLstN (fCons (fC (.str "u")) (fCons (fC (.str "v")) fNil)))) (fBin modT (fVar 3) (fC (.int 2)))) fNil))) [3, 4])) fNil))) (bSeq (bPar 1 2 (fCons (fBin addT (fVar 0) (fTup (fCons (fTup (fCons (fC (.str "y")) (fCons (fC (.str "u")) fNil))) (fCons (fTup (fCons (fC (.str "z")) (fCons (fC (.str "v")) fNil))) fNil)))) (fCons (fBin addT (fVar 0) (fTup (fCons (fTup (fCons (fC (.str "z")) (fCons (fC (.str "v")) fNil))) (fCons (fTup (fCons (fC (.str "y")) (fCons (fC (.str "u")) fNil))) fNil)))) fNil))) (bRet (fAnd (fBin isBT (fCall m_same (fCons (fVar 1) (fCons (fVar 2) fNil))) (fC (.bl false))) (fAnd (fBin eqT (fCall m_told_apart (fCons (fVar 1) (fCons (fVar 2) fNil))) (fTup (fCons (fC (.str "y")) (fCons (fC (.str "z")) fNil)))) (fBin isBT (fCall m_same (fCons (fVar 1) (fCons (fVar 1) fNil))) (fC (.bl true))))))))
noncomputable def m__law_long_right : FF := body ["ahead", "one", "other", "k", "sign"] 0 b__law_long_right
noncomputable def b__law_chain : BS := (bSeq (bPar 2 3 (fCons (fCell (fLstN (fCons (fC (.str "h")) (fCons (fC (.str "ha")) (fCons (fC (.str "hb")) (fCons (fC (.str "i")) (fCons (fC (.str "j")) fNil))))))) (fCons (fCell (fLstN fNil)) fNil))) (bSeq (bFor (fiR1 (fCons (fCall m__law_draw (fCons (fVar 0) (fCons (fC (.int 6)) fNil))) fNil)) (sName 1) (bExpr (fApp (fVar 3) (fCons (fTup (fCons (fCM opPop (fVar 2) (fCons (fCall m__law_draw (fCons (fVar 0) (fCons (fBlt lenT (fCons (fVar 2) fNil)) fNil))) fNil)) (fCons (fBin ixT (fPure (fLstN (fCons (fC (.str "u")) (fCons (fC (.str "v")) (fCons (fC (.str "plain")) fNil))))) (fCall m__law_draw (fCons (fVar 0) (fCons (fC (.int 3)) fNil)))) fNil))) fNil)))) (bRet (fBlt tupT (fCons (fVar 3) fNil)))))
noncomputable def m__law_chain : FF := gc (body ["state", "k", "some", "found"] 1 b__law_chain)
noncomputable def b__law_other : BS := (bSeq (bPar 3 4 (fCons (fCall m__law_draw (fCons (fVar 0) (fCons (fC (.int 5)) fNil))) (fCons (fCell (fBlt listT (fCons (fVar 1) fNil))) fNil))) (bSeq (bIf (fOrT (fTest (fBin eqT (fVar 4) (fPure (fLstN fNil)))) (fTest (fBin eqT (fVar 3) (fC (.int 0))))) (bRet (fCall m__law_chain (fCons (fVar 0) fNil))) bNext) (bSeq (bSet 2 (fCall m__law_draw (fCons (fVar 0) (fCons (fBlt lenT (fCons (fVar 4) fNil)) fNil)))) (bSeq (bIf (fTest (fBin eqT (fVar 3) (fC (.int 1)))) (bExpr (fCM opPop (fVar 4) (fCons (fVar 2) fNil))) (bIf (fTest (fBin eqT (fVar 3) (fC (.int 2)))) (bStore (fVar 4) (fVar 2) (fTup (fCons (fBin ixT (fBin ixT (fVar 4) (fVar 2)) (fC (.int 0))) (fCons (fBin ixT (fPure (fLstN (fCons (fC (.str "u")) (fCons (fC (.str "v")) (fCons (fC (.str "plain")) fNil))))) (fCall m__law_draw (fCons (fVar 0) (fCons (fC (.int 3)) fNil)))) fNil)))) (bExpr (fCM opIns (fVar 4) (fCons (fCall m__law_draw (fCons (fVar 0) (fCons (fBlt lenT (fCons (fVar 4) fNil)) fNil))) (fCons (fCM opPop (fVar 4) (fCons (fVar 2) fNil)) fNil)))))) (bRet (fBlt tupT (fCons (fVar 4) fNil)))))))
noncomputable def m__law_other : FF := gc (body ["state", "chain", "at", "way", "found"] 2 b__law_other)
noncomputable def b_worth : BS := (bSeq (bExpr (fCall m_need_chain (fCons (fVar 0) fNil))) (bSeq (bExpr (fCall m_need_terminal (fCons (fVar 1) fNil))) (bRet (fCall m_worth_among (fCons (fVar 0) (fCons (fVar 1) fNil))))))
noncomputable def m_worth : FF := body ["chain", "terminal"] 2 b_worth
noncomputable def b__law_worth : BS := (bSeq (bSet 2 (fPure (fLc (fiA (fVar 0)) (sTup 2 (sCons (sName 3) (sCons (sName 4) sNil))) (fTest (fBin inT (fVar 3) (fVar 1))) (fVar 4) [3, 4]))) (bRet (fIf (fTest (fBin neT (fVar 2) (fPure (fLstN fNil)))) (fBin ixT (fVar 2) (fC (.int 0))) (fC .non))))
noncomputable def m__law_worth : FF := body ["chain", "terminal", "some", "kind", "value"] 2 b__law_worth
noncomputable def b_form : BS := (bSeq (bExpr (fCall m_need_chain (fCons (fVar 0) fNil))) (bRet (fCall m_runs_of (fCons (fVar 0) fNil))))
noncomputable def m_form : FF := body ["chain"] 1 b_form
noncomputable def b__law_form : BS := (bSeq (bSet 1 (fCell (fLstN fNil))) (bSeq (bFor (fiA (fVar 0)) (sTup 2 (sCons (sName 2) (sCons (sName 3) sNil))) (bIf (fAndT (fTest (fBin neT (fVar 1) (fPure (fLstN fNil)))) (fTest (fBin eqT (fBin ixT (fBin ixT (fVar 1) (fUn negT (fC (.int 1)))) (fC (.int 0))) (fVar 3)))) (bStore (fVar 1) (fUn negT (fC (.int 1))) (fTup (fCons (fVar 3) (fCons (fBlt tupT (fCons (fPure (fBlt sortT (fCons (fBin addT (fBin ixT (fBin ixT (fVar 1) (fUn negT (fC (.int 1)))) (fC (.int 1))) (fTup (fCons (fVar 2) fNil))) fNil))) fNil)) fNil)))) (bExpr (fApp (fVar 1) (fCons (fTup (fCons (fVar 3) (fCons (fTup (fCons (fVar 2) fNil)) fNil))) fNil))))) (bRet (fBlt tupT (fCons (fVar 1) fNil)))))
noncomputable def m__law_form : FF := gc (body ["chain", "found", "kind", "value"] 1 b__law_form)
noncomputable def b__law_pair_right : BS := (bSeq (bSet 2 (fCall m__law_sets (fCons (fPure (fLstN (fCons (fC (.str "h")) (fCons (fC (.str "ha")) (fCons (fC (.str "hb")) (fCons (fC (.str "i")) (fCons (fC (.str "j")) fNil))))))) fNil))) (bSeq (bSet 3 (fPure (fLc (fiA (fVar 2)) (sName 5) (fTest (fBin neT (fCall m__law_worth (fCons (fVar 0) (fCons (fVar 5) fNil))) (fCall m__law_worth (fCons (fVar 1) (fCons (fVar 5) fNil))))) (fBlt lenT (fCons (fVar 5) fNil)) [5]))) (bSeq (bIf (fOrT (fTest (fBin neT (fBlt reprAT (fCons (fCall m_form (fCons (fVar 0) fNil)) fNil)) (fBlt reprAT (fCons (fCall m__law_form (fCons (fVar 0) fNil)) fNil)))) (fTest (fBin neT (fBlt reprAT (fCons (fCall m_same (fCons (fVar 0) (fCons (fVar 1) fNil))) fNil)) (fBlt reprAT (fCons (fBin eqT (fVar 3) (fPure (fLstN fNil))) fNil))))) (bRet (fC (.bl false))) bNext) (bSeq (bIf (fTest (fBin neT (fPure (fLc (fiA (fVar 2)) (sName 5) fYes (fCall m_worth (fCons (fVar 0) (fCons (fVar 5) fNil))) [5])) (fPure (fLc (fiA (fVar 2)) (sName 5) fYes (fCall m__law_worth (fCons (fVar 0) (fCons (fVar 5) fNil))) [5])))) (bRet (fC (.bl false))) bNext) (bSeq (bSet 4 (fCall m_told_apart (fCons (fVar 0) (fCons (fVar 1) fNil)))) (bSeq (bIf (fOrT (fTest (fBin isNT (fVar 4) (fC .non))) (fTest (fBin eqT (fVar 3) (fPure (fLstN fNil))))) (bRet (fAnd (fBin isNT (fVar 4) (fC .non)) (fBin eqT (fVar 3) (fPure (fLstN fNil))))) bNext) (bSeq (bIf (fOrT (fNotT (fTru (fBlt isiT (fCons (fVar 4) (fCons (fC (.val (.ty "tuple"))) fNil))))) (fOrT (fTest (fBin neT (fPure (fBlt sortT (fCons (fVar 4) fNil))) (fPure (fBlt listT (fCons (fVar 4) fNil))))) (fTest (fBin neT (fBlt lenT (fCons (fVar 4) fNil)) (fBin ixT (fVar 3) (fC (.int 0))))))) (bRet (fC (.bl false))) bNext) (bRet (fAnd (fBin inT (fBin ixT (fVar 3) (fC (.int 0))) (fTup (fCons (fC (.int 1)) (fCons (fC (.int 2)) fNil)))) (fBin neT (fCall m__law_worth (fCons (fVar 0) (fCons (fVar 4) fNil))) (fCall m__law_worth (fCons (fVar 1) (fCons (fVar 4) fNil)))))))))))))
noncomputable def m__law_pair_right : FF := body ["one", "other", "sets", "apart", "found", "some"] 2 b__law_pair_right
noncomputable def b_law_k07 : BS := (bSeq (bSet 1 (fCall m__law_begin (fCons (fVar 0) fNil))) (bSeq (bIf (fNotT (fTru (fCall m__law_long_right fNil))) (bRet (fC (.bl false))) bNext) (bSeq (bFor (fiR1 (fCons (fC (.int 4)) fNil)) (sName 2) (bSeq (bSet 3 (fCall m__law_chain (fCons (fVar 1) fNil))) (bSeq (bSet 4 (fCall m__law_other (fCons (fVar 1) (fCons (fVar 3) fNil)))) (bSeq (bIf (fTest (fBin eqT (fCall m__law_draw (fCons (fVar 1) (fCons (fC (.int 2)) fNil))) (fC (.int 0)))) (bSet 4 (fCall m__law_other (fCons (fVar 1) (fCons (fVar 4) fNil)))) bNext) (bIf (fOrT (fNotT (fTru (fCall m__law_pair_right (fCons (fVar 3) (fCons (fVar 4) fNil))))) (fNotT (fTru (fCall m__law_pair_right (fCons (fVar 4) (fCons (fVar 3) fNil)))))) (bRet (fC (.bl false))) bNext))))) (bRet (fC (.bl true))))))
noncomputable def m_law_k07 : FF := body ["script", "state", "turn", "one", "other"] 1 b_law_k07
end SF
set_option Elab.async false
set_option linter.all false
set_option maxRecDepth 100000
namespace SF
open PySem PySem.Spec L2 TL
open PyProof.Rows hiding St
/-! ### plain things -/
abbrev tS (l : List Str) : T := .tup (l.map T.str)
def pT (p : Str × Str) : T := .tup [.str p.1, .str p.2]
structure Code where
  w : Str
  k : Str
  g : List (Str × Str)
def cT (c : Code) : T := .tup [.str c.w, .str c.k, .tup (c.g.map pT)]
structure Bk where
  asp : List Str
  sh : List Str
  cs : List Code
def bT (b : Bk) : T := .tup [tS b.asp, tS b.sh, .tup (b.cs.map cT)]
def Nm (x : Str) : Prop := ∀ S, m_is_name [.str x] S = .ok (.bl true) S
def Wd (x : Str) : Prop := ∀ S, m_is_word [.str x] S = .ok (.bl true) S
def Sg (x : Str) (b : Bool) : Prop := ∀ S, m_is_sign [.str x] S = .ok (.bl b) S
def fstT : T → T
  | .tup (a :: _) => a
  | _ => .non
theorem map_fst (g : List (Str × Str)) : (g.map pT).map fstT = g.map fun p => T.str p.1 := by
  rw [List.map_map]
  exact List.map_congr_left fun _ _ => rfl
theorem is_name_pair_ok {p : Str × Str} (h1 : Nm p.1) (h2 : Nm p.2) (S : Sto) : m_is_name_pair [pT p] S = .ok (.bl true) S := by
  unfold m_is_name_pair b_is_name_pair pT
  simp_arith [h1 S, h2 S]
theorem are_gifts_ok {g : List (Str × Str)} (h0 : g ≠ []) (hz : g.length ≤ sizeLine) (h1 : ∀ p ∈ g, Nm p.1 ∧ Nm p.2) (h2 : ∀ S, m_ascend [.lst (g.map fun p => .str p.1)] S = .ok (.bl true) S) (S : Sto) : m_are_gifts [.tup (g.map pT)] S = .ok (.bl true) S := by
  unfold m_are_gifts b_are_gifts
  have h1 : ∀ p ∈ g, ∀ S, m_is_name_pair [pT p] S = .ok (.bl true) S := fun p hp S => is_name_pair_ok (h1 p hp).1 (h1 p hp).2 S
  generalize m_is_name_pair = f1 at h1 ⊢
  generalize m_ascend = f2 at h2 ⊢
  have hl : (g.length : Int) ≠ 0 := by
    intro z
    exact h0 (List.length_eq_zero_iff.mp (by omega))
  simp_arith [List.length_map, hl, hz]
  rw [lc_map (r := fun _ => .bl true) fun x hx => ?a]
  case a =>
    obtain ⟨p, hp, rfl⟩ := List.mem_map.mp hx
    exact ⟨_, rfl, slots1 _ _, rfl, by simp_arith [h1 p hp S]⟩
  simp_arith [all_lst]
  rw [lc_map (r := fstT) fun x hx => ?b]
  case b =>
    obtain ⟨p, hp, rfl⟩ := List.mem_map.mp hx
    exact ⟨_, rfl, slots1 _ _, rfl, by simp_arith [pT, fstT]⟩
  simp_arith [map_fst, h2 S]
theorem is_code_ok {c : Code} {asp : List Str} (hz : c.g.length ≤ sizeLine) (h1 : Wd c.w) (h2 : Nm c.k) (h3 : ∀ S, m_are_gifts [.tup (c.g.map pT)] S = .ok (.bl true) S) (h4 : ∀ p ∈ c.g, p.1 ∈ asp) (S : Sto) : m_is_code [cT c, tS asp] S = .ok (.bl true) S := by
  unfold m_is_code b_is_code
  simp_arith [cT, h1 S, h2 S, h3 S, List.length_map, hz]
  rw [lc_map (r := fun _ => .bl true) fun x hx => ?a]
  case a =>
    obtain ⟨p, hp, rfl⟩ := List.mem_map.mp hx
    exact ⟨_, rfl, slots1 _ _, rfl, by simp_arith [pT, h4 p hp]⟩
  simp_arith [all_lst]
/-- a call that leaves all as it is -/
def Pu (F : FF) (ts : List T) (r : T) : Prop := ∀ S, F ts S = .ok r S
theorem nr_pT (p : Str × Str) : nr (pT p) = true := rfl
theorem nr_tS (l : List Str) : nr (tS l) = true := nrs_str l
theorem nr_cT (c : Code) : nr (cT c) = true := by
  show nrs [.str c.w, .str c.k, .tup (c.g.map pT)] = true
  simp only [nrs, nr, nrs_map (fun p _ => nr_pT p), Bool.and_self]
theorem nr_bT (b : Bk) : nr (bT b) = true := by
  show nrs [tS b.asp, tS b.sh, .tup (b.cs.map cT)] = true
  simp only [nrs, nr, nrs_str, nrs_map (fun p _ => nr_cT p), Bool.and_self]
end SF
set_option Elab.async false
set_option linter.all false
set_option maxRecDepth 100000
namespace SF
open PySem PySem.Spec L2 TL
open PyProof.Rows hiding St
/-- what need_book asks -/
structure GB (b : Bk) : Prop where
  asp : ∀ S, m_are_names [tS b.asp, .int 6] S = .ok (.bl true) S
  asp0 : b.asp ≠ []
  sh : ∀ S, m_are_names [tS b.sh, .int 6] S = .ok (.bl true) S
  sub : ∀ x ∈ b.sh, x ∈ b.asp
  shz : b.sh.length ≤ 6
  len : b.cs.length ≤ 16
  code : ∀ c ∈ b.cs, ∀ S, m_is_code [cT c, tS b.asp] S = .ok (.bl true) S
  nd : (b.cs.map (·.w)).Nodup
  kin : ∃ K : List Str, K.length ≤ 6 ∧ ∀ c ∈ b.cs, c.k ∈ K
theorem small16 {n : Nat} (h : n ≤ 200) : n ≤ sizeLine := Nat.le_trans h (by decide)
theorem small16' {n : Nat} (h : n ≤ 200) : n < sizeLine := Nat.lt_of_le_of_lt h (by decide)
theorem fiE_at {cs : List Code} {i : Nat} {x : T} (h : (numbT (cs.map cT))[i]? = some x) : ∃ c, cs[i]? = some c ∧ x = .tup [.int (i : Nat), cT c] := by
  obtain ⟨y, h1, rfl⟩ := zip_range h
  rw [List.getElem?_map] at h1
  cases e : cs[i]? with
  | none => rw [e] at h1; cases h1
  | some c =>
    rw [e] at h1
    have : cT c = y := by simpa using h1
    exact ⟨c, rfl, by rw [this]⟩
theorem nodup_len {α : Type} [DecidableEq α] : ∀ {l K : List α}, l.Nodup → (∀ x ∈ l, x ∈ K) → l.length ≤ K.length
  | [], K, _, _ => Nat.zero_le _
  | x :: l, K, h, g => by
    have hx := g x List.mem_cons_self
    obtain ⟨h1, h2⟩ := List.nodup_cons.mp h
    have ih := nodup_len (K := K.erase x) h2 fun y hy => (List.mem_erase_of_ne (by rintro rfl; exact h1 hy)).mpr (g y (List.mem_cons_of_mem _ hy))
    rw [List.length_erase_of_mem hx] at ih
    have : 0 < K.length := List.length_pos_of_mem hx
    rw [List.length_cons]
    omega
/-- a store without dicts in things -/
def Cl (S : Sto) : Prop := S.all noDc = true
theorem Cl.nil : Cl [] := rfl
theorem Cl.app {S J : Sto} (h : Cl S) (g : Cl J) : Cl (S ++ J) := by
  unfold Cl at *
  rw [List.all_append, h, g]
  rfl
theorem Cl.cons {x : T} {J : Sto} (h : noDc x = true) (g : Cl J) : Cl (x :: J) := by
  unfold Cl at *
  rw [List.all_cons, h, g]
  rfl
theorem noDs_str : ∀ l : List Str, noDs (l.map T.str) = true
  | [] => rfl
  | x :: l => by simp only [List.map_cons, noDs, noD, noDs_str l, Bool.and_self]
theorem Cl.strs {l : List Str} {J : Sto} (g : Cl J) : Cl (.lst (l.map T.str) :: J) := .cons (noDs_str l) g
/-- a call that only lays new cells -/
def Rn (F : FF) (ts : List T) (r : T) : Prop := ∀ S, Cl S → ∃ J, Cl J ∧ F ts S = .ok r (S ++ J)
theorem split_at {α : Type} {l : List α} {i : Nat} {c : α} (h : l[i]? = some c) : l = l.take i ++ c :: l.drop (i + 1) := by
  obtain ⟨hi, e⟩ := List.getElem?_eq_some_iff.mp h
  rw [← e, List.getElem_cons_drop hi, List.take_append_drop]
theorem need_codes_ok {b : Bk} (G : GB b) : Pu m_need_codes [tS b.asp, .tup (b.cs.map cT)] .non := by
  intro S
  obtain ⟨K, hK, hk⟩ := G.kin
  have hc := G.code
  unfold m_need_codes
  refine gc_pure ?_ rfl
  unfold b_need_codes
  generalize m_is_code = f1 at hc ⊢
  simp_arith [Nat.zero_le]
  generalize hF : forF _ _ _ _ _ = R
  obtain ⟨τ2, S2, e, ks, hks, h1, h2⟩ := for_go hF (fun i τ T1 => ∃ ks : List Str, (ks.Nodup ∧ ∀ x ∈ ks, x ∈ K) ∧ T1 = S ++ [.lst (((b.cs.take i).map (·.w)).map T.str), .lst (ks.map T.str)] ∧
      ∃ y z, τ = [some (tS b.asp), some (.tup (b.cs.map cT)), some (.ref S.length), some (.ref (S.length + 1)), y, z])
    ⟨[], ⟨List.nodup_nil, fun x hx => nomatch hx⟩, by simp, none, none, by simp⟩ (by
    intro i x τ T1 hx hI
    obtain ⟨ks, ⟨hnd, hsub⟩, rfl, y, z, rfl⟩ := hI
    obtain ⟨c, hc1, rfl⟩ := fiE_at hx
    refine ⟨_, rfl, ?_⟩
    have hcm : c ∈ b.cs := List.mem_of_getElem? hc1
    have hlen := nodup_len hnd hsub
    have hi := (List.getElem?_eq_some_iff.mp hc1).1
    have hl := G.len
    have w1 : c.w ∉ (b.cs.take i).map (·.w) := fun hz => by
      have h3 := G.nd
      rw [split_at hc1] at h3
      rw [List.map_append, List.nodup_append] at h3
      exact h3.2.2 _ hz _ (by simp) rfl
    have z1 : (b.cs.take i).length < sizeLine := small16' (by rw [List.length_take]; omega)
    have z2 : ks.length < sizeLine := small16' (by omega)
    have hw : (((b.cs.take i).map (·.w)).map T.str) ++ [T.str c.w] = ((b.cs.take (i + 1)).map (·.w)).map T.str := by
      rw [List.take_add_one, hc1, List.map_append, List.map_append]
      rfl
    have hc2 : ∀ S, f1 [.tup [.str c.w, .str c.k, .tup (c.g.map pT)], tS b.asp] S = .ok (.bl true) S := hc c hcm
    have w2 : ¬ (6 : Int) < ks.length := by omega
    by_cases hk2 : c.k ∈ ks
    · simp_arith [hc2, cT, w1, List.length_map, z1, hk2, hw, w2]
      exact goes_nx ⟨ks, ⟨hnd, hsub⟩, rfl, _, _, rfl⟩
    · have nd2 : (ks ++ [c.k]).Nodup := by
        rw [List.nodup_append]
        exact ⟨hnd, by simp, fun a ha b hb => by
          rw [List.mem_singleton.mp hb]
          rintro rfl
          exact hk2 ha⟩
      have sub2 : ∀ x ∈ ks ++ [c.k], x ∈ K := fun x hx => (List.mem_append.mp hx).elim (hsub x) fun h => by
        rw [List.mem_singleton.mp h]
        exact hk c hcm
      have l2 := nodup_len nd2 sub2
      have w3 : ¬ (6 : Int) < (ks ++ [c.k]).length := by omega
      simp_arith [hc2, cT, w1, List.length_map, z1, z2, hk2, hw, w3, map_snoc]
      exact goes_nx ⟨ks ++ [c.k], ⟨nd2, sub2⟩, rfl, _, _, rfl⟩)
  subst e h1
  simp_arith []
  exact ⟨_, rfl⟩
end SF
set_option Elab.async false
set_option linter.all false
set_option maxRecDepth 100000
namespace SF
open PySem PySem.Spec L2 TL
open PyProof.Rows hiding St
/-! ### values of aspects -/
abbrev kS (l : List Str) : List Key := l.map Sum.inr
def getS : List Str → List Str → Str → Str
  | k :: ks, v :: vs, a => if k = a then v else getS ks vs a
  | _, _, _ => ⟨#[]⟩
def updS (ks vs : List Str) (a v : Str) : List Str := List.zipWith (fun k u => if k = a then v else u) ks vs
def giveS (ks vs : List Str) (g : List (Str × Str)) : List Str := g.foldl (fun vs p => updS ks vs p.1 p.2) vs
theorem updS_len {ks vs : List Str} (h : vs.length = ks.length) (a v : Str) : (updS ks vs a v).length = ks.length := by
  unfold updS
  rw [List.length_zipWith]
  omega
theorem giveS_len {ks : List Str} : ∀ {g : List (Str × Str)} {vs : List Str}, vs.length = ks.length → (giveS ks vs g).length = ks.length
  | [], _, h => h
  | p :: g, vs, h => giveS_len (g := g) (updS_len h p.1 p.2)
theorem inr_eq {a b : Str} : ((Sum.inr a : Key) = Sum.inr b) ↔ a = b := ⟨fun h => Sum.inr.inj h, fun h => by rw [h]⟩
theorem getK_S : ∀ {ks vs : List Str} {a : Str}, vs.length = ks.length → a ∈ ks → getK (kS ks) (vs.map T.str) (.inr a) = some (.str (getS ks vs a))
  | [], _, _, _, h => nomatch h
  | k :: ks, [], _, h, _ => by simp at h
  | k :: ks, v :: vs, a, h, m => by
    unfold kS
    simp only [List.map_cons, getK, getS, inr_eq]
    by_cases e : k = a
    · rw [if_pos e, if_pos e]
    · rw [if_neg e, if_neg e]
      exact getK_S (by simpa using h) ((List.mem_cons.mp m).resolve_left fun z => e z.symm)
theorem any_S {ks : List Str} {a : Str} (m : a ∈ ks) : (kS ks).any (fun k => decide (k = Sum.inr a)) = true := List.any_eq_true.mpr ⟨_, List.mem_map_of_mem m, by simp⟩
theorem putK_S {ks vs : List Str} {a v : Str} (m : a ∈ ks) : putK' (kS ks) (vs.map T.str) (.inr a) (.str v) = (kS ks, (updS ks vs a v).map T.str) := by
  unfold putK'
  rw [if_pos (any_S m)]
  congr 1
  unfold updS kS
  rw [List.map_zipWith, List.zipWith_map]
  congr 1
  funext k u
  by_cases e : k = a
  · rw [if_pos e, if_pos (by rw [e])]
  · rw [if_neg e, if_neg (by rwa [inr_eq])]
/-- pairs of unlike keys -/
theorem merge_new : ∀ {prs : List (Key × T)} {ks : List Key} {ts : List T}, ks.length = ts.length → (ks ++ prs.map (·.1)).Nodup → mergeT (ks, ts) prs = (ks ++ prs.map (·.1), ts ++ prs.map (·.2))
  | [], ks, ts, _, _ => by simp [mergeT]
  | (k, t) :: prs, ks, ts, hl, h => by
    have hk : k ∉ ks := fun m => by
      rw [List.nodup_append] at h
      exact h.2.2 k m k (by simp) rfl
    have e : putK' ks ts k t = (ks ++ [k], ts ++ [t]) := by
      unfold putK'
      rw [if_neg]
      intro z
      obtain ⟨y, hy, q⟩ := List.any_eq_true.mp z
      exact hk (of_decide_eq_true q ▸ hy)
    have ih := merge_new (prs := prs) (ks := ks ++ [k]) (ts := ts ++ [t]) (by simp [hl]) (by simpa using h)
    show mergeT (putK' ks ts k t) prs = _
    rw [e, ih]
    simp
theorem merge_nil {prs : List (Key × T)} (h : (prs.map (·.1)).Nodup) : mergeT ([], []) prs = (prs.map (·.1), prs.map (·.2)) := by
  have := merge_new (prs := prs) (ks := []) (ts := []) rfl (by simpa using h)
  simpa using this
theorem merge_give {ks : List Str} : ∀ {g : List (Str × Str)} {vs : List Str}, (∀ p ∈ g, p.1 ∈ ks) → mergeT (kS ks, vs.map T.str) (g.map fun p => (Sum.inr p.1, T.str p.2)) = (kS ks, (giveS ks vs g).map T.str)
  | [], _, _ => rfl
  | p :: g, vs, h => by
    show mergeT (putK' (kS ks) (vs.map T.str) (.inr p.1) (.str p.2)) _ = _
    rw [putK_S (h p List.mem_cons_self)]
    exact merge_give (fun q hq => h q (List.mem_cons_of_mem _ hq))
theorem nodup_inr {l : List Str} (h : l.Nodup) : (kS l).Nodup := List.Pairwise.map _ (fun _ _ n z => n (Sum.inr.inj z)) h
/-! ### the code with a word -/
def findC (cs : List Code) (x : Str) : Option Code := cs.find? fun c => decide (c.w = x)
theorem getK_C (f : Code → T) : ∀ (cs : List Code) (x : Str), getK (cs.map fun c => Sum.inr c.w) (cs.map f) (.inr x) = (findC cs x).map f
  | [], _ => rfl
  | c :: cs, x => by
    simp only [List.map_cons, getK, findC, inr_eq, List.find?_cons]
    by_cases e : c.w = x
    · rw [if_pos e]
      simp [e]
    · rw [if_neg e, getK_C f cs x]
      simp [e, findC]
theorem findC_mem {cs : List Code} {x : Str} {c : Code} (h : findC cs x = some c) : c ∈ cs ∧ c.w = x := ⟨List.mem_of_find?_eq_some h, by simpa using List.find?_some h⟩
theorem findC_none {cs : List Code} {x : Str} (h : findC cs x = none) : ∀ c ∈ cs, c.w ≠ x := fun c hc e => by
  have := List.find?_eq_none.mp h c hc
  simp [e] at this
/-! ### what is seen -/
structure Si (x : Str) : Prop where
  sg : Sg x true
  sh : ∀ b S, m_shown_at [bT b, .str x] S = .ok (tS (if x = "\n" then [] else if x = " " then b.sh else b.asp)) S
  nl : ∀ S, TL.eqT S (.str x) (.str "\n") = some (.bl (decide (x = "\n")))
  bl : ∀ S, TL.eqT S (.str x) (.str " ") = some (.bl (decide (x = " ")))
def lookS (b : Bk) (vs : List Str) (x : Str) : List Str := (if x = "\n" then [] else if x = " " then b.sh else b.asp).map (getS b.asp vs)
def runS (b : Bk) (t : List Str) : List Str → List Str → List T
  | _, [] => []
  | vs, x :: r => match findC b.cs x with
    | some c => runS b t (if c.k ∈ t then giveS b.asp vs c.g else vs) r
    | none => .tup [.str x, tS (lookS b vs x)] :: runS b t vs r
def leftS (b : Bk) (t : List Str) : List Str → List Str → List Str
  | vs, [] => vs
  | vs, x :: r => match findC b.cs x with
    | some c => leftS b t (if c.k ∈ t then giveS b.asp vs c.g else vs) r
    | none => leftS b t vs r
theorem run_app (b : Bk) (t : List Str) : ∀ (xs ys : List Str) (vs : List Str), runS b t vs (xs ++ ys) = runS b t vs xs ++ runS b t (leftS b t vs xs) ys
  | [], _, _ => rfl
  | x :: xs, ys, vs => by
    simp only [List.cons_append, runS, leftS]
    cases e : findC b.cs x with
    | some c => exact run_app b t xs ys _
    | none =>
      simp only [List.cons_append]
      rw [run_app b t xs ys vs]
/-- the items that the terminal knows, and the signs -/
def knownS (b : Bk) (t : List Str) (xs : List Str) : List Str := xs.filter fun x => match findC b.cs x with
  | some c => decide (c.k ∈ t)
  | none => true
theorem run_known (b : Bk) (t : List Str) : ∀ (xs : List Str) (vs : List Str), runS b t vs (knownS b t xs) = runS b t vs xs
  | [], _ => rfl
  | x :: xs, vs => by
    have ih := run_known b t xs
    unfold knownS at ih ⊢
    cases e : findC b.cs x with
    | some c =>
      by_cases hk : c.k ∈ t
      · rw [List.filter_cons_of_pos (by simp [e, hk])]
        simp only [runS, e, if_pos hk]
        exact ih _
      · rw [List.filter_cons_of_neg (by simp [e, hk])]
        simp only [runS, e, if_neg hk]
        exact ih _
    | none =>
      rw [List.filter_cons_of_pos (by simp [e])]
      simp only [runS, e]
      rw [ih]
end SF
set_option Elab.async false
set_option linter.all false
set_option maxRecDepth 100000
namespace SF
open PySem PySem.Spec L2 TL
open PyProof.Rows hiding St
theorem need_book_ok {b : Bk} (G : GB b) : Pu m_need_book [bT b] (bT b) := by
  intro S
  have hJ := need_codes_ok G S
  have ha := G.asp
  have hs := G.sh
  unfold m_need_book b_need_book bT
  generalize m_need_codes = f1 at hJ ⊢
  generalize m_are_names = f2 at ha hs ⊢
  have l1 : (b.asp.length : Int) ≠ 0 := by
    intro z
    exact G.asp0 (List.length_eq_zero_iff.mp (by omega))
  have l2 : ¬ (16 : Int) < b.cs.length := by
    have := G.len
    omega
  have l3 : b.sh.length ≤ sizeLine := small16 (by have := G.shz; omega)
  simp_arith [ha, hs, List.length_map, l1, l2, l3]
  rw [lc_map (r := fun _ => .bl true) fun x hx => ?a]
  case a =>
    obtain ⟨p, hp, rfl⟩ := List.mem_map.mp hx
    exact ⟨_, rfl, slots1 _ _, rfl, by simp_arith [G.sub p hp]⟩
  simp_arith [all_lst, hJ, List.length_map, l2]
/-- what need_stream asks, and more -/
structure GI (b : Bk) (xs : List Str) : Prop where
  len : xs.length ≤ 200
  it : ∀ x ∈ xs, (∃ c ∈ b.cs, c.w = x) ∨ Si x
structure GW (b : Bk) : Prop where
  gb : GB b
  sg : ∀ c ∈ b.cs, Sg c.w false
  gin : ∀ c ∈ b.cs, ∀ p ∈ c.g, p.1 ∈ b.asp
  and : b.asp.Nodup
  gz : ∀ c ∈ b.cs, c.g.length ≤ 6
  asz : b.asp.length ≤ 6
theorem Si.not {b : Bk} (W : GW b) {x : Str} (h : Si x) : findC b.cs x = none := by
  cases e : findC b.cs x with
  | none => rfl
  | some c =>
    obtain ⟨hc, rfl⟩ := findC_mem e
    have h1 := h.sg []
    have h2 := W.sg c hc []
    rw [h1] at h2
    simp at h2
theorem GI.find {b : Bk} (W : GW b) {xs : List Str} (I : GI b xs) {x : Str} (hx : x ∈ xs) : (∃ c ∈ b.cs, c.w = x ∧ findC b.cs x = some c ∧ Sg x false) ∨ (Si x ∧ findC b.cs x = none) := by
  rcases I.it x hx with ⟨c, hc, rfl⟩ | h
  · cases e : findC b.cs c.w with
    | none => exact absurd rfl (findC_none e c hc)
    | some d =>
      obtain ⟨hd, e2⟩ := findC_mem e
      exact .inl ⟨d, hd, e2, rfl, W.sg c hc⟩
  · exact .inr ⟨h, h.not W⟩
theorem fiE_S {xs : List Str} {i : Nat} {y : T} (h : (numbT (xs.map T.str))[i]? = some y) : ∃ x, x ∈ xs ∧ y = .tup [.int (i : Nat), .str x] := by
  obtain ⟨z, h1, rfl⟩ := zip_range h
  obtain ⟨x, hx, rfl⟩ := List.mem_map.mp (List.mem_of_getElem? h1)
  exact ⟨x, hx, rfl⟩
theorem words_of_ok {b : Bk} (W : GW b) : Pu m_words_of [bT b] (.lst ((b.cs.map (·.w)).map T.str)) := by
  intro S
  unfold m_words_of b_words_of
  have l2 : b.cs.length ≤ sizeLine := small16 (by have := W.gb.len; omega)
  simp_arith [bT]
  rw [lc_map (r := fstT) fun x hx => ?a]
  case a =>
    obtain ⟨p, hp, rfl⟩ := List.mem_map.mp hx
    exact ⟨_, rfl, slots1 _ _, rfl, by simp_arith [cT, fstT]⟩
  have e1 : (b.cs.map cT).map fstT = (b.cs.map (·.w)).map T.str := by
    rw [List.map_map, List.map_map]
    exact List.map_congr_left fun _ _ => rfl
  simp_arith [e1, List.length_map, l2]
theorem need_stream_ok {b : Bk} (W : GW b) {xs : List Str} (I : GI b xs) : Pu m_need_stream [bT b, tS xs] (tS xs) := by
  intro S
  have hJ := need_book_ok W.gb S
  have hw := words_of_ok W
  unfold m_need_stream b_need_stream
  generalize m_need_book = f1 at hJ ⊢
  generalize m_words_of = f3 at hw ⊢
  have hs : ∀ x ∈ xs, ∃ k, (∀ S, m_is_sign [.str x] S = .ok (.bl k) S) ∧ (k = false → x ∈ b.cs.map (·.w)) := fun x hx => by
    rcases I.find W hx with ⟨c, hc, e, _, h⟩ | ⟨h, _⟩
    · exact ⟨false, h, fun _ => List.mem_map.mpr ⟨c, hc, e⟩⟩
    · exact ⟨true, h.sg, fun z => nomatch z⟩
  generalize m_is_sign = f2 at hs ⊢
  have l1 : ¬ (200 : Int) < xs.length := by
    have := I.len
    omega
  simp_arith [hJ, hw S, List.length_map, l1]
  generalize hF : forF _ _ _ _ _ = R
  obtain ⟨τ2, S2, e, h1, z1, z2, h2⟩ := for_go hF (fun i τ T1 => T1 = S ∧ ∃ y z, τ = [some (bT b), some (tS xs), some (.lst ((b.cs.map (·.w)).map T.str)), y, z])
    ⟨rfl, none, none, rfl⟩ (by
    intro i y τ T1 hx hI
    obtain ⟨rfl, y1, y2, rfl⟩ := hI
    obtain ⟨x, hx1, rfl⟩ := fiE_S hx
    obtain ⟨k, hk1, hk2⟩ := hs x hx1
    refine ⟨_, rfl, ?_⟩
    cases k with
    | true =>
      simp_arith [hk1]
      exact goes_nx ⟨rfl, _, _, rfl⟩
    | false =>
      simp_arith [hk1, hk2 rfl]
      exact goes_nx ⟨rfl, _, _, rfl⟩)
  subst e h1 h2
  simp_arith []
end SF
set_option Elab.async false
set_option linter.all false
set_option maxRecDepth 100000
namespace SF
open PySem PySem.Spec L2 TL
open PyProof.Rows hiding St
abbrev dS (ks vs : List Str) : T := .dct (kS ks) (vs.map T.str)
theorem ix_dS {ks vs : List Str} {a : Str} (h : vs.length = ks.length) (m : a ∈ ks) (S : Sto) : ixT S (dS ks vs) (.str a) = some (.str (getS ks vs a)) := getK_S h m
theorem ix_dR {ks vs : List Str} {a : Str} (h : vs.length = ks.length) (m : a ∈ ks) (S J : Sto) : ixT (S ++ dS ks vs :: J) (.ref S.length) (.str a) = some (.str (getS ks vs a)) := by
  have e : dctT (S ++ dS ks vs :: J) (.ref S.length) = some (kS ks, vs.map T.str) := by
    unfold dctT
    simp only [sto_end]
  unfold ixT
  rw [e]
  exact getK_S h m
theorem set_dR {ks vs : List Str} {a v : Str} (hz : ks.length < sizeLine) (m : a ∈ ks) (S J : Sto) : setT (S ++ dS ks vs :: J) (.ref S.length) (.str a) (.str v) = some (S ++ dS ks (updS ks vs a v) :: J) := by
  unfold setT
  simp only [sto_end, keyT, Option.bind_some, List.length_map, hz, if_true, putK_S m, sto_set]
theorem ix_codes (f : Code → T) (cs : List Code) (x : Str) (S : Sto) : ixT S (.dct (cs.map fun c => Sum.inr c.w) (cs.map f)) (.str x) = (findC cs x).map f := by
  show ((keyT (.str x)).bind fun k => getK _ _ k) = _
  exact getK_C f cs x
/-- the codes by their words -/
def kOf : T → Key
  | .tup (.str w :: _) => .inr w
  | _ => .inl 0
theorem codes_dc {b : Bk} (W : GW b) (f : Code → T) : mergeT ([], []) (b.cs.map fun c => ((Sum.inr c.w : Key), f c)) = (b.cs.map fun c => Sum.inr c.w, b.cs.map f) := by
  rw [merge_nil, List.map_map, List.map_map]
  · rfl
  · rw [List.map_map]
    have h := nodup_inr W.gb.nd
    unfold kS at h
    rw [List.map_map] at h
    exact h
theorem nr_dS (ks vs : List Str) : nr (dS ks vs) = true := nrs_str vs
theorem codes_by_word_ok {b : Bk} (W : GW b) : Pu m_codes_by_word [bT b] (.dct (b.cs.map fun c => Sum.inr c.w) (b.cs.map cT)) := by
  intro S
  unfold m_codes_by_word b_codes_by_word
  have z1 : b.cs.length ≤ sizeLine := small16 (by have := W.gb.len; omega)
  have i2 : ∀ S, ixT S (bT b) (.int 2) = some (.tup (b.cs.map cT)) := fun S => rfl
  simp_arith [i2, List.length_map, z1]
  rw [dc_map (k := kOf) (r := id) fun x hx => ?a]
  case a =>
    obtain ⟨c, hc, rfl⟩ := List.mem_map.mp hx
    exact ⟨_, rfl, slots1 _ _, rfl, by simp_arith [cT, kOf, tKey], by simp_arith [id]⟩
  have e1 : (b.cs.map cT).map (fun x => (kOf x, id x)) = b.cs.map fun c => ((Sum.inr c.w : Key), cT c) := by
    rw [List.map_map]
    exact List.map_congr_left fun _ _ => rfl
  simp_arith [e1, codes_dc W cT]
end SF
set_option Elab.async false
set_option linter.all false
set_option maxRecDepth 100000
namespace SF
open PySem PySem.Spec L2 TL
open PyProof.Rows hiding St
/-! ### signs -/
def signS (b : Bk) (xs : List Str) : List Str := xs.filter fun x => (findC b.cs x).isNone
theorem run_fst (b : Bk) (t : List Str) : ∀ (xs vs : List Str), (runS b t vs xs).map fstT = (signS b xs).map T.str
  | [], _ => rfl
  | x :: xs, vs => by
    unfold signS
    cases e : findC b.cs x with
    | some c =>
      rw [List.filter_cons_of_neg (by simp [e])]
      simp only [runS, e]
      exact run_fst b t xs _
    | none =>
      rw [List.filter_cons_of_pos (by simp [e])]
      simp only [runS, e, List.map_cons, fstT]
      congr 1
      exact run_fst b t xs vs
theorem signs_of_ok {b : Bk} (W : GW b) {xs : List Str} (I : GI b xs) : Pu m_signs_of [bT b, tS xs] (tS (signS b xs)) := by
  intro S
  have hJ := need_stream_ok W I S
  have hf : ∀ x ∈ xs, Sg x (findC b.cs x).isNone := fun x hx => by
    rcases I.find W hx with ⟨c, hc, e, hfc, hs⟩ | ⟨hs, hfc⟩
    · rw [hfc]; exact hs
    · rw [hfc]; exact hs.sg
  have hsg : ∀ x k, Sg x k → ∀ S, m_is_sign [.str x] S = .ok (.bl k) S := fun x k h S => h S
  unfold m_signs_of b_signs_of
  generalize m_need_stream = f1 at hJ ⊢
  generalize m_is_sign = f2 at hsg ⊢
  have z1 : xs.length ≤ sizeLine := small16 I.len
  simp_arith [hJ, List.length_map, z1]
  rw [lc_filter (p := fun x => match x with | .str x => (findC b.cs x).isNone | _ => false) (r := id) fun x hx => ?a]
  case a =>
    obtain ⟨x, hxm, rfl⟩ := List.mem_map.mp hx
    exact ⟨_, rfl, slots1 _ _, by simp_arith [hsg x _ (hf x hxm)], fun _ => by simp_arith [id]⟩
  have e : ((xs.map T.str).filter fun x => match x with | .str x => (findC b.cs x).isNone | _ => false).map id = (signS b xs).map T.str := by
    rw [List.map_id, List.filter_map]
    rfl
  simp_arith [e]
/-! ### the law's own look -/
def kT (c : Code) : T := .tup [.str c.k, .tup (c.g.map pT)]
def codesT (b : Bk) : T := .dct (b.cs.map fun c => Sum.inr c.w) (b.cs.map kT)
theorem law_codes_ok {b : Bk} (W : GW b) (S : Sto) : m__law_codes [bT b] S = .ok (codesT b) S := by
  unfold m__law_codes b__law_codes
  have z1 : b.cs.length ≤ sizeLine := small16 (by have := W.gb.len; omega)
  have i2 : ∀ S, ixT S (bT b) (.int 2) = some (.tup (b.cs.map cT)) := fun S => rfl
  simp_arith [i2, List.length_map, z1]
  rw [lc_map (r := fun x => match x with | .tup [w, k, g] => .tup [w, .tup [k, g]] | _ => .non) fun x hx => ?a]
  case a =>
    obtain ⟨c, hc, rfl⟩ := List.mem_map.mp hx
    exact ⟨_, rfl, rfl, rfl, by simp_arith [cT, small16 (show 2 ≤ 200 by omega)]⟩
  have e : (b.cs.map cT).map (fun x => match x with | .tup [w, k, g] => .tup [w, .tup [k, g]] | _ => .non : T → T) = b.cs.map fun c => T.tup [.str c.w, kT c] := by
    rw [List.map_map]
    exact List.map_congr_left fun _ _ => rfl
  have p : ∀ cs : List Code, pairsT (cs.map fun c => T.tup [.str c.w, kT c]) = some (cs.map fun c => ((Sum.inr c.w : Key), kT c)) := fun cs => by
    induction cs with
    | nil => rfl
    | cons c cs ih => simp only [List.map_cons, pairsT, keyT, ih, Option.bind_some, Option.map_some]
  have d : ∀ S, dictT S [.lst (b.cs.map fun c => T.tup [.str c.w, kT c])] = some (codesT b) := fun S => by
    show ((pairsT (b.cs.map fun c => T.tup [.str c.w, kT c])).map fun prs => T.dct (mergeT ([], []) prs).1 (mergeT ([], []) prs).2) = _
    rw [p, Option.map_some, codes_dc W kT]
    rfl
  simp_arith [e, d, codesT]
theorem in_codes {b : Bk} (x : Str) (S : Sto) : inT S (.str x) (codesT b) = some (.bl (findC b.cs x).isSome) := by
  show Option.map T.bl (some (getK _ _ (.inr x)).isSome) = _
  rw [getK_C]
  simp
theorem ix_codes2 {b : Bk} (x : Str) (S : Sto) : ixT S (codesT b) (.str x) = (findC b.cs x).map kT := ix_codes kT b.cs x S
theorem pairs_items : ∀ {ks vs : List Str}, vs.length = ks.length → ∀ more, pairsT (itemsT (kS ks) (vs.map T.str) ++ more) = (pairsT more).map fun r => (List.zip (kS ks) (vs.map T.str)) ++ r
  | [], [], _, more => by simp [itemsT, kS]
  | k :: ks, v :: vs, h, more => by
    have ih := pairs_items (ks := ks) (vs := vs) (by simpa using h) more
    simp only [itemsT, kS, List.map_cons, List.zipWith_cons_cons, List.cons_append, pairsT, tKey, keyT, Option.bind_some, List.zip_cons_cons] at ih ⊢
    rw [ih]
    cases pairsT more <;> simp
theorem pairs_g : ∀ g : List (Str × Str), pairsT (g.map pT) = some (g.map fun p => ((Sum.inr p.1 : Key), T.str p.2))
  | [] => rfl
  | p :: g => by simp only [List.map_cons, pT, pairsT, keyT, pairs_g g, Option.bind_some, Option.map_some]
theorem dict_give {ks vs : List Str} {g : List (Str × Str)} (h : vs.length = ks.length) (nd : ks.Nodup) (hg : ∀ p ∈ g, p.1 ∈ ks) (S : Sto) : dictT S [.lst (itemsT (kS ks) (vs.map T.str) ++ g.map pT)] = some (dS ks (giveS ks vs g)) := by
  show ((pairsT (itemsT (kS ks) (vs.map T.str) ++ g.map pT)).map fun prs => T.dct (mergeT ([], []) prs).1 (mergeT ([], []) prs).2) = _
  rw [pairs_items h, pairs_g, Option.map_some, Option.map_some]
  have e : mergeT ([], []) (List.zip (kS ks) (vs.map T.str) ++ g.map fun p => ((Sum.inr p.1 : Key), T.str p.2)) = (kS ks, (giveS ks vs g).map T.str) := by
    unfold mergeT
    rw [List.foldl_append]
    show mergeT (mergeT ([], []) _) _ = _
    have l1 : (kS ks).length ≤ (vs.map T.str).length := by simp [kS, h]
    have l2 : (vs.map T.str).length ≤ (kS ks).length := by simp [kS, h]
    rw [merge_nil (by rw [List.map_fst_zip l1]; exact nodup_inr nd), List.map_fst_zip l1, List.map_snd_zip l2]
    exact merge_give hg
  rw [e]
theorem dict_dS (ks vs : List Str) (S : Sto) : dictT S [dS ks vs] = some (dS ks vs) := rfl
theorem list_tup (xs : List T) (S : Sto) : listT S [.tup xs] = some (.lst xs) := rfl
theorem dct_dS (ks vs : List Str) (S : Sto) : dctT S (dS ks vs) = some (kS ks, vs.map T.str) := rfl
theorem add_lst {a b : List T} (h : a.length + b.length ≤ sizeLine) (S : Sto) : addT S (.lst a) (.lst b) = some (.lst (a ++ b)) := by
  show (if a.length + b.length ≤ sizeLine then some (T.lst (a ++ b)) else none) = _
  rw [if_pos h]
theorem noDs_run (b : Bk) (t : List Str) : ∀ xs vs : List Str, noDs (runS b t vs xs) = true
  | [], _ => rfl
  | x :: xs, vs => by
    simp only [runS]
    cases findC b.cs x with
    | some c => exact noDs_run b t xs _
    | none => simp only [noDs, noD, noDs_str, noDs_run b t xs vs, Bool.and_self]
theorem nrs_runS (b : Bk) (t : List Str) : ∀ xs vs : List Str, nrs (runS b t vs xs) = true
  | [], _ => rfl
  | x :: xs, vs => by
    simp only [runS]
    cases findC b.cs x with
    | some c => exact nrs_runS b t xs _
    | none => simp only [nrs, nr, nrs_str, nrs_runS b t xs vs, Bool.and_self]
theorem nr_runS (b : Bk) (t : List Str) (xs vs : List Str) : nr (.tup (runS b t vs xs)) = true := nrs_runS b t xs vs
theorem law_seen_ok {b : Bk} (W : GW b) {xs t vs : List Str} (I : GI b xs) (hv : vs.length = b.asp.length) : Pu m__law_seen [bT b, tS xs, tS t, dS b.asp vs] (.tup (runS b t vs xs)) := by
  intro U
  have hf : ∀ x ∈ xs, (∃ c ∈ b.cs, c.w = x ∧ findC b.cs x = some c ∧ Sg x false) ∨ (Si x ∧ findC b.cs x = none) := fun x hx => I.find W hx
  have hc0 := law_codes_ok W
  unfold m__law_seen
  refine gc_pure ?_ (nr_runS b t xs vs)
  unfold b__law_seen
  generalize m__law_codes = f1 at hc0 ⊢
  have z2 : b.asp.length ≤ sizeLine := small16 (by have := W.asz; omega)
  have i1 : ∀ S, ixT S (bT b) (.int 1) = some (tS b.sh) := fun S => rfl
  have i0 : ∀ S, ixT S (bT b) (.int 0) = some (tS b.asp) := fun S => rfl
  simp_arith [hc0, dict_dS, small16 (show 3 ≤ 200 by omega)]
  generalize hF : forF _ _ _ _ _ = R
  obtain ⟨τ2, S2, e, vs2, out, h4, h5, h6, x4, x8, x9, x10, x11, h7⟩ := for_go hF (fun i τ T1 => ∃ (vs2 : List Str) (out : List T), T1 = U ++ [.lst out] ∧ vs2.length = b.asp.length ∧ (out ++ runS b t vs2 (xs.drop i) = runS b t vs xs ∧ out.length ≤ i ∧ noDs out = true) ∧
      ∃ x4 x8 x9 x10 x11, τ = [some (bT b), some (tS xs), some (tS t), some (dS b.asp vs), x4, some (codesT b), some (dS b.asp vs2), some (.ref U.length), x8, x9, x10, x11])
    ⟨vs, [], by simp, hv, ⟨by simp, Nat.le_refl _, rfl⟩, none, none, none, none, none, by simp⟩ (by
    intro i y τ T1 hx hI
    obtain ⟨vs2, out, rfl, lv, ⟨hrun, hol, hnd⟩, x4, x8, x9, x10, x11, rfl⟩ := hI
    rw [List.getElem?_map] at hx
    cases ex : xs[i]? with
    | none => rw [ex] at hx; cases hx
    | some x =>
    rw [ex] at hx
    cases hx
    have hxm : x ∈ xs := List.mem_of_getElem? ex
    have hi := (List.getElem?_eq_some_iff.mp ex).1
    have hl := I.len
    have z4 : out.length < sizeLine := small16' (by omega)
    have hdrop : xs.drop i = x :: xs.drop (i + 1) := by
      rw [List.drop_eq_getElem_cons hi]
      congr 1
      exact (List.getElem?_eq_some_iff.mp ex).2
    rw [hdrop] at hrun
    refine ⟨_, rfl, ?_⟩
    rcases hf x hxm with ⟨c, hc, e, hfc, hs⟩ | ⟨hs, hfc⟩
    · simp only [runS, hfc] at hrun
      have hix : ∀ S, ixT S (codesT b) (.str x) = some (.tup [.str c.k, .tup (c.g.map pT)]) := fun S => by
        rw [ix_codes2, hfc]
        rfl
      have hic : ∀ S, inT S (.str x) (codesT b) = some (.bl true) := fun S => by
        rw [in_codes, hfc]
        rfl
      by_cases hk : c.k ∈ t
      · have hin : ∀ S, inT S (.str c.k) (tS t) = some (.bl true) := fun S => by
          rw [in_tup, decide_eq_true hk]
        rw [if_pos hk] at hrun
        have hz : (itemsT (kS b.asp) (vs2.map T.str)).length + (c.g.map pT).length ≤ sizeLine := small16 (by
          have h1 := W.asz
          have h2 := W.gz c hc
          unfold itemsT
          rw [List.length_zipWith, List.length_map, List.length_map, List.length_map]
          omega)
        simp_arith [hic, hix, hin, dct_dS, list_tup, add_lst hz, dict_give lv W.and (W.gin c hc)]
        exact goes_nx ⟨_, out, rfl, giveS_len lv, ⟨hrun, by omega, hnd⟩, _, _, _, _, _, rfl⟩
      · have hin : ∀ S, inT S (.str c.k) (tS t) = some (.bl false) := fun S => by
          rw [in_tup, decide_eq_false hk]
        rw [if_neg hk] at hrun
        simp_arith [hic, hix, hin]
        exact goes_nx ⟨_, out, rfl, lv, ⟨hrun, by omega, hnd⟩, _, _, _, _, _, rfl⟩
    · simp only [runS, hfc] at hrun
      have hic : ∀ S, inT S (.str x) (codesT b) = some (.bl false) := fun S => by
        rw [in_codes, hfc]
        rfl
      have hr2 : (out ++ [T.tup [.str x, tS (lookS b vs2 x)]]) ++ runS b t vs2 (xs.drop (i + 1)) = runS b t vs xs := by simpa using hrun
      have hl2 : (out ++ [T.tup [.str x, tS (lookS b vs2 x)]]).length ≤ i + 1 := by simp; omega
      have hn2 : noDs (out ++ [T.tup [.str x, tS (lookS b vs2 x)]]) = true := by rw [noDs_app, hnd]; simp only [noDs, noD, noDs_str, Bool.and_self]
      by_cases h1 : x = "\n"
      · have hl : lookS b vs2 x = [] := by
          unfold lookS
          rw [if_pos h1]
          rfl
        rw [hl] at hr2 hl2 hn2
        have hnl : ∀ S, TL.eqT S (.str x) (.str "\n") = some (.bl true) := fun S => by rw [hs.nl, decide_eq_true h1]
        simp_arith [hic, hnl, z4, small16 (show 2 ≤ 200 by omega)]
        exact goes_nx ⟨vs2, _, rfl, lv, ⟨hr2, hl2, hn2⟩, _, _, _, _, _, rfl⟩
      · have hnl : ∀ S, TL.eqT S (.str x) (.str "\n") = some (.bl false) := fun S => by rw [hs.nl, decide_eq_false h1]
        have hbl := hs.bl
        have hl : lookS b vs2 x = (if x = " " then b.sh else b.asp).map (getS b.asp vs2) := by
          unfold lookS
          rw [if_neg h1]
        have go : ∀ (al : List Str) (x10 : Option T), al.length ≤ sizeLine → (∀ a ∈ al, a ∈ b.asp) → lookS b vs2 x = al.map (getS b.asp vs2) → ∀ S,
            lcF (sName 11) fYes (fBin ixT (fVar 6) (fVar 11)) [11] [some (bT b), some (tS xs), some (tS t), some (dS b.asp vs), some (.str x), some (codesT b), some (dS b.asp vs2), some (.ref U.length), x8, x9, x10, none] (al.map T.str) S = .ok ((lookS b vs2 x).map T.str) S := fun al x10 hz hsub hlook S => by
          rw [hlook]
          exact lc_strs fun a ha => by simp_arith [ix_dS lv (hsub a ha)]
        by_cases h2 : x = " "
        · have hb2 : ∀ S, TL.eqT S (.str x) (.str " ") = some (.bl true) := fun S => by rw [hs.bl, decide_eq_true h2]
          rw [if_pos h2] at hl
          have hz : b.sh.length ≤ sizeLine := small16 (by have := W.gb.shz; omega)
          simp_arith [hic, hnl, hb2, i1, i0, List.length_map, hz, go b.sh _ hz W.gb.sub hl, z4, small16 (show 2 ≤ 200 by omega)]
          exact goes_nx ⟨vs2, _, rfl, lv, ⟨hr2, hl2, hn2⟩, _, _, _, _, _, rfl⟩
        · have hb2 : ∀ S, TL.eqT S (.str x) (.str " ") = some (.bl false) := fun S => by rw [hs.bl, decide_eq_false h2]
          rw [if_neg h2] at hl
          simp_arith [hic, hnl, hb2, i1, i0, List.length_map, z2, go b.asp _ z2 (fun a h => h) hl, z4, small16 (show 2 ≤ 200 by omega)]
          exact goes_nx ⟨vs2, _, rfl, lv, ⟨hr2, hl2, hn2⟩, _, _, _, _, _, rfl⟩)
  obtain ⟨hrun, _, hnd⟩ := h6
  rw [List.length_map, List.drop_length] at hrun
  simp only [runS, List.append_nil] at hrun
  subst e h4 h7
  simp_arith []
  exact ⟨[.lst out], by rw [← hrun]⟩
end SF
set_option Elab.async false
set_option linter.all false
set_option maxRecDepth 100000
namespace SF
open PySem PySem.Spec L2 TL
open PyProof.Rows hiding St
/-! ### things whose texts are small -/
def Rp (x : Str) : Prop := (reprText x).length ≤ 100 ∧ PyData.strOk (reprText x) = true ∧ PyData.strOk x = true
structure Nice (n m : Nat) (d : PyData) : Prop where
  lay : d.canLay0 = true
  eqv : PyData.eqv d d = true
  sh : d.showable = true
  hd : d.hasDict = false
  dp : d.depth ≤ n
  ln : d.shown.length ≤ m
  ok : PyData.strOk d.shown = true
theorem Nice.str {x : Str} (h : Rp x) : Nice 0 100 (.str x) :=
  ⟨by simp only [PyData.canLay0]; exact h.2.2, by simp only [PyData.eqv]; exact beq_self_eq_true x, by simp only [PyData.showable], by simp only [PyData.hasDict], by simp only [PyData.depth]; exact Nat.le_refl _, by simp only [PyData.shown]; exact h.1, by simp only [PyData.shown]; exact h.2.1⟩
theorem strOk_app {a b : Str} (h : PyData.strOk a = true) (g : PyData.strOk b = true) : PyData.strOk (a ++ b) = true := by
  unfold PyData.strOk at *
  show (a.cps ++ b.cps).all _ = true
  rw [Array.all_append, h, g]
  rfl
theorem strOk_join : ∀ {ts : List Str}, (∀ t ∈ ts, PyData.strOk t = true) → PyData.strOk (Str.join ", " ts) = true
  | [], _ => by decide +kernel
  | [x], h => h x List.mem_cons_self
  | x :: y :: r, h => by
    have ih := strOk_join (ts := y :: r) fun t ht => h t (List.mem_cons_of_mem _ ht)
    show PyData.strOk (x ++ ", " ++ Str.join ", " (y :: r)) = true
    exact strOk_app (strOk_app (h x List.mem_cons_self) (by decide +kernel)) ih
theorem piled_le {m : Nat} : ∀ {ts : List Str}, (∀ t ∈ ts, t.length ≤ m) → piled ts ≤ ts.length * (m + 2)
  | [], _ => by simp [piled]
  | t :: ts, h => by
    have ih := piled_le (ts := ts) fun u hu => h u (List.mem_cons_of_mem _ hu)
    have h1 := h t List.mem_cons_self
    rw [piled_cons, List.length_cons, Nat.add_mul]
    omega
theorem tupleText_le {m : Nat} {ts : List Str} (h : ∀ t ∈ ts, t.length ≤ m) : (tupleText ts).length ≤ 3 + ts.length * (m + 2) := by
  unfold tupleText
  rw [strLen_append, strLen_append]
  have e1 : ((("(" : String) : Str)).length = 1 := rfl
  have e3 : (((if ts.length == 1 then ",)" else ")" : String) : Str)).length ≤ 2 := by split <;> decide
  have hp := piled_le h
  cases ts with
  | nil =>
    have e2 : (Str.join ", " []).length = 0 := rfl
    omega
  | cons t r =>
    have e2 := join_length_add (t :: r) (by simp)
    omega
theorem shownAll_map : ∀ ds : List PyData, PyData.shownAll ds = ds.map PyData.shown
  | [] => by simp only [PyData.shownAll, List.map_nil]
  | d :: ds => by simp only [PyData.shownAll, List.map_cons, shownAll_map ds]
theorem Nice.tup {n m k : Nat} {ds : List PyData} (h : ∀ d ∈ ds, Nice n m d) (hk : ds.length ≤ k) : Nice (n + 1) (3 + k * (m + 2)) (.tuple ds) := by
  have a1 : ∀ {ds : List PyData}, (∀ d ∈ ds, Nice n m d) → PyData.canLayAll0 ds = true ∧ PyData.eqvAll ds ds = true ∧ PyData.showableAll ds = true ∧ PyData.hasDictAll ds = false ∧ PyData.depthAll ds ≤ n := fun {ds} h => by
    induction ds with
    | nil => exact ⟨by simp only [PyData.canLayAll0], by simp only [PyData.eqvAll], by simp only [PyData.showableAll], by simp only [PyData.hasDictAll], by simp only [PyData.depthAll]; exact Nat.zero_le _⟩
    | cons d ds ih =>
      obtain ⟨q1, q2, q3, q4, q5⟩ := ih fun x hx => h x (List.mem_cons_of_mem _ hx)
      have g := h d List.mem_cons_self
      exact ⟨by simp only [PyData.canLayAll0, g.lay, q1, Bool.and_self], by simp only [PyData.eqvAll, g.eqv, q2, Bool.and_self], by simp only [PyData.showableAll, g.sh, q3, Bool.and_self], by simp only [PyData.hasDictAll, g.hd, q4, Bool.or_self], by
        simp only [PyData.depthAll]
        exact Nat.max_le.mpr ⟨g.dp, q5⟩⟩
  obtain ⟨q1, q2, q3, q4, q5⟩ := a1 h
  have hs : ∀ t ∈ ds.map PyData.shown, t.length ≤ m ∧ PyData.strOk t = true := fun t ht => by
    obtain ⟨d, hd, rfl⟩ := List.mem_map.mp ht
    exact ⟨(h d hd).ln, (h d hd).ok⟩
  refine ⟨by simp only [PyData.canLay0]; exact q1, by simp only [PyData.eqv]; exact q2, by simp only [PyData.showable]; exact q3, by simp only [PyData.hasDict]; exact q4, by simp only [PyData.depth]; omega, ?_, ?_⟩
  · simp only [PyData.shown, shownAll_map]
    have := tupleText_le (ts := ds.map PyData.shown) fun t ht => (hs t ht).1
    rw [List.length_map] at this
    exact Nat.le_trans this (Nat.add_le_add_left (Nat.mul_le_mul_right _ hk) _)
  · simp only [PyData.shown, shownAll_map]
    unfold tupleText
    refine strOk_app (strOk_app (by decide +kernel) (strOk_join fun t ht => (hs t ht).2)) ?_
    split <;> decide +kernel
/-- a tree that reads as such a thing -/
def NiceT (n m : Nat) (t : T) : Prop := ∃ d, toD t = some d ∧ Nice n m d ∧ dispD d = true
theorem toDs_of : ∀ {ts : List T} {P : PyData → Prop}, (∀ t ∈ ts, ∃ d, toD t = some d ∧ P d) → ∃ ds, toDs ts = some ds ∧ ds.length = ts.length ∧ ∀ d ∈ ds, P d
  | [], _, _ => ⟨[], by simp only [toDs], rfl, fun d h => nomatch h⟩
  | t :: ts, P, h => by
    obtain ⟨d, e, p⟩ := h t List.mem_cons_self
    obtain ⟨ds, es, hl, hp⟩ := toDs_of fun u hu => h u (List.mem_cons_of_mem _ hu)
    refine ⟨d :: ds, by simp only [toDs, e, es, Option.bind_some], by simp [hl], fun x hx => ?_⟩
    rcases List.mem_cons.mp hx with rfl | hx
    · exact p
    · exact hp x hx
theorem NiceT.tup {n m k : Nat} {ts : List T} (h : ∀ t ∈ ts, ∃ d, toD t = some d ∧ Nice n m d) (hk : ts.length ≤ k) : NiceT (n + 1) (3 + k * (m + 2)) (.tup ts) := by
  obtain ⟨ds, e, hl, hp⟩ := toDs_of h
  exact ⟨.tuple ds, by simp only [toD, e, Option.map_some], Nice.tup hp (by omega), rfl⟩
theorem nice_strs {l : List Str} (h : ∀ x ∈ l, Rp x) (hk : l.length ≤ k) : NiceT 1 (3 + k * 102) (tS l) := NiceT.tup (fun t ht => by
  obtain ⟨x, hx, rfl⟩ := List.mem_map.mp ht
  exact ⟨.str x, by simp only [toD], Nice.str (h x hx)⟩) (by simpa using hk)
theorem NiceT.ne {n m : Nat} {t : T} (h : NiceT n m t) (hn : n ≤ 60) (S : Sto) : TL.neT S t t = some (.bl false) ∧ TL.eqT S t t = some (.bl true) := by
  obtain ⟨d, e, g, hd⟩ := h
  have e1 : toD1 S t = some d := by
    cases t with
    | ref i => simp only [toD] at e; cases e
    | _ => exact e
  have sh : SeqAt.shaped d = true := by
    unfold SeqAt.shaped
    rw [g.lay, decide_eq_true (show d.depth ≤ 64 by have := g.dp; omega)]
    rfl
  unfold TL.neT TL.eqT eqB
  simp only [e1, sh, Bool.and_self, if_true, g.eqv, Option.map_some, Bool.not_true, and_self]
theorem NiceT.repr {n m : Nat} {t : T} (h : NiceT n m t) (hn : n ≤ 60) (hm : m ≤ sizeLine) (S : Sto) : ∃ s, reprT S [t] = some (.str s) ∧ TL.neT S (.str s) (.str s) = some (.bl false) := by
  obtain ⟨d, e, g, hd⟩ := h
  have e1 : toD1 S t = some d := by
    cases t with
    | ref i => simp only [toD] at e; cases e
    | _ => exact e
  refine ⟨d.shown, ?_, ?_⟩
  · unfold reprT
    simp only [e1, Option.bind_some]
    rw [if_pos]
    rw [hd, g.sh, g.hd, decide_eq_true (show d.depth ≤ 60 by have := g.dp; omega), decide_eq_true (show d.shown.length ≤ sizeLine from Nat.le_trans g.ln hm)]
    rfl
  · have sh : SeqAt.shaped (.str d.shown) = true := by
      unfold SeqAt.shaped
      simp only [PyData.canLay0, g.ok, PyData.depth]
      rfl
    unfold TL.neT eqB
    simp only [toD1, toD, sh, Bool.and_self, if_true, PyData.eqv, beq_self_eq_true, Option.map_some, Bool.not_true]
/-- what is told of good items -/
theorem getS_mem : ∀ {ks vs : List Str} {a : Str}, vs.length = ks.length → a ∈ ks → getS ks vs a ∈ vs
  | [], _, _, _, h => nomatch h
  | k :: ks, [], _, h, _ => by simp at h
  | k :: ks, v :: vs, a, h, m => by
    unfold getS
    by_cases e : k = a
    · rw [if_pos e]
      exact List.mem_cons_self
    · rw [if_neg e]
      exact List.mem_cons_of_mem _ (getS_mem (by simpa using h) ((List.mem_cons.mp m).resolve_left fun z => e z.symm))
theorem updS_mem {ks vs : List Str} {a v x : Str} (h : x ∈ updS ks vs a v) : x = v ∨ x ∈ vs := by
  unfold updS at h
  obtain ⟨i, hi, e⟩ := List.mem_iff_getElem.mp h
  rw [List.getElem_zipWith] at e
  split at e
  · exact .inl e.symm
  · exact .inr (e ▸ List.getElem_mem _)
theorem giveS_mem {ks : List Str} {x : Str} : ∀ {g : List (Str × Str)} {vs : List Str}, x ∈ giveS ks vs g → x ∈ vs ∨ ∃ p ∈ g, x = p.2
  | [], _, h => .inl h
  | p :: g, vs, h => by
    rcases giveS_mem (g := g) (vs := updS ks vs p.1 p.2) h with q | ⟨r, hr, e⟩
    · rcases updS_mem q with e | q
      · exact .inr ⟨p, List.mem_cons_self, e⟩
      · exact .inl q
    · exact .inr ⟨r, List.mem_cons_of_mem _ hr, e⟩
/-- all that the law's books keep -/
structure GL (b : Bk) : Prop where
  w : GW b
  val : ∀ c ∈ b.cs, ∀ p ∈ c.g, Nm p.2 ∧ Rp p.2
/-- values that may stand in an entry -/
def VB (b : Bk) (vs : List Str) : Prop := vs.length = b.asp.length ∧ ∀ v ∈ vs, Nm v ∧ Rp v
theorem VB.give {b : Bk} (L : GL b) {vs : List Str} (h : VB b vs) {c : Code} (hc : c ∈ b.cs) : VB b (giveS b.asp vs c.g) :=
  ⟨giveS_len h.1, fun v hv => (giveS_mem hv).elim (h.2 v) fun ⟨p, hp, e⟩ => by rw [e]; exact L.val c hc p hp⟩
theorem VB.left {b : Bk} (L : GL b) {t : List Str} : ∀ {xs vs : List Str}, VB b vs → VB b (leftS b t vs xs)
  | [], _, h => h
  | x :: xs, vs, h => by
    unfold leftS
    cases e : findC b.cs x with
    | none => exact VB.left L h
    | some c =>
      simp only
      split
      · exact VB.left L (h.give L (findC_mem e).1)
      · exact VB.left L h
theorem look_ok {b : Bk} (L : GL b) {vs : List Str} (h : VB b vs) (x : Str) : (∀ y ∈ lookS b vs x, Rp y) ∧ (lookS b vs x).length ≤ 6 := by
  unfold lookS
  have key : ∀ al : List Str, (∀ a ∈ al, a ∈ b.asp) → ∀ y ∈ al.map (getS b.asp vs), Rp y := fun al ha y hy => by
    obtain ⟨a, hm, rfl⟩ := List.mem_map.mp hy
    exact (h.2 _ (getS_mem h.1 (ha a hm))).2
  rw [List.length_map]
  split
  · exact ⟨fun y hy => (by simp at hy), Nat.zero_le _⟩
  · split
    · exact ⟨key _ L.w.gb.sub, L.w.gb.shz⟩
    · exact ⟨key _ fun a ha => ha, L.w.asz⟩
theorem run_nice {b : Bk} (L : GL b) {t : List Str} : ∀ {xs vs : List Str}, VB b vs → (∀ x ∈ xs, findC b.cs x = none → Rp x) → ∀ u ∈ runS b t vs xs, ∃ d, toD u = some d ∧ Nice 2 (3 + 2 * 617) d
  | [], _, _, _, u, hu => by simp [runS] at hu
  | x :: xs, vs, h, hx, u, hu => by
    unfold runS at hu
    cases e : findC b.cs x with
    | some c =>
      rw [e] at hu
      simp only at hu
      split at hu
      · exact run_nice L (h.give L (findC_mem e).1) (fun y hy => hx y (List.mem_cons_of_mem _ hy)) u hu
      · exact run_nice L h (fun y hy => hx y (List.mem_cons_of_mem _ hy)) u hu
    | none =>
      rw [e] at hu
      simp only at hu
      rcases List.mem_cons.mp hu with rfl | hu
      · obtain ⟨l1, l2⟩ := look_ok L h x
        obtain ⟨d, ed, nd, _⟩ := nice_strs l1 l2
        obtain ⟨d2, e2, n2, _⟩ := NiceT.tup (n := 1) (m := 615) (k := 2) (ts := [.str x, tS (lookS b vs x)]) (fun u hu => by
          rcases List.mem_cons.mp hu with rfl | hu
          · have := Nice.str (hx x List.mem_cons_self e)
            exact ⟨.str x, by simp only [toD], this.lay, this.eqv, this.sh, this.hd, by have := this.dp; omega, by have := this.ln; omega, this.ok⟩
          · rw [List.mem_singleton.mp hu]
            exact ⟨d, ed, nd⟩) (by simp)
        exact ⟨d2, e2, n2⟩
      · exact run_nice L h (fun y hy => hx y (List.mem_cons_of_mem _ hy)) u hu
theorem run_len (b : Bk) (t : List Str) : ∀ xs vs : List Str, (runS b t vs xs).length ≤ xs.length
  | [], _ => Nat.le_refl _
  | x :: xs, vs => by
    simp only [runS]
    cases findC b.cs x with
    | some c => exact Nat.le_succ_of_le (run_len b t xs _)
    | none => exact Nat.succ_le_succ (run_len b t xs vs)
theorem runT_nice {b : Bk} (L : GL b) {t xs vs : List Str} (h : VB b vs) (hx : ∀ x ∈ xs, findC b.cs x = none → Rp x) (hl : xs.length ≤ 200) : NiceT 3 (3 + 200 * (3 + 2 * 617 + 2)) (.tup (runS b t vs xs)) :=
  NiceT.tup (run_nice L h hx) (Nat.le_trans (run_len b t xs vs) hl)
end SF
set_option Elab.async false
set_option linter.all false
set_option maxRecDepth 100000
namespace SF
open PySem PySem.Spec L2 TL
open PyProof.Rows hiding St
theorem GI.sub {b : Bk} {xs ys : List Str} (I : GI b xs) (h : ys.Sublist xs) : GI b ys := ⟨Nat.le_trans h.length_le I.len, fun x hx => I.it x (h.subset hx)⟩
theorem getS_self : ∀ {ks vs : List Str}, vs.length = ks.length → ks.Nodup → ks.map (getS ks vs) = vs
  | [], [], _, _ => rfl
  | [], _ :: _, h, _ => by simp at h
  | _ :: _, [], h, _ => by simp at h
  | k :: ks, v :: vs, h, nd => by
    obtain ⟨n1, n2⟩ := List.nodup_cons.mp nd
    rw [List.map_cons]
    congr 1
    · unfold getS
      rw [if_pos rfl]
    · have ih := getS_self (ks := ks) (vs := vs) (by simpa using h) n2
      have e : ks.map (getS (k :: ks) (v :: vs)) = ks.map (getS ks vs) := List.map_congr_left fun a ha => by
        show (if k = a then v else getS ks vs a) = _
        exact if_neg (by rintro rfl; exact n1 ha)
      rw [e, ih]
theorem slice_to (xs : List Str) (k : Nat) (S : Sto) : slT S (tS xs) none (some (k : Int)) = some (tS (xs.take k)) := by
  show some (T.tup (cutT (xs.map T.str) none (some (k : Int)))) = _
  unfold cutT
  rw [HT.sIx_none, HT.sIx_nat, List.drop_zero, Nat.sub_zero, List.length_map, ← List.map_take]
  by_cases h : k ≤ xs.length
  · rw [Nat.min_eq_left h]
  · rw [Nat.min_eq_right (by omega), List.take_of_length_le (Nat.le_refl _), List.take_of_length_le (show xs.length ≤ k by omega)]
theorem slice_from (xs : List Str) (k : Nat) (S : Sto) : slT S (tS xs) (some (k : Int)) none = some (tS (xs.drop k)) := by
  show some (T.tup (cutT (xs.map T.str) (some (k : Int)) none)) = _
  unfold cutT
  rw [HT.sIx_none, HT.sIx_nat, List.length_map, ← List.map_drop, ← List.map_take]
  congr 3
  rw [List.take_of_length_le (by rw [List.length_drop]; exact Nat.le_refl _)]
  by_cases h : k ≤ xs.length
  · rw [Nat.min_eq_left h]
  · rw [Nat.min_eq_right (by omega), List.drop_length, List.drop_of_length_le (by omega)]
theorem ne_dS {ks vs : List Str} (h : vs.length = ks.length) (nd : ks.Nodup) (S : Sto) : TL.neT S (dS ks vs) (dS ks vs) = some (.bl false) := by
  have key : dctSame (kS ks) (vs.map T.str) (kS ks) (vs.map T.str) = true := by
    unfold dctSame
    rw [decide_eq_true rfl, Bool.true_and, List.all_eq_true]
    intro p hp
    have hz : p ∈ (List.zip ks vs).map fun q => ((Sum.inr q.1 : Key), T.str q.2) := by
      have e : List.zip (kS ks) (vs.map T.str) = (List.zip ks vs).map fun q => ((Sum.inr q.1 : Key), T.str q.2) := by
        unfold kS
        rw [List.zip_map]
        rfl
      rw [← e]; exact hp
    obtain ⟨q, hq, rfl⟩ := List.mem_map.mp hz
    have hk : q.1 ∈ ks := (List.of_mem_zip hq).1
    simp only [getK_S h hk]
    have ev : getS ks vs q.1 = q.2 := by
      have e := getS_self h nd
      obtain ⟨i, hi, e2⟩ := List.mem_iff_getElem.mp hq
      rw [List.getElem_zip] at e2
      rw [← e2]
      simp only
      have h1 : i < ks.length := by
        rw [List.length_zip] at hi
        omega
      have := congrArg (fun l => l[i]?) e
      simp only [List.getElem?_map, List.getElem?_eq_getElem h1, Option.map_some, List.getElem?_eq_getElem (show i < vs.length by omega), Option.some.injEq] at this
      exact this
    rw [ev]
    exact decide_eq_true rfl
  unfold TL.neT eqB
  show Option.map (fun b => T.bl !b) (if dctSame (kS ks) (vs.map T.str) (kS ks) (vs.map T.str) then some true else none) = _
  rw [if_pos key]
  rfl
theorem run_pair (b : Bk) (t : List Str) : ∀ (xs vs : List Str), ∀ u ∈ runS b t vs xs, ∃ x l, u = .tup [.str x, tS l]
  | [], _, u, h => by simp [runS] at h
  | x :: xs, vs, u, h => by
    unfold runS at h
    cases e : findC b.cs x with
    | some c =>
      rw [e] at h
      exact run_pair b t xs _ u h
    | none =>
      rw [e] at h
      rcases List.mem_cons.mp h with rfl | h
      · exact ⟨_, _, rfl⟩
      · exact run_pair b t xs _ u h
theorem known_take {b : Bk} {t xs : List Str} {i : Nat} {x : Str} (h : xs[i]? = some x) : knownS b t (xs.take (i + 1)) = knownS b t (xs.take i) ++ (match findC b.cs x with | some c => if c.k ∈ t then [x] else [] | none => [x]) := by
  unfold knownS
  rw [List.take_add_one, h, List.filter_append]
  congr 1
  cases e : findC b.cs x with
  | none => simp [e]
  | some c =>
    by_cases hk : c.k ∈ t
    · simp [e, hk]
    · simp [e, hk]
theorem add_tup {a b : List T} (h : a.length + b.length ≤ sizeLine) (S : Sto) : addT S (.tup a) (.tup b) = some (.tup (a ++ b)) := by
  show (if a.length + b.length ≤ sizeLine then some (T.tup (a ++ b)) else none) = _
  rw [if_pos h]
end SF
set_option Elab.async false
set_option linter.all false
set_option maxRecDepth 100000
namespace SF
open PySem PySem.Spec L2 TL
open PyProof.Rows hiding St
/-! ### drawing -/
theorem mod_int {i j : Int} (h : 0 < j) (S : Sto) : modT S (.int i) (.int j) = some (.int (i % j)) := by
  unfold modT intsT
  simp only [decide_eq_true h, if_true]
theorem add_int (i j : Int) (S : Sto) : addT S (.int i) (.int j) = some (.int (i + j)) := rfl
theorem mul_int {i j : Int} (h : (-(2 ^ 64) < i ∧ i < 2 ^ 64) ∨ (-(2 ^ 64) < j ∧ j < 2 ^ 64)) (S : Sto) : mulT S (.int i) (.int j) = some (.int (i * j)) := by
  unfold mulT intsT
  simp only
  rw [if_pos]
  rcases h with h | h
  · rw [decide_eq_true h.1, decide_eq_true h.2]; rfl
  · rw [decide_eq_true h.1, decide_eq_true h.2]; simp
theorem fdiv_int {i j : Int} (h : 0 < j ∧ j < 1073741824) (S : Sto) : fdivT S (.int i) (.int j) = some (.int (i / j)) := by
  unfold fdivT intsT
  simp only [decide_eq_true h.1, decide_eq_true h.2, Bool.and_self, if_true]
theorem int_int (i : Int) (S : Sto) : intT S [.int i] = some (.int i) := rfl
theorem mixed_ok (c : Int) {k : Int} (h0 : 0 ≤ k) (h1 : k < 2 ^ 62) (S : Sto) : ∃ r, m__law_mixed [.int c, .int k] S = .ok (.int r) S ∧ 0 ≤ r ∧ r < 2147483629 := by
  unfold m__law_mixed b__law_mixed
  have m1 := Int.emod_nonneg c (show (2147483647 : Int) ≠ 0 by decide)
  have m2 := Int.emod_lt_of_pos c (show (0 : Int) < 2147483647 by decide)
  have e1 : ∀ S, modT S (.int c) (.int 2147483647) = some (.int (c % 2147483647)) := mod_int (by decide)
  generalize c % 2147483647 = d at m1 m2 e1
  have e2 : ∀ S, mulT S (.int 2) (.int k) = some (.int (2 * k)) := mul_int (.inl (by decide))
  have e3 : ∀ S, mulT S (.int (2 * k)) (.int k) = some (.int (2 * k * k)) := mul_int (.inr (by omega))
  have e4 : ∀ x S, mulT S (.int d) (.int x) = some (.int (d * x)) := fun x => mul_int (.inl (by omega))
  have e5 : ∀ S, mulT S (.int 69621) (.int k) = some (.int (69621 * k)) := mul_int (.inl (by decide))
  have e6 : ∀ x S, modT S (.int x) (.int 2147483647) = some (.int (x % 2147483647)) := fun x => mod_int (by decide)
  have e7 : ∀ x S, mulT S (.int x) (.int 69621) = some (.int (x * 69621)) := fun x => mul_int (.inr (by decide))
  have e8 : ∀ x S, modT S (.int x) (.int 2147483629) = some (.int (x % 2147483629)) := fun x => mod_int (by decide)
  simp_arith [int_int, e1, e2, e3, e4, e5, e6, e7, e8, add_int]
  exact ⟨_, rfl, Int.emod_nonneg _ (by decide), Int.emod_lt_of_pos _ (by decide)⟩
/-- the law's state: its two cells, and what lies behind -/
def K4 : List Key := kS ["cells", "lefts", "at", "room"]
def DD (cs : List Int) (a : Nat) : T := .dct K4 [.lst (cs.map T.int), .ref 0, .int a, .int 0]
def S2 (ls cs : List Int) (a : Nat) (R : Sto) : Sto := .lst (ls.map T.int) :: DD cs a :: R
theorem S2_ref0 (ls cs : List Int) (a : Nat) (R : Sto) : (S2 ls cs a R)[0]? = some (.lst (ls.map T.int)) := rfl
theorem S2_ref1 (ls cs : List Int) (a : Nat) (R : Sto) : (S2 ls cs a R)[1]? = some (DD cs a) := rfl
theorem dct_1 (ls cs : List Int) (a : Nat) (R : Sto) : dctT (S2 ls cs a R) (.ref 1) = some (K4, [.lst (cs.map T.int), .ref 0, .int a, .int 0]) := by
  unfold dctT
  simp only [S2_ref1, DD]
theorem ix_at (ls cs : List Int) (a : Nat) (R : Sto) : ixT (S2 ls cs a R) (.ref 1) (.str "at") = some (.int a) := by
  unfold ixT
  rw [dct_1]
  rfl
theorem ix_cells (ls cs : List Int) (a : Nat) (R : Sto) : ixT (S2 ls cs a R) (.ref 1) (.str "cells") = some (.lst (cs.map T.int)) := by
  unfold ixT
  rw [dct_1]
  rfl
theorem ix_lefts (ls cs : List Int) (a : Nat) (R : Sto) : ixT (S2 ls cs a R) (.ref 1) (.str "lefts") = some (.ref 0) := by
  unfold ixT
  rw [dct_1]
  rfl
theorem ix_of {ls : List Int} {x : T} {S : Sto} {p : Nat} (hs : seqL S x = some (ls.map T.int)) (hd : dctT S x = none) (hx : ∀ ts, x ≠ .tup ts) (hy : ∀ s, x ≠ .str s) (h : p < ls.length) : ixT S x (.int p) = some (.int (ls[p])) := by
  have hi : ixN (ls.map T.int).length (p : Int) = some p := by
    unfold ixN
    rw [if_pos (by omega), if_pos (by rw [List.length_map]; omega)]
    simp
  have e : (seqL S x).bind (fun ts => atI ts (p : Int)) = some (.int ls[p]) := by
    rw [hs, Option.bind_some]
    unfold atI
    rw [hi]
    simp [h]
  unfold ixT
  rw [hd]
  cases x with
  | tup ts => exact absurd rfl (hx ts)
  | str s => exact absurd rfl (hy s)
  | _ => exact e
theorem set_at (ls cs : List Int) (a : Nat) (R : Sto) (b : Nat) : setT (S2 ls cs a R) (.ref 1) (.str "at") (.int b) = some (S2 ls cs b R) := by
  unfold setT
  simp only [S2_ref1, DD]
  rfl
theorem set_left (ls cs : List Int) (a : Nat) (R : Sto) {p : Nat} (v : Int) (h : p < ls.length) : setT (S2 ls cs a R) (.ref 0) (.int p) (.int v) = some (S2 (ls.set p v) cs a R) := by
  have hi : ixN (ls.map T.int).length (p : Int) = some p := by
    unfold ixN
    rw [if_pos (by omega), if_pos (by rw [List.length_map]; omega)]
    simp
  unfold setT
  simp only [S2, List.getElem?_cons_zero, hi, Option.map_some, List.set_cons_zero, List.map_set]
theorem draw_ok {m : Int} (hm : 0 < m ∧ m < 1073741824) {ls cs : List Int} {a : Nat} {R : Sto} (hl : ls.length = cs.length) (hc : cs ≠ []) (ha : a < 2 ^ 60) :
    ∃ r ls', m__law_draw [.ref 1, .int m] (S2 ls cs a R) = .ok (.int r) (S2 ls' cs (a + 1) R) ∧ 0 ≤ r ∧ r < m ∧ ls'.length = cs.length := by
  unfold m__law_draw b__law_draw
  have hn : 0 < cs.length := List.length_pos_iff.mpr hc
  obtain ⟨p, hp1, hp2⟩ : ∃ p : Nat, (a : Int) % (cs.length : Int) = p ∧ p < cs.length := ⟨a % cs.length, by rw [Int.natCast_emod], Nat.mod_lt _ hn⟩
  have e1 : ∀ S, modT S (.int a) (.int cs.length) = some (.int p) := fun S => by rw [mod_int (by omega), hp1]
  have e2 : ((a : Int) + 1) = ((a + 1 : Nat) : Int) := by omega
  have e3 : ixT (S2 ls cs (a + 1) R) (.ref 0) (.int p) = some (.int (ls[p]'(by omega))) := ix_of rfl rfl (fun _ => by simp) (fun _ => by simp) (by omega)
  have e4 : ∀ S, ixT S (.lst (cs.map T.int)) (.int p) = some (.int (cs[p])) := fun S => ix_of rfl rfl (fun _ => by simp) (fun _ => by simp) hp2
  have e5 : ∀ S, lenT S [.lst (cs.map T.int)] = some (.int cs.length) := fun S => by rw [len_lst, List.length_map]
  have mx : ∀ (c : Int) (k : Int), 0 ≤ k → k < 2 ^ 62 → ∀ S, ∃ r, m__law_mixed [.int c, .int k] S = .ok (.int r) S ∧ 0 ≤ r ∧ r < 2147483629 := fun c k h0 h1 S => mixed_ok c h0 h1 S
  generalize m__law_mixed = f1 at mx ⊢
  have ls1 : (0 : Int) < ls[p]'(by omega) ∨ ¬ (0 : Int) < ls[p]'(by omega) := by omega
  have st := fun v => set_left ls cs (a + 1) R (p := p) v (by omega)
  generalize ls[p]'(by omega) = l at e3 ls1
  rcases ls1 with hl0 | hl0
  · have d1 : ∀ S, fdivT S (.int l) (.int m) = some (.int (l / m)) := fdiv_int hm
    have d2 : ∀ S, modT S (.int l) (.int m) = some (.int (l % m)) := mod_int hm.1
    simp_arith [ix_at, bStore, add_int, e2, set_at, int_int, ix_cells, e5, e1, ix_lefts, e3, hl0, d1, st, d2]
    exact ⟨_, _, rfl, Int.emod_nonneg _ (by omega), Int.emod_lt_of_pos _ hm.1, by rw [List.length_set]; exact hl⟩
  · obtain ⟨r1, h1, b1, c1⟩ := mx cs[p] a (by omega) (by omega) (S2 ls cs (a + 1) R)
    obtain ⟨r2, h2, b2, c2⟩ := mx r1 (40 + a) (by omega) (by omega) (S2 ls cs (a + 1) R)
    obtain ⟨r3, h3, b3, c3⟩ := mx r2 (7 + a) (by omega) (by omega) (S2 ls cs (a + 1) R)
    have d1 : ∀ S, mulT S (.int r2) (.int 2147483647) = some (.int (r2 * 2147483647)) := mul_int (.inr (by decide))
    have d2 : ∀ x S, fdivT S (.int x) (.int 64) = some (.int (x / 64)) := fun x => fdiv_int (by decide)
    have d3 : ∀ x S, modT S (.int x) (.int m) = some (.int (x % m)) := fun x => mod_int hm.1
    simp_arith [ix_at, bStore, add_int, e2, set_at, int_int, ix_cells, e5, e1, ix_lefts, e3, hl0, e4, h1, h2, h3, d1, d2, d3]
    exact ⟨_, _, rfl, Int.emod_nonneg _ (by omega), Int.emod_lt_of_pos _ hm.1, hl⟩
end SF
set_option Elab.async false
set_option linter.all false
set_option maxRecDepth 100000
namespace SF
open PySem PySem.Spec L2 TL
open PyProof.Rows hiding St
/-! ### the law's own words -/
def L3 : List Str := ["a", "b", "c"]
def V4 : List Str := ["plain", "u", "v", "zz"]
def K3 : List Str := ["j", "k", "l"]
def W8 : List Str := ["1", "2", "22", "3;4", "0", "38;5;1", "9", "44"]
def G5 : List Str := ["x", "y", " ", "z", "\n"]
def T5 : List Str := ["a", "j", "k", "l", "zz"]
def subls {α : Type} : List α → List (List α)
  | [] => [[]]
  | x :: r => subls r ++ (subls r).map (x :: ·)
theorem mem_subs {α : Type} : ∀ {L l : List α}, l.Sublist L → l ∈ subls L
  | [], l, h => by
    rw [List.sublist_nil.mp h]
    exact List.mem_singleton.mpr rfl
  | x :: L, l, h => by
    unfold subls
    rcases List.sublist_cons_iff.mp h with h2 | ⟨r, rfl, h2⟩
    · exact List.mem_append_left _ (mem_subs h2)
    · exact List.mem_append_right _ (List.mem_map_of_mem (mem_subs h2))
theorem all_of {α : Type} {P : α → Prop} : ∀ {L : List α}, (List.foldr (fun x q => P x ∧ q) True L) → ∀ x ∈ L, P x
  | [], _, x, h => nomatch h
  | y :: L, h, x, hx => by
    rcases List.mem_cons.mp hx with rfl | hx
    · exact h.1
    · exact all_of h.2 x hx
theorem nm_all : ∀ x ∈ L3 ++ V4 ++ K3, Nm x := all_of ⟨fun _ => by kernel_rfl, fun _ => by kernel_rfl, fun _ => by kernel_rfl, fun _ => by kernel_rfl, fun _ => by kernel_rfl, fun _ => by kernel_rfl, fun _ => by kernel_rfl, fun _ => by kernel_rfl, fun _ => by kernel_rfl, fun _ => by kernel_rfl, trivial⟩
theorem wd_all : ∀ x ∈ W8, Wd x ∧ Sg x false := all_of ⟨⟨fun _ => by kernel_rfl, fun _ => by kernel_rfl⟩, ⟨fun _ => by kernel_rfl, fun _ => by kernel_rfl⟩, ⟨fun _ => by kernel_rfl, fun _ => by kernel_rfl⟩, ⟨fun _ => by kernel_rfl, fun _ => by kernel_rfl⟩, ⟨fun _ => by kernel_rfl, fun _ => by kernel_rfl⟩, ⟨fun _ => by kernel_rfl, fun _ => by kernel_rfl⟩, ⟨fun _ => by kernel_rfl, fun _ => by kernel_rfl⟩, ⟨fun _ => by kernel_rfl, fun _ => by kernel_rfl⟩, trivial⟩
theorem si_all : ∀ x ∈ G5, Si x := all_of ⟨⟨fun _ => by kernel_rfl, fun _ _ => by kernel_rfl, fun _ => by kernel_rfl, fun _ => by kernel_rfl⟩, ⟨fun _ => by kernel_rfl, fun _ _ => by kernel_rfl, fun _ => by kernel_rfl, fun _ => by kernel_rfl⟩, ⟨fun _ => by kernel_rfl, fun _ _ => by kernel_rfl, fun _ => by kernel_rfl, fun _ => by kernel_rfl⟩, ⟨fun _ => by kernel_rfl, fun _ _ => by kernel_rfl, fun _ => by kernel_rfl, fun _ => by kernel_rfl⟩, ⟨fun _ => by kernel_rfl, fun _ _ => by kernel_rfl, fun _ => by kernel_rfl, fun _ => by kernel_rfl⟩, trivial⟩
theorem rp_of {x : Str} (h : (decide ((reprText x).length ≤ 100) && PyData.strOk (reprText x) && PyData.strOk x) = true) : Rp x := by
  simp only [Bool.and_eq_true, decide_eq_true_eq] at h
  exact ⟨h.1.1, h.1.2, h.2⟩
theorem rp_all : ∀ x ∈ L3 ++ V4 ++ K3 ++ W8 ++ G5 ++ T5, Rp x := fun x hx => rp_of (List.all_eq_true.mp (show (L3 ++ V4 ++ K3 ++ W8 ++ G5 ++ T5).all (fun x => decide ((reprText x).length ≤ 100) && PyData.strOk (reprText x) && PyData.strOk x) = true by decide +kernel) x hx)
theorem asp_all : ∀ l ∈ subls L3, ∀ S, m_are_names [tS l, .int 6] S = .ok (.bl true) S := all_of ⟨fun _ => by kernel_rfl, fun _ => by kernel_rfl, fun _ => by kernel_rfl, fun _ => by kernel_rfl, fun _ => by kernel_rfl, fun _ => by kernel_rfl, fun _ => by kernel_rfl, fun _ => by kernel_rfl, trivial⟩
theorem asc_all : ∀ l ∈ subls L3, ∀ S, m_ascend [.lst (l.map T.str)] S = .ok (.bl true) S := all_of ⟨fun _ => by kernel_rfl, fun _ => by kernel_rfl, fun _ => by kernel_rfl, fun _ => by kernel_rfl, fun _ => by kernel_rfl, fun _ => by kernel_rfl, fun _ => by kernel_rfl, fun _ => by kernel_rfl, trivial⟩
theorem term_all : ∀ l ∈ subls T5, ∀ S, m_need_terminal [tS l] S = .ok (tS l) S := all_of (by
  repeat' apply And.intro
  all_goals first | exact trivial | (intro S; kernel_rfl))
/-- a code that the law draws, for these aspects -/
structure CL (asp : List Str) (c : Code) : Prop where
  k : c.k ∈ K3
  g0 : c.g ≠ []
  gs : (c.g.map (·.1)).Sublist asp
  gv : ∀ p ∈ c.g, p.2 ∈ V4
/-- a book that the law draws -/
structure BL (b : Bk) : Prop where
  asp : b.asp.Sublist L3
  a0 : b.asp ≠ []
  sh : b.sh.Sublist b.asp
  ws : b.cs.map (·.w) = W8.take b.cs.length
  n8 : b.cs.length ≤ 8
  n0 : b.cs ≠ []
  cl : ∀ c ∈ b.cs, CL b.asp c
theorem nd_L3 : L3.Nodup := by decide +kernel
theorem BL.gl {b : Bk} (B : BL b) : GL b := by
  have wm : ∀ c ∈ b.cs, c.w ∈ W8 := fun c hc => by
    have : c.w ∈ b.cs.map (·.w) := List.mem_map_of_mem hc
    rw [B.ws] at this
    exact List.mem_of_mem_take this
  have gl6 : ∀ c ∈ b.cs, c.g.length ≤ 6 := fun c hc => by
    have h1 := ((B.cl c hc).gs.trans B.asp).length_le
    rw [List.length_map] at h1
    have h2 : L3.length = 3 := rfl
    omega
  have gin : ∀ c ∈ b.cs, ∀ p ∈ c.g, p.1 ∈ b.asp := fun c hc p hp => (B.cl c hc).gs.subset (List.mem_map_of_mem hp)
  have inL : ∀ x ∈ L3, x ∈ L3 ++ V4 ++ K3 := fun x hx => List.mem_append_left _ (List.mem_append_left _ hx)
  have inV : ∀ x ∈ V4, x ∈ L3 ++ V4 ++ K3 := fun x hx => List.mem_append_left _ (List.mem_append_right _ hx)
  have inK : ∀ x ∈ K3, x ∈ L3 ++ V4 ++ K3 := fun x hx => List.mem_append_right _ hx
  have l3 : b.asp.length ≤ 3 := B.asp.length_le
  have l4 := B.sh.length_le
  have l8 := B.n8
  refine ⟨⟨⟨asp_all _ (mem_subs B.asp), B.a0, asp_all _ (mem_subs (B.sh.trans B.asp)), fun x hx => B.sh.subset hx, by omega, by omega, fun c hc => ?_, ?_, ⟨K3, by decide, fun c hc => (B.cl c hc).k⟩⟩, fun c hc => (wd_all _ (wm c hc)).2, gin, nd_L3.sublist B.asp, gl6, by omega⟩, fun c hc p hp => ?_⟩
  · have C := B.cl c hc
    have a1 := asc_all _ (mem_subs (C.gs.trans B.asp))
    rw [List.map_map] at a1
    exact is_code_ok (small16 (by have := gl6 c hc; omega)) (wd_all _ (wm c hc)).1 (nm_all _ (inK _ C.k)) (are_gifts_ok C.g0 (small16 (by have := gl6 c hc; omega)) (fun p hp => ⟨nm_all _ (inL _ (B.asp.subset (gin c hc p hp))), nm_all _ (inV _ (C.gv p hp))⟩) a1) (gin c hc)
  · rw [B.ws]
    exact (show W8.Nodup by decide +kernel).sublist (List.take_sublist _ _)
  · exact ⟨nm_all _ (inV _ ((B.cl c hc).gv p hp)), rp_all _ (List.mem_append_left _ (List.mem_append_left _ (List.mem_append_left _ (inV _ ((B.cl c hc).gv p hp)))))⟩
/-- a stream that the law draws -/
structure XL (b : Bk) (xs : List Str) : Prop where
  len : xs.length ≤ 200
  it : ∀ x ∈ xs, x ∈ b.cs.map (·.w) ∨ x ∈ G5
theorem XL.gi {b : Bk} {xs : List Str} (X : XL b xs) : GI b xs := ⟨X.len, fun x hx => (X.it x hx).imp (fun h => by
  obtain ⟨c, hc, e⟩ := List.mem_map.mp h
  exact ⟨c, hc, e⟩) (si_all x)⟩
theorem XL.rp {b : Bk} {xs : List Str} (X : XL b xs) : ∀ x ∈ xs, findC b.cs x = none → Rp x := fun x hx e => by
  rcases X.it x hx with h | h
  · obtain ⟨c, hc, e2⟩ := List.mem_map.mp h
    exact absurd e2 (findC_none e c hc)
  · exact rp_all _ (List.mem_append_left _ (List.mem_append_right _ h))
theorem vb_of {b : Bk} {vs : List Str} (h : vs.length = b.asp.length) (g : ∀ v ∈ vs, v ∈ V4) : VB b vs := ⟨h, fun v hv => ⟨nm_all _ (List.mem_append_left _ (List.mem_append_right _ (g v hv))), rp_all _ (List.mem_append_left _ (List.mem_append_left _ (List.mem_append_left _ (List.mem_append_left _ (List.mem_append_right _ (g v hv))))))⟩⟩
end SF
set_option Elab.async false
set_option linter.all false
set_option maxRecDepth 100000
namespace SF
open PySem PySem.Spec L2 TL
open PyProof.Rows hiding St
/-- draws at most n times, lays nothing -/
def Dq {α : Type} (cs : List Int) (R : Sto) (n : Nat) (P : α → Prop) (G : Sto → Res α) : Prop := ∀ ls a, ls.length = cs.length → a + n ≤ 2 ^ 60 →
  ∃ r ls' a', G (S2 ls cs a R) = .ok r (S2 ls' cs a' R) ∧ P r ∧ ls'.length = cs.length ∧ a' ≤ a + n
theorem draw_dq {cs : List Int} {R : Sto} (hc : cs ≠ []) {m : Int} (hm : 0 < m ∧ m < 1073741824) : Dq cs R 1 (fun t => ∃ r : Nat, t = .int r ∧ (r : Int) < m) (m__law_draw [.ref 1, .int m]) := fun ls a hl ha => by
  obtain ⟨r, ls', e, h0, h1, h2⟩ := draw_ok hm (R := R) hl hc (show a < 2 ^ 60 by omega)
  exact ⟨_, ls', a + 1, e, ⟨r.toNat, by rw [Int.toNat_of_nonneg h0], by omega⟩, h2, Nat.le_refl _⟩
theorem ix_lst {ts : List T} {r : Nat} (h : r < ts.length) (S : Sto) : ixT S (.lst ts) (.int r) = some ts[r] := by
  have hi : ixN ts.length (r : Int) = some r := by
    unfold ixN
    rw [if_pos (by omega), if_pos (by omega)]
    simp
  show atI ts (r : Int) = _
  unfold atI
  rw [hi, Option.bind_some, List.getElem?_eq_getElem h]
theorem ix_tupn {ts : List T} {r : Nat} (h : r < ts.length) (S : Sto) : ixT S (.tup ts) (.int r) = some ts[r] := by
  have hi : ixN ts.length (r : Int) = some r := by
    unfold ixN
    rw [if_pos (by omega), if_pos (by omega)]
    simp
  show atI ts (r : Int) = _
  unfold atI
  rw [hi, Option.bind_some, List.getElem?_eq_getElem h]
theorem pick (l : List Str) {r : Nat} (h : r < l.length) : ∃ x ∈ l, ∀ S, ixT S (.lst (l.map T.str)) (.int r) = some (.str x) :=
  ⟨l[r], List.getElem_mem h, fun S => by rw [ix_lst (by rw [List.length_map]; exact h), List.getElem_map]⟩
theorem value_dq {cs : List Int} {R : Sto} (hc : cs ≠ []) : Dq cs R 1 (fun t => ∃ x ∈ V4, t = .str x) (m__law_value [.ref 1]) := fun ls a hl ha => by
  obtain ⟨_, ls', a', e, ⟨r, rfl, hr⟩, h2, h3⟩ := draw_dq (R := R) hc (m := 4) (by decide) ls a hl ha
  obtain ⟨x, hx, ex⟩ := pick ["plain", "u", "v", "u"] (r := r) (by simp; omega)
  have ex2 : ∀ S, ixT S (.lst [.str "plain", .str "u", .str "v", .str "u"]) (.int r) = some (.str x) := ex
  refine ⟨.str x, ls', a', ?_, ⟨x, ?_, rfl⟩, h2, h3⟩
  · unfold m__law_value b__law_value
    generalize m__law_draw = f1 at e ⊢
    simp_arith [e, ex2, small16 (show 4 ≤ 200 by omega)]
  · exact (show ∀ y ∈ (["plain", "u", "v", "u"] : List Str), y ∈ V4 by decide +kernel) x hx
/-- a comprehension over texts, with draws in its test and its item -/
theorem lc_sub {cs : List Int} {R : Sto} {i : Nat} {τ : Fr} {Ft : FT} {Fe : FE} {Q : Str → T → Prop} : ∀ {al : List Str}, (∀ x ∈ al, Dq cs R 1 (fun _ => True) (Ft (setsT τ [(i, .str x)]))) → (∀ x ∈ al, Dq cs R 1 (Q x) (Fe (setsT τ [(i, .str x)]))) →
    Dq cs R (2 * al.length) (fun ys => ∃ prs : List (Str × T), (prs.map (·.1)).Sublist al ∧ (∀ p ∈ prs, Q p.1 p.2) ∧ ys = prs.map (·.2)) (lcF (sName i) Ft Fe [i] τ (al.map T.str))
  | [], _, _ => fun ls a hl ha => ⟨[], ls, a, rfl, ⟨[], .slnil, (fun p hp => nomatch hp), rfl⟩, hl, Nat.le_refl _⟩
  | x :: al, h1, h2 => fun ls a hl ha => by
    rw [List.length_cons] at ha ⊢
    obtain ⟨k, ls1, a1, e1, _, l1, b1⟩ := h1 x List.mem_cons_self ls a hl (by omega)
    have ih := lc_sub (fun y hy => h1 y (List.mem_cons_of_mem _ hy)) fun y hy => h2 y (List.mem_cons_of_mem _ hy)
    cases k with
    | true =>
      obtain ⟨y, ls2, a2, e2, q2, l2, b2⟩ := h2 x List.mem_cons_self ls1 a1 l1 (by omega)
      obtain ⟨ys, ls3, a3, e3, ⟨prs, s3, q3, rfl⟩, l3, b3⟩ := ih ls2 a2 l2 (by omega)
      refine ⟨y :: prs.map (·.2), ls3, a3, ?_, ⟨(x, y) :: prs, s3.cons₂ x, fun p hp => ?_, rfl⟩, l3, by omega⟩
      · simp only [List.map_cons, lcF, sName, slots1, if_true, e1, nox_ok, bind_ok, e2, e3]
      · rcases List.mem_cons.mp hp with rfl | hp
        · exact q2
        · exact q3 p hp
    | false =>
      obtain ⟨ys, ls3, a3, e3, ⟨prs, s3, q3, rfl⟩, l3, b3⟩ := ih ls1 a1 l1 (by omega)
      refine ⟨prs.map (·.2), ls3, a3, ?_, ⟨prs, s3.cons x, q3, rfl⟩, l3, by omega⟩
      simp only [List.map_cons, lcF, sName, slots1, if_true, e1, nox_ok, bind_ok, e3]
/-- .. without a test -/
theorem lc_each {cs : List Int} {R : Sto} {i : Nat} {τ : Fr} {Fe : FE} {Q : Str → T → Prop} : ∀ {al : List Str}, (∀ x ∈ al, Dq cs R 1 (Q x) (Fe (setsT τ [(i, .str x)]))) →
    Dq cs R al.length (fun ys => ∃ prs : List (Str × T), prs.map (·.1) = al ∧ (∀ p ∈ prs, Q p.1 p.2) ∧ ys = prs.map (·.2)) (lcF (sName i) fYes Fe [i] τ (al.map T.str))
  | [], _ => fun ls a hl ha => ⟨[], ls, a, rfl, ⟨[], rfl, (fun p hp => nomatch hp), rfl⟩, hl, Nat.le_refl _⟩
  | x :: al, h2 => fun ls a hl ha => by
    rw [List.length_cons] at ha ⊢
    have ih := lc_each fun y hy => h2 y (List.mem_cons_of_mem _ hy)
    obtain ⟨y, ls2, a2, e2, q2, l2, b2⟩ := h2 x List.mem_cons_self ls a hl (by omega)
    obtain ⟨ys, ls3, a3, e3, ⟨prs, s3, q3, rfl⟩, l3, b3⟩ := ih ls2 a2 l2 (by omega)
    refine ⟨y :: prs.map (·.2), ls3, a3, ?_, ⟨(x, y) :: prs, by rw [List.map_cons, s3], fun p hp => ?_, rfl⟩, l3, by omega⟩
    · simp only [List.map_cons, lcF, sName, slots1, if_true, fYes, nox_ok, bind_ok, e2, e3]
    · rcases List.mem_cons.mp hp with rfl | hp
      · exact q2
      · exact q3 p hp
theorem pairs_of : ∀ {prs : List (Str × T)}, (∀ p ∈ prs, ∃ v ∈ V4, p.2 = .tup [.str p.1, .str v]) → ∃ vs : List Str, vs.length = prs.length ∧ (∀ v ∈ vs, v ∈ V4) ∧ prs.map (·.2) = itemsT (kS (prs.map (·.1))) (vs.map T.str)
  | [], _ => ⟨[], rfl, (fun v hv => nomatch hv), rfl⟩
  | p :: prs, h => by
    obtain ⟨v, hv, e⟩ := h p List.mem_cons_self
    obtain ⟨vs, h1, h2, h3⟩ := pairs_of fun q hq => h q (List.mem_cons_of_mem _ hq)
    refine ⟨v :: vs, by simp [h1], fun w hw => ?_, ?_⟩
    · rcases List.mem_cons.mp hw with rfl | hw
      · exact hv
      · exact h2 w hw
    · simp only [itemsT, kS, List.map_cons, List.zipWith_cons_cons, tKey, e] at h3 ⊢
      rw [h3]
end SF
set_option Elab.async false
set_option linter.all false
set_option maxRecDepth 100000
namespace SF
open PySem PySem.Spec L2 TL
open PyProof.Rows hiding St
theorem S2_app (ls cs : List Int) (a : Nat) (R J : Sto) : S2 ls cs a R ++ J = S2 ls cs a (R ++ J) := rfl
theorem S2_len (ls cs : List Int) (a : Nat) (R : Sto) : (S2 ls cs a R).length = R.length + 2 := rfl
theorem lst_S2 (ls cs : List Int) (a : Nat) (R J : Sto) (ts : List T) : lstAt (S2 ls cs a (R ++ .lst ts :: J)) (R.length + 2) = some ts := by
  have e : (S2 ls cs a (R ++ .lst ts :: J))[R.length + 2]? = some (.lst ts) := by simp [S2]
  unfold lstAt
  rw [e]
theorem set_S2 (ls cs : List Int) (a : Nat) (R J : Sto) (x y : T) : (S2 ls cs a (R ++ x :: J)).set (R.length + 2) y = S2 ls cs a (R ++ y :: J) := by
  simp [S2]
theorem tup_S2 (ls cs : List Int) (a : Nat) (R J : Sto) (ts : List T) : tupT (S2 ls cs a (R ++ .lst ts :: J)) [.ref (R.length + 2)] = some (.tup ts) := by
  have e : (S2 ls cs a (R ++ .lst ts :: J))[R.length + 2]? = some (.lst ts) := by simp [S2]
  show (seqL (S2 ls cs a (R ++ .lst ts :: J)) (.ref (R.length + 2))).map T.tup = some (.tup ts)
  unfold seqL
  simp only [e, Option.map_some]
theorem rng_at {r i : Nat} {x : T} (h : (rng 0 (r : Int))[i]? = some x) : i < r ∧ x = .int i := by
  unfold rng at h
  rw [List.getElem?_map] at h
  have e : ((r : Int) - 0).toNat = r := by omega
  rw [e] at h
  by_cases hi : i < r
  · rw [List.getElem?_range hi] at h
    refine ⟨hi, ?_⟩
    have : T.int (0 + (i : Nat)) = x := by simpa using h
    rw [← this]
    congr 1
    omega
  · rw [List.getElem?_eq_none (by simpa using hi)] at h
    cases h
theorem rng_len (r : Nat) : (rng 0 (r : Int)).length = r := by
  unfold rng
  rw [List.length_map, List.length_range]
  omega
theorem inR_small {r : Int} (h0 : 0 ≤ r) (h : r ≤ 1000) : TL.inR 0 r = true := by
  unfold TL.inR
  exact decide_eq_true (by omega)
/-- draws at most n times, lays cells behind -/
def Db {α : Type} (cs : List Int) (n : Nat) (P : α → Prop) (G : Sto → Res α) : Prop := ∀ R ls a, ls.length = cs.length → a + n ≤ 2 ^ 60 →
  ∃ r ls' a' J, G (S2 ls cs a R) = .ok r (S2 ls' cs a' (R ++ J)) ∧ P r ∧ ls'.length = cs.length ∧ a' ≤ a + n
/-- .. and keeps nothing -/
abbrev Dr {α : Type} (cs : List Int) (n : Nat) (P : α → Prop) (G : Sto → Res α) : Prop := ∀ R, Dq cs R n P G
theorem old_S2 {ls ls' cs : List Int} {a a' : Nat} {R : Sto} (n : Nat) (c : T) (h : (S2 ls' cs a' R)[n]? = some c) : (S2 ls cs a R)[n]? = some c ∨ sub (oldR (S2 ls cs a R).length) c = some c := by
  match n, h with
  | 0, h =>
    cases h
    exact .inr (sub_nr _ (nrs_int ls'))
  | 1, h =>
    cases h
    refine .inr ?_
    show (subs (oldR _) [.lst (cs.map T.int), .ref 0, .int a', .int 0]).map (T.dct K4) = some (DD cs a')
    simp only [subs, sub, subs_nr _ (nrs_int cs), Option.map_some, Option.bind_some, oldR]
    rw [if_pos (by simp [S2])]
    rfl
  | n + 2, h => exact .inl h
theorem db_gc {F : FF} {ts : List T} {cs : List Int} {n : Nat} {P : T → Prop} (h : Db cs n P (F ts)) (hn : ∀ t, P t → nr t = true) : Dr cs n P (gc F ts) := fun R ls a hl ha => by
  obtain ⟨r, ls', a', J, e, p, h1, h2⟩ := h R ls a hl ha
  refine ⟨r, ls', a', gc_old (J := J) ?_ rfl (hn r p) fun n c hc => old_S2 n c hc, p, h1, h2⟩
  rw [e, S2_app]
theorem stream_dr {cs : List Int} (hc : cs ≠ []) {b : Bk} (B : BL b) {most : Nat} (hm : most ≤ 60) : Dr cs 121 (fun t => ∃ xs, XL b xs ∧ xs.length ≤ most ∧ t = tS xs) (m__law_stream [.ref 1, bT b, .int most]) := by
  unfold m__law_stream
  refine db_gc (fun R ls a hl ha => ?_) fun t ht => by obtain ⟨xs, _, _, rfl⟩ := ht; exact nr_tS xs
  have n8 := B.n8
  have n0 : 0 < b.cs.length := List.length_pos_iff.mpr B.n0
  unfold b__law_stream
  have i2 : ∀ S, ixT S (bT b) (.int 2) = some (.tup (b.cs.map cT)) := fun S => rfl
  have dr := fun (R : Sto) {m : Int} (hm : 0 < m ∧ m < 1073741824) => draw_dq (R := R) hc hm
  generalize m__law_draw = f1 at dr ⊢
  simp_arith [i2, List.length_map, small16 (show b.cs.length ≤ 200 by omega)]
  rw [lc_map (r := fstT) fun x hx => ?aa]
  case aa =>
    obtain ⟨c, hcc, rfl⟩ := List.mem_map.mp hx
    exact ⟨_, rfl, slots1 _ _, rfl, by simp_arith [cT, fstT]⟩
  have e1 : (b.cs.map cT).map fstT = (b.cs.map (·.w)).map T.str := by
    rw [List.map_map, List.map_map]
    exact List.map_congr_left fun _ _ => rfl
  obtain ⟨_, ls1, a1, d1, ⟨r1, rfl, hr1⟩, l1, b1⟩ := dr (R ++ [.lst []]) (m := (most : Int) + 1) (by omega) ls a hl (by omega)
  have d1' : f1 [.ref 1, .int ((most : Int) + 1)] (S2 ls cs a (R ++ [.lst []])) = .ok (.int r1) (S2 ls1 cs a1 (R ++ [.lst []])) := d1
  simp_arith [e1, S2_app, S2_len, add_int, d1', Int.reduceAdd, inR_small (show (0 : Int) ≤ r1 by omega) (by omega)]
  generalize hF : forF _ _ _ _ _ = R2
  obtain ⟨τ2, S3, e, ls3, a3, xs, h4, h5, h6, h7, h8, x3, x6, h9⟩ := for_go hF (fun i τ T1 => ∃ ls' a' xs, T1 = S2 ls' cs a' (R ++ [.lst (xs.map T.str)]) ∧ ls'.length = cs.length ∧ a' ≤ a + 1 + 2 * i ∧ xs.length ≤ i ∧ (∀ x ∈ xs, x ∈ b.cs.map (·.w) ∨ x ∈ G5) ∧
      ∃ x3 x6, τ = [some (.ref 1), some (bT b), some (.int most), x3, some (.lst ((b.cs.map (·.w)).map T.str)), some (.ref (R.length + 2)), x6])
    ⟨ls1, a1, [], rfl, l1, b1, Nat.le_refl _, fun x hx => (nomatch hx), none, none, rfl⟩ (by
    intro i y τ T1 hx hI
    obtain ⟨ls', a', xs, rfl, hl', ha', hxl, hxs, x3, x6, rfl⟩ := hI
    obtain ⟨hi, rfl⟩ := rng_at hx
    refine ⟨_, rfl, ?_⟩
    have z4 : xs.length < sizeLine := small16' (by omega)
    obtain ⟨_, ls2, a2, d2, ⟨r2, rfl, hr2⟩, l2, b2⟩ := dr (R ++ [.lst (xs.map T.str)]) (m := 3) (by decide) ls' a' hl' (by omega)
    have wl : ∀ S, lenT S [.lst ((b.cs.map (·.w)).map T.str)] = some (.int b.cs.length) := fun S => by rw [len_lst, List.length_map, List.length_map]
    by_cases h0 : (0 : Int) < r2
    · obtain ⟨_, ls3, a3, d3, ⟨r3, rfl, hr3⟩, l3, b3⟩ := dr (R ++ [.lst (xs.map T.str)]) (m := (b.cs.length : Int)) (by omega) ls2 a2 l2 (by omega)
      obtain ⟨v, hv, ex⟩ := pick (b.cs.map (·.w)) (r := r3) (by rw [List.length_map]; omega)
      simp_arith [d2, h0, wl, d3, ex, lst_S2, List.length_map, z4, set_S2, map_snoc]
      refine goes_nx ⟨ls3, a3, xs ++ [v], rfl, l3, by omega, by simp; omega, fun x hx => ?_, _, _, rfl⟩
      rcases List.mem_append.mp hx with hx | hx
      · exact hxs x hx
      · rw [List.mem_singleton.mp hx]
        exact .inl hv
    · obtain ⟨_, ls3, a3, d3, ⟨r3, rfl, hr3⟩, l3, b3⟩ := dr (R ++ [.lst (xs.map T.str)]) (m := 6) (by decide) ls2 a2 l2 (by omega)
      obtain ⟨v, hv, ex⟩ := pick ["x", "y", "x", " ", "z", "\n"] (r := r3) (by simp; omega)
      have ex2 : ∀ S, ixT S (.lst [.str "x", .str "y", .str "x", .str " ", .str "z", .str "\n"]) (.int r3) = some (.str v) := ex
      simp_arith [d2, h0, d3, ex2, lst_S2, List.length_map, z4, set_S2, map_snoc, small16 (show 6 ≤ 200 by omega)]
      refine goes_nx ⟨ls3, a3, xs ++ [v], rfl, l3, by omega, by simp; omega, fun x hx => ?_, _, _, rfl⟩
      rcases List.mem_append.mp hx with hx | hx
      · exact hxs x hx
      · rw [List.mem_singleton.mp hx]
        exact .inr ((show ∀ y ∈ (["x", "y", "x", " ", "z", "\n"] : List Str), y ∈ G5 by decide +kernel) v hv))
  subst e h4 h9
  rw [rng_len] at h6 h7
  simp_arith [tup_S2]
  exact ⟨_, ls3, a3, [.lst (xs.map T.str)], rfl, ⟨xs, ⟨by omega, h8⟩, by omega, rfl⟩, h5, by omega⟩
end SF
set_option Elab.async false
set_option linter.all false
set_option maxRecDepth 100000
namespace SF
open PySem PySem.Spec L2 TL
open PyProof.Rows hiding St
theorem eq_nil {n m : Nat} {ts : List T} (h : NiceT n m (.tup ts)) (hn : n ≤ 60) (h0 : ts ≠ []) (S : Sto) : TL.eqT S (.tup ts) (.tup []) = some (.bl false) := by
  obtain ⟨d, e, g, _⟩ := h
  have e0 := e
  simp only [toD, Option.map_eq_some_iff] at e0
  obtain ⟨ds, hds, rfl⟩ := e0
  have sh : SeqAt.shaped (.tuple ds) = true := by
    unfold SeqAt.shaped
    rw [g.lay, decide_eq_true (show (PyData.tuple ds).depth ≤ 64 by have := g.dp; omega)]
    rfl
  have sh0 : SeqAt.shaped (.tuple []) = true := by decide +kernel
  have e2 : toD1 S (.tup []) = some (.tuple []) := by
    show toD (.tup []) = _
    simp only [toD, toDs, Option.map_some]
  have e1 : toD1 S (.tup ts) = some (.tuple ds) := e
  have v : PyData.eqv (.tuple ds) (.tuple []) = false := by
    cases ds with
    | nil =>
      cases ts with
      | nil => exact absurd rfl h0
      | cons t ts =>
        simp only [toDs, Option.bind_eq_some_iff] at hds
        obtain ⟨_, _, _, _, z⟩ := hds
        cases z
    | cons d ds => simp only [PyData.eqv, PyData.eqvAll]
  unfold TL.eqT eqB
  simp only [e1, e2, sh, sh0, Bool.and_self, if_true, v, Option.map_some]
theorem eq_nil0 (S : Sto) : TL.eqT S (.tup []) (.tup []) = some (.bl true) := by kernel_rfl
theorem gifts_of : ∀ {prs : List (Str × T)}, (∀ p ∈ prs, ∃ v ∈ V4, p.2 = .tup [.str p.1, .str v]) → ∃ g : List (Str × Str), g.map (·.1) = prs.map (·.1) ∧ (∀ p ∈ g, p.2 ∈ V4) ∧ prs.map (·.2) = g.map pT
  | [], _ => ⟨[], rfl, (fun v hv => nomatch hv), rfl⟩
  | p :: prs, h => by
    obtain ⟨v, hv, e⟩ := h p List.mem_cons_self
    obtain ⟨g, h1, h2, h3⟩ := gifts_of fun q hq => h q (List.mem_cons_of_mem _ hq)
    refine ⟨(p.1, v) :: g, by simp [h1], fun w hw => ?_, by simp [h3, pT, e]⟩
    rcases List.mem_cons.mp hw with rfl | hw
    · exact hv
    · exact h2 w hw
theorem gifts_nice {g : List (Str × Str)} (h1 : ∀ p ∈ g, p.1 ∈ L3) (h2 : ∀ p ∈ g, p.2 ∈ V4) (hz : g.length ≤ 6) : NiceT 2 (3 + 6 * (3 + 2 * 102 + 2)) (.tup (g.map pT)) :=
  NiceT.tup (n := 1) (m := 3 + 2 * 102) (fun t ht => by
    obtain ⟨p, hp, rfl⟩ := List.mem_map.mp ht
    obtain ⟨d, e, n, _⟩ := nice_strs (k := 2) (l := [p.1, p.2]) (fun x hx => by
      rcases List.mem_cons.mp hx with rfl | hx
      · exact rp_all _ (by simp only [List.mem_append]; exact .inl (.inl (.inl (.inl (.inl (h1 p hp))))))
      · rw [List.mem_singleton.mp hx]
        exact rp_all _ (by simp only [List.mem_append]; exact .inl (.inl (.inl (.inl (.inr (h2 p hp))))))) (by simp)
    exact ⟨d, e, n⟩) (by rw [List.length_map]; exact hz)
theorem book_dr {cs : List Int} (hc : cs ≠ []) {most : Nat} (m0 : 0 < most) (m9 : most ≤ 8) : Dr cs 100 (fun t => ∃ b, BL b ∧ t = bT b) (m__law_book [.ref 1, .int most]) := by
  unfold m__law_book
  refine db_gc (fun R ls a hl ha => ?_) fun t ht => by obtain ⟨b, _, rfl⟩ := ht; exact nr_bT b
  unfold b__law_book
  have dr := fun (R : Sto) {m : Int} (hm : 0 < m ∧ m < 1073741824) => draw_dq (R := R) hc hm
  have va := fun (R : Sto) => value_dq (R := R) hc
  generalize m__law_draw = f1 at dr ⊢
  generalize m__law_value = f2 at va ⊢
  have tst : ∀ (R : Sto) (τ : TL.Fr), τ[0]? = some (some (.ref 1)) → Dq cs R 1 (fun _ => True) (fTest (fBin TL.eqT (fCall f1 (fCons (fVar 0) (fCons (fC (.int 2)) fNil))) (fC (.int 0))) τ) := fun R τ hτ ls a hl ha => by
    obtain ⟨_, ls1, a1, d1, ⟨r1, rfl, hr1⟩, l1, b1⟩ := dr R (m := 2) (by decide) ls a hl ha
    refine ⟨decide ((r1 : Int) = 0), ls1, a1, ?_, trivial, l1, b1⟩
    simp_arith [hτ, d1]
  obtain ⟨_, ls1, a1, d1, ⟨r1, rfl, hr1⟩, l1, b1⟩ := dr R (m := 4) (by decide) ls a hl (by omega)
  obtain ⟨asp, hasp, hal, ha0⟩ : ∃ asp : List Str, (∀ S, ixT S (.lst [.tup [.str "a"], .tup [.str "a", .str "b"], .tup [.str "a", .str "b", .str "c"], .tup [.str "a", .str "b"]]) (.int r1) = some (tS asp)) ∧ asp.Sublist L3 ∧ asp ≠ [] := by
    have h4 : r1 = 0 ∨ r1 = 1 ∨ r1 = 2 ∨ r1 = 3 := by omega
    rcases h4 with rfl | rfl | rfl | rfl
    · exact ⟨["a"], fun _ => rfl, by decide +kernel, by simp⟩
    · exact ⟨["a", "b"], fun _ => rfl, by decide +kernel, by simp⟩
    · exact ⟨["a", "b", "c"], fun _ => rfl, by decide +kernel, by simp⟩
    · exact ⟨["a", "b"], fun _ => rfl, by decide +kernel, by simp⟩
  have al3 : asp.length ≤ 3 := hal.length_le
  obtain ⟨a0, as0, i0⟩ : ∃ a0, [a0].Sublist asp ∧ ∀ S, ixT S (tS asp) (.int 0) = some (.str a0) := by
    cases asp with
    | nil => exact absurd rfl ha0
    | cons a0 ar => exact ⟨a0, (List.nil_sublist ar).cons₂ a0, fun S => ix_0 _ _ S⟩
  have q1 := lc_sub (cs := cs) (R := R) (i := 8) (τ := [some (.ref 1), some (.int most), some (tS asp), none, none, none, none, none, none]) (al := asp)
    (Ft := fTest (fBin TL.eqT (fCall f1 (fCons (fVar 0) (fCons (fC (.int 2)) fNil))) (fC (.int 0)))) (Fe := fVar 8) (Q := fun x y => y = .str x)
    (fun x hx => tst R _ rfl) (fun x hx ls a hl ha => ⟨.str x, ls, a, rfl, rfl, hl, by omega⟩)
  obtain ⟨_, ls2, a2, e2, ⟨prs, hp1, hp2, rfl⟩, l2, b2⟩ := q1 ls1 a1 l1 (by omega)
  have sh1 : prs.map (·.2) = (prs.map (·.1)).map T.str := by
    rw [List.map_map]
    exact List.map_congr_left fun p hp => hp2 p hp
  rw [sh1] at e2
  generalize prs.map (·.1) = sh at hp1 e2
  obtain ⟨_, ls3, a3, d3, ⟨r3, rfl, hr3⟩, l3, b3⟩ := dr (R ++ [.lst []]) (m := (most : Int)) (by omega) ls2 a2 l2 (by omega)
  simp_arith [d1, hasp, small16 (show 4 ≤ 200 by omega), small16 (show 2 ≤ 200 by omega), small16 (show 3 ≤ 200 by omega), small16 (show 1 ≤ 200 by omega), List.length_map, small16 (show asp.length ≤ 200 by omega), e2, S2_app, S2_len, d3, add_int, inR_small (show (0 : Int) ≤ 1 + r3 by omega) (by omega)]
  have er : (1 + (r3 : Int)) = ((1 + r3 : Nat) : Int) := by omega
  rw [er]
  generalize hF : forF _ _ _ _ _ = R2
  obtain ⟨τ2, S3, e, ls4, a4, bs, h4, h5, h6, h7, h8, h9, x5, x6, x7, x8, h10⟩ := for_go hF (fun i τ T1 => ∃ ls' a' bs, T1 = S2 ls' cs a' (R ++ [.lst (bs.map cT)]) ∧ ls'.length = cs.length ∧ a' ≤ a + 8 + 8 * i ∧ bs.length = i ∧ bs.map (·.w) = W8.take i ∧ (∀ c ∈ bs, CL asp c) ∧
      ∃ x5 x6 x7 x8, τ = [some (.ref 1), some (.int most), some (tS asp), some (tS sh), some (.ref (R.length + 2)), x5, x6, x7, x8])
    ⟨ls3, a3, [], rfl, l3, by omega, rfl, rfl, fun x hx => (nomatch hx), none, none, none, none, rfl⟩ (by
    intro i y τ T1 hx hI
    obtain ⟨ls', a', bs, rfl, hl', ha', hbl, hbw, hbc, x5, x6, x7, x8, rfl⟩ := hI
    obtain ⟨hi, rfl⟩ := rng_at hx
    refine ⟨_, rfl, ?_⟩
    have q2 := lc_sub (cs := cs) (R := R ++ [.lst (bs.map cT)]) (i := 8) (τ := [some (.ref 1), some (.int most), some (tS asp), some (tS sh), some (.ref (R.length + 2)), some (.int i), x6, x7, none]) (al := asp)
      (Ft := fTest (fBin TL.eqT (fCall f1 (fCons (fVar 0) (fCons (fC (.int 2)) fNil))) (fC (.int 0)))) (Fe := fTup (fCons (fVar 8) (fCons (fCall f2 (fCons (fVar 0) fNil)) fNil))) (Q := fun x y => ∃ v ∈ V4, y = .tup [.str x, .str v])
      (fun x hx => tst _ _ rfl) (fun x hx ls a hl ha => by
        obtain ⟨_, ls1, a1, d1, ⟨v, hv, rfl⟩, l1, b1⟩ := va (R ++ [.lst (bs.map cT)]) ls a hl ha
        refine ⟨.tup [.str x, .str v], ls1, a1, ?_, ⟨v, hv, rfl⟩, l1, b1⟩
        simp_arith [d1, small16 (show 2 ≤ 200 by omega)])
    obtain ⟨_, ls5, a5, e5, ⟨prs, hp1, hp2, rfl⟩, l5, b5⟩ := q2 ls' a' hl' (by omega)
    obtain ⟨g, g1, g2, g3⟩ := gifts_of hp2
    rw [g3] at e5
    rw [← g1] at hp1
    have gl3 : g.length ≤ 3 := by
      have := hp1.length_le
      rw [List.length_map] at this
      omega
    -- what the code gives
    obtain ⟨ls6, a6, g', gs, g0, gv, eg, l6, b6⟩ : ∃ (ls6 : List Int) (a6 : Nat) (g' : List (Str × Str)), (g'.map (·.1)).Sublist asp ∧ g' ≠ [] ∧ (∀ p ∈ g', p.2 ∈ V4) ∧
        (bSeq (bSet 6 (fBlt tupT (fCons (fPure (fLc (fiA (fVar 2)) (sName 8) (fTest (fBin TL.eqT (fCall f1 (fCons (fVar 0) (fCons (fC (.int 2)) fNil))) (fC (.int 0)))) (fTup (fCons (fVar 8) (fCons (fCall f2 (fCons (fVar 0) fNil)) fNil))) [8])) fNil)))
          (bIf (fTest (fBin TL.eqT (fVar 6) (fTup fNil))) (bSet 6 (fTup (fCons (fTup (fCons (fBin ixT (fVar 2) (fC (.int 0))) (fCons (fCall f2 (fCons (fVar 0) fNil)) fNil))) fNil))) bNext))
          [some (.ref 1), some (.int most), some (tS asp), some (tS sh), some (.ref (R.length + 2)), some (.int i), x6, x7, x8] (S2 ls' cs a' (R ++ [.lst (bs.map cT)])) =
        .nx [some (.ref 1), some (.int most), some (tS asp), some (tS sh), some (.ref (R.length + 2)), some (.int i), some (.tup (g'.map pT)), x7, x8] (S2 ls6 cs a6 (R ++ [.lst (bs.map cT)])) ∧ ls6.length = cs.length ∧ a6 ≤ a' + 7 := by
      by_cases hg : g = []
      · subst hg
        obtain ⟨_, ls6, a6, d6, ⟨v, hv, rfl⟩, l6, b6⟩ := va (R ++ [.lst (bs.map cT)]) ls5 a5 l5 (by omega)
        refine ⟨ls6, a6, [(a0, v)], as0, by simp, fun p hp => ?_, ?_, l6, by omega⟩
        · rw [List.mem_singleton.mp hp]; exact hv
        · simp_arith [List.length_map, small16 (show asp.length ≤ 200 by omega), e5, eq_nil0, i0, d6, small16 (show 2 ≤ 200 by omega), small16 (show 1 ≤ 200 by omega), pT]
      · have nz := eq_nil (gifts_nice (fun p hp => hal.subset (hp1.subset (List.mem_map_of_mem hp))) g2 (by omega)) (by decide) (fun z => hg (List.map_eq_nil_iff.mp z))
        refine ⟨ls5, a5, g, hp1, hg, g2, ?_, l5, by omega⟩
        simp_arith [List.length_map, small16 (show asp.length ≤ 200 by omega), e5, nz]
    obtain ⟨_, ls7, a7, d7, ⟨r7, rfl, hr7⟩, l7, b7⟩ := dr (R ++ [.lst (bs.map cT)]) (m := 4) (by decide) ls6 a6 l6 (by omega)
    obtain ⟨kk, hk, ex⟩ := pick ["j", "k", "k", "l"] (r := r7) (by simp; omega)
    have ex2 : ∀ S, ixT S (.lst [.str "j", .str "k", .str "k", .str "l"]) (.int r7) = some (.str kk) := ex
    have hk3 : kk ∈ K3 := (show ∀ y ∈ (["j", "k", "k", "l"] : List Str), y ∈ K3 by decide +kernel) kk hk
    have i8 : i < W8.length := by
      have : W8.length = 8 := rfl
      omega
    have ew : ∀ S, ixT S (.lst [.str "1", .str "2", .str "22", .str "3;4", .str "0", .str "38;5;1", .str "9", .str "44"]) (.int i) = some (.str (W8[i])) := fun S => by
      have := ix_lst (ts := W8.map T.str) (r := i) (by rw [List.length_map]; exact i8) S
      rw [List.getElem_map] at this
      exact this
    have z4 : bs.length < sizeLine := small16' (by omega)
    have sn : bs.map cT ++ [.tup [.str (W8[i]), .str kk, .tup (g'.map pT)]] = (bs ++ [(⟨W8[i], kk, g'⟩ : Code)]).map cT := by
      rw [List.map_append]
      rfl
    have split : ∀ (B1 B2 C : BS) τ S, bSeq B1 (bSeq B2 C) τ S = bSeq (bSeq B1 B2) C τ S := fun B1 B2 C τ S => by
      unfold bSeq
      cases B1 τ S <;> rfl
    rw [split]
    show Goes (match bSeq _ _ [some (.ref 1), some (.int most), some (tS asp), some (tS sh), some (.ref (R.length + 2)), some (.int i), x6, x7, x8] (S2 ls' cs a' (R ++ [.lst (bs.map cT)])) with | .nx τ1 S1 => _ | r => r) _
    rw [eg]
    simp_arith [ew, d7, ex2, lst_S2, List.length_map, z4, set_S2, sn, small16 (show 8 ≤ 200 by omega), small16 (show 4 ≤ 200 by omega), small16 (show 3 ≤ 200 by omega)]
    refine goes_nx ⟨ls7, a7, bs ++ [⟨W8[i], kk, g'⟩], rfl, l7, by omega, by simp [hbl], ?_, fun c hc => ?_, _, _, _, _, rfl⟩
    · rw [List.map_append, hbw, List.take_add_one, List.getElem?_eq_getElem i8]
      rfl
    · rcases List.mem_append.mp hc with hc | hc
      · exact hbc c hc
      · rw [List.mem_singleton.mp hc]
        exact ⟨hk3, g0, gs, gv⟩)
  subst e h4 h10
  rw [rng_len] at h6 h7 h8
  simp_arith [tup_S2, small16 (show 3 ≤ 200 by omega)]
  have B : BL ⟨asp, sh, bs⟩ := by
    refine ⟨hal, ha0, hp1, by rw [h8, h7], by show bs.length ≤ 8; omega, fun z => ?_, h9⟩
    have z2 : bs = [] := z
    rw [z2] at h7
    simp at h7
    omega
  exact ⟨bT ⟨asp, sh, bs⟩, ls4, a4, [.lst (bs.map cT)], rfl, ⟨⟨asp, sh, bs⟩, B, rfl⟩, h5, by omega⟩
end SF
set_option Elab.async false
set_option linter.all false
set_option maxRecDepth 100000
namespace SF
open PySem PySem.Spec L2 TL
open PyProof.Rows hiding St
/-! ### the law's start -/
theorem toDs_ints : ∀ ns : List Int, toDs (ns.map T.int) = some (ns.map PyData.int)
  | [] => rfl
  | n :: ns => by simp only [List.map_cons, toDs, toD, toDs_ints ns, Option.bind_some]
theorem shaped_ints (ns : List Int) : SeqAt.shaped (.list (ns.map PyData.int)) = true := by
  have h1 : ∀ ns : List Int, PyData.canLayAll0 (ns.map PyData.int) = true := fun ns => by
    induction ns with
    | nil => simp only [List.map_nil, PyData.canLayAll0]
    | cons n ns ih => simp only [List.map_cons, PyData.canLayAll0, PyData.canLay0, ih, Bool.and_self]
  have h2 : ∀ ns : List Int, PyData.depthAll (ns.map PyData.int) = 0 := fun ns => by
    induction ns with
    | nil => simp only [List.map_nil, PyData.depthAll]
    | cons n ns ih => simp only [List.map_cons, PyData.depthAll, PyData.depth, ih, Nat.max_self]
  unfold SeqAt.shaped
  simp only [PyData.canLay0, h1, PyData.depth, h2]
  rfl
theorem ne_sls {ns : List Int} (h : ns ≠ []) (S : Sto) : TL.neT S (.sls (ns.map T.int)) (.lst []) = some (.bl true) := by
  have e1 : toD1 S (.sls (ns.map T.int)) = some (.list (ns.map PyData.int)) := by
    show toD (.sls (ns.map T.int)) = _
    simp only [toD, toDs_ints, Option.map_some]
  have e2 : toD1 S (.lst []) = some (.list []) := by
    show toD (.lst []) = _
    simp only [toD, toDs, Option.map_some]
  have s2 : SeqAt.shaped (.list []) = true := by decide +kernel
  have v : PyData.eqv (.list (ns.map PyData.int)) (.list []) = false := by
    cases ns with
    | nil => exact absurd rfl h
    | cons n ns => simp only [List.map_cons, PyData.eqv, PyData.eqvAll]
  unfold TL.neT eqB
  simp only [e1, e2, shaped_ints, s2, Bool.and_self, if_true, v, Option.map_some, Bool.not_false]
theorem ne_sls0 (S : Sto) : TL.neT S (.sls []) (.lst []) = some (.bl false) := by kernel_rfl
theorem list_sls (ts : List T) (S : Sto) : listT S [.sls ts] = some (.lst ts) := rfl
theorem pow_18 (S : Sto) : powT S (.int 10) (.int 18) = some (.int (10 ^ 18)) := by kernel_rfl
theorem ge_int (i j : Int) (S : Sto) : geT S (.int i) (.int j) = some (.bl (decide (j ≤ i))) := rfl
theorem merge_K4 (c l a r : T) : mergeT ([], []) [(.inr "cells", c), (.inr "lefts", l), (.inr "at", a), (.inr "room", r)] = (K4, [c, l, a, r]) := by kernel_rfl
def bigT : T → T
  | .int c => .int (if (10 : Int) ^ 18 ≤ c then c else 0)
  | t => t
theorem begin_ok {ns : List Int} (hz : ns.length ≤ 63) : ∃ ls cs, m__law_begin [.sls (ns.map T.int)] [] = .ok (.ref 1) (S2 ls cs 0 []) ∧ ls.length = cs.length ∧ cs ≠ [] := by
  have rest : ∀ cs : List Int, cs ≠ [] → cs.length ≤ 63 → ∀ x2,
      bRet (fCell (fDisp (((fC (.str "cells")), (fVar 1)) :: (((fC (.str "lefts")), (fCell (fLc (fiA (fVar 1)) (sName 2) fYes (fIf (fTest (fBin geT (fVar 2) (fBin powT (fC (.int 10)) (fC (.int 18))))) (fVar 2) (fC (.int 0))) [2]))) :: (((fC (.str "at")), (fC (.int 0))) :: (((fC (.str "room")), (fC (.int 0))) :: []))))))
        [some (.sls (ns.map T.int)), some (.lst (cs.map T.int)), x2] [] = .rt (.ref 1) (S2 (cs.map fun c => if (10 : Int) ^ 18 ≤ c then c else 0) cs 0 []) := fun cs hc hl x2 => by
    simp_arith [fDisp, prF, List.length_map, small16 (show cs.length ≤ 200 by omega)]
    rw [lc_map (r := bigT) fun x hx => ?aa]
    case aa =>
      obtain ⟨c, hcc, rfl⟩ := List.mem_map.mp hx
      refine ⟨_, rfl, slots1 _ _, rfl, ?_⟩
      by_cases h : (10 : Int) ^ 18 ≤ c
      · simp_arith [pow_18, ge_int, h, bigT]
      · simp_arith [pow_18, ge_int, h, bigT]
    have e : (cs.map T.int).map bigT = (cs.map fun c => if (10 : Int) ^ 18 ≤ c then c else 0).map T.int := by
      rw [List.map_map, List.map_map]
      exact List.map_congr_left fun _ _ => rfl
    simp_arith [e, keyed, keyT, merge_K4]
    rfl
  by_cases h : ns = []
  · subst h
    exact ⟨[0], [0], by kernel_rfl, rfl, by simp⟩
  · refine ⟨ns.map fun c => if (10 : Int) ^ 18 ≤ c then c else 0, ns, ?_, by rw [List.length_map], h⟩
    · have r0 := rest ns h hz none
      unfold m__law_begin b__law_begin
      generalize bRet _ = B at r0 ⊢
      simp_arith [ne_sls h, list_sls, r0]
end SF
set_option Elab.async false
set_option linter.all false
set_option maxRecDepth 100000
namespace SF
open PySem PySem.Spec L2 TL
open PyProof.Rows hiding St
/-! ### kinds, sets of kinds -/
theorem sub_of_sorted : ∀ {L t : List Str}, L.Pairwise (fun a b => leS a b = true) → L.Nodup → t.Pairwise (fun a b => leS a b = true) → t.Nodup → (∀ x ∈ t, x ∈ L) → t.Sublist L
  | [], t, _, _, _, _, h => by
    cases t with
    | nil => exact .slnil
    | cons x t => exact nomatch h x List.mem_cons_self
  | y :: L, [], _, _, _, _, _ => List.nil_sublist _
  | y :: L, x :: t, hL, nL, ht, nt, h => by
    obtain ⟨a1, a2⟩ := List.pairwise_cons.mp hL
    obtain ⟨b1, b2⟩ := List.pairwise_cons.mp ht
    obtain ⟨c1, c2⟩ := List.nodup_cons.mp nL
    obtain ⟨d1, d2⟩ := List.nodup_cons.mp nt
    by_cases e : x = y
    · subst e
      exact (sub_of_sorted a2 c2 b2 d2 fun z hz => (List.mem_cons.mp (h z (List.mem_cons_of_mem _ hz))).resolve_left (by rintro rfl; exact d1 hz)).cons₂ x
    · have hx : x ∈ L := (List.mem_cons.mp (h x List.mem_cons_self)).resolve_left e
      refine (sub_of_sorted a2 c2 ht nt fun z hz => (List.mem_cons.mp (h z hz)).resolve_left ?_).cons y
      rintro rfl
      rcases List.mem_cons.mp hz with q | q
      · exact e q.symm
      · exact e (leS_anti (b1 z q) (a1 x hx))
theorem keyStrs_S : ∀ l : List Str, keyStrs (kS l) = some l
  | [] => rfl
  | x :: l => by
    show (keyStrs (kS l)).map (x :: ·) = _
    rw [keyStrs_S l]
    rfl
theorem merge_keys : ∀ {prs : List (Str × T)} {ks : List Str} {ts : List T}, ks.Nodup → ∃ (ks' : List Str) (ts' : List T), mergeT (kS ks, ts) (prs.map fun p => ((Sum.inr p.1 : Key), p.2)) = (kS ks', ts') ∧ ks'.Nodup ∧ ∀ x, x ∈ ks' ↔ x ∈ ks ∨ x ∈ prs.map (·.1)
  | [], ks, ts, h => ⟨ks, ts, rfl, h, fun x => by simp⟩
  | p :: prs, ks, ts, h => by
    show ∃ ks' ts', mergeT (putK' (kS ks) ts (.inr p.1) p.2) (prs.map fun p => ((Sum.inr p.1 : Key), p.2)) = _ ∧ _
    by_cases m : p.1 ∈ ks
    · have e : putK' (kS ks) ts (.inr p.1) p.2 = (kS ks, List.zipWith (fun k' u => if k' = Sum.inr p.1 then p.2 else u) (kS ks) ts) := by
        unfold putK'
        rw [if_pos (any_S m)]
      rw [e]
      obtain ⟨ks', ts', e2, h2, h3⟩ := merge_keys (prs := prs) (ts := List.zipWith (fun k' u => if k' = Sum.inr p.1 then p.2 else u) (kS ks) ts) h
      refine ⟨ks', ts', e2, h2, fun x => (h3 x).trans ?_⟩
      rw [List.map_cons, List.mem_cons]
      exact ⟨fun q => q.imp id .inr, fun q => q.elim .inl fun q => q.elim (fun q => .inl (q ▸ m)) .inr⟩
    · have e : putK' (kS ks) ts (.inr p.1) p.2 = (kS (ks ++ [p.1]), ts ++ [p.2]) := by
        unfold putK'
        rw [if_neg]
        · simp [kS]
        · intro z
          obtain ⟨y, hy, q⟩ := List.any_eq_true.mp z
          obtain ⟨w, hw, rfl⟩ := List.mem_map.mp hy
          have := Sum.inr.inj (of_decide_eq_true q)
          exact m (this ▸ hw)
      rw [e]
      obtain ⟨ks', ts', e2, h2, h3⟩ := merge_keys (prs := prs) (ks := ks ++ [p.1]) (ts := ts ++ [p.2]) (by
        rw [List.nodup_append]
        exact ⟨h, by simp, fun a ha b hb => by
          rw [List.mem_singleton.mp hb]
          rintro rfl
          exact m ha⟩)
      refine ⟨ks', ts', e2, h2, fun x => (h3 x).trans ?_⟩
      rw [List.mem_append, List.mem_singleton, List.map_cons, List.mem_cons, or_assoc]
/-- the kinds of a book's codes, ascending -/
def kindsS (b : Bk) : List Str := K3.filter fun k => b.cs.any fun c => decide (c.k = k)
theorem mem_kinds {b : Bk} (B : BL b) (x : Str) : x ∈ kindsS b ↔ ∃ c ∈ b.cs, c.k = x := by
  unfold kindsS
  rw [List.mem_filter, List.any_eq_true]
  constructor
  · rintro ⟨_, c, hc, e⟩
    exact ⟨c, hc, of_decide_eq_true e⟩
  · rintro ⟨c, hc, rfl⟩
    exact ⟨(B.cl c hc).k, c, hc, by simp⟩
theorem kindsS_sub (b : Bk) : (kindsS b).Sublist K3 := List.filter_sublist
theorem sorted_eq {L t : List Str} (hL : L.Pairwise (fun a b => leS a b = true)) (nL : L.Nodup) (ht : t.Pairwise (fun a b => leS a b = true)) (nt : t.Nodup) (h : ∀ x, x ∈ t ↔ x ∈ L) : t = L :=
  (sub_of_sorted hL nL ht nt fun x hx => (h x).mp hx).eq_of_length_le (sub_of_sorted ht nt hL nL fun x hx => (h x).mpr hx).length_le
theorem kinds_ok {b : Bk} (B : BL b) : Pu m__law_kinds [bT b] (.lst ((kindsS b).map T.str)) := by
  intro S
  have n8 := B.n8
  have i2 : ∀ S, ixT S (bT b) (.int 2) = some (.tup (b.cs.map cT)) := fun S => rfl
  obtain ⟨ks, ts, e1, e2, e3⟩ := merge_keys (prs := b.cs.map fun c => (c.k, T.int 0)) (ks := []) (ts := []) List.nodup_nil
  have hk : ∀ x ∈ ks, x ∈ K3 := fun x hx => by
    rcases (e3 x).mp hx with q | q
    · exact nomatch q
    · rw [List.map_map] at q
      obtain ⟨c, hc, rfl⟩ := List.mem_map.mp q
      exact (B.cl c hc).k
  have hs : sortS ks = kindsS b := by
    refine sorted_eq ((show K3.Pairwise (fun a b => leS a b = true) by decide +kernel).sublist (kindsS_sub b)) ((show K3.Nodup by decide +kernel).sublist (kindsS_sub b)) (sortS_pw ks) ((sortS_perm ks).nodup_iff.mpr e2) fun x => ?_
    rw [(sortS_perm ks).mem_iff, e3, mem_kinds B, List.map_map]
    simp
  unfold m__law_kinds b__law_kinds
  simp_arith [i2, List.length_map, small16 (show b.cs.length ≤ 200 by omega)]
  rw [lc_map (r := fun x => match x with | .tup [w, k, g] => .tup [k, .int 0] | _ => .non) fun x hx => ?aa]
  case aa =>
    obtain ⟨c, hc, rfl⟩ := List.mem_map.mp hx
    exact ⟨_, rfl, rfl, rfl, by simp_arith [cT, small16 (show 2 ≤ 200 by omega)]⟩
  have e : (b.cs.map cT).map (fun x => match x with | .tup [w, k, g] => .tup [k, .int 0] | _ => .non : T → T) = b.cs.map fun c => T.tup [.str c.k, .int 0] := by
    rw [List.map_map]
    exact List.map_congr_left fun _ _ => rfl
  have p : ∀ cs : List Code, pairsT (cs.map fun c => T.tup [.str c.k, .int 0]) = some ((cs.map fun c => (c.k, T.int 0)).map fun p => ((Sum.inr p.1 : Key), p.2)) := fun cs => by
    induction cs with
    | nil => rfl
    | cons c cs ih => simp only [List.map_cons, pairsT, keyT, ih, Option.bind_some, Option.map_some]
  have d : ∀ S, dictT S [.lst (b.cs.map fun c => T.tup [.str c.k, .int 0])] = some (.dct (kS ks) ts) := fun S => by
    show ((pairsT (b.cs.map fun c => T.tup [.str c.k, .int 0])).map fun prs => T.dct (mergeT ([], []) prs).1 (mergeT ([], []) prs).2) = _
    rw [p, Option.map_some]
    have e1' : mergeT ([], []) ((b.cs.map fun c => (c.k, T.int 0)).map fun p => ((Sum.inr p.1 : Key), p.2)) = (kS ks, ts) := e1
    rw [e1']
  have lk : ks.length < 64 := by
    have := nodup_len e2 hk
    have h3 : K3.length = 3 := rfl
    omega
  have st : ∀ S, sortT S [.dct (kS ks) ts] = some (.lst ((sortS ks).map T.str)) := fun S => by
    show ((keyStrs (kS ks)).bind fun xs => if xs.length < 64 then some (T.lst ((sortS xs).map T.str)) else none) = _
    rw [keyStrs_S, Option.bind_some, if_pos lk]
  simp_arith [e, d, st, hs]
end SF
set_option Elab.async false
set_option linter.all false
set_option maxRecDepth 100000
namespace SF
open PySem PySem.Spec L2 TL
open PyProof.Rows hiding St
/-- all sets of words, those of fewer words first -/
structure Sets (ks : List Str) (ls : List (List Str)) : Prop where
  len : ls.length = 2 ^ ks.length
  mem : ∀ l, l ∈ ls ↔ l.Sublist ks
  asc : ls.Pairwise fun a b => a.length ≤ b.length
theorem sub_snoc {ks : List Str} {w : Str} {l : List Str} : l.Sublist (ks ++ [w]) ↔ l.Sublist ks ∨ ∃ m, m.Sublist ks ∧ l = m ++ [w] := by
  rw [List.sublist_append_iff]
  constructor
  · rintro ⟨l1, l2, rfl, h1, h2⟩
    rcases List.sublist_cons_iff.mp h2 with q | ⟨r, rfl, q⟩
    · rw [List.sublist_nil.mp q, List.append_nil]
      exact .inl h1
    · rw [List.sublist_nil.mp q]
      exact .inr ⟨l1, h1, rfl⟩
  · rintro (h | ⟨m, h, rfl⟩)
    · exact ⟨l, [], by simp, h, List.nil_sublist _⟩
    · exact ⟨m, [w], rfl, h, List.Sublist.refl _⟩
theorem sortLen_asc (fs : List (List Str)) : ∃ ls : List (List Str), sortLenL (fs.map tS) = ls.map tS ∧ ls.Perm fs ∧ ls.Pairwise fun a b => a.length ≤ b.length := by
  have le : PySem.W.dataLe false kLen = fun a b => decide ((tLen a : Int) ≤ tLen b) := PySem.W.dataLe_int fun t => (tLen t : Int)
  have hm : (fs.map tS).mergeSort (PySem.W.dataLe false kLen) = (fs.mergeSort fun a b => decide ((a.length : Int) ≤ b.length)).map tS := by
    rw [le, List.map_mergeSort]
    intro a _ b _
    simp [tLen]
  refine ⟨fs.mergeSort fun a b => decide ((a.length : Int) ≤ b.length), hm, List.mergeSort_perm _ _, ?_⟩
  have p := List.pairwise_mergeSort (le := fun (a b : List Str) => decide ((a.length : Int) ≤ b.length)) (fun a b c h1 h2 => by
    simp only [decide_eq_true_eq] at *
    omega) (fun a b => by
    simp only [Bool.or_eq_true, decide_eq_true_eq]
    omega) fs
  refine p.imp fun h => ?_
  simp only [decide_eq_true_eq] at h
  omega
theorem sets_ok {ks : List Str} (k6 : ks.length ≤ 6) : ∃ ls, Sets ks ls ∧ Pu m__law_sets [.lst (ks.map T.str)] (.lst (ls.map tS)) := by
  let sg : List Str → List (List Str) := fun ks => ks.foldl (fun fs w => fs ++ fs.map (· ++ [w])) [[]]
  have sg1 : ∀ i w, ks[i]? = some w → sg (ks.take (i + 1)) = sg (ks.take i) ++ (sg (ks.take i)).map (· ++ [w]) := fun i w h => by
    show List.foldl _ _ _ = _
    rw [List.take_add_one, h, List.foldl_append]
    rfl
  have sgl : ∀ i, i ≤ ks.length → (sg (ks.take i)).length = 2 ^ i ∧ ∀ l, l ∈ sg (ks.take i) ↔ l.Sublist (ks.take i) := fun i => by
    induction i with
    | zero =>
      intro _
      rw [List.take_zero]
      exact ⟨rfl, fun l => by
        show l ∈ [[]] ↔ _
        rw [List.mem_singleton, List.sublist_nil]⟩
    | succ i ih =>
      intro hi
      obtain ⟨h1, h2⟩ := ih (by omega)
      have hw : ks[i]? = some ks[i] := List.getElem?_eq_getElem hi
      rw [sg1 i _ hw]
      refine ⟨by rw [List.length_append, List.length_map, h1, Nat.pow_succ]; omega, fun l => ?_⟩
      have et : ks.take (i + 1) = ks.take i ++ [ks[i]] := by rw [List.take_add_one, hw]; rfl
      rw [et, sub_snoc, List.mem_append, h2, List.mem_map]
      exact or_congr Iff.rfl ⟨fun ⟨m, hm, e⟩ => ⟨m, (h2 m).mp hm, e.symm⟩, fun ⟨m, hm, e⟩ => ⟨m, (h2 m).mpr hm, e.symm⟩⟩
  obtain ⟨ls, e1, e2, e3⟩ := sortLen_asc (sg ks)
  obtain ⟨g1, g2⟩ := sgl ks.length (Nat.le_refl _)
  rw [List.take_length] at g1 g2
  refine ⟨ls, ⟨e2.length_eq.trans g1, fun l => e2.mem_iff.trans (g2 l), e3⟩, fun S => ?_⟩
  unfold m__law_sets b__law_sets
  simp_arith [small16 (show 1 ≤ 200 by omega)]
  generalize hF : forF _ _ _ _ _ = R2
  obtain ⟨τ2, S3, e, h1, x2, x3, h4⟩ := for_go hF (fun i τ T1 => T1 = S ∧ ∃ x2 x3, τ = [some (.lst (ks.map T.str)), some (.lst ((sg (ks.take i)).map tS)), x2, x3])
    ⟨rfl, none, none, rfl⟩ (by
    intro i y τ T1 hx hI
    obtain ⟨rfl, x2, x3, rfl⟩ := hI
    rw [List.getElem?_map] at hx
    cases ex : ks[i]? with
    | none => rw [ex] at hx; cases hx
    | some w =>
    rw [ex] at hx
    cases hx
    have hi := (List.getElem?_eq_some_iff.mp ex).1
    obtain ⟨q1, q2⟩ := sgl i (by omega)
    have hp : 2 ^ i ≤ 2 ^ 5 := Nat.pow_le_pow_right (by decide) (show i ≤ 5 by omega)
    rw [sg1 i w ex]
    generalize sg (ks.take i) = fs at q1 q2 ⊢
    refine ⟨_, rfl, ?_⟩
    simp_arith [List.length_map, small16 (show fs.length ≤ 200 by omega)]
    rw [lc_map (r := fun t => match t with | .tup ts => .tup (ts ++ [.str w]) | _ => .non) fun t ht => ?aa]
    case aa =>
      obtain ⟨l, hl, rfl⟩ := List.mem_map.mp ht
      have hz : (l.map T.str).length + 1 ≤ sizeLine := small16 (by
        have := ((q2 l).mp hl).length_le
        rw [List.length_take] at this
        rw [List.length_map]
        omega)
      exact ⟨_, rfl, slots1 _ _, rfl, by simp_arith [add_tup (show (l.map T.str).length + [T.str w].length ≤ sizeLine from hz), small16 (show 1 ≤ 200 by omega)]⟩
    have em : (fs.map tS).map (fun t => match t with | .tup ts => .tup (ts ++ [.str w]) | _ => .non : T → T) = (fs.map (· ++ [w])).map tS := by
      rw [List.map_map, List.map_map]
      exact List.map_congr_left fun l _ => by
        show T.tup (l.map T.str ++ [.str w]) = T.tup ((l ++ [w]).map T.str)
        rw [map_snoc]
    have hz2 : (fs.map tS).length + ((fs.map (· ++ [w])).map tS).length ≤ sizeLine := small16 (by simp; omega)
    simp_arith [em, add_lst hz2, ← List.map_append]
    exact goes_nx ⟨rfl, _, _, rfl⟩)
  subst e h1 h4
  rw [List.length_map, List.take_length]
  have ha : ((sg ks).map tS).all isTupT = true := by
    rw [List.all_map]
    exact List.all_eq_true.mpr fun _ _ => rfl
  have st : ∀ S, sortLenT S [.lst ((sg ks).map tS)] = some (.lst (ls.map tS)) := fun S => by
    show (if ((sg ks).map tS).all isTupT then some (T.lst (sortLenL ((sg ks).map tS))) else none) = _
    rw [if_pos ha, e1]
  simp_arith [st]
/-- an entry of one value -/
theorem law_entry_ok {b : Bk} (W : GW b) (v : Str) : Pu m__law_entry [bT b, .str v] (dS b.asp (b.asp.map fun _ => v)) := by
  intro S
  unfold m__law_entry b__law_entry
  have z2 : b.asp.length ≤ sizeLine := small16 (by have := W.asz; omega)
  have i0 : ∀ S, ixT S (bT b) (.int 0) = some (tS b.asp) := fun S => rfl
  simp_arith [i0, List.length_map, z2]
  rw [lc_map (r := fun x => .tup [x, .str v]) fun x hx => ?a]
  case a =>
    obtain ⟨a, ha, rfl⟩ := List.mem_map.mp hx
    exact ⟨_, rfl, slots1 _ _, rfl, by simp_arith [small16 (show 2 ≤ 200 by omega)]⟩
  have e1 : (b.asp.map T.str).map (fun x => T.tup [x, .str v]) = (b.asp.map fun a => (a, v)).map pT := by
    rw [List.map_map, List.map_map]
    exact List.map_congr_left fun _ _ => rfl
  have d : ∀ S, dictT S [.lst ((b.asp.map fun a => (a, v)).map pT)] = some (dS b.asp (b.asp.map fun _ => v)) := fun S => by
    show ((pairsT ((b.asp.map fun a => (a, v)).map pT)).map fun prs => T.dct (mergeT ([], []) prs).1 (mergeT ([], []) prs).2) = _
    have e : (b.asp.map fun a => (a, v)).map (fun p => ((Sum.inr p.1 : Key), T.str p.2)) = b.asp.map fun a => ((Sum.inr a : Key), T.str v) := by
      rw [List.map_map]
      rfl
    rw [pairs_g, Option.map_some, e, merge_nil (by rw [List.map_map]; exact nodup_inr W.and), List.map_map, List.map_map]
    show some (T.dct _ _) = some (T.dct _ _)
    rw [List.map_map]
    rfl
  simp_arith [e1, d]
end SF
set_option Elab.async false
set_option linter.all false
set_option maxRecDepth 100000
namespace SF
open PySem PySem.Spec L2 TL
open PyProof.Rows hiding St
/-! ### equality of plain data -/
mutual
def pl : Nat → T → Bool
  | _, .non => true
  | _, .int _ => true
  | _, .str x => PyData.strOk x
  | n, .tup ts => decide (0 < n) && pls (n - 1) ts
  | n, .lst ts => decide (0 < n) && pls (n - 1) ts
  | _, _ => false
def pls : Nat → List T → Bool
  | _, [] => true
  | n, t :: ts => pl n t && pls n ts
end
mutual
theorem pl_toD : ∀ {n : Nat} {t : T}, pl n t = true → ∃ d, toD t = some d ∧ d.canLay0 = true ∧ d.depth ≤ n
  | n, .non, _ => ⟨.none, rfl, by simp only [PyData.canLay0], by simp only [PyData.depth]; exact Nat.zero_le _⟩
  | n, .int i, _ => ⟨.int i, rfl, by simp only [PyData.canLay0], by simp only [PyData.depth]; exact Nat.zero_le _⟩
  | n, .str x, h => ⟨.str x, rfl, by simp only [PyData.canLay0]; exact h, by simp only [PyData.depth]; exact Nat.zero_le _⟩
  | n, .tup ts, h => by
    simp only [pl, Bool.and_eq_true, decide_eq_true_eq] at h
    obtain ⟨ds, e, c, dp⟩ := pls_toDs h.2
    exact ⟨.tuple ds, by simp only [toD, e, Option.map_some], by simp only [PyData.canLay0]; exact c, by simp only [PyData.depth]; omega⟩
  | n, .lst ts, h => by
    simp only [pl, Bool.and_eq_true, decide_eq_true_eq] at h
    obtain ⟨ds, e, c, dp⟩ := pls_toDs h.2
    exact ⟨.list ds, by simp only [toD, e, Option.map_some], by simp only [PyData.canLay0]; exact c, by simp only [PyData.depth]; omega⟩
  | _, .bl _, h => by simp [pl] at h
  | _, .sls _, h => by simp [pl] at h
  | _, .dct _ _, h => by simp [pl] at h
  | _, .ref _, h => by simp [pl] at h
  | _, .val _, h => by simp [pl] at h
theorem pls_toDs : ∀ {n : Nat} {ts : List T}, pls n ts = true → ∃ ds, toDs ts = some ds ∧ PyData.canLayAll0 ds = true ∧ PyData.depthAll ds ≤ n
  | n, [], _ => ⟨[], rfl, by simp only [PyData.canLayAll0], by simp only [PyData.depthAll]; exact Nat.zero_le _⟩
  | n, t :: ts, h => by
    simp only [pls, Bool.and_eq_true] at h
    obtain ⟨d, e, c, dp⟩ := pl_toD h.1
    obtain ⟨ds, es, cs, dps⟩ := pls_toDs h.2
    exact ⟨d :: ds, by simp only [toDs, e, es, Option.bind_some], by simp only [PyData.canLayAll0, c, cs, Bool.and_self], by simp only [PyData.depthAll]; exact Nat.max_le.mpr ⟨dp, dps⟩⟩
end
mutual
theorem pl_eqv : ∀ {n m : Nat} {x y : T} {d e : PyData}, pl n x = true → pl m y = true → toD x = some d → toD y = some e → (PyData.eqv d e = true ↔ x = y)
  | n, m, .non, y, d, e, _, hy, hd, he => by
    cases hd
    cases y <;> first | (simp [pl] at hy; done) | (simp only [toD] at he; cases he; simp [PyData.eqv]; done) | (simp only [toD, Option.map_eq_some_iff] at he; obtain ⟨_, _, rfl⟩ := he; simp [PyData.eqv])
  | n, m, .int i, y, d, e, _, hy, hd, he => by
    cases hd
    cases y <;> first | (simp [pl] at hy; done) | (simp only [toD] at he; cases he; simp [PyData.eqv]; done) | (simp only [toD, Option.map_eq_some_iff] at he; obtain ⟨_, _, rfl⟩ := he; simp [PyData.eqv])
  | n, m, .str i, y, d, e, _, hy, hd, he => by
    cases hd
    cases y <;> first | (simp [pl] at hy; done) | (simp only [toD] at he; cases he; simp [PyData.eqv]; done) | (simp only [toD, Option.map_eq_some_iff] at he; obtain ⟨_, _, rfl⟩ := he; simp [PyData.eqv])
  | n, m, .tup ts, y, d, e, hx, hy, hd, he => by
    simp only [toD, Option.map_eq_some_iff] at hd
    obtain ⟨ds, hd, rfl⟩ := hd
    simp only [pl, Bool.and_eq_true] at hx
    cases y with
    | tup us =>
      simp only [toD, Option.map_eq_some_iff] at he
      obtain ⟨es, he, rfl⟩ := he
      simp only [pl, Bool.and_eq_true] at hy
      simp only [PyData.eqv, T.tup.injEq]
      exact pls_eqv hx.2 hy.2 hd he
    | lst us =>
      simp only [toD, Option.map_eq_some_iff] at he
      obtain ⟨es, he, rfl⟩ := he
      simp [PyData.eqv]
    | non => simp only [toD] at he; cases he; simp [PyData.eqv]
    | int i => simp only [toD] at he; cases he; simp [PyData.eqv]
    | str i => simp only [toD] at he; cases he; simp [PyData.eqv]
    | _ => simp [pl] at hy
  | n, m, .lst ts, y, d, e, hx, hy, hd, he => by
    simp only [toD, Option.map_eq_some_iff] at hd
    obtain ⟨ds, hd, rfl⟩ := hd
    simp only [pl, Bool.and_eq_true] at hx
    cases y with
    | lst us =>
      simp only [toD, Option.map_eq_some_iff] at he
      obtain ⟨es, he, rfl⟩ := he
      simp only [pl, Bool.and_eq_true] at hy
      simp only [PyData.eqv, T.lst.injEq]
      exact pls_eqv hx.2 hy.2 hd he
    | tup us =>
      simp only [toD, Option.map_eq_some_iff] at he
      obtain ⟨es, he, rfl⟩ := he
      simp [PyData.eqv]
    | non => simp only [toD] at he; cases he; simp [PyData.eqv]
    | int i => simp only [toD] at he; cases he; simp [PyData.eqv]
    | str i => simp only [toD] at he; cases he; simp [PyData.eqv]
    | _ => simp [pl] at hy
  | _, _, .bl _, _, _, _, h, _, _, _ => by simp [pl] at h
  | _, _, .sls _, _, _, _, h, _, _, _ => by simp [pl] at h
  | _, _, .dct _ _, _, _, _, h, _, _, _ => by simp [pl] at h
  | _, _, .ref _, _, _, _, h, _, _, _ => by simp [pl] at h
  | _, _, .val _, _, _, _, h, _, _, _ => by simp [pl] at h
theorem pls_eqv : ∀ {n m : Nat} {xs ys : List T} {ds es : List PyData}, pls n xs = true → pls m ys = true → toDs xs = some ds → toDs ys = some es → (PyData.eqvAll ds es = true ↔ xs = ys)
  | n, m, [], ys, ds, es, _, _, hd, he => by
    cases hd
    cases ys with
    | nil => cases he; simp [PyData.eqvAll]
    | cons y ys =>
      simp only [toDs, Option.bind_eq_some_iff] at he
      obtain ⟨_, _, _, _, z⟩ := he
      cases z
      simp [PyData.eqvAll]
  | n, m, x :: xs, ys, ds, es, hx, hy, hd, he => by
    simp only [toDs, Option.bind_eq_some_iff] at hd
    obtain ⟨d, h1, dr, h2, z⟩ := hd
    cases z
    simp only [pls, Bool.and_eq_true] at hx
    cases ys with
    | nil => cases he; simp [PyData.eqvAll]
    | cons y ys =>
      simp only [toDs, Option.bind_eq_some_iff] at he
      obtain ⟨e, h3, er, h4, z⟩ := he
      cases z
      simp only [pls, Bool.and_eq_true] at hy
      simp only [PyData.eqvAll, Bool.and_eq_true, List.cons.injEq]
      rw [pl_eqv hx.1 hy.1 h1 h3, pls_eqv hx.2 hy.2 h2 h4]
end
theorem pl_toD1 {n : Nat} {t : T} (h : pl n t = true) (S : Sto) : toD1 S t = toD t := by
  cases t <;> first | rfl | (simp [pl] at h)
theorem shaped_of {d : PyData} (h : d.canLay0 = true) (g : d.depth ≤ 60) : SeqAt.shaped d = true := by
  unfold SeqAt.shaped
  rw [h, decide_eq_true (show d.depth ≤ 64 by omega)]
  rfl
theorem eqB_pl {x y : T} {k : Bool} (hx : pl 60 x = true) (hy : pl 60 y = true) (hk : k = true ↔ x = y) (S : Sto) : eqB S x y = some k := by
  obtain ⟨d, e1, c1, d1⟩ := pl_toD hx
  obtain ⟨e, e2, c2, d2⟩ := pl_toD hy
  unfold eqB
  rw [pl_toD1 hx, pl_toD1 hy, e1, e2]
  simp only [shaped_of c1 d1, shaped_of c2 d2, Bool.and_self, if_true]
  have := pl_eqv hx hy e1 e2
  congr 1
  rw [Bool.eq_iff_iff, this, hk]
theorem eq_pl {x y : T} {k : Bool} (hx : pl 60 x = true) (hy : pl 60 y = true) (hk : k = true ↔ x = y) (S : Sto) : TL.eqT S x y = some (.bl k) := by
  unfold TL.eqT
  rw [eqB_pl hx hy hk]
  rfl
theorem ne_pl {x y : T} {k : Bool} (hx : pl 60 x = true) (hy : pl 60 y = true) (hk : k = true ↔ x = y) (S : Sto) : TL.neT S x y = some (.bl !k) := by
  unfold TL.neT
  rw [eqB_pl hx hy hk]
  rfl
theorem eqB_ref {S : Sto} {n : Nat} {ts : List T} (h : S[n]? = some (.lst ts)) (y : T) : eqB S (.ref n) y = eqB S (.lst ts) y := by
  have e1 : toD1 S (.ref n) = toD1 S (.lst ts) := by
    show (match S[n]? with | some (.lst ts) => (toDs ts).map PyData.list | _ => none) = (toDs ts).map PyData.list
    rw [h]
  have e2 : dctT S (.ref n) = dctT S (.lst ts) := by
    simp only [dctT, h]
  unfold eqB
  rw [e1, e2]
theorem eqB_ref' {S : Sto} {n : Nat} {ts : List T} (h : S[n]? = some (.lst ts)) (x : T) : eqB S x (.ref n) = eqB S x (.lst ts) := by
  have e1 : toD1 S (.ref n) = toD1 S (.lst ts) := by
    show (match S[n]? with | some (.lst ts) => (toDs ts).map PyData.list | _ => none) = (toDs ts).map PyData.list
    rw [h]
  have e2 : dctT S (.ref n) = dctT S (.lst ts) := by
    simp only [dctT, h]
  unfold eqB
  rw [e1, e2]
abbrev So (x : Str) : Prop := PyData.strOk x = true
theorem pl_mono {n m : Nat} (h : n ≤ m) : ∀ {t : T}, pl n t = true → pl m t = true := fun {t} => by
  have key : ∀ k : Nat, ∀ n m : Nat, n ≤ m → n ≤ k → ∀ t : T, pl n t = true → pl m t = true := fun k => by
    induction k with
    | zero =>
      intro n m h hk t ht
      have : n = 0 := by omega
      subst this
      cases t <;> first | exact ht | (simp [pl] at ht)
    | succ k ih =>
      intro n m h hk t ht
      have all : ∀ ts : List T, pls (n - 1) ts = true → pls (m - 1) ts = true := fun ts => by
        induction ts with
        | nil => exact fun _ => rfl
        | cons t ts iht =>
          intro h1
          simp only [pls, Bool.and_eq_true] at h1 ⊢
          exact ⟨ih (n - 1) (m - 1) (by omega) (by omega) t h1.1, iht h1.2⟩
      cases t with
      | tup ts =>
        simp only [pl, Bool.and_eq_true, decide_eq_true_eq] at ht ⊢
        exact ⟨by omega, all ts ht.2⟩
      | lst ts =>
        simp only [pl, Bool.and_eq_true, decide_eq_true_eq] at ht ⊢
        exact ⟨by omega, all ts ht.2⟩
      | _ => first | exact ht | (simp [pl] at ht)
  exact key n n m h (Nat.le_refl _) t
theorem pls_all {n : Nat} : ∀ {ts : List T}, (∀ t ∈ ts, pl n t = true) → pls n ts = true
  | [], _ => rfl
  | t :: ts, h => by simp only [pls, h t List.mem_cons_self, pls_all fun u hu => h u (List.mem_cons_of_mem _ hu), Bool.and_self]
theorem pls_map {α : Type} {n : Nat} {f : α → T} {l : List α} (h : ∀ x ∈ l, pl n (f x) = true) : pls n (l.map f) = true := pls_all fun t ht => by
  obtain ⟨x, hx, rfl⟩ := List.mem_map.mp ht
  exact h x hx
theorem pl_tup {n : Nat} {ts : List T} (h : ∀ t ∈ ts, pl n t = true) : pl (n + 1) (.tup ts) = true := by
  simp only [pl, Nat.add_sub_cancel, pls_all h, Bool.and_true]
  exact decide_eq_true (by omega)
theorem pl_lst {n : Nat} {ts : List T} (h : ∀ t ∈ ts, pl n t = true) : pl (n + 1) (.lst ts) = true := by
  simp only [pl, Nat.add_sub_cancel, pls_all h, Bool.and_true]
  exact decide_eq_true (by omega)
theorem pl_tS {l : List Str} (h : ∀ x ∈ l, So x) : pl 1 (tS l) = true := pl_tup fun t ht => by
  obtain ⟨x, hx, rfl⟩ := List.mem_map.mp ht
  exact h x hx
theorem strs_inj : ∀ {a b : List Str}, a.map T.str = b.map T.str → a = b := fun {a b} h => by
  have := congrArg (List.map fun t => match t with | T.str x => x | _ => ⟨#[]⟩) h
  simpa [List.map_map, Function.comp_def] using this
theorem tS_inj {a b : List Str} : tS a = tS b ↔ a = b := ⟨fun h => strs_inj (T.tup.inj h), fun h => by rw [h]⟩
theorem eq_str {a b : Str} (ha : So a) (hb : So b) (S : Sto) : TL.eqT S (.str a) (.str b) = some (.bl (decide (a = b))) := eq_pl (x := .str a) (y := .str b) ha hb (by simp) S
theorem ne_str {a b : Str} (ha : So a) (hb : So b) (S : Sto) : TL.neT S (.str a) (.str b) = some (.bl (!decide (a = b))) := ne_pl (x := .str a) (y := .str b) ha hb (by simp) S
theorem So.of {x : Str} (h : Rp x) : So x := h.2.2
end SF
set_option Elab.async false
set_option linter.all false
set_option maxRecDepth 100000
namespace SF
open PySem PySem.Spec L2 TL
open PyProof.Rows hiding St
/-! ### chains -/
abbrev Ch := List (Str × Str)
def chT (c : Ch) : T := .tup (c.map pT)
def behindS (c : Ch) (k v : Str) : Ch := (k, v) :: c.filter fun p => !decide (p.1 = k)
def worthS (t : List Str) : Ch → Option Str
  | [] => none
  | p :: c => if p.1 ∈ t then some p.2 else worthS t c
def optT : Option Str → T
  | some x => .str x
  | none => .non
def giveF (f : Str → Ch) (k : Str) (g : List (Str × Str)) : Str → Ch := g.foldl (fun f p a => if a = p.1 then behindS (f a) k p.2 else f a) f
/-- the chains behind items -/
def chainF (b : Bk) : (Str → Ch) → List Str → Str → Ch
  | f, [] => f
  | f, x :: r => match findC b.cs x with
    | some c => chainF b (giveF f c.k c.g) r
    | none => chainF b f r
def shownS (b : Bk) (x : Str) : List Str := if x = "\n" then [] else if x = " " then b.sh else b.asp
def rowsF (b : Bk) : (Str → Ch) → List Str → List (List Ch)
  | _, [] => []
  | f, x :: r => match findC b.cs x with
    | some c => rowsF b (giveF f c.k c.g) r
    | none => (shownS b x).map f :: rowsF b f r
abbrev chD (b : Bk) (f : Str → Ch) : T := .dct (kS b.asp) (b.asp.map fun a => chT (f a))
def rowT (r : List Ch) : T := .tup (r.map chT)
theorem chain_app (b : Bk) : ∀ (f : Str → Ch) (xs ys : List Str), chainF b f (xs ++ ys) = chainF b (chainF b f xs) ys
  | f, [], ys => rfl
  | f, x :: xs, ys => by
    simp only [List.cons_append, chainF]
    cases findC b.cs x with
    | some c => exact chain_app b _ xs ys
    | none => exact chain_app b f xs ys
theorem rows_app (b : Bk) : ∀ (f : Str → Ch) (xs ys : List Str), rowsF b f (xs ++ ys) = rowsF b f xs ++ rowsF b (chainF b f xs) ys
  | f, [], ys => rfl
  | f, x :: xs, ys => by
    simp only [List.cons_append, chainF, rowsF]
    cases findC b.cs x with
    | some c => exact rows_app b _ xs ys
    | none => rw [List.cons_append, rows_app b f xs ys]
/-! sizes -/
structure CI (K : List Str) (c : Ch) : Prop where
  nd : (c.map (·.1)).Nodup
  sub : ∀ p ∈ c, p.1 ∈ K
theorem CI.nil (K : List Str) : CI K [] := ⟨List.nodup_nil, fun p h => nomatch h⟩
theorem CI.len {K : List Str} {c : Ch} (h : CI K c) : c.length ≤ K.length := by
  have := nodup_len h.nd (K := K) fun x hx => by
    obtain ⟨p, hp, rfl⟩ := List.mem_map.mp hx
    exact h.sub p hp
  rwa [List.length_map] at this
theorem CI.behind {K : List Str} {c : Ch} (h : CI K c) {k v : Str} (hk : k ∈ K) : CI K (behindS c k v) := by
  refine ⟨?_, fun p hp => ?_⟩
  · unfold behindS
    rw [List.map_cons, List.nodup_cons]
    refine ⟨fun z => ?_, h.nd.sublist (List.Sublist.map _ List.filter_sublist)⟩
    obtain ⟨p, hp, e⟩ := List.mem_map.mp z
    have := (List.mem_filter.mp hp).2
    simp [show p.1 = k from e] at this
  · unfold behindS at hp
    rcases List.mem_cons.mp hp with rfl | hp
    · exact hk
    · exact h.sub p (List.mem_filter.mp hp).1
theorem CI.give {K : List Str} {k : Str} (hk : k ∈ K) : ∀ {g : List (Str × Str)} {f : Str → Ch}, (∀ a, CI K (f a)) → ∀ a, CI K (giveF f k g a)
  | [], f, h, a => h a
  | p :: g, f, h, a => CI.give hk (g := g) (f := fun a => if a = p.1 then behindS (f a) k p.2 else f a) (fun a => by
    show CI K (if a = p.1 then behindS (f a) k p.2 else f a)
    split
    · exact (h a).behind hk
    · exact h a) a
/-- books whose chains may be looked at -/
structure GC (b : Bk) : Prop where
  w : GW b
  ko : ∀ c ∈ b.cs, So c.k
  vo : ∀ c ∈ b.cs, ∀ p ∈ c.g, So p.2
  kin : ∃ K : List Str, K.length ≤ 6 ∧ ∀ c ∈ b.cs, c.k ∈ K
theorem CI.chain {b : Bk} {K : List Str} (hK : ∀ c ∈ b.cs, c.k ∈ K) : ∀ {xs : List Str} {f : Str → Ch}, (∀ a, CI K (f a)) → ∀ a, CI K (chainF b f xs a)
  | [], f, h, a => h a
  | x :: xs, f, h, a => by
    unfold chainF
    cases e : findC b.cs x with
    | some c => exact CI.chain hK (CI.give (hK c (findC_mem e).1) h) a
    | none => exact CI.chain hK h a
/-- values and kinds of chains that a stream has -/
theorem chain_vals {b : Bk} {P : Str × Str → Prop} (hP : ∀ c ∈ b.cs, ∀ p ∈ c.g, P (c.k, p.2)) : ∀ {xs : List Str} {f : Str → Ch}, (∀ a, ∀ p ∈ f a, P p) → ∀ a, ∀ p ∈ chainF b f xs a, P p
  | [], f, h, a => h a
  | x :: xs, f, h, a => by
    unfold chainF
    cases e : findC b.cs x with
    | none => exact chain_vals hP h a
    | some c =>
      refine chain_vals hP (f := giveF f c.k c.g) ?_ a
      have key : ∀ g : List (Str × Str), (∀ p ∈ g, P (c.k, p.2)) → ∀ f : Str → Ch, (∀ a, ∀ p ∈ f a, P p) → ∀ a, ∀ p ∈ giveF f c.k g a, P p := fun g => by
        induction g with
        | nil => exact fun _ f h => h
        | cons q g ih =>
          intro hg f h
          refine ih (fun p hp => hg p (List.mem_cons_of_mem _ hp)) (fun a => if a = q.1 then behindS (f a) c.k q.2 else f a) fun a p hp => ?_
          split at hp
          · unfold behindS at hp
            rcases List.mem_cons.mp hp with rfl | hp
            · exact hg q List.mem_cons_self
            · exact h a p (List.mem_filter.mp hp).1
          · exact h a p hp
      exact key c.g (hP c (findC_mem e).1) f h
/-! ### the program's functions -/
theorem nr_chT (c : Ch) : nr (chT c) = true := nrs_map fun p _ => nr_pT p
theorem nr_rowT (r : List Ch) : nr (rowT r) = true := nrs_map fun p _ => nr_chT p
theorem behind_ok {c : Ch} {k v : Str} (hz : c.length ≤ 100) (hk : So k) (hc : ∀ p ∈ c, So p.1) : Pu m_behind [chT c, .str k, .str v] (chT (behindS c k v)) := by
  intro S
  unfold m_behind b_behind chT
  simp_arith [List.length_map, small16 (show c.length ≤ 200 by omega), small16 (show 2 ≤ 200 by omega), small16 (show 1 ≤ 200 by omega)]
  rw [lc_filter (p := fun x => match x with | .tup [.str a, _] => !decide (a = k) | _ => false) (r := id) fun x hx => ?a]
  case a =>
    obtain ⟨p, hp, rfl⟩ := List.mem_map.mp hx
    exact ⟨_, rfl, slots1 _ _, by simp_arith [pT, ne_str (hc p hp) hk], fun _ => by simp_arith [id]⟩
  have e : ((c.map pT).filter fun x => match x with | .tup [.str a, _] => !decide (a = k) | _ => false).map id = (c.filter fun p => !decide (p.1 = k)).map pT := by
    rw [List.map_id, List.filter_map]
    rfl
  have z : [T.tup [T.str k, T.str v]].length + ((c.filter fun p => !decide (p.1 = k)).map pT).length ≤ sizeLine := small16 (by
    have := List.length_filter_le (fun p : Str × Str => !decide (p.1 = k)) c
    rw [List.length_map]
    simp only [List.length_cons, List.length_nil]
    omega)
  simp_arith [e, add_tup z]
  rfl
theorem no_chains_ok {b : Bk} (W : GW b) (S : Sto) : m_no_chains [bT b] S = .ok (.ref S.length) (S ++ [chD b fun _ => []]) := by
  unfold m_no_chains b_no_chains
  have z2 : b.asp.length ≤ sizeLine := small16 (by have := W.asz; omega)
  have i0 : ∀ S, ixT S (bT b) (.int 0) = some (tS b.asp) := fun S => rfl
  simp_arith [i0, List.length_map, z2]
  rw [dc_map (k := fun x => match x with | .str a => .inr a | _ => .inl 0) (r := fun _ => .tup []) fun x hx => ?a]
  case a =>
    obtain ⟨a, ha, rfl⟩ := List.mem_map.mp hx
    exact ⟨_, rfl, slots1 _ _, rfl, by simp_arith [tKey], by simp_arith []⟩
  have e2 : (b.asp.map T.str).map (fun x => ((match x with | .str a => .inr a | _ => .inl 0 : Key), (T.tup [] : T))) = b.asp.map fun a => ((Sum.inr a : Key), T.tup []) := by
    rw [List.map_map]
    exact List.map_congr_left fun _ _ => rfl
  have e3 : mergeT ([], []) (b.asp.map fun a => ((Sum.inr a : Key), T.tup [])) = (kS b.asp, b.asp.map fun a => chT []) := by
    rw [merge_nil, List.map_map, List.map_map]
    · rfl
    · rw [List.map_map]
      exact nodup_inr W.and
  simp_arith [e2, e3]
theorem getK_f (f : Str → T) : ∀ {ks : List Str} {a : Str}, a ∈ ks → getK (kS ks) (ks.map f) (.inr a) = some (f a)
  | [], a, h => nomatch h
  | k :: ks, a, h => by
    simp only [kS, List.map_cons, getK, inr_eq]
    by_cases e : k = a
    · rw [if_pos e, e]
    · rw [if_neg e]
      exact getK_f f ((List.mem_cons.mp h).resolve_left fun z => e z.symm)
theorem putK_f (f : Str → T) {ks : List Str} {a : Str} (t : T) (m : a ∈ ks) : putK' (kS ks) (ks.map f) (.inr a) t = (kS ks, ks.map fun x => if x = a then t else f x) := by
  unfold putK'
  rw [if_pos (any_S m)]
  congr 1
  unfold kS
  rw [List.zipWith_map]
  induction ks with
  | nil => rfl
  | cons k ks ih =>
    rw [List.zipWith_cons_cons, List.map_cons]
    congr 1
    · by_cases e : k = a
      · rw [if_pos e, if_pos (by rw [e])]
      · rw [if_neg e, if_neg (by rwa [inr_eq])]
    · clear m ih
      induction ks with
      | nil => rfl
      | cons k ks ih =>
        rw [List.zipWith_cons_cons, List.map_cons, ih]
        congr 1
        by_cases e : k = a
        · rw [if_pos e, if_pos (by rw [e])]
        · rw [if_neg e, if_neg (by rwa [inr_eq])]
theorem ix_ch {b : Bk} {f : Str → Ch} {S : Sto} {n : Nat} {a : Str} (h : S[n]? = some (chD b f)) (m : a ∈ b.asp) : ixT S (.ref n) (.str a) = some (chT (f a)) := by
  have e : dctT S (.ref n) = some (kS b.asp, b.asp.map fun a => chT (f a)) := by
    simp only [dctT, h]
  unfold ixT
  rw [e]
  exact getK_f _ m
theorem set_ch {b : Bk} {f : Str → Ch} {S : Sto} {n : Nat} {a : Str} {c : Ch} (hz : b.asp.length < sizeLine) (h : S[n]? = some (chD b f)) (m : a ∈ b.asp) :
    setT S (.ref n) (.str a) (chT c) = some (S.set n (chD b fun x => if x = a then c else f x)) := by
  unfold setT
  simp only [h, keyT, Option.bind_some, List.length_map, hz, if_true, putK_f _ _ m]
  congr 3
  simp only [chD, T.dct.injEq, true_and]
  exact List.map_congr_left fun x _ => by split <;> rfl
theorem pass_code_ok {b : Bk} (G : GC b) {c : Code} (hc : c ∈ b.cs) {f : Str → Ch} {S : Sto} {n : Nat} (h : S[n]? = some (chD b f)) (hf : ∀ a, (f a).length ≤ 6 ∧ ∀ p ∈ f a, So p.1)
    (hg : ∀ g, g.Sublist c.g → ∀ a, (giveF f c.k g a).length ≤ 6 ∧ ∀ p ∈ giveF f c.k g a, So p.1) : m_pass_code [.ref n, cT c] S = .ok .non (S.set n (chD b (giveF f c.k c.g))) := by
  have W := G.w
  have bh := fun {c : Ch} {k v : Str} (hz : c.length ≤ 100) (hk : So k) (hc : ∀ p ∈ c, So p.1) => behind_ok (v := v) hz hk hc
  unfold m_pass_code b_pass_code
  generalize m_behind = f1 at bh ⊢
  have z3 : b.asp.length < sizeLine := small16' (by have := W.asz; omega)
  have hn : n < S.length := (List.getElem?_eq_some_iff.mp h).1
  have e0 : S.set n (chD b f) = S := by
    obtain ⟨_, e⟩ := List.getElem?_eq_some_iff.mp h
    rw [← e, List.set_getElem_self]
  simp_arith [cT]
  generalize hF : forF _ _ _ _ _ = R
  obtain ⟨τ2, S2, e, h1, x5, x6, h2⟩ := for_go hF (fun i τ T1 => T1 = S.set n (chD b (giveF f c.k (c.g.take i))) ∧ ∃ x5 x6, τ = [some (.ref n), some (cT c), some (.str c.w), some (.str c.k), some (.tup (c.g.map pT)), x5, x6])
    ⟨e0.symm, none, none, rfl⟩ (by
    intro i y τ T1 hx hI
    obtain ⟨rfl, x5, x6, rfl⟩ := hI
    rw [List.getElem?_map] at hx
    cases ex : c.g[i]? with
    | none => rw [ex] at hx; cases hx
    | some p =>
    rw [ex] at hx
    cases hx
    have hpm : p ∈ c.g := List.mem_of_getElem? ex
    have ha : p.1 ∈ b.asp := W.gin c hc p hpm
    have hg1 : giveF f c.k (c.g.take (i + 1)) = fun a => if a = p.1 then behindS (giveF f c.k (c.g.take i) a) c.k p.2 else giveF f c.k (c.g.take i) a := by
      unfold giveF
      rw [List.take_add_one, ex, List.foldl_append]
      rfl
    rw [hg1]
    obtain hq := hg (c.g.take i) (List.take_sublist _ _)
    generalize giveF f c.k (c.g.take i) = F at hq ⊢
    have hS : (S.set n (chD b F))[n]? = some (chD b F) := by rw [List.getElem?_set_self hn]
    obtain ⟨q1, q2⟩ := hq p.1
    have b1 := bh (v := p.2) (c := F p.1) (by omega) (G.ko c hc) q2
    refine ⟨_, rfl, ?_⟩
    simp_arith [pT, bStore, ix_ch hS ha, b1 (S.set n (chD b F)), set_ch z3 hS ha, List.set_set]
    refine goes_nx ⟨?_, _, _, rfl⟩
    congr 1
    simp only [chD, T.dct.injEq, true_and]
    refine List.map_congr_left fun x _ => ?_
    by_cases e : x = p.1
    · rw [if_pos e, if_pos e, e]
    · rw [if_neg e, if_neg e])
  subst e h1 h2
  rw [List.length_map, List.take_length]
end SF
set_option Elab.async false
set_option linter.all false
set_option maxRecDepth 100000
namespace SF
open PySem PySem.Spec L2 TL
open PyProof.Rows hiding St
abbrev f0 : Str → Ch := fun _ => []
theorem GC.cs {b : Bk} (G : GC b) {xs : List Str} (a : Str) : (chainF b f0 xs a).length ≤ 6 ∧ ∀ p ∈ chainF b f0 xs a, So p.1 := by
  obtain ⟨K, hK, hk⟩ := G.kin
  exact ⟨Nat.le_trans (CI.chain hk (xs := xs) (f := f0) (fun _ => CI.nil K) a).len hK, chain_vals (P := fun p => So p.1) (fun c hc p _ => G.ko c hc) (fun _ p h => by cases h) a⟩
theorem take_chain {b : Bk} {xs : List Str} {i : Nat} {x : Str} (f : Str → Ch) (h : xs[i]? = some x) : chainF b f (xs.take (i + 1)) = (match findC b.cs x with | some c => giveF (chainF b f (xs.take i)) c.k c.g | none => chainF b f (xs.take i)) := by
  rw [List.take_add_one, h, chain_app]
  simp only [Option.toList, chainF] <;> cases findC b.cs x <;> rfl
theorem pass_at {b : Bk} (G : GC b) {c : Code} (hc : c ∈ b.cs) {xs : List Str} {S : Sto} {n : Nat} (h : S[n]? = some (chD b (chainF b f0 xs))) :
    m_pass_code [.ref n, cT c] S = .ok .non (S.set n (chD b (giveF (chainF b f0 xs) c.k c.g))) := by
  obtain ⟨K, hK, hk⟩ := G.kin
  have ci : ∀ a, CI K (chainF b f0 xs a) := CI.chain hk (fun _ => CI.nil K)
  have so : ∀ g : List (Str × Str), ∀ f : Str → Ch, (∀ a, ∀ p ∈ f a, So p.1) → ∀ a, ∀ p ∈ giveF f c.k g a, So p.1 := fun g => by
    induction g with
    | nil => exact fun f h => h
    | cons q g ih =>
      intro f h
      refine ih (fun a => if a = q.1 then behindS (f a) c.k q.2 else f a) fun a p hp => ?_
      split at hp
      · unfold behindS at hp
        rcases List.mem_cons.mp hp with rfl | hp
        · exact G.ko c hc
        · exact h a p (List.mem_filter.mp hp).1
      · exact h a p hp
  exact pass_code_ok G hc h (fun a => G.cs a) fun g hg a => ⟨Nat.le_trans (CI.give (hk c hc) ci a).len hK, so g _ (fun a => (G.cs a).2) a⟩
theorem nrs_rows (rs : List (List Ch)) : nrs (rs.map rowT) = true := nrs_map fun r _ => nr_rowT r
theorem shown_sub {b : Bk} (W : GW b) (x : Str) : (shownS b x).length ≤ 6 ∧ ∀ a ∈ shownS b x, a ∈ b.asp := by
  unfold shownS
  split
  · exact ⟨Nat.zero_le _, fun a h => nomatch h⟩
  · split
    · exact ⟨W.gb.shz, W.gb.sub⟩
    · exact ⟨W.asz, fun a h => h⟩
theorem Si.sh' {x : Str} (h : Si x) (b : Bk) (S : Sto) : m_shown_at [bT b, .str x] S = .ok (tS (shownS b x)) S := h.sh b S
theorem chains_shown_ok {b : Bk} (G : GC b) {xs : List Str} (I : GI b xs) : Pu m_chains_shown [bT b, tS xs] (.lst ((rowsF b f0 xs).map rowT)) := by
  intro U
  have W := G.w
  have hf : ∀ x ∈ xs, (∃ c ∈ b.cs, c.w = x ∧ findC b.cs x = some c ∧ Sg x false) ∨ (Si x ∧ findC b.cs x = none) := fun x hx => I.find W hx
  have hcb := codes_by_word_ok W
  have hnc := no_chains_ok W
  have hpc := fun {c : Code} (hc : c ∈ b.cs) {xs : List Str} {S : Sto} {n : Nat} (h : S[n]? = some (chD b (chainF b f0 xs))) => pass_at G hc h
  have hsg : ∀ x k, Sg x k → ∀ S, m_is_sign [.str x] S = .ok (.bl k) S := fun x k h S => h S
  have hsh : ∀ x, Si x → ∀ S, m_shown_at [bT b, .str x] S = .ok (tS (shownS b x)) S := fun x h S => h.sh' b S
  unfold m_chains_shown
  suffices h : ∃ J, body _ _ b_chains_shown [bT b, tS xs] U = .ok (.ref (U.length + 1)) (U ++ J) ∧ (U ++ J)[U.length + 1]? = some (.lst ((rowsF b f0 xs).map rowT)) by
    obtain ⟨J, h1, h2⟩ := h
    exact gc_ref h1 (Nat.le_succ _) h2 (nrs_rows _)
  unfold b_chains_shown
  generalize m_codes_by_word = f1 at hcb ⊢
  generalize m_no_chains = f2 at hnc ⊢
  generalize m_pass_code = f3 at hpc ⊢
  generalize m_is_sign = f4 at hsg ⊢
  generalize m_shown_at = f5 at hsh ⊢
  have l1 : (U ++ [chD b f0]).length = U.length + 1 := by simp
  have ap : ∀ x y : T, U ++ [x] ++ [y] = U ++ x :: y :: [] := fun x y => by simp
  simp_arith [hcb U, hnc U, l1, ap]
  generalize hF : forF _ _ _ _ _ = R
  obtain ⟨τ2, S2, e, rows, h1, h2, x5, x6, h3⟩ := for_go hF (fun i τ T1 => ∃ rows : List (List Ch), T1 = U ++ [chD b (chainF b f0 (xs.take i)), .lst (rows.map rowT)] ∧ (rows ++ rowsF b (chainF b f0 (xs.take i)) (xs.drop i) = rowsF b f0 xs ∧ rows.length ≤ i) ∧
      ∃ x5 x6, τ = [some (bT b), some (tS xs), some (.dct (b.cs.map fun c => Sum.inr c.w) (b.cs.map cT)), some (.ref U.length), some (.ref (U.length + 1)), x5, x6])
    ⟨[], rfl, ⟨rfl, Nat.le_refl _⟩, none, none, rfl⟩ (by
    intro i y τ T1 hx hI
    obtain ⟨rows, rfl, ⟨hrun, hol⟩, x5, x6, rfl⟩ := hI
    rw [List.getElem?_map] at hx
    cases ex : xs[i]? with
    | none => rw [ex] at hx; cases hx
    | some x =>
    rw [ex] at hx
    cases hx
    have hxm : x ∈ xs := List.mem_of_getElem? ex
    have hi := (List.getElem?_eq_some_iff.mp ex).1
    have hl := I.len
    have z4 : rows.length < sizeLine := small16' (by omega)
    have hdrop : xs.drop i = x :: xs.drop (i + 1) := by
      rw [List.drop_eq_getElem_cons hi]
      congr 1
      exact (List.getElem?_eq_some_iff.mp ex).2
    rw [hdrop] at hrun
    have htk := take_chain (b := b) f0 ex
    refine ⟨_, rfl, ?_⟩
    rcases hf x hxm with ⟨c, hc, e, hfc, hs⟩ | ⟨hs, hfc⟩
    · simp only [rowsF, hfc] at hrun
      rw [hfc] at htk
      simp only at htk
      have hix : ∀ S, ixT S (.dct (b.cs.map fun c => Sum.inr c.w) (b.cs.map cT)) (.str x) = some (cT c) := fun S => by
        rw [ix_codes cT, hfc]
        rfl
      have hp := hpc hc (xs := xs.take i) (S := U ++ [chD b (chainF b f0 (xs.take i)), .lst (rows.map rowT)]) (n := U.length) (sto_end U _ _)
      rw [sto_set] at hp
      simp_arith [hsg x false hs, hix, hp]
      exact goes_nx ⟨rows, by rw [htk], ⟨by rw [htk]; exact hrun, by omega⟩, _, _, rfl⟩
    · simp only [rowsF, hfc] at hrun
      rw [hfc] at htk
      simp only at htk
      obtain ⟨q1, q2⟩ := shown_sub W x
      have hs2 := hsh x hs
      generalize shownS b x = al at q1 q2 hs2 hrun
      generalize hf' : chainF b f0 (xs.take i) = f at hrun htk
      simp_arith [hsg x true hs.sg, hs2, List.length_map, small16 (show al.length ≤ 200 by omega)]
      rw [lc_map (r := fun y => match y with | .str a => chT (f a) | _ => .non) fun y hy => ?a]
      case a =>
        obtain ⟨a, ha, rfl⟩ := List.mem_map.mp hy
        exact ⟨_, rfl, slots1 _ _, rfl, by simp_arith [ix_ch (sto_end U _ _) (q2 a ha)]⟩
      have e5 : (al.map T.str).map (fun y => (match y with | .str a => chT (f a) | _ => .non : T)) = (al.map f).map chT := by
        rw [List.map_map, List.map_map]
        exact List.map_congr_left fun _ _ => rfl
      have e6 : rows.map rowT ++ [T.tup ((al.map f).map chT)] = (rows ++ [al.map f]).map rowT := by
        rw [List.map_append]
        rfl
      simp_arith [e5, List.length_map, z4, e6]
      exact goes_nx ⟨rows ++ [al.map f], by rw [htk], ⟨by rw [htk]; simpa using hrun, by simp; omega⟩, _, _, rfl⟩)
  subst e h1 h3
  rw [List.length_map, List.drop_length] at h2
  simp only [rowsF, List.append_nil] at h2
  simp_arith []
  exact ⟨[_, .lst (rows.map rowT)], rfl, by rw [sto_1, h2.1]⟩
/-! ### worth -/
theorem worth_ok (t : List Str) (c : Ch) : Pu m_worth_among [chT c, tS t] (optT (worthS t c)) := by
  intro S
  unfold m_worth_among b_worth_among chT
  simp_arith []
  have h : ∀ (c : Ch) (x0 x2 x3 : Option T), (∃ y z, forF (sTup 2 (sCons (sName 2) (sCons (sName 3) sNil))) (bIf (fTest (fBin inT (fVar 2) (fVar 1))) (bRet (fVar 3)) bNext) (c.map pT) [x0, some (tS t), x2, x3] S = .nx [x0, some (tS t), y, z] S ∧ worthS t c = none) ∨
      ∃ v, forF (sTup 2 (sCons (sName 2) (sCons (sName 3) sNil))) (bIf (fTest (fBin inT (fVar 2) (fVar 1))) (bRet (fVar 3)) bNext) (c.map pT) [x0, some (tS t), x2, x3] S = .rt (.str v) S ∧ worthS t c = some v := fun c => by
    induction c with
    | nil => exact fun x0 x2 x3 => .inl ⟨x2, x3, rfl, rfl⟩
    | cons p c ih =>
      intro x0 x2 x3
      by_cases h : p.1 ∈ t
      · exact .inr ⟨p.2, by simp_arith [forF, pT, h], by simp only [worthS, if_pos h]⟩
      · rcases ih x0 (some (.str p.1)) (some (.str p.2)) with ⟨y, z, e, w⟩ | ⟨v, e, w⟩
        · exact .inl ⟨y, z, by simp_arith [forF, pT, h]; exact e, by simp only [worthS, if_neg h, w]⟩
        · exact .inr ⟨v, by simp_arith [forF, pT, h]; exact e, by simp only [worthS, if_neg h, w]⟩
  rcases h c (some (.tup (c.map pT))) none none with ⟨y, z, e, w⟩ | ⟨v, e, w⟩
  · simp_arith [e, w, optT]
  · simp_arith [e, w, optT]
end SF
set_option Elab.async false
set_option linter.all false
set_option maxRecDepth 100000
namespace SF
open PySem PySem.Spec L2 TL
open PyProof.Rows hiding St
/-! ### what is seen, by chains -/
theorem getS_upd : ∀ {ks vs : List Str} {a v x : Str}, vs.length = ks.length → x ∈ ks → getS ks (updS ks vs a v) x = if x = a then v else getS ks vs x
  | [], _, _, _, _, _, h => nomatch h
  | k :: ks, [], _, _, _, h, _ => by simp at h
  | k :: ks, u :: vs, a, v, x, h, m => by
    unfold updS
    rw [List.zipWith_cons_cons]
    unfold getS
    by_cases e : k = x
    · subst e
      rw [if_pos rfl, if_pos rfl]
    · rw [if_neg e, if_neg e]
      exact getS_upd (ks := ks) (vs := vs) (by simpa using h) ((List.mem_cons.mp m).resolve_left fun z => e z.symm)
theorem worth_cons (t : List Str) (p : Str × Str) (c : Ch) : worthS t (p :: c) = if p.1 ∈ t then some p.2 else worthS t c := rfl
theorem worth_behind {t : List Str} {c : Ch} {k v : Str} : worthS t (behindS c k v) = if k ∈ t then some v else worthS t c := by
  unfold behindS
  rw [worth_cons]
  split
  · rfl
  · rename_i h
    induction c with
    | nil => rfl
    | cons p c ih =>
      by_cases e : p.1 = k
      · rw [List.filter_cons_of_neg (by simp [e]), ih, worth_cons, if_neg (by rw [e]; exact h)]
      · rw [List.filter_cons_of_pos (by simp [e]), worth_cons, worth_cons, ih]
/-- values and chains that tell the same on a terminal -/
def Same5 (b : Bk) (t : List Str) (d : Str → Str) (vs : List Str) (f : Str → Ch) : Prop := vs.length = b.asp.length ∧ ∀ a ∈ b.asp, getS b.asp vs a = (worthS t (f a)).getD (d a)
theorem same5_in {b : Bk} {t : List Str} {d : Str → Str} {k : Str} (hk : k ∈ t) : ∀ {g : List (Str × Str)} {vs : List Str} {f : Str → Ch}, Same5 b t d vs f → Same5 b t d (giveS b.asp vs g) (giveF f k g)
  | [], _, _, h => h
  | p :: g, vs, f, h => same5_in hk (g := g) (vs := updS b.asp vs p.1 p.2) (f := fun a => if a = p.1 then behindS (f a) k p.2 else f a) ⟨updS_len h.1 _ _, fun a ha => by
    rw [getS_upd h.1 ha]
    by_cases e : a = p.1
    · rw [if_pos e]
      show p.2 = (worthS t (if a = p.1 then behindS (f a) k p.2 else f a)).getD (d a)
      rw [if_pos e, worth_behind, if_pos hk]
      rfl
    · rw [if_neg e]
      show _ = (worthS t (if a = p.1 then behindS (f a) k p.2 else f a)).getD (d a)
      rw [if_neg e]
      exact h.2 a ha⟩
theorem give_out {t : List Str} {k : Str} (hk : k ∉ t) : ∀ {g : List (Str × Str)} {f : Str → Ch} (a : Str), worthS t (giveF f k g a) = worthS t (f a)
  | [], _, _ => rfl
  | p :: g, f, a => by
    have ih := give_out hk (g := g) (f := fun a => if a = p.1 then behindS (f a) k p.2 else f a) a
    refine ih.trans ?_
    show worthS t (if a = p.1 then behindS (f a) k p.2 else f a) = _
    split
    · rw [worth_behind, if_neg hk]
    · rfl
theorem same5_step {b : Bk} {t : List Str} {d : Str → Str} {vs : List Str} {f : Str → Ch} (c : Code) (h : Same5 b t d vs f) : Same5 b t d (if c.k ∈ t then giveS b.asp vs c.g else vs) (giveF f c.k c.g) := by
  split
  · rename_i hk
    exact same5_in hk h
  · rename_i hk
    exact ⟨h.1, fun a ha => by rw [give_out hk]; exact h.2 a ha⟩
theorem same5_left {b : Bk} {t : List Str} {d : Str → Str} : ∀ {xs vs : List Str} {f : Str → Ch}, Same5 b t d vs f → Same5 b t d (leftS b t vs xs) (chainF b f xs)
  | [], _, _, h => h
  | x :: xs, vs, f, h => by
    simp only [leftS, chainF]
    cases e : findC b.cs x with
    | some c => exact same5_left (same5_step c h)
    | none => exact same5_left h
/-- the signs of a stream, each with the chains there -/
def runQ (b : Bk) : (Str → Ch) → List Str → List (Str × (Str → Ch))
  | _, [] => []
  | f, x :: r => match findC b.cs x with
    | some c => runQ b (giveF f c.k c.g) r
    | none => (x, f) :: runQ b f r
theorem rows_q (b : Bk) : ∀ (xs : List Str) (f : Str → Ch), rowsF b f xs = (runQ b f xs).map fun q => (shownS b q.1).map q.2
  | [], _ => rfl
  | x :: xs, f => by
    simp only [rowsF, runQ]
    cases e : findC b.cs x with
    | some c => exact rows_q b xs _
    | none => rw [List.map_cons, ← rows_q b xs f]
theorem signs_q (b : Bk) : ∀ (xs : List Str) (f : Str → Ch), signS b xs = (runQ b f xs).map (·.1)
  | [], _ => rfl
  | x :: xs, f => by
    unfold signS
    simp only [runQ]
    cases e : findC b.cs x with
    | some c =>
      rw [List.filter_cons_of_neg (by simp [e])]
      exact signs_q b xs _
    | none =>
      rw [List.filter_cons_of_pos (by simp [e]), List.map_cons]
      congr 1
      exact signs_q b xs f
def lookQ (b : Bk) (t : List Str) (d : Str → Str) (q : Str × (Str → Ch)) : List Str := (shownS b q.1).map fun a => (worthS t (q.2 a)).getD (d a)
def seeQ (b : Bk) (t : List Str) (d : Str → Str) (q : Str × (Str → Ch)) : T := .tup [.str q.1, tS (lookQ b t d q)]
theorem run_q {b : Bk} (W : GW b) {t : List Str} {d : Str → Str} : ∀ {xs vs : List Str} {f : Str → Ch}, Same5 b t d vs f → runS b t vs xs = (runQ b f xs).map (seeQ b t d)
  | [], _, _, _ => rfl
  | x :: xs, vs, f, h => by
    simp only [runS, runQ]
    cases e : findC b.cs x with
    | some c => exact run_q W (same5_step c h)
    | none =>
      have e2 : lookS b vs x = lookQ b t d (x, f) := List.map_congr_left fun a ha => h.2 a ((shown_sub W x).2 a ha)
      show T.tup [.str x, tS (lookS b vs x)] :: runS b t vs xs = _
      rw [List.map_cons, ← run_q W h, e2]
      rfl
/-- an entry that is told by a function -/
theorem same5_0 {b : Bk} {t vs : List Str} (h : vs.length = b.asp.length) : Same5 b t (getS b.asp vs) vs f0 := ⟨h, fun a ha => rfl⟩
theorem getS_const {v : Str} : ∀ {ks : List Str} {a : Str}, a ∈ ks → getS ks (ks.map fun _ => v) a = v
  | [], _, h => nomatch h
  | k :: ks, a, h => by
    rw [List.map_cons]
    unfold getS
    by_cases e : k = a
    · rw [if_pos e]
    · rw [if_neg e]
      exact getS_const ((List.mem_cons.mp h).resolve_left fun z => e z.symm)
theorem same5_c (b : Bk) (t : List Str) (v : Str) : Same5 b t (fun _ => v) (b.asp.map fun _ => v) f0 := ⟨by rw [List.length_map], fun a ha => getS_const ha⟩
/-! ### numbers of items -/
def nums {α : Type} (P : α → Bool) (l : List α) : List Nat := (l.zipIdx.filter fun p => P p.1).map (·.2)
theorem numb_zip {α : Type} (F : α → T) (l : List α) : numbT (l.map F) = l.zipIdx.map fun p => T.tup [.int (p.2 : Nat), F p.1] := by
  refine List.ext_getElem (by simp [numbT]) fun i h1 h2 => ?_
  simp [numbT]
theorem lc_zip {α : Type} {F : α → T} {P : α → Bool} {a b : Nat} {Ft : FT} {Fe : FE} {vs : List Nat} {τ : Fr} {S : Sto} (hv : ∀ x y : T, slotsIn [(a, x), (b, y)] vs = true) : ∀ {l : List (α × Nat)},
    (∀ p ∈ l, Ft (setsT τ [(a, .int (p.2 : Nat)), (b, F p.1)]) S = .ok (P p.1) S ∧ (P p.1 = true → Fe (setsT τ [(a, .int (p.2 : Nat)), (b, F p.1)]) S = .ok (.int (p.2 : Nat)) S)) →
    lcF (sTup 2 (sCons (sName a) (sCons (sName b) sNil))) Ft Fe vs τ (l.map fun p => T.tup [.int (p.2 : Nat), F p.1]) S = .ok (((l.filter fun p => P p.1).map (·.2)).map fun i : Nat => T.int i) S
  | [], _ => rfl
  | p :: l, h => by
    obtain ⟨h1, h2⟩ := h p List.mem_cons_self
    have ih := lc_zip hv (l := l) fun q hq => h q (List.mem_cons_of_mem _ hq)
    have g : sTup 2 (sCons (sName a) (sCons (sName b) sNil)) (T.tup [.int (p.2 : Nat), F p.1]) = some [(a, .int (p.2 : Nat)), (b, F p.1)] := rfl
    cases e : P p.1 with
    | true => simp only [List.map_cons, lcF, g, hv, h1, e, h2 e, ih, if_true, bind_ok, nox_ok, List.filter_cons_of_pos]
    | false =>
      rw [List.filter_cons_of_neg (by simp [e])]
      simp only [List.map_cons, lcF, g, hv, h1, e, ih, if_true, bind_ok, nox_ok]
theorem lc_nums {α : Type} {F : α → T} {P : α → Bool} {a b : Nat} {Ft : FT} {Fe : FE} {vs : List Nat} {τ : Fr} {S : Sto} (hv : ∀ x y : T, slotsIn [(a, x), (b, y)] vs = true) {l : List α}
    (h : ∀ (i : Nat) (q : α), l[i]? = some q → Ft (setsT τ [(a, .int i), (b, F q)]) S = .ok (P q) S ∧ (P q = true → Fe (setsT τ [(a, .int i), (b, F q)]) S = .ok (.int i) S)) :
    lcF (sTup 2 (sCons (sName a) (sCons (sName b) sNil))) Ft Fe vs τ (numbT (l.map F)) S = .ok (.map (fun i : Nat => T.int i) (nums P l)) S := by
  rw [numb_zip]
  exact lc_zip (P := P) hv fun p hp => h p.2 p.1 (by
    have := List.mem_zipIdx_iff_getElem?.mp hp
    exact this)
theorem nums_congr {α : Type} {P Q : α → Bool} {l : List α} (h : ∀ x ∈ l, P x = Q x) : nums P l = nums Q l := by
  unfold nums
  congr 1
  refine List.filter_congr fun p hp => h p.1 ?_
  exact List.fst_mem_of_mem_zipIdx hp
theorem mem_nums {α : Type} {P : α → Bool} {l : List α} {i : Nat} : i ∈ nums P l ↔ ∃ x, l[i]? = some x ∧ P x = true := by
  unfold nums
  rw [List.mem_map]
  constructor
  · rintro ⟨p, hp, rfl⟩
    obtain ⟨h1, h2⟩ := List.mem_filter.mp hp
    exact ⟨p.1, List.mem_zipIdx_iff_getElem?.mp h1, h2⟩
  · rintro ⟨x, h1, h2⟩
    exact ⟨(x, i), List.mem_filter.mpr ⟨List.mem_zipIdx_iff_getElem?.mpr h1, h2⟩, rfl⟩
theorem nums_len {α : Type} (P : α → Bool) (l : List α) : (nums P l).length ≤ l.length := by
  unfold nums
  rw [List.length_map]
  have := List.length_filter_le (fun p : α × Nat => P p.1) l.zipIdx
  simpa using this
theorem any_lst : ∀ (bs : List Bool) (S : Sto), anyT S [.lst (bs.map T.bl)] = some (.bl (bs.any id)) := fun bs S => by
  have h : ∀ bs : List Bool, bools (bs.map T.bl) = some bs := fun bs => by
    induction bs with
    | nil => rfl
    | cons b bs ih => simp only [List.map_cons, bools, ih, Option.map_some]
  show ((bools (bs.map T.bl)).map fun bs => T.bl (bs.any id)) = _
  rw [h]
  rfl
theorem hangs_there_ok {t : List Str} {r : List Ch} (hz : r.length ≤ 6) : Pu m_hangs_there [rowT r, tS t] (.bl (r.any fun c => (worthS t c).isNone)) := by
  intro S
  have hw := fun c => worth_ok t c
  unfold m_hangs_there b_hangs_there rowT
  generalize m_worth_among = f1 at hw ⊢
  simp_arith [List.length_map, small16 (show r.length ≤ 200 by omega)]
  rw [lc_map (r := fun x => match x with | .tup ts => T.bl (match f1 [x, tS t] [] with | .ok .non _ => true | _ => false) | _ => .non) fun x hx => ?a]
  case a =>
    obtain ⟨c, hc, rfl⟩ := List.mem_map.mp hx
    refine ⟨_, rfl, slots1 _ _, rfl, ?_⟩
    show _ = Res.ok (T.bl (match f1 [chT c, tS t] [] with | .ok .non _ => true | _ => false)) S
    rw [hw c []]
    cases e : worthS t c with
    | none => simp_arith [hw c S, e, optT, isNT]
    | some v => simp_arith [hw c S, e, optT, isNT]
  have e : (r.map chT).map (fun x => match x with | .tup ts => T.bl (match f1 [x, tS t] [] with | .ok .non _ => true | _ => false) | _ => .non : T → T) = (r.map fun c => (worthS t c).isNone).map T.bl := by
    rw [List.map_map, List.map_map]
    refine List.map_congr_left fun c _ => ?_
    show T.bl (match f1 [chT c, tS t] [] with | .ok .non _ => true | _ => false) = T.bl (worthS t c).isNone
    rw [hw c []]
    cases worthS t c <;> rfl
  simp_arith [e, any_lst]
  rw [List.any_map]
  rfl
end SF
set_option Elab.async false
set_option linter.all false
set_option maxRecDepth 100000
namespace SF
open PySem PySem.Spec L2 TL
open PyProof.Rows hiding St
theorem BL.gc {b : Bk} (B : BL b) : GC b := ⟨B.gl.w, fun c hc => So.of (rp_all _ (by
    simp only [List.mem_append]
    exact .inl (.inl (.inl (.inr (B.cl c hc).k))))), fun c hc p hp => So.of (B.gl.val c hc p hp).2, ⟨K3, by decide, fun c hc => (B.cl c hc).k⟩⟩
/-- a stream that may be looked at -/
structure GX (b : Bk) (xs : List Str) : Prop where
  i : GI b xs
  so : ∀ x ∈ xs, findC b.cs x = none → So x
theorem XL.gx {b : Bk} {xs : List Str} (X : XL b xs) : GX b xs := ⟨X.gi, fun x hx h => So.of (X.rp x hx h)⟩
theorem q_mem {b : Bk} : ∀ {xs : List Str} {f : Str → Ch} {q : Str × (Str → Ch)}, q ∈ runQ b f xs → q.1 ∈ xs ∧ findC b.cs q.1 = none ∧ ∃ ys, q.2 = chainF b f ys
  | [], _, _, h => nomatch h
  | x :: xs, f, q, h => by
    simp only [runQ] at h
    cases e : findC b.cs x with
    | some c =>
      rw [e] at h
      obtain ⟨h1, h2, ys, h3⟩ := q_mem h
      exact ⟨List.mem_cons_of_mem _ h1, h2, x :: ys, by simp only [chainF, e]; exact h3⟩
    | none =>
      rw [e] at h
      rcases List.mem_cons.mp h with rfl | h
      · exact ⟨List.mem_cons_self, e, [], rfl⟩
      · obtain ⟨h1, h2, h3⟩ := q_mem h
        exact ⟨List.mem_cons_of_mem _ h1, h2, h3⟩
theorem q_len {b : Bk} : ∀ (xs : List Str) (f : Str → Ch), (runQ b f xs).length ≤ xs.length
  | [], _ => Nat.le_refl _
  | x :: xs, f => by
    simp only [runQ]
    cases findC b.cs x with
    | some c => exact Nat.le_succ_of_le (q_len xs _)
    | none => exact Nat.succ_le_succ (q_len xs f)
theorem worth_mem {t : List Str} {v : Str} : ∀ {c : Ch}, worthS t c = some v → ∃ p ∈ c, p.1 ∈ t ∧ p.2 = v
  | [], h => by cases h
  | p :: c, h => by
    rw [worth_cons] at h
    split at h
    · rename_i hp
      exact ⟨p, List.mem_cons_self, hp, Option.some.inj h⟩
    · obtain ⟨q, hq, r⟩ := worth_mem h
      exact ⟨q, List.mem_cons_of_mem _ hq, r⟩
theorem GC.vals {b : Bk} (G : GC b) {xs : List Str} (a : Str) : ∀ p ∈ chainF b f0 xs a, So p.2 := chain_vals (P := fun p => So p.2) (fun c hc p hp => G.vo c hc p hp) (fun _ p h => by cases h) a
theorem see_pl {b : Bk} (G : GC b) {xs : List Str} (X : GX b xs) {t : List Str} {d : Str → Str} (hd : ∀ a ∈ b.asp, So (d a)) {q : Str × (Str → Ch)} (hq : q ∈ runQ b f0 xs) : pl 2 (seeQ b t d q) = true := by
  obtain ⟨h1, h2, ys, h3⟩ := q_mem hq
  refine pl_tup fun u hu => ?_
  rcases List.mem_cons.mp hu with rfl | hu
  · exact X.so _ h1 h2
  · rw [List.mem_singleton.mp hu]
    refine pl_tS fun x hx => ?_
    obtain ⟨a, ha, rfl⟩ := List.mem_map.mp hx
    cases e : worthS t (q.2 a) with
    | none => exact hd a ((shown_sub G.w _).2 a ha)
    | some v =>
      obtain ⟨p, hp, _, e2⟩ := worth_mem e
      rw [h3] at hp
      show So v
      rw [← e2]
      exact G.vals a p hp
theorem see_inj {b : Bk} {t : List Str} {d e : Str → Str} {q r : Str × (Str → Ch)} : seeQ b t d q = seeQ b t e r ↔ q.1 = r.1 ∧ lookQ b t d q = lookQ b t e r := by
  unfold seeQ
  rw [T.tup.injEq, List.cons.injEq, List.cons.injEq, T.str.injEq, tS_inj]
  simp
/-- the stream hangs at this sign -/
def hangP (b : Bk) (t : List Str) (q : Str × (Str → Ch)) : Bool := ((shownS b q.1).map q.2).any fun c => (worthS t c).isNone
theorem look_eq {b : Bk} {t : List Str} {d e : Str → Str} {q : Str × (Str → Ch)} (h : hangP b t q = false) : lookQ b t d q = lookQ b t e q := by
  refine List.map_congr_left fun a ha => ?_
  cases hw : worthS t (q.2 a) with
  | some v => rfl
  | none =>
    have : hangP b t q = true := List.any_eq_true.mpr ⟨q.2 a, List.mem_map_of_mem ha, by rw [hw]; rfl⟩
    rw [this] at h
    cases h
theorem look_ne {b : Bk} {t : List Str} {d e : Str → Str} {q : Str × (Str → Ch)} (hd : ∀ a ∈ b.asp, d a ≠ e a) (W : GW b) (h : hangP b t q = true) : lookQ b t d q ≠ lookQ b t e q := fun z => by
  obtain ⟨c, hc, hn⟩ := List.any_eq_true.mp h
  obtain ⟨a, ha, rfl⟩ := List.mem_map.mp hc
  have z2 : (worthS t (q.2 a)).getD (d a) = (worthS t (q.2 a)).getD (e a) := List.map_inj_left.mp z a ha
  rw [Option.isNone_iff_eq_none.mp hn] at z2
  exact hd a ((shown_sub W _).2 a ha) z2
theorem hung_ok {b : Bk} (G : GC b) {xs : List Str} (X : GX b xs) (t : List Str) : Pu m__law_hung [bT b, tS xs, tS t] (.lst (.map (fun i : Nat => T.int i) (nums (hangP b t) (runQ b f0 xs)))) := by
  intro S
  have W := G.w
  have e1 := law_entry_ok W
  have l1 := fun {vs : List Str} (hv : vs.length = b.asp.length) => law_seen_ok W (t := t) X.i hv
  have r1 : ∀ v : Str, runS b t (b.asp.map fun _ => v) xs = (runQ b f0 xs).map (seeQ b t fun _ => v) := fun v => run_q W (same5_c b t v)
  have ql := q_len (b := b) xs f0
  have xl := X.i.len
  unfold m__law_hung b__law_hung
  generalize m__law_entry = g1 at e1 ⊢
  generalize m__law_seen = g2 at l1 ⊢
  have s1 : ∀ (v : Str) S, g2 [bT b, tS xs, tS t, dS b.asp (b.asp.map fun _ => v)] S = .ok (.tup ((runQ b f0 xs).map (seeQ b t fun _ => v))) S := fun v S => by
    rw [l1 (by rw [List.length_map]) S, r1]
  have pm := fun (v : Str) (hv : So v) {q : Str × (Str → Ch)} (hq : q ∈ runQ b f0 xs) => see_pl G X (t := t) (d := fun _ => v) (fun _ _ => hv) hq
  generalize hQ : runQ b f0 xs = Q at s1 pm ql ⊢
  simp_arith [e1 "mm" S, s1 "mm" S, e1 "nn" S, s1 "nn" S]
  have hz : (numbT (Q.map (seeQ b t fun _ => "mm"))).length ≤ sizeLine := small16 (by simp [numbT]; omega)
  simp_arith [hz]
  rw [lc_nums (P := hangP b t) (fun x y => rfl) fun i q hi => ?_]
  · simp_arith []
  · have hq : q ∈ Q := List.mem_of_getElem? hi
    have ix : ∀ S, ixT S (.tup (Q.map (seeQ b t fun _ => "nn"))) (.int (i : Nat)) = some (seeQ b t (fun _ => "nn") q) := fun S => by
      have hi2 := (List.getElem?_eq_some_iff.mp hi)
      rw [ix_tupn (by rw [List.length_map]; exact hi2.1), List.getElem_map, hi2.2]
    have mm : So "mm" := by decide +kernel
    have nn : So "nn" := by decide +kernel
    have dn : ("mm" : Str) ≠ "nn" := by decide +kernel
    have ne : ∀ S, TL.neT S (seeQ b t (fun _ => "mm") q) (seeQ b t (fun _ => "nn") q) = some (.bl (hangP b t q)) := fun S => by
      rw [ne_pl (k := !hangP b t q) (pl_mono (by decide) (pm "mm" mm hq)) (pl_mono (by decide) (pm "nn" nn hq)) ?_ S, Bool.not_not]
      rw [see_inj]
      cases h : hangP b t q with
      | true => simpa using look_ne (fun _ _ => dn) W h
      | false => simpa using look_eq h
    exact ⟨by simp_arith [ix, ne], fun _ => by simp_arith []⟩
end SF
set_option Elab.async false
set_option linter.all false
set_option maxRecDepth 100000
namespace SF
open PySem PySem.Spec L2 TL
open PyProof.Rows hiding St
/-! ### lists that are shown, lists of numbers -/
theorem textFrom_le {m : Nat} : ∀ {ts : List Str} {k : Nat} {acc : Str}, (∀ t ∈ ts, t.length ≤ m) → (textFrom k acc ts).length ≤ acc.length + ts.length * (m + 2)
  | [], k, acc, _ => by show acc.length ≤ _; simp
  | t :: ts, k, acc, h => by
    have ih := textFrom_le (ts := ts) (k := k + 1) (acc := acc ++ (if k > 0 then ", " else "" : String) ++ t) fun u hu => h u (List.mem_cons_of_mem _ hu)
    have e : (acc ++ (if k > 0 then ", " else "" : String) ++ t).length ≤ acc.length + 2 + t.length := by
      rw [strLen_append, strLen_append]
      have : (((if k > 0 then ", " else "" : String) : Str)).length ≤ 2 := by split <;> decide
      omega
    have h1 := h t List.mem_cons_self
    show (textFrom (k + 1) (acc ++ (if k > 0 then ", " else "" : String) ++ t) ts).length ≤ _
    rw [List.length_cons, Nat.add_mul]
    omega
theorem textFrom_ok : ∀ {ts : List Str} {k : Nat} {acc : Str}, (∀ t ∈ ts, So t) → So acc → So (textFrom k acc ts)
  | [], k, acc, _, ha => ha
  | t :: ts, k, acc, h, ha => textFrom_ok (ts := ts) (k := k + 1) (acc := acc ++ (if k > 0 then ", " else "" : String) ++ t) (fun u hu => h u (List.mem_cons_of_mem _ hu)) (strOk_app (strOk_app ha (by split <;> decide +kernel)) (h t List.mem_cons_self))
theorem Nice.lst {n m k : Nat} {ds : List PyData} (h : ∀ d ∈ ds, Nice n m d) (hk : ds.length ≤ k) : Nice (n + 1) (3 + k * (m + 2)) (.list ds) := by
  have a1 : ∀ {ds : List PyData}, (∀ d ∈ ds, Nice n m d) → PyData.canLayAll0 ds = true ∧ PyData.eqvAll ds ds = true ∧ PyData.showableAll ds = true ∧ PyData.hasDictAll ds = false ∧ PyData.depthAll ds ≤ n := fun {ds} h => by
    induction ds with
    | nil => exact ⟨by simp only [PyData.canLayAll0], by simp only [PyData.eqvAll], by simp only [PyData.showableAll], by simp only [PyData.hasDictAll], by simp only [PyData.depthAll]; exact Nat.zero_le _⟩
    | cons d ds ih =>
      obtain ⟨q1, q2, q3, q4, q5⟩ := ih fun x hx => h x (List.mem_cons_of_mem _ hx)
      have g := h d List.mem_cons_self
      exact ⟨by simp only [PyData.canLayAll0, g.lay, q1, Bool.and_self], by simp only [PyData.eqvAll, g.eqv, q2, Bool.and_self], by simp only [PyData.showableAll, g.sh, q3, Bool.and_self], by simp only [PyData.hasDictAll, g.hd, q4, Bool.or_self], by
        simp only [PyData.depthAll]
        exact Nat.max_le.mpr ⟨g.dp, q5⟩⟩
  obtain ⟨q1, q2, q3, q4, q5⟩ := a1 h
  have hs : ∀ t ∈ ds.map PyData.shown, t.length ≤ m ∧ PyData.strOk t = true := fun t ht => by
    obtain ⟨d, hd, rfl⟩ := List.mem_map.mp ht
    exact ⟨(h d hd).ln, (h d hd).ok⟩
  refine ⟨by simp only [PyData.canLay0]; exact q1, by simp only [PyData.eqv]; exact q2, by simp only [PyData.showable]; exact q3, by simp only [PyData.hasDict]; exact q4, by simp only [PyData.depth]; omega, ?_, ?_⟩
  · simp only [PyData.shown, shownAll_map]
    unfold listText
    rw [strLen_append]
    have := textFrom_le (ts := ds.map PyData.shown) (k := 0) (acc := "[") fun t ht => (hs t ht).1
    rw [List.length_map] at this
    have e1 : (("[" : String) : Str).length = 1 := rfl
    have e2 : (("]" : String) : Str).length = 1 := rfl
    have h3 := Nat.mul_le_mul_right (m + 2) hk
    omega
  · simp only [PyData.shown, shownAll_map]
    unfold listText
    exact strOk_app (textFrom_ok (fun t ht => (hs t ht).2) (by decide +kernel)) (by decide +kernel)
theorem NiceT.lst {n m k : Nat} {ts : List T} (h : ∀ t ∈ ts, ∃ d, toD t = some d ∧ Nice n m d) (hk : ts.length ≤ k) : NiceT (n + 1) (3 + k * (m + 2)) (.lst ts) := by
  obtain ⟨ds, e, hl, hp⟩ := toDs_of h
  exact ⟨.list ds, by simp only [toD, e, Option.map_some], Nice.lst hp (by omega), rfl⟩
theorem nice_nat {i : Nat} (h : i < 300) : Nice 0 100 (.int i) := by
  have a := (show ∀ i : Fin 300, (PyData.shown (.int ((i.val : Nat) : Int))).length ≤ 100 ∧ PyData.strOk (PyData.shown (.int ((i.val : Nat) : Int))) = true ∧ PyData.showable (.int ((i.val : Nat) : Int)) = true by decide +kernel) ⟨i, h⟩
  exact ⟨by simp only [PyData.canLay0], by simp only [PyData.eqv]; exact beq_self_eq_true _, a.2.2, by simp only [PyData.hasDict], by simp only [PyData.depth]; exact Nat.le_refl _, a.1, a.2.1⟩
abbrev natsT (l : List Nat) : List T := l.map fun i : Nat => T.int i
theorem nice_nats {l : List Nat} (h : ∀ i ∈ l, i < 300) (hk : l.length ≤ 300) : NiceT 1 (3 + 300 * 102) (.lst (natsT l)) := NiceT.lst (n := 0) (m := 100) (fun t ht => by
  obtain ⟨i, hi, rfl⟩ := List.mem_map.mp ht
  exact ⟨.int i, rfl, nice_nat (h i hi)⟩) (by rw [List.length_map]; exact hk)
theorem repr_ref {S : Sto} {n : Nat} {ts : List T} (h : S[n]? = some (.lst ts)) : reprT S [.ref n] = reprT S [.lst ts] := by
  have e1 : toD1 S (.ref n) = toD1 S (.lst ts) := by
    show (match S[n]? with | some (.lst ts) => (toDs ts).map PyData.list | _ => none) = (toDs ts).map PyData.list
    rw [h]
  unfold reprT
  simp only [e1]
theorem pl_nats (l : List Nat) : pl 1 (.lst (natsT l)) = true := pl_lst fun t ht => by
  obtain ⟨i, _, rfl⟩ := List.mem_map.mp ht
  rfl
theorem nats_inj : ∀ {a b : List Nat}, natsT a = natsT b → a = b := fun {a b} h => by
  have := congrArg (List.map fun t => match t with | T.int x => x.toNat | _ => 0) h
  simpa [natsT, List.map_map, Function.comp_def] using this
theorem nrs_nats (l : List Nat) : nrs (natsT l) = true := nrs_map fun _ _ => rfl
theorem in_nats (i : Nat) (l : List Nat) (S : Sto) : inT S (.int i) (.lst (natsT l)) = some (.bl (decide (i ∈ l))) := by
  have h1 : ∀ l : List Nat, flats (natsT l) = some (l.map fun i : Nat => V.int i) := fun l => by
    induction l with
    | nil => rfl
    | cons x l ih => simp only [natsT, List.map_cons, flats, flatT] at ih ⊢; rw [ih]; rfl
  have h2 : ∀ l : List Nat, inV (V.int i) (l.map fun i : Nat => V.int i) = decide (i ∈ l) := fun l => by
    induction l with
    | nil => rfl
    | cons y l ih =>
      unfold inV at ih ⊢
      rw [List.map_cons, List.any_cons, ih]
      have e : eqV (V.int y) (V.int i) = decide (i = y) := by
        show ((y : Int) == (i : Int)) = decide (i = y)
        by_cases h : i = y
        · subst h
          simp
        · rw [decide_eq_false h]
          exact beq_false_of_ne fun z => h (by omega)
      rw [e, ← Bool.decide_or]
      exact decide_eq_decide.mpr List.mem_cons.symm
  show Option.map T.bl (match flatT (.int i), flats (natsT l) with | some v, some vs => some (inV v vs) | _, _ => none) = _
  rw [h1]
  simp only [flatT, h2, Option.map_some]
end SF
set_option Elab.async false
set_option linter.all false
set_option maxRecDepth 100000
namespace SF
open PySem PySem.Spec L2 TL
open PyProof.Rows hiding St
/-! ### forms -/
abbrev Run := Str × List Str
def runsR : Ch → List Run
  | [] => []
  | p :: c => match runsR c with
    | [] => [(p.2, [p.1])]
    | (w, ks) :: r => if w = p.2 then (p.2, p.1 :: ks) :: r else (p.2, [p.1]) :: (w, ks) :: r
def formS (c : Ch) : List Run := (runsR c).map fun r => (r.1, sortS r.2)
def worthR (t : List Str) : List Run → Option Str
  | [] => none
  | r :: rs => if (r.2.any fun k => decide (k ∈ t)) = true then some r.1 else worthR t rs
theorem worthR_cons (t : List Str) (r : Run) (rs : List Run) : worthR t (r :: rs) = if (r.2.any fun k => decide (k ∈ t)) = true then some r.1 else worthR t rs := rfl
theorem runsR_cons (p : Str × Str) (c : Ch) : runsR (p :: c) = match runsR c with
    | [] => [(p.2, [p.1])]
    | (w, ks) :: r => if w = p.2 then (p.2, p.1 :: ks) :: r else (p.2, [p.1]) :: (w, ks) :: r := rfl
theorem any_one {t : List Str} {k : Str} : ([k].any fun k => decide (k ∈ t)) = decide (k ∈ t) := by simp
theorem worth_runs (t : List Str) : ∀ c : Ch, worthS t c = worthR t (runsR c)
  | [] => rfl
  | p :: c => by
    have ih := worth_runs t c
    rw [worth_cons, runsR_cons]
    cases e : runsR c with
    | nil =>
      rw [e] at ih
      show _ = worthR t [(p.2, [p.1])]
      rw [worthR_cons, any_one, ih]
      simp only [decide_eq_true_eq]
    | cons x r =>
      obtain ⟨w, ks⟩ := x
      rw [e] at ih
      show _ = worthR t (if w = p.2 then (p.2, p.1 :: ks) :: r else (p.2, [p.1]) :: (w, ks) :: r)
      by_cases h : w = p.2
      · rw [if_pos h, worthR_cons, List.any_cons]
        rw [worthR_cons] at ih
        by_cases hp : p.1 ∈ t
        · rw [if_pos hp, decide_eq_true hp, Bool.true_or, if_pos rfl]
        · rw [if_neg hp, decide_eq_false hp, Bool.false_or, ih, h]
      · rw [if_neg h, worthR_cons, any_one, ih]
        simp only [decide_eq_true_eq]
theorem worthR_sort (t : List Str) : ∀ rs : List Run, worthR t (rs.map fun r => (r.1, sortS r.2)) = worthR t rs
  | [] => rfl
  | r :: rs => by
    rw [List.map_cons, worthR_cons, worthR_cons, worthR_sort t rs]
    have e : ((sortS r.2).any fun k => decide (k ∈ t)) = r.2.any fun k => decide (k ∈ t) := by
      rw [Bool.eq_iff_iff, List.any_eq_true, List.any_eq_true]
      exact ⟨fun ⟨k, h1, h2⟩ => ⟨k, (sortS_perm _).mem_iff.mp h1, h2⟩, fun ⟨k, h1, h2⟩ => ⟨k, (sortS_perm _).mem_iff.mpr h1, h2⟩⟩
    show (if ((sortS r.2).any fun k => decide (k ∈ t)) = true then some r.1 else _) = _
    rw [e]
theorem worth_form (t : List Str) (c : Ch) : worthS t c = worthR t (formS c) := by rw [worth_runs]; exact (worthR_sort t _).symm
theorem form_worth {c d : Ch} (h : formS c = formS d) (t : List Str) : worthS t c = worthS t d := by rw [worth_form, worth_form, h]
/-- runs as they are told: no two side by side of one value, no kind twice -/
inductive RW : List Run → Prop
  | nil : RW []
  | cons {v : Str} {K : List Str} {r : List Run} : K ≠ [] → K.Nodup → (∀ k ∈ K, ∀ x ∈ r, k ∉ x.2) → (∀ x, r.head? = some x → x.1 ≠ v) → RW r → RW ((v, K) :: r)
theorem runs_kinds : ∀ (c : Ch) (k : Str), (∃ x ∈ runsR c, k ∈ x.2) ↔ k ∈ c.map (·.1)
  | [], k => by simp [runsR]
  | p :: c, k => by
    have ih := runs_kinds c k
    rw [List.map_cons, List.mem_cons, ← ih, runsR_cons]
    cases e : runsR c with
    | nil => simp
    | cons x r =>
      obtain ⟨w, ks⟩ := x
      simp only
      split <;> simp [or_assoc]
theorem runs_rw : ∀ {c : Ch}, (c.map (·.1)).Nodup → RW (runsR c)
  | [], _ => .nil
  | p :: c, h => by
    rw [List.map_cons, List.nodup_cons] at h
    obtain ⟨h1, h2⟩ := h
    have ih := runs_rw h2
    have hk := runs_kinds c p.1
    have hp : ∀ x ∈ runsR c, p.1 ∉ x.2 := fun x hx z => h1 (hk.mp ⟨x, hx, z⟩)
    rw [runsR_cons]
    cases e : runsR c with
    | nil => exact .cons (by simp) (by simp) (fun _ _ x hx => nomatch hx) (fun x hx => nomatch hx) .nil
    | cons x r =>
      obtain ⟨w, ks⟩ := x
      rw [e] at ih hp
      simp only
      cases ih with
      | cons a1 a2 a3 a4 a5 =>
        split
        · rename_i hw
          subst hw
          refine .cons (by simp) (List.nodup_cons.mpr ⟨hp _ List.mem_cons_self, a2⟩) (fun k hk x hx => ?_) a4 a5
          rcases List.mem_cons.mp hk with rfl | hk
          · exact hp x (List.mem_cons_of_mem _ hx)
          · exact a3 k hk x hx
        · rename_i hw
          refine .cons (by simp) (by simp) (fun k hk x hx => ?_) (fun x hx => ?_) (.cons a1 a2 a3 a4 a5)
          · rw [List.mem_singleton.mp hk]
            exact hp x hx
          · cases hx
            exact hw
theorem worthR_hit {t : List Str} {v : Str} {K : List Str} {r : List Run} {k : Str} (hk : k ∈ K) (ht : k ∈ t) : worthR t ((v, K) :: r) = some v := by
  rw [worthR_cons, if_pos (List.any_eq_true.mpr ⟨k, hk, decide_eq_true ht⟩)]
theorem worthR_miss {t : List Str} {v : Str} {K : List Str} {r : List Run} (h : ∀ k ∈ K, k ∉ t) : worthR t ((v, K) :: r) = worthR t r := by
  rw [worthR_cons, if_neg]
  intro z
  obtain ⟨k, h1, h2⟩ := List.any_eq_true.mp z
  exact h k h1 (of_decide_eq_true h2)
theorem worthR_none {t : List Str} : ∀ {r : List Run}, worthR t r = none → ∀ x ∈ r, ∀ k ∈ x.2, k ∉ t
  | [], _, x, hx => nomatch hx
  | y :: r, h, x, hx => fun k hk => by
    rw [worthR_cons] at h
    split at h
    · cases h
    · rename_i hn
      rcases List.mem_cons.mp hx with rfl | hx
      · exact fun z => hn (List.any_eq_true.mpr ⟨k, hk, decide_eq_true z⟩)
      · exact worthR_none h x hx k hk
theorem worthR_congr {t s : List Str} : ∀ {r : List Run}, (∀ x ∈ r, ∀ k ∈ x.2, (k ∈ t ↔ k ∈ s)) → worthR t r = worthR s r
  | [], _ => rfl
  | y :: r, h => by
    rw [worthR_cons, worthR_cons, worthR_congr (r := r) fun x hx => h x (List.mem_cons_of_mem _ hx)]
    have e : (y.2.any fun k => decide (k ∈ t)) = y.2.any fun k => decide (k ∈ s) := by
      rw [Bool.eq_iff_iff, List.any_eq_true, List.any_eq_true]
      exact ⟨fun ⟨k, h1, h2⟩ => ⟨k, h1, decide_eq_true ((h y List.mem_cons_self k h1).mp (of_decide_eq_true h2))⟩, fun ⟨k, h1, h2⟩ => ⟨k, h1, decide_eq_true ((h y List.mem_cons_self k h1).mpr (of_decide_eq_true h2))⟩⟩
    rw [e]
/-- two kinds are enough -/
def Agree (A B : List Run) : Prop := ∀ k l : Str, (∃ x ∈ A ++ B, k ∈ x.2) → (∃ x ∈ A ++ B, l ∈ x.2) → worthR [k, l] A = worthR [k, l] B
theorem first_sub {v : Str} {K L : List Str} {A B : List Run} (hA : RW ((v, K) :: A)) (hB : RW ((v, L) :: B)) (h : Agree ((v, K) :: A) ((v, L) :: B)) : ∀ k ∈ K, k ∈ L := by
  intro k hk
  refine Classical.byContradiction fun hn => ?_
  have ink : ∃ x ∈ (v, K) :: A ++ (v, L) :: B, k ∈ x.2 := ⟨(v, K), by simp, hk⟩
  cases hB with
  | cons b1 b2 b3 b4 b5 =>
    have miss : ∀ l : Str, l ∉ L → worthR [k, l] ((v, L) :: B) = worthR [k, l] B := fun l hl => worthR_miss fun z hz q => by
      rcases List.mem_cons.mp q with rfl | q
      · exact hn hz
      · rw [List.mem_singleton.mp q] at hz
        exact hl hz
    cases B with
    | nil =>
      have := h k k ink ink
      rw [worthR_hit hk List.mem_cons_self, miss k hn] at this
      cases this
    | cons y B =>
      obtain ⟨w, M⟩ := y
      have hw : w ≠ v := b4 _ rfl
      cases b5 with
      | cons c1 c2 c3 c4 c5 =>
        obtain ⟨l, hl⟩ : ∃ l, l ∈ M := by
          cases M with
          | nil => exact absurd rfl c1
          | cons l M => exact ⟨l, List.mem_cons_self⟩
        have hlL : l ∉ L := fun z => b3 l z (w, M) List.mem_cons_self hl
        have := h k l ink ⟨(w, M), by simp, hl⟩
        rw [worthR_hit hk List.mem_cons_self, miss l hlL, worthR_hit hl (by simp)] at this
        exact hw (Option.some.inj this).symm
theorem Agree.symm {A B : List Run} (h : Agree A B) : Agree B A := fun k l hk hl => (h k l (by
  obtain ⟨x, h1, h2⟩ := hk
  exact ⟨x, by rw [List.mem_append] at h1 ⊢; exact h1.symm, h2⟩) (by
  obtain ⟨x, h1, h2⟩ := hl
  exact ⟨x, by rw [List.mem_append] at h1 ⊢; exact h1.symm, h2⟩)).symm
theorem sort_same {K L : List Str} (hK : K.Nodup) (hL : L.Nodup) (h : ∀ x, x ∈ K ↔ x ∈ L) : sortS K = sortS L :=
  sorted_eq (sortS_pw L) ((sortS_perm L).nodup_iff.mpr hL) (sortS_pw K) ((sortS_perm K).nodup_iff.mpr hK) fun x => by rw [(sortS_perm K).mem_iff, (sortS_perm L).mem_iff, h]
theorem runs_eq : ∀ {A B : List Run}, RW A → RW B → Agree A B → (A.map fun r => (r.1, sortS r.2)) = B.map fun r => (r.1, sortS r.2)
  | [], [], _, _, _ => rfl
  | [], (w, L) :: B, _, hB, h => by
    cases hB with
    | cons b1 b2 b3 b4 b5 =>
      cases L with
      | nil => exact absurd rfl b1
      | cons l L =>
        have := h l l ⟨(w, l :: L), by simp, List.mem_cons_self⟩ ⟨(w, l :: L), by simp, List.mem_cons_self⟩
        rw [worthR_hit (k := l) List.mem_cons_self List.mem_cons_self] at this
        cases this
  | (v, K) :: A, [], hA, _, h => by
    cases hA with
    | cons b1 b2 b3 b4 b5 =>
      cases K with
      | nil => exact absurd rfl b1
      | cons l L =>
        have := h l l ⟨(v, l :: L), by simp, List.mem_cons_self⟩ ⟨(v, l :: L), by simp, List.mem_cons_self⟩
        rw [worthR_hit (k := l) List.mem_cons_self List.mem_cons_self] at this
        cases this
  | (v, K) :: A, (w, L) :: B, hA, hB, h => by
    have hA0 := hA
    have hB0 := hB
    cases hA with
    | cons a1 a2 a3 a4 a5 =>
    cases hB with
    | cons b1 b2 b3 b4 b5 =>
    have hvw : v = w := by
      cases K with
      | nil => exact absurd rfl a1
      | cons k K =>
        cases L with
        | nil => exact absurd rfl b1
        | cons l L =>
          have := h k l ⟨(v, k :: K), by simp, List.mem_cons_self⟩ ⟨(w, l :: L), by simp, List.mem_cons_self⟩
          rw [worthR_hit (k := k) List.mem_cons_self List.mem_cons_self, worthR_hit (k := l) List.mem_cons_self (by simp)] at this
          exact Option.some.inj this
    subst hvw
    have s1 := first_sub hA0 hB0 h
    have s2 := first_sub hB0 hA0 h.symm
    have hKL : ∀ x, x ∈ K ↔ x ∈ L := fun x => ⟨s1 x, s2 x⟩
    rw [List.map_cons, List.map_cons, runs_eq a5 b5 fun k l hk hl => ?_]
    · show (v, sortS K) :: _ = (v, sortS L) :: _
      rw [sort_same a2 b2 hKL]
    · have out : ∀ z : Str, (∃ x ∈ A ++ B, z ∈ x.2) → z ∉ K := fun z ⟨x, hx, hz⟩ hk => by
        rcases List.mem_append.mp hx with q | q
        · exact a3 z hk x q hz
        · exact b3 z ((hKL z).mp hk) x q hz
      have more : ∀ z : Str, (∃ x ∈ A ++ B, z ∈ x.2) → ∃ x ∈ (v, K) :: A ++ (v, L) :: B, z ∈ x.2 := fun z ⟨x, hx, hz⟩ => ⟨x, by
        rcases List.mem_append.mp hx with q | q
        · simp [q]
        · simp [q], hz⟩
      have q := h k l (more k hk) (more l hl)
      have nk : ∀ z ∈ K, z ∉ [k, l] := fun z hz q => by
        rcases List.mem_cons.mp q with rfl | q
        · exact out _ hk hz
        · rw [List.mem_singleton.mp q] at hz
          exact out _ hl hz
      rw [worthR_miss nk, worthR_miss fun z hz => nk z ((hKL z).mpr hz)] at q
      exact q
/-- the document's fact: chains have the same form just if they have the same worth wherever two of their kinds are known -/
theorem form_of_worth {c d : Ch} (hc : (c.map (·.1)).Nodup) (hd : (d.map (·.1)).Nodup) (h : ∀ k l : Str, k ∈ c.map (·.1) ∨ k ∈ d.map (·.1) → l ∈ c.map (·.1) ∨ l ∈ d.map (·.1) → worthS [k, l] c = worthS [k, l] d) : formS c = formS d := by
  refine runs_eq (runs_rw hc) (runs_rw hd) fun k l hk hl => ?_
  have key : ∀ z : Str, (∃ x ∈ runsR c ++ runsR d, z ∈ x.2) → z ∈ c.map (·.1) ∨ z ∈ d.map (·.1) := fun z ⟨x, hx, hz⟩ => by
    rcases List.mem_append.mp hx with q | q
    · exact .inl ((runs_kinds c z).mp ⟨x, q, hz⟩)
    · exact .inr ((runs_kinds d z).mp ⟨x, q, hz⟩)
  rw [← worth_runs, ← worth_runs]
  exact h k l (key k hk) (key l hl)
theorem worth_congr {t s : List Str} {c : Ch} (h : ∀ k ∈ c.map (·.1), (k ∈ t ↔ k ∈ s)) : worthS t c = worthS s c := by
  rw [worth_runs, worth_runs]
  exact worthR_congr fun x hx k hk => h k ((runs_kinds c k).mp ⟨x, hx, hk⟩)
end SF
set_option Elab.async false
set_option linter.all false
set_option maxRecDepth 100000
namespace SF
open PySem PySem.Spec L2 TL
open PyProof.Rows hiding St
/-! ### runs, told from the left -/
def glue (v : Str) (K : List Str) : List Run → List Run
  | [] => [(v, K)]
  | (w, ks) :: r => if w = v then (v, K ++ ks) :: r else (v, K) :: (w, ks) :: r
theorem runsR_glue (p : Str × Str) (c : Ch) : runsR (p :: c) = glue p.2 [p.1] (runsR c) := by
  rw [runsR_cons]
  cases runsR c with
  | nil => rfl
  | cons x r => rfl
theorem glue_glue {v : Str} {K : List Str} {w : Str} {L : List Str} {rs : List Run} : glue v K (glue w L rs) = if w = v then glue v (K ++ L) rs else (v, K) :: glue w L rs := by
  cases rs with
  | nil =>
    show (if w = v then [(v, K ++ L)] else (v, K) :: [(w, L)]) = _
    split <;> rfl
  | cons x r =>
    obtain ⟨u, ks⟩ := x
    show glue v K (if u = w then (w, L ++ ks) :: r else (w, L) :: (u, ks) :: r) = if w = v then (if u = v then (v, K ++ L ++ ks) :: r else (v, K ++ L) :: (u, ks) :: r) else (v, K) :: (if u = w then (w, L ++ ks) :: r else (w, L) :: (u, ks) :: r)
    by_cases h1 : w = v
    · subst h1
      rw [if_pos rfl]
      by_cases h2 : u = w
      · rw [if_pos h2, if_pos h2]
        show (if w = w then (w, K ++ (L ++ ks)) :: r else _) = _
        rw [if_pos rfl, List.append_assoc]
      · rw [if_neg h2, if_neg h2]
        show (if w = w then (w, K ++ L) :: (u, ks) :: r else _) = _
        rw [if_pos rfl]
    · rw [if_neg h1]
      by_cases h2 : u = w
      · rw [if_pos h2]
        show (if w = v then _ else (v, K) :: (w, L ++ ks) :: r) = _
        rw [if_neg h1]
      · rw [if_neg h2]
        show (if w = v then _ else (v, K) :: (w, L) :: (u, ks) :: r) = _
        rw [if_neg h1]
/-- the runs of what is there, of which more comes -/
inductive Acc : List Run → Ch → List Run → Prop
  | nil {c : Ch} : Acc [] c (runsR c)
  | snoc {B : List Run} {v : Str} {K : List Str} {c : Ch} : Acc (B ++ [(v, K)]) c (B ++ glue v K (runsR c))
theorem acc_done {A R : List Run} (h : Acc A [] R) : A = R := by
  cases h with
  | nil => rfl
  | snoc => rfl
/-! ### the program's -/
def runT (r : Run) : T := .tup [.str r.1, tS r.2]
def formT (c : Ch) : T := .tup ((formS c).map runT)
def refsT (n : Nat) (A : List Run) : List T := A.mapIdx fun j r => T.tup [.str r.1, .ref (n + j)]
theorem refs_snoc (n : Nat) (A : List Run) (r : Run) : refsT n (A ++ [r]) = refsT n A ++ [T.tup [.str r.1, .ref (n + A.length)]] := by
  unfold refsT
  rw [List.mapIdx_concat]
theorem refs_len (n : Nat) (A : List Run) : (refsT n A).length = A.length := by
  unfold refsT
  rw [List.length_mapIdx]
theorem ix_last {S : Sto} {n : Nat} {ts : List T} {t : T} (h : S[n]? = some (.lst (ts ++ [t]))) : ixT S (.ref n) (.int (-1)) = some t := by
  have e : dctT S (.ref n) = none := by simp only [dctT, h]
  have e2 : seqL S (.ref n) = some (ts ++ [t]) := by simp only [seqL, h]
  have e3 : atI (ts ++ [t]) (-1) = some t := by
    have hi : ixN (ts ++ [t]).length (-1) = some ts.length := by
      unfold ixN
      rw [if_neg (by omega), List.length_append]
      simp
      omega
    unfold atI
    rw [hi, Option.bind_some]
    simp
  unfold ixT
  rw [e]
  show (seqL S (.ref n)).bind (fun ts => atI ts (-1)) = _
  rw [e2]
  exact e3
def cellsT (A : List Run) : List T := A.map fun r => T.lst (r.2.map T.str)
theorem cells_len (A : List Run) : (cellsT A).length = A.length := by
  unfold cellsT
  rw [List.length_map]
theorem cells_snoc (A : List Run) (r : Run) : cellsT (A ++ [r]) = cellsT A ++ [.lst (r.2.map T.str)] := by
  unfold cellsT
  rw [List.map_append]
  rfl
theorem neg_one (S : Sto) : negT S (.int 1) = some (.int (-1)) := rfl
theorem ix_p0 (x y : T) (S : Sto) : ixT S (.tup [x, y]) (.int 0) = some x := ix_0 _ _ S
theorem nr_runT (r : Run) : nr (runT r) = true := by
  show nrs [.str r.1, tS r.2] = true
  simp only [nrs, nr, nrs_str, Bool.and_self]
theorem nr_formT (c : Ch) : nr (formT c) = true := nrs_map fun r _ => nr_runT r
theorem Acc.one {p : Str × Str} {c : Ch} {R : List Run} (h : Acc [] (p :: c) R) : Acc [(p.2, [p.1])] c R := by
  have e : R = runsR (p :: c) := by
    generalize hA : ([] : List Run) = A at h
    cases h with
    | nil => rfl
    | snoc => simp at hA
  rw [e, runsR_glue]
  exact Acc.snoc (B := [])
theorem Acc.get {B : List Run} {v : Str} {K : List Str} {c : Ch} {R : List Run} (h : Acc (B ++ [(v, K)]) c R) : R = B ++ glue v K (runsR c) := by
  generalize hA : B ++ [(v, K)] = A at h
  cases h with
  | nil => simp at hA
  | snoc =>
    rename_i B' v' K'
    have h1 := List.append_inj' hA rfl
    obtain ⟨rfl, h2⟩ := h1
    cases h2
    rfl
theorem Acc.same {B : List Run} {v : Str} {K : List Str} {p : Str × Str} {c : Ch} {R : List Run} (h : Acc (B ++ [(v, K)]) (p :: c) R) (e : p.2 = v) : Acc (B ++ [(v, K ++ [p.1])]) c R := by
  rw [h.get, runsR_glue, glue_glue, if_pos e]
  exact .snoc
theorem Acc.other {B : List Run} {v : Str} {K : List Str} {p : Str × Str} {c : Ch} {R : List Run} (h : Acc (B ++ [(v, K)]) (p :: c) R) (e : p.2 ≠ v) : Acc ((B ++ [(v, K)]) ++ [(p.2, [p.1])]) c R := by
  rw [h.get, runsR_glue, glue_glue, if_neg e, show B ++ (v, K) :: glue p.2 [p.1] (runsR c) = (B ++ [(v, K)]) ++ glue p.2 [p.1] (runsR c) by simp]
  exact .snoc
theorem snoc_cases (A : List Run) : A = [] ∨ ∃ B v K, A = B ++ [(v, K)] := by
  rcases List.eq_nil_or_concat A with h | ⟨B, r, h⟩
  · exact .inl h
  · exact .inr ⟨B, r.1, r.2, by rw [h]; simp⟩
theorem strsT_map : ∀ l : List Str, strsT (l.map T.str) = some l
  | [] => rfl
  | x :: l => by simp only [List.map_cons, strsT, strsT_map l, Option.map_some]
theorem sort_ref {S : Sto} {n : Nat} {l : List Str} (h : S[n]? = some (.lst (l.map T.str))) (hl : l.length < 64) : sortT S [.ref n] = some (.lst ((sortS l).map T.str)) := by
  have e : dctT S (.ref n) = none := by simp only [dctT, h]
  have e2 : seqL S (.ref n) = some (l.map T.str) := by simp only [seqL, h]
  show (match dctT S (.ref n) with | some (ks, _) => _ | none => (seqL S (.ref n)).bind fun ts => (strsT ts).bind fun xs => if xs.length < 64 then some (T.lst ((sortS xs).map T.str)) else none) = _
  rw [e]
  simp only [e2, Option.bind_some, strsT_map]
  rw [if_pos hl]
theorem runs_of_ok12 {c : Ch} (hz : c.length ≤ 12) (hv : ∀ p ∈ c, So p.2) : Pu m_runs_of [chT c] (formT c) := by
  intro U
  unfold m_runs_of
  refine gc_pure ?_ (nr_formT c)
  unfold b_runs_of chT
  simp_arith []
  generalize hF : forF _ _ _ _ _ = R2
  obtain ⟨τ2, S3, e, A, h1, h2, h3, x2, x3, h4⟩ := for_go hF (fun i τ T1 => ∃ A : List Run, T1 = U ++ .lst (refsT (U.length + 1) A) :: cellsT A ∧ Acc A (c.drop i) (runsR c) ∧ (A.length ≤ i ∧ ∀ r ∈ A, r.2.length ≤ i ∧ So r.1) ∧
      ∃ x2 x3, τ = [some (.tup (c.map pT)), some (.ref U.length), x2, x3, none])
    ⟨[], rfl, .nil, ⟨Nat.le_refl _, fun r h => nomatch h⟩, none, none, rfl⟩ (by
    intro i y τ T1 hx hI
    obtain ⟨A, rfl, hacc, ⟨hl, hr⟩, x2, x3, rfl⟩ := hI
    rw [List.getElem?_map] at hx
    cases ex : c[i]? with
    | none => rw [ex] at hx; cases hx
    | some p =>
    rw [ex] at hx
    cases hx
    have hpm : p ∈ c := List.mem_of_getElem? ex
    have hi := (List.getElem?_eq_some_iff.mp ex).1
    have hdrop : c.drop i = p :: c.drop (i + 1) := by
      rw [List.drop_eq_getElem_cons hi]
      congr 1
      exact (List.getElem?_eq_some_iff.mp ex).2
    rw [hdrop] at hacc
    have z1 : A.length < sizeLine := small16' (by omega)
    have hlen : (U ++ T.lst (refsT (U.length + 1) A) :: cellsT A).length = U.length + 1 + A.length := by
      rw [List.length_append, List.length_cons, cells_len]
      omega
    -- a new run
    have app : ∀ S : Sto, S = U ++ T.lst (refsT (U.length + 1) A) :: cellsT A → S ++ [T.lst [.str p.1]] = U ++ T.lst (refsT (U.length + 1) A) :: (cellsT A ++ [T.lst [.str p.1]]) := fun S h => by rw [h]; simp
    have fresh : Acc (A ++ [(p.2, [p.1])]) (c.drop (i + 1)) (runsR c) → ∃ A' : List Run, U ++ T.lst (refsT (U.length + 1) A ++ [T.tup [.str p.2, .ref (U.length + 1 + A.length)]]) :: (cellsT A ++ [T.lst [.str p.1]]) = U ++ .lst (refsT (U.length + 1) A') :: cellsT A' ∧ Acc A' (c.drop (i + 1)) (runsR c) ∧ (A'.length ≤ i + 1 ∧ ∀ r ∈ A', r.2.length ≤ i + 1 ∧ So r.1) := fun h => by
      refine ⟨_, ?_, h, by rw [List.length_append]; show _ + 1 ≤ _; omega, fun r hr' => ?_⟩
      · rw [refs_snoc, cells_snoc]
        rfl
      · rcases List.mem_append.mp hr' with q | q
        · exact ⟨by have := (hr r q).1; omega, (hr r q).2⟩
        · rw [List.mem_singleton.mp q]
          exact ⟨by show 1 ≤ i + 1; omega, hv p hpm⟩
    refine ⟨_, rfl, ?_⟩
    rcases snoc_cases A with rfl | ⟨B, v, K, rfl⟩
    · obtain ⟨A', e1, e2, e3⟩ := fresh hacc.one
      simp_arith [pT, refs_len, List.length_append, cells_len, Int.reduceAdd, refsT, cellsT, List.mapIdx_nil, Int.natCast_zero, Int.lt_irrefl, Nat.add_zero, List.append_assoc, small16' (show 0 ≤ 200 by omega), small16 (show 1 ≤ 200 by omega), small16 (show 2 ≤ 200 by omega)]
      exact goes_nx ⟨A', e1, e2, e3, _, _, rfl⟩
    · obtain ⟨hKl, hso⟩ := hr (v, K) (by simp)
      have g1 : (0 : Int) < ((B ++ [(v, K)]).length : Nat) := by simp
      have il : ∀ J : Sto, ixT (U ++ T.lst (refsT (U.length + 1) (B ++ [(v, K)])) :: J) (.ref U.length) (.int (-1)) = some (.tup [.str v, .ref (U.length + 1 + B.length)]) := fun J => ix_last (ts := refsT (U.length + 1) B) (by rw [sto_end, refs_snoc])
      have eq1 : ∀ S, TL.eqT S (.str v) (.str p.2) = some (.bl (decide (v = p.2))) := eq_str hso (hv p hpm)
      by_cases hvp : v = p.2
      · have S0 : (U ++ T.lst (refsT (U.length + 1) (B ++ [(v, K)])) :: cellsT (B ++ [(v, K)]))[U.length + 1 + B.length]? = some (.lst (K.map T.str)) := by
          rw [List.getElem?_append_right (by omega), show U.length + 1 + B.length - U.length = B.length + 1 by omega, List.getElem?_cons_succ, cells_snoc, List.getElem?_append_right (by rw [cells_len]; omega), cells_len]
          simp
        have la : lstAt (U ++ T.lst (refsT (U.length + 1) (B ++ [(v, K)])) :: cellsT (B ++ [(v, K)])) (U.length + 1 + B.length) = some (K.map T.str) := by
          unfold lstAt
          rw [S0]
        have st : (U ++ T.lst (refsT (U.length + 1) (B ++ [(v, K)])) :: cellsT (B ++ [(v, K)])).set (U.length + 1 + B.length) (.lst ((K ++ [p.1]).map T.str)) = U ++ T.lst (refsT (U.length + 1) (B ++ [(v, K ++ [p.1])])) :: cellsT (B ++ [(v, K ++ [p.1])]) := by
          rw [List.set_append_right _ _ (by omega), show U.length + 1 + B.length - U.length = B.length + 1 by omega, List.set_cons_succ, cells_snoc, cells_snoc, refs_snoc, refs_snoc, List.set_append_right _ _ (by rw [cells_len]; omega), cells_len]
          simp
        have zK : K.length < sizeLine := small16' (by have : K.length ≤ i := hKl; omega)
        simp_arith [pT, refs_len, g1, neg_one, il, eq1, decide_eq_true hvp, la, List.length_map, zK, map_snoc, st]
        refine goes_nx ⟨_, rfl, hacc.same hvp.symm, ⟨by simpa using (show (B ++ [(v, K)]).length ≤ i + 1 by omega), fun r hr' => ?_⟩, _, _, rfl⟩
        rcases List.mem_append.mp hr' with q | q
        · have := hr r (List.mem_append_left _ q)
          exact ⟨by omega, this.2⟩
        · rw [List.mem_singleton.mp q]
          exact ⟨by rw [List.length_append]; show K.length + 1 ≤ i + 1; have : K.length ≤ i := hKl; omega, hso⟩
      · obtain ⟨A', e1, e2, e3⟩ := fresh (hacc.other fun z => hvp z.symm)
        have z1' : (refsT (U.length + 1) (B ++ [(v, K)])).length < sizeLine := by rw [refs_len]; exact z1
        simp_arith [pT, refs_len, g1, neg_one, il, eq1, decide_eq_false hvp, hlen, small16 (show 1 ≤ 200 by omega), small16 (show 2 ≤ 200 by omega), app _ rfl, z1, z1']
        exact goes_nx ⟨A', e1, e2, e3, _, _, rfl⟩)
  subst e h1 h4
  rw [List.length_map, List.drop_length] at h2
  have hA := acc_done h2
  have hz2 : (refsT (U.length + 1) A).length ≤ sizeLine := by
    rw [refs_len]
    have := h3.1
    rw [List.length_map] at this
    exact small16 (by omega)
  obtain ⟨S4, hS4⟩ : ∃ S4, U ++ T.lst (refsT (U.length + 1) A) :: cellsT A = S4 := ⟨_, rfl⟩
  simp_arith [hz2]
  rw [hS4]
  rw [lcC_map (r := fun x => match x with | .tup [.str v, .ref m] => .tup [.str v, match S4[m]? with | some (.lst ts) => (match strsT ts with | some l => tS (sortS l) | none => .non) | _ => .non] | _ => .non) (by rw [← hS4, sto_end]) fun x hx => ?a]
  case a =>
    obtain ⟨j, hj, rfl⟩ := List.mem_iff_getElem.mp hx
    have hjA : j < A.length := by rwa [refs_len] at hj
    have ej : (refsT (U.length + 1) A)[j] = T.tup [.str (A[j]).1, .ref (U.length + 1 + j)] := by simp [refsT]
    have es : S4[U.length + 1 + j]? = some (.lst ((A[j]).2.map T.str)) := by
      rw [← hS4, List.getElem?_append_right (by omega), show U.length + 1 + j - U.length = j + 1 by omega, List.getElem?_cons_succ]
      unfold cellsT
      rw [List.getElem?_map, List.getElem?_eq_getElem hjA]
      rfl
    have hl64 : (A[j]).2.length < 64 := by
      have := (h3.2 A[j] (List.getElem_mem hjA)).1
      rw [List.length_map] at this
      omega
    rw [ej]
    refine ⟨_, rfl, rfl, rfl, ?_⟩
    simp_arith [sort_ref es hl64, small16 (show 2 ≤ 200 by omega), es, strsT_map]
  have er : (refsT (U.length + 1) A).map (fun x => match x with | .tup [.str v, .ref m] => T.tup [.str v, match S4[m]? with | some (.lst ts) => (match strsT ts with | some l => tS (sortS l) | none => .non) | _ => .non] | _ => .non : T → T) = (formS c).map runT := by
    unfold formS
    rw [List.map_map, ← hA]
    refine List.ext_getElem (by simp [refsT]) fun j h1 h2 => ?_
    have hjA : j < A.length := by simpa using h2
    have es : S4[U.length + 1 + j]? = some (.lst ((A[j]).2.map T.str)) := by
      rw [← hS4, List.getElem?_append_right (by omega), show U.length + 1 + j - U.length = j + 1 by omega, List.getElem?_cons_succ]
      unfold cellsT
      rw [List.getElem?_map, List.getElem?_eq_getElem hjA]
      rfl
    simp only [refsT, List.getElem_map, List.getElem_mapIdx, es, strsT_map]
    rfl
  simp_arith [er]
  exact ⟨_, by rw [← hS4]; rfl⟩
theorem runs_of_ok {c : Ch} (hz : c.length ≤ 6) (hv : ∀ p ∈ c, So p.2) : Pu m_runs_of [chT c] (formT c) := runs_of_ok12 (Nat.le_trans hz (by decide)) hv
end SF
set_option Elab.async false
set_option linter.all false
set_option maxRecDepth 100000
namespace SF
open PySem PySem.Spec L2 TL
open PyProof.Rows hiding St
/-! ### a loop that may return -/
theorem for_stop0 {g : GT} {B : BS} {I : Nat → Fr → Sto → Prop} {P : Nat → Prop} {J : T → Sto → Prop} : ∀ {xs : List T} {n : Nat} {τ : Fr} {S : Sto}, I n τ S →
    (∀ i x τ S, xs[i]? = some x → I (n + i) τ S → ∃ l, g x = some l ∧ ((P (n + i) ∧ TL.Goes (B (setsT τ l) S) (I (n + i + 1))) ∨ (¬ P (n + i) ∧ ∃ r S2, B (setsT τ l) S = .rt r S2 ∧ J r S2))) →
    (∃ τ2 S2, forF g B xs τ S = .nx τ2 S2 ∧ I (n + xs.length) τ2 S2 ∧ ∀ i, i < xs.length → P (n + i)) ∨ ∃ i r S2, i < xs.length ∧ ¬ P (n + i) ∧ forF g B xs τ S = .rt r S2 ∧ J r S2
  | [], n, τ, S, h0, _ => .inl ⟨τ, S, rfl, h0, fun i hi => absurd hi (Nat.not_lt_zero _)⟩
  | x :: xs, n, τ, S, h0, h => by
    obtain ⟨l, h1, h2⟩ := h 0 x τ S rfl h0
    have rest : ∀ τ2 S2, I (n + 1) τ2 S2 → P n → forF g B (x :: xs) τ S = forF g B xs τ2 S2 →
        (∃ τ2 S2, forF g B (x :: xs) τ S = .nx τ2 S2 ∧ I (n + (x :: xs).length) τ2 S2 ∧ ∀ i, i < (x :: xs).length → P (n + i)) ∨ ∃ i r S2, i < (x :: xs).length ∧ ¬ P (n + i) ∧ forF g B (x :: xs) τ S = .rt r S2 ∧ J r S2 := fun τ2 S2 hI hp e => by
      rcases for_stop0 (n := n + 1) (xs := xs) (P := P) (J := J) (I := I) hI (fun i y τ S hy hI => by
        have q := h (i + 1) y τ S (by simpa using hy) (by rw [show n + (i + 1) = n + 1 + i by omega]; exact hI)
        rw [show n + (i + 1) = n + 1 + i by omega] at q
        exact q) with ⟨τ3, S3, e3, q, hp3⟩ | ⟨i, r, S3, hi, hn, e3, q⟩
      · refine .inl ⟨τ3, S3, e.trans e3, by rw [List.length_cons, show n + (xs.length + 1) = n + 1 + xs.length by omega]; exact q, fun i hi => ?_⟩
        cases i with
        | zero => exact hp
        | succ i => rw [show n + (i + 1) = n + 1 + i by omega]; exact hp3 i (by simpa using hi)
      · exact .inr ⟨i + 1, r, S3, by simpa using hi, by rw [show n + (i + 1) = n + 1 + i by omega]; exact hn, e.trans e3, q⟩
    rcases h2 with ⟨hp, hg⟩ | ⟨hn, r, S2, e, q⟩
    · unfold TL.Goes at hg
      split at hg
      · rename_i e
        exact rest _ _ hg hp (by simp only [forF, h1, e])
      · rename_i e
        exact rest _ _ hg hp (by simp only [forF, h1, e])
      · exact hg.elim
    · exact .inr ⟨0, r, S2, Nat.succ_pos _, hn, by simp only [forF, h1, e], q⟩
theorem for_stop {g : GT} {B : BS} {xs : List T} {τ : Fr} {S : Sto} {R : RS} (hF : forF g B xs τ S = R) (P : Nat → Prop) (I : Nat → Fr → Sto → Prop) (J : T → Sto → Prop) (h0 : I 0 τ S)
    (h : ∀ i x τ S, xs[i]? = some x → I i τ S → ∃ l, g x = some l ∧ ((P i ∧ TL.Goes (B (setsT τ l) S) (I (i + 1))) ∨ (¬ P i ∧ ∃ r S2, B (setsT τ l) S = .rt r S2 ∧ J r S2))) :
    (∃ τ2 S2, R = .nx τ2 S2 ∧ I xs.length τ2 S2 ∧ ∀ i, i < xs.length → P i) ∨ ∃ i r S2, i < xs.length ∧ ¬ P i ∧ R = .rt r S2 ∧ J r S2 := by
  have q := for_stop0 (n := 0) (xs := xs) (g := g) (B := B) (I := I) (P := P) (J := J) (τ := τ) (S := S) h0 fun i x τ S hx hI => by
    rw [Nat.zero_add] at hI ⊢
    exact h i x τ S hx hI
  simp only [Nat.zero_add] at q
  rw [hF] at q
  exact q
/-! ### forms alike -/
theorem pT_inj {p q : Str × Str} : pT p = pT q ↔ p = q := by
  unfold pT
  rw [T.tup.injEq, List.cons.injEq, List.cons.injEq, T.str.injEq, T.str.injEq, Prod.ext_iff]
  simp
theorem map_inj_of {α : Type} {f : α → T} (h : ∀ a b, f a = f b → a = b) : ∀ {x y : List α}, x.map f = y.map f → x = y
  | [], [], _ => rfl
  | [], _ :: _, e => by simp at e
  | _ :: _, [], e => by simp at e
  | a :: x, b :: y, e => by
    rw [List.map_cons, List.map_cons, List.cons.injEq] at e
    rw [h _ _ e.1, map_inj_of h e.2]
theorem chT_inj {c d : Ch} : chT c = chT d ↔ c = d := ⟨fun h => map_inj_of (fun a b => pT_inj.mp) (T.tup.inj h), fun h => by rw [h]⟩
theorem runT_inj {a b : Run} (h : runT a = runT b) : a = b := by
  unfold runT at h
  rw [T.tup.injEq, List.cons.injEq, List.cons.injEq, T.str.injEq, tS_inj] at h
  exact Prod.ext h.1 h.2.1
theorem formT_inj {c d : Ch} : formT c = formT d ↔ formS c = formS d := ⟨fun h => map_inj_of (fun a b => runT_inj) (T.tup.inj h), fun h => by unfold formT; rw [h]⟩
/-- a chain that may be told -/
structure GH (c : Ch) : Prop where
  len : c.length ≤ 6
  so : ∀ p ∈ c, So p.1 ∧ So p.2
  nd : (c.map (·.1)).Nodup
theorem pl_chT {c : Ch} (h : GH c) : pl 2 (chT c) = true := pl_tup fun t ht => by
  obtain ⟨p, hp, rfl⟩ := List.mem_map.mp ht
  refine pl_tup fun u hu => ?_
  rcases List.mem_cons.mp hu with rfl | hu
  · exact (h.so p hp).1
  · rw [List.mem_singleton.mp hu]
    exact (h.so p hp).2
theorem runs_so : ∀ {c : Ch}, (∀ p ∈ c, So p.1 ∧ So p.2) → ∀ r ∈ runsR c, So r.1 ∧ ∀ k ∈ r.2, So k
  | [], _, r, hr => nomatch hr
  | p :: c, h, r, hr => by
    have ih := runs_so fun q hq => h q (List.mem_cons_of_mem _ hq)
    have hp := h p List.mem_cons_self
    rw [runsR_cons] at hr
    cases e : runsR c with
    | nil =>
      rw [e] at hr
      rw [List.mem_singleton.mp hr]
      exact ⟨hp.2, fun k hk => by rw [List.mem_singleton.mp hk]; exact hp.1⟩
    | cons x rs =>
      obtain ⟨w, ks⟩ := x
      rw [e] at hr ih
      simp only at hr
      split at hr
      · rcases List.mem_cons.mp hr with rfl | hr
        · refine ⟨hp.2, fun k hk => ?_⟩
          rcases List.mem_cons.mp hk with rfl | hk
          · exact hp.1
          · exact (ih (w, ks) List.mem_cons_self).2 k hk
        · exact ih r (List.mem_cons_of_mem _ hr)
      · rcases List.mem_cons.mp hr with rfl | hr
        · exact ⟨hp.2, fun k hk => by rw [List.mem_singleton.mp hk]; exact hp.1⟩
        · exact ih r hr
theorem pl_formT {c : Ch} (h : GH c) : pl 3 (formT c) = true := pl_tup fun t ht => by
  obtain ⟨r, hr, rfl⟩ := List.mem_map.mp ht
  obtain ⟨r0, hr0, rfl⟩ := List.mem_map.mp hr
  obtain ⟨s1, s2⟩ := runs_so h.so r0 hr0
  refine pl_tup fun u hu => ?_
  rcases List.mem_cons.mp hu with rfl | hu
  · exact s1
  · rw [List.mem_singleton.mp hu]
    exact pl_tS fun x hx => s2 x ((sortS_perm _).mem_iff.mp hx)
theorem eq_chT {c d : Ch} (h : GH c) (g : GH d) (S : Sto) : TL.eqT S (chT c) (chT d) = some (.bl (decide (c = d))) := eq_pl (pl_mono (by decide) (pl_chT h)) (pl_mono (by decide) (pl_chT g)) (by rw [decide_eq_true_eq, chT_inj]) S
theorem eq_formT {c d : Ch} (h : GH c) (g : GH d) (S : Sto) : TL.eqT S (formT c) (formT d) = some (.bl (decide (formS c = formS d))) := eq_pl (pl_mono (by decide) (pl_formT h)) (pl_mono (by decide) (pl_formT g)) (by rw [decide_eq_true_eq, formT_inj]) S
theorem one_form_ok {c d : Ch} (h : GH c) (g : GH d) : Pu m_have_one_form [chT c, chT d] (.bl (decide (formS c = formS d))) := by
  intro S
  have r1 := runs_of_ok h.len fun p hp => (h.so p hp).2
  have r2 := runs_of_ok g.len fun p hp => (g.so p hp).2
  unfold m_have_one_form b_have_one_form
  generalize m_runs_of = f1 at r1 r2 ⊢
  by_cases e : c = d
  · subst e
    simp_arith [eq_chT h h]
  · simp_arith [eq_chT h g, decide_eq_false e, r1 S, r2 S, eq_formT h g]
theorem all_bools (bs : List Bool) (S : Sto) : allT S [.lst (bs.map T.bl)] = some (.bl (bs.all id)) := by
  have h : ∀ bs : List Bool, bools (bs.map T.bl) = some bs := fun bs => by
    induction bs with
    | nil => rfl
    | cons b bs ih => simp only [List.map_cons, bools, ih, Option.map_some]
  show ((bools (bs.map T.bl)).map fun bs => T.bl (bs.all id)) = _
  rw [h]
  rfl
theorem pair_map {α β : Type} (f : α → T) (g : β → T) (xs : List α) (ys : List β) : pairT (xs.map f) (ys.map g) = (List.zip xs ys).map fun p => T.tup [f p.1, g p.2] := by
  unfold pairT
  rw [List.zipWith_map, List.zip, List.map_zipWith]
theorem lc_pairs {α β : Type} {f : α → T} {g : β → T} {r : α × β → T} {a b : Nat} {Fe : FE} {vs : List Nat} {τ : Fr} {S : Sto} (hv : ∀ x y : T, slotsIn [(a, x), (b, y)] vs = true) : ∀ {l : List (α × β)},
    (∀ p ∈ l, Fe (setsT τ [(a, f p.1), (b, g p.2)]) S = .ok (r p) S) → lcF (sTup 2 (sCons (sName a) (sCons (sName b) sNil))) fYes Fe vs τ (l.map fun p => T.tup [f p.1, g p.2]) S = .ok (l.map r) S
  | [], _ => rfl
  | p :: l, h => by
    have h2 := h p List.mem_cons_self
    have ih := lc_pairs hv (l := l) fun q hq => h q (List.mem_cons_of_mem _ hq)
    have e : sTup 2 (sCons (sName a) (sCons (sName b) sNil)) (T.tup [f p.1, g p.2]) = some [(a, f p.1), (b, g p.2)] := rfl
    simp only [List.map_cons, lcF, e, hv, fYes, h2, ih, if_true, bind_ok, nox_ok]
/-- rows of chains with the same forms -/
def likeR (R Q : List (List Ch)) : Prop := R.map (·.map formS) = Q.map (·.map formS)
instance (R Q : List (List Ch)) : Decidable (likeR R Q) := by unfold likeR; infer_instance
theorem zip_all {c d : List Ch} (h : c.length = d.length) : ((List.zip c d).all fun p => decide (formS p.1 = formS p.2)) = decide (c.map formS = d.map formS) := by
  rw [Bool.eq_iff_iff, List.all_eq_true, decide_eq_true_eq]
  induction c generalizing d with
  | nil =>
    cases d with
    | nil => simp
    | cons _ _ => simp at h
  | cons x c ih =>
    cases d with
    | nil => simp at h
    | cons y d =>
      rw [List.zip_cons_cons, List.map_cons, List.map_cons, List.cons.injEq, ← ih (by simpa using h)]
      simp
theorem look_alike_ok {R Q : List (List Ch)} (h : R.map List.length = Q.map List.length) (hR : ∀ r ∈ R, r.length ≤ 6 ∧ ∀ c ∈ r, GH c) (hQ : ∀ r ∈ Q, ∀ c ∈ r, GH c) : Pu m_look_alike [.lst (R.map rowT), .lst (Q.map rowT)] (.bl (decide (likeR R Q))) := by
  intro S
  have of := fun {c d : Ch} (h : GH c) (g : GH d) => one_form_ok h g
  unfold m_look_alike b_look_alike
  generalize m_have_one_form = f1 at of ⊢
  have hl : R.length = Q.length := by
    have := congrArg List.length h
    simpa using this
  simp_arith [pair_map]
  generalize hF : forF _ _ _ _ _ = R2
  have st := for_stop hF (fun i => (R[i]?.map (·.map formS)) = (Q[i]?.map (·.map formS))) (fun i τ T1 => T1 = S ∧ ∃ x2 x3, τ = [some (.lst (R.map rowT)), some (.lst (Q.map rowT)), x2, x3, none, none]) (fun r T1 => r = .bl false ∧ T1 = S)
    ⟨rfl, none, none, rfl⟩ (by
    intro i y τ T1 hx hI
    obtain ⟨rfl, x2, x3, rfl⟩ := hI
    rw [List.getElem?_map] at hx
    cases ez : (R.zip Q)[i]? with
    | none => rw [ez] at hx; cases hx
    | some p =>
    rw [ez] at hx
    cases hx
    obtain ⟨r, q⟩ := p
    obtain ⟨er, eq⟩ := List.getElem?_zip_eq_some.mp ez
    obtain ⟨r6, hr⟩ := hR r (List.mem_of_getElem? er)
    have hq := hQ q (List.mem_of_getElem? eq)
    have hrq : r.length = q.length := by
      have e1 := congrArg (fun l => l[i]?) h
      simp only [List.getElem?_map, er, eq, Option.map_some, Option.some.injEq] at e1
      exact e1
    have lcp := lc_pairs (S := T1) (f := chT) (g := chT) (r := fun p => .bl (decide (formS p.1 = formS p.2))) (a := 4) (b := 5) (vs := [4, 5]) (Fe := fCall f1 (fCons (fVar 4) (fCons (fVar 5) fNil))) (τ := [some (.lst (R.map rowT)), some (.lst (Q.map rowT)), some (.tup (r.map chT)), some (.tup (q.map chT)), none, none]) (fun x y => rfl) (l := r.zip q) fun p hp => by
      have m := List.of_mem_zip hp
      simp_arith [of (hr p.1 m.1) (hq p.2 m.2) T1]
    have ab : ∀ S, allT S [.lst ((r.zip q).map fun p => .bl (decide (formS p.1 = formS p.2)))] = some (.bl (decide (r.map formS = q.map formS))) := fun S => by
      have := all_bools ((r.zip q).map fun p => decide (formS p.1 = formS p.2)) S
      rw [List.map_map] at this
      rw [← zip_all hrq]
      refine this.trans ?_
      rw [List.all_map]
      rfl
    have zz : (r.zip q).length ≤ sizeLine := small16 (by rw [List.length_zip]; omega)
    refine ⟨_, rfl, ?_⟩
    simp only [er, eq, Option.map_some, Option.some.injEq]
    by_cases hp : r.map formS = q.map formS
    · refine .inl ⟨hp, ?_⟩
      simp_arith [show rowT r = .tup (r.map chT) from rfl, show rowT q = .tup (q.map chT) from rfl, pair_map, List.length_map, zz, lcp, ab, decide_eq_true hp]
      exact goes_nx ⟨rfl, _, _, rfl⟩
    · refine .inr ⟨hp, ?_⟩
      simp_arith [show rowT r = .tup (r.map chT) from rfl, show rowT q = .tup (q.map chT) from rfl, pair_map, List.length_map, zz, lcp, ab, decide_eq_false hp]
      exact ⟨_, _, rfl, rfl, rfl⟩)
  have zl : ((R.zip Q).map fun p => T.tup [rowT p.1, rowT p.2]).length = R.length := by rw [List.length_map, List.length_zip]; omega
  rw [zl] at st
  rcases st with ⟨τ2, S2, e, ⟨h1, x2, x3, h2⟩, hall⟩ | ⟨i, r, S2, hi, hn, e, hr, hs⟩
  · have hk : likeR R Q := by
      refine List.ext_getElem? fun i => ?_
      rw [List.getElem?_map, List.getElem?_map]
      by_cases hi : i < R.length
      · exact hall i hi
      · rw [List.getElem?_eq_none (show R.length ≤ i by omega), List.getElem?_eq_none (show Q.length ≤ i by omega)]
    subst e h1 h2
    simp_arith [decide_eq_true hk]
  · have hk : ¬ likeR R Q := fun z => hn (by
      have := congrArg (fun l => l[i]?) z
      simpa only [List.getElem?_map] using this)
    subst e hr hs
    simp_arith [decide_eq_false hk]
end SF
set_option Elab.async false
set_option linter.all false
set_option maxRecDepth 100000
namespace SF
open PySem PySem.Spec L2 TL
open PyProof.Rows hiding St
/-! ### worths along a stream, on one terminal -/
abbrev Ow := Str → Option Str
def giveO (g : List (Str × Str)) (o : Ow) : Ow := g.foldl (fun o p a => if a = p.1 then some p.2 else o a) o
def stepO (t : List Str) (c : Code) (o : Ow) : Ow := if c.k ∈ t then giveO c.g o else o
def afterO (b : Bk) (t : List Str) : Ow → List Str → Ow
  | o, [] => o
  | o, x :: r => match findC b.cs x with
    | some c => afterO b t (stepO t c o) r
    | none => afterO b t o r
def wl (b : Bk) (t : List Str) : Ow → List Str → List (List (Option Str))
  | _, [] => []
  | o, x :: r => match findC b.cs x with
    | some c => wl b t (stepO t c o) r
    | none => (shownS b x).map o :: wl b t o r
abbrev o0 : Ow := fun _ => none
theorem wl_app (b : Bk) (t : List Str) : ∀ (o : Ow) (xs ys : List Str), wl b t o (xs ++ ys) = wl b t o xs ++ wl b t (afterO b t o xs) ys
  | o, [], ys => rfl
  | o, x :: xs, ys => by
    simp only [List.cons_append, wl, afterO]
    cases findC b.cs x with
    | some c => exact wl_app b t _ xs ys
    | none => rw [List.cons_append, wl_app b t o xs ys]
theorem wl_len (b : Bk) (t : List Str) : ∀ (o : Ow) (xs : List Str), (wl b t o xs).length = (signS b xs).length
  | o, [] => rfl
  | o, x :: xs => by
    unfold signS
    simp only [wl]
    cases e : findC b.cs x with
    | some c =>
      rw [List.filter_cons_of_neg (by simp [e])]
      exact wl_len b t _ xs
    | none =>
      rw [List.filter_cons_of_pos (by simp [e]), List.length_cons, List.length_cons, wl_len b t o xs]
      rfl
theorem give_o {t : List Str} {k : Str} (hk : k ∈ t) : ∀ {g : List (Str × Str)} {f : Str → Ch} {o : Ow}, (∀ a, worthS t (f a) = o a) → ∀ a, worthS t (giveF f k g a) = giveO g o a
  | [], f, o, h, a => h a
  | p :: g, f, o, h, a => give_o hk (g := g) (f := fun a => if a = p.1 then behindS (f a) k p.2 else f a) (o := fun a => if a = p.1 then some p.2 else o a) (fun a => by
    show worthS t (if a = p.1 then behindS (f a) k p.2 else f a) = if a = p.1 then some p.2 else o a
    by_cases e : a = p.1
    · rw [if_pos e, if_pos e, worth_behind, if_pos hk]
    · rw [if_neg e, if_neg e]
      exact h a) a
theorem step_o {t : List Str} (c : Code) {f : Str → Ch} {o : Ow} (h : ∀ a, worthS t (f a) = o a) (a : Str) : worthS t (giveF f c.k c.g a) = stepO t c o a := by
  unfold stepO
  split
  · rename_i hk
    exact give_o hk h a
  · rename_i hk
    rw [give_out hk]
    exact h a
theorem wl_rows (b : Bk) (t : List Str) : ∀ (xs : List Str) (f : Str → Ch) (o : Ow), (∀ a, worthS t (f a) = o a) → wl b t o xs = (rowsF b f xs).map (·.map (worthS t))
  | [], _, _, _ => rfl
  | x :: xs, f, o, h => by
    simp only [wl, rowsF]
    cases e : findC b.cs x with
    | some c => exact wl_rows b t xs _ _ (step_o c h)
    | none =>
      show (shownS b x).map o :: wl b t o xs = _
      rw [List.map_cons, wl_rows b t xs f o h, List.map_map]
      congr 1
      exact List.map_congr_left fun a _ => (h a).symm
theorem wl_rows0 (b : Bk) (t xs : List Str) : wl b t o0 xs = (rowsF b f0 xs).map (·.map (worthS t)) := wl_rows b t xs f0 o0 fun _ => rfl
def likeS (b : Bk) (xs ys : List Str) : Prop := likeR (rowsF b f0 xs) (rowsF b f0 ys)
instance (b : Bk) (xs ys : List Str) : Decidable (likeS b xs ys) := by unfold likeS; infer_instance
theorem like_wl {b : Bk} {xs ys : List Str} (h : likeS b xs ys) (t : List Str) : wl b t o0 xs = wl b t o0 ys := by
  have e : ∀ R : List (List Ch), R.map (·.map (worthS t)) = (R.map (·.map formS)).map (·.map (worthR t)) := fun R => by
    rw [List.map_map]
    refine List.map_congr_left fun r _ => ?_
    show r.map (worthS t) = (r.map formS).map (worthR t)
    rw [List.map_map]
    exact List.map_congr_left fun c _ => worth_form t c
  rw [wl_rows0, wl_rows0, e, e, show (rowsF b f0 xs).map (·.map formS) = _ from h]
theorem rows_mem {b : Bk} {xs : List Str} {r : List Ch} (h : r ∈ rowsF b f0 xs) : ∃ x ys, r = (shownS b x).map (chainF b f0 ys) := by
  rw [rows_q] at h
  obtain ⟨q, hq, rfl⟩ := List.mem_map.mp h
  obtain ⟨_, _, ys, e⟩ := q_mem hq
  exact ⟨q.1, ys, by rw [← e]⟩
theorem GC.gh {b : Bk} (G : GC b) (ys : List Str) (a : Str) : GH (chainF b f0 ys a) := by
  obtain ⟨K, hK, hk⟩ := G.kin
  have ci : CI K (chainF b f0 ys a) := CI.chain hk (fun _ => CI.nil K) a
  exact ⟨(G.cs a).1, fun p hp => ⟨(G.cs a).2 p hp, G.vals a p hp⟩, ci.nd⟩
theorem rows_good {b : Bk} (G : GC b) {xs : List Str} : ∀ r ∈ rowsF b f0 xs, r.length ≤ 6 ∧ ∀ c ∈ r, GH c := fun r hr => by
  obtain ⟨x, ys, rfl⟩ := rows_mem hr
  refine ⟨by rw [List.length_map]; exact (shown_sub G.w x).1, fun c hc => ?_⟩
  obtain ⟨a, _, rfl⟩ := List.mem_map.mp hc
  exact G.gh ys a
theorem chain_kinds {b : Bk} {ys : List Str} {a k : Str} (h : k ∈ (chainF b f0 ys a).map (·.1)) : ∃ c ∈ b.cs, c.k = k := by
  obtain ⟨p, hp, rfl⟩ := List.mem_map.mp h
  exact chain_vals (P := fun p => ∃ c ∈ b.cs, c.k = p.1) (fun c hc p _ => ⟨c, hc, rfl⟩) (fun _ p h => by cases h) a p hp
/-- alike on all terminals of at most two kinds of the book -/
theorem like_of {b : Bk} (G : GC b) {xs ys : List Str} (h : ∀ k l : Str, (∃ c ∈ b.cs, c.k = k) → (∃ c ∈ b.cs, c.k = l) → wl b [k, l] o0 xs = wl b [k, l] o0 ys) (hn : wl b [] o0 xs = wl b [] o0 ys) : likeS b xs ys := by
  have at_ : ∀ t, wl b t o0 xs = wl b t o0 ys → ∀ i : Nat, ((rowsF b f0 xs)[i]?.map (·.map (worthS t))) = (rowsF b f0 ys)[i]?.map (·.map (worthS t)) := fun t e i => by
    rw [wl_rows0, wl_rows0] at e
    have := congrArg (fun l => l[i]?) e
    simpa only [List.getElem?_map] using this
  refine List.ext_getElem? fun i => ?_
  rw [List.getElem?_map, List.getElem?_map]
  have h0 := at_ [] hn i
  cases er : (rowsF b f0 xs)[i]? with
  | none =>
    rw [er] at h0
    cases eq : (rowsF b f0 ys)[i]? with
    | none => rfl
    | some q => rw [eq] at h0; cases h0
  | some r =>
    rw [er] at h0
    cases eq : (rowsF b f0 ys)[i]? with
    | none => rw [eq] at h0; cases h0
    | some q =>
      rw [eq] at h0
      simp only [Option.map_some, Option.some.injEq] at h0 ⊢
      obtain ⟨x, zs, rfl⟩ := rows_mem (List.mem_of_getElem? er)
      obtain ⟨y, us, rfl⟩ := rows_mem (List.mem_of_getElem? eq)
      refine List.ext_getElem? fun j => ?_
      have hj : ∀ t, wl b t o0 xs = wl b t o0 ys → (((shownS b x).map (chainF b f0 zs))[j]?.map (worthS t)) = ((shownS b y).map (chainF b f0 us))[j]?.map (worthS t) := fun t e => by
        have z := at_ t e i
        rw [er, eq] at z
        simp only [Option.map_some, Option.some.injEq] at z
        have := congrArg (fun l => l[j]?) z
        simpa only [List.getElem?_map] using this
      rw [List.getElem?_map, List.getElem?_map]
      have j0 := hj [] hn
      simp only [List.getElem?_map] at hj j0 ⊢
      cases ea : (shownS b x)[j]? with
      | none =>
        rw [ea] at j0
        cases eb : (shownS b y)[j]? with
        | none => rfl
        | some a' => rw [eb] at j0; cases j0
      | some a =>
        cases eb : (shownS b y)[j]? with
        | none => rw [ea, eb] at j0; cases j0
        | some a' =>
          simp only [ea, eb, Option.map_some, Option.some.injEq] at hj ⊢
          refine form_of_worth (G.gh zs a).nd (G.gh us a').nd fun k l hk hl => hj _ (h k l ?_ ?_)
          · exact hk.elim chain_kinds chain_kinds
          · exact hl.elim chain_kinds chain_kinds
/-- the same worths, other terminals with the same kinds of the book -/
theorem step_congr {t s : List Str} {c : Code} (h : c.k ∈ t ↔ c.k ∈ s) (o : Ow) : stepO t c o = stepO s c o := by
  unfold stepO
  by_cases e : c.k ∈ t
  · rw [if_pos e, if_pos (h.mp e)]
  · rw [if_neg e, if_neg fun z => e (h.mpr z)]
theorem wl_congr {b : Bk} {t s : List Str} (h : ∀ c ∈ b.cs, (c.k ∈ t ↔ c.k ∈ s)) : ∀ (xs : List Str) (o : Ow), wl b t o xs = wl b s o xs
  | [], _ => rfl
  | x :: xs, o => by
    simp only [wl]
    cases e : findC b.cs x with
    | some c =>
      show wl b t (stepO t c o) xs = wl b s (stepO s c o) xs
      rw [step_congr (h c (findC_mem e).1)]
      exact wl_congr h xs _
    | none =>
      show _ :: wl b t o xs = _ :: wl b s o xs
      rw [wl_congr h xs o]
/-- .. on all sets of kinds of the book -/
theorem like_sets {b : Bk} (B : BL b) {xs ys : List Str} (h : ∀ t : List Str, t.Sublist (kindsS b) → wl b t o0 xs = wl b t o0 ys) : likeS b xs ys := by
  have G := B.gc
  have key : ∀ s : List Str, wl b s o0 xs = wl b s o0 ys := fun s => by
    have q := h ((kindsS b).filter fun k => decide (k ∈ s)) List.filter_sublist
    have cg : ∀ c ∈ b.cs, (c.k ∈ (kindsS b).filter (fun k => decide (k ∈ s)) ↔ c.k ∈ s) := fun c hc => by
      rw [List.mem_filter, decide_eq_true_eq, mem_kinds B]
      exact ⟨fun z => z.2, fun z => ⟨⟨c, hc, rfl⟩, z⟩⟩
    rwa [wl_congr cg, wl_congr cg] at q
  exact like_of G (fun k l _ _ => key _) (key _)
theorem like_refl (b : Bk) (xs : List Str) : likeS b xs xs := rfl
theorem likeS.symm {b : Bk} {xs ys : List Str} (h : likeS b xs ys) : likeS b ys xs := Eq.symm h
theorem likeS.trans {b : Bk} {xs ys zs : List Str} (h : likeS b xs ys) (g : likeS b ys zs) : likeS b xs zs := Eq.trans h g
/-! ### what is needed stays needed -/
theorem give_keep {P p o O : Ow} (h : ∀ a, P a = O a ∨ (P a = p a ∧ O a = o a)) : ∀ g : List (Str × Str), ∀ a, giveO g P a = giveO g O a ∨ (giveO g P a = giveO g p a ∧ giveO g O a = giveO g o a) := fun g => by
  induction g generalizing P p o O with
  | nil => exact h
  | cons q g ih =>
    refine ih (P := fun a => if a = q.1 then some q.2 else P a) (p := fun a => if a = q.1 then some q.2 else p a) (o := fun a => if a = q.1 then some q.2 else o a) (O := fun a => if a = q.1 then some q.2 else O a) fun a => ?_
    by_cases e : a = q.1
    · left
      show (if a = q.1 then _ else _) = if a = q.1 then _ else _
      rw [if_pos e, if_pos e]
    · rcases h a with z | z
      · left
        show (if a = q.1 then _ else _) = if a = q.1 then _ else _
        rw [if_neg e, if_neg e, z]
      · right
        show (if a = q.1 then _ else _) = (if a = q.1 then _ else _) ∧ (if a = q.1 then _ else _) = if a = q.1 then _ else _
        rw [if_neg e, if_neg e, if_neg e, if_neg e]
        exact z
theorem wl_keep {b : Bk} {t : List Str} : ∀ {C : List Str} {P p o O : Ow}, wl b t p C = wl b t o C → (∀ a, P a = O a ∨ (P a = p a ∧ O a = o a)) → wl b t P C = wl b t O C
  | [], _, _, _, _, _, _ => rfl
  | x :: C, P, p, o, O, h, r => by
    simp only [wl] at h ⊢
    cases e : findC b.cs x with
    | some c =>
      rw [e] at h
      refine wl_keep (p := stepO t c p) (o := stepO t c o) h fun a => ?_
      unfold stepO
      split
      · exact give_keep r c.g a
      · exact r a
    | none =>
      rw [e] at h
      simp only [List.cons.injEq] at h ⊢
      refine ⟨List.map_congr_left fun a ha => ?_, wl_keep h.2 r⟩
      have hp : p a = o a := (List.map_inj_left.mp h.1) a ha
      rcases r a with z | ⟨z1, z2⟩
      · exact z
      · rw [z1, z2, hp]
theorem give_step {t : List Str} (c : Code) (p o : Ow) : ∀ a, stepO t c p a = stepO t c o a ∨ (stepO t c p a = p a ∧ stepO t c o a = o a) := fun a => by
  unfold stepO
  split
  · have key : ∀ g : List (Str × Str), ∀ P O : Ow, (∀ a, P a = O a ∨ (P a = p a ∧ O a = o a)) → ∀ a, giveO g P a = giveO g O a ∨ (giveO g P a = p a ∧ giveO g O a = o a) := fun g => by
      induction g with
      | nil => exact fun P O h => h
      | cons q g ih =>
        intro P O h
        refine ih (fun a => if a = q.1 then some q.2 else P a) (fun a => if a = q.1 then some q.2 else O a) fun a => ?_
        by_cases e : a = q.1
        · left
          show (if a = q.1 then _ else _) = if a = q.1 then _ else _
          rw [if_pos e, if_pos e]
        · show (if a = q.1 then _ else P a) = (if a = q.1 then _ else O a) ∨ _
          rw [if_neg e, if_neg e]
          exact h a
    exact key c.g p o (fun a => .inr ⟨rfl, rfl⟩) a
  · exact .inr ⟨rfl, rfl⟩
theorem append_inj_len {α : Type} {a b c d : List α} (h : a ++ b = c ++ d) (l : a.length = c.length) : a = c ∧ b = d := List.append_inj h l
/-- an item that is not needless stays so when a later one that is needless is left out -/
theorem needed_stays {b : Bk} (G : GC b) {A D C : List Str} {w x : Str} {c e : Code} (hw : findC b.cs w = some c) (hx : findC b.cs x = some e) (h : likeS b (A ++ w :: (D ++ C)) (A ++ (D ++ C))) : likeS b (A ++ w :: (D ++ x :: C)) (A ++ (D ++ x :: C)) := by
  have key : ∀ t, wl b t o0 (A ++ w :: (D ++ x :: C)) = wl b t o0 (A ++ (D ++ x :: C)) := fun t => by
    have q := like_wl h t
    rw [wl_app, wl_app] at q ⊢
    have q2 := (append_inj_len q rfl).2
    congr 1
    simp only [wl, hw] at q2 ⊢
    rw [wl_app, wl_app] at q2 ⊢
    obtain ⟨q3, q4⟩ := append_inj_len q2 (by rw [wl_len, wl_len])
    rw [q3]
    congr 1
    simp only [wl, hx]
    exact wl_keep q4 (give_step e _ _)
  exact like_of G (fun _ _ _ _ => key _) (key _)
end SF
set_option Elab.async false
set_option linter.all false
set_option maxRecDepth 100000
namespace SF
open PySem PySem.Spec L2 TL
open PyProof.Rows hiding St
/-! ### alike, needless, lean -/
theorem GI.len' {b : Bk} {xs : List Str} (I : GI b xs) : xs.length ≤ 200 := I.len
theorem sign_so {b : Bk} {xs : List Str} (X : GX b xs) : ∀ x ∈ signS b xs, So x := fun x hx => by
  unfold signS at hx
  obtain ⟨a, c⟩ := List.mem_filter.mp hx
  exact X.so x a (by simpa using c)
theorem same_signs_ok {b : Bk} (G : GC b) {xs ys : List Str} (X : GX b xs) (Y : GX b ys) (h : signS b xs = signS b ys) : Pu m_need_same_signs [bT b, tS xs, tS ys] .non := by
  intro S
  have n1 := need_stream_ok G.w X.i
  have n2 := need_stream_ok G.w Y.i
  have s1 := signs_of_ok G.w X.i
  have s2 := signs_of_ok G.w Y.i
  rw [← h] at s2
  have ne : ∀ S, TL.neT S (tS (signS b xs)) (tS (signS b xs)) = some (.bl false) := fun S => ne_pl (k := true) (pl_mono (by decide) (pl_tS (sign_so X))) (pl_mono (by decide) (pl_tS (sign_so X))) (by simp) S
  unfold m_need_same_signs b_need_same_signs
  generalize m_need_stream = f1 at n1 n2 ⊢
  generalize m_signs_of = f2 at s1 s2 ⊢
  simp_arith [n1 S, n2 S, s1 S, s2 S, ne]
theorem rows_lens {b : Bk} {xs ys : List Str} (h : signS b xs = signS b ys) : (rowsF b f0 xs).map List.length = (rowsF b f0 ys).map List.length := by
  have e : ∀ zs, (rowsF b f0 zs).map List.length = (signS b zs).map fun x => (shownS b x).length := fun zs => by
    rw [rows_q, signs_q b zs f0, List.map_map, List.map_map]
    exact List.map_congr_left fun q _ => by simp
  rw [e, e, h]
theorem look_rows_ok {b : Bk} (G : GC b) {xs ys : List Str} (h : signS b xs = signS b ys) : Pu m_look_alike [.lst ((rowsF b f0 xs).map rowT), .lst ((rowsF b f0 ys).map rowT)] (.bl (decide (likeS b xs ys))) :=
  look_alike_ok (rows_lens h) (rows_good G) fun r hr => (rows_good G r hr).2
theorem alike_ok {b : Bk} (G : GC b) {xs ys : List Str} (X : GX b xs) (Y : GX b ys) (h : signS b xs = signS b ys) : Pu m_alike [bT b, tS xs, tS ys] (.bl (decide (likeS b xs ys))) := by
  intro S
  have n1 := same_signs_ok G X Y h
  have s1 := chains_shown_ok G X.i
  have s2 := chains_shown_ok G Y.i
  have l1 := look_rows_ok G h
  unfold m_alike b_alike
  generalize m_need_same_signs = f1 at n1 ⊢
  generalize m_chains_shown = f2 at s1 s2 ⊢
  generalize m_look_alike = f3 at l1 ⊢
  simp_arith [n1 S, s1 S, s2 S, l1 S]
abbrev wo (xs : List Str) (i : Nat) : List Str := xs.eraseIdx i
theorem wo_eq (xs : List Str) (i : Nat) : wo xs i = xs.take i ++ xs.drop (i + 1) := List.eraseIdx_eq_take_drop_succ ..
theorem slice_from1 (xs : List Str) (k : Nat) (S : Sto) : slT S (tS xs) (some ((k : Int) + 1)) none = some (tS (xs.drop (k + 1))) := by
  have := slice_from xs (k + 1) S
  rw [show ((k + 1 : Nat) : Int) = (k : Int) + 1 by omega] at this
  exact this
theorem add_tS {xs ys : List Str} (h : xs.length + ys.length ≤ 1000) (S : Sto) : addT S (tS xs) (tS ys) = some (tS (xs ++ ys)) := by
  rw [add_tup (Nat.le_trans (by rw [List.length_map, List.length_map]; exact h) (by decide)), ← List.map_append]
theorem without_ok {xs : List Str} (hl : xs.length ≤ 200) (i : Nat) : Pu m_without [tS xs, .int i] (tS (wo xs i)) := by
  intro S
  unfold m_without b_without
  simp_arith [slice_to, add_int, slice_from1, add_tS (show (xs.take i).length + (xs.drop (i + 1)).length ≤ 1000 by rw [List.length_take, List.length_drop]; omega), wo_eq]
theorem GX.sub {b : Bk} {xs ys : List Str} (X : GX b xs) (h : ys.Sublist xs) : GX b ys := ⟨X.i.sub h, fun x hx => X.so x (h.subset hx)⟩
theorem wo_sub (xs : List Str) (i : Nat) : (wo xs i).Sublist xs := List.eraseIdx_sublist _ _
theorem erase_split {xs : List Str} {i : Nat} {x : Str} (h : xs[i]? = some x) : xs = xs.take i ++ x :: xs.drop (i + 1) := split_at h
theorem sign_wo {b : Bk} {xs : List Str} {i : Nat} {x : Str} {c : Code} (h : xs[i]? = some x) (hx : findC b.cs x = some c) : signS b (wo xs i) = signS b xs := by
  have e := split_at h
  rw [wo_eq]
  conv => rhs; rw [e]
  unfold signS
  rw [List.filter_append, List.filter_append, List.filter_cons_of_neg (by simp [hx])]
/-- an item is a word without which the stream looks alike -/
def needP (b : Bk) (xs : List Str) (i : Nat) : Bool := match xs[i]? with
  | some x => (findC b.cs x).isSome && decide (likeS b xs (wo xs i))
  | none => false
theorem is_needless_ok {b : Bk} (G : GC b) {xs rs : List Str} (X : GX b xs) (hs : signS b rs = signS b xs) (hr : likeS b rs xs) {i : Nat} (hi : i < xs.length) : Pu m_is_needless [bT b, tS xs, .int i, .lst ((rowsF b f0 rs).map rowT)] (.bl (needP b xs i)) := by
  intro S
  have hx : xs[i]? = some xs[i] := List.getElem?_eq_getElem hi
  have hm : xs[i] ∈ xs := List.getElem_mem hi
  have w := without_ok X.i.len i
  have s1 := chains_shown_ok G (X.sub (wo_sub xs i)).i
  have l1 := fun (h : signS b rs = signS b (wo xs i)) => look_rows_ok G h
  have hsg : ∀ x k, Sg x k → ∀ S, m_is_sign [.str x] S = .ok (.bl k) S := fun x k h S => h S
  have ix : ∀ S, ixT S (tS xs) (.int i) = some (.str xs[i]) := fun S => by
    rw [ix_tupn (by rw [List.length_map]; exact hi), List.getElem_map]
  unfold m_is_needless b_is_needless
  generalize m_is_sign = f1 at hsg ⊢
  generalize m_without = f2 at w ⊢
  generalize m_chains_shown = f3 at s1 ⊢
  generalize m_look_alike = f4 at l1 ⊢
  unfold needP
  rcases X.i.find G.w hm with ⟨c, hc, e, hfc, hg⟩ | ⟨hg, hfc⟩
  · have e1 : decide (likeS b rs (wo xs i)) = decide (likeS b xs (wo xs i)) := decide_eq_decide.mpr ⟨fun z => hr.symm.trans z, fun z => hr.trans z⟩
    simp_arith [ix, hsg _ _ hg, w S, s1 S, l1 (hs.trans (sign_wo hx hfc).symm) S, hx, hfc, Option.isSome_some, e1]
  · simp_arith [ix, hsg _ _ hg.sg, hx, hfc, Option.isSome_none]
/-- the numbers of the needless items -/
def needL (b : Bk) (xs : List Str) : List Nat := (List.range xs.length).filter (needP b xs)
theorem rng_nat (n : Nat) : rng 0 (n : Int) = (List.range n).map fun i : Nat => T.int i := by
  unfold rng
  rw [show ((n : Int) - 0).toNat = n by omega]
  exact List.map_congr_left fun i _ => by congr 1; omega
theorem lc_range {n a : Nat} {P : Nat → Bool} {Ft : FT} {Fe : FE} {τ : Fr} {S : Sto} (h : ∀ i, i < n → Ft (setsT τ [(a, .int i)]) S = .ok (P i) S ∧ (P i = true → Fe (setsT τ [(a, .int i)]) S = .ok (.int i) S)) :
    lcF (sName a) Ft Fe [a] τ (rng 0 (n : Int)) S = .ok (natsT ((List.range n).filter P)) S := by
  rw [rng_nat]
  rw [lc_filter (p := fun x => match x with | .int i => P i.toNat | _ => false) (r := id) fun x hx => ?a]
  case a =>
    obtain ⟨i, hi, rfl⟩ := List.mem_map.mp hx
    obtain ⟨h1, h2⟩ := h i (List.mem_range.mp hi)
    exact ⟨_, rfl, slots1 _ _, by simpa using h1, fun z => h2 (by simpa using z)⟩
  rw [List.map_id, List.filter_map]
  congr 3
theorem need_len (b : Bk) (xs : List Str) : (needL b xs).length ≤ xs.length := by
  unfold needL
  have := List.length_filter_le (needP b xs) (List.range xs.length)
  simpa using this
theorem needless_ok {b : Bk} (G : GC b) {xs : List Str} (X : GX b xs) (S : Sto) : m_needless [bT b, tS xs] S = .ok (.ref S.length) (S ++ [.lst (natsT (needL b xs))]) := by
  have n1 := need_stream_ok G.w X.i
  have s1 := chains_shown_ok G X.i
  have is := fun {i : Nat} (hi : i < xs.length) => is_needless_ok G X rfl (like_refl b xs) hi
  have xl := X.i.len
  unfold m_needless b_needless
  generalize m_need_stream = f1 at n1 ⊢
  generalize m_chains_shown = f2 at s1 ⊢
  generalize m_is_needless = f3 at is ⊢
  have hz : (rng 0 (xs.length : Int)).length ≤ sizeLine := small16 (by rw [rng_len]; exact xl)
  simp_arith [n1 S, s1 S, List.length_map, inR_small (show (0 : Int) ≤ xs.length by omega) (by omega), hz]
  rw [lc_range (P := needP b xs) fun i hi => ⟨by simp_arith [is hi S], fun _ => by simp_arith []⟩]
  simp_arith []
  rfl
end SF
set_option Elab.async false
set_option linter.all false
set_option maxRecDepth 100000
namespace SF
open PySem PySem.Spec L2 TL
open PyProof.Rows hiding St
/-! ### the lean form -/
inductive LeanR (b : Bk) : List Str → List Str → Prop
  | done {xs : List Str} : needL b xs = [] → LeanR b xs xs
  | step {xs ys : List Str} {i : Nat} : (needL b xs).head? = some i → LeanR b (wo xs i) ys → LeanR b xs ys
theorem LeanR.det {b : Bk} {xs ys zs : List Str} (h : LeanR b xs ys) (g : LeanR b xs zs) : ys = zs := by
  induction h with
  | done e =>
    cases g with
    | done _ => rfl
    | step e2 _ => rw [e] at e2; cases e2
  | step e _ ih =>
    cases g with
    | done e2 => rw [e2] at e; cases e
    | step e2 g2 =>
      rw [e] at e2
      cases e2
      exact ih g2
theorem mem_needL {b : Bk} {xs : List Str} {i : Nat} : i ∈ needL b xs ↔ i < xs.length ∧ needP b xs i = true := by
  unfold needL
  rw [List.mem_filter, List.mem_range]
theorem head_needL {b : Bk} {xs : List Str} {i : Nat} (hi : i < xs.length) (hp : needP b xs i = true) (hn : ∀ j, j < i → needP b xs j = false) : (needL b xs).head? = some i := by
  unfold needL
  rw [List.head?_filter, List.find?_range_eq_some]
  exact ⟨hp, List.mem_range.mpr hi, fun j hj => by rw [hn j hj]; rfl⟩
theorem needP_of {b : Bk} {xs : List Str} {i : Nat} (h : needP b xs i = true) : ∃ x c, xs[i]? = some x ∧ findC b.cs x = some c ∧ likeS b xs (wo xs i) := by
  unfold needP at h
  cases e : xs[i]? with
  | none => rw [e] at h; cases h
  | some x =>
    rw [e] at h
    simp only [Bool.and_eq_true, decide_eq_true_eq] at h
    obtain ⟨c, hc⟩ := Option.isSome_iff_exists.mp h.1
    exact ⟨x, c, rfl, hc, h.2⟩
theorem stays {b : Bk} (G : GC b) {xs : List Str} {i n : Nat} (hin : i < n) (hn : n < xs.length) (hw : ∃ x c, xs[n]? = some x ∧ findC b.cs x = some c) (h : needP b xs i = false) : needP b (wo xs n) i = false := by
  cases hq : needP b (wo xs n) i with
  | false => rfl
  | true =>
    exfalso
    obtain ⟨w, c, e1, e2, e3⟩ := needP_of hq
    obtain ⟨x, d, e4, e5⟩ := hw
    have e1' : xs[i]? = some w := by rwa [wo, List.getElem?_eraseIdx_of_lt hin] at e1
    have sp : xs = xs.take i ++ w :: ((xs.drop (i + 1)).take (n - i - 1) ++ x :: xs.drop (n + 1)) := by
      conv => lhs; rw [split_at e1']
      congr 2
      have e6 : (xs.drop (i + 1))[n - i - 1]? = some x := by
        rw [List.getElem?_drop, show i + 1 + (n - i - 1) = n by omega]
        exact e4
      conv => lhs; rw [split_at e6]
      rw [List.drop_drop, show i + 1 + (n - i - 1 + 1) = n + 1 by omega]
    generalize hA : xs.take i = A at sp
    have lA : A.length = i := by rw [← hA, List.length_take]; omega
    generalize hD : (xs.drop (i + 1)).take (n - i - 1) = D at sp
    have lD : D.length = n - i - 1 := by rw [← hD, List.length_take, List.length_drop]; omega
    generalize xs.drop (n + 1) = C at sp
    have w1 : wo xs i = A ++ (D ++ x :: C) := by
      rw [sp, wo, List.eraseIdx_append_of_length_le (by omega), lA, Nat.sub_self]
      rfl
    have w2 : wo xs n = A ++ w :: (D ++ C) := by
      rw [sp, wo, List.eraseIdx_append_of_length_le (by omega), lA, show n - i = (n - i - 1) + 1 by omega, List.eraseIdx_cons_succ, List.eraseIdx_append_of_length_le (by omega), lD, Nat.sub_self]
      rfl
    have w3 : wo (wo xs n) i = A ++ (D ++ C) := by
      rw [w2, wo, List.eraseIdx_append_of_length_le (by omega), lA, Nat.sub_self]
      rfl
    rw [w3, w2] at e3
    have k := needed_stays G (x := x) e2 e5 e3
    rw [← sp, ← w1] at k
    unfold needP at h
    rw [e1'] at h
    simp only [e2, Option.isSome_some, Bool.true_and, decide_eq_false_iff_not] at h
    exact h k
theorem lean_ok {b : Bk} (G : GC b) {xs : List Str} (X : GX b xs) : ∃ ys, LeanR b xs ys ∧ likeS b xs ys ∧ signS b xs = signS b ys ∧ ys.Sublist xs ∧ Pu m_lean [bT b, tS xs] (tS ys) := by
  have n1 := need_stream_ok G.w X.i
  have s1 := chains_shown_ok G X.i
  have is := fun {ys : List Str} (Y : GX b ys) (hs : signS b xs = signS b ys) (hr : likeS b xs ys) {i : Nat} (hi : i < ys.length) => is_needless_ok G Y hs hr hi
  have wk := fun {ys : List Str} (h : ys.length ≤ 200) (i : Nat) => without_ok h i
  have xl := X.i.len
  unfold m_lean b_lean
  generalize m_need_stream = f1 at n1 ⊢
  generalize m_chains_shown = f2 at s1 ⊢
  generalize m_is_needless = f3 at is ⊢
  generalize m_without = f4 at wk ⊢
  have loop : ∀ (k : Nat) (ys : List Str) (n : Nat), n ≤ ys.length → ys.length - n < k → likeS b xs ys → signS b xs = signS b ys → ys.Sublist xs → (∀ j, j < n → needP b ys j = false) →
      ∃ zs, LeanR b ys zs ∧ likeS b xs zs ∧ signS b xs = signS b zs ∧ zs.Sublist xs ∧ ∀ S, whF (fTest (fBin ltT (fVar 3) (fBlt lenT (fCons (fVar 1) fNil)))) (bIf (fTru (fCall f3 (fCons (fVar 0) (fCons (fVar 1) (fCons (fVar 3) (fCons (fVar 2) fNil)))))) (bSet 1 (fCall f4 (fCons (fVar 1) (fCons (fVar 3) fNil)))) (bAug 3 (fC (.int 1)))) k
        [some (bT b), some (tS ys), some (.lst ((rowsF b f0 xs).map rowT)), some (.int n)] S = .nx [some (bT b), some (tS zs), some (.lst ((rowsF b f0 xs).map rowT)), some (.int zs.length)] S := fun k => by
    induction k with
    | zero => exact fun ys n _ h => absurd h (Nat.not_lt_zero _)
    | succ k ih =>
      intro ys n hn hk hl hs hsub hno
      by_cases hlt : n < ys.length
      · have Y := X.sub hsub
        have i1 := is Y hs hl hlt
        have gt : (n : Int) < ys.length := by omega
        cases hp : needP b ys n with
        | true =>
          rw [hp] at i1
          obtain ⟨x, c, e1, e2, e3⟩ := needP_of hp
          have wl : (wo ys n).length = ys.length - 1 := List.length_eraseIdx_of_lt hlt
          obtain ⟨zs, z1, z2, z3, z4, z5⟩ := ih (wo ys n) n (by omega) (by omega) (hl.trans e3) (hs.trans (sign_wo e1 e2).symm) ((wo_sub ys n).trans hsub) fun j hj => stays G hj hlt ⟨x, c, e1, e2⟩ (hno j hj)
          refine ⟨zs, .step (head_needL hlt hp hno) z1, z2, z3, z4, fun S => ?_⟩
          rw [whF]
          simp_arith [List.length_map, decide_eq_true gt, i1 S, wk Y.i.len n S, z5 S]
        | false =>
          rw [hp] at i1
          obtain ⟨zs, z1, z2, z3, z4, z5⟩ := ih ys (n + 1) hlt (by omega) hl hs hsub fun j hj => by
            by_cases e : j = n
            · rw [e]; exact hp
            · exact hno j (by omega)
          have z5' : ∀ S, _ = _ := z5
          rw [show ((n + 1 : Nat) : Int) = (n : Int) + 1 by omega] at z5'
          refine ⟨zs, z1, z2, z3, z4, fun S => ?_⟩
          rw [whF]
          simp_arith [List.length_map, decide_eq_true gt, i1 S, z5' S]
      · have e : n = ys.length := by omega
        subst e
        have gt : ¬ (ys.length : Int) < ys.length := by omega
        refine ⟨ys, .done ?_, hl, hs, hsub, fun S => ?_⟩
        · refine List.eq_nil_iff_forall_not_mem.mpr fun j hj => ?_
          obtain ⟨h1, h2⟩ := mem_needL.mp hj
          rw [hno j h1] at h2
          cases h2
        · rw [whF]
          simp_arith [List.length_map, decide_eq_false gt]
  obtain ⟨zs, z1, z2, z3, z4, z5⟩ := loop 1000 xs 0 (Nat.zero_le _) (by omega) (like_refl b xs) rfl (List.Sublist.refl _) fun j hj => absurd hj (Nat.not_lt_zero _)
  refine ⟨zs, z1, z2, z3, z4, fun S => ?_⟩
  have z6 := z5 S
  rw [show ((0 : Nat) : Int) = 0 from rfl] at z6
  simp_arith [n1 S, s1 S, z6]
end SF
set_option Elab.async false
set_option linter.all false
set_option maxRecDepth 100000
namespace SF
open PySem PySem.Spec L2 TL
open PyProof.Rows hiding St
/-! ### what the laws see -/
noncomputable def setsOf (ks : List Str) : List (List Str) := if h : ks.length ≤ 6 then Classical.choose (sets_ok h) else []
theorem sets_of {ks : List Str} (h : ks.length ≤ 6) : Sets ks (setsOf ks) ∧ Pu m__law_sets [.lst (ks.map T.str)] (.lst ((setsOf ks).map tS)) := by
  unfold setsOf
  rw [dif_pos h]
  exact Classical.choose_spec (sets_ok h)
theorem kinds3 (b : Bk) : (kindsS b).length ≤ 3 := (kindsS_sub b).length_le
theorem sets_k (b : Bk) : Sets (kindsS b) (setsOf (kindsS b)) ∧ Pu m__law_sets [.lst ((kindsS b).map T.str)] (.lst ((setsOf (kindsS b)).map tS)) := sets_of (by have := kinds3 b; omega)
theorem dict_pairs {g : List (Str × Str)} (h : (g.map (·.1)).Nodup) (S : Sto) : dictT S [.lst (g.map pT)] = some (dS (g.map (·.1)) (g.map (·.2))) := by
  show ((pairsT (g.map pT)).map fun prs => T.dct (mergeT ([], []) prs).1 (mergeT ([], []) prs).2) = _
  have e : (g.map fun p => ((Sum.inr p.1 : Key), T.str p.2)).map (·.1) = kS (g.map (·.1)) := by
    rw [List.map_map]
    show _ = (g.map (·.1)).map Sum.inr
    rw [List.map_map]
    rfl
  rw [pairs_g, Option.map_some, merge_nil (by rw [e]; exact nodup_inr h), e, List.map_map]
  show some (T.dct _ _) = some (T.dct _ _)
  rw [List.map_map]
  rfl
def ovV (k : Nat) : Str := if k % 2 = 0 then "other" else "v"
def v4S (b : Bk) : List Str := b.asp.zipIdx.map fun p => ovV p.2
/-- the values of the laws' four entries -/
def entL (b : Bk) : List (List Str) := [b.asp.map fun _ => "own", b.asp.map fun _ => "plain", b.asp.map fun _ => "u", v4S b]
theorem v4_len (b : Bk) : (v4S b).length = b.asp.length := by
  unfold v4S
  rw [List.length_map, List.length_zipIdx]
theorem ent_len {b : Bk} : ∀ vs ∈ entL b, vs.length = b.asp.length := fun vs h => by
  unfold entL at h
  simp only [List.mem_cons, List.not_mem_nil, or_false] at h
  rcases h with rfl | rfl | rfl | rfl
  · exact List.length_map _
  · exact List.length_map _
  · exact List.length_map _
  · exact v4_len b
theorem ent_so {b : Bk} : ∀ vs ∈ entL b, ∀ v ∈ vs, So v := fun vs h v hv => by
  have a : ∀ x ∈ (["own", "plain", "u", "other", "v"] : List Str), So x := by decide +kernel
  unfold entL at h
  simp only [List.mem_cons, List.not_mem_nil, or_false] at h
  rcases h with rfl | rfl | rfl | rfl
  · obtain ⟨_, _, rfl⟩ := List.mem_map.mp hv; exact a _ (by decide +kernel)
  · obtain ⟨_, _, rfl⟩ := List.mem_map.mp hv; exact a _ (by decide +kernel)
  · obtain ⟨_, _, rfl⟩ := List.mem_map.mp hv; exact a _ (by decide +kernel)
  · obtain ⟨p, _, rfl⟩ := List.mem_map.mp hv
    unfold ovV
    split <;> exact a _ (by decide +kernel)
theorem entries_ok {b : Bk} (W : GW b) : Pu m__law_entries [bT b] (.lst ((entL b).map (dS b.asp))) := by
  intro S
  have e1 := law_entry_ok W
  unfold m__law_entries b__law_entries
  generalize m__law_entry = f1 at e1 ⊢
  have z2 : b.asp.length ≤ sizeLine := small16 (by have := W.asz; omega)
  have i0 : ∀ S, ixT S (bT b) (.int 0) = some (tS b.asp) := fun S => rfl
  have hz : (numbT (b.asp.map T.str)).length ≤ sizeLine := small16 (by have := W.asz; simp [numbT]; omega)
  simp_arith [e1 "own" S, e1 "plain" S, e1 "u" S, small16 (show 3 ≤ 200 by omega), i0, hz]
  rw [lc_map (r := fun x => match x with | .tup [.int k, .str a] => pT (a, ovV k.toNat) | _ => .non) fun x hx => ?a]
  case a =>
    rw [numb_zip] at hx
    obtain ⟨p, hp, rfl⟩ := List.mem_map.mp hx
    have md : ∀ S, modT S (.int (p.2 : Nat)) (.int 2) = some (.int ((p.2 % 2 : Nat) : Int)) := fun S => by
      rw [mod_int (by decide)]
      rfl
    have ix : ∀ S, ixT S (.lst [.str "other", .str "v"]) (.int ((p.2 % 2 : Nat) : Int)) = some (.str (ovV p.2)) := fun S => by
      have h2 : p.2 % 2 = 0 ∨ p.2 % 2 = 1 := by omega
      unfold ovV
      rcases h2 with h | h
      · rw [h, if_pos rfl]
        exact ix_lst (ts := [.str "other", .str "v"]) (r := 0) (by decide) S
      · rw [h, if_neg (by decide)]
        exact ix_lst (ts := [.str "other", .str "v"]) (r := 1) (by decide) S
    exact ⟨_, rfl, rfl, rfl, by simp_arith [md, ix, small16 (show 2 ≤ 200 by omega), Int.toNat_natCast, pT]⟩
  have e2 : (numbT (b.asp.map T.str)).map (fun x => match x with | .tup [.int k, .str a] => pT (a, ovV k.toNat) | _ => .non : T → T) = (b.asp.zipIdx.map fun p => (p.1, ovV p.2)).map pT := by
    rw [numb_zip, List.map_map, List.map_map]
    exact List.map_congr_left fun p _ => by simp
  have k1 : (b.asp.zipIdx.map fun p => (p.1, ovV p.2)).map (·.1) = b.asp := by
    rw [List.map_map]
    exact List.zipIdx_map_fst 0 b.asp
  have k2 : (b.asp.zipIdx.map fun p => (p.1, ovV p.2)).map (·.2) = v4S b := by
    rw [List.map_map]
    rfl
  have d : ∀ S, dictT S [.lst ((b.asp.zipIdx.map fun p => (p.1, ovV p.2)).map pT)] = some (dS b.asp (v4S b)) := fun S => by
    rw [dict_pairs (by rw [k1]; exact W.and), k1, k2]
  have ad : ∀ (x y z w : T) S, addT S (.lst [x, y, z]) (.lst [w]) = some (.lst [x, y, z, w]) := fun x y z w S => add_lst (a := [x, y, z]) (b := [w]) (small16 (show 3 + 1 ≤ 200 by omega)) S
  simp_arith [e2, d, small16 (show 1 ≤ 200 by omega), ad, entL]
/-- what is seen, as a list -/
def seeV (b : Bk) (t vs : List Str) (xs : List Str) : List (Str × List Str) := (runQ b f0 xs).map fun q => (q.1, lookQ b t (getS b.asp vs) q)
def sT (p : Str × List Str) : T := .tup [.str p.1, tS p.2]
theorem sT_inj {p q : Str × List Str} (h : sT p = sT q) : p = q := by
  unfold sT at h
  rw [T.tup.injEq, List.cons.injEq, List.cons.injEq, T.str.injEq, tS_inj] at h
  exact Prod.ext h.1 h.2.1
theorem seen_v {b : Bk} (W : GW b) {xs t vs : List Str} (I : GI b xs) (hv : vs.length = b.asp.length) : Pu m__law_seen [bT b, tS xs, tS t, dS b.asp vs] (.tup ((seeV b t vs xs).map sT)) := fun S => by
  rw [law_seen_ok W I hv S, run_q W (same5_0 hv)]
  unfold seeV
  rw [List.map_map]
  rfl
theorem seeV_pl {b : Bk} (G : GC b) {xs : List Str} (X : GX b xs) (t : List Str) {vs : List Str} (hv : vs.length = b.asp.length) (hs : ∀ v ∈ vs, So v) : pl 3 (.tup ((seeV b t vs xs).map sT)) = true := pl_tup fun u hu => by
  unfold seeV at hu
  rw [List.map_map] at hu
  obtain ⟨q, hq, rfl⟩ := List.mem_map.mp hu
  exact see_pl G X (t := t) (d := getS b.asp vs) (fun a ha => hs _ (getS_mem hv ha)) hq
theorem sTs_inj {p q : List (Str × List Str)} : T.tup (p.map sT) = T.tup (q.map sT) ↔ p = q := ⟨fun h => map_inj_of (fun a b => sT_inj) (T.tup.inj h), fun h => by rw [h]⟩
theorem wl_q {b : Bk} {t : List Str} : ∀ (xs : List Str) (f : Str → Ch) (o : Ow), (∀ a, worthS t (f a) = o a) → wl b t o xs = (runQ b f xs).map fun q => (shownS b q.1).map fun a => worthS t (q.2 a)
  | [], _, _, _ => rfl
  | x :: xs, f, o, h => by
    simp only [wl, runQ]
    cases e : findC b.cs x with
    | some c => exact wl_q xs _ _ (step_o c h)
    | none =>
      show (shownS b x).map o :: wl b t o xs = _
      rw [List.map_cons, wl_q xs f o h]
      congr 1
      exact List.map_congr_left fun a _ => (h a).symm
theorem see_of_wl {b : Bk} {t vs xs ys : List Str} (hs : signS b xs = signS b ys) (h : wl b t o0 xs = wl b t o0 ys) : seeV b t vs xs = seeV b t vs ys := by
  have key : ∀ zs, seeV b t vs zs = List.zipWith (fun x row => (x, List.zipWith (fun (o : Option Str) a => o.getD (getS b.asp vs a)) row (shownS b x))) (signS b zs) (wl b t o0 zs) := fun zs => by
    unfold seeV
    rw [signs_q b zs f0, wl_q zs f0 o0 fun _ => rfl, List.zipWith_map, List.zipWith_self]
    refine List.map_congr_left fun q _ => ?_
    congr 1
    unfold lookQ
    rw [List.zipWith_map_left, List.zipWith_self]
  rw [key, key, hs, h]
theorem wl_of_see {b : Bk} {t vs xs ys : List Str} (hown : ∀ zs a v, worthS t (chainF b f0 zs a) = some v → ∀ a', a' ∈ b.asp → v ≠ getS b.asp vs a') (W : GW b) (h : seeV b t vs xs = seeV b t vs ys) : wl b t o0 xs = wl b t o0 ys := by
  rw [wl_q xs f0 o0 fun _ => rfl, wl_q ys f0 o0 fun _ => rfl]
  unfold seeV at h
  refine List.ext_getElem? fun i => ?_
  have hi := congrArg (fun l => l[i]?) h
  simp only [List.getElem?_map] at hi ⊢
  cases e1 : (runQ b f0 xs)[i]? with
  | none =>
    rw [e1] at hi
    cases e2 : (runQ b f0 ys)[i]? with
    | none => rfl
    | some q => rw [e2] at hi; cases hi
  | some p =>
    cases e2 : (runQ b f0 ys)[i]? with
    | none => rw [e1, e2] at hi; cases hi
    | some q =>
      rw [e1, e2] at hi
      simp only [Option.map_some, Option.some.injEq, Prod.mk.injEq] at hi ⊢
      obtain ⟨h1, h2⟩ := hi
      rw [← h1]
      refine List.map_congr_left fun a ha => ?_
      unfold lookQ at h2
      rw [← h1] at h2
      have h3 : (worthS t (p.2 a)).getD (getS b.asp vs a) = (worthS t (q.2 a)).getD (getS b.asp vs a) := List.map_inj_left.mp h2 a ha
      have ham := (shown_sub W p.1).2 a ha
      obtain ⟨_, _, us, e3⟩ := q_mem (List.mem_of_getElem? e1)
      obtain ⟨_, _, zs, e4⟩ := q_mem (List.mem_of_getElem? e2)
      have o1 := hown us a
      have o2 := hown zs a
      rw [← e3] at o1
      rw [← e4] at o2
      cases w1 : worthS t (p.2 a) with
      | none =>
        cases w2 : worthS t (q.2 a) with
        | none => rfl
        | some v =>
          rw [w1, w2] at h3
          exact absurd h3.symm (o2 v w2 a ham)
      | some u =>
        cases w2 : worthS t (q.2 a) with
        | none =>
          rw [w1, w2] at h3
          exact absurd h3 (o1 u w1 a ham)
        | some v =>
          rw [w1, w2] at h3
          exact congrArg some h3
def diffP (b : Bk) (xs ys t vs : List Str) : Bool := !decide (seeV b t vs xs = seeV b t vs ys)
/-- the sizes of the terminals that part two streams, one for each entry -/
noncomputable def apartL (b : Bk) (xs ys : List Str) : List Nat := (setsOf (kindsS b)).flatMap fun t => ((entL b).filter (diffP b xs ys t)).map fun _ => t.length
theorem own_no {b : Bk} (B : BL b) (t : List Str) : ∀ zs a v, worthS t (chainF b f0 zs a) = some v → ∀ a', a' ∈ b.asp → v ≠ getS b.asp (b.asp.map fun _ => "own") a' := fun zs a v h a' ha => by
  rw [getS_const ha]
  obtain ⟨p, hp, _, rfl⟩ := worth_mem h
  have hv : p.2 ∈ V4 := chain_vals (P := fun p => p.2 ∈ V4) (fun c hc p hp => (B.cl c hc).gv p hp) (fun _ p h => by cases h) a p hp
  exact fun z => (show ("own" : Str) ∉ V4 by decide +kernel) (z ▸ hv)
theorem apart_nil {b : Bk} (B : BL b) {xs ys : List Str} (hs : signS b xs = signS b ys) : apartL b xs ys = [] ↔ likeS b xs ys := by
  unfold apartL
  rw [List.flatMap_eq_nil_iff]
  constructor
  · intro h
    refine like_sets B fun t ht => ?_
    have q := h t (((sets_k b).1.mem t).mpr ht)
    rw [List.map_eq_nil_iff, List.filter_eq_nil_iff] at q
    have q1 := q (b.asp.map fun _ => "own") (by simp [entL])
    unfold diffP at q1
    simp only [Bool.not_eq_true, Bool.not_eq_false', decide_eq_true_eq] at q1
    exact wl_of_see (own_no B t) B.gl.w q1
  · intro h t _
    rw [List.map_eq_nil_iff, List.filter_eq_nil_iff]
    intro vs _
    unfold diffP
    simp only [Bool.not_eq_true, Bool.not_eq_false', decide_eq_true_eq]
    exact see_of_wl hs (like_wl h t)
end SF
set_option Elab.async false
set_option linter.all false
set_option maxRecDepth 100000
namespace SF
open PySem PySem.Spec L2 TL
open PyProof.Rows hiding St
theorem flat_take {α : Type} {f : List Str → List α} {ls : List (List Str)} {i : Nat} {t : List Str} (h : ls[i]? = some t) : (ls.take (i + 1)).flatMap f = (ls.take i).flatMap f ++ f t := by
  rw [List.take_add_one, h, List.flatMap_append]
  simp
theorem nats_snoc (l : List Nat) (i : Nat) : natsT l ++ [.int i] = natsT (l ++ [i]) := by
  unfold natsT
  rw [List.map_append]
  rfl
theorem apart_part_len {b : Bk} {xs ys : List Str} (t : List Str) : (((entL b).filter (diffP b xs ys t)).map fun _ => t.length).length ≤ 4 := by
  rw [List.length_map]
  exact List.length_filter_le _ (entL b)
theorem apart_len {b : Bk} {xs ys : List Str} (ls : List (List Str)) : (ls.flatMap fun t => ((entL b).filter (diffP b xs ys t)).map fun _ => t.length).length ≤ 4 * ls.length := by
  induction ls with
  | nil => exact Nat.zero_le _
  | cons t ls ih =>
    rw [List.flatMap_cons, List.length_append, List.length_cons]
    have := apart_part_len (b := b) (xs := xs) (ys := ys) t
    omega
theorem setsK_len (b : Bk) : (setsOf (kindsS b)).length ≤ 8 := by
  rw [(sets_k b).1.len]
  exact (Nat.pow_le_pow_right (show 2 > 0 by decide) (kinds3 b) : 2 ^ (kindsS b).length ≤ 2 ^ 3)
theorem law_apart_ok {b : Bk} (B : BL b) {xs ys : List Str} (X : GX b xs) (Y : GX b ys) : Pu m__law_apart [bT b, tS xs, tS ys] (.lst (natsT (apartL b xs ys))) := by
  intro U
  have G := B.gc
  have W := G.w
  have hk := kinds_ok B
  obtain ⟨hts, hs⟩ := sets_k b
  have hen := entries_ok W
  have hl8 := setsK_len b
  have sx := fun (t : List Str) {vs : List Str} (hv : vs ∈ entL b) => seen_v W (t := t) X.i (ent_len vs hv)
  have sy := fun (t : List Str) {vs : List Str} (hv : vs ∈ entL b) => seen_v W (t := t) Y.i (ent_len vs hv)
  have ne : ∀ (t : List Str) {vs : List Str}, vs ∈ entL b → ∀ S, TL.neT S (.tup ((seeV b t vs xs).map sT)) (.tup ((seeV b t vs ys).map sT)) = some (.bl (diffP b xs ys t vs)) := fun t vs hv S =>
    ne_pl (k := decide (seeV b t vs xs = seeV b t vs ys)) (pl_mono (by decide) (seeV_pl G X t (ent_len vs hv) (ent_so vs hv))) (pl_mono (by decide) (seeV_pl G Y t (ent_len vs hv) (ent_so vs hv))) (by rw [decide_eq_true_eq, sTs_inj]) S
  have al := fun (ls : List (List Str)) => apart_len (b := b) (xs := xs) (ys := ys) ls
  unfold m__law_apart apartL
  suffices h : ∃ J, body _ _ b__law_apart [bT b, tS xs, tS ys] U = .ok (.ref U.length) (U ++ J) ∧ (U ++ J)[U.length]? = some (.lst (natsT ((setsOf (kindsS b)).flatMap fun t => ((entL b).filter (diffP b xs ys t)).map fun _ => t.length))) by
    obtain ⟨J, h1, h2⟩ := h
    exact gc_ref h1 (Nat.le_refl _) h2 (nrs_nats _)
  unfold b__law_apart
  generalize m__law_kinds = f1 at hk ⊢
  generalize m__law_sets = f2 at hs ⊢
  generalize m__law_entries = f3 at hen ⊢
  generalize m__law_seen = f4 at sx sy ⊢
  generalize setsOf (kindsS b) = ls at hs hl8 ⊢
  simp_arith [hk, hs, small16 (show 0 ≤ 200 by omega)]
  rw [hk, nox_ok, bind_ok]
  simp_arith [hs _]
  generalize hF : forF _ _ _ _ _ = R2
  obtain ⟨τ2, S3, e, h1, x4, x5, h4⟩ := for_go hF (fun i τ T1 => T1 = U ++ [.lst (natsT ((ls.take i).flatMap fun t => ((entL b).filter (diffP b xs ys t)).map fun _ => t.length))] ∧ ∃ x4 x5, τ = [some (bT b), some (tS xs), some (tS ys), some (.ref U.length), x4, x5])
    ⟨rfl, none, none, rfl⟩ (by
    intro i y τ T1 hx hI
    obtain ⟨rfl, x4, x5, rfl⟩ := hI
    rw [List.getElem?_map] at hx
    cases ex : ls[i]? with
    | none => rw [ex] at hx; cases hx
    | some t =>
    rw [ex] at hx
    cases hx
    have hi := (List.getElem?_eq_some_iff.mp ex).1
    rw [flat_take ex]
    have la := al (ls.take i)
    rw [List.length_take] at la
    generalize (ls.take i).flatMap (fun t => ((entL b).filter (diffP b xs ys t)).map fun _ => t.length) = acc at la ⊢
    refine ⟨_, rfl, ?_⟩
    simp_arith [hen _]
    generalize hF : forF _ _ _ _ _ = R3
    obtain ⟨τ2, S2, e, g1, x5', g4⟩ := for_go hF (fun j τ T1 => T1 = U ++ [.lst (natsT (acc ++ (((entL b).take j).filter (diffP b xs ys t)).map fun _ => t.length))] ∧ ∃ x5, τ = [some (bT b), some (tS xs), some (tS ys), some (.ref U.length), some (tS t), x5])
      ⟨by rw [List.take_zero, List.filter_nil, List.map_nil, List.append_nil], x5, rfl⟩ (by
      intro j y τ T1 hx hI
      obtain ⟨rfl, x5, rfl⟩ := hI
      rw [List.getElem?_map] at hx
      cases evs : (entL b)[j]? with
      | none => rw [evs] at hx; cases hx
      | some vs =>
      rw [evs] at hx
      cases hx
      have hv : vs ∈ entL b := List.mem_of_getElem? evs
      have hj : j < 4 := (List.getElem?_eq_some_iff.mp evs).1
      have lb : ((((entL b).take j).filter (diffP b xs ys t)).map fun _ => t.length).length ≤ 4 := by
        rw [List.length_map]
        exact Nat.le_trans (List.length_filter_le _ _) (by rw [List.length_take]; omega)
      have tk : ((entL b).take (j + 1)).filter (diffP b xs ys t) = ((entL b).take j).filter (diffP b xs ys t) ++ (if diffP b xs ys t vs = true then [vs] else []) := by
        rw [List.take_add_one, evs, List.filter_append]
        congr 1
        cases hd0 : diffP b xs ys t vs <;> simp [hd0]
      rw [tk, List.map_append]
      generalize (((entL b).take j).filter (diffP b xs ys t)).map (fun _ => t.length) = acc2 at lb ⊢
      have z : (natsT (acc ++ acc2)).length < sizeLine := small16' (by rw [List.length_map, List.length_append]; omega)
      refine ⟨_, rfl, ?_⟩
      cases hd : diffP b xs ys t vs with
      | true =>
        simp_arith [sx t hv _, sy t hv _, ne t hv, hd, List.length_map, z, nats_snoc]
        rw [← List.length_map (f := fun i : Nat => T.int i), if_pos z]
        exact goes_nx ⟨by simp, _, rfl⟩
      | false =>
        simp_arith [sx t hv _, sy t hv _, ne t hv, hd]
        exact goes_nx ⟨by simp, _, rfl⟩)
    subst e g1 g4
    exact goes_nx ⟨by rw [show ((entL b).map (dS b.asp)).length = (entL b).length from List.length_map _, List.take_length], _, _, rfl⟩)
  subst e h1 h4
  simp_arith []
  exact ⟨_, rfl, by rw [sto_end, List.length_map, List.take_length]⟩
end SF
set_option Elab.async false
set_option linter.all false
set_option maxRecDepth 100000
namespace SF
open PySem PySem.Spec L2 TL
open PyProof.Rows hiding St
theorem word_iff {b : Bk} {x : Str} : x ∈ b.cs.map (·.w) ↔ (findC b.cs x).isSome = true := by
  rw [List.mem_map]
  constructor
  · rintro ⟨c, hc, rfl⟩
    cases e : findC b.cs c.w with
    | none => exact absurd rfl (findC_none e c hc)
    | some d => rfl
  · intro h
    obtain ⟨c, hc⟩ := Option.isSome_iff_exists.mp h
    exact ⟨c, (findC_mem hc).1, (findC_mem hc).2⟩
theorem eq_nats_nil (l : List Nat) (S : Sto) : TL.eqT S (.lst (natsT l)) (.lst []) = some (.bl (decide (l = []))) := eq_pl (y := .lst (natsT [])) (pl_mono (by decide) (pl_nats l)) (pl_mono (by decide) (pl_nats [])) (by
  rw [decide_eq_true_eq, T.lst.injEq]
  exact ⟨fun h => by rw [h], fun h => nats_inj h⟩) S
theorem ne_nats (l m : List Nat) (S : Sto) : TL.neT S (.lst (natsT l)) (.lst (natsT m)) = some (.bl (!decide (l = m))) := ne_pl (pl_mono (by decide) (pl_nats l)) (pl_mono (by decide) (pl_nats m)) (by
  rw [decide_eq_true_eq, T.lst.injEq]
  exact ⟨fun h => by rw [h], fun h => nats_inj h⟩) S
theorem ne_ref_nats {S : Sto} {n : Nat} {l : List Nat} (h : S[n]? = some (.lst (natsT l))) (m : List Nat) : TL.neT S (.ref n) (.lst (natsT m)) = some (.bl (!decide (l = m))) := by
  have := ne_nats l m S
  unfold TL.neT at this ⊢
  rw [eqB_ref h]
  exact this
theorem law_needless_ok {b : Bk} (B : BL b) {xs : List Str} (X : GX b xs) : Pu m__law_needless [bT b, tS xs] (.lst (natsT (needL b xs))) := by
  intro U
  have G := B.gc
  have ap := fun {ys : List Str} (Y : GX b ys) => law_apart_ok B X Y
  have xl := X.i.len
  have n8 := B.n8
  have i2 : ∀ S, ixT S (bT b) (.int 2) = some (.tup (b.cs.map cT)) := fun S => rfl
  unfold m__law_needless
  suffices h : ∃ J, body _ _ b__law_needless [bT b, tS xs] U = .ok (.ref U.length) (U ++ J) ∧ (U ++ J)[U.length]? = some (.lst (natsT (needL b xs))) by
    obtain ⟨J, h1, h2⟩ := h
    exact gc_ref h1 (Nat.le_refl _) h2 (nrs_nats _)
  unfold b__law_needless
  generalize m__law_apart = f1 at ap ⊢
  simp_arith [i2, List.length_map, small16 (show b.cs.length ≤ 200 by omega)]
  rw [lc_map (r := fstT) fun x hx => ?aa]
  case aa =>
    obtain ⟨c, hcc, rfl⟩ := List.mem_map.mp hx
    exact ⟨_, rfl, slots1 _ _, rfl, by simp_arith [cT, fstT]⟩
  have e1 : (b.cs.map cT).map fstT = (b.cs.map (·.w)).map T.str := by
    rw [List.map_map, List.map_map]
    exact List.map_congr_left fun _ _ => rfl
  simp_arith [e1]
  generalize hF : forF _ _ _ _ _ = R2
  obtain ⟨τ2, S3, e, h1, x4, x5, x6, h4⟩ := for_go hF (fun i τ T1 => T1 = U ++ [.lst (natsT ((List.range i).filter (needP b xs)))] ∧ ∃ x4 x5 x6, τ = [some (bT b), some (tS xs), some (.lst ((b.cs.map (·.w)).map T.str)), some (.ref U.length), x4, x5, x6, none])
    ⟨rfl, none, none, none, rfl⟩ (by
    intro i y τ T1 hx hI
    obtain ⟨rfl, x4, x5, x6, rfl⟩ := hI
    obtain ⟨z, hz, rfl⟩ := zip_range hx
    rw [List.getElem?_map] at hz
    cases ex : xs[i]? with
    | none => rw [ex] at hz; cases hz
    | some x =>
    rw [ex] at hz
    cases hz
    have hi := (List.getElem?_eq_some_iff.mp ex).1
    have wadd : addT (U ++ [.lst (natsT ((List.range i).filter (needP b xs)))]) (tS (xs.take i)) (tS (xs.drop (i + 1))) = some (tS (wo xs i)) := by
      rw [add_tS (by rw [List.length_take, List.length_drop]; omega), wo_eq]
    rw [List.range_succ, List.filter_append]
    have la : ((List.range i).filter (needP b xs)).length ≤ i := by
      have := List.length_filter_le (needP b xs) (List.range i)
      simpa using this
    have hp1 : needP b xs i = ((findC b.cs x).isSome && decide (likeS b xs (wo xs i))) := by
      unfold needP
      rw [ex]
    generalize (List.range i).filter (needP b xs) = acc at la wadd ⊢
    have z : (natsT acc).length < sizeLine := small16' (by rw [List.length_map]; omega)
    have z' : acc.length < sizeLine := small16' (by omega)
    refine ⟨_, rfl, ?_⟩
    cases hfc : findC b.cs x with
    | none =>
      have hw : x ∉ b.cs.map (·.w) := fun q => by
        rw [word_iff, hfc] at q
        cases q
      rw [hfc] at hp1
      simp_arith [slice_to, add_int, slice_from1, wadd, decide_eq_false hw]
      refine goes_nx ⟨?_, _, _, _, rfl⟩
      rw [List.filter_cons_of_neg (by rw [hp1]; simp)]
      simp
    | some c =>
      have hw : x ∈ b.cs.map (·.w) := word_iff.mpr (by rw [hfc]; rfl)
      have a1 := ap (X.sub (wo_sub xs i)) (U ++ [.lst (natsT acc)])
      have a2 := apart_nil B (sign_wo ex hfc).symm
      rw [hfc] at hp1
      by_cases hl : likeS b xs (wo xs i)
      · simp_arith [slice_to, add_int, slice_from1, wadd, decide_eq_true hw, a1, eq_nats_nil, decide_eq_true (a2.mpr hl), List.length_map, z', nats_snoc]
        refine goes_nx ⟨?_, _, _, _, rfl⟩
        rw [List.filter_cons_of_pos (by rw [hp1, decide_eq_true hl]; rfl)]
        simp
      · simp_arith [slice_to, add_int, slice_from1, wadd, decide_eq_true hw, a1, eq_nats_nil, decide_eq_false fun q => hl (a2.mp q)]
        refine goes_nx ⟨?_, _, _, _, rfl⟩
        rw [List.filter_cons_of_neg (by rw [hp1, decide_eq_false hl]; simp)]
        simp)
  subst e h1 h4
  simp_arith []
  exact ⟨_, rfl, by
    rw [sto_end]
    simp only [numbT, List.length_zipWith, List.length_range, List.length_map, Nat.min_self]
    rfl⟩
end SF
set_option Elab.async false
set_option linter.all false
set_option maxRecDepth 100000
namespace SF
open PySem PySem.Spec L2 TL
open PyProof.Rows hiding St
theorem term6 : ∀ l ∈ subls (["j", "k", "l", "zz"] : List Str), ∀ S, m_need_terminal [tS l] S = .ok (tS l) S := all_of (by
  repeat' apply And.intro
  all_goals first | exact trivial | (intro S; kernel_rfl))
theorem hangs_ok {b : Bk} (G : GC b) {xs : List Str} (X : GX b xs) {t : List Str} (ht : ∀ S, m_need_terminal [tS t] S = .ok (tS t) S) (S : Sto) :
    m_hangs [bT b, tS xs, tS t] S = .ok (.ref S.length) (S ++ [.lst (natsT (nums (hangP b t) (runQ b f0 xs)))]) := by
  have h1 := need_stream_ok G.w X.i
  have h2 := chains_shown_ok G X.i
  rw [rows_q, List.map_map] at h2
  have h3 : ∀ q : Str × (Str → Ch), Pu m_hangs_there [(rowT ∘ fun q : Str × (Str → Ch) => (shownS b q.1).map q.2) q, tS t] (.bl (hangP b t q)) := fun q => hangs_there_ok (r := (shownS b q.1).map q.2) (by rw [List.length_map]; exact (shown_sub G.w _).1)
  have ql := q_len (b := b) xs f0
  have xl := X.i.len
  unfold m_hangs b_hangs
  generalize m_need_stream = g1 at h1 ⊢
  generalize m_need_terminal = g2 at ht ⊢
  generalize m_chains_shown = g3 at h2 ⊢
  generalize m_hangs_there = g4 at h3 ⊢
  generalize hF : (rowT ∘ fun q : Str × (Str → Ch) => (shownS b q.1).map q.2) = F at h2 h3
  generalize runQ b f0 xs = Q at h2 ql ⊢
  have hz : (numbT (Q.map F)).length ≤ sizeLine := small16 (by simp [numbT]; omega)
  simp_arith [h1 S, ht S, h2 S, hz]
  rw [lc_nums (P := hangP b t) (fun x y => rfl) fun i q hi => ?_]
  · simp_arith []
  · exact ⟨by simp_arith [h3 q S], fun _ => by simp_arith []⟩
theorem entry16_dq {cs : List Int} {R : Sto} (hc : cs ≠ []) {b : Bk} (B : BL b) : Dq cs R 3 (fun t => ∃ vs : List Str, vs.length = b.asp.length ∧ (∀ v ∈ vs, So v) ∧ t = dS b.asp vs) (m__law_drawn_entry_k16 [.ref 1, bT b]) := fun ls a hl ha => by
  have hl3 : b.asp.length ≤ 3 := B.asp.length_le
  unfold m__law_drawn_entry_k16 b__law_drawn_entry_k16
  have i0 : ∀ S, ixT S (bT b) (.int 0) = some (tS b.asp) := fun S => rfl
  have dr := draw_dq (R := R) hc (m := 5) (by decide)
  generalize m__law_draw = f1 at dr ⊢
  have q := lc_each (cs := cs) (R := R) (i := 2) (τ := [some (.ref 1), some (bT b), none]) (al := b.asp)
    (Fe := fTup (fCons (fVar 2) (fCons (fBin ixT (fPure (fLstN (fCons (fC (.str "plain")) (fCons (fC (.str "u")) (fCons (fC (.str "v")) (fCons (fC (.str "mm")) (fCons (fC (.str "nn")) fNil))))))) (fCall f1 (fCons (fVar 0) (fCons (fC (.int 5)) fNil)))) fNil))) (Q := fun x y => ∃ v, So v ∧ y = .tup [.str x, .str v])
    (fun x hx ls a hl ha => by
      obtain ⟨_, ls', a', e, ⟨r, rfl, hr⟩, h2, h3⟩ := dr ls a hl ha
      obtain ⟨v, hv, ex⟩ := pick ["plain", "u", "v", "mm", "nn"] (r := r) (by simp; omega)
      have ex2 : ∀ S, ixT S (.lst [.str "plain", .str "u", .str "v", .str "mm", .str "nn"]) (.int r) = some (.str v) := ex
      refine ⟨.tup [.str x, .str v], ls', a', ?_, ⟨v, (show ∀ y ∈ (["plain", "u", "v", "mm", "nn"] : List Str), So y by decide +kernel) v hv, rfl⟩, h2, h3⟩
      simp_arith [e, ex2, small16 (show 5 ≤ 200 by omega), small16 (show 2 ≤ 200 by omega)])
  obtain ⟨_, ls', a', e, ⟨prs, hp1, hp2, rfl⟩, h2, h3⟩ := q ls a hl (by omega)
  simp_arith [i0, List.length_map, small16 (show b.asp.length ≤ 200 by omega), e]
  obtain ⟨vs, v1, v2, v3⟩ : ∃ vs : List Str, vs.length = prs.length ∧ (∀ v ∈ vs, So v) ∧ prs.map (·.2) = itemsT (kS (prs.map (·.1))) (vs.map T.str) := by
    clear e hp1
    induction prs with
    | nil => exact ⟨[], rfl, (fun v hv => nomatch hv), rfl⟩
    | cons p prs ih =>
      obtain ⟨v, hv, e⟩ := hp2 p List.mem_cons_self
      obtain ⟨vs, h1, h2, h3⟩ := ih fun q hq => hp2 q (List.mem_cons_of_mem _ hq)
      refine ⟨v :: vs, by simp [h1], fun w hw => ?_, ?_⟩
      · rcases List.mem_cons.mp hw with rfl | hw
        · exact hv
        · exact h2 w hw
      · simp only [itemsT, kS, List.map_cons, List.zipWith_cons_cons, tKey, e] at h3 ⊢
        rw [h3]
  rw [hp1] at v3
  have v4 : vs.length = b.asp.length := by rw [v1, ← hp1, List.length_map]
  have hd := fun S => dict_give (g := []) v4 B.gl.w.and (fun p hp => nomatch hp) S
  have hd2 : ∀ S, dictT S [.lst (prs.map (·.2))] = some (dS b.asp vs) := fun S => by
    rw [v3]
    simpa [giveS] using hd S
  simp_arith [hd2]
  exact ⟨_, ls', a', rfl, ⟨vs, v4, v2, rfl⟩, h2, by omega⟩
theorem nums_false {α : Type} (l : List α) : nums (fun _ => false) l = [] := by
  unfold nums
  rw [List.filter_eq_nil_iff.mpr fun _ _ => by simp]
  rfl
abbrev ZZ : List Str := ["zz"]
theorem T6_sub {b : Bk} {l : List Str} (h : l.Sublist (kindsS b ++ ZZ)) : ∀ S, m_need_terminal [tS l] S = .ok (tS l) S := term6 l (mem_subs (h.trans ((kindsS_sub b).append_right ZZ)))
theorem right16_dr {cs : List Int} (hc : cs ≠ []) {b : Bk} (B : BL b) {xs : List Str} (X : XL b xs) : Dr cs 100 (fun t => t = .bl true) (m__law_right_k16 [.ref 1, bT b, tS xs]) := by
  unfold m__law_right_k16
  refine db_gc (fun R ls0 a0 hl0 ha0 => ?_) fun t ht => by rw [ht]; rfl
  have G := B.gc
  have W := G.w
  have hkl : (kindsS b).length ≤ 3 := (kindsS_sub b).length_le
  obtain ⟨ts, hts, hs⟩ := sets_ok (ks := kindsS b ++ ZZ) (by rw [List.length_append]; show _ + 1 ≤ 6; omega)
  have hk := kinds_ok B
  have hh := fun t => hung_ok G X.gx t
  have hg := fun {t : List Str} (ht : ∀ S, m_need_terminal [tS t] S = .ok (tS t) S) => hangs_ok G X.gx ht
  have en := fun (R : Sto) => entry16_dq (R := R) hc B
  have sn : ∀ (t : List Str) {vs : List Str}, vs.length = b.asp.length → Pu m__law_seen [bT b, tS xs, tS t, dS b.asp vs] (.tup ((runQ b f0 xs).map (seeQ b t (getS b.asp vs)))) := fun t vs hv S => by
    rw [law_seen_ok W X.gi hv S, run_q W (same5_0 hv)]
  have pm : ∀ (t : List Str) {vs : List Str} {q : Str × (Str → Ch)}, vs.length = b.asp.length → (∀ v ∈ vs, So v) → q ∈ runQ b f0 xs → pl 2 (seeQ b t (getS b.asp vs) q) = true := fun t vs q hv hso hq => see_pl G X.gx (fun a ha => hso _ (getS_mem hv ha)) hq
  have ql := q_len (b := b) xs f0
  have xl := X.len
  have nl : ∀ t, (nums (hangP b t) (runQ b f0 xs)).length ≤ 200 ∧ ∀ i ∈ nums (hangP b t) (runQ b f0 xs), i < 300 := fun t => ⟨Nat.le_trans (nums_len _ _) (by omega), fun i hi => by
    obtain ⟨x, hx, _⟩ := mem_nums.mp hi
    have := (List.getElem?_eq_some_iff.mp hx).1
    omega⟩
  unfold b__law_right_k16
  generalize m__law_kinds = f1 at hk ⊢
  generalize m__law_sets = f2 at hs ⊢
  generalize m__law_hung = f3 at hh ⊢
  generalize m_hangs = f4 at hg ⊢
  generalize m__law_drawn_entry_k16 = f5 at en ⊢
  generalize m__law_seen = f6 at sn ⊢
  generalize hQ : runQ b f0 xs = Q at hh hg sn pm ql nl
  have hkz : ((kindsS b).map T.str).length + [T.str "zz"].length ≤ sizeLine := small16 (by rw [List.length_map]; show _ + 1 ≤ 200; omega)
  have hks : ∀ S, addT S (.lst ((kindsS b).map T.str)) (.lst [.str "zz"]) = some (.lst ((kindsS b ++ ZZ).map T.str)) := fun S => by
    rw [add_lst hkz, List.map_append]
    rfl
  simp_arith [hk (S2 ls0 cs a0 R), small16 (show 1 ≤ 200 by omega), hks, hs (S2 ls0 cs a0 R)]
  generalize hF : forF _ _ _ _ _ = R2
  obtain ⟨τ2, S3, e, ls1, a1, J, h1, h2, h3, x3, x4, x5, x6, x7, x8, x9, h4⟩ := for_go hF (fun i τ T1 => ∃ ls a J, T1 = S2 ls cs a (R ++ J) ∧ ls.length = cs.length ∧ a ≤ a0 + 6 * i ∧ ∃ x3 x4 x5 x6 x7 x8 x9, τ = [some (.ref 1), some (bT b), some (tS xs), x3, x4, x5, x6, x7, x8, x9])
    ⟨ls0, a0, [], by rw [List.append_nil], hl0, Nat.le_refl _, none, none, none, none, none, none, none, rfl⟩ (by
    intro i y τ T1 hx hI
    obtain ⟨ls, a, J, rfl, hl, ha, x3, x4, x5, x6, x7, x8, x9, rfl⟩ := hI
    rw [List.getElem?_map] at hx
    cases ex : ts[i]? with
    | none => rw [ex] at hx; cases hx
    | some t =>
    rw [ex] at hx
    cases hx
    have hi : i < 16 := by
      have h1 := (List.getElem?_eq_some_iff.mp ex).1
      have h2 := hts.len
      rw [List.length_append] at h2
      have h3 : 2 ^ ((kindsS b).length + ZZ.length) ≤ 2 ^ 4 := Nat.pow_le_pow_right (by decide) (by show _ + 1 ≤ 4; omega)
      omega
    have htm : t.Sublist (kindsS b ++ ZZ) := (hts.mem t).mp (List.mem_of_getElem? ex)
    obtain ⟨n1, n2⟩ := nl t
    have hT := hg (T6_sub htm)
    have hH := hh t
    have sN := fun {vs : List Str} (hv : vs.length = b.asp.length) => sn t hv
    have pM := fun {vs : List Str} {q : Str × (Str → Ch)} (hv : vs.length = b.asp.length) (hso : ∀ v ∈ vs, So v) (hq : q ∈ Q) => pm t hv hso hq
    have hmem : ∀ i q, Q[i]? = some q → hangP b t q = true → i ∈ nums (hangP b t) Q := fun i q h1 h2 => mem_nums.mpr ⟨q, h1, h2⟩
    have hnot : ∀ {q : Str × (Str → Ch)} {d e : Str → Str}, seeQ b t d q ≠ seeQ b t e q → hangP b t q = true := fun {q d e} h => by
      cases hq : hangP b t q with
      | true => rfl
      | false => exact absurd (see_inj.mpr ⟨rfl, look_eq hq⟩) h
    generalize nums (hangP b t) Q = N at n1 n2 hT hH hmem
    obtain ⟨s, r1, r2⟩ := (nice_nats n2 (by omega)).repr (by decide) (by decide) []
    have hr2 : ∀ S, reprT S [.lst (natsT N)] = some (.str s) := fun S => r1
    have hr1 : ∀ S, reprT (S ++ [.lst (natsT N)]) [.ref S.length] = some (.str s) := fun S => by
      rw [repr_ref (sto_end S _ _)]
      exact r1
    have hr3 : ∀ S, TL.neT S (.str s) (.str s) = some (.bl false) := fun S => r2
    have hne : ∀ S, TL.neT (S ++ [.lst (natsT N)]) (.ref S.length) (.lst (natsT N)) = some (.bl false) := fun S => by
      have := ne_pl (k := true) (pl_mono (m := 60) (by decide) (pl_nats N)) (pl_mono (m := 60) (by decide) (pl_nats N)) (by simp) (S ++ [.lst (natsT N)])
      unfold TL.neT at this ⊢
      rw [eqB_ref (sto_end S _ _)]
      exact this
    have z4 : N.length < sizeLine := small16' (by omega)
    refine ⟨_, rfl, ?_⟩
    obtain ⟨U, hU⟩ : ∃ U, S2 ls cs a (R ++ J) = U := ⟨_, rfl⟩
    rw [hU]
    simp_arith [hH U, hT U, hr1, hr2, hr3, List.length_map, z4]
    generalize hV : U ++ [T.lst (natsT N ++ [T.int 99])] = V
    have hV2 : V = S2 ls cs a (R ++ (J ++ [T.lst (natsT N ++ [T.int 99])])) := by rw [← hV, ← hU, S2_app, List.append_assoc]
    simp_arith [hT V, hne]
    rw [hV2, S2_app, List.append_assoc]
    generalize J ++ [T.lst (natsT N ++ [T.int 99])] ++ [T.lst (natsT N)] = J2
    obtain ⟨_, ls2, a2, d2, ⟨vs, v1, v2, rfl⟩, l2, b2⟩ := en (R ++ J2) ls a hl (by omega)
    obtain ⟨_, ls3, a3, d3, ⟨ws, w1, w2, rfl⟩, l3, b3⟩ := en (R ++ J2) ls2 a2 l2 (by omega)
    have hz : (numbT (Q.map (seeQ b t (getS b.asp vs)))).length ≤ sizeLine := small16 (by simp [numbT]; omega)
    simp_arith [d2, sN v1 (S2 ls2 cs a2 (R ++ J2)), d3, sN w1 (S2 ls3 cs a3 (R ++ J2)), hz]
    rw [lc_nums (P := fun _ => false) (fun x y => rfl) fun i q hi => ?aa]
    case aa =>
      have hq : q ∈ Q := List.mem_of_getElem? hi
      have ix : ∀ S, ixT S (.tup (Q.map (seeQ b t (getS b.asp ws)))) (.int (i : Nat)) = some (seeQ b t (getS b.asp ws) q) := fun S => by
        have hi2 := (List.getElem?_eq_some_iff.mp hi)
        rw [ix_tupn (by rw [List.length_map]; exact hi2.1), List.getElem_map, hi2.2]
      refine ⟨?_, fun z => nomatch z⟩
      by_cases h : seeQ b t (getS b.asp vs) q = seeQ b t (getS b.asp ws) q
      · have ne := fun S => ne_pl (k := true) (pl_mono (m := 60) (by decide) (pM v1 v2 hq)) (pl_mono (m := 60) (by decide) (pM w1 w2 hq)) (by simp [h]) S
        simp_arith [ix, ne]
      · have ne := fun S => ne_pl (k := false) (pl_mono (m := 60) (by decide) (pM v1 v2 hq)) (pl_mono (m := 60) (by decide) (pM w1 w2 hq)) (by simp [h]) S
        have ni : ∀ S, ninT S (.int i) (.lst (natsT N)) = some (.bl false) := fun S => by
          rw [nin_of (in_nats i N S), decide_eq_true (hmem i q hi (hnot h))]
          rfl
        simp_arith [ix, ne, ni]
    have n0 : ∀ S, TL.neT S (.lst []) (.lst []) = some (.bl false) := fun S => by kernel_rfl
    simp_arith [nums_false, n0]
    exact goes_nx ⟨ls3, a3, J2, rfl, l3, by omega, _, _, _, _, _, _, _, rfl⟩)
  subst e h1 h4
  simp_arith []
  refine ⟨_, ls1, a1, J, rfl, rfl, h2, ?_⟩
  have h5 := hts.len
  rw [List.length_append] at h5
  have h6 : 2 ^ ((kindsS b).length + ZZ.length) ≤ 2 ^ 4 := Nat.pow_le_pow_right (by decide) (by show _ + 1 ≤ 4; omega)
  rw [List.length_map] at h3
  omega
theorem law16_true (ns : List Int) (hns : ns.length ≤ 63) : ∃ S, m_law_k16 [.sls (ns.map T.int)] [] = .ok (.bl true) S := by
  obtain ⟨ls0, cs, hb, hl0, hc⟩ := begin_ok hns
  have bk := book_dr hc (most := 8) (by decide) (by decide)
  have sd := fun {b : Bk} (B : BL b) => stream_dr hc B (most := 30) (by decide)
  have rt := fun {b : Bk} (B : BL b) {xs : List Str} (X : XL b xs) => right16_dr hc B X
  unfold m_law_k16 b_law_k16
  generalize m__law_begin = f1 at hb ⊢
  generalize m__law_book = f2 at bk ⊢
  generalize m__law_stream = f3 at sd ⊢
  generalize m__law_right_k16 = f4 at rt ⊢
  have len_s : ∀ S, lenT S [.sls (ns.map T.int)] = some (.int ns.length) := fun S => by rw [len_sls, List.length_map]
  obtain ⟨n, en1, hn⟩ : ∃ n : Nat, (3 : Int) + (if (6 : Int) < (ns.length : Int) then (6 : Int) else ns.length) = n ∧ n ≤ 9 := by
    split
    · exact ⟨9, by omega, by omega⟩
    · exact ⟨3 + ns.length, by omega, by omega⟩
  have mi : ∀ S, minT S [.int ns.length, .int 6] = some (.int (if (6 : Int) < (ns.length : Int) then (6 : Int) else ns.length)) := fun S => rfl
  simp_arith [hb, len_s, mi, add_int, en1, inR_small (show (0 : Int) ≤ n by omega) (by omega)]
  generalize hF : forF _ _ _ _ _ = R2
  obtain ⟨τ2, S3, e, ls1, a1, h1, h2, h3, x2, x3, h4⟩ := for_go hF (fun i τ T1 => ∃ ls a, T1 = S2 ls cs a [] ∧ ls.length = cs.length ∧ a ≤ 1000 * i ∧ ∃ x2 x3, τ = [some (.sls (ns.map T.int)), some (.ref 1), x2, x3])
    ⟨ls0, 0, rfl, hl0, Nat.le_refl _, none, none, rfl⟩ (by
    intro i y τ T1 hx hI
    obtain ⟨ls, a, rfl, hl, ha, x2, x3, rfl⟩ := hI
    obtain ⟨hi, rfl⟩ := rng_at hx
    refine ⟨_, rfl, ?_⟩
    obtain ⟨_, ls1, a1, d1, ⟨b, B, rfl⟩, l1, b1⟩ := bk [] ls a hl (by omega)
    obtain ⟨_, ls2, a2, d2, ⟨xs, X, _, rfl⟩, l2, b2⟩ := sd B [] ls1 a1 l1 (by omega)
    obtain ⟨_, ls3, a3, d3, rfl, l3, b3⟩ := rt B X [] ls2 a2 l2 (by omega)
    have d1 : f2 [.ref 1, .int 8] (S2 ls cs a []) = .ok (bT b) (S2 ls1 cs a1 []) := d1
    have d2 : f3 [.ref 1, bT b, .int 30] (S2 ls1 cs a1 []) = .ok (tS xs) (S2 ls2 cs a2 []) := d2
    simp_arith [d1, d2, d3]
    exact goes_nx ⟨ls3, a3, rfl, l3, by omega, _, _, rfl⟩)
  subst e h1 h4
  simp_arith []
  exact ⟨_, rfl⟩
end SF
set_option Elab.async false
set_option linter.all false
set_option maxRecDepth 100000
namespace SF
open PySem PySem.Spec L2 TL
open PyProof.Rows hiding St
/-! ### sets of kinds, the least ones of them -/
def sgS (ks : List Str) : List (List Str) := ks.foldl (fun fs w => fs ++ fs.map (· ++ [w])) [[]]
theorem sg_snoc (ks : List Str) (w : Str) : sgS (ks ++ [w]) = sgS ks ++ (sgS ks).map (· ++ [w]) := by
  unfold sgS
  rw [List.foldl_append]
  rfl
theorem snoc_ind {α : Type} {P : List α → Prop} (h0 : P []) (h1 : ∀ l x, P l → P (l ++ [x])) : ∀ l, P l := fun l => by
  have : ∀ n, ∀ l : List α, l.length = n → P l := fun n => by
    induction n with
    | zero => exact fun l hl => by rw [List.length_eq_zero_iff.mp hl]; exact h0
    | succ n ih =>
      intro l hl
      have hne : l ≠ [] := fun z => by rw [z] at hl; cases hl
      rw [← List.dropLast_concat_getLast hne]
      exact h1 _ _ (ih _ (by rw [List.length_dropLast, hl]; rfl))
  exact this _ l rfl
theorem mem_sg : ∀ {ks l : List Str}, l ∈ sgS ks ↔ l.Sublist ks := fun {ks} => by
  refine snoc_ind (P := fun ks => ∀ {l : List Str}, l ∈ sgS ks ↔ l.Sublist ks) ?_ ?_ ks
  · intro l
    show l ∈ [[]] ↔ _
    rw [List.mem_singleton, List.sublist_nil]
  · intro ks w ih l
    rw [sg_snoc, sub_snoc, List.mem_append, ih, List.mem_map]
    exact or_congr Iff.rfl ⟨fun ⟨m, hm, e⟩ => ⟨m, ih.mp hm, e.symm⟩, fun ⟨m, hm, e⟩ => ⟨m, ih.mpr hm, e.symm⟩⟩
theorem len_sg (ks : List Str) : (sgS ks).length = 2 ^ ks.length := by
  refine snoc_ind (P := fun ks => (sgS ks).length = 2 ^ ks.length) rfl ?_ ks
  intro ks w ih
  rw [sg_snoc, List.length_append, List.length_map, List.length_append, ih, List.length_singleton, Nat.pow_succ]
  omega
theorem sg_order {ks : List Str} : ks.Nodup → (sgS ks).Pairwise fun a b => ¬ b.Sublist a := by
  refine snoc_ind (P := fun ks => ks.Nodup → (sgS ks).Pairwise fun a b => ¬ b.Sublist a) ?_ ?_ ks
  · intro _
    exact List.pairwise_singleton _ _
  · intro ks w ih hn
    obtain ⟨n1, _, n3⟩ := List.nodup_append.mp hn
    have hw : w ∉ ks := fun z => n3 w z w (List.mem_singleton.mpr rfl) rfl
    rw [sg_snoc, List.pairwise_append]
    have up : ∀ {a b : List Str}, (b ++ [w]).Sublist (a ++ [w]) → b.Sublist a := fun {a b} z => by
      rcases sub_snoc.mp z with z | ⟨m, z, e⟩
      · exact (List.sublist_append_left _ _).trans z
      · rw [List.append_inj_left' e rfl]
        exact z
    refine ⟨ih n1, List.pairwise_map.mpr (List.Pairwise.imp (fun {a b} h z => h (up z)) (ih n1)), fun a ha c hc => ?_⟩
    · obtain ⟨b, hb, rfl⟩ := List.mem_map.mp hc
      intro z
      have h1 : (b ++ [w]).Sublist ks := z.trans (mem_sg.mp ha)
      exact hw (h1.subset (List.mem_append_right _ (List.mem_singleton.mpr rfl)))
theorem sub_sub : ∀ {ks s t : List Str}, ks.Nodup → s.Sublist ks → t.Sublist ks → (∀ k ∈ s, k ∈ t) → s.Sublist t
  | [], s, t, _, hs, ht, _ => by
    rw [List.sublist_nil.mp hs]
    exact List.nil_sublist _
  | x :: ks, s, t, hn, hs, ht, h => by
    obtain ⟨hx, hn⟩ := List.nodup_cons.mp hn
    rcases List.sublist_cons_iff.mp hs with hs1 | ⟨s', rfl, hs1⟩ <;> rcases List.sublist_cons_iff.mp ht with ht1 | ⟨t', rfl, ht1⟩
    · exact sub_sub hn hs1 ht1 h
    · exact (sub_sub hn hs1 ht1 fun k hk => (List.mem_cons.mp (h k hk)).resolve_left fun z => hx (z ▸ hs1.subset hk)).cons _
    · exact absurd (ht1.subset (h x List.mem_cons_self)) hx
    · exact (sub_sub hn hs1 ht1 fun k hk => (List.mem_cons.mp (h k (List.mem_cons_of_mem _ hk))).resolve_left fun z => hx (z ▸ hs1.subset hk)).cons₂ _
def inA (s t : List Str) : Bool := s.all fun k => decide (k ∈ t)
theorem inA_iff {s t : List Str} : inA s t = true ↔ ∀ k ∈ s, k ∈ t := by
  unfold inA
  simp
def grd (F : List Str → Bool) (acc : List (List Str)) (t : List Str) : List (List Str) := if acc.any (fun s => inA s t) then acc else if F t then acc ++ [t] else acc
def greedy (F : List Str → Bool) (L : List (List Str)) : List (List Str) := L.foldl (grd F) []
/-- the least ones -/
def leastB (F : List Str → Bool) (L : List (List Str)) (t : List Str) : Bool := F t && L.all fun s => !(inA s t && F s) || decide (s = t)
theorem least_iff {F : List Str → Bool} {L : List (List Str)} {t : List Str} : leastB F L t = true ↔ F t = true ∧ ∀ s ∈ L, inA s t = true → F s = true → s = t := by
  unfold leastB
  simp only [Bool.and_eq_true, List.all_eq_true, Bool.or_eq_true, Bool.not_eq_true', decide_eq_true_eq]
  refine and_congr Iff.rfl ⟨fun h s hs h1 h2 => (h s hs).resolve_left fun z => ?_, fun h s hs => ?_⟩
  · rw [h1, h2] at z; cases z
  · cases h1 : inA s t <;> cases h2 : F s <;> simp
    exact h s hs h1 h2
structure GoodL (ks : List Str) (L : List (List Str)) : Prop where
  nd : ks.Nodup
  sub : ∀ l ∈ L, l.Sublist ks
  ord : L.Pairwise fun a b => ¬ b.Sublist a
theorem GoodL.sub_iff {ks : List Str} {L : List (List Str)} (G : GoodL ks L) {s t : List Str} (hs : s ∈ L) (ht : t ∈ L) : inA s t = true ↔ s.Sublist t :=
  ⟨fun h => sub_sub G.nd (G.sub s hs) (G.sub t ht) (inA_iff.mp h), fun h => inA_iff.mpr fun k hk => h.subset hk⟩
theorem least_under {ks : List Str} {L : List (List Str)} (G : GoodL ks L) {F : List Str → Bool} : ∀ (n : Nat) {s : List Str}, s.length = n → s ∈ L → F s = true → ∃ m ∈ L, leastB F L m = true ∧ m.Sublist s := fun n => by
  induction n using Nat.strongRecOn with
  | _ n ih =>
    intro s hn hs hF
    by_cases h : ∀ u ∈ L, inA u s = true → F u = true → u = s
    · exact ⟨s, hs, least_iff.mpr ⟨hF, h⟩, List.Sublist.refl _⟩
    · simp only [Classical.not_forall] at h
      obtain ⟨u, hu, h1, h2, h3⟩ := h
      have us := (G.sub_iff hu hs).mp h1
      have lt : u.length < n := by
        rw [← hn]
        rcases Nat.lt_or_ge u.length s.length with z | z
        · exact z
        · exact absurd (us.eq_of_length_le z) h3
      obtain ⟨m, m1, m2, m3⟩ := ih _ lt rfl hu h2
      exact ⟨m, m1, m2, m3.trans us⟩
theorem greedy_eq {ks : List Str} {L : List (List Str)} (G : GoodL ks L) (F : List Str → Bool) : greedy F L = L.filter (leastB F L) := by
  have key : ∀ (R P : List (List Str)), L = P ++ R → R.foldl (grd F) (P.filter (leastB F L)) = L.filter (leastB F L) := fun R => by
    induction R with
    | nil => intro P h; rw [h, List.append_nil]; rfl
    | cons t R ih =>
      intro P h
      have ht : t ∈ L := by rw [h]; simp
      have hP : ∀ s ∈ P, s ∈ L := fun s hs => by rw [h]; exact List.mem_append_left _ hs
      have ho := G.ord
      have bef : ∀ s ∈ P, ¬ t.Sublist s := fun s hs => by
        rw [h, List.pairwise_append] at ho
        exact ho.2.2 s hs t List.mem_cons_self
      have aft : ∀ s ∈ L, s.Sublist t → s ≠ t → s ∈ P := fun s hs z ne => by
        rw [h] at hs
        rcases List.mem_append.mp hs with z1 | z1
        · exact z1
        · rcases List.mem_cons.mp z1 with z1 | z1
          · exact absurd z1 ne
          · rw [h, List.pairwise_append] at ho
            exact absurd z ((List.pairwise_cons.mp ho.2.1).1 s z1)
      have step : grd F (P.filter (leastB F L)) t = (P ++ [t]).filter (leastB F L) := by
        rw [List.filter_append]
        unfold grd
        by_cases hF : F t = true
        · by_cases hm : leastB F L t = true
          · have h2 := (least_iff.mp hm).2
            rw [if_neg, if_pos hF, List.filter_cons_of_pos hm, List.filter_nil]
            intro z
            obtain ⟨s, hs, h1⟩ := List.any_eq_true.mp z
            obtain ⟨hs, hl⟩ := List.mem_filter.mp hs
            have e := h2 s (hP s hs) h1 (least_iff.mp hl).1
            subst e
            exact bef _ hs (List.Sublist.refl _)
          · have hm' : leastB F L t = false := by simpa using hm
            rw [List.filter_cons_of_neg (by rw [hm']; exact Bool.false_ne_true), List.filter_nil, List.append_nil, if_pos]
            obtain ⟨m, m1, m2, m3⟩ := least_under G t.length rfl ht hF
            have ne : m ≠ t := fun e => by rw [e, hm'] at m2; cases m2
            exact List.any_eq_true.mpr ⟨m, List.mem_filter.mpr ⟨aft m m1 m3 ne, m2⟩, (G.sub_iff m1 ht).mpr m3⟩
        · have hm' : leastB F L t = false := by
            cases z : leastB F L t with
            | false => rfl
            | true => exact absurd (least_iff.mp z).1 hF
          rw [List.filter_cons_of_neg (by rw [hm']; exact Bool.false_ne_true), List.filter_nil, List.append_nil, if_neg hF, ite_self]
      rw [List.foldl_cons, step]
      exact ih (P ++ [t]) (by rw [h]; simp)
  exact key L [] rfl
theorem sg_good {ks : List Str} (h : ks.Nodup) : GoodL ks (sgS ks) := ⟨h, fun l hl => mem_sg.mp hl, sg_order h⟩
theorem ord_nd {L : List (List Str)} (h : L.Pairwise fun a b => ¬ b.Sublist a) : L.Nodup := List.Pairwise.imp (fun {a b} q z => q (by rw [z]; exact List.Sublist.refl _)) h
theorem perm_of_sub : ∀ {l K : List (List Str)}, l.Nodup → (∀ x ∈ l, x ∈ K) → K.length ≤ l.length → K.Perm l
  | [], K, _, _, h => by rw [List.length_eq_zero_iff.mp (Nat.le_zero.mp h)]
  | x :: l, K, hn, hs, hl => by
    obtain ⟨h1, h2⟩ := List.nodup_cons.mp hn
    have p := List.perm_cons_erase (hs x List.mem_cons_self)
    have hl2 := p.length_eq
    rw [List.length_cons] at hl hl2
    exact p.trans ((perm_of_sub h2 (fun y hy => (List.mem_erase_of_ne (fun z : y = x => h1 (by rw [← z]; exact hy))).mpr (hs y (List.mem_cons_of_mem _ hy))) (by omega)).cons x)
theorem sets_perm {ks : List Str} {ls : List (List Str)} (h : ks.Nodup) (S : Sets ks ls) : ls.Perm (sgS ks) :=
  perm_of_sub (ord_nd (sg_order h)) (fun l hl => (S.mem l).mpr (mem_sg.mp hl)) (by rw [S.len, len_sg]; exact Nat.le_refl _)
theorem sets_good {ks : List Str} {ls : List (List Str)} (h : ks.Nodup) (S : Sets ks ls) : GoodL ks ls := by
  have n1 : ls.Nodup := (sets_perm h S).nodup_iff.mpr (ord_nd (sg_order h))
  refine ⟨h, fun l hl => (S.mem l).mp hl, ?_⟩
  exact (List.pairwise_and_iff.mpr ⟨S.asc, n1⟩).imp fun {a b} q z => q.2 (z.eq_of_length_le q.1).symm
theorem greedy_perm {ks : List Str} {ls : List (List Str)} (h : ks.Nodup) (S : Sets ks ls) (F : List Str → Bool) : (greedy F ls).Perm (greedy F (sgS ks)) := by
  rw [greedy_eq (sets_good h S), greedy_eq (sg_good h)]
  have p := sets_perm h S
  have e : leastB F ls = leastB F (sgS ks) := funext fun t => by
    unfold leastB
    rw [p.all_eq]
  rw [e]
  exact p.filter _
theorem greedy_ok {ks : List Str} (h : ks.Nodup) (F : List Str → Bool) : okRows (greedy F (sgS ks)) = true := by
  rw [greedy_eq (sg_good h)]
  have n1 : ((sgS ks).filter (leastB F (sgS ks))).Nodup := (ord_nd (sg_order h)).sublist List.filter_sublist
  have key : [] ∈ (sgS ks).filter (leastB F (sgS ks)) → ∀ t ∈ (sgS ks).filter (leastB F (sgS ks)), t = [] := fun h0 t ht => by
    obtain ⟨a1, a2⟩ := List.mem_filter.mp h0
    obtain ⟨b1, b2⟩ := List.mem_filter.mp ht
    exact ((least_iff.mp b2).2 [] a1 (inA_iff.mpr fun k hk => nomatch hk) (least_iff.mp a2).1).symm
  generalize (sgS ks).filter (leastB F (sgS ks)) = G at n1 key
  unfold okRows
  by_cases h0 : [] ∈ G
  · have k := key h0
    match G, n1, k with
    | [], _, _ => rfl
    | [x], _, _ => rfl
    | x :: y :: r, n, k =>
      have e1 := k x (by simp)
      have e2 := k y (by simp)
      subst e1 e2
      exact absurd List.mem_cons_self (List.nodup_cons.mp n).1
  · rw [Bool.or_eq_true]
    refine .inr (List.all_eq_true.mpr fun l hl => ?_)
    cases l with
    | nil => exact absurd hl h0
    | cons _ _ => rfl
end SF
set_option Elab.async false
set_option linter.all false
set_option maxRecDepth 100000
namespace SF
open PySem PySem.Spec L2 TL
open PyProof.Rows hiding St
/-! ### walks over what is told of a list -/
theorem lc_img {α : Type} {F : α → T} {P : α → Bool} {r : α → T} {g : GT} {Ft : FT} {Fe : FE} {vs : List Nat} {τ : Fr} {S : Sto} : ∀ {l : List α},
    (∀ a ∈ l, ∃ s, g (F a) = some s ∧ slotsIn s vs = true ∧ Ft (setsT τ s) S = .ok (P a) S ∧ (P a = true → Fe (setsT τ s) S = .ok (r a) S)) → lcF g Ft Fe vs τ (l.map F) S = .ok ((l.filter P).map r) S
  | [], _ => rfl
  | x :: xs, h => by
    obtain ⟨s, h1, h2, h3, h4⟩ := h x List.mem_cons_self
    have ih := lc_img fun y hy => h y (List.mem_cons_of_mem _ hy)
    cases e : P x with
    | true => simp only [List.map_cons, lcF, h1, h2, h3, e, h4 e, ih, if_true, bind_ok, nox_ok, List.filter_cons_of_pos]
    | false => simp only [List.map_cons, lcF, h1, h2, h3, e, ih, if_true, bind_ok, nox_ok, List.filter_cons, Bool.false_eq_true, if_false]
theorem lc_each1 {α : Type} {F : α → T} {r : α → T} {g : GT} {Ft : FT} {Fe : FE} {vs : List Nat} {τ : Fr} {S : Sto} {l : List α}
    (h : ∀ a ∈ l, ∃ s, g (F a) = some s ∧ slotsIn s vs = true ∧ Ft (setsT τ s) S = .ok true S ∧ Fe (setsT τ s) S = .ok (r a) S) : lcF g Ft Fe vs τ (l.map F) S = .ok (l.map r) S := by
  rw [lc_img (P := fun _ => true) (r := r) fun a ha => (h a ha).imp fun s z => ⟨z.1, z.2.1, z.2.2.1, fun _ => z.2.2.2⟩, List.filter_eq_self.mpr fun _ _ => rfl]
theorem lcC_img {α : Type} {n : Nat} {c : T} {F : α → T} {P : α → Bool} {r : α → T} {g : GT} {Ft : FT} {Fe : FE} {vs : List Nat} {τ : Fr} {S : Sto} (hS : S[n]? = some c) : ∀ {l : List α},
    (∀ a ∈ l, ∃ s, g (F a) = some s ∧ slotsIn s vs = true ∧ Ft (setsT τ s) S = .ok (P a) S ∧ (P a = true → Fe (setsT τ s) S = .ok (r a) S)) → lcC n c g Ft Fe vs τ (l.map F) S = .ok ((l.filter P).map r) S
  | [], _ => by unfold lcC; rw [List.map_nil]; simp only; rw [if_pos hS]; rfl
  | x :: xs, h => by
    obtain ⟨s, h1, h2, h3, h4⟩ := h x List.mem_cons_self
    have ih := lcC_img hS fun y hy => h y (List.mem_cons_of_mem _ hy)
    rw [List.map_cons]
    unfold lcC
    rw [if_pos hS]
    cases e : P x with
    | true => simp only [h1, h2, h3, e, h4 e, ih, if_true, bind_ok, nox_ok, List.filter_cons_of_pos, List.map_cons]
    | false => simp only [h1, h2, h3, e, ih, if_true, bind_ok, nox_ok, List.filter_cons, Bool.false_eq_true, if_false]
theorem lcC_each1 {α : Type} {n : Nat} {c : T} {F : α → T} {r : α → T} {g : GT} {Ft : FT} {Fe : FE} {vs : List Nat} {τ : Fr} {S : Sto} (hS : S[n]? = some c) {l : List α}
    (h : ∀ a ∈ l, ∃ s, g (F a) = some s ∧ slotsIn s vs = true ∧ Ft (setsT τ s) S = .ok true S ∧ Fe (setsT τ s) S = .ok (r a) S) : lcC n c g Ft Fe vs τ (l.map F) S = .ok (l.map r) S := by
  rw [lcC_img (P := fun _ => true) (r := r) hS fun a ha => (h a ha).imp fun s z => ⟨z.1, z.2.1, z.2.2.1, fun _ => z.2.2.2⟩, List.filter_eq_self.mpr fun _ _ => rfl]
theorem st_img {α : Type} {F : α → T} {r : α → Str} {g : GT} {Ft : FT} {Fe : FE} {vs : List Nat} {τ : Fr} {S : Sto} : ∀ {l : List α} {m : List Str},
    (∀ a ∈ l, ∃ s, g (F a) = some s ∧ slotsIn s vs = true ∧ Ft (setsT τ s) S = .ok true S ∧ Fe (setsT τ s) S = .ok (.str (r a)) S) → stF g Ft Fe vs τ (l.map F) m S = .ok ((l.map r).foldl addS m) S
  | [], _, _ => rfl
  | x :: xs, m, h => by
    obtain ⟨s, h1, h2, h3, h4⟩ := h x List.mem_cons_self
    have ih := st_img (m := addS m (r x)) fun y hy => h y (List.mem_cons_of_mem _ hy)
    simp only [List.map_cons, stF, h1, h2, h3, h4, ih, if_true, bind_ok, nox_ok, List.foldl_cons]
theorem for_at {α : Type} {F : α → T} {g : GT} {B : BS} {l : List α} {τ : Fr} {S : Sto} {R : RS} (hF : forF g B (l.map F) τ S = R) (I : Nat → Fr → Sto → Prop) (h0 : I 0 τ S)
    (h : ∀ i a τ S, l[i]? = some a → I i τ S → ∃ s, g (F a) = some s ∧ TL.Goes (B (setsT τ s) S) (I (i + 1))) : ∃ τ2 S2, R = .nx τ2 S2 ∧ I l.length τ2 S2 := by
  have q := for_go hF I h0 fun i x τ S hx hI => by
    rw [List.getElem?_map] at hx
    cases ex : l[i]? with
    | none => rw [ex] at hx; cases hx
    | some a =>
      rw [ex] at hx
      cases hx
      exact h i a τ S ex hI
  rw [List.length_map] at q
  exact q
theorem stop_at {α : Type} {F : α → T} {g : GT} {B : BS} {l : List α} {τ : Fr} {S : Sto} {R : RS} (hF : forF g B (l.map F) τ S = R) (P : Nat → Prop) (I : Nat → Fr → Sto → Prop) (J : T → Sto → Prop) (h0 : I 0 τ S)
    (h : ∀ i a τ S, l[i]? = some a → I i τ S → ∃ s, g (F a) = some s ∧ ((P i ∧ TL.Goes (B (setsT τ s) S) (I (i + 1))) ∨ (¬ P i ∧ ∃ r S2, B (setsT τ s) S = .rt r S2 ∧ J r S2))) :
    (∃ τ2 S2, R = .nx τ2 S2 ∧ I l.length τ2 S2 ∧ ∀ i, i < l.length → P i) ∨ ∃ i r S2, i < l.length ∧ ¬ P i ∧ R = .rt r S2 ∧ J r S2 := by
  have q := for_stop hF P I J h0 fun i x τ S hx hI => by
    rw [List.getElem?_map] at hx
    cases ex : l[i]? with
    | none => rw [ex] at hx; cases hx
    | some a =>
      rw [ex] at hx
      cases hx
      exact h i a τ S ex hI
  rw [List.length_map] at q
  exact q
theorem bools_of : ∀ bs : List Bool, bools (bs.map T.bl) = some bs
  | [] => rfl
  | b :: bs => by simp only [List.map_cons, bools, bools_of bs, Option.map_some]
theorem all_of_bl (bs : List Bool) (S : Sto) : allT S [.lst (bs.map T.bl)] = some (.bl (bs.all id)) := by
  show ((bools (bs.map T.bl)).map fun bs => T.bl (bs.all id)) = _
  rw [bools_of]
  rfl
theorem all_img {α : Type} (P : α → Bool) (l : List α) (S : Sto) : allT S [.lst (l.map fun a => T.bl (P a))] = some (.bl (l.all P)) := by
  have := all_of_bl (l.map P) S
  rw [List.map_map] at this
  rw [show (l.map fun a => T.bl (P a)) = l.map (T.bl ∘ P) from rfl, this, List.all_map]
  rfl
theorem any_img {α : Type} (P : α → Bool) (l : List α) (S : Sto) : anyT S [.lst (l.map fun a => T.bl (P a))] = some (.bl (l.any P)) := by
  have := any_lst (l.map P) S
  rw [List.map_map] at this
  rw [show (l.map fun a => T.bl (P a)) = l.map (T.bl ∘ P) from rfl, this, List.any_map]
  rfl
/-! ### kinds of a book -/
theorem adds_nd : ∀ {xs m : List Str}, m.Nodup → (xs.foldl addS m).Nodup
  | [], _, h => h
  | x :: xs, m, h => by
    rw [List.foldl_cons]
    refine adds_nd ?_
    unfold addS
    split
    · exact h
    · exact List.nodup_cons.mpr ⟨‹_›, h⟩
theorem adds_mem : ∀ {xs m : List Str} {y : Str}, y ∈ xs.foldl addS m ↔ y ∈ m ∨ y ∈ xs
  | [], _, _ => by simp
  | x :: xs, m, y => by
    rw [List.foldl_cons, adds_mem, List.mem_cons]
    unfold addS
    split
    · rename_i h
      exact ⟨fun z => z.elim .inl fun z => .inr (.inr z), fun z => z.elim .inl fun z => z.elim (fun e => .inl (e ▸ h)) .inr⟩
    · rw [List.mem_cons]
      exact ⟨fun z => z.elim (fun z => z.elim (fun e => .inr (.inl e)) .inl) fun z => .inr (.inr z), fun z => z.elim (fun z => .inl (.inr z)) fun z => z.elim (fun e => .inl (.inl e)) .inr⟩
theorem adds_len : ∀ (xs m : List Str), (xs.foldl addS m).length ≤ m.length + xs.length
  | [], _ => Nat.le_refl _
  | x :: xs, m => by
    rw [List.foldl_cons, List.length_cons]
    have := adds_len xs (addS m x)
    have := addS_len m x
    omega
def kindsG (b : Bk) : List Str := sortS ((b.cs.map (·.k)).foldl addS [])
theorem kindsG_nd (b : Bk) : (kindsG b).Nodup := (sortS_perm _).nodup_iff.mpr (adds_nd List.nodup_nil)
theorem kindsG_mem {b : Bk} {k : Str} : k ∈ kindsG b ↔ ∃ c ∈ b.cs, c.k = k := by
  unfold kindsG
  rw [(sortS_perm _).mem_iff, adds_mem, List.mem_map]
  simp
theorem kindsG_len {b : Bk} (G : GC b) : (kindsG b).length ≤ 6 := by
  obtain ⟨K, h1, h2⟩ := G.kin
  refine Nat.le_trans (nodup_len (kindsG_nd b) fun k hk => ?_) h1
  obtain ⟨c, hc, rfl⟩ := kindsG_mem.mp hk
  exact h2 c hc
theorem kinds_BL {b : Bk} (B : BL b) : kindsG b = kindsS b :=
  sorted_eq ((show K3.Pairwise (fun a b => leS a b = true) by decide +kernel).sublist (kindsS_sub b)) ((show K3.Nodup by decide +kernel).sublist (kindsS_sub b)) (sortS_pw _) (kindsG_nd b) fun x => by
    rw [kindsG_mem, mem_kinds B]
theorem kinds_of_ok {b : Bk} (G : GB b) : Pu m_kinds_of [bT b] (tS (kindsG b)) := by
  intro S
  have hb := need_book_ok G
  have i2 : ∀ S, ixT S (bT b) (.int 2) = some (.tup (b.cs.map cT)) := fun S => rfl
  have l16 := G.len
  have hz := adds_len (b.cs.map (·.k)) []
  rw [List.length_map, List.length_nil, Nat.zero_add] at hz
  unfold m_kinds_of b_kinds_of
  generalize m_need_book = f1 at hb ⊢
  have z1 : b.cs.length + 1 < scanBound := Nat.lt_of_le_of_lt (show _ ≤ 17 by omega) (by decide)
  simp_arith [hb S, i2, fSortX, fSt, List.length_map, z1]
  rw [st_img (r := fun c : Code => c.k) fun c hc => ⟨_, rfl, slots1 _ _, rfl, by simp_arith [cT]⟩]
  simp_arith [show ((b.cs.map (·.k)).foldl addS []).length < 64 by omega]
  rfl
theorem sets_of_ok {ks : List Str} (k6 : ks.length ≤ 6) : Pu m_sets_of [tS ks] (.lst ((sgS ks).map tS)) := by
  intro S
  have sg1 : ∀ i w, ks[i]? = some w → sgS (ks.take (i + 1)) = sgS (ks.take i) ++ (sgS (ks.take i)).map (· ++ [w]) := fun i w h => by
    rw [List.take_add_one, h]
    exact sg_snoc _ _
  unfold m_sets_of b_sets_of
  simp_arith [small16 (show 1 ≤ 200 by omega)]
  generalize hF : forF _ _ _ _ _ = R2
  obtain ⟨τ2, S3, e, h1, x2, x3, h4⟩ := for_at hF (fun i τ T1 => T1 = S ∧ ∃ x2 x3, τ = [some (tS ks), some (.lst ((sgS (ks.take i)).map tS)), x2, x3])
    ⟨rfl, none, none, rfl⟩ (by
    intro i w τ T1 ex hI
    obtain ⟨rfl, x2, x3, rfl⟩ := hI
    have hi := (List.getElem?_eq_some_iff.mp ex).1
    have q1 := len_sg (ks.take i)
    rw [List.length_take] at q1
    have hp : 2 ^ (min i ks.length) ≤ 2 ^ 5 := Nat.pow_le_pow_right (by decide) (by omega)
    have q2 : ∀ l ∈ sgS (ks.take i), l.length ≤ 6 := fun l hl => by
      have := (mem_sg.mp hl).length_le
      rw [List.length_take] at this
      omega
    rw [sg1 i w ex]
    generalize sgS (ks.take i) = fs at q1 q2 ⊢
    refine ⟨_, rfl, ?_⟩
    simp_arith [List.length_map, small16 (show fs.length ≤ 200 by omega)]
    rw [lc_each1 (r := fun l => tS (l ++ [w])) fun l hl => ⟨_, rfl, slots1 _ _, rfl, by
      have hz : (l.map T.str).length + [T.str w].length ≤ sizeLine := small16 (by
        have := q2 l hl
        rw [List.length_map]
        show _ + 1 ≤ 200
        omega)
      simp_arith [add_tup hz, small16 (show 1 ≤ 200 by omega)]
      rw [tS, map_snoc]⟩]
    have hz2 : (fs.map tS).length + ((fs.map (· ++ [w])).map tS).length ≤ sizeLine := small16 (by simp; omega)
    have em : (fs.map fun l => tS (l ++ [w])) = (fs.map (· ++ [w])).map tS := by rw [List.map_map]; rfl
    simp_arith [em, add_lst hz2, ← List.map_append]
    exact goes_nx ⟨rfl, _, _, rfl⟩)
  subst e h1 h4
  rw [List.take_length]
  simp_arith []
theorem has_all_ok {s t : List Str} (hs : s.length ≤ 100) : Pu m_has_all [tS t, tS s] (.bl (inA s t)) := by
  intro S
  unfold m_has_all b_has_all
  have hi : ∀ (k : Str) S, inT S (.str k) (tS t) = some (.bl (decide (k ∈ t))) := fun k S => in_tup k t S
  simp_arith [List.length_map, small16 (show s.length ≤ 200 by omega)]
  rw [lc_each1 (r := fun k => .bl (decide (k ∈ t))) fun k hk => ⟨_, rfl, slots1 _ _, rfl, by simp_arith [hi]⟩]
  simp_arith [all_img (fun k => decide (k ∈ t)) s]
  rfl
end SF
set_option Elab.async false
set_option linter.all false
set_option maxRecDepth 100000
namespace SF
open PySem PySem.Spec L2 TL
open PyProof.Rows hiding St
/-! ### what frees -/
def freeP (b : Bk) (xs : List Str) (t : List Str) : Bool := !(rowsF b f0 xs).any fun r => r.any fun c => (worthS t c).isNone
def freeL (b : Bk) (xs : List Str) : List (List Str) := sortL (greedy (freeP b xs) (sgS (kindsG b)))
theorem nr_rows (ls : List (List Str)) : nr (.tup (ls.map tS)) = true := nrs_map fun l _ => nr_tS l
theorem rowsT_map : ∀ ls : List (List Str), rowsT (ls.map tS) = some ls
  | [] => rfl
  | l :: ls => by simp only [List.map_cons, rowsT, strsT_map, rowsT_map ls, Option.bind_some, Option.map_some]
theorem sort_rows {ls : List (List Str)} (h : okRows ls = true) (S : Sto) : sortRT S [.lst (ls.map tS)] = some (.lst ((sortL ls).map tS)) := by
  show ((rowsT (ls.map tS)).bind fun ls => if okRows ls then some (T.lst ((sortL ls).map tL)) else none) = _
  rw [rowsT_map, Option.bind_some, if_pos h]
theorem sort_rows_ref {S : Sto} {n : Nat} {ls : List (List Str)} (e : S[n]? = some (.lst (ls.map tS))) (h : okRows ls = true) : sortRT S [.ref n] = some (.lst ((sortL ls).map tS)) := by
  show (seqL S (.ref n)).bind _ = _
  have q : seqL S (.ref n) = some (ls.map tS) := by simp only [seqL, e]
  rw [q]
  exact sort_rows h S
theorem grd_len (F : List Str → Bool) (acc : List (List Str)) (t : List Str) : (grd F acc t).length ≤ acc.length + 1 := by
  unfold grd
  split
  · omega
  · split
    · simp
    · omega
theorem grds_len (F : List Str → Bool) : ∀ (L acc : List (List Str)), (L.foldl (grd F) acc).length ≤ acc.length + L.length
  | [], _ => Nat.le_refl _
  | t :: L, acc => by
    rw [List.foldl_cons, List.length_cons]
    have := grds_len F L (grd F acc t)
    have := grd_len F acc t
    omega
theorem freeing_ok {b : Bk} (G : GC b) {xs : List Str} (X : GI b xs) : Pu m_freeing [bT b, tS xs] (.tup ((freeL b xs).map tS)) := by
  intro U
  have W := G.w
  have k6 := kindsG_len G
  have h1 := need_stream_ok W X
  have h2 := chains_shown_ok G X
  have h3 := kinds_of_ok W.gb
  have h4 := sets_of_ok k6
  have h5 := fun {s t : List Str} (h : s.length ≤ 100) => has_all_ok (t := t) h
  have h6 := fun {t : List Str} {r : List Ch} (h : r.length ≤ 6) => hangs_there_ok (t := t) h
  have rl : ∀ r ∈ rowsF b f0 xs, r.length ≤ 6 := fun r hr => (rows_good G r hr).1
  have rz : (rowsF b f0 xs).length ≤ 200 := by
    rw [rows_q, List.length_map]
    exact Nat.le_trans (q_len xs f0) X.len
  have sz := len_sg (kindsG b)
  have sp : 2 ^ (kindsG b).length ≤ 2 ^ 6 := Nat.pow_le_pow_right (by decide) k6
  have sl : ∀ s ∈ sgS (kindsG b), s.length ≤ 100 := fun s hs => by
    have := (mem_sg.mp hs).length_le
    omega
  unfold m_freeing
  refine gc_pure ?_ (nr_rows _)
  have hok := greedy_ok (kindsG_nd b) (freeP b xs)
  unfold freeL
  have mem : ∀ (L acc : List (List Str)) (m : List Str), m ∈ L.foldl (grd (freeP b xs)) acc → m ∈ acc ∨ m ∈ L := fun L => by
    induction L with
    | nil => exact fun acc m h => .inl h
    | cons t L ih =>
      intro acc m h
      rcases ih _ _ h with z | z
      · unfold grd at z
        split at z
        · exact .inl z
        · split at z
          · rcases List.mem_append.mp z with z | z
            · exact .inl z
            · exact .inr (by rw [List.mem_singleton.mp z]; exact List.mem_cons_self)
          · exact .inl z
      · exact .inr (List.mem_cons_of_mem _ z)
  have hgl := grds_len (freeP b xs)
  unfold greedy at hok ⊢
  generalize hFr : freeP b xs = Fp at hok mem hgl ⊢
  generalize hL : sgS (kindsG b) = L at h4 sz sl hok ⊢
  unfold b_freeing
  generalize m_need_stream = g1 at h1 ⊢
  generalize m_chains_shown = g2 at h2 ⊢
  generalize m_kinds_of = g3 at h3 ⊢
  generalize m_sets_of = g4 at h4 ⊢
  generalize m_has_all = g5 at h5 ⊢
  generalize m_hangs_there = g6 at h6 ⊢
  simp_arith [h1 U, h2 U, h3 (U ++ [.lst []]), h4 (U ++ [.lst []])]
  generalize hF : forF _ _ _ _ _ = R2
  obtain ⟨τ2, S3, e, h7, x4, x5, x6, h8⟩ := for_at hF (fun i τ T1 => T1 = U ++ [.lst (((L.take i).foldl (grd Fp) []).map tS)] ∧ ∃ x4 x5 x6, τ = [some (bT b), some (tS xs), some (.lst ((rowsF b f0 xs).map rowT)), some (.ref U.length), x4, x5, x6])
    ⟨rfl, none, none, none, rfl⟩ (by
    intro i t τ T1 ex hI
    obtain ⟨rfl, x4, x5, x6, rfl⟩ := hI
    have hi := (List.getElem?_eq_some_iff.mp ex).1
    have e1 : (L.take (i + 1)).foldl (grd Fp) [] = grd Fp ((L.take i).foldl (grd Fp) []) t := by
      rw [List.take_add_one, ex, List.foldl_append]
      rfl
    rw [e1]
    have al : ∀ s ∈ (L.take i).foldl (grd Fp) [], s.length ≤ 100 := fun s hs => sl s (List.mem_of_mem_take ((mem _ _ s hs).resolve_left fun z => nomatch z))
    have az : ((L.take i).foldl (grd Fp) []).length ≤ 64 := by
      have := hgl (L.take i) []
      rw [List.length_take, List.length_nil] at this
      omega
    generalize (L.take i).foldl (grd Fp) [] = acc at al az ⊢
    refine ⟨_, rfl, ?_⟩
    have sE := sto_end U (T.lst (acc.map tS)) []
    simp_arith [List.length_map, small16 (show acc.length ≤ 200 by omega)]
    rw [lcC_each1 sE (r := fun s => T.bl (inA s t)) fun a ha => ⟨_, rfl, slots1 _ _, rfl, by simp_arith [h5 (al a ha) (U ++ [T.lst (acc.map tS)])]⟩]
    simp_arith [any_img (fun s => inA s t) acc]
    unfold grd
    cases hA : acc.any (fun s => inA s t) with
    | true =>
      simp_arith []
      exact goes_nx ⟨rfl, _, _, _, rfl⟩
    | false =>
      simp_arith [List.length_map, small16 rz]
      rw [lc_each1 (r := fun r => T.bl (r.any fun c => (worthS t c).isNone)) fun r hr => ⟨_, rfl, slots1 _ _, rfl, by simp_arith [h6 (rl r hr) (U ++ [T.lst (acc.map tS)])]⟩]
      have eF : (rowsF b f0 xs).any (fun r => r.any fun c => (worthS t c).isNone) = !Fp t := by
        rw [← hFr]
        unfold freeP
        rw [Bool.not_not]
      simp_arith [any_img (fun r : List Ch => r.any fun c => (worthS t c).isNone) (rowsF b f0 xs), eF]
      cases hT : Fp t with
      | true =>
        simp_arith [List.length_map, small16' (show acc.length ≤ 200 by omega)]
        exact goes_nx ⟨by rw [List.map_append]; rfl, _, _, _, rfl⟩
      | false =>
        simp_arith []
        exact goes_nx ⟨rfl, _, _, _, rfl⟩)
  subst e h7 h8
  rw [List.take_length]
  have st := sort_rows_ref (sto_end U (T.lst ((L.foldl (grd Fp) []).map tS)) []) hok
  simp_arith [st]
  exact ⟨_, rfl⟩
end SF
set_option Elab.async false
set_option linter.all false
set_option maxRecDepth 100000
namespace SF
open PySem PySem.Spec L2 TL
open PyProof.Rows hiding St
theorem hangs17_ok {b : Bk} (G : GC b) {xs : List Str} (X : GI b xs) {t : List Str} (ht : ∀ S, m_need_terminal [tS t] S = .ok (tS t) S) : Pu m_hangs_k17 [bT b, tS xs, tS t] (.lst (natsT (nums (hangP b t) (runQ b f0 xs)))) := by
  intro S
  have h1 := need_stream_ok G.w X
  have h2 := chains_shown_ok G X
  rw [rows_q, List.map_map] at h2
  have h3 : ∀ q : Str × (Str → Ch), Pu m_hangs_there [(rowT ∘ fun q : Str × (Str → Ch) => (shownS b q.1).map q.2) q, tS t] (.bl (hangP b t q)) := fun q => hangs_there_ok (r := (shownS b q.1).map q.2) (by rw [List.length_map]; exact (shown_sub G.w _).1)
  have ql := q_len (b := b) xs f0
  have xl := X.len
  unfold m_hangs_k17 b_hangs_k17
  generalize m_need_stream = g1 at h1 ⊢
  generalize m_need_terminal = g2 at ht ⊢
  generalize m_chains_shown = g3 at h2 ⊢
  generalize m_hangs_there = g4 at h3 ⊢
  generalize hF : (rowT ∘ fun q : Str × (Str → Ch) => (shownS b q.1).map q.2) = F at h2 h3
  generalize runQ b f0 xs = Q at h2 ql ⊢
  have hz : (numbT (Q.map F)).length ≤ sizeLine := small16 (by simp [numbT]; omega)
  simp_arith [h1 S, ht S, h2 S, hz]
  rw [lc_nums (P := hangP b t) (fun x y => rfl) fun i q hi => ?_]
  · simp_arith []
  · exact ⟨by simp_arith [h3 q S], fun _ => by simp_arith []⟩
theorem free_nums {b : Bk} {xs t : List Str} : freeP b xs t = true ↔ nums (hangP b t) (runQ b f0 xs) = [] := by
  unfold freeP
  rw [rows_q, List.any_map, Bool.not_eq_true', List.any_eq_false]
  constructor
  · intro h
    refine List.eq_nil_iff_forall_not_mem.mpr fun i hi => ?_
    obtain ⟨q, hq, hp⟩ := mem_nums.mp hi
    exact h q (List.mem_of_getElem? hq) hp
  · intro h q hq hp
    obtain ⟨i, hi⟩ := List.mem_iff_getElem?.mp hq
    have : i ∈ nums (hangP b t) (runQ b f0 xs) := mem_nums.mpr ⟨q, hi, hp⟩
    rw [h] at this
    cases this
theorem worth_more {s t : List Str} (h : inA s t = true) : ∀ {c : Ch}, (worthS t c).isNone = true → (worthS s c).isNone = true
  | [], _ => rfl
  | p :: c, hn => by
    rw [worth_cons] at hn ⊢
    by_cases hp : p.1 ∈ s
    · rw [if_pos (inA_iff.mp h _ hp)] at hn
      cases hn
    · rw [if_neg hp]
      by_cases hq : p.1 ∈ t
      · rw [if_pos hq] at hn
        cases hn
      · rw [if_neg hq] at hn
        exact worth_more h hn
theorem free_up {b : Bk} {xs s t : List Str} (h : inA s t = true) (f : freeP b xs s = true) : freeP b xs t = true := by
  unfold freeP at f ⊢
  rw [Bool.not_eq_true', List.any_eq_false] at f ⊢
  intro r hr z
  obtain ⟨c, hc, hn⟩ := List.any_eq_true.mp z
  exact f r hr (List.any_eq_true.mpr ⟨c, hc, worth_more h hn⟩)
theorem inA_refl (s : List Str) : inA s s = true := inA_iff.mpr fun _ h => h
/-- [kind for kind in s if kind not in t] -/
theorem less_eq {s t : List Str} : (s.filter fun k => !decide (k ∈ t)) = [] ↔ inA s t = true := by
  rw [List.filter_eq_nil_iff, inA_iff]
  simp
theorem eq_tS_nil {l : List Str} (h : ∀ x ∈ l, So x) (S : Sto) : TL.eqT S (.lst (l.map T.str)) (.lst []) = some (.bl (decide (l = []))) :=
  eq_pl (pl_mono (n := 1) (by decide) (pl_lst fun t ht => by obtain ⟨x, hx, rfl⟩ := List.mem_map.mp ht; exact h x hx)) (by decide) (by rw [decide_eq_true_eq]; simp) S
theorem ne_nats_nil (l : List Nat) (S : Sto) : TL.neT S (.lst (natsT l)) (.lst []) = some (.bl (!decide (l = []))) := ne_nats l [] S
theorem k3_so : ∀ x ∈ K3, So x := by decide +kernel
theorem sub_so {b : Bk} {s : List Str} (h : s.Sublist (kindsS b)) : ∀ x ∈ s, So x := fun x hx => k3_so x ((kindsS_sub b).subset (h.subset hx))
theorem is_freed_ok {b : Bk} (B : BL b) {xs : List Str} (X : GX b xs) {s : List Str} (hs : s.Sublist (kindsS b)) : Pu m__law_is_freed [bT b, tS xs, tS s, .lst ((kindsS b ++ ZZ).map T.str)] (.bl (freeP b xs s)) := by
  intro U
  have G := B.gc
  have hk3 := kinds3 b
  obtain ⟨S4, hset⟩ := sets_of (ks := kindsS b ++ ZZ) (by rw [List.length_append]; show _ + 1 ≤ 6; omega)
  have hh := fun t => hung_ok G X t
  have sl : s.length ≤ 3 := Nat.le_trans hs.length_le hk3
  have so := sub_so hs
  unfold m__law_is_freed b__law_is_freed
  generalize m__law_sets = f1 at hset ⊢
  generalize m__law_hung = f2 at hh ⊢
  generalize setsOf (kindsS b ++ ZZ) = ls at S4 hset ⊢
  simp_arith [hset U]
  generalize hF : forF _ _ _ _ _ = R2
  have fin := stop_at hF (fun i => ∀ t, ls[i]? = some t → inA s t = true → freeP b xs t = true) (fun i τ T1 => T1 = U ∧ ∃ x4 x5, τ = [some (bT b), some (tS xs), some (tS s), some (.lst ((kindsS b ++ ZZ).map T.str)), x4, x5]) (fun r T1 => r = .bl false ∧ T1 = U)
    ⟨rfl, none, none, rfl⟩ (by
    intro i t τ T1 ex hI
    obtain ⟨rfl, x4, x5, rfl⟩ := hI
    refine ⟨_, rfl, ?_⟩
    have e1 : ∀ τ, lcF (sName 5) (fTest (fBin ninT (fVar 5) (fVar 4))) (fVar 5) [5] τ (s.map T.str) T1 = .ok ((s.filter fun k => !decide (k ∈ t)).map T.str) T1 → True := fun _ _ => trivial
    have eqn : ∀ S, TL.eqT S (.lst ((s.filter fun k => !decide (k ∈ t)).map T.str)) (.lst []) = some (.bl (inA s t)) := fun S => by
      rw [eq_tS_nil (fun x hx => so x (List.mem_filter.mp hx).1)]
      congr 2
      rw [Bool.eq_iff_iff, decide_eq_true_eq]
      exact less_eq
    have nen : ∀ S, TL.neT S (.lst (natsT (nums (hangP b t) (runQ b f0 xs)))) (.lst []) = some (.bl (!freeP b xs t)) := fun S => by
      rw [ne_nats_nil]
      congr 3
      rw [Bool.eq_iff_iff, decide_eq_true_eq]
      exact free_nums.symm
    have nin : ∀ (k : Str) S, ninT S (.str k) (tS t) = some (.bl !decide (k ∈ t)) := fun k S => nin_of (in_tup k t S)
    by_cases hP : inA s t = true ∧ freeP b xs t = false
    · refine .inr ⟨fun z => ?_, .bl false, T1, ?_, rfl, rfl⟩
      · rw [z t ex hP.1] at hP
        cases hP.2
      · simp_arith [List.length_map, small16 (show s.length ≤ 200 by omega)]
        rw [lc_img (P := fun k => !decide (k ∈ t)) (r := fun k => T.str k) fun k hk => ⟨_, rfl, slots1 _ _, by simp_arith [nin], fun _ => by simp_arith []⟩]
        have h2 := hh t T1
        simp_arith [eqn, hP.1, h2, nen, hP.2]
    · refine .inl ⟨fun u hu hi => ?_, ?_⟩
      · rw [ex] at hu
        cases hu
        cases z : freeP b xs t with
        | true => rfl
        | false => exact absurd ⟨hi, z⟩ hP
      · simp_arith [List.length_map, small16 (show s.length ≤ 200 by omega)]
        rw [lc_img (P := fun k => !decide (k ∈ t)) (r := fun k => T.str k) fun k hk => ⟨_, rfl, slots1 _ _, by simp_arith [nin], fun _ => by simp_arith []⟩]
        have h2 := hh t T1
        cases hi : inA s t with
        | false =>
          simp_arith [eqn, hi]
          exact goes_nx ⟨rfl, _, _, rfl⟩
        | true =>
          cases z : freeP b xs t with
          | true =>
            simp_arith [eqn, hi, h2, nen, z]
            exact goes_nx ⟨rfl, _, _, rfl⟩
          | false => exact absurd ⟨hi, z⟩ hP)
  rcases fin with ⟨τ2, S2, rfl, ⟨rfl, x4, x5, rfl⟩, hall⟩ | ⟨i, r, S2, hi, hnp, rfl, rfl, rfl⟩
  · simp_arith []
    have hm : s ∈ ls := (S4.mem s).mpr (hs.trans (List.sublist_append_left _ _))
    obtain ⟨i, hi⟩ := List.mem_iff_getElem?.mp hm
    rw [hall i (List.getElem?_eq_some_iff.mp hi).1 s hi (inA_refl s)]
  · simp_arith []
    cases z : freeP b xs s with
    | false => rfl
    | true =>
      refine absurd (fun t ht hin => ?_) hnp
      exact free_up hin z
theorem nice_rows {ls : List (List Str)} (h1 : ∀ l ∈ ls, ∀ x ∈ l, Rp x) (h2 : ∀ l ∈ ls, l.length ≤ 6) (h3 : ls.length ≤ 64) : NiceT 2 (3 + 64 * ((3 + 6 * 102) + 2)) (.tup (ls.map tS)) :=
  NiceT.tup (fun t ht => by
    obtain ⟨l, hl, rfl⟩ := List.mem_map.mp ht
    obtain ⟨d, a, c, _⟩ := nice_strs (h1 l hl) (h2 l hl)
    exact ⟨d, a, c⟩) (by rw [List.length_map]; exact h3)
theorem greedy_mem {F : List Str → Bool} {ks : List Str} {L : List (List Str)} (G : GoodL ks L) {t : List Str} : t ∈ greedy F L → t ∈ L ∧ F t = true := fun h => by
  rw [greedy_eq G] at h
  obtain ⟨h1, h2⟩ := List.mem_filter.mp h
  exact ⟨h1, (least_iff.mp h2).1⟩
theorem ks_nd (b : Bk) : (kindsS b).Nodup := (show K3.Nodup by decide +kernel).sublist (kindsS_sub b)
theorem right17_ok {b : Bk} (B : BL b) {xs : List Str} (X : GX b xs) : Pu m__law_right_k17 [bT b, tS xs] (.bl true) := by
  intro U
  have G := B.gc
  have k3 := kinds3 b
  have hk := kinds_ok B
  obtain ⟨Ss, hset⟩ := sets_k b
  have hfd := fun {s : List Str} (hs : s.Sublist (kindsS b)) => is_freed_ok B X hs
  have hfr := freeing_ok G X.i
  have hT := fun {t : List Str} (h : t.Sublist (kindsS b)) => hangs17_ok G X.i (T6_sub (b := b) (h.trans (List.sublist_append_left _ _)))
  have gd := sets_good (ks_nd b) Ss
  have eL : freeL b xs = sortL (greedy (freeP b xs) (setsOf (kindsS b))) := by
    unfold freeL
    rw [kinds_BL B]
    exact (sortL_of (greedy_perm (ks_nd b) Ss _)).symm
  have memL : ∀ t ∈ freeL b xs, t.Sublist (kindsS b) ∧ freeP b xs t = true := fun t ht => by
    rw [eL] at ht
    obtain ⟨h1, h2⟩ := greedy_mem gd ((sortL_perm _).mem_iff.mp ht)
    exact ⟨(Ss.mem t).mp h1, h2⟩
  have lenL : (freeL b xs).length ≤ 64 := by
    unfold freeL
    rw [(sortL_perm _).length_eq]
    have h1 := grds_len (freeP b xs) (sgS (kindsG b)) []
    have h2 := len_sg (kindsG b)
    rw [kinds_BL B] at h1 h2
    have h3 : 2 ^ (kindsS b).length ≤ 2 ^ 3 := Nat.pow_le_pow_right (by decide) k3
    unfold greedy
    rw [kinds_BL B]
    simp only [List.length_nil] at h1
    omega
  have k3r : ∀ x ∈ K3, Rp x := fun x hx => rp_all x (by
    simp only [List.mem_append]
    exact .inl (.inl (.inl (.inr hx))))
  have nice : NiceT 2 (3 + 64 * ((3 + 6 * 102) + 2)) (.tup ((freeL b xs).map tS)) := nice_rows (fun l hl x hx => k3r x ((kindsS_sub b).subset ((memL l hl).1.subset hx))) (fun l hl => by have := (memL l hl).1.length_le; omega) lenL
  have hok : okRows (greedy (freeP b xs) (setsOf (kindsS b))) = true := by
    have h1 := greedy_ok (ks_nd b) (freeP b xs)
    have p := greedy_perm (ks_nd b) Ss (freeP b xs)
    unfold okRows at h1 ⊢
    rw [p.length_eq, p.all_eq]
    exact h1
  unfold m__law_right_k17
  refine gc_pure ?_ rfl
  have hgl := grds_len (freeP b xs)
  have acs : ∀ (L : List (List Str)), (∀ l ∈ L, l.Sublist (kindsS b)) → ∀ m ∈ L.foldl (grd (freeP b xs)) [], m.Sublist (kindsS b) := fun L hL => by
    have key : ∀ (L acc : List (List Str)), (∀ l ∈ L, l.Sublist (kindsS b)) → (∀ l ∈ acc, l.Sublist (kindsS b)) → ∀ m ∈ L.foldl (grd (freeP b xs)) acc, m.Sublist (kindsS b) := fun L => by
      induction L with
      | nil => exact fun acc _ h => h
      | cons t L ih =>
        intro acc h1 h2
        refine ih _ (fun l hl => h1 l (List.mem_cons_of_mem _ hl)) fun l hl => ?_
        unfold grd at hl
        split at hl
        · exact h2 l hl
        · split at hl
          · rcases List.mem_append.mp hl with z | z
            · exact h2 l z
            · rw [List.mem_singleton.mp z]
              exact h1 t List.mem_cons_self
          · exact h2 l hl
    exact key L [] hL fun l hl => nomatch hl
  have subL : ∀ l ∈ setsOf (kindsS b), l.Sublist (kindsS b) := fun l hl => (Ss.mem l).mp hl
  have sz8 := setsK_len b
  have hstr : ∀ t ∈ freeL b xs, nums (hangP b t) (runQ b f0 xs) = [] := fun t ht => free_nums.mp (memL t ht).2
  obtain ⟨str, r1, r2⟩ := nice.repr (by decide) (by decide) []
  have hr1 : ∀ S, reprT S [.tup ((freeL b xs).map tS)] = some (.str str) := fun S => r1
  have hr2 : ∀ S, TL.neT S (.str str) (.str str) = some (.bl false) := fun S => r2
  unfold greedy at eL hok
  unfold b__law_right_k17
  generalize m__law_kinds = f1 at hk ⊢
  generalize m__law_sets = f2 at hset ⊢
  generalize m__law_is_freed = f3 at hfd ⊢
  generalize m_freeing = f4 at hfr ⊢
  generalize m_hangs_k17 = f5 at hT ⊢
  have hkz : ((kindsS b).map T.str).length + [T.str "zz"].length ≤ sizeLine := small16 (by rw [List.length_map]; show _ + 1 ≤ 200; omega)
  have hks : ∀ S, addT S (.lst ((kindsS b).map T.str)) (.lst [.str "zz"]) = some (.lst ((kindsS b ++ ZZ).map T.str)) := fun S => by
    rw [add_lst hkz, List.map_append]
    rfl
  have hset2 := hset (U ++ [.lst []])
  generalize hL : setsOf (kindsS b) = L at *
  simp_arith [hk U, hset2]
  generalize hF : forF _ _ _ _ _ = R2
  obtain ⟨τ2, S3, e, h7, x2, x6, x7, x8, h8⟩ := for_at hF (fun i τ T1 => T1 = U ++ [.lst (((L.take i).foldl (grd (freeP b xs)) []).map tS)] ∧ ∃ x2 x6 x7 x8, τ = [some (bT b), some (tS xs), x2, none, some (.lst ((kindsS b).map T.str)), some (.ref U.length), x6, x7, x8])
    ⟨rfl, none, none, none, none, rfl⟩ (by
    intro i t τ T1 ex hI
    obtain ⟨rfl, x2, x6, x7, x8, rfl⟩ := hI
    have hi := (List.getElem?_eq_some_iff.mp ex).1
    have e1 : (L.take (i + 1)).foldl (grd (freeP b xs)) [] = grd (freeP b xs) ((L.take i).foldl (grd (freeP b xs)) []) t := by
      rw [List.take_add_one, ex, List.foldl_append]
      rfl
    rw [e1]
    have al := acs (L.take i) fun l hl => subL l (List.mem_of_mem_take hl)
    have az : ((L.take i).foldl (grd (freeP b xs)) []).length ≤ 64 := by
      have := hgl (L.take i) []
      rw [List.length_take, List.length_nil] at this
      omega
    have ht := subL t (List.mem_of_getElem? ex)
    generalize (L.take i).foldl (grd (freeP b xs)) [] = acc at al az ⊢
    refine ⟨_, rfl, ?_⟩
    have sE := sto_end U (T.lst (acc.map tS)) []
    have nin : ∀ (k : Str) S, ninT S (.str k) (tS t) = some (.bl !decide (k ∈ t)) := fun k S => nin_of (in_tup k t S)
    simp_arith [List.length_map, small16 (show acc.length ≤ 200 by omega)]
    rw [lcC_img (P := fun s => inA s t) (r := fun s => tS s) sE fun s hs => ⟨_, rfl, slots1 _ _, by
      have sl : s.length ≤ 3 := Nat.le_trans (al s hs).length_le k3
      have eqn : ∀ S, TL.eqT S (.lst ((s.filter fun k => !decide (k ∈ t)).map T.str)) (.lst []) = some (.bl (inA s t)) := fun S => by
        rw [eq_tS_nil (fun x hx => sub_so (al s hs) x (List.mem_filter.mp hx).1)]
        congr 2
        rw [Bool.eq_iff_iff, decide_eq_true_eq]
        exact less_eq
      simp_arith [List.length_map, small16 (show s.length ≤ 200 by omega)]
      rw [lc_img (P := fun k => !decide (k ∈ t)) (r := fun k => T.str k) fun k hk => ⟨_, rfl, slots1 _ _, by simp_arith [nin], fun _ => by simp_arith []⟩]
      simp_arith [eqn], fun _ => by simp_arith []⟩]
    have eqA : ∀ S, TL.eqT S (.lst ((acc.filter fun s => inA s t).map tS)) (.lst []) = some (.bl (!acc.any fun s => inA s t)) := fun S => by
      refine eq_pl (pl_mono (n := 2) (by decide) (pl_lst fun u hu => ?_)) (by decide) ?_ S
      · obtain ⟨s, hs, rfl⟩ := List.mem_map.mp hu
        exact pl_tS (sub_so (al s (List.mem_filter.mp hs).1))
      · rw [Bool.not_eq_true', List.any_eq_false, T.lst.injEq, List.map_eq_nil_iff, List.filter_eq_nil_iff]
    unfold grd
    cases hA : acc.any (fun s => inA s t) with
    | true =>
      simp_arith [eqA, hA]
      exact goes_nx ⟨rfl, _, _, _, _, rfl⟩
    | false =>
      have h3 := hfd ht (U ++ [T.lst (acc.map tS)])
      cases hz : freeP b xs t with
      | true =>
        rw [hz] at h3
        simp_arith [eqA, hA, small16 (show 1 ≤ 200 by omega), hks, h3, List.length_map, small16' (show acc.length ≤ 200 by omega)]
        exact goes_nx ⟨by rw [List.map_append]; rfl, _, _, _, _, rfl⟩
      | false =>
        rw [hz] at h3
        simp_arith [eqA, hA, small16 (show 1 ≤ 200 by omega), hks, h3]
        exact goes_nx ⟨rfl, _, _, _, _, rfl⟩)
  subst e h7 h8
  rw [List.take_length]
  have st := sort_rows_ref (sto_end U (T.lst ((L.foldl (grd (freeP b xs)) []).map tS)) []) hok
  rw [← eL] at st
  generalize hV : U ++ [T.lst ((L.foldl (grd (freeP b xs)) []).map tS)] = V at st ⊢
  simp_arith [hfr V, hr1, st, hr2, List.length_map, small16 (show (freeL b xs).length ≤ 200 by omega)]
  rw [lc_img (P := fun _ => false) (r := fun s => tS s) fun s hs => ⟨_, rfl, slots1 _ _, by
    have h5 := hT (memL s hs).1 V
    rw [hstr s hs] at h5
    have n0 : ∀ S, TL.neT S (.lst []) (.lst []) = some (.bl false) := fun S => by kernel_rfl
    simp_arith [h5, n0], fun z => nomatch z⟩]
  have e0 : ∀ S, TL.eqT S (.lst []) (.lst []) = some (.bl true) := fun S => by kernel_rfl
  simp_arith [List.filter_eq_nil_iff.mpr (fun (s : List Str) (_ : s ∈ freeL b xs) => Bool.false_ne_true), e0]
  exact ⟨_, by rw [← hV]⟩
end SF
set_option Elab.async false
set_option linter.all false
set_option maxRecDepth 100000
namespace SF
open PySem PySem.Spec L2 TL
open PyProof.Rows hiding St
/-! ### chains of streams -/
structure CN (c : Ch) : Prop where
  gh : GH c
  nm : ∀ p ∈ c, Nm p.1 ∧ Nm p.2
theorem adds_new : ∀ {xs m : List Str}, xs.Nodup → (∀ x ∈ xs, x ∉ m) → (xs.foldl addS m).length = m.length + xs.length
  | [], _, _, _ => rfl
  | x :: xs, m, h, g => by
    obtain ⟨h1, h2⟩ := List.nodup_cons.mp h
    rw [List.foldl_cons]
    have e : addS m x = x :: m := by
      unfold addS
      rw [if_neg (g x List.mem_cons_self)]
    rw [e, adds_new h2 (fun y hy z => by
      rcases List.mem_cons.mp z with z | z
      · exact h1 (z ▸ hy)
      · exact g y (List.mem_cons_of_mem _ hy) z), List.length_cons, List.length_cons]
    omega
theorem is_chain_ok {c : Ch} (C : CN c) : Pu m_is_chain [chT c] (.bl true) := by
  intro S
  have hz := C.gh.len
  have hp := fun {p : Str × Str} (h : p ∈ c) => is_name_pair_ok (C.nm p h).1 (C.nm p h).2
  unfold m_is_chain b_is_chain chT
  generalize m_is_name_pair = f1 at hp ⊢
  have it : ∀ S, isiT S [.tup (c.map pT), .val (.ty "tuple")] = some (.bl true) := fun S => isi_tup _ S
  have lt : ∀ S, lenT S [.tup (c.map pT)] = some (.int c.length) := fun S => by rw [len_tup, List.length_map]
  have g12 : ∀ S, gtT S (.int (c.length : Nat)) (.int 12) = some (.bl false) := fun S => by
    rw [TL.gt_int, decide_eq_false (by omega)]
  have z1 : c.length + 1 < scanBound := Nat.lt_of_le_of_lt (show _ ≤ 17 by omega) (by decide)
  have eq6 : ∀ S, TL.eqT S (.int (((c.map (·.1)).foldl addS []).length : Nat)) (.int (c.length : Nat)) = some (.bl true) := fun S => by
    rw [TL.eq_int, adds_new (m := []) C.gh.nd (fun _ _ z => by cases z), List.length_map, List.length_nil, Nat.zero_add, decide_eq_true rfl]
  simp_arith [it, lt, g12, List.length_map, small16 (show c.length ≤ 200 by omega)]
  rw [lc_each1 (r := fun p => T.bl true) fun p hp' => ⟨_, rfl, slots1 _ _, rfl, by simp_arith [hp hp' S]⟩]
  have al : ∀ S, allT S [.lst (c.map fun _ => T.bl true)] = some (.bl true) := fun S => by
    rw [all_img (fun _ => true) c]
    simp
  simp_arith [al, fLenX, fSt, List.length_map, z1]
  rw [st_img (r := fun p : Str × Str => p.1) fun p hp' => ⟨_, rfl, slots1 _ _, rfl, by simp_arith [pT]⟩]
  simp_arith [lt, eq6]
theorem need_chain_ok {c : Ch} (C : CN c) : Pu m_need_chain [chT c] (chT c) := by
  intro S
  have h := is_chain_ok C
  unfold m_need_chain b_need_chain
  generalize m_is_chain = f1 at h ⊢
  simp_arith [h S]
theorem same_ok {c d : Ch} (C : CN c) (D : CN d) : Pu m_same [chT c, chT d] (.bl (decide (formS c = formS d))) := by
  intro S
  have h1 := need_chain_ok C
  have h2 := need_chain_ok D
  have h3 := one_form_ok C.gh D.gh
  unfold m_same b_same
  generalize m_need_chain = f1 at h1 h2 ⊢
  generalize m_have_one_form = f2 at h3 ⊢
  simp_arith [h1 S, h2 S, h3 S]
theorem BL.cn {b : Bk} (B : BL b) (ys : List Str) (a : Str) : CN (chainF b f0 ys a) :=
  ⟨B.gc.gh ys a, fun p hp => chain_vals (P := fun p => Nm p.1 ∧ Nm p.2) (fun c hc p hp => ⟨nm_all _ (List.mem_append_right _ (B.cl c hc).k), nm_all _ (List.mem_append_left _ (List.mem_append_right _ ((B.cl c hc).gv p hp)))⟩) (fun _ p h => by cases h) a p hp⟩
theorem is_number_ok {p n : Nat} (h : p < n) : Pu m_is_number [.int p, .int n] (.bl true) := by
  intro S
  unfold m_is_number b_is_number
  have i1 : ∀ S, isiT S [.int (p : Nat), .val (.ty "bool")] = some (.bl false) := fun S => by kernel_rfl
  have i2 : ∀ S, isiT S [.int (p : Nat), .val (.ty "int")] = some (.bl true) := fun S => by kernel_rfl
  have l0 : ∀ S, leT S (.int 0) (.int (p : Nat)) = some (.bl true) := fun S => by
    show some (T.bl (decide ((0 : Int) ≤ p))) = _
    rw [decide_eq_true (by omega)]
  have l1 : ∀ S, ltT S (.int (p : Nat)) (.int (n : Nat)) = some (.bl true) := fun S => by
    show some (T.bl (decide ((p : Int) < n))) = _
    rw [decide_eq_true (by omega)]
  simp_arith [i1, i2, l0, l1]
theorem chains_behind_ok {b : Bk} (G : GC b) {xs : List Str} (hf : ∀ x ∈ xs, (∃ c ∈ b.cs, c.w = x ∧ findC b.cs x = some c ∧ Sg x false) ∨ (Si x ∧ findC b.cs x = none)) : Pu m_chains_behind [bT b, tS xs] (chD b (chainF b f0 xs)) := by
  intro U
  have W := G.w
  have hcb := codes_by_word_ok W
  have hnc := no_chains_ok W
  have hpc := fun {c : Code} (hc : c ∈ b.cs) {xs : List Str} {S : Sto} {n : Nat} (h : S[n]? = some (chD b (chainF b f0 xs))) => pass_at G hc h
  have hsg : ∀ x k, Sg x k → ∀ S, m_is_sign [.str x] S = .ok (.bl k) S := fun x k h S => h S
  suffices H : body ["book", "items", "codes", "chains", "item"] 2 b_chains_behind [bT b, tS xs] U = .ok (.ref U.length) (U ++ [chD b (chainF b f0 xs)]) by
    unfold m_chains_behind
    exact gc_dref H (Nat.le_refl _) (sto_end U _ []) (nrs_map fun a _ => nr_chT _)
  unfold b_chains_behind
  generalize m_codes_by_word = f1 at hcb ⊢
  generalize m_no_chains = f2 at hnc ⊢
  generalize m_pass_code = f3 at hpc ⊢
  generalize m_is_sign = f4 at hsg ⊢
  simp_arith [hcb U, hnc U]
  generalize hF : forF _ _ _ _ _ = R
  obtain ⟨τ2, S2, e, h3, x6, h4⟩ := for_at hF (fun i τ T1 => T1 = U ++ [chD b (chainF b f0 (xs.take i))] ∧
      ∃ x6, τ = [some (bT b), some (tS xs), some (.dct (b.cs.map fun c => Sum.inr c.w) (b.cs.map cT)), some (.ref U.length), x6])
    ⟨rfl, none, rfl⟩ (by
    intro i x τ T1 ex hI
    obtain ⟨rfl, x6, rfl⟩ := hI
    have hxm : x ∈ xs := List.mem_of_getElem? ex
    have htk := take_chain (b := b) f0 ex
    refine ⟨_, rfl, ?_⟩
    rcases hf x hxm with ⟨c, hc, e, hfc, hs⟩ | ⟨hs, hfc⟩
    · rw [hfc] at htk
      simp only at htk
      have hix : ∀ S, ixT S (.dct (b.cs.map fun c => Sum.inr c.w) (b.cs.map cT)) (.str x) = some (cT c) := fun S => by
        rw [ix_codes cT, hfc]
        rfl
      have hp := hpc hc (xs := xs.take i) (S := U ++ [chD b (chainF b f0 (xs.take i))]) (n := U.length) (sto_end U _ _)
      rw [sto_set] at hp
      simp_arith [hsg x false hs, hix, hp]
      exact goes_nx ⟨by rw [htk], _, rfl⟩
    · rw [hfc] at htk
      simp only at htk
      simp_arith [hsg x true hs.sg]
      exact goes_nx ⟨by rw [htk], _, rfl⟩)
  subst e h3 h4
  rw [List.take_length]
  simp_arith []
theorem ix_chp {b : Bk} {f : Str → Ch} {a : Str} (m : a ∈ b.asp) (S : Sto) : ixT S (chD b f) (.str a) = some (chT (f a)) := by
  have h := ix_ch (b := b) (f := f) (S := [chD b f]) (n := 0) rfl m
  exact h
theorem chain_at_ok {b : Bk} (G : GC b) {xs : List Str} (I : GI b xs) {p : Nat} (hp : p ≤ xs.length) {a : Str} (ha : a ∈ b.asp) : Pu m_chain_at [bT b, tS xs, .int p, .str a] (chT (chainF b f0 (xs.take p) a)) := by
  intro U
  have W := G.w
  have h1 := need_stream_ok W I
  have h2 := is_number_ok (p := p) (n := xs.length + 1) (by omega)
  have h3 := chains_behind_ok G (xs := xs.take p) fun x hx => I.find W (List.mem_of_mem_take hx)
  unfold m_chain_at b_chain_at
  generalize m_need_stream = g1 at h1 ⊢
  generalize m_is_number = g2 at h2 ⊢
  generalize m_chains_behind = g3 at h3 ⊢
  have i0 : ∀ S, ixT S (bT b) (.int 0) = some (tS b.asp) := fun S => rfl
  have ist : ∀ S, isiT S [.str a, .val (.ty "str")] = some (.bl true) := fun S => isi_str a S
  have na : ∀ S, ninT S (.str a) (tS b.asp) = some (.bl false) := fun S => by
    rw [nin_of (in_tup a b.asp S), decide_eq_true ha]
    rfl
  have sl : ∀ S, slT S (tS xs) none (some (p : Int)) = some (tS (xs.take p)) := fun S => slice_to xs p S
  have h2' : ∀ S, g2 [.int p, .int ((xs.length : Int) + 1)] S = .ok (.bl true) S := fun S => by
    have := h2 S
    simpa using this
  have ad : ∀ S, addT S (.int (xs.length : Int)) (.int 1) = some (.int ((xs.length : Int) + 1)) := fun S => rfl
  simp_arith [h1 U, List.length_map, ad, h2' U, ist, i0, na, sl, h3 U, ix_chp ha]
end SF
set_option Elab.async false
set_option linter.all false
set_option maxRecDepth 100000
namespace SF
open PySem PySem.Spec L2 TL
open PyProof.Rows hiding St
/-! ### a near stream -/
abbrev wsB (b : Bk) : List Str := b.cs.map (·.w)
theorem sign_app (b : Bk) (xs ys : List Str) : signS b (xs ++ ys) = signS b xs ++ signS b ys := List.filter_append ..
theorem sign_word {b : Bk} {w : Str} (h : w ∈ wsB b) : signS b [w] = [] := by
  unfold signS
  rw [List.filter_cons_of_neg (by
    rw [word_iff] at h
    cases e : findC b.cs w with
    | none => rw [e] at h; cases h
    | some c => simp), List.filter_nil]
theorem sign_ins {b : Bk} {w : Str} (h : w ∈ wsB b) (xs : List Str) (i : Nat) : signS b (xs.take i ++ [w] ++ xs.drop i) = signS b xs := by
  rw [sign_app, sign_app, sign_word h, List.append_nil, ← sign_app, List.take_append_drop]
theorem sign_at {b : Bk} {xs : List Str} {i : Nat} {x : Str} (h : xs[i]? = some x) (hx : x ∈ wsB b) : signS b xs = signS b (xs.take i ++ xs.drop (i + 1)) := by
  have e := split_at h
  have : signS b xs = signS b (xs.take i ++ ([x] ++ xs.drop (i + 1))) := congrArg (signS b) e
  rw [this, sign_app, sign_app, sign_word hx, List.nil_append, ← sign_app]
theorem sign_erase {b : Bk} {xs : List Str} {i : Nat} {x : Str} (h : xs[i]? = some x) (hx : x ∈ wsB b) : signS b (xs.eraseIdx i) = signS b xs := by
  rw [sign_at h hx, List.eraseIdx_eq_take_drop_succ]
theorem sign_set {b : Bk} {xs : List Str} {i : Nat} {x w : Str} (h : xs[i]? = some x) (hx : x ∈ wsB b) (hw : w ∈ wsB b) : signS b (xs.set i w) = signS b xs := by
  have hi := (List.getElem?_eq_some_iff.mp h).1
  have h2 : (xs.set i w)[i]? = some w := by rw [List.getElem?_set_self hi]
  rw [sign_at h hx, sign_at h2 hw, List.take_set_of_le (Nat.le_refl _), List.drop_set_of_lt (Nat.lt_succ_self _)]
structure NearR (b : Bk) (xs ys : List Str) : Prop where
  sg : signS b ys = signS b xs
  it : ∀ y ∈ ys, y ∈ xs ∨ y ∈ wsB b
  len : ys.length ≤ xs.length + 1
theorem NearR.xl {b : Bk} {xs ys : List Str} (N : NearR b xs ys) (X : XL b xs) (h : xs.length ≤ 150) : XL b ys :=
  ⟨by have := N.len; omega, fun y hy => (N.it y hy).elim (X.it y) .inl⟩
theorem near_ins {b : Bk} {w : Str} (h : w ∈ wsB b) (xs : List Str) (i : Nat) : NearR b xs (xs.take i ++ [w] ++ xs.drop i) := by
  refine ⟨sign_ins h xs i, fun y hy => ?_, ?_⟩
  · rcases List.mem_append.mp hy with z | z
    · rcases List.mem_append.mp z with z | z
      · exact .inl (List.mem_of_mem_take z)
      · exact .inr (by rw [List.mem_singleton.mp z]; exact h)
    · exact .inl (List.mem_of_mem_drop z)
  · simp
    omega
theorem near_erase {b : Bk} {xs : List Str} {i : Nat} {x : Str} (h : xs[i]? = some x) (hx : x ∈ wsB b) : NearR b xs (xs.eraseIdx i) :=
  ⟨sign_erase h hx, fun y hy => .inl (List.mem_of_mem_eraseIdx hy), Nat.le_trans (List.length_eraseIdx_le _ _) (Nat.le_succ _)⟩
theorem near_set {b : Bk} {xs : List Str} {i : Nat} {x w : Str} (h : xs[i]? = some x) (hx : x ∈ wsB b) (hw : w ∈ wsB b) : NearR b xs (xs.set i w) :=
  ⟨sign_set h hx hw, fun y hy => by
    rcases List.mem_or_eq_of_mem_set hy with z | z
    · exact .inl z
    · exact .inr (by rw [z]; exact hw), by rw [List.length_set]; exact Nat.le_succ _⟩
theorem near_move {b : Bk} {xs : List Str} {i : Nat} {x : Str} (h : xs[i]? = some x) (hx : x ∈ wsB b) (j : Nat) : NearR b xs ((xs.eraseIdx i).take j ++ [x] ++ (xs.eraseIdx i).drop j) := by
  have hi := (List.getElem?_eq_some_iff.mp h).1
  have n1 := near_ins hx (xs.eraseIdx i) j
  have n2 := near_erase h hx
  refine ⟨n1.sg.trans n2.sg, fun y hy => (n1.it y hy).elim (n2.it y) .inr, ?_⟩
  have := n1.len
  rw [List.length_eraseIdx_of_lt hi] at this
  omega
theorem near_swap {b : Bk} {xs : List Str} {i j : Nat} {x y : Str} (hi : xs[i]? = some x) (hj : xs[j]? = some y) (hx : x ∈ wsB b) (hy : y ∈ wsB b) : NearR b xs ((xs.set i y).set j x) := by
  have n1 := near_set hi hx hy
  have hj2 : ∃ z, (xs.set i y)[j]? = some z ∧ z ∈ wsB b := by
    by_cases e : i = j
    · subst e
      exact ⟨y, List.getElem?_set_self (List.getElem?_eq_some_iff.mp hi).1, hy⟩
    · exact ⟨y, by rw [List.getElem?_set_ne e]; exact hj, hy⟩
  obtain ⟨z, hz, hzw⟩ := hj2
  have n2 := near_set hz hzw hx
  exact ⟨n2.sg.trans n1.sg, fun u hu => (n2.it u hu).elim (n1.it u) .inr, by rw [List.length_set, List.length_set]; exact Nat.le_succ _⟩
theorem ins_at {xs : List T} {i : Nat} (hi : i ≤ 1000) (hl : xs.length ≤ 200) (y : T) (S : Sto) : opIns S xs [.int (i : Nat), y] = some (.non, xs.take i ++ [y] ++ xs.drop i) := by
  have c : (decide ((0 : Int) ≤ (i : Nat)) && (decide ((i : Int) < 2 ^ 62) && decide (xs.length < sizeLine))) = true := by
    rw [decide_eq_true (show (0 : Int) ≤ (i : Nat) by omega), decide_eq_true (show (i : Int) < 2 ^ 62 by omega), decide_eq_true (small16' hl)]
    rfl
  unfold opIns
  simp only [c, if_true, Int.toNat_natCast]
theorem pop_at {xs : List T} {i : Nat} {x : T} (h : xs[i]? = some x) (S : Sto) (hl : xs.length ≤ 200) : opPop S xs [.int (i : Nat)] = some (x, xs.eraseIdx i) := by
  have hi := (List.getElem?_eq_some_iff.mp h).1
  have e : seqIndex? (i : Int) xs.length = some i := by
    unfold seqIndex?
    rw [if_neg (show ¬ (i : Int) < 0 by omega)]
    simp only [Int.toNat_natCast]
    rw [if_pos (by simp; omega)]
  have c : (decide (-(2 ^ 62) ≤ (i : Int)) && decide ((i : Int) < 2 ^ 62)) = true := by
    rw [decide_eq_true (show -(2 ^ 62) ≤ (i : Int) by omega), decide_eq_true (show (i : Int) < 2 ^ 62 by omega)]
    rfl
  unfold opPop
  simp only [c, if_true, e, Option.bind_some, h, Option.map_some]
theorem set_lS2 (ls cs : List Int) (a : Nat) (R J : Sto) {ts : List T} {i : Nat} (hi : i < ts.length) (v : T) : setT (S2 ls cs a (R ++ .lst ts :: J)) (.ref (R.length + 2)) (.int (i : Nat)) v = some (S2 ls cs a (R ++ .lst (ts.set i v) :: J)) := by
  have e1 : (S2 ls cs a (R ++ .lst ts :: J))[R.length + 2]? = some (T.lst ts) := by
    show (R ++ T.lst ts :: J)[R.length]? = _
    exact sto_end R _ J
  have e2 : ixN ts.length (i : Nat) = some i := by
    unfold ixN
    simp [hi]
  unfold setT
  simp only [e1, e2, Option.map_some, set_S2]
theorem ix_lS2 (ls cs : List Int) (a : Nat) (R J : Sto) {ts : List T} {i : Nat} {t : T} (h : ts[i]? = some t) : ixT (S2 ls cs a (R ++ .lst ts :: J)) (.ref (R.length + 2)) (.int (i : Nat)) = some t := by
  have e1 : (S2 ls cs a (R ++ .lst ts :: J))[R.length + 2]? = some (T.lst ts) := by
    show (R ++ T.lst ts :: J)[R.length]? = _
    exact sto_end R _ J
  have hi := List.getElem?_eq_some_iff.mp h
  have d : dctT (S2 ls cs a (R ++ .lst ts :: J)) (.ref (R.length + 2)) = none := by
    unfold dctT
    simp only [e1]
  have q : seqL (S2 ls cs a (R ++ .lst ts :: J)) (.ref (R.length + 2)) = some ts := by
    unfold seqL
    simp only [e1]
  unfold ixT
  rw [d]
  simp only [q, Option.bind_some]
  have := ix_lst hi.1 []
  rw [hi.2] at this
  exact this
end SF
set_option Elab.async false
set_option linter.all false
set_option maxRecDepth 100000
namespace SF
open PySem PySem.Spec L2 TL
open PyProof.Rows hiding St
theorem at_S2 (ls cs : List Int) (a : Nat) (R J : Sto) (c : T) : (S2 ls cs a (R ++ c :: J))[R.length + 2]? = some c := by
  show (R ++ c :: J)[R.length]? = _
  exact sto_end R _ J
theorem lstC_S2 (ls cs : List Int) (a : Nat) (R J : Sto) (ts : List T) : lstC (S2 ls cs a (R ++ .lst ts :: J)) (.ref (R.length + 2)) = some (R.length + 2, ts) := lstC_ref (at_S2 ls cs a R J _)
theorem len_S2 (ls cs : List Int) (a : Nat) (R J : Sto) (ts : List T) : lenT (S2 ls cs a (R ++ .lst ts :: J)) [.ref (R.length + 2)] = some (.int ts.length) := len_ref (at_S2 ls cs a R J _)
theorem ix_nats {l : List Nat} {r : Nat} (h : r < l.length) (S : Sto) : ixT S (.lst (natsT l)) (.int (r : Nat)) = some (.int (l[r] : Nat)) := by
  rw [ix_lst (by rw [List.length_map]; exact h), List.getElem_map]
theorem sub_int (i j : Int) (S : Sto) : subT S (.int i) (.int j) = some (.int (i - j)) := rfl
theorem max_int (i j : Int) (S : Sto) : maxT S [.int i, .int j] = some (.int (if j > i then j else i)) := rfl
theorem near_dr {cs : List Int} (hc : cs ≠ []) {b : Bk} (B : BL b) {xs : List Str} (X : XL b xs) (hxs : xs.length ≤ 150) : Dr cs 10 (fun t => ∃ ys, XL b ys ∧ NearR b xs ys ∧ t = tS ys) (m__law_near [.ref 1, bT b, tS xs]) := by
  unfold m__law_near
  refine db_gc (fun R ls a hl ha => ?_) fun t ht => by obtain ⟨xs, _, _, rfl⟩ := ht; exact nr_tS xs
  have n8 := B.n8
  have n0 : 0 < b.cs.length := List.length_pos_iff.mpr B.n0
  have i2 : ∀ S, ixT S (bT b) (.int 2) = some (.tup (b.cs.map cT)) := fun S => rfl
  have dr := fun (R : Sto) {m : Int} (hm : 0 < m ∧ m < 1073741824) => draw_dq (R := R) hc hm
  suffices h : ∃ ys ls' a' J, body _ _ b__law_near [.ref 1, bT b, tS xs] (S2 ls cs a R) = .ok (tS ys) (S2 ls' cs a' (R ++ J)) ∧ NearR b xs ys ∧ ls'.length = cs.length ∧ a' ≤ a + 10 by
    obtain ⟨ys, ls', a', J, h1, h2, h3, h4⟩ := h
    exact ⟨_, ls', a', J, h1, ⟨ys, h2.xl X hxs, h2, rfl⟩, h3, h4⟩
  have insA : ∀ {xs : List T} {i : Nat} (_ : i ≤ 1000) (_ : xs.length ≤ 200) (y : T) (S : Sto), opIns S xs [.int (i : Nat), y] = some (.non, xs.take i ++ [y] ++ xs.drop i) := fun {xs i} h1 h2 y S => ins_at h1 h2 y S
  have popA : ∀ {xs : List T} {i : Nat} {x : T} (_ : xs[i]? = some x) (S : Sto) (_ : xs.length ≤ 200), opPop S xs [.int (i : Nat)] = some (x, xs.eraseIdx i) := fun {xs i x} h S hl => pop_at h S hl
  unfold b__law_near
  generalize m__law_draw = f1 at dr ⊢
  generalize opIns = oI at insA ⊢
  generalize opPop = oP at popA ⊢
  have lsT : ∀ S, listT S [tS xs] = some (.lst (xs.map T.str)) := fun S => list_tup _ S
  simp_arith [i2, List.length_map, small16 (show b.cs.length ≤ 200 by omega), lsT]
  rw [lc_each1 (r := fun c : Code => T.str c.w) fun c hcc => ⟨_, rfl, slots1 _ _, rfl, by simp_arith [cT]⟩]
  have ew : (b.cs.map fun c => T.str c.w) = (wsB b).map T.str := by rw [List.map_map]; rfl
  have hz : (numbT (xs.map T.str)).length ≤ sizeLine := small16 (by simp [numbT]; omega)
  simp_arith [ew, lsT, S2_app, S2_len, small16 (show 2 ≤ 200 by omega), lstC_S2, hz]
  rw [numb_zip, lcC_img (P := fun p : Str × Nat => decide (p.1 ∈ wsB b)) (r := fun p => T.int (p.2 : Nat)) (at_S2 _ _ _ _ _ _) fun p hp => ⟨_, rfl, rfl, by simp_arith [], fun _ => by simp_arith []⟩]
  have eN : ((xs.zipIdx.filter fun p => decide (p.1 ∈ wsB b)).map fun p => T.int (p.2 : Nat)) = natsT (nums (fun x => decide (x ∈ wsB b)) xs) := by
    unfold nums natsT
    rw [List.map_map]
    rfl
  have hN : ∀ i ∈ nums (fun x => decide (x ∈ wsB b)) xs, ∃ x, xs[i]? = some x ∧ x ∈ wsB b := fun i hi => by
    obtain ⟨x, hx, hp⟩ := mem_nums.mp hi
    exact ⟨x, hx, of_decide_eq_true hp⟩
  have lN : (nums (fun x => decide (x ∈ wsB b)) xs).length ≤ 200 := Nat.le_trans (nums_len _ _) (by omega)
  simp_arith [eN, len_S2, List.length_map, add_int]
  generalize nums (fun x => decide (x ∈ wsB b)) xs = N at hN lN ⊢
  obtain ⟨_, ls1, a1, d1, ⟨r1, rfl, hr1⟩, l1, b1⟩ := dr (R ++ [.lst (xs.map T.str)]) (m := (xs.length : Int) + 1) (by omega) ls a hl (by omega)
  obtain ⟨_, ls2, a2, d2, ⟨r2, rfl, hr2⟩, l2, b2⟩ := dr (R ++ [.lst (xs.map T.str)]) (m := 5) (by decide) ls1 a1 l1 (by omega)
  have d1 : f1 [.ref 1, .int ((xs.length : Int) + 1)] (S2 ls cs a (R ++ [.lst (xs.map T.str)])) = .ok (.int r1) (S2 ls1 cs a1 (R ++ [.lst (xs.map T.str)])) := d1
  simp_arith [d1, d2, eq_nats_nil]
  have wl : ∀ S, lenT S [.lst ((wsB b).map T.str)] = some (.int b.cs.length) := fun S => by rw [len_lst, List.length_map, List.length_map]
  have xl200 : (xs.map T.str).length ≤ 200 := by rw [List.length_map]; omega
  -- a word anywhere
  have word : ∀ (J : Sto) (ls : List Int) (a : Nat), ls.length = cs.length → a + 1 ≤ 2 ^ 60 → ∃ w ls' a', w ∈ wsB b ∧ (∃ r : Nat, f1 [.ref 1, .int (b.cs.length : Nat)] (S2 ls cs a J) = .ok (.int r) (S2 ls' cs a' J) ∧ ∀ S, ixT S (.lst ((wsB b).map T.str)) (.int r) = some (.str w)) ∧ ls'.length = cs.length ∧ a' ≤ a + 1 := fun J ls a hl ha => by
    obtain ⟨_, ls3, a3, d3, ⟨r3, rfl, hr3⟩, l3, b3⟩ := dr J (m := (b.cs.length : Int)) (by omega) ls a hl ha
    obtain ⟨w, hw, ex⟩ := pick (wsB b) (r := r3) (by rw [List.length_map]; omega)
    exact ⟨w, ls3, a3, hw, ⟨r3, d3, ex⟩, l3, b3⟩
  have insert : (N = [] ∨ r2 = 0) → ∃ w ls' a', w ∈ wsB b ∧ (∃ r : Nat, f1 [.ref 1, .int (b.cs.length : Nat)] (S2 ls2 cs a2 (R ++ [.lst (xs.map T.str)])) = .ok (.int r) (S2 ls' cs a' (R ++ [.lst (xs.map T.str)])) ∧ ∀ S, ixT S (.lst ((wsB b).map T.str)) (.int r) = some (.str w)) ∧ ls'.length = cs.length ∧ a' ≤ a2 + 1 := fun _ => word _ ls2 a2 l2 (by omega)
  have e1 : ∀ w : Str, (xs.map T.str).take r1 ++ [T.str w] ++ (xs.map T.str).drop r1 = (xs.take r1 ++ [w] ++ xs.drop r1).map T.str := fun w => by simp
  by_cases hn : N = []
  · obtain ⟨w, ls3, a3, hw, ⟨r3, d3, ex⟩, l3, b3⟩ := insert (.inl hn)
    have io := insA (i := r1) (by omega) xl200 (.str w)
    rw [e1] at io
    simp_arith [fCM, lstD_some, cmEnd_some, refD_ref, hn, wl, lst_S2, d3, ex, io, set_S2, tup_S2]
    exact ⟨_, ls3, a3, _, rfl, near_ins hw xs r1, l3, by omega⟩
  · by_cases h0 : r2 = 0
    · obtain ⟨w, ls3, a3, hw, ⟨r3, d3, ex⟩, l3, b3⟩ := insert (.inr h0)
      have io := insA (i := r1) (by omega) xl200 (.str w)
      rw [e1] at io
      subst h0
      simp_arith [fCM, lstD_some, cmEnd_some, refD_ref, hn, wl, lst_S2, d3, ex, io, set_S2, tup_S2, Int.natCast_zero]
      exact ⟨_, ls3, a3, _, rfl, near_ins hw xs r1, l3, by omega⟩
    · have hp : 0 < N.length := List.length_pos_iff.mpr hn
      have h0' : ¬ ((r2 : Int) = 0) := by omega
      obtain ⟨_, ls3, a3, d3, ⟨r3, rfl, hr3⟩, l3, b3⟩ := dr (R ++ [.lst (xs.map T.str)]) (m := (N.length : Int)) (by omega) ls2 a2 l2 (by omega)
      have h3 : r3 < N.length := by omega
      obtain ⟨x, hx, hxw⟩ := hN N[r3] (List.getElem_mem h3)
      have hi := (List.getElem?_eq_some_iff.mp hx).1
      have hxT : (xs.map T.str)[N[r3]]? = some (.str x) := by rw [List.getElem?_map, hx]; rfl
      have ixN := fun S => ix_nats h3 S
      generalize N[r3] = i0 at hx hi hxT ixN
      have e0 : ∀ (w : Str), (xs.map T.str).set i0 (.str w) = (xs.set i0 w).map T.str := fun w => by rw [List.map_set]
      have ee : (xs.map T.str).eraseIdx i0 = (xs.eraseIdx i0).map T.str := by rw [List.eraseIdx_eq_take_drop_succ, List.eraseIdx_eq_take_drop_succ, List.map_append, List.map_take, List.map_drop]
      have lenN : ∀ S, lenT S [.lst (natsT N)] = some (.int N.length) := fun S => by rw [len_lst, List.length_map]
      have po := popA hxT
      rw [ee] at po
      by_cases w1 : r2 = 1
      · subst w1
        simp_arith [fCM, lstD_some, cmEnd_some, refD_ref, hn, h0', lenN, d3, ixN, lst_S2, po _ xl200, set_S2, tup_S2, Int.natCast_one]
        exact ⟨_, ls3, a3, _, rfl, near_erase hx hxw, l3, by omega⟩
      · have w1' : ¬ ((r2 : Int) = 1) := by omega
        by_cases w2 : r2 = 2
        · subst w2
          obtain ⟨w, ls4, a4, hw, ⟨r4, d4, ex⟩, l4, b4⟩ := word (R ++ [.lst (xs.map T.str)]) ls3 a3 l3 (by omega)
          have st := set_lS2 ls4 cs a4 R [] (ts := xs.map T.str) (i := i0) (by rw [List.length_map]; exact hi) (.str w)
          rw [e0] at st
          simp_arith [bStore, hn, h0', w1', lenN, d3, ixN, wl, d4, ex, st, tup_S2]
          exact ⟨_, ls4, a4, _, rfl, near_set hx hxw hw, l4, by omega⟩
        · have w2' : ¬ ((r2 : Int) = 2) := by omega
          by_cases w3 : r2 = 3
          · subst w3
            obtain ⟨_, ls4, a4, d4, ⟨r4, rfl, hr4⟩, l4, b4⟩ := dr (R ++ [.lst (xs.map T.str)]) (m := 2) (by decide) ls3 a3 l3 (by omega)
            obtain ⟨j, ej, hj⟩ : ∃ j : Nat, (if (i0 : Int) - 1 - r4 > 0 then (i0 : Int) - 1 - r4 else 0) = j ∧ j ≤ 1000 := by
              by_cases q : (i0 : Int) - 1 - r4 > 0
              · exact ⟨i0 - 1 - r4, by rw [if_pos q]; omega, by omega⟩
              · exact ⟨0, by rw [if_neg q]; rfl, by omega⟩
            have mx : ∀ S, maxT S [.int 0, .int ((i0 : Int) - 1 - r4)] = some (.int j) := fun S => by rw [max_int, ej]
            have io := insA (xs := (xs.eraseIdx i0).map T.str) (i := j) hj (by rw [List.length_map]; exact Nat.le_trans (List.length_eraseIdx_le _ _) (by omega)) (.str x)
            have e2 : ((xs.eraseIdx i0).map T.str).take j ++ [T.str x] ++ ((xs.eraseIdx i0).map T.str).drop j = ((xs.eraseIdx i0).take j ++ [x] ++ (xs.eraseIdx i0).drop j).map T.str := by simp
            rw [e2] at io
            simp_arith [fCM, lstD_some, cmEnd_some, refD_ref, hn, h0', w1', w2', lenN, d3, ixN, sub_int, d4, mx, lst_S2, po _ xl200, set_S2, io, tup_S2]
            exact ⟨_, ls4, a4, _, rfl, near_move hx hxw j, l4, by omega⟩
          · have w3' : ¬ ((r2 : Int) = 3) := by omega
            obtain ⟨_, ls4, a4, d4, ⟨r4, rfl, hr4⟩, l4, b4⟩ := dr (R ++ [.lst (xs.map T.str)]) (m := (N.length : Int)) (by omega) ls3 a3 l3 (by omega)
            have h4 : r4 < N.length := by omega
            obtain ⟨y, hy, hyw⟩ := hN N[r4] (List.getElem_mem h4)
            have hi4 := (List.getElem?_eq_some_iff.mp hy).1
            have hyT : (xs.map T.str)[N[r4]]? = some (.str y) := by rw [List.getElem?_map, hy]; rfl
            have ixN4 := fun S => ix_nats h4 S
            generalize N[r4] = j0 at hy hi4 hyT ixN4
            have g1 := ix_lS2 ls4 cs a4 R [] hxT
            have g2 := ix_lS2 ls4 cs a4 R [] hyT
            have st1 := set_lS2 ls4 cs a4 R [] (ts := xs.map T.str) (i := i0) (by rw [List.length_map]; exact hi) (.str y)
            rw [e0] at st1
            have st2 := set_lS2 ls4 cs a4 R [] (ts := (xs.set i0 y).map T.str) (i := j0) (by rw [List.length_map, List.length_set]; exact hi4) (.str x)
            rw [show ((xs.set i0 y).map T.str).set j0 (.str x) = ((xs.set i0 y).set j0 x).map T.str by rw [List.map_set, List.map_set, List.map_set]] at st2
            simp_arith [hn, h0', w1', w2', w3', lenN, d3, ixN, d4, ixN4, g1, g2, small16 (show 2 ≤ 200 by omega), bSwap, st1, st2, tup_S2]
            exact ⟨_, ls4, a4, _, rfl, near_swap hx hy hxw hyw, l4, by omega⟩
end SF
set_option Elab.async false
set_option linter.all false
set_option maxRecDepth 100000
namespace SF
open PySem PySem.Spec L2 TL
open PyProof.Rows hiding St
/-! ### alike streams with items ahead and behind -/
theorem give_or {o : Ow} : ∀ (g : List (Str × Str)) {P p : Ow}, (∀ a, P a = (p a).or (o a)) → ∀ a, giveO g P a = (giveO g p a).or (o a)
  | [], _, _, h => h
  | q :: g, P, p, h => by
    unfold giveO
    rw [List.foldl_cons, List.foldl_cons]
    refine give_or g fun a => ?_
    by_cases e : a = q.1
    · rw [if_pos e, if_pos e]; rfl
    · rw [if_neg e, if_neg e]; exact h a
theorem step_or {o : Ow} {t : List Str} (c : Code) {P p : Ow} (h : ∀ a, P a = (p a).or (o a)) (a : Str) : stepO t c P a = (stepO t c p a).or (o a) := by
  unfold stepO
  split
  · exact give_or c.g h a
  · exact h a
theorem wl_over {b : Bk} {t : List Str} {o : Ow} : ∀ (xs : List Str) {P p : Ow}, (∀ a, P a = (p a).or (o a)) →
    wl b t P xs = List.zipWith (fun x row => List.zipWith (fun a v => Option.or v (o a)) (shownS b x) row) (signS b xs) (wl b t p xs)
  | [], _, _, _ => rfl
  | x :: xs, P, p, h => by
    unfold wl
    cases e : findC b.cs x with
    | some c =>
      simp only
      rw [wl_over xs (step_or c h)]
      have : signS b (x :: xs) = signS b xs := by
        unfold signS
        rw [List.filter_cons_of_neg (by rw [e]; simp)]
      rw [this]
    | none =>
      simp only
      have : signS b (x :: xs) = x :: signS b xs := by
        unfold signS
        rw [List.filter_cons_of_pos (by rw [e]; rfl)]
      rw [this, List.zipWith_cons_cons, ← wl_over xs h, List.zipWith_map_right, List.zipWith_self]
      congr 1
      exact List.map_congr_left fun a _ => h a
theorem wl_from {b : Bk} {t : List Str} {X Y : List Str} (hs : signS b X = signS b Y) (h : wl b t o0 X = wl b t o0 Y) (o : Ow) : wl b t o X = wl b t o Y := by
  rw [wl_over X (P := o) (p := o0) (o := o) (fun a => rfl), wl_over Y (P := o) (p := o0) (o := o) (fun a => rfl), hs, h]
theorem like_ahead {b : Bk} (G : GC b) {X Y : List Str} (hs : signS b X = signS b Y) (h : likeS b X Y) (A : List Str) : likeS b (A ++ X) (A ++ Y) := by
  have key : ∀ t, wl b t o0 (A ++ X) = wl b t o0 (A ++ Y) := fun t => by
    rw [wl_app, wl_app, wl_from hs (like_wl h t)]
  exact like_of G (fun k l _ _ => key [k, l]) (key [])
theorem after_chain {b : Bk} {t : List Str} : ∀ (xs : List Str) {f : Str → Ch} {o : Ow}, (∀ a, worthS t (f a) = o a) → ∀ a, worthS t (chainF b f xs a) = afterO b t o xs a
  | [], _, _, h => h
  | x :: xs, f, o, h => by
    unfold chainF afterO
    cases findC b.cs x with
    | none => exact after_chain xs h
    | some c => exact after_chain xs (step_o c h)
theorem give_asp {L : List Str} : ∀ (g : List (Str × Str)) {o o' : Ow}, (∀ a ∈ L, o a = o' a) → ∀ a ∈ L, giveO g o a = giveO g o' a
  | [], _, _, h => h
  | q :: g, o, o', h => by
    unfold giveO
    rw [List.foldl_cons, List.foldl_cons]
    refine give_asp g fun a ha => ?_
    by_cases e : a = q.1
    · rw [if_pos e, if_pos e]
    · rw [if_neg e, if_neg e]; exact h a ha
theorem wl_asp {b : Bk} (W : GW b) {t : List Str} : ∀ (xs : List Str) {o o' : Ow}, (∀ a ∈ b.asp, o a = o' a) → wl b t o xs = wl b t o' xs
  | [], _, _, _ => rfl
  | x :: xs, o, o', h => by
    unfold wl
    cases findC b.cs x with
    | some c =>
      refine wl_asp W xs fun a ha => ?_
      unfold stepO
      split
      · exact give_asp c.g h a ha
      · exact h a ha
    | none =>
      simp only
      rw [wl_asp W xs h, List.map_congr_left fun a ha => h a ((shown_sub W x).2 a ha)]
def formsEq (b : Bk) (X Y : List Str) : Prop := ∀ a ∈ b.asp, formS (chainF b f0 X a) = formS (chainF b f0 Y a)
instance (b : Bk) (X Y : List Str) : Decidable (formsEq b X Y) := by unfold formsEq; infer_instance
theorem like_behind {b : Bk} (G : GC b) {X Y : List Str} (h : likeS b X Y) (g : formsEq b X Y) (B : List Str) : likeS b (X ++ B) (Y ++ B) := by
  have key : ∀ t, wl b t o0 (X ++ B) = wl b t o0 (Y ++ B) := fun t => by
    rw [wl_app, wl_app, like_wl h t, wl_asp G.w B fun a ha => ?_]
    rw [← after_chain X (f := f0) (o := o0) (fun _ => rfl), ← after_chain Y (f := f0) (o := o0) (fun _ => rfl), form_worth (g a ha)]
  exact like_of G (fun k l _ _ => key [k, l]) (key [])
theorem like_behind_ok {b : Bk} (B : BL b) {X Y : List Str} (I : GI b X) (J : GI b Y) : Pu m__law_is_like_behind [bT b, tS X, tS Y] (.bl (decide (formsEq b X Y))) := by
  intro U
  have G := B.gc
  have i0 : ∀ S, ixT S (bT b) (.int 0) = some (tS b.asp) := fun S => rfl
  have c1 := fun {a : Str} (ha : a ∈ b.asp) => chain_at_ok G I (p := X.length) (Nat.le_refl _) ha
  have c2 := fun {a : Str} (ha : a ∈ b.asp) => chain_at_ok G J (p := Y.length) (Nat.le_refl _) ha
  rw [List.take_length] at c1 c2
  have sm := fun (a : Str) => same_ok (B.cn X a) (B.cn Y a)
  have l1 : ∀ (Z : List Str) S, lenT S [tS Z] = some (.int Z.length) := fun Z S => by
    show lenT S [.tup (Z.map T.str)] = _
    rw [len_tup, List.length_map]
  unfold m__law_is_like_behind b__law_is_like_behind
  generalize m_chain_at = f1 at c1 c2 ⊢
  generalize m_same = f2 at sm ⊢
  simp_arith [i0]
  generalize hF : forF _ _ _ _ _ = R2
  have fin := stop_at hF (fun i => ∀ a, b.asp[i]? = some a → formS (chainF b f0 X a) = formS (chainF b f0 Y a)) (fun i τ T1 => T1 = U ∧ ∃ x3 x4 x5, τ = [some (bT b), some (tS X), some (tS Y), x3, x4, x5]) (fun r T1 => r = .bl false ∧ T1 = U)
    ⟨rfl, none, none, none, rfl⟩ (by
    intro i a τ T1 ex hI
    obtain ⟨rfl, x3, x4, x5, rfl⟩ := hI
    have ha := List.mem_of_getElem? ex
    refine ⟨_, rfl, ?_⟩
    by_cases h : formS (chainF b f0 X a) = formS (chainF b f0 Y a)
    · refine .inl ⟨fun u hu => by rw [ex] at hu; cases hu; exact h, ?_⟩
      simp_arith [l1, c1 ha T1, c2 ha T1, sm a T1, h]
      exact goes_nx ⟨rfl, _, _, _, rfl⟩
    · refine .inr ⟨fun z => h (z a ex), .bl false, T1, ?_, rfl, rfl⟩
      simp_arith [l1, c1 ha T1, c2 ha T1, sm a T1, decide_eq_false h])
  rcases fin with ⟨τ2, S2, rfl, ⟨rfl, x3, x4, x5, rfl⟩, hall⟩ | ⟨i, r, S2, hi, hnp, rfl, rfl, rfl⟩
  · simp_arith []
    have h : formsEq b X Y := fun a ha => by
      obtain ⟨i, hi⟩ := List.mem_iff_getElem?.mp ha
      exact hall i (List.getElem?_eq_some_iff.mp hi).1 a hi
    rw [decide_eq_true h]
  · simp_arith []
    have h : ¬ formsEq b X Y := fun z => hnp fun a ha => z a (List.mem_of_getElem? ha)
    rw [decide_eq_false h]
theorem xl_app {b : Bk} {X Y : List Str} (A : XL b X) (B : XL b Y) (h : X.length + Y.length ≤ 200) : XL b (X ++ Y) :=
  ⟨by rw [List.length_append]; exact h, fun x hx => (List.mem_append.mp hx).elim (A.it x) (B.it x)⟩
theorem pair12_dq {cs : List Int} {R : Sto} (hc : cs ≠ []) {b : Bk} (B : BL b) {X Y : List Str} (A1 : XL b X) (A2 : XL b Y) (hX : X.length ≤ 100) (hY : Y.length ≤ 100) (hs : signS b X = signS b Y) (hl : likeS b X Y) :
    Dq cs R 250 (fun t => t = .bl true) (m__law_pair_right_k12 [.ref 1, bT b, tS X, tS Y]) := fun ls a hla ha => by
  have G := B.gc
  have sd := stream_dr hc B (most := 6) (by decide) R
  obtain ⟨_, ls1, a1, d1, ⟨P, XP, lp, rfl⟩, l1, b1⟩ := sd ls a hla (by omega)
  obtain ⟨_, ls2, a2, d2, ⟨Q, XQ, lq, rfl⟩, l2, b2⟩ := sd ls1 a1 l1 (by omega)
  have d1 : m__law_stream [.ref 1, bT b, .int 6] (S2 ls cs a R) = .ok (tS P) (S2 ls1 cs a1 R) := d1
  have d2 : m__law_stream [.ref 1, bT b, .int 6] (S2 ls1 cs a1 R) = .ok (tS Q) (S2 ls2 cs a2 R) := d2
  have k1 := alike_ok G (xl_app XP A1 (by omega)).gx (xl_app XP A2 (by omega)).gx (by rw [sign_app, sign_app, hs]) (S2 ls2 cs a2 R)
  rw [decide_eq_true (like_ahead G hs hl P)] at k1
  have k2 := alike_ok G A1.gx A2.gx hs (S2 ls2 cs a2 R)
  rw [decide_eq_true hl] at k2
  have k3 := like_behind_ok B A1.gi A2.gi (S2 ls2 cs a2 R)
  have k4 := alike_ok G (xl_app A1 XQ (by omega)).gx (xl_app A2 XQ (by omega)).gx (by rw [sign_app, sign_app, hs]) (S2 ls2 cs a2 R)
  have t1 : ∀ S, addT S (tS P) (tS X) = some (tS (P ++ X)) := fun S => add_tS (by omega) S
  have t2 : ∀ S, addT S (tS P) (tS Y) = some (tS (P ++ Y)) := fun S => add_tS (by omega) S
  have t3 : ∀ S, addT S (tS X) (tS Q) = some (tS (X ++ Q)) := fun S => add_tS (by omega) S
  have t4 : ∀ S, addT S (tS Y) (tS Q) = some (tS (Y ++ Q)) := fun S => add_tS (by omega) S
  unfold m__law_pair_right_k12 b__law_pair_right_k12
  generalize m__law_stream = f1 at d1 d2 ⊢
  generalize m_alike = f2 at k1 k2 k4 ⊢
  generalize m__law_is_like_behind = f3 at k3 ⊢
  by_cases hf : formsEq b X Y
  · rw [decide_eq_true hf] at k3
    rw [decide_eq_true (like_behind G hl hf Q)] at k4
    simp_arith [d1, d2, t1, t2, k1, k2, k3, t3, t4, k4]
    exact ⟨_, ls2, a2, rfl, rfl, l2, by omega⟩
  · rw [decide_eq_false hf] at k3
    simp_arith [d1, d2, t1, t2, k1, k2, k3]
    exact ⟨_, ls2, a2, rfl, rfl, l2, by omega⟩
end SF
set_option Elab.async false
set_option linter.all false
set_option maxRecDepth 100000
namespace SF
open PySem PySem.Spec L2 TL
open PyProof.Rows hiding St
theorem lc2_img {α : Type} {F : α → T} {r : α → List T} {g : GT} {Ft : FT} {Fi1 : FI} {g1 : GT} {Ft1 : FT} {Fe : FE} {vs1 vs : List Nat} {τ : Fr} {S : Sto} : ∀ {l : List α},
    (∀ a ∈ l, ∃ s ys, g (F a) = some s ∧ slotsIn s vs = true ∧ Ft (setsT τ s) S = .ok true S ∧ Fi1 (setsT τ s) S = .ok ys S ∧ ys.length ≤ 1000 ∧ lcF g1 Ft1 Fe vs1 (wipeT (setsT τ s) vs1) ys S = .ok (r a) S) →
    lc2F g Ft Fi1 g1 Ft1 Fe vs1 vs τ (l.map F) S = .ok (l.flatMap r) S
  | [], _ => rfl
  | x :: xs, h => by
    obtain ⟨s, ys, h1, h2, h3, h4, h5, h6⟩ := h x List.mem_cons_self
    have ih := lc2_img fun y hy => h y (List.mem_cons_of_mem _ hy)
    simp only [List.map_cons, lc2F, h1, h2, h3, h4, h5, h6, ih, if_true, bind_ok, nox_ok, List.flatMap_cons]
/-- the kinds of two chains -/
def kindsU (c d : Ch) : List Str := sortS (((c ++ d).map (·.1)).foldl addS [])
def ltS (a b : Str) : Bool := decide (a.cps.toList < b.cps.toList)
def twosU (ks : List Str) : List (List Str) := ks.flatMap fun a => (ks.filter fun b => ltS a b).map fun b => [a, b]
def candU (ks : List Str) : List (List Str) := ks.map (fun a => [a]) ++ twosU ks
def leastU (c d : Ch) : Option (List Str) := (candU (kindsU c d)).find? fun t => !decide (worthS t c = worthS t d)
def opttS : Option (List Str) → T
  | some t => tS t
  | none => .non
theorem kindsU_len (c d : Ch) : (kindsU c d).length ≤ c.length + d.length := by
  have := adds_len ((c ++ d).map (·.1)) []
  unfold kindsU
  rw [(sortS_perm _).length_eq]
  simp only [List.length_map, List.length_append, List.length_nil] at this
  omega
theorem twosU_len {ks : List Str} (h : ks.length ≤ 24) : (twosU ks).length ≤ 576 := by
  have h1 : ∀ l : List Str, (l.flatMap fun a => (ks.filter fun b => ltS a b).map fun b => [a, b]).length ≤ l.length * 24 := fun l => by
    induction l with
    | nil => exact Nat.zero_le _
    | cons a l ih =>
      rw [List.flatMap_cons, List.length_append, List.length_map, List.length_cons]
      have := List.length_filter_le (fun b => ltS a b) ks
      omega
  have := h1 ks
  unfold twosU
  omega
theorem worthS_mem {t : List Str} {v : Str} : ∀ {c : Ch}, worthS t c = some v → ∃ p ∈ c, p.2 = v
  | [], h => nomatch h
  | p :: c, h => by
    unfold worthS at h
    by_cases e : p.1 ∈ t
    · rw [if_pos e] at h
      exact ⟨p, List.mem_cons_self, Option.some.inj h⟩
    · rw [if_neg e] at h
      obtain ⟨q, hq, e2⟩ := worthS_mem h
      exact ⟨q, List.mem_cons_of_mem _ hq, e2⟩
theorem pl_worth {t : List Str} {c : Ch} (h : ∀ p ∈ c, So p.2) : pl 60 (optT (worthS t c)) = true := by
  cases e : worthS t c with
  | none => rfl
  | some v =>
    obtain ⟨p, hp, rfl⟩ := worthS_mem e
    exact h p hp
theorem optT_inj {a b : Option Str} : optT a = optT b ↔ a = b := by
  cases a <;> cases b <;> simp [optT]
theorem worth_ne {t : List Str} {c d : Ch} (h : ∀ p ∈ c, So p.2) (g : ∀ p ∈ d, So p.2) (S : Sto) : TL.neT S (optT (worthS t c)) (optT (worthS t d)) = some (.bl (!decide (worthS t c = worthS t d))) :=
  ne_pl (pl_worth h) (pl_worth g) (by rw [decide_eq_true_eq, optT_inj]) S
theorem least_apart_ok {c d : Ch} (hc : c.length ≤ 12) (hd : d.length ≤ 12) (sc : ∀ p ∈ c, So p.2) (sd : ∀ p ∈ d, So p.2) : Pu m_least_apart [chT c, chT d] (opttS (leastU c d)) := by
  intro S
  have hk : (kindsU c d).length ≤ 24 := by have := kindsU_len c d; omega
  have hz := adds_len ((c ++ d).map (·.1)) []
  simp only [List.length_map, List.length_append, List.length_nil] at hz
  have w := worth_ok
  unfold m_least_apart b_least_apart
  generalize m_worth_among = f1 at w ⊢
  have z1 : (c ++ d).length + 1 < scanBound := Nat.lt_of_le_of_lt (show _ ≤ 25 by rw [List.length_append]; omega) (by decide)
  have z2 : (c.map pT).length + (d.map pT).length ≤ sizeLine := small16 (by simp only [List.length_map]; omega)
  have za : addT S (.tup (c.map pT)) (.tup (d.map pT)) = some (.tup ((c ++ d).map pT)) := by
    rw [List.map_append]
    exact if_pos z2
  simp_arith [chT, za, fSortX, fSt, List.length_map, z1]
  rw [st_img (r := fun p : Str × Str => p.1) fun p hp => ⟨_, rfl, slots1 _ _, rfl, by simp_arith [pT]⟩]
  simp_arith [show (((c ++ d).map (·.1)).foldl addS []).length < 64 by omega]
  rw [show sortS (((c ++ d).map fun p => p.1).foldl addS []) = kindsU c d from rfl]
  unfold leastU
  generalize kindsU c d = ks at hk ⊢
  have l1 : ks.length ≤ 1000 := by omega
  have l2 : ks.length ≤ sizeLine := small16 (by omega)
  simp_arith [List.length_map, l2]
  rw [lc_each1 (r := fun a => tS [a]) fun a ha => ⟨_, rfl, slots1 _ _, rfl, by simp_arith []; rfl⟩]
  simp_arith [fLc2, List.length_map, l1]
  rw [lc2_img (r := fun a => ((ks.filter fun b => ltS a b).map fun b => tS [a, b])) fun a ha => ⟨_, ks.map T.str, rfl, rfl, rfl, by simp_arith [fiL], by rw [List.length_map]; exact l1, by
    rw [lc_img (P := fun b => ltS a b) (r := fun b => tS [a, b]) fun b hb => ⟨_, rfl, slots1 _ _, by simp_arith [ltT, ltS], fun _ => by simp_arith []; rfl⟩]⟩]
  have e2 : (ks.flatMap fun a => (ks.filter fun b => ltS a b).map fun b => tS [a, b]) = (twosU ks).map tS := by
    unfold twosU
    rw [List.map_flatMap]
    congr 1
    funext a
    rw [List.map_map]
    rfl
  have e1 : (ks.map fun a => tS [a]) = (ks.map fun a => [a]).map tS := by rw [List.map_map]; rfl
  have t2 := twosU_len hk
  rw [e2, e1]
  have za2 : ∀ S, addT S (.lst ((ks.map fun a => [a]).map tS)) (.lst ((twosU ks).map tS)) = some (.lst ((candU ks).map tS)) := fun S => by
    have z : ((ks.map fun a => [a]).map tS).length + ((twosU ks).map tS).length ≤ sizeLine := by
      simp only [List.length_map]
      exact Nat.le_trans (show _ ≤ 1000 by omega) (by decide)
    have q : addT S (.lst ((ks.map fun a => [a]).map tS)) (.lst ((twosU ks).map tS)) = if ((ks.map fun a => [a]).map tS).length + ((twosU ks).map tS).length ≤ sizeLine then some (.lst ((ks.map fun a => [a]).map tS ++ (twosU ks).map tS)) else none := rfl
    rw [q, if_pos z, ← List.map_append]
    rfl
  simp_arith [za2]
  generalize hF : forF _ _ _ _ _ = R2
  have h : ∀ (l : List (List Str)) (x2 x3 x4 x5 : Option T), (∃ y, forF (sName 5) (bIf (fTest (fBin neT (fCall f1 (fCons (fVar 0) (fCons (fVar 5) fNil))) (fCall f1 (fCons (fVar 1) (fCons (fVar 5) fNil))))) (bRet (fVar 5)) bNext) (l.map tS) [some (chT c), some (chT d), x2, x3, x4, x5, none, none, none] S = .nx [some (chT c), some (chT d), x2, x3, x4, y, none, none, none] S ∧ (l.find? fun t => !decide (worthS t c = worthS t d)) = none) ∨
      ∃ t, forF (sName 5) (bIf (fTest (fBin neT (fCall f1 (fCons (fVar 0) (fCons (fVar 5) fNil))) (fCall f1 (fCons (fVar 1) (fCons (fVar 5) fNil))))) (bRet (fVar 5)) bNext) (l.map tS) [some (chT c), some (chT d), x2, x3, x4, x5, none, none, none] S = .rt (tS t) S ∧ (l.find? fun t => !decide (worthS t c = worthS t d)) = some t := fun l => by
    induction l with
    | nil => exact fun x2 x3 x4 x5 => .inl ⟨x5, rfl, rfl⟩
    | cons t l ih =>
      intro x2 x3 x4 x5
      have w1 := w t c S
      have w2 := w t d S
      by_cases h : worthS t c = worthS t d
      · have n1 : ∀ S, TL.neT S (optT (worthS t c)) (optT (worthS t d)) = some (.bl false) := fun S => by rw [worth_ne sc sd, decide_eq_true h]; rfl
        rcases ih x2 x3 x4 (some (tS t)) with ⟨y, e, z⟩ | ⟨u, e, z⟩
        · exact .inl ⟨y, by simp_arith [forF, w1, w2, n1]; exact e, by rw [List.find?_cons, decide_eq_true h]; exact z⟩
        · exact .inr ⟨u, by simp_arith [forF, w1, w2, n1]; exact e, by rw [List.find?_cons, decide_eq_true h]; exact z⟩
      · have n1 : ∀ S, TL.neT S (optT (worthS t c)) (optT (worthS t d)) = some (.bl true) := fun S => by rw [worth_ne sc sd, decide_eq_false h]; rfl
        exact .inr ⟨t, by simp_arith [forF, w1, w2, n1], by rw [List.find?_cons, decide_eq_false h]; rfl⟩
  rcases h (candU ks) (some (.lst (ks.map T.str))) (some (.lst ((ks.map fun a => [a]).map tS))) (some (.lst ((twosU ks).map tS))) none with ⟨y, e, z⟩ | ⟨t, e, z⟩
  · rw [show R2 = _ from hF.symm.trans e, z]
    rfl
  · rw [show R2 = _ from hF.symm.trans e, z]
    rfl
end SF
set_option Elab.async false
set_option linter.all false
set_option maxRecDepth 100000
namespace SF
open PySem PySem.Spec L2 TL
open PyProof.Rows hiding St
/-! ### the long chains -/
def longA : Ch := [((("ka" : Str), ("u" : Str))), ("kb", "v"), ("kc", "u"), ("kd", "v"), ("ke", "u"), ("kf", "v"), ("kg", "u"), ("kh", "v"), ("ki", "u"), ("kj", "v")]
def longO : Ch := longA ++ [((("y" : Str), ("u" : Str))), ("z", "v")]
def longD : Ch := longA ++ [((("z" : Str), ("v" : Str))), ("y", "u")]
theorem longO_is (S : Sto) : m_is_chain [chT longO] S = .ok (.bl true) S := by kernel_rfl
theorem longD_is (S : Sto) : m_is_chain [chT longD] S = .ok (.bl true) S := by kernel_rfl
theorem longO_need (S : Sto) : m_need_chain [chT longO] S = .ok (chT longO) S := by kernel_rfl
theorem longD_need (S : Sto) : m_need_chain [chT longD] S = .ok (chT longD) S := by kernel_rfl
theorem longO_so : ∀ p ∈ longO, So p.2 := by
  intro p hp
  have : p.2 = "u" ∨ p.2 = "v" := by
    simp only [longO, longA, List.cons_append, List.nil_append, List.mem_cons, List.not_mem_nil, or_false] at hp
    rcases hp with rfl | rfl | rfl | rfl | rfl | rfl | rfl | rfl | rfl | rfl | rfl | rfl <;> simp
  rcases this with e | e <;> rw [e] <;> kernel_rfl
theorem longD_so : ∀ p ∈ longD, So p.2 := by
  intro p hp
  have : p.2 = "u" ∨ p.2 = "v" := by
    simp only [longD, longA, List.cons_append, List.nil_append, List.mem_cons, List.not_mem_nil, or_false] at hp
    rcases hp with rfl | rfl | rfl | rfl | rfl | rfl | rfl | rfl | rfl | rfl | rfl | rfl <;> simp
  rcases this with e | e <;> rw [e] <;> kernel_rfl
theorem long_one (S : Sto) : m_have_one_form [chT longO, chT longD] S = .ok (.bl false) S := by
  have r1 := runs_of_ok12 (c := longO) (by decide) longO_so
  have r2 := runs_of_ok12 (c := longD) (by decide) longD_so
  unfold m_have_one_form b_have_one_form
  generalize m_runs_of = f1 at r1 r2 ⊢
  have e1 : ∀ S, TL.eqT S (chT longO) (chT longD) = some (.bl false) := fun S => by kernel_rfl
  have e2 : ∀ S, TL.eqT S (formT longO) (formT longD) = some (.bl false) := fun S => by kernel_rfl
  simp_arith [e1, e2, r1 S, r2 S]
theorem long_same (S : Sto) : m_same [chT longO, chT longD] S = .ok (.bl false) S := by
  have n1 := longO_need
  have n2 := longD_need
  have o := long_one
  unfold m_same b_same
  generalize m_need_chain = f1 at n1 n2 ⊢
  generalize m_have_one_form = f2 at o ⊢
  simp_arith [n1, n2, o]
theorem long_self (S : Sto) : m_same [chT longO, chT longO] S = .ok (.bl true) S := by kernel_rfl
theorem long_told (S : Sto) : m_told_apart [chT longO, chT longD] S = .ok (tS [("y" : Str), ("z" : Str)]) S := by kernel_rfl
theorem long_right_ok (S : Sto) : m__law_long_right [] S = .ok (.bl true) S := by
  have s1 := long_same
  have s2 := long_self
  have s3 := long_told
  unfold m__law_long_right b__law_long_right
  generalize hA : fBlt tupT _ = A
  have h1 : ∀ S, A [none, none, none, none, none] S = .ok (chT longA) S := fun S => by
    rw [← hA]
    kernel_rfl
  clear hA
  generalize m_same = f1 at s1 s2 ⊢
  generalize m_told_apart = f2 at s3 ⊢
  have a1 : ∀ S, addT S (chT longA) (.tup [.tup [.str "y", .str "u"], .tup [.str "z", .str "v"]]) = some (chT longO) := fun S => by kernel_rfl
  have a2 : ∀ S, addT S (chT longA) (.tup [.tup [.str "z", .str "v"], .tup [.str "y", .str "u"]]) = some (chT longD) := fun S => by kernel_rfl
  have e1 : ∀ S, TL.eqT S (tS [("y" : Str), ("z" : Str)]) (.tup [.str "y", .str "z"]) = some (.bl true) := fun S => by kernel_rfl
  have q : ∀ n, n < 10 → n ≤ sizeLine := fun n h => small16 (by omega)
  simp_arith [h1, q 2 (by decide)]
  rw [a1]
  simp_arith [h1, q 2 (by decide)]
  rw [a2]
  simp_arith [s1, s2, s3, q 2 (by decide), e1]
end SF
set_option Elab.async false
set_option linter.all false
set_option maxRecDepth 100000
namespace SF
open PySem PySem.Spec L2 TL
open PyProof.Rows hiding St
theorem form_ok7 {c : Ch} (C : CN c) : Pu m_form [chT c] (formT c) := by
  intro S
  have h := need_chain_ok C
  have r := runs_of_ok C.gh.len fun p hp => (C.gh.so p hp).2
  unfold m_form b_form
  generalize m_need_chain = f1 at h ⊢
  generalize m_runs_of = f2 at r ⊢
  simp_arith [h S, r S]
theorem worth_ok7 {c : Ch} (C : CN c) {t : List Str} (ht : ∀ S, m_need_terminal [tS t] S = .ok (tS t) S) : Pu m_worth [chT c, tS t] (optT (worthS t c)) := by
  intro S
  have h := need_chain_ok C
  have w := worth_ok
  unfold m_worth b_worth
  generalize m_need_chain = f1 at h ⊢
  generalize m_need_terminal = f2 at ht ⊢
  generalize m_worth_among = f3 at w ⊢
  simp_arith [h S, ht S, w t c S]
theorem told_ok7 {c d : Ch} (C : CN c) (D : CN d) : Pu m_told_apart [chT c, chT d] (opttS (leastU c d)) := by
  intro S
  have h := need_chain_ok C
  have g := need_chain_ok D
  have l := least_apart_ok (Nat.le_trans C.gh.len (by decide)) (Nat.le_trans D.gh.len (by decide)) (fun p hp => (C.gh.so p hp).2) fun p hp => (D.gh.so p hp).2
  unfold m_told_apart b_told_apart
  generalize m_need_chain = f1 at h g ⊢
  generalize m_least_apart = f2 at l ⊢
  simp_arith [h S, g S, l S]
theorem filter_head {t : List Str} : ∀ c : Ch, ((c.filter fun p => decide (p.1 ∈ t)).map fun p => p.2).head? = worthS t c
  | [] => rfl
  | p :: c => by
    unfold worthS
    by_cases h : p.1 ∈ t
    · rw [List.filter_cons_of_pos (by simpa using h), if_pos h]
      rfl
    · rw [List.filter_cons_of_neg (by simpa using h), if_neg h]
      exact filter_head c
theorem law_worth_ok {c : Ch} (C : GH c) (t : List Str) : Pu m__law_worth [chT c, tS t] (optT (worthS t c)) := by
  intro S
  have l6 := C.len
  unfold m__law_worth b__law_worth
  simp_arith [chT, List.length_map, show c.length ≤ 1000 by omega, small16 (show c.length ≤ 200 by omega)]
  rw [lc_img (P := fun p : Str × Str => decide (p.1 ∈ t)) (r := fun p => T.str p.2) fun p hp => ⟨_, rfl, rfl, by simp_arith [pT], fun _ => by simp_arith [pT]⟩]
  have hh := filter_head (t := t) c
  have so : ∀ p ∈ c.filter fun p => decide (p.1 ∈ t), So p.2 := fun p hp => (C.so p (List.mem_filter.mp hp).1).2
  revert hh so
  generalize c.filter (fun p => decide (p.1 ∈ t)) = l
  intro hh so
  cases l with
  | nil =>
    rw [← hh]
    have n0 : ∀ S, TL.neT S (.lst []) (.lst []) = some (.bl false) := fun S => by kernel_rfl
    simp_arith [n0]
    rfl
  | cons p l =>
    rw [← hh]
    have n1 : ∀ S, TL.neT S (.lst (T.str p.2 :: l.map fun p => T.str p.2)) (.lst []) = some (.bl true) := fun S => by
      refine ne_pl (k := false) (pl_mono (n := 3) (by decide) ?_) rfl (by simp) S
      refine pl_lst fun x hx => ?_
      rcases List.mem_cons.mp hx with rfl | hx
      · exact so p List.mem_cons_self
      · obtain ⟨q, hq, rfl⟩ := List.mem_map.mp hx
        exact so q (List.mem_cons_of_mem _ hq)
    have i0 : ∀ S, ixT S (.lst (T.str p.2 :: l.map fun p => T.str p.2)) (.int 0) = some (.str p.2) := fun S => ix_lst (ts := T.str p.2 :: l.map fun p => T.str p.2) (r := 0) (Nat.succ_pos _) S
    simp_arith [List.map_cons, n1, i0]
    rfl
end SF
set_option Elab.async false
set_option linter.all false
set_option maxRecDepth 100000
namespace SF
open PySem PySem.Spec L2 TL
open PyProof.Rows hiding St
/-! ### _law_form -/
def frT (A : List Run) : List T := A.map fun r => runT (r.1, sortS r.2)
theorem fr_len (A : List Run) : (frT A).length = A.length := List.length_map ..
theorem fr_snoc (A : List Run) (r : Run) : frT (A ++ [r]) = frT A ++ [runT (r.1, sortS r.2)] := by simp [frT]
theorem ne_ref_nil {S : Sto} {n : Nat} {ts : List T} (h : S[n]? = some (.lst ts)) (hp : pl 5 (.lst ts) = true) : TL.neT S (.ref n) (.lst []) = some (.bl (!decide (ts = []))) := by
  have : TL.neT S (.lst ts) (.lst []) = some (.bl (!decide (ts = []))) := ne_pl (pl_mono (by decide) hp) rfl (by simp) S
  unfold TL.neT at this ⊢
  rw [eqB_ref h]
  exact this
theorem fr_pl {A : List Run} (h : ∀ r ∈ A, So r.1 ∧ ∀ k ∈ r.2, So k) : pl 5 (.lst (frT A)) = true := by
  refine pl_mono (n := 4) (by decide) (pl_lst fun t ht => ?_)
  obtain ⟨r, hr, rfl⟩ := List.mem_map.mp ht
  refine pl_mono (n := 2) (by decide) (pl_tup fun t ht => ?_)
  rcases List.mem_cons.mp ht with rfl | ht
  · exact (h r hr).1
  · rw [List.mem_singleton.mp ht]
    exact pl_tS fun x hx => (h r hr).2 x ((sortS_perm _).mem_iff.mp hx)
theorem sort_tS (l : List Str) (h : l.length < 64) (S : Sto) : sortT S [tS l] = some (.lst ((sortS l).map T.str)) := by
  have e : sortT S [tS l] = (strsT (l.map T.str)).bind fun xs => if xs.length < 64 then some (.lst ((sortS xs).map T.str)) else none := rfl
  rw [e, strsT_map]
  exact if_pos h
theorem sort_snoc {K : List Str} {k : Str} (h : (K ++ [k]).Nodup) : sortS (sortS K ++ [k]) = sortS (K ++ [k]) := by
  have p : (sortS K ++ [k]).Perm (K ++ [k]) := (sortS_perm K).append_right _
  exact sort_same (p.nodup_iff.mpr h) h fun x => p.mem_iff
theorem set_last {S : Sto} {n : Nat} {ts : List T} {t x : T} (h : S[n]? = some (.lst (ts ++ [t]))) : setT S (.ref n) (.int (-1)) x = some (S.set n (.lst (ts ++ [x]))) := by
  have hi : ixN (ts ++ [t]).length (-1) = some ts.length := by
    unfold ixN
    rw [if_neg (by omega), List.length_append]
    simp
    omega
  have hs : (ts ++ [t]).set ts.length x = ts ++ [x] := by simp
  simp only [setT, h, hi, Option.map_some, hs]
theorem law_form_ok {c : Ch} (C : GH c) : Pu m__law_form [chT c] (formT c) := by
  intro U
  have l6 := C.len
  unfold m__law_form
  refine gc_pure ?_ (nr_formT c)
  unfold b__law_form chT
  simp_arith []
  generalize hF : forF _ _ _ _ _ = R2
  obtain ⟨τ2, S3, e, A, h1, h2, h3, x2, x3, h4⟩ := for_at hF (fun i τ T1 => ∃ A : List Run, T1 = U ++ [.lst (frT A)] ∧ Acc A (c.drop i) (runsR c) ∧ (A.length ≤ i ∧ ∀ r ∈ A, r.2.length ≤ i ∧ (So r.1 ∧ ∀ k ∈ r.2, So k) ∧ r.2.Nodup ∧ ∀ k ∈ r.2, k ∈ (c.take i).map (·.1)) ∧
      ∃ x2 x3, τ = [some (.tup (c.map pT)), some (.ref U.length), x2, x3])
    ⟨[], rfl, .nil, ⟨Nat.le_refl _, fun r h => nomatch h⟩, none, none, rfl⟩ (by
    intro i p τ T1 ex hI
    obtain ⟨A, rfl, hacc, ⟨hl, hr⟩, x2, x3, rfl⟩ := hI
    have hpm : p ∈ c := List.mem_of_getElem? ex
    have hi := (List.getElem?_eq_some_iff.mp ex).1
    have hdrop : c.drop i = p :: c.drop (i + 1) := by
      rw [List.drop_eq_getElem_cons hi]
      congr 1
      exact (List.getElem?_eq_some_iff.mp ex).2
    have htake : (c.take (i + 1)).map (·.1) = (c.take i).map (·.1) ++ [p.1] := by
      rw [List.take_add_one, ex, List.map_append]
      rfl
    have hnew : p.1 ∉ (c.take i).map (·.1) := fun z => by
      have nd := C.nd
      rw [← List.take_append_drop i c, hdrop, List.map_append, List.map_cons] at nd
      exact (List.nodup_append.mp nd).2.2 _ z _ List.mem_cons_self rfl
    have keep : ∀ r ∈ A, r.2.length ≤ i + 1 ∧ (So r.1 ∧ ∀ k ∈ r.2, So k) ∧ r.2.Nodup ∧ ∀ k ∈ r.2, k ∈ (c.take (i + 1)).map (·.1) := fun r h => by
      obtain ⟨q1, q2, q3, q4⟩ := hr r h
      exact ⟨by omega, q2, q3, fun k hk => by rw [htake]; exact List.mem_append_left _ (q4 k hk)⟩
    rw [hdrop] at hacc
    have z1 : (frT A).length < sizeLine := by rw [fr_len]; exact small16' (by omega)
    have hcell : (U ++ [T.lst (frT A)])[U.length]? = some (.lst (frT A)) := by simp
    have hn := ne_ref_nil hcell (fr_pl fun r h => (hr r h).2.1)
    have fresh : Acc (A ++ [(p.2, [p.1])]) (c.drop (i + 1)) (runsR c) → ∃ A' : List Run, U ++ [T.lst (frT A ++ [.tup [.str p.2, .tup [.str p.1]]])] = U ++ [T.lst (frT A')] ∧ Acc A' (c.drop (i + 1)) (runsR c) ∧ (A'.length ≤ i + 1 ∧ ∀ r ∈ A', r.2.length ≤ i + 1 ∧ (So r.1 ∧ ∀ k ∈ r.2, So k) ∧ r.2.Nodup ∧ ∀ k ∈ r.2, k ∈ (c.take (i + 1)).map (·.1)) := fun h => by
      refine ⟨_, ?_, h, by rw [List.length_append]; show _ + 1 ≤ _; omega, fun r hr' => ?_⟩
      · rw [fr_snoc]
        rfl
      · rcases List.mem_append.mp hr' with q | q
        · exact keep r q
        · rw [List.mem_singleton.mp q]
          exact ⟨by show 1 ≤ i + 1; omega, ⟨(C.so p hpm).2, fun k hk => by rw [List.mem_singleton.mp hk]; exact (C.so p hpm).1⟩, by simp, fun k hk => by rw [List.mem_singleton.mp hk, htake]; simp⟩
    have setl : ∀ x : T, (U ++ [T.lst (frT A)]).set U.length x = U ++ [x] := fun x => by
      rw [List.set_append_right _ _ (Nat.le_refl _), Nat.sub_self]
      rfl
    have la : lstAt (U ++ [T.lst (frT A)]) U.length = some (frT A) := by
      unfold lstAt
      rw [hcell]
    refine ⟨_, rfl, ?_⟩
    rcases snoc_cases A with rfl | ⟨B, v, K, rfl⟩
    · obtain ⟨A', e1, e2, e3⟩ := fresh hacc.one
      have hn' : TL.neT (U ++ [T.lst (frT [])]) (.ref U.length) (.lst []) = some (.bl false) := hn
      simp_arith [pT, hn', la, z1, setl, small16 (show 1 ≤ 200 by omega), small16 (show 2 ≤ 200 by omega)]
      exact goes_nx ⟨A', e1, e2, e3, _, _, rfl⟩
    · obtain ⟨hKl, ⟨hso, hks⟩, hnd, hkin⟩ := hr (v, K) (by simp)
      have hn' : TL.neT (U ++ [T.lst (frT (B ++ [(v, K)]))]) (.ref U.length) (.lst []) = some (.bl true) := by
        rw [hn, decide_eq_false (by rw [fr_snoc]; simp)]
        rfl
      have il : ixT (U ++ [T.lst (frT (B ++ [(v, K)]))]) (.ref U.length) (.int (-1)) = some (.tup [.str v, tS (sortS K)]) := ix_last (ts := frT B) (by rw [hcell, fr_snoc]; rfl)
      have eq1 : ∀ S, TL.eqT S (.str v) (.str p.2) = some (.bl (decide (v = p.2))) := eq_str hso (C.so p hpm).2
      by_cases hvp : v = p.2
      · have hnK : (K ++ [p.1]).Nodup := List.nodup_append.mpr ⟨hnd, by simp, fun a ha b hb e => hnew (by rw [← List.mem_singleton.mp hb, ← e]; exact hkin a ha)⟩
        have lK : (sortS K ++ [p.1]).length < 64 := by
          rw [List.length_append, (sortS_perm K).length_eq]
          show K.length + 1 < 64
          have : K.length ≤ i := hKl
          omega
        have a1 : ∀ S, addT S (tS (sortS K)) (.tup [.str p.1]) = some (tS (sortS K ++ [p.1])) := fun S => by
          have q : addT S (tS (sortS K)) (.tup [.str p.1]) = if ((sortS K).map T.str).length + [T.str p.1].length ≤ sizeLine then some (.tup ((sortS K).map T.str ++ [T.str p.1])) else none := rfl
          rw [q, if_pos (small16 (by rw [List.length_map]; rw [List.length_append] at lK; show _ + 1 ≤ _; have : [p.1].length = 1 := rfl; omega))]
          unfold tS
          rw [List.map_append]
          rfl
        have i1 : ∀ S, ixT S (.tup [.str v, tS (sortS K)]) (.int 1) = some (tS (sortS K)) := fun S => rfl
        have s0 : ∀ S, sortT S [tS (sortS K ++ [p.1])] = some (.lst ((sortS (K ++ [p.1])).map T.str)) := fun S => by rw [sort_tS _ lK, sort_snoc hnK]
        have t0 : ∀ S ts, tupT S [.lst ts] = some (.tup ts) := fun S ts => rfl
        have s1 : ∀ x, setT (U ++ [T.lst (frT (B ++ [(v, K)]))]) (.ref U.length) (.int (-1)) x = some (U ++ [T.lst (frT B ++ [x])]) := fun x => by
          rw [set_last (ts := frT B) (t := runT (v, sortS K)) (by rw [hcell, fr_snoc]), List.set_append_right _ _ (Nat.le_refl _), Nat.sub_self]
          rfl
        simp_arith [pT, hn', neg_one, il, eq1, decide_eq_true hvp, bStore, i1, a1, s0, t0, s1, small16 (show 1 ≤ 200 by omega), small16 (show 2 ≤ 200 by omega)]
        refine goes_nx ⟨B ++ [(v, K ++ [p.1])], ?_, hacc.same hvp.symm, ⟨by simpa using (show (B ++ [(v, K)]).length ≤ i + 1 by omega), fun r hr' => ?_⟩, _, _, rfl⟩
        · rw [fr_snoc]
          try rw [← hvp]
          rfl
        · rcases List.mem_append.mp hr' with q | q
          · exact keep r (List.mem_append_left _ q)
          · rw [List.mem_singleton.mp q]
            refine ⟨by rw [List.length_append]; show K.length + 1 ≤ i + 1; have : K.length ≤ i := hKl; omega, ⟨hso, fun k hk => ?_⟩, hnK, fun k hk => ?_⟩
            · rcases List.mem_append.mp hk with q | q
              · exact hks k q
              · rw [List.mem_singleton.mp q]; exact (C.so p hpm).1
            · rw [htake]
              rcases List.mem_append.mp hk with q | q
              · exact List.mem_append_left _ (hkin k q)
              · exact List.mem_append_right _ q
      · obtain ⟨A', e1, e2, e3⟩ := fresh (hacc.other fun z => hvp z.symm)
        simp_arith [pT, hn', neg_one, il, eq1, decide_eq_false hvp, la, z1, setl, small16 (show 1 ≤ 200 by omega), small16 (show 2 ≤ 200 by omega)]
        exact goes_nx ⟨A', e1, e2, e3, _, _, rfl⟩)
  subst e h1 h4
  rw [List.drop_length] at h2
  have hA := acc_done h2
  have la : lstAt (U ++ [T.lst (frT A)]) U.length = some (frT A) := by
    unfold lstAt
    simp
  have tf : tupT (U ++ [T.lst (frT A)]) [.ref U.length] = some (.tup (frT A)) := by
    have q : tupT (U ++ [T.lst (frT A)]) [.ref U.length] = (seqL (U ++ [T.lst (frT A)]) (.ref U.length)).map .tup := rfl
    rw [q]
    simp [seqL]
  simp_arith [tf]
  have ef : T.tup (frT A) = formT c := by
    unfold formT formS frT
    rw [hA, List.map_map]
    rfl
  rw [ef]
  exact ⟨_, rfl⟩
end SF
set_option Elab.async false
set_option linter.all false
set_option maxRecDepth 100000
namespace SF
open PySem PySem.Spec L2 TL
open PyProof.Rows hiding St
/-! ### the chains of k07 as drawn -/
def K7 : List Str := ["h", "ha", "hb", "i", "j"]
def V7 : List Str := ["u", "v", "plain"]
structure G7 (c : Ch) : Prop where
  nd : (c.map (·.1)).Nodup
  ks : ∀ p ∈ c, p.1 ∈ K7
  vs : ∀ p ∈ c, p.2 ∈ V7
theorem nm7 : ∀ x ∈ K7 ++ V7, Nm x := all_of ⟨fun _ => by kernel_rfl, fun _ => by kernel_rfl, fun _ => by kernel_rfl, fun _ => by kernel_rfl, fun _ => by kernel_rfl, fun _ => by kernel_rfl, fun _ => by kernel_rfl, fun _ => by kernel_rfl, trivial⟩
theorem so7 : ∀ x ∈ K7 ++ V7, So x := all_of ⟨by kernel_rfl, by kernel_rfl, by kernel_rfl, by kernel_rfl, by kernel_rfl, by kernel_rfl, by kernel_rfl, by kernel_rfl, trivial⟩
theorem rp7 : ∀ x ∈ K7 ++ V7, Rp x := fun x hx => rp_of (List.all_eq_true.mp (show (K7 ++ V7).all (fun x => decide ((reprText x).length ≤ 100) && PyData.strOk (reprText x) && PyData.strOk x) = true by decide +kernel) x hx)
theorem nd_K7 : K7.Nodup := by decide +kernel
theorem G7.ci {c : Ch} (h : G7 c) : CI K7 c := ⟨h.nd, h.ks⟩
theorem G7.gh {c : Ch} (h : G7 c) : GH c := ⟨Nat.le_trans h.ci.len (by decide), fun p hp => ⟨so7 _ (List.mem_append_left _ (h.ks p hp)), so7 _ (List.mem_append_right _ (h.vs p hp))⟩, h.nd⟩
theorem G7.cn {c : Ch} (h : G7 c) : CN c := ⟨h.gh, fun p hp => ⟨nm7 _ (List.mem_append_left _ (h.ks p hp)), nm7 _ (List.mem_append_right _ (h.vs p hp))⟩⟩
theorem term7 : ∀ l ∈ subls K7, ∀ S, m_need_terminal [tS l] S = .ok (tS l) S := all_of (by
  repeat' apply And.intro
  all_goals first | exact trivial | (intro S; kernel_rfl))
theorem G7.erase {c : Ch} (h : G7 c) (i : Nat) : G7 (c.eraseIdx i) :=
  ⟨h.nd.sublist ((List.eraseIdx_sublist c i).map _), fun p hp => h.ks p ((List.eraseIdx_sublist c i).subset hp), fun p hp => h.vs p ((List.eraseIdx_sublist c i).subset hp)⟩
theorem G7.perm {c d : Ch} (h : G7 c) (p : d.Perm c) : G7 d :=
  ⟨(p.map _).nodup_iff.mpr h.nd, fun q hq => h.ks q (p.mem_iff.mp hq), fun q hq => h.vs q (p.mem_iff.mp hq)⟩
theorem G7.set {c : Ch} (h : G7 c) {i : Nat} {p : Str × Str} (hi : c[i]? = some p) {v : Str} (hv : v ∈ V7) : G7 (c.set i (p.1, v)) := by
  have hk : (c.set i (p.1, v)).map (·.1) = c.map (·.1) := by
    rw [List.map_set]
    have hl := List.getElem?_eq_some_iff.mp hi
    have e : (c.map (·.1))[i]'(by rw [List.length_map]; exact hl.1) = p.1 := by simp [hl.2]
    show (c.map (·.1)).set i p.1 = _
    rw [← e, List.set_getElem_self]
  refine ⟨by rw [hk]; exact h.nd, fun q hq => ?_, fun q hq => ?_⟩
  · have : q.1 ∈ (c.set i (p.1, v)).map (·.1) := List.mem_map_of_mem hq
    rw [hk] at this
    obtain ⟨r, hr, e⟩ := List.mem_map.mp this
    rw [← e]
    exact h.ks r hr
  · rcases List.mem_or_eq_of_mem_set hq with q1 | q1
    · exact h.vs q q1
    · rw [q1]; exact hv
theorem ins_perm {c : Ch} {i j : Nat} {p : Str × Str} (hi : c[i]? = some p) : ((c.eraseIdx i).take j ++ [p] ++ (c.eraseIdx i).drop j).Perm c := by
  have h1 : ((c.eraseIdx i).take j ++ [p] ++ (c.eraseIdx i).drop j).Perm (p :: c.eraseIdx i) := by
    rw [List.append_assoc, List.singleton_append]
    refine List.perm_middle.trans ?_
    rw [List.take_append_drop]
  refine h1.trans ?_
  have hl := List.getElem?_eq_some_iff.mp hi
  rw [List.eraseIdx_eq_take_drop_succ]
  have h2 : c = c.take i ++ p :: c.drop (i + 1) := by
    have := List.take_append_drop i c
    rw [List.drop_eq_getElem_cons hl.1, hl.2] at this
    exact this.symm
  conv => rhs; rw [h2]
  exact List.perm_middle.symm
end SF
set_option Elab.async false
set_option linter.all false
set_option maxRecDepth 100000
namespace SF
open PySem PySem.Spec L2 TL
open PyProof.Rows hiding St
theorem lst1_S2 (ls cs : List Int) (a : Nat) (R J : Sto) (x : T) (ts : List T) : lstAt (S2 ls cs a (R ++ x :: .lst ts :: J)) (R.length + 1 + 2) = some ts := by
  have := lst_S2 ls cs a (R ++ [x]) J ts
  rw [List.append_assoc, List.length_append] at this
  exact this
theorem set1_S2 (ls cs : List Int) (a : Nat) (R J : Sto) (x y z : T) : (S2 ls cs a (R ++ x :: y :: J)).set (R.length + 1 + 2) z = S2 ls cs a (R ++ x :: z :: J) := by
  have := set_S2 ls cs a (R ++ [x]) J y z
  rw [List.append_assoc, List.append_assoc, List.length_append] at this
  exact this
theorem tup1_S2 (ls cs : List Int) (a : Nat) (R J : Sto) (x : T) (ts : List T) : tupT (S2 ls cs a (R ++ x :: .lst ts :: J)) [.ref (R.length + 1 + 2)] = some (.tup ts) := by
  have := tup_S2 ls cs a (R ++ [x]) J ts
  rw [List.append_assoc, List.length_append] at this
  exact this
/-- what is left of the kinds -/
structure L7 (c : Ch) (s : List Str) : Prop where
  pm : (c.map (·.1) ++ s).Perm K7
  vs : ∀ p ∈ c, p.2 ∈ V7
theorem L7.g {c : Ch} {s : List Str} (h : L7 c s) : G7 c := by
  have nd := h.pm.nodup_iff.mpr nd_K7
  exact ⟨(List.nodup_append.mp nd).1, fun p hp => h.pm.mem_iff.mp (List.mem_append_left _ (List.mem_map_of_mem hp)), h.vs⟩
theorem L7.step {c : Ch} {s : List Str} (h : L7 c s) {i : Nat} {k v : Str} (hi : s[i]? = some k) (hv : v ∈ V7) : L7 (c ++ [(k, v)]) (s.eraseIdx i) := by
  refine ⟨?_, fun p hp => ?_⟩
  · refine List.Perm.trans ?_ h.pm
    rw [List.map_append, List.append_assoc]
    refine List.Perm.append_left _ ?_
    have hl := List.getElem?_eq_some_iff.mp hi
    have h2 : s = s.take i ++ k :: s.drop (i + 1) := by
      have := List.take_append_drop i s
      rw [List.drop_eq_getElem_cons hl.1, hl.2] at this
      exact this.symm
    rw [List.eraseIdx_eq_take_drop_succ]
    conv => rhs; rw [h2]
    show (k :: (s.take i ++ s.drop (i + 1))).Perm _
    exact List.perm_middle.symm
  · rcases List.mem_append.mp hp with q | q
    · exact h.vs p q
    · rw [List.mem_singleton.mp q]; exact hv
theorem chain_dr {cs : List Int} (hc : cs ≠ []) : Dr cs 11 (fun t => ∃ c, G7 c ∧ t = chT c) (m__law_chain [.ref 1]) := by
  unfold m__law_chain
  refine db_gc (fun R ls a hl ha => ?_) fun t ht => by obtain ⟨c, _, rfl⟩ := ht; exact nr_chT c
  unfold b__law_chain
  have dr := fun (R : Sto) {m : Int} (hm : 0 < m ∧ m < 1073741824) => draw_dq (R := R) hc hm
  have popA : ∀ {xs : List T} {i : Nat} {x : T} (_ : xs[i]? = some x) (S : Sto) (_ : xs.length ≤ 200), opPop S xs [.int (i : Nat)] = some (x, xs.eraseIdx i) := fun {xs i x} h S hl => pop_at h S hl
  generalize m__law_draw = f1 at dr ⊢
  generalize opPop = oP at popA ⊢
  obtain ⟨_, ls1, a1, d1, ⟨r1, rfl, hr1⟩, l1, b1⟩ := dr (R ++ [.lst (K7.map T.str), .lst []]) (m := 6) (by decide) ls a hl (by omega)
  have d1' : f1 [.ref 1, .int 6] (S2 ls cs a (R ++ [.lst [.str "h", .str "ha", .str "hb", .str "i", .str "j"], .lst []])) = .ok (.int r1) (S2 ls1 cs a1 (R ++ [.lst (K7.map T.str), .lst []])) := d1
  simp_arith [S2_app, S2_len, small16 (show 5 ≤ 200 by omega), small16 (show 0 ≤ 200 by omega), List.append_assoc, List.length_append, d1', inR_small (show (0 : Int) ≤ r1 by omega) (by omega)]
  generalize hF : forF _ _ _ _ _ = R2
  obtain ⟨τ2, S3, e, ls3, a3, c, s, h4, h5, h6, h7, h8, x1, h9⟩ := for_go hF (fun i τ T1 => ∃ ls' a' c s, T1 = S2 ls' cs a' (R ++ [.lst (s.map T.str), .lst (c.map pT)]) ∧ ls'.length = cs.length ∧ a' ≤ a + 1 + 2 * i ∧ c.length = i ∧ L7 c s ∧
      ∃ x1, τ = [some (.ref 1), x1, some (.ref (R.length + 2)), some (.ref (R.length + 1 + 2))])
    ⟨ls1, a1, [], K7, rfl, l1, b1, rfl, ⟨List.Perm.refl _, fun p hp => nomatch hp⟩, none, rfl⟩ (by
    intro i y τ T1 hx hI
    obtain ⟨ls', a', c, s, rfl, hl', ha', hci, L, x1, rfl⟩ := hI
    obtain ⟨hi, rfl⟩ := rng_at hx
    refine ⟨_, rfl, ?_⟩
    have l5 : c.length + s.length = 5 := by
      have := L.pm.length_eq
      rw [List.length_append, List.length_map] at this
      exact this
    have z4 : (c.map pT).length < sizeLine := small16' (by rw [List.length_map]; omega)
    obtain ⟨_, ls2, a2, d2, ⟨r2, rfl, hr2⟩, l2, b2⟩ := dr (R ++ [.lst (s.map T.str), .lst (c.map pT)]) (m := (s.length : Int)) (by omega) ls' a' hl' (by omega)
    have hr2' : r2 < s.length := by omega
    have po := popA (xs := s.map T.str) (i := r2) (x := .str s[r2]) (by rw [List.getElem?_map, List.getElem?_eq_getElem hr2']; rfl)
    have ee : (s.map T.str).eraseIdx r2 = (s.eraseIdx r2).map T.str := by rw [List.eraseIdx_eq_take_drop_succ, List.eraseIdx_eq_take_drop_succ, List.map_append, List.map_take, List.map_drop]
    rw [ee] at po
    obtain ⟨_, ls3, a3, d3, ⟨r3, rfl, hr3⟩, l3, b3⟩ := dr (R ++ [.lst ((s.eraseIdx r2).map T.str), .lst (c.map pT)]) (m := 3) (by decide) ls2 a2 l2 (by omega)
    obtain ⟨v, hv, ex⟩ := pick V7 (r := r3) (by simp [V7]; omega)
    have ex2 : ∀ S, ixT S (.lst [.str "u", .str "v", .str "plain"]) (.int r3) = some (.str v) := ex
    have ln : lenT (S2 ls' cs a' (R ++ [.lst (s.map T.str), .lst (c.map pT)])) [.ref (R.length + 2)] = some (.int s.length) := by rw [len_S2, List.length_map]
    simp_arith [fCM, lstD_some, cmEnd_some, refD_ref, lst_S2, lst1_S2, ln, d2, po, set_S2, set1_S2, d3, ex2, z4, List.length_map, small16 (show 3 ≤ 200 by omega), small16 (show 2 ≤ 200 by omega), small16 (show s.length ≤ 200 by omega), show s.length ≤ 200 by omega]
    have z5 : c.length < sizeLine := small16' (by omega)
    have cm : c.map pT ++ [T.tup [T.str s[r2], T.str v]] = (c ++ [(s[r2], v)]).map pT := by simp [pT]
    rw [if_pos z5, cm]
    refine goes_nx ⟨ls3, a3, c ++ [(s[r2], v)], s.eraseIdx r2, rfl, l3, by omega, by rw [List.length_append, hci]; rfl, L.step (List.getElem?_eq_getElem hr2') hv, _, rfl⟩)
  subst e h4 h9
  rw [rng_len] at h6 h7
  simp_arith [tup1_S2]
  exact ⟨_, ls3, a3, [.lst (s.map T.str), .lst (c.map pT)], rfl, ⟨c, h8.g, rfl⟩, h5, by omega⟩
end SF
set_option Elab.async false
set_option linter.all false
set_option maxRecDepth 100000
namespace SF
open PySem PySem.Spec L2 TL
open PyProof.Rows hiding St
theorem pl_pT {p : Str × Str} (h : So p.1 ∧ So p.2) : pl 2 (pT p) = true := by
  refine pl_mono (n := 1) (by decide) (pl_tup fun t ht => ?_)
  rcases List.mem_cons.mp ht with rfl | ht
  · exact h.1
  · rw [List.mem_singleton.mp ht]; exact h.2
theorem eq_ref_nil {S : Sto} {n : Nat} {ts : List T} (h : S[n]? = some (.lst ts)) (hp : pl 5 (.lst ts) = true) : TL.eqT S (.ref n) (.lst []) = some (.bl (decide (ts = []))) := by
  have : TL.eqT S (.lst ts) (.lst []) = some (.bl (decide (ts = []))) := eq_pl (pl_mono (by decide) hp) rfl (by simp) S
  unfold TL.eqT at this ⊢
  rw [eqB_ref h]
  exact this
theorem other_dr {cs : List Int} (hc : cs ≠ []) {c : Ch} (C : G7 c) : Dr cs 14 (fun t => ∃ d, G7 d ∧ t = chT d) (m__law_other [.ref 1, chT c]) := by
  unfold m__law_other
  refine db_gc (fun R ls a hl ha => ?_) fun t ht => by obtain ⟨c, _, rfl⟩ := ht; exact nr_chT c
  have l5 : c.length ≤ 5 := C.ci.len
  unfold b__law_other
  have dr := fun (R : Sto) {m : Int} (hm : 0 < m ∧ m < 1073741824) => draw_dq (R := R) hc hm
  have ch := chain_dr hc
  have insA : ∀ {xs : List T} {i : Nat} (_ : i ≤ 1000) (_ : xs.length ≤ 200) (y : T) (S : Sto), opIns S xs [.int (i : Nat), y] = some (.non, xs.take i ++ [y] ++ xs.drop i) := fun {xs i} h1 h2 y S => ins_at h1 h2 y S
  have popA : ∀ {xs : List T} {i : Nat} {x : T} (_ : xs[i]? = some x) (S : Sto) (_ : xs.length ≤ 200), opPop S xs [.int (i : Nat)] = some (x, xs.eraseIdx i) := fun {xs i x} h S hl => pop_at h S hl
  generalize m__law_draw = f1 at dr ⊢
  generalize m__law_chain = f2 at ch ⊢
  generalize opIns = oI at insA ⊢
  generalize opPop = oP at popA ⊢
  have lsT : ∀ S, listT S [.tup (c.map pT)] = some (.lst (c.map pT)) := fun S => list_tup _ S
  obtain ⟨_, ls1, a1, d1, ⟨r1, rfl, hr1⟩, l1, b1⟩ := dr R (m := 5) (by decide) ls a hl (by omega)
  have pc : pl 5 (.lst (c.map pT)) = true := pl_mono (n := 3) (by decide) (pl_lst fun t ht => by
    obtain ⟨p, hp, rfl⟩ := List.mem_map.mp ht
    exact pl_pT (C.gh.so p hp))
  have eqn : ∀ ls a, TL.eqT (S2 ls cs a (R ++ [.lst (c.map pT)])) (.ref (R.length + 2)) (.lst []) = some (.bl (decide (c = []))) := fun ls a => by
    rw [eq_ref_nil (at_S2 ls cs a R [] _) pc]
    simp
  have c200 : (c.map pT).length ≤ 200 := by rw [List.length_map]; omega
  suffices h : ∃ d ls' a' J, body _ _ (bSeq _ _) [.ref 1, chT c] (S2 ls cs a R) = .ok (chT d) (S2 ls' cs a' (R ++ J)) ∧ G7 d ∧ ls'.length = cs.length ∧ a' ≤ a + 14 by
    obtain ⟨d, ls', a', J, h1, h2, h3, h4⟩ := h
    exact ⟨_, ls', a', J, h1, ⟨d, h2, rfl⟩, h3, h4⟩
  unfold chT
  simp_arith [d1, lsT, S2_app, S2_len]
  by_cases hn : c = []
  · obtain ⟨_, ls2, a2, d2, ⟨d, D, rfl⟩, l2, b2⟩ := ch (R ++ [.lst (c.map pT)]) ls1 a1 l1 (by omega)
    have en : ∀ ls a, TL.eqT (S2 ls cs a (R ++ [.lst (c.map pT)])) (.ref (R.length + 2)) (.lst []) = some (.bl true) := fun ls a => by rw [eqn, decide_eq_true hn]
    simp_arith [en, d2]
    exact ⟨d, ls2, a2, _, rfl, D, l2, by omega⟩
  · have en : ∀ ls a, TL.eqT (S2 ls cs a (R ++ [.lst (c.map pT)])) (.ref (R.length + 2)) (.lst []) = some (.bl false) := fun ls a => by rw [eqn, decide_eq_false hn]
    by_cases h0 : r1 = 0
    · obtain ⟨_, ls2, a2, d2, ⟨d, D, rfl⟩, l2, b2⟩ := ch (R ++ [.lst (c.map pT)]) ls1 a1 l1 (by omega)
      subst h0
      simp_arith [en, d2, Int.natCast_zero]
      exact ⟨d, ls2, a2, _, rfl, D, l2, by omega⟩
    · have h0' : ¬ ((r1 : Int) = 0) := by omega
      have hp : 0 < c.length := List.length_pos_iff.mpr hn
      obtain ⟨_, ls2, a2, d2, ⟨r2, rfl, hr2⟩, l2, b2⟩ := dr (R ++ [.lst (c.map pT)]) (m := (c.length : Int)) (by omega) ls1 a1 l1 (by omega)
      have h2 : r2 < c.length := by omega
      have hx : c[r2]? = some c[r2] := List.getElem?_eq_getElem h2
      have hxT : (c.map pT)[r2]? = some (pT c[r2]) := by rw [List.getElem?_map, hx]; rfl
      generalize c[r2] = p at hx hxT
      have ln : ∀ ls a, lenT (S2 ls cs a (R ++ [.lst (c.map pT)])) [.ref (R.length + 2)] = some (.int c.length) := fun ls a => by rw [len_S2, List.length_map]
      have ee : (c.map pT).eraseIdx r2 = (c.eraseIdx r2).map pT := by rw [List.eraseIdx_eq_take_drop_succ, List.eraseIdx_eq_take_drop_succ, List.map_append, List.map_take, List.map_drop]
      have po := popA hxT
      rw [ee] at po
      by_cases w1 : r1 = 1
      · subst w1
        simp_arith [fCM, lstD_some, cmEnd_some, refD_ref, en, h0', ln, d2, lst_S2, po _ c200, set_S2, tup_S2, Int.natCast_one]
        exact ⟨_, ls2, a2, _, rfl, C.erase r2, l2, by omega⟩
      · have w1' : ¬ ((r1 : Int) = 1) := by omega
        by_cases w2 : r1 = 2
        · subst w2
          obtain ⟨_, ls3, a3, d3, ⟨r3, rfl, hr3⟩, l3, b3⟩ := dr (R ++ [.lst (c.map pT)]) (m := 3) (by decide) ls2 a2 l2 (by omega)
          obtain ⟨v, hv, ex⟩ := pick V7 (r := r3) (by simp [V7]; omega)
          have ex2 : ∀ S, ixT S (.lst [.str "u", .str "v", .str "plain"]) (.int r3) = some (.str v) := ex
          have i2 : ∀ ls a, ixT (S2 ls cs a (R ++ [.lst (c.map pT)])) (.ref (R.length + 2)) (.int (r2 : Nat)) = some (pT p) := fun ls a => ix_lS2 ls cs a R [] hxT
          have st := set_lS2 ls3 cs a3 R [] (ts := c.map pT) (i := r2) (by rw [List.length_map]; exact h2) (.tup [.str p.1, .str v])
          have e0 : (c.map pT).set r2 (.tup [.str p.1, .str v]) = (c.set r2 (p.1, v)).map pT := by rw [List.map_set]; rfl
          rw [e0] at st
          have i0 : ∀ S, ixT S (pT p) (.int 0) = some (.str p.1) := fun S => rfl
          simp_arith [bStore, en, h0', w1', ln, d2, d3, i2, i0, ex2, st, tup_S2, small16 (show 3 ≤ 200 by omega), small16 (show 2 ≤ 200 by omega)]
          exact ⟨_, ls3, a3, _, rfl, C.set hx hv, l3, by omega⟩
        · have w2' : ¬ ((r1 : Int) = 2) := by omega
          obtain ⟨_, ls3, a3, d3, ⟨r3, rfl, hr3⟩, l3, b3⟩ := dr (R ++ [.lst (c.map pT)]) (m := (c.length : Int)) (by omega) ls2 a2 l2 (by omega)
          have io := insA (i := r3) (xs := (c.eraseIdx r2).map pT) (by omega) (by rw [List.length_map]; have := List.length_eraseIdx_le c r2; omega) (pT p)
          have e1 : ((c.eraseIdx r2).map pT).take r3 ++ [pT p] ++ ((c.eraseIdx r2).map pT).drop r3 = ((c.eraseIdx r2).take r3 ++ [p] ++ (c.eraseIdx r2).drop r3).map pT := by simp
          rw [e1] at io
          simp_arith [fCM, lstD_some, cmEnd_some, refD_ref, en, h0', w1', w2', ln, d2, d3, lst_S2, po _ c200, io, set_S2, tup_S2]
          exact ⟨_, ls3, a3, _, rfl, C.perm (ins_perm hx), l3, by omega⟩
end SF
set_option Elab.async false
set_option linter.all false
set_option maxRecDepth 100000
namespace SF
open PySem PySem.Spec L2 TL
open PyProof.Rows hiding St
theorem kindsU_mem {c d : Ch} {k : Str} : k ∈ kindsU c d ↔ k ∈ c.map (·.1) ∨ k ∈ d.map (·.1) := by
  unfold kindsU
  rw [(sortS_perm _).mem_iff, adds_mem, List.map_append, List.mem_append]
  simp
theorem cand_mem {ks t : List Str} : t ∈ candU ks ↔ (∃ a ∈ ks, t = [a]) ∨ ∃ a ∈ ks, ∃ b ∈ ks, ltS a b = true ∧ t = [a, b] := by
  unfold candU twosU
  simp only [List.mem_append, List.mem_map, List.mem_flatMap, List.mem_filter]
  constructor
  · rintro (⟨a, h, rfl⟩ | ⟨a, h, b, ⟨h1, h2⟩, rfl⟩)
    · exact .inl ⟨a, h, rfl⟩
    · exact .inr ⟨a, h, b, h1, h2, rfl⟩
  · rintro (⟨a, h, rfl⟩ | ⟨a, h, b, h1, h2, rfl⟩)
    · exact .inl ⟨a, h, rfl⟩
    · exact .inr ⟨a, h, b, ⟨h1, h2⟩, rfl⟩
theorem worth_nil (c : Ch) : worthS [] c = none := by
  induction c with
  | nil => rfl
  | cons p c ih =>
    unfold worthS
    rw [if_neg (by simp), ih]
theorem worth_out {a : Str} {c : Ch} (h : a ∉ c.map (·.1)) : worthS [a] c = none := by
  rw [worth_congr (s := []) fun k hk => by simp; rintro rfl; exact h hk]
  exact worth_nil c
theorem ltS_total {a b : Str} (h : a ≠ b) : ltS a b = true ∨ ltS b a = true := by
  unfold ltS
  simp only [decide_eq_true_eq]
  by_cases q : a.cps.toList < b.cps.toList
  · exact .inl q
  · by_cases r : b.cps.toList < a.cps.toList
    · exact .inr r
    · exact absurd (leS_anti (leS_iff.mpr r) (leS_iff.mpr q)) h
theorem least_none {c d : Ch} (hc : (c.map (·.1)).Nodup) (hd : (d.map (·.1)).Nodup) (h : ∀ t ∈ candU (kindsU c d), worthS t c = worthS t d) : formS c = formS d := by
  refine form_of_worth hc hd fun k l hk hl => ?_
  have mk := kindsU_mem.mpr hk
  have ml := kindsU_mem.mpr hl
  by_cases e : k = l
  · subst e
    have := h [k] (cand_mem.mpr (.inl ⟨k, mk, rfl⟩))
    have q : ∀ x : Ch, worthS [k, k] x = worthS [k] x := fun x => worth_congr fun y _ => by simp
    rw [q, q, this]
  · rcases ltS_total e with q | q
    · exact h _ (cand_mem.mpr (.inr ⟨k, mk, l, ml, q, rfl⟩))
    · have := h _ (cand_mem.mpr (.inr ⟨l, ml, k, mk, q, rfl⟩))
      have w : ∀ x : Ch, worthS [k, l] x = worthS [l, k] x := fun x => worth_congr fun y _ => by simp [or_comm]
      rw [w, w, this]
theorem least_form {c d : Ch} (hc : (c.map (·.1)).Nodup) (hd : (d.map (·.1)).Nodup) : leastU c d = none ↔ formS c = formS d := by
  unfold leastU
  rw [List.find?_eq_none]
  constructor
  · intro h
    exact least_none hc hd fun t ht => by simpa using h t ht
  · intro h t ht
    simp [form_worth h t]
theorem find_order {α : Type} {p : α → Bool} : ∀ {l m : List α} {x : α}, (l ++ m).find? p = some x → x ∈ l ∨ (∀ y ∈ l, p y = false)
  | [], _, _, _ => .inr fun y hy => nomatch hy
  | a :: l, m, x, h => by
    rw [List.cons_append, List.find?_cons] at h
    cases e : p a with
    | true =>
      rw [e] at h
      exact .inl (by cases h; exact List.mem_cons_self)
    | false =>
      rw [e] at h
      rcases find_order h with q | q
      · exact .inl (List.mem_cons_of_mem _ q)
      · refine .inr fun y hy => ?_
        rcases List.mem_cons.mp hy with rfl | hy
        · exact e
        · exact q y hy
/-- the terminal that is told parts, and none of fewer kinds does -/
theorem least_some {c d : Ch} {t : List Str} (h : leastU c d = some t) : worthS t c ≠ worthS t d ∧ ((∃ a ∈ kindsU c d, t = [a]) ∨ ∃ a ∈ kindsU c d, ∃ b ∈ kindsU c d, ltS a b = true ∧ t = [a, b]) ∧ ∀ s : List Str, worthS s c ≠ worthS s d → t.length ≤ s.length := by
  have h1 := List.find?_some h
  have h2 := List.mem_of_find?_eq_some h
  have ne : worthS t c ≠ worthS t d := by simpa using h1
  refine ⟨ne, cand_mem.mp h2, fun s hs => ?_⟩
  have s0 : s ≠ [] := fun e => hs (by rw [e, worth_nil, worth_nil])
  rcases cand_mem.mp h2 with ⟨a, ha, rfl⟩ | ⟨a, ha, b, hb, hab, rfl⟩
  · have := List.length_pos_iff.mpr s0
    exact this
  · rcases find_order (l := (kindsU c d).map fun a => [a]) (m := twosU (kindsU c d)) h with q | q
    · obtain ⟨x, _, e⟩ := List.mem_map.mp q
      cases e
    · match s, s0, hs with
      | [x], _, hs =>
        exfalso
        by_cases hx : x ∈ kindsU c d
        · have := q [x] (List.mem_map.mpr ⟨x, hx, rfl⟩)
          exact hs (by simpa using this)
        · have n1 : x ∉ c.map (·.1) := fun z => hx (kindsU_mem.mpr (.inl z))
          have n2 : x ∉ d.map (·.1) := fun z => hx (kindsU_mem.mpr (.inr z))
          exact hs (by rw [worth_out n1, worth_out n2])
      | x :: y :: r, _, _ => simp
end SF
set_option Elab.async false
set_option linter.all false
set_option maxRecDepth 100000
namespace SF
open PySem PySem.Spec L2 TL
open PyProof.Rows hiding St
theorem Nice.mono {n m n' m' : Nat} {d : PyData} (h : Nice n m d) (hn : n ≤ n') (hm : m ≤ m') : Nice n' m' d := ⟨h.lay, h.eqv, h.sh, h.hd, Nat.le_trans h.dp hn, Nat.le_trans h.ln hm, h.ok⟩
theorem nice_run {r : Run} (h : Rp r.1) (hk : ∀ k ∈ r.2, Rp k) (hl : r.2.length ≤ 6) : NiceT 2 (3 + 2 * ((3 + 6 * 102) + 2)) (runT r) := NiceT.tup (n := 1) (m := 3 + 6 * 102) (fun t ht => by
  rcases List.mem_cons.mp ht with rfl | ht
  · exact ⟨.str r.1, by simp only [toD], (Nice.str h).mono (by decide) (by decide)⟩
  · rw [List.mem_singleton.mp ht]
    obtain ⟨d, e, g, _⟩ := nice_strs hk hl
    exact ⟨d, e, g⟩) (by simp)
theorem runs_len : ∀ c : Ch, (runsR c).length ≤ c.length ∧ ∀ r ∈ runsR c, r.2.length ≤ c.length
  | [] => ⟨Nat.le_refl _, fun r h => nomatch h⟩
  | p :: c => by
    obtain ⟨h1, h2⟩ := runs_len c
    rw [runsR_glue]
    generalize runsR c = R at h1 h2
    cases R with
    | nil => exact ⟨by simp [glue], fun r hr => by rw [List.mem_singleton.mp hr]; simp⟩
    | cons x R =>
      obtain ⟨w, K⟩ := x
      simp only [glue]
      have hx : K.length ≤ c.length := h2 (w, K) List.mem_cons_self
      by_cases e : w = p.2
      · rw [if_pos e]
        refine ⟨by simp only [List.length_cons] at h1 ⊢; omega, fun r hr => ?_⟩
        rcases List.mem_cons.mp hr with rfl | hr
        · show ([p.1] ++ K).length ≤ _
          simp only [List.length_append, List.length_cons, List.length_nil]
          omega
        · have := h2 r (List.mem_cons_of_mem _ hr)
          simp only [List.length_cons]
          omega
      · rw [if_neg e]
        refine ⟨by simp only [List.length_cons] at h1 ⊢; omega, fun r hr => ?_⟩
        rcases List.mem_cons.mp hr with rfl | hr
        · simp
        · have := h2 r hr
          simp only [List.length_cons]
          omega
theorem runs_vals : ∀ (c : Ch), ∀ r ∈ runsR c, ∃ p ∈ c, p.2 = r.1
  | [], r, h => nomatch h
  | p :: c, r, h => by
    have ih := runs_vals c
    rw [runsR_glue] at h
    generalize runsR c = R at h ih
    cases R with
    | nil => rw [List.mem_singleton.mp h]; exact ⟨p, List.mem_cons_self, rfl⟩
    | cons x R =>
      obtain ⟨w, K⟩ := x
      simp only [glue] at h
      by_cases e : w = p.2
      · rw [if_pos e] at h
        rcases List.mem_cons.mp h with rfl | h
        · exact ⟨p, List.mem_cons_self, rfl⟩
        · obtain ⟨q, hq, e⟩ := ih r (List.mem_cons_of_mem _ h)
          exact ⟨q, List.mem_cons_of_mem _ hq, e⟩
      · rw [if_neg e] at h
        rcases List.mem_cons.mp h with rfl | h
        · exact ⟨p, List.mem_cons_self, rfl⟩
        · obtain ⟨q, hq, e⟩ := ih r h
          exact ⟨q, List.mem_cons_of_mem _ hq, e⟩
theorem nice_form {c : Ch} (C : G7 c) : NiceT 3 (3 + 6 * ((3 + 2 * ((3 + 6 * 102) + 2)) + 2)) (formT c) := by
  have l5 : c.length ≤ 5 := C.ci.len
  obtain ⟨n1, n2⟩ := runs_len c
  refine NiceT.tup (fun t ht => ?_) (by unfold formS; rw [List.length_map, List.length_map]; omega)
  unfold formS at ht
  rw [List.map_map] at ht
  obtain ⟨r, hr, rfl⟩ := List.mem_map.mp ht
  obtain ⟨p, hp, e⟩ := runs_vals c r hr
  have hks : ∀ k ∈ sortS r.2, Rp k := fun k hk => by
    obtain ⟨q, hq, e⟩ := List.mem_map.mp ((runs_kinds c k).mp ⟨r, hr, (sortS_perm _).mem_iff.mp hk⟩)
    rw [← e]
    exact rp7 _ (List.mem_append_left _ (C.ks q hq))
  obtain ⟨d, h1, h2, _⟩ := nice_run (r := (r.1, sortS r.2)) (by rw [← e]; exact rp7 _ (List.mem_append_right _ (C.vs p hp))) hks (by
    show (sortS r.2).length ≤ 6
    rw [(sortS_perm _).length_eq]
    have := n2 r hr
    omega)
  exact ⟨d, h1, h2⟩
theorem form_repr {c : Ch} (C : G7 c) : ∃ s, (∀ S, reprAT S [formT c] = some (.str s)) ∧ ∀ S, TL.neT S (.str s) (.str s) = some (.bl false) := by
  obtain ⟨s, e1, e2⟩ := (nice_form C).repr (by decide) (by decide) []
  exact ⟨s, fun S => e1, fun S => e2⟩
end SF
set_option Elab.async false
set_option linter.all false
set_option maxRecDepth 100000
set_option maxHeartbeats 1000000
namespace SF
open PySem PySem.Spec L2 TL
open PyProof.Rows hiding St
def aprt (c d : Ch) (ls : List (List Str)) : List Nat := (ls.filter fun s => !decide (worthS s c = worthS s d)).map List.length
theorem k7_sorted : K7.Pairwise fun a b => leS a b = true := by decide +kernel
theorem pw_sub : ∀ {K t : List Str}, K.Nodup → (K.Pairwise fun a b => leS a b = true) → t.Nodup → (t.Pairwise fun a b => leS a b = true) → (∀ x ∈ t, x ∈ K) → t.Sublist K := by
  intro K t nk pk nt pt h
  have e : t = K.filter fun x => decide (x ∈ t) := sorted_eq (pk.sublist List.filter_sublist) (nk.sublist List.filter_sublist) pt nt fun x => by
    rw [List.mem_filter, decide_eq_true_eq]
    exact ⟨fun z => ⟨h x z, z⟩, fun z => z.2⟩
  rw [e]
  exact List.filter_sublist
theorem kU_K7 {c d : Ch} (C : G7 c) (D : G7 d) {k : Str} (h : k ∈ kindsU c d) : k ∈ K7 := by
  rcases kindsU_mem.mp h with q | q
  · obtain ⟨p, hp, rfl⟩ := List.mem_map.mp q; exact C.ks p hp
  · obtain ⟨p, hp, rfl⟩ := List.mem_map.mp q; exact D.ks p hp
theorem cand_sub {c d : Ch} (C : G7 c) (D : G7 d) {t : List Str} (h : (∃ a ∈ kindsU c d, t = [a]) ∨ ∃ a ∈ kindsU c d, ∃ b ∈ kindsU c d, ltS a b = true ∧ t = [a, b]) : t.Sublist K7 := by
  rcases h with ⟨a, ha, rfl⟩ | ⟨a, ha, b, hb, hab, rfl⟩
  · exact List.singleton_sublist.mpr (kU_K7 C D ha)
  · have lt : a.cps.toList < b.cps.toList := of_decide_eq_true hab
    have le : leS a b = true := leS_iff.mpr (List.lt_asymm lt)
    have ne : a ≠ b := fun e => by subst e; exact List.lt_irrefl _ lt
    refine pw_sub nd_K7 k7_sorted (by simp [ne]) (by simp [le]) fun x hx => ?_
    rcases List.mem_cons.mp hx with rfl | hx
    · exact kU_K7 C D ha
    · rw [List.mem_singleton.mp hx]; exact kU_K7 C D hb
theorem aprt_nil {c d : Ch} (C : G7 c) (D : G7 d) {ls : List (List Str)} (Sl : Sets K7 ls) : aprt c d ls = [] ↔ formS c = formS d := by
  unfold aprt
  rw [List.map_eq_nil_iff, List.filter_eq_nil_iff]
  constructor
  · intro h
    refine (least_form C.nd D.nd).mp ?_
    cases et : leastU c d with
    | none => rfl
    | some t =>
      obtain ⟨ne, sh, _⟩ := least_some et
      exact absurd (by simpa using h t ((Sl.mem t).mpr (cand_sub C D sh))) ne
  · intro h t ht
    simp [form_worth h t]
theorem aprt_head {c d : Ch} (C : G7 c) (D : G7 d) {ls : List (List Str)} (Sl : Sets K7 ls) {t : List Str} (et : leastU c d = some t) : ∃ r, aprt c d ls = t.length :: r := by
  obtain ⟨ne, sh, mn⟩ := least_some et
  have ht : t ∈ ls.filter fun s => !decide (worthS s c = worthS s d) := List.mem_filter.mpr ⟨(Sl.mem t).mpr (cand_sub C D sh), by simpa using ne⟩
  have pw := Sl.asc.sublist (List.filter_sublist (p := fun s => !decide (worthS s c = worthS s d)))
  have hf : ∀ s ∈ ls.filter fun s => !decide (worthS s c = worthS s d), worthS s c ≠ worthS s d := fun s hs => by simpa using (List.mem_filter.mp hs).2
  unfold aprt
  generalize (ls.filter fun s => !decide (worthS s c = worthS s d)) = l at ht pw hf
  cases l with
  | nil => cases ht
  | cons s l =>
    refine ⟨l.map List.length, ?_⟩
    have h1 := mn s (hf s List.mem_cons_self)
    have h2 : s.length ≤ t.length := by
      rcases List.mem_cons.mp ht with rfl | ht
      · exact Nat.le_refl _
      · exact (List.pairwise_cons.mp pw).1 t ht
    rw [List.map_cons, Nat.le_antisymm h2 h1]
theorem pl_worth2 {t : List Str} {c : Ch} (h : ∀ p ∈ c, So p.2) : pl 2 (optT (worthS t c)) = true := by
  cases e : worthS t c with
  | none => rfl
  | some v =>
    obtain ⟨p, hp, rfl⟩ := worthS_mem e
    exact h p hp
theorem pair_ok {c d : Ch} (C : G7 c) (D : G7 d) : Pu m__law_pair_right [chT c, chT d] (.bl true) := by
  intro S
  obtain ⟨ls, Sl, hs⟩ := sets_ok (ks := K7) (by decide)
  have hs' : ∀ S, m__law_sets [.lst [.str "h", .str "ha", .str "hb", .str "i", .str "j"]] S = .ok (.lst (ls.map tS)) S := hs
  have lw1 := law_worth_ok C.gh
  have lw2 := law_worth_ok D.gh
  have fo := form_ok7 C.cn
  have lf := law_form_ok C.gh
  have sm := same_ok C.cn D.cn
  have wo := fun {t : List Str} (ht : t ∈ ls) => worth_ok7 C.cn (term7 t (mem_subs ((Sl.mem t).mp ht)))
  have ta := told_ok7 C.cn D.cn
  obtain ⟨rp, hr1, hr2⟩ := form_repr C
  have l32 : ls.length = 32 := Sl.len
  have hso := fun {x : Ch} (h : G7 x) p (hp : p ∈ x) => (h.gh.so p hp).2
  have wne := fun t S => worth_ne (t := t) (hso C) (hso D) S
  have rb : ∀ (b : Bool) S, reprAT S [.bl b] = some (.str (if b then "True" else "False")) := fun b S => rfl
  unfold m__law_pair_right b__law_pair_right
  generalize m__law_sets = f1 at hs' ⊢
  generalize m__law_worth = f2 at lw1 lw2 ⊢
  generalize m_form = f3 at fo ⊢
  generalize m__law_form = f4 at lf ⊢
  generalize m_same = f5 at sm ⊢
  generalize m_worth = f6 at wo ⊢
  generalize m_told_apart = f7 at ta ⊢
  generalize reprAT = rA at hr1 rb ⊢
  simp_arith [hs' S, small16 (show 5 ≤ 200 by omega), List.length_map, l32, small16 (show 32 ≤ 200 by omega)]
  rw [lc_img (P := fun s => !decide (worthS s c = worthS s d)) (r := fun s => T.int (s.length : Nat)) fun s hs => ⟨_, rfl, slots1 _ _, by simp_arith [lw1 s S, lw2 s S, wne s S], fun _ => by simp_arith [len_tup, List.length_map]⟩]
  have ea : ((ls.filter fun s => !decide (worthS s c = worthS s d)).map fun s => T.int (s.length : Nat)) = natsT (aprt c d ls) := by
    unfold natsT aprt
    rw [List.map_map]
    rfl
  rw [ea]
  have an := aprt_nil C D Sl
  have bn : decide (formS c = formS d) = decide (aprt c d ls = []) := by rw [decide_eq_decide]; exact an.symm
  have eqn := fun S => eq_nats_nil (aprt c d ls) S
  have rr : ∀ b S, TL.neT S (.str (if b = true then "True" else "False")) (.str (if b = true then "True" else "False")) = some (.bl false) := fun b S => by cases b <;> kernel_rfl
  have nn : ∀ S, TL.neT S (.lst (ls.map fun s => optT (worthS s c))) (.lst (ls.map fun s => optT (worthS s c))) = some (.bl false) := fun S => by
    have pp : pl 60 (.lst (ls.map fun s => optT (worthS s c))) = true := pl_mono (n := 3) (by decide) (pl_lst fun t ht => by
      obtain ⟨s, _, rfl⟩ := List.mem_map.mp ht
      exact pl_worth2 (hso C))
    exact ne_pl (k := true) pp pp (by simp) S
  simp_arith [fo S, lf S, hr1, hr2, sm S, bn, eqn, rb, rr, List.length_map, l32, small16 (show 32 ≤ 200 by omega)]
  rw [lc_each1 (r := fun s => optT (worthS s c)) fun s hs => ⟨_, rfl, slots1 _ _, rfl, by simp_arith [wo hs S]⟩]
  simp_arith [List.length_map, l32, small16 (show 32 ≤ 200 by omega)]
  rw [lc_each1 (r := fun s => optT (worthS s c)) fun s hs => ⟨_, rfl, slots1 _ _, rfl, by simp_arith [lw1 s S]⟩]
  simp_arith [nn, ta S]
  cases et : leastU c d with
  | none =>
    have e0 : aprt c d ls = [] := an.mpr ((least_form C.nd D.nd).mp et)
    have eq0 : ∀ S, TL.eqT S (.lst (natsT (aprt c d ls))) (.lst []) = some (.bl true) := fun S => by rw [eqn, decide_eq_true e0]
    have i0 : ∀ S, isNT S T.non T.non = some (.bl true) := fun S => rfl
    have o0 : opttS none = T.non := rfl
    simp_arith [o0, i0, eq0]
  | some t =>
    obtain ⟨ne, sh, mn⟩ := least_some et
    obtain ⟨r, ea2⟩ := aprt_head C D Sl et
    have tk := cand_sub C D sh
    have eq0 : ∀ S, TL.eqT S (.lst (natsT (aprt c d ls))) (.lst []) = some (.bl false) := fun S => by rw [eq_nats_nil, ea2]; rfl
    have i1 : ∀ S, isNT S (tS t) T.non = some (.bl false) := fun S => rfl
    have o1 : opttS (some t) = tS t := rfl
    have ts : sortS t = t := sorted_eq (k7_sorted.sublist tk) (nd_K7.sublist tk) (sortS_pw t) ((sortS_perm t).nodup_iff.mpr (nd_K7.sublist tk)) fun x => (sortS_perm t).mem_iff
    have tl2 : t.length = 1 ∨ t.length = 2 := by
      rcases sh with ⟨a, _, rfl⟩ | ⟨a, _, b, _, _, rfl⟩
      · exact .inl rfl
      · exact .inr rfl
    have so : ∀ S, sortT S [tS t] = some (.lst (t.map T.str)) := fun S => by rw [sort_tS _ (by omega), ts]
    have li : ∀ S, listT S [tS t] = some (.lst (t.map T.str)) := fun S => rfl
    have nt : ∀ S, TL.neT S (.lst (t.map T.str)) (.lst (t.map T.str)) = some (.bl false) := fun S => by
      have pp : pl 60 (.lst (t.map T.str)) = true := pl_mono (n := 1) (by decide) (pl_lst fun x hx => by
        obtain ⟨y, hy, rfl⟩ := List.mem_map.mp hx
        exact so7 y (List.mem_append_left _ (tk.subset hy)))
      exact ne_pl (k := true) pp pp (by simp) S
    have le : ∀ S, lenT S [tS t] = some (.int (t.length : Nat)) := fun S => by
      show some (T.int (t.map T.str).length) = _
      rw [List.length_map]
    have isi : ∀ S, isiT S [tS t, .val (.ty "tuple")] = some (.bl true) := fun S => isi_tup _ S
    have ix0 : ∀ S, ixT S (.lst (natsT (aprt c d ls))) (.int 0) = some (.int (t.length : Nat)) := fun S => by rw [ea2]; exact ix_nats (l := t.length :: r) (r := 0) (Nat.succ_pos _) S
    have n0 : ∀ S, TL.neT S (.int (t.length : Nat)) (.int (t.length : Nat)) = some (.bl false) := fun S => by rw [TL.ne_int, decide_eq_true rfl]; rfl
    have inn : ∀ S, inT S (.int (t.length : Nat)) (.tup [.int 1, .int 2]) = some (.bl true) := fun S => by
      rcases tl2 with e | e <;> rw [e] <;> kernel_rfl
    have wt : ∀ S, TL.neT S (optT (worthS t c)) (optT (worthS t d)) = some (.bl true) := fun S => by rw [wne, decide_eq_false ne]; rfl
    simp_arith [o1, i1, eq0, isi, so, li, nt, le, ix0, n0, inn, lw1 t S, lw2 t S, wt, small16 (show 2 ≤ 200 by omega)]
theorem law07_true (ns : List Int) (hns : ns.length ≤ 63) : ∃ S, m_law_k07 [.sls (ns.map T.int)] [] = .ok (.bl true) S := by
  obtain ⟨ls0, cs, hb, hl0, hc⟩ := begin_ok hns
  have lr := long_right_ok
  have ch := chain_dr hc
  have ot := fun {c : Ch} (C : G7 c) => other_dr hc C
  have dr := fun (R : Sto) => draw_dq (R := R) hc (m := 2) (by decide)
  have pr := fun {c d : Ch} (C : G7 c) (D : G7 d) => pair_ok C D
  unfold m_law_k07 b_law_k07
  generalize m__law_begin = f1 at hb ⊢
  generalize m__law_long_right = f2 at lr ⊢
  generalize m__law_chain = f3 at ch ⊢
  generalize m__law_other = f4 at ot ⊢
  generalize m__law_draw = f5 at dr ⊢
  generalize m__law_pair_right = f6 at pr ⊢
  simp_arith [hb, lr, inR_small (show (0 : Int) ≤ 4 by omega) (by omega)]
  generalize hF : forF _ _ _ _ _ = R2
  obtain ⟨τ2, S3, e, ls1, a1, h1, h2, h3, x2, x3, x4, h4⟩ := for_go hF (fun i τ T1 => ∃ ls a, T1 = S2 ls cs a [] ∧ ls.length = cs.length ∧ a ≤ 1000 * i ∧ ∃ x2 x3 x4, τ = [some (.sls (ns.map T.int)), some (.ref 1), x2, x3, x4])
    ⟨ls0, 0, rfl, hl0, Nat.le_refl _, none, none, none, rfl⟩ (by
    intro i y τ T1 hx hI
    obtain ⟨ls, a, rfl, hl, ha, x2, x3, x4, rfl⟩ := hI
    obtain ⟨hi, rfl⟩ := rng_at (r := 4) hx
    refine ⟨_, rfl, ?_⟩
    obtain ⟨_, ls1, a1, d1, ⟨c, C, rfl⟩, l1, b1⟩ := ch [] ls a hl (by omega)
    have d1 : f3 [.ref 1] (S2 ls cs a []) = .ok (chT c) (S2 ls1 cs a1 []) := d1
    obtain ⟨_, ls2, a2, d2, ⟨d, D, rfl⟩, l2, b2⟩ := ot C [] ls1 a1 l1 (by omega)
    have d2 : f4 [.ref 1, chT c] (S2 ls1 cs a1 []) = .ok (chT d) (S2 ls2 cs a2 []) := d2
    obtain ⟨_, ls3, a3, d3, ⟨r, rfl, hr⟩, l3, b3⟩ := dr [] ls2 a2 l2 (by omega)
    have d3 : f5 [.ref 1, .int 2] (S2 ls2 cs a2 []) = .ok (.int r) (S2 ls3 cs a3 []) := d3
    by_cases h0 : (r : Int) = 0
    · obtain ⟨_, ls4, a4, d4, ⟨d', D', rfl⟩, l4, b4⟩ := ot D [] ls3 a3 l3 (by omega)
      have d4 : f4 [.ref 1, chT d] (S2 ls3 cs a3 []) = .ok (chT d') (S2 ls4 cs a4 []) := d4
      simp_arith [d1, d2, d3, h0, d4, pr C D' (S2 ls4 cs a4 []), pr D' C (S2 ls4 cs a4 [])]
      exact goes_nx ⟨ls4, a4, rfl, l4, by omega, _, _, _, rfl⟩
    · simp_arith [d1, d2, d3, h0, pr C D (S2 ls3 cs a3 []), pr D C (S2 ls3 cs a3 [])]
      exact goes_nx ⟨ls3, a3, rfl, l3, by omega, _, _, _, rfl⟩)
  subst e
  exact ⟨_, rfl⟩
end SF
set_option Elab.async false
set_option linter.all false
set_option maxRecDepth 100000
set_option maxHeartbeats 2000000
namespace Dk07
open PySem PySem.Spec L2 TL
open PyProof.Rows hiding St
def top (i : Nat) : Stmt := PySem.Challenge.pw_stylefall_k07_whole_forms_of_chains.main.body.getD i (.Pass ⟨0, 0, 0, 0⟩)
section
variable {P : Program} {w : World} {K : PySem.W.Frag} {mg : Str → Option Value} {base : Heap}
theorem sc__law_begin : FnScope ["script", "cells", "cell"] ["script"] (defScope (top 30)) := ⟨rfl, rfl, rfl, by decide +kernel, rfl, by decide +kernel, by decide +kernel⟩
theorem d__law_begin {f : Addr} {fd : FuncData} (Fd : Fun K "_law_begin" "_law_begin" (top 30) f fd) (h_list : mg "list" = none) : Df P w K mg base 1 f fd ["script"] SF.m__law_begin := by
  refine df_mk (N := ["script", "cells", "cell"]) (ps := ["script"]) Fd sc__law_begin fun cdv A fs s H hr hgd => ?_
  have hu := hr.units
  exact (pfss_cons (pfs_set (i := 1) sc__law_begin.nd (pf_if (pft_cmp (o_ne hu) (pf_var 0) (pf_pure (pfn_lst pfa_nil))) (pf_pure (pfn_bltTy (c_list rfl) h_list rfl (pfa_cons (pf_var 0) pfa_nil))) (pf_pure (pfn_lst (pfa_cons pf_int pfa_nil))))) (pfss_one (pfs_ret (pf_cell (pfn_disp (pfps_cons pf_str (pf_var 1) (pfps_cons pf_str (pf_cell (pfn_lc (own := [("cell", 2)]) rfl sc__law_begin.nd (pfi_any (pf_var 1)) (blkOk_by (N := ["script", "cells", "cell"]) (sc := defScope (top 30)) (by decide +kernel)) (fun _ _ _ _ _ => (pfg_name sc__law_begin.nd)) (fun _ _ _ _ _ => pfts_nil) (fun _ _ _ _ _ => (pf_if (pft_cmp o_ge (pf_var 2) (pf_bin o_pow pf_int pf_int)) (pf_var 2) pf_int)))) (pfps_cons pf_str pf_int (pfps_cons pf_str pf_int pfps_nil)))))))))
theorem sc_is_short : FnScope ["thing"] ["thing"] (defScope (top 7)) := ⟨rfl, rfl, rfl, by decide +kernel, rfl, by decide +kernel, by decide +kernel⟩
theorem d_is_short {f : Addr} {fd : FuncData} (Fd : Fun K "is_short" "is_short" (top 7) f fd) (h_LONGEST : ∃ t, mg "LONGEST" = some (.int 8 t)) (h_isinstance : mg "isinstance" = none) (h_str : mg "str" = none) (h_len : mg "len" = none) : Df P w K mg base 1 f fd ["thing"] SF.m_is_short := by
  obtain ⟨_, h_LONGEST⟩ := h_LONGEST
  refine df_mk (N := ["thing"]) (ps := ["thing"]) Fd sc_is_short fun cdv A fs s H hr hgd => ?_
  have hu := hr.units
  exact (pfss_one (pfs_ret (pf_and (pf_blt c_isi h_isinstance rfl (pfa_cons (pf_var 0) (pfa_cons (pf_ty h_str rfl) pfa_nil))) (pf_one (pf_chain o_le o_le pf_int (pf_blt c_len h_len rfl (pfa_cons (pf_var 0) pfa_nil)) (pf_globI h_LONGEST))))))
theorem sc_is_name : FnScope ["thing", "sign"] ["thing"] (defScope (top 8)) := ⟨rfl, rfl, rfl, by decide +kernel, rfl, by decide +kernel, by decide +kernel⟩
theorem d_is_name {f : Addr} {fd : FuncData} (Fd : Fun K "is_name" "is_name" (top 8) f fd) (h_LETTERS : ∃ t, mg "LETTERS" = some (.str "abcdefghijklmnopqrstuvwxyz" t)) (h_all : mg "all" = none) {f_is_short : Addr} {fd_is_short : FuncData} (G_is_short : Gd K mg "is_short" (top 7) ["thing"] f_is_short fd_is_short) (D_is_short : Df P w K mg base 1 f_is_short fd_is_short ["thing"] SF.m_is_short) : Df P w K mg base 2 f fd ["thing"] SF.m_is_name := by
  obtain ⟨_, h_LETTERS⟩ := h_LETTERS
  refine df_mk (N := ["thing", "sign"]) (ps := ["thing"]) Fd sc_is_name fun cdv A fs s H hr hgd => ?_
  have hu := hr.units
  exact (pfss_one (pfs_ret (pf_and (pf_call D_is_short (hr.mono (by decide)) hgd G_is_short.m G_is_short.kp G_is_short.b (pfa_cons (pf_var 0) pfa_nil)) (pf_one (pf_blt (c_all rfl) h_all rfl (pfa_cons (pf_pure (pfn_lc (own := [("sign", 1)]) rfl sc_is_name.nd (pfi_any (pf_var 0)) (blkOk_by (N := ["thing", "sign"]) (sc := defScope (top 8)) (by decide +kernel)) (fun _ _ _ _ _ => (pfg_name sc_is_name.nd)) (fun _ _ _ _ _ => pfts_nil) (fun _ _ _ _ _ => (pf_cmp (o_in hu) (pf_var 1) (pf_globS h_LETTERS))))) pfa_nil))))))
theorem sc_is_name_pair : FnScope ["thing"] ["thing"] (defScope (top 11)) := ⟨rfl, rfl, rfl, by decide +kernel, rfl, by decide +kernel, by decide +kernel⟩
theorem d_is_name_pair {f : Addr} {fd : FuncData} (Fd : Fun K "is_name_pair" "is_name_pair" (top 11) f fd) (h_isinstance : mg "isinstance" = none) (h_tuple : mg "tuple" = none) (h_len : mg "len" = none) {f_is_name : Addr} {fd_is_name : FuncData} (G_is_name : Gd K mg "is_name" (top 8) ["thing"] f_is_name fd_is_name) (D_is_name : Df P w K mg base 2 f_is_name fd_is_name ["thing"] SF.m_is_name) : Df P w K mg base 3 f fd ["thing"] SF.m_is_name_pair := by
  refine df_mk (N := ["thing"]) (ps := ["thing"]) Fd sc_is_name_pair fun cdv A fs s H hr hgd => ?_
  have hu := hr.units
  exact (pfss_one (pfs_ret (pf_and (pf_blt c_isi h_isinstance rfl (pfa_cons (pf_var 0) (pfa_cons (pf_ty h_tuple rfl) pfa_nil))) (pf_and (pf_cmp (o_eq hu) (pf_blt c_len h_len rfl (pfa_cons (pf_var 0) pfa_nil)) pf_int) (pf_and (pf_call D_is_name (hr.mono (by decide)) hgd G_is_name.m G_is_name.kp G_is_name.b (pfa_cons (pf_ix hu (pf_var 0) pf_int) pfa_nil)) (pf_one (pf_call D_is_name (hr.mono (by decide)) hgd G_is_name.m G_is_name.kp G_is_name.b (pfa_cons (pf_ix hu (pf_var 0) pf_int) pfa_nil))))))))
theorem sc_is_chain : FnScope ["thing", "pair"] ["thing"] (defScope (top 18)) := ⟨rfl, rfl, rfl, by decide +kernel, rfl, by decide +kernel, by decide +kernel⟩
theorem d_is_chain {f : Addr} {fd : FuncData} (Fd : Fun K "is_chain" "is_chain" (top 18) f fd) (h_MOST_PAIRS : ∃ t, mg "MOST_PAIRS" = some (.int 12 t)) (h_isinstance : mg "isinstance" = none) (h_tuple : mg "tuple" = none) (h_len : mg "len" = none) (h_all : mg "all" = none) {f_is_name_pair : Addr} {fd_is_name_pair : FuncData} (G_is_name_pair : Gd K mg "is_name_pair" (top 11) ["thing"] f_is_name_pair fd_is_name_pair) (D_is_name_pair : Df P w K mg base 3 f_is_name_pair fd_is_name_pair ["thing"] SF.m_is_name_pair) : Df P w K mg base 4 f fd ["thing"] SF.m_is_chain := by
  obtain ⟨_, h_MOST_PAIRS⟩ := h_MOST_PAIRS
  refine df_mk (N := ["thing", "pair"]) (ps := ["thing"]) Fd sc_is_chain fun cdv A fs s H hr hgd => ?_
  have hu := hr.units
  exact (pfss_cons (pfs_if (pfw_pt (pfw_or (pft_not (pft_val (pf_blt c_isi h_isinstance rfl (pfa_cons (pf_var 0) (pfa_cons (pf_ty h_tuple rfl) pfa_nil))))) (pfw_or1 (pft_cmp o_gt (pf_blt c_len h_len rfl (pfa_cons (pf_var 0) pfa_nil)) (pf_globI h_MOST_PAIRS))))) (pfss_one (pfs_ret pf_bl)) pfss_nil) (pfss_cons (pfs_if (pft_not (pft_val (pf_blt (c_all rfl) h_all rfl (pfa_cons (pf_pure (pfn_lc (own := [("pair", 1)]) rfl sc_is_chain.nd (pfi_any (pf_var 0)) (blkOk_by (N := ["thing", "pair"]) (sc := defScope (top 18)) (by decide +kernel)) (fun _ _ _ _ _ => (pfg_name sc_is_chain.nd)) (fun _ _ _ _ _ => pfts_nil) (fun _ _ _ _ _ => (pf_call D_is_name_pair (hr.mono (by decide)) hgd G_is_name_pair.m G_is_name_pair.kp G_is_name_pair.b (pfa_cons (pf_var 1) pfa_nil))))) pfa_nil)))) (pfss_one (pfs_ret pf_bl)) pfss_nil) (pfss_one (pfs_ret (pf_cmp (o_eq hu) (pf_lenX h_len rfl (pfx_st (own := [("pair", 1)]) rfl sc_is_chain.nd (pfi_any (pf_var 0)) (blkOk_by (N := ["thing", "pair"]) (sc := defScope (top 18)) (by decide +kernel)) (fun _ _ _ _ _ => (pfg_name sc_is_chain.nd)) (fun _ _ _ _ _ => pfts_nil) (fun _ _ _ _ _ => (pf_ix hu (pf_var 1) pf_int)))) (pf_blt c_len h_len rfl (pfa_cons (pf_var 0) pfa_nil)))))))
theorem sc_need_chain : FnScope ["thing"] ["thing"] (defScope (top 19)) := ⟨rfl, rfl, rfl, by decide +kernel, rfl, by decide +kernel, by decide +kernel⟩
theorem d_need_chain {f : Addr} {fd : FuncData} (Fd : Fun K "need_chain" "need_chain" (top 19) f fd) {f_is_chain : Addr} {fd_is_chain : FuncData} (G_is_chain : Gd K mg "is_chain" (top 18) ["thing"] f_is_chain fd_is_chain) (D_is_chain : Df P w K mg base 4 f_is_chain fd_is_chain ["thing"] SF.m_is_chain) : Df P w K mg base 5 f fd ["thing"] SF.m_need_chain := by
  refine df_mk (N := ["thing"]) (ps := ["thing"]) Fd sc_need_chain fun cdv A fs s H hr hgd => ?_
  have hu := hr.units
  exact (pfss_cons (pfs_if (pft_not (pft_val (pf_call D_is_chain (hr.mono (by decide)) hgd G_is_chain.m G_is_chain.kp G_is_chain.b (pfa_cons (pf_var 0) pfa_nil)))) (pfss_one pfs_never) pfss_nil) (pfss_one (pfs_ret (pf_var 0))))
theorem sc_runs_of : FnScope ["chain", "runs", "kind", "value", "kinds"] ["chain"] (defScope (top 22)) := ⟨rfl, rfl, rfl, by decide +kernel, rfl, by decide +kernel, by decide +kernel⟩
theorem d_runs_of {f : Addr} {fd : FuncData} (Fd : Fun K "runs_of" "runs_of" (top 22) f fd) (h_len : mg "len" = none) (h_tuple : mg "tuple" = none) (h_sorted : mg "sorted" = none) : Df P w K mg base 1 f fd ["chain"] SF.m_runs_of := by
  refine df_gc ?_
  refine df_mk (N := ["chain", "runs", "kind", "value", "kinds"]) (ps := ["chain"]) Fd sc_runs_of fun cdv A fs s H hr hgd => ?_
  have hu := hr.units
  exact (pfss_cons (pfs_set (i := 1) sc_runs_of.nd (pf_cell (pfn_lst pfa_nil))) (pfss_cons (pfs_for PassesOwn.never rfl (pfi_any (pf_var 0)) (pfg_tup rfl (pfgs_cons (pfg_name sc_runs_of.nd) (pfgs_cons (pfg_name sc_runs_of.nd) pfgs_nil))) (pfss_one (pfs_if (pfw_pt (pfw_and (pft_cmp o_gt (pf_blt c_len h_len rfl (pfa_cons (pf_var 1) pfa_nil)) pf_int) (pfw_and1 (pft_cmp (o_eq hu) (pf_ix hu (pf_ix hu (pf_var 1) (pf_un o_neg pf_int)) pf_int) (pf_var 3))))) (pfss_one (pfs_expr (pf_append (pf_ix hu (pf_ix hu (pf_var 1) (pf_un o_neg pf_int)) pf_int) (pfa_cons (pf_var 2) pfa_nil)))) (pfss_one (pfs_expr (pf_append (pf_var 1) (pfa_cons (pf_tup (pfa_cons (pf_var 3) (pfa_cons (pf_cell (pfn_lst (pfa_cons (pf_var 2) pfa_nil))) pfa_nil))) pfa_nil))))))) (pfss_one (pfs_ret (pf_bltTy c_tup h_tuple rfl (pfa_cons (pf_pure (pfn_lcC (own := [("value", 3), ("kinds", 4)]) rfl sc_runs_of.nd (pfi_cell (pf_var 1)) (blkOk_by (N := ["chain", "runs", "kind", "value", "kinds"]) (sc := defScope (top 22)) (by decide +kernel)) (fun _ _ _ _ _ => (pfg_tup rfl (pfgs_cons (pfg_name sc_runs_of.nd) (pfgs_cons (pfg_name sc_runs_of.nd) pfgs_nil)))) (fun _ _ _ _ _ => pfts_nil) (fun _ _ _ _ _ => (pf_tup (pfa_cons (pf_var 3) (pfa_cons (pf_bltTy c_tup h_tuple rfl (pfa_cons (pf_pure (pfn_blt (c_sorted rfl) h_sorted rfl (pfa_cons (pf_var 4) pfa_nil))) pfa_nil)) pfa_nil)))))) pfa_nil))))))
theorem sc_have_one_form : FnScope ["one", "other"] ["one", "other"] (defScope (top 24)) := ⟨rfl, rfl, rfl, by decide +kernel, rfl, by decide +kernel, by decide +kernel⟩
theorem d_have_one_form {f : Addr} {fd : FuncData} (Fd : Fun K "have_one_form" "have_one_form" (top 24) f fd) {f_runs_of : Addr} {fd_runs_of : FuncData} (G_runs_of : Gd K mg "runs_of" (top 22) ["chain"] f_runs_of fd_runs_of) (D_runs_of : Df P w K mg base 1 f_runs_of fd_runs_of ["chain"] SF.m_runs_of) : Df P w K mg base 2 f fd ["one", "other"] SF.m_have_one_form := by
  refine df_mk (N := ["one", "other"]) (ps := ["one", "other"]) Fd sc_have_one_form fun cdv A fs s H hr hgd => ?_
  have hu := hr.units
  exact (pfss_one (pfs_ret (pf_or (pf_cmp (o_eq hu) (pf_var 0) (pf_var 1)) (pf_one (pf_cmp (o_eq hu) (pf_call D_runs_of (hr.mono (by decide)) hgd G_runs_of.m G_runs_of.kp G_runs_of.b (pfa_cons (pf_var 0) pfa_nil)) (pf_call D_runs_of (hr.mono (by decide)) hgd G_runs_of.m G_runs_of.kp G_runs_of.b (pfa_cons (pf_var 1) pfa_nil)))))))
theorem sc_same : FnScope ["one", "other"] ["one", "other"] (defScope (top 25)) := ⟨rfl, rfl, rfl, by decide +kernel, rfl, by decide +kernel, by decide +kernel⟩
theorem d_same {f : Addr} {fd : FuncData} (Fd : Fun K "same" "same" (top 25) f fd) {f_need_chain : Addr} {fd_need_chain : FuncData} (G_need_chain : Gd K mg "need_chain" (top 19) ["thing"] f_need_chain fd_need_chain) (D_need_chain : Df P w K mg base 5 f_need_chain fd_need_chain ["thing"] SF.m_need_chain) {f_have_one_form : Addr} {fd_have_one_form : FuncData} (G_have_one_form : Gd K mg "have_one_form" (top 24) ["one", "other"] f_have_one_form fd_have_one_form) (D_have_one_form : Df P w K mg base 2 f_have_one_form fd_have_one_form ["one", "other"] SF.m_have_one_form) : Df P w K mg base 6 f fd ["one", "other"] SF.m_same := by
  refine df_mk (N := ["one", "other"]) (ps := ["one", "other"]) Fd sc_same fun cdv A fs s H hr hgd => ?_
  have hu := hr.units
  exact (pfss_cons (pfs_expr (pf_call D_need_chain (hr.mono (by decide)) hgd G_need_chain.m G_need_chain.kp G_need_chain.b (pfa_cons (pf_var 0) pfa_nil))) (pfss_cons (pfs_expr (pf_call D_need_chain (hr.mono (by decide)) hgd G_need_chain.m G_need_chain.kp G_need_chain.b (pfa_cons (pf_var 1) pfa_nil))) (pfss_one (pfs_ret (pf_call D_have_one_form (hr.mono (by decide)) hgd G_have_one_form.m G_have_one_form.kp G_have_one_form.b (pfa_cons (pf_var 0) (pfa_cons (pf_var 1) pfa_nil)))))))
theorem sc_worth_among : FnScope ["chain", "kinds", "kind", "value"] ["chain", "kinds"] (defScope (top 20)) := ⟨rfl, rfl, rfl, by decide +kernel, rfl, by decide +kernel, by decide +kernel⟩
theorem d_worth_among {f : Addr} {fd : FuncData} (Fd : Fun K "worth_among" "worth_among" (top 20) f fd) : Df P w K mg base 1 f fd ["chain", "kinds"] SF.m_worth_among := by
  refine df_mk (N := ["chain", "kinds", "kind", "value"]) (ps := ["chain", "kinds"]) Fd sc_worth_among fun cdv A fs s H hr hgd => ?_
  have hu := hr.units
  exact (pfss_cons (pfs_for PassesOwn.never rfl (pfi_any (pf_var 0)) (pfg_tup rfl (pfgs_cons (pfg_name sc_worth_among.nd) (pfgs_cons (pfg_name sc_worth_among.nd) pfgs_nil))) (pfss_one (pfs_if (pft_cmp (o_in hu) (pf_var 2) (pf_var 1)) (pfss_one (pfs_ret (pf_var 3))) pfss_nil))) (pfss_one (pfs_ret pf_non)))
theorem sc_least_apart : FnScope ["one", "other", "kinds", "singles", "twos", "terminal", "kind", "more", "pair"] ["one", "other"] (defScope (top 26)) := ⟨rfl, rfl, rfl, by decide +kernel, rfl, by decide +kernel, by decide +kernel⟩
theorem d_least_apart {f : Addr} {fd : FuncData} (Fd : Fun K "least_apart" "least_apart" (top 26) f fd) (h_sorted : mg "sorted" = none) {f_worth_among : Addr} {fd_worth_among : FuncData} (G_worth_among : Gd K mg "worth_among" (top 20) ["chain", "kinds"] f_worth_among fd_worth_among) (D_worth_among : Df P w K mg base 1 f_worth_among fd_worth_among ["chain", "kinds"] SF.m_worth_among) : Df P w K mg base 2 f fd ["one", "other"] SF.m_least_apart := by
  refine df_mk (N := ["one", "other", "kinds", "singles", "twos", "terminal", "kind", "more", "pair"]) (ps := ["one", "other"]) Fd sc_least_apart fun cdv A fs s H hr hgd => ?_
  have hu := hr.units
  exact (pfss_cons (pfs_set (i := 2) sc_least_apart.nd (pf_pure (pfn_sortX rfl h_sorted rfl (pfx_st (own := [("pair", 8)]) rfl sc_least_apart.nd (pfi_any (pf_bin o_add (pf_var 0) (pf_var 1))) (blkOk_by (N := ["one", "other", "kinds", "singles", "twos", "terminal", "kind", "more", "pair"]) (sc := defScope (top 26)) (by decide +kernel)) (fun _ _ _ _ _ => (pfg_name sc_least_apart.nd)) (fun _ _ _ _ _ => pfts_nil) (fun _ _ _ _ _ => (pf_ix hu (pf_var 8) pf_int)))))) (pfss_cons (pfs_setLc (own := [("kind", 6)]) rfl sc_least_apart.nd rfl rfl (sw_true rfl rfl rfl (by decide +kernel)) (pfi_any (pf_var 2)) (blkOk_by (N := ["one", "other", "kinds", "singles", "twos", "terminal", "kind", "more", "pair"]) (sc := defScope (top 26)) (by decide +kernel)) (fun _ _ _ _ _ => (pfg_name sc_least_apart.nd)) (fun _ _ _ _ _ => pfts_nil) (fun _ _ _ _ _ => (pf_tup (pfa_cons (pf_var 6) pfa_nil)))) (pfss_cons (pfs_setLc2 (own := [("kind", 6), ("more", 7)]) (vs1 := [7]) rfl sc_least_apart.nd rfl rfl (sw_true rfl rfl rfl (by decide +kernel)) (pfi_any (pf_var 2)) (blkOk_by (N := ["one", "other", "kinds", "singles", "twos", "terminal", "kind", "more", "pair"]) (sc := defScope (top 26)) (by decide +kernel)) (by decide) (fun _ _ _ _ _ => (pfg_name sc_least_apart.nd)) (fun _ _ _ _ _ => pfts_nil) (fun _ _ _ _ _ => (pfi2_list (pf_var 2))) (fun _ _ _ _ _ => (pfg_name sc_least_apart.nd)) (fun _ _ _ _ _ => (pfts_one (pft_cmp o_lt (pf_var 6) (pf_var 7)))) (fun _ _ _ _ _ => (pf_tup (pfa_cons (pf_var 6) (pfa_cons (pf_var 7) pfa_nil))))) (pfss_cons (pfs_for PassesOwn.never rfl (pfi_any (pf_bin o_add (pf_var 3) (pf_var 4))) (pfg_name sc_least_apart.nd) (pfss_one (pfs_if (pft_cmp (o_ne hu) (pf_call D_worth_among (hr.mono (by decide)) hgd G_worth_among.m G_worth_among.kp G_worth_among.b (pfa_cons (pf_var 0) (pfa_cons (pf_var 5) pfa_nil))) (pf_call D_worth_among (hr.mono (by decide)) hgd G_worth_among.m G_worth_among.kp G_worth_among.b (pfa_cons (pf_var 1) (pfa_cons (pf_var 5) pfa_nil)))) (pfss_one (pfs_ret (pf_var 5))) pfss_nil))) (pfss_one (pfs_ret pf_non))))))
theorem sc_told_apart : FnScope ["one", "other"] ["one", "other"] (defScope (top 27)) := ⟨rfl, rfl, rfl, by decide +kernel, rfl, by decide +kernel, by decide +kernel⟩
theorem d_told_apart {f : Addr} {fd : FuncData} (Fd : Fun K "told_apart" "told_apart" (top 27) f fd) {f_need_chain : Addr} {fd_need_chain : FuncData} (G_need_chain : Gd K mg "need_chain" (top 19) ["thing"] f_need_chain fd_need_chain) (D_need_chain : Df P w K mg base 5 f_need_chain fd_need_chain ["thing"] SF.m_need_chain) {f_least_apart : Addr} {fd_least_apart : FuncData} (G_least_apart : Gd K mg "least_apart" (top 26) ["one", "other"] f_least_apart fd_least_apart) (D_least_apart : Df P w K mg base 2 f_least_apart fd_least_apart ["one", "other"] SF.m_least_apart) : Df P w K mg base 6 f fd ["one", "other"] SF.m_told_apart := by
  refine df_mk (N := ["one", "other"]) (ps := ["one", "other"]) Fd sc_told_apart fun cdv A fs s H hr hgd => ?_
  have hu := hr.units
  exact (pfss_cons (pfs_expr (pf_call D_need_chain (hr.mono (by decide)) hgd G_need_chain.m G_need_chain.kp G_need_chain.b (pfa_cons (pf_var 0) pfa_nil))) (pfss_cons (pfs_expr (pf_call D_need_chain (hr.mono (by decide)) hgd G_need_chain.m G_need_chain.kp G_need_chain.b (pfa_cons (pf_var 1) pfa_nil))) (pfss_one (pfs_ret (pf_call D_least_apart (hr.mono (by decide)) hgd G_least_apart.m G_least_apart.kp G_least_apart.b (pfa_cons (pf_var 0) (pfa_cons (pf_var 1) pfa_nil)))))))
theorem sc__law_long_right : FnScope ["ahead", "one", "other", "k", "sign"] [] (defScope (top 42)) := ⟨rfl, rfl, rfl, by decide +kernel, rfl, by decide +kernel, by decide +kernel⟩
theorem d__law_long_right {f : Addr} {fd : FuncData} (Fd : Fun K "_law_long_right" "_law_long_right" (top 42) f fd) (h_tuple : mg "tuple" = none) (h_enumerate : mg "enumerate" = none) {f_same : Addr} {fd_same : FuncData} (G_same : Gd K mg "same" (top 25) ["one", "other"] f_same fd_same) (D_same : Df P w K mg base 6 f_same fd_same ["one", "other"] SF.m_same) {f_told_apart : Addr} {fd_told_apart : FuncData} (G_told_apart : Gd K mg "told_apart" (top 27) ["one", "other"] f_told_apart fd_told_apart) (D_told_apart : Df P w K mg base 6 f_told_apart fd_told_apart ["one", "other"] SF.m_told_apart) : Df P w K mg base 7 f fd [] SF.m__law_long_right := by
  refine df_mk (N := ["ahead", "one", "other", "k", "sign"]) (ps := []) Fd sc__law_long_right fun cdv A fs s H hr hgd => ?_
  have hu := hr.units
  exact (pfss_cons (pfs_set (i := 0) sc__law_long_right.nd (pf_bltTy c_tup h_tuple rfl (pfa_cons (pf_pure (pfn_lc (own := [("k", 3), ("sign", 4)]) rfl sc__law_long_right.nd (pfi_enumX (pfa_cons pf_str pfa_nil) h_enumerate) (blkOk_by (N := ["ahead", "one", "other", "k", "sign"]) (sc := defScope (top 42)) (by decide +kernel)) (fun _ _ _ _ _ => (pfg_tup rfl (pfgs_cons (pfg_name sc__law_long_right.nd) (pfgs_cons (pfg_name sc__law_long_right.nd) pfgs_nil)))) (fun _ _ _ _ _ => pfts_nil) (fun _ _ _ _ _ => (pf_tup (pfa_cons (pf_bin o_add pf_str (pf_var 4)) (pfa_cons (pf_ix hu (pf_pure (pfn_lst (pfa_cons pf_str (pfa_cons pf_str pfa_nil)))) (pf_bin o_mod (pf_var 3) pf_int)) pfa_nil)))))) pfa_nil))) (pfss_cons (pfs_par (i := 1) (j := 2) rfl sc__law_long_right.nd (pfa_cons (pf_bin o_add (pf_var 0) (pf_tup (pfa_cons (pf_tup (pfa_cons pf_str (pfa_cons pf_str pfa_nil))) (pfa_cons (pf_tup (pfa_cons pf_str (pfa_cons pf_str pfa_nil))) pfa_nil)))) (pfa_cons (pf_bin o_add (pf_var 0) (pf_tup (pfa_cons (pf_tup (pfa_cons pf_str (pfa_cons pf_str pfa_nil))) (pfa_cons (pf_tup (pfa_cons pf_str (pfa_cons pf_str pfa_nil))) pfa_nil)))) pfa_nil))) (pfss_one (pfs_ret (pf_and (pf_cmp o_isB (pf_call D_same (hr.mono (by decide)) hgd G_same.m G_same.kp G_same.b (pfa_cons (pf_var 1) (pfa_cons (pf_var 2) pfa_nil))) pf_bl) (pf_and (pf_cmp (o_eq hu) (pf_call D_told_apart (hr.mono (by decide)) hgd G_told_apart.m G_told_apart.kp G_told_apart.b (pfa_cons (pf_var 1) (pfa_cons (pf_var 2) pfa_nil))) (pf_tup (pfa_cons pf_str (pfa_cons pf_str pfa_nil)))) (pf_one (pf_cmp o_isB (pf_call D_same (hr.mono (by decide)) hgd G_same.m G_same.kp G_same.b (pfa_cons (pf_var 1) (pfa_cons (pf_var 1) pfa_nil))) pf_bl))))))))
theorem sc__law_mixed : FnScope ["cell", "k"] ["cell", "k"] (defScope (top 29)) := ⟨rfl, rfl, rfl, by decide +kernel, rfl, by decide +kernel, by decide +kernel⟩
theorem d__law_mixed {f : Addr} {fd : FuncData} (Fd : Fun K "_law_mixed" "_law_mixed" (top 29) f fd) (h_int : mg "int" = none) : Df P w K mg base 1 f fd ["cell", "k"] SF.m__law_mixed := by
  refine df_mk (N := ["cell", "k"]) (ps := ["cell", "k"]) Fd sc__law_mixed fun cdv A fs s H hr hgd => ?_
  have hu := hr.units
  exact (pfss_cons (pfs_set (i := 0) sc__law_mixed.nd (pf_bin o_mod (pf_bltTy c_int h_int rfl (pfa_cons (pf_var 0) pfa_nil)) pf_int)) (pfss_one (pfs_ret (pf_bin o_mod (pf_bin o_mul (pf_bin o_mod (pf_bin o_add (pf_bin o_add (pf_bin o_mul (pf_var 0) (pf_bin o_add pf_int (pf_bin o_mul (pf_bin o_mul pf_int (pf_var 1)) (pf_var 1)))) (pf_bin o_mul pf_int (pf_var 1))) pf_int) pf_int) pf_int) pf_int))))
theorem sc__law_draw : FnScope ["state", "many", "at", "place", "left", "number"] ["state", "many"] (defScope (top 31)) := ⟨rfl, rfl, rfl, by decide +kernel, rfl, by decide +kernel, by decide +kernel⟩
theorem d__law_draw {f : Addr} {fd : FuncData} (Fd : Fun K "_law_draw" "_law_draw" (top 31) f fd) (h_int : mg "int" = none) (h_len : mg "len" = none) {f__law_mixed : Addr} {fd__law_mixed : FuncData} (G__law_mixed : Gd K mg "_law_mixed" (top 29) ["cell", "k"] f__law_mixed fd__law_mixed) (D__law_mixed : Df P w K mg base 1 f__law_mixed fd__law_mixed ["cell", "k"] SF.m__law_mixed) : Df P w K mg base 2 f fd ["state", "many"] SF.m__law_draw := by
  refine df_mk (N := ["state", "many", "at", "place", "left", "number"]) (ps := ["state", "many"]) Fd sc__law_draw fun cdv A fs s H hr hgd => ?_
  have hu := hr.units
  exact (pfss_cons (pfs_set (i := 2) sc__law_draw.nd (pf_ix hu (pf_var 0) pf_str)) (pfss_cons (pfs_store hu (pf_bin o_add (pf_var 2) pf_int) (pf_var 0) pf_str) (pfss_cons (pfs_set (i := 3) sc__law_draw.nd (pf_bin o_mod (pf_bltTy c_int h_int rfl (pfa_cons (pf_var 2) pfa_nil)) (pf_blt c_len h_len rfl (pfa_cons (pf_ix hu (pf_var 0) pf_str) pfa_nil)))) (pfss_cons (pfs_set (i := 4) sc__law_draw.nd (pf_ix hu (pf_ix hu (pf_var 0) pf_str) (pf_var 3))) (pfss_cons (pfs_if (pft_cmp o_gt (pf_var 4) pf_int) (pfss_cons (pfs_store hu (pf_bin o_fdiv (pf_var 4) (pf_var 1)) (pf_ix hu (pf_var 0) pf_str) (pf_var 3)) (pfss_one (pfs_ret (pf_bin o_mod (pf_bltTy c_int h_int rfl (pfa_cons (pf_var 4) pfa_nil)) (pf_var 1))))) pfss_nil) (pfss_cons (pfs_set (i := 5) sc__law_draw.nd (pf_call D__law_mixed (hr.mono (by decide)) hgd G__law_mixed.m G__law_mixed.kp G__law_mixed.b (pfa_cons (pf_call D__law_mixed (hr.mono (by decide)) hgd G__law_mixed.m G__law_mixed.kp G__law_mixed.b (pfa_cons (pf_ix hu (pf_ix hu (pf_var 0) pf_str) (pf_var 3)) (pfa_cons (pf_var 2) pfa_nil))) (pfa_cons (pf_bin o_add pf_int (pf_var 2)) pfa_nil)))) (pfss_one (pfs_ret (pf_bin o_mod (pf_bin o_fdiv (pf_bltTy c_int h_int rfl (pfa_cons (pf_bin o_add (pf_bin o_mul (pf_var 5) pf_int) (pf_call D__law_mixed (hr.mono (by decide)) hgd G__law_mixed.m G__law_mixed.kp G__law_mixed.b (pfa_cons (pf_var 5) (pfa_cons (pf_bin o_add pf_int (pf_var 2)) pfa_nil)))) pfa_nil)) pf_int) (pf_var 1))))))))))
theorem sc__law_chain : FnScope ["state", "k", "some", "found"] ["state"] (defScope (top 39)) := ⟨rfl, rfl, rfl, by decide +kernel, rfl, by decide +kernel, by decide +kernel⟩
theorem d__law_chain {f : Addr} {fd : FuncData} (Fd : Fun K "_law_chain" "_law_chain" (top 39) f fd) (h_range : mg "range" = none) (h_len : mg "len" = none) (h_tuple : mg "tuple" = none) {f__law_draw : Addr} {fd__law_draw : FuncData} (G__law_draw : Gd K mg "_law_draw" (top 31) ["state", "many"] f__law_draw fd__law_draw) (D__law_draw : Df P w K mg base 2 f__law_draw fd__law_draw ["state", "many"] SF.m__law_draw) : Df P w K mg base 3 f fd ["state"] SF.m__law_chain := by
  refine df_gc ?_
  refine df_mk (N := ["state", "k", "some", "found"]) (ps := ["state"]) Fd sc__law_chain fun cdv A fs s H hr hgd => ?_
  have hu := hr.units
  exact (pfss_cons (pfs_par (i := 2) (j := 3) rfl sc__law_chain.nd (pfa_cons (pf_cell (pfn_lst (pfa_cons pf_str (pfa_cons pf_str (pfa_cons pf_str (pfa_cons pf_str (pfa_cons pf_str pfa_nil))))))) (pfa_cons (pf_cell (pfn_lst pfa_nil)) pfa_nil))) (pfss_cons (pfs_for PassesOwn.never rfl (pfi_range1 h_range (pfa_cons (pf_call D__law_draw (hr.mono (by decide)) hgd G__law_draw.m G__law_draw.kp G__law_draw.b (pfa_cons (pf_var 0) (pfa_cons pf_int pfa_nil))) pfa_nil)) (pfg_name sc__law_chain.nd) (pfss_one (pfs_expr (pf_append (pf_var 3) (pfa_cons (pf_tup (pfa_cons (pf_pop (pf_var 2) (pfa_cons (pf_call D__law_draw (hr.mono (by decide)) hgd G__law_draw.m G__law_draw.kp G__law_draw.b (pfa_cons (pf_var 0) (pfa_cons (pf_blt c_len h_len rfl (pfa_cons (pf_var 2) pfa_nil)) pfa_nil))) pfa_nil)) (pfa_cons (pf_ix hu (pf_pure (pfn_lst (pfa_cons pf_str (pfa_cons pf_str (pfa_cons pf_str pfa_nil))))) (pf_call D__law_draw (hr.mono (by decide)) hgd G__law_draw.m G__law_draw.kp G__law_draw.b (pfa_cons (pf_var 0) (pfa_cons pf_int pfa_nil)))) pfa_nil))) pfa_nil))))) (pfss_one (pfs_ret (pf_bltTy c_tup h_tuple rfl (pfa_cons (pf_var 3) pfa_nil))))))
theorem sc__law_other : FnScope ["state", "chain", "at", "way", "found"] ["state", "chain"] (defScope (top 40)) := ⟨rfl, rfl, rfl, by decide +kernel, rfl, by decide +kernel, by decide +kernel⟩
theorem d__law_other {f : Addr} {fd : FuncData} (Fd : Fun K "_law_other" "_law_other" (top 40) f fd) (h_list : mg "list" = none) (h_len : mg "len" = none) (h_tuple : mg "tuple" = none) {f__law_draw : Addr} {fd__law_draw : FuncData} (G__law_draw : Gd K mg "_law_draw" (top 31) ["state", "many"] f__law_draw fd__law_draw) (D__law_draw : Df P w K mg base 2 f__law_draw fd__law_draw ["state", "many"] SF.m__law_draw) {f__law_chain : Addr} {fd__law_chain : FuncData} (G__law_chain : Gd K mg "_law_chain" (top 39) ["state"] f__law_chain fd__law_chain) (D__law_chain : Df P w K mg base 3 f__law_chain fd__law_chain ["state"] SF.m__law_chain) : Df P w K mg base 4 f fd ["state", "chain"] SF.m__law_other := by
  refine df_gc ?_
  refine df_mk (N := ["state", "chain", "at", "way", "found"]) (ps := ["state", "chain"]) Fd sc__law_other fun cdv A fs s H hr hgd => ?_
  have hu := hr.units
  exact (pfss_cons (pfs_par (i := 3) (j := 4) rfl sc__law_other.nd (pfa_cons (pf_call D__law_draw (hr.mono (by decide)) hgd G__law_draw.m G__law_draw.kp G__law_draw.b (pfa_cons (pf_var 0) (pfa_cons pf_int pfa_nil))) (pfa_cons (pf_cell (pfn_bltTy (c_list rfl) h_list rfl (pfa_cons (pf_var 1) pfa_nil))) pfa_nil))) (pfss_cons (pfs_if (pfw_pt (pfw_or (pft_cmp (o_eq hu) (pf_var 4) (pf_pure (pfn_lst pfa_nil))) (pfw_or1 (pft_cmp (o_eq hu) (pf_var 3) pf_int)))) (pfss_one (pfs_ret (pf_call D__law_chain (hr.mono (by decide)) hgd G__law_chain.m G__law_chain.kp G__law_chain.b (pfa_cons (pf_var 0) pfa_nil)))) pfss_nil) (pfss_cons (pfs_set (i := 2) sc__law_other.nd (pf_call D__law_draw (hr.mono (by decide)) hgd G__law_draw.m G__law_draw.kp G__law_draw.b (pfa_cons (pf_var 0) (pfa_cons (pf_blt c_len h_len rfl (pfa_cons (pf_var 4) pfa_nil)) pfa_nil)))) (pfss_cons (pfs_if (pft_cmp (o_eq hu) (pf_var 3) pf_int) (pfss_one (pfs_expr (pf_pop (pf_var 4) (pfa_cons (pf_var 2) pfa_nil)))) (pfss_one (pfs_if (pft_cmp (o_eq hu) (pf_var 3) pf_int) (pfss_one (pfs_store hu (pf_tup (pfa_cons (pf_ix hu (pf_ix hu (pf_var 4) (pf_var 2)) pf_int) (pfa_cons (pf_ix hu (pf_pure (pfn_lst (pfa_cons pf_str (pfa_cons pf_str (pfa_cons pf_str pfa_nil))))) (pf_call D__law_draw (hr.mono (by decide)) hgd G__law_draw.m G__law_draw.kp G__law_draw.b (pfa_cons (pf_var 0) (pfa_cons pf_int pfa_nil)))) pfa_nil))) (pf_var 4) (pf_var 2))) (pfss_one (pfs_expr (pf_insert (pf_var 4) (pfa_cons (pf_call D__law_draw (hr.mono (by decide)) hgd G__law_draw.m G__law_draw.kp G__law_draw.b (pfa_cons (pf_var 0) (pfa_cons (pf_blt c_len h_len rfl (pfa_cons (pf_var 4) pfa_nil)) pfa_nil))) (pfa_cons (pf_pop (pf_var 4) (pfa_cons (pf_var 2) pfa_nil)) pfa_nil)))))))) (pfss_one (pfs_ret (pf_bltTy c_tup h_tuple rfl (pfa_cons (pf_var 4) pfa_nil))))))))
theorem sc__law_sets : FnScope ["words", "found", "word", "row"] ["words"] (defScope (top 34)) := ⟨rfl, rfl, rfl, by decide +kernel, rfl, by decide +kernel, by decide +kernel⟩
theorem d__law_sets {f : Addr} {fd : FuncData} (Fd : Fun K "_law_sets" "_law_sets" (top 34) f fd) (h_sorted : mg "sorted" = none) (h_len : mg "len" = none) : Df P w K mg base 1 f fd ["words"] SF.m__law_sets := by
  refine df_mk (N := ["words", "found", "word", "row"]) (ps := ["words"]) Fd sc__law_sets fun cdv A fs s H hr hgd => ?_
  have hu := hr.units
  exact (pfss_cons (pfs_set (i := 1) sc__law_sets.nd (pf_pure (pfn_lst (pfa_cons (pf_tup pfa_nil) pfa_nil)))) (pfss_cons (pfs_for PassesOwn.never rfl (pfi_any (pf_var 0)) (pfg_name sc__law_sets.nd) (pfss_one (pfs_set (i := 1) sc__law_sets.nd (pf_bin o_add (pf_var 1) (pf_pure (pfn_lc (own := [("row", 3)]) rfl sc__law_sets.nd (pfi_any (pf_var 1)) (blkOk_by (N := ["words", "found", "word", "row"]) (sc := defScope (top 34)) (by decide +kernel)) (fun _ _ _ _ _ => (pfg_name sc__law_sets.nd)) (fun _ _ _ _ _ => pfts_nil) (fun _ _ _ _ _ => (pf_bin o_add (pf_var 3) (pf_tup (pfa_cons (pf_var 2) pfa_nil)))))))))) (pfss_one (pfs_ret (pf_pure (pfn_sortLen hu rfl rfl h_sorted h_len (pfa_cons (pf_var 1) pfa_nil)))))))
theorem sc_ascend : FnScope ["names", "at"] ["names"] (defScope (top 9)) := ⟨rfl, rfl, rfl, by decide +kernel, rfl, by decide +kernel, by decide +kernel⟩
theorem d_ascend {f : Addr} {fd : FuncData} (Fd : Fun K "ascend" "ascend" (top 9) f fd) (h_all : mg "all" = none) (h_range : mg "range" = none) (h_len : mg "len" = none) : Df P w K mg base 1 f fd ["names"] SF.m_ascend := by
  refine df_mk (N := ["names", "at"]) (ps := ["names"]) Fd sc_ascend fun cdv A fs s H hr hgd => ?_
  have hu := hr.units
  exact (pfss_one (pfs_ret (pf_blt (c_all rfl) h_all rfl (pfa_cons (pf_pure (pfn_lc (own := [("at", 1)]) rfl sc_ascend.nd (pfi_range2 h_range (pfa_cons pf_int (pfa_cons (pf_blt c_len h_len rfl (pfa_cons (pf_var 0) pfa_nil)) pfa_nil))) (blkOk_by (N := ["names", "at"]) (sc := defScope (top 9)) (by decide +kernel)) (fun _ _ _ _ _ => (pfg_name sc_ascend.nd)) (fun _ _ _ _ _ => pfts_nil) (fun _ _ _ _ _ => (pf_cmp o_lt (pf_ix hu (pf_var 0) (pf_bin o_sub (pf_var 1) pf_int)) (pf_ix hu (pf_var 0) (pf_var 1)))))) pfa_nil))))
theorem sc_are_names : FnScope ["thing", "most", "part"] ["thing", "most"] (defScope (top 10)) := ⟨rfl, rfl, rfl, by decide +kernel, rfl, by decide +kernel, by decide +kernel⟩
theorem d_are_names {f : Addr} {fd : FuncData} (Fd : Fun K "are_names" "are_names" (top 10) f fd) (h_isinstance : mg "isinstance" = none) (h_tuple : mg "tuple" = none) (h_len : mg "len" = none) (h_all : mg "all" = none) {f_is_name : Addr} {fd_is_name : FuncData} (G_is_name : Gd K mg "is_name" (top 8) ["thing"] f_is_name fd_is_name) (D_is_name : Df P w K mg base 2 f_is_name fd_is_name ["thing"] SF.m_is_name) {f_ascend : Addr} {fd_ascend : FuncData} (G_ascend : Gd K mg "ascend" (top 9) ["names"] f_ascend fd_ascend) (D_ascend : Df P w K mg base 1 f_ascend fd_ascend ["names"] SF.m_ascend) : Df P w K mg base 3 f fd ["thing", "most"] SF.m_are_names := by
  refine df_mk (N := ["thing", "most", "part"]) (ps := ["thing", "most"]) Fd sc_are_names fun cdv A fs s H hr hgd => ?_
  have hu := hr.units
  exact (pfss_cons (pfs_if (pfw_pt (pfw_or (pft_not (pft_val (pf_blt c_isi h_isinstance rfl (pfa_cons (pf_var 0) (pfa_cons (pf_ty h_tuple rfl) pfa_nil))))) (pfw_or1 (pft_cmp o_gt (pf_blt c_len h_len rfl (pfa_cons (pf_var 0) pfa_nil)) (pf_var 1))))) (pfss_one (pfs_ret pf_bl)) pfss_nil) (pfss_one (pfs_ret (pf_and (pf_blt (c_all rfl) h_all rfl (pfa_cons (pf_pure (pfn_lc (own := [("part", 2)]) rfl sc_are_names.nd (pfi_any (pf_var 0)) (blkOk_by (N := ["thing", "most", "part"]) (sc := defScope (top 10)) (by decide +kernel)) (fun _ _ _ _ _ => (pfg_name sc_are_names.nd)) (fun _ _ _ _ _ => pfts_nil) (fun _ _ _ _ _ => (pf_call D_is_name (hr.mono (by decide)) hgd G_is_name.m G_is_name.kp G_is_name.b (pfa_cons (pf_var 2) pfa_nil))))) pfa_nil)) (pf_one (pf_call D_ascend (hr.mono (by decide)) hgd G_ascend.m G_ascend.kp G_ascend.b (pfa_cons (pf_var 0) pfa_nil)))))))
theorem sc_is_terminal : FnScope ["thing"] ["thing"] (defScope (top 14)) := ⟨rfl, rfl, rfl, by decide +kernel, rfl, by decide +kernel, by decide +kernel⟩
theorem d_is_terminal {f : Addr} {fd : FuncData} (Fd : Fun K "is_terminal" "is_terminal" (top 14) f fd) (h_MOST_KNOWN : ∃ t, mg "MOST_KNOWN" = some (.int 12 t)) {f_are_names : Addr} {fd_are_names : FuncData} (G_are_names : Gd K mg "are_names" (top 10) ["thing", "most"] f_are_names fd_are_names) (D_are_names : Df P w K mg base 3 f_are_names fd_are_names ["thing", "most"] SF.m_are_names) : Df P w K mg base 4 f fd ["thing"] SF.m_is_terminal := by
  obtain ⟨_, h_MOST_KNOWN⟩ := h_MOST_KNOWN
  refine df_mk (N := ["thing"]) (ps := ["thing"]) Fd sc_is_terminal fun cdv A fs s H hr hgd => ?_
  have hu := hr.units
  exact (pfss_one (pfs_ret (pf_call D_are_names (hr.mono (by decide)) hgd G_are_names.m G_are_names.kp G_are_names.b (pfa_cons (pf_var 0) (pfa_cons (pf_globI h_MOST_KNOWN) pfa_nil)))))
theorem sc_need_terminal : FnScope ["thing"] ["thing"] (defScope (top 15)) := ⟨rfl, rfl, rfl, by decide +kernel, rfl, by decide +kernel, by decide +kernel⟩
theorem d_need_terminal {f : Addr} {fd : FuncData} (Fd : Fun K "need_terminal" "need_terminal" (top 15) f fd) {f_is_terminal : Addr} {fd_is_terminal : FuncData} (G_is_terminal : Gd K mg "is_terminal" (top 14) ["thing"] f_is_terminal fd_is_terminal) (D_is_terminal : Df P w K mg base 4 f_is_terminal fd_is_terminal ["thing"] SF.m_is_terminal) : Df P w K mg base 5 f fd ["thing"] SF.m_need_terminal := by
  refine df_mk (N := ["thing"]) (ps := ["thing"]) Fd sc_need_terminal fun cdv A fs s H hr hgd => ?_
  have hu := hr.units
  exact (pfss_cons (pfs_if (pft_not (pft_val (pf_call D_is_terminal (hr.mono (by decide)) hgd G_is_terminal.m G_is_terminal.kp G_is_terminal.b (pfa_cons (pf_var 0) pfa_nil)))) (pfss_one pfs_never) pfss_nil) (pfss_one (pfs_ret (pf_var 0))))
theorem sc_worth : FnScope ["chain", "terminal"] ["chain", "terminal"] (defScope (top 21)) := ⟨rfl, rfl, rfl, by decide +kernel, rfl, by decide +kernel, by decide +kernel⟩
theorem d_worth {f : Addr} {fd : FuncData} (Fd : Fun K "worth" "worth" (top 21) f fd) {f_need_chain : Addr} {fd_need_chain : FuncData} (G_need_chain : Gd K mg "need_chain" (top 19) ["thing"] f_need_chain fd_need_chain) (D_need_chain : Df P w K mg base 5 f_need_chain fd_need_chain ["thing"] SF.m_need_chain) {f_need_terminal : Addr} {fd_need_terminal : FuncData} (G_need_terminal : Gd K mg "need_terminal" (top 15) ["thing"] f_need_terminal fd_need_terminal) (D_need_terminal : Df P w K mg base 5 f_need_terminal fd_need_terminal ["thing"] SF.m_need_terminal) {f_worth_among : Addr} {fd_worth_among : FuncData} (G_worth_among : Gd K mg "worth_among" (top 20) ["chain", "kinds"] f_worth_among fd_worth_among) (D_worth_among : Df P w K mg base 1 f_worth_among fd_worth_among ["chain", "kinds"] SF.m_worth_among) : Df P w K mg base 6 f fd ["chain", "terminal"] SF.m_worth := by
  refine df_mk (N := ["chain", "terminal"]) (ps := ["chain", "terminal"]) Fd sc_worth fun cdv A fs s H hr hgd => ?_
  have hu := hr.units
  exact (pfss_cons (pfs_expr (pf_call D_need_chain (hr.mono (by decide)) hgd G_need_chain.m G_need_chain.kp G_need_chain.b (pfa_cons (pf_var 0) pfa_nil))) (pfss_cons (pfs_expr (pf_call D_need_terminal (hr.mono (by decide)) hgd G_need_terminal.m G_need_terminal.kp G_need_terminal.b (pfa_cons (pf_var 1) pfa_nil))) (pfss_one (pfs_ret (pf_call D_worth_among (hr.mono (by decide)) hgd G_worth_among.m G_worth_among.kp G_worth_among.b (pfa_cons (pf_var 0) (pfa_cons (pf_var 1) pfa_nil)))))))
theorem sc__law_worth : FnScope ["chain", "terminal", "some", "kind", "value"] ["chain", "terminal"] (defScope (top 37)) := ⟨rfl, rfl, rfl, by decide +kernel, rfl, by decide +kernel, by decide +kernel⟩
theorem d__law_worth {f : Addr} {fd : FuncData} (Fd : Fun K "_law_worth" "_law_worth" (top 37) f fd) : Df P w K mg base 1 f fd ["chain", "terminal"] SF.m__law_worth := by
  refine df_mk (N := ["chain", "terminal", "some", "kind", "value"]) (ps := ["chain", "terminal"]) Fd sc__law_worth fun cdv A fs s H hr hgd => ?_
  have hu := hr.units
  exact (pfss_cons (pfs_setLc (own := [("kind", 3), ("value", 4)]) rfl sc__law_worth.nd rfl rfl (sw_true rfl rfl rfl (by decide +kernel)) (pfi_any (pf_var 0)) (blkOk_by (N := ["chain", "terminal", "some", "kind", "value"]) (sc := defScope (top 37)) (by decide +kernel)) (fun _ _ _ _ _ => (pfg_tup rfl (pfgs_cons (pfg_name sc__law_worth.nd) (pfgs_cons (pfg_name sc__law_worth.nd) pfgs_nil)))) (fun _ _ _ _ _ => (pfts_one (pft_cmp (o_in hu) (pf_var 3) (pf_var 1)))) (fun _ _ _ _ _ => (pf_var 4))) (pfss_one (pfs_ret (pf_if (pft_cmp (o_ne hu) (pf_var 2) (pf_pure (pfn_lst pfa_nil))) (pf_ix hu (pf_var 2) pf_int) pf_non))))
theorem sc_form : FnScope ["chain"] ["chain"] (defScope (top 23)) := ⟨rfl, rfl, rfl, by decide +kernel, rfl, by decide +kernel, by decide +kernel⟩
theorem d_form {f : Addr} {fd : FuncData} (Fd : Fun K "form" "form" (top 23) f fd) {f_need_chain : Addr} {fd_need_chain : FuncData} (G_need_chain : Gd K mg "need_chain" (top 19) ["thing"] f_need_chain fd_need_chain) (D_need_chain : Df P w K mg base 5 f_need_chain fd_need_chain ["thing"] SF.m_need_chain) {f_runs_of : Addr} {fd_runs_of : FuncData} (G_runs_of : Gd K mg "runs_of" (top 22) ["chain"] f_runs_of fd_runs_of) (D_runs_of : Df P w K mg base 1 f_runs_of fd_runs_of ["chain"] SF.m_runs_of) : Df P w K mg base 6 f fd ["chain"] SF.m_form := by
  refine df_mk (N := ["chain"]) (ps := ["chain"]) Fd sc_form fun cdv A fs s H hr hgd => ?_
  have hu := hr.units
  exact (pfss_cons (pfs_expr (pf_call D_need_chain (hr.mono (by decide)) hgd G_need_chain.m G_need_chain.kp G_need_chain.b (pfa_cons (pf_var 0) pfa_nil))) (pfss_one (pfs_ret (pf_call D_runs_of (hr.mono (by decide)) hgd G_runs_of.m G_runs_of.kp G_runs_of.b (pfa_cons (pf_var 0) pfa_nil)))))
theorem sc__law_form : FnScope ["chain", "found", "kind", "value"] ["chain"] (defScope (top 38)) := ⟨rfl, rfl, rfl, by decide +kernel, rfl, by decide +kernel, by decide +kernel⟩
theorem d__law_form {f : Addr} {fd : FuncData} (Fd : Fun K "_law_form" "_law_form" (top 38) f fd) (h_tuple : mg "tuple" = none) (h_sorted : mg "sorted" = none) : Df P w K mg base 1 f fd ["chain"] SF.m__law_form := by
  refine df_gc ?_
  refine df_mk (N := ["chain", "found", "kind", "value"]) (ps := ["chain"]) Fd sc__law_form fun cdv A fs s H hr hgd => ?_
  have hu := hr.units
  exact (pfss_cons (pfs_set (i := 1) sc__law_form.nd (pf_cell (pfn_lst pfa_nil))) (pfss_cons (pfs_for PassesOwn.never rfl (pfi_any (pf_var 0)) (pfg_tup rfl (pfgs_cons (pfg_name sc__law_form.nd) (pfgs_cons (pfg_name sc__law_form.nd) pfgs_nil))) (pfss_one (pfs_if (pfw_pt (pfw_and (pft_cmp (o_ne hu) (pf_var 1) (pf_pure (pfn_lst pfa_nil))) (pfw_and1 (pft_cmp (o_eq hu) (pf_ix hu (pf_ix hu (pf_var 1) (pf_un o_neg pf_int)) pf_int) (pf_var 3))))) (pfss_one (pfs_store hu (pf_tup (pfa_cons (pf_var 3) (pfa_cons (pf_bltTy c_tup h_tuple rfl (pfa_cons (pf_pure (pfn_blt (c_sorted rfl) h_sorted rfl (pfa_cons (pf_bin o_add (pf_ix hu (pf_ix hu (pf_var 1) (pf_un o_neg pf_int)) pf_int) (pf_tup (pfa_cons (pf_var 2) pfa_nil))) pfa_nil))) pfa_nil)) pfa_nil))) (pf_var 1) (pf_un o_neg pf_int))) (pfss_one (pfs_expr (pf_append (pf_var 1) (pfa_cons (pf_tup (pfa_cons (pf_var 3) (pfa_cons (pf_tup (pfa_cons (pf_var 2) pfa_nil)) pfa_nil))) pfa_nil))))))) (pfss_one (pfs_ret (pf_bltTy c_tup h_tuple rfl (pfa_cons (pf_var 1) pfa_nil))))))
theorem sc__law_pair_right : FnScope ["one", "other", "sets", "apart", "found", "some"] ["one", "other"] (defScope (top 41)) := ⟨rfl, rfl, rfl, by decide +kernel, rfl, by decide +kernel, by decide +kernel⟩
theorem d__law_pair_right {f : Addr} {fd : FuncData} (Fd : Fun K "_law_pair_right" "_law_pair_right" (top 41) f fd) (h_len : mg "len" = none) (h_repr : mg "repr" = none) (h_isinstance : mg "isinstance" = none) (h_tuple : mg "tuple" = none) (h_sorted : mg "sorted" = none) (h_list : mg "list" = none) {f__law_sets : Addr} {fd__law_sets : FuncData} (G__law_sets : Gd K mg "_law_sets" (top 34) ["words"] f__law_sets fd__law_sets) (D__law_sets : Df P w K mg base 1 f__law_sets fd__law_sets ["words"] SF.m__law_sets) {f__law_worth : Addr} {fd__law_worth : FuncData} (G__law_worth : Gd K mg "_law_worth" (top 37) ["chain", "terminal"] f__law_worth fd__law_worth) (D__law_worth : Df P w K mg base 1 f__law_worth fd__law_worth ["chain", "terminal"] SF.m__law_worth) {f_form : Addr} {fd_form : FuncData} (G_form : Gd K mg "form" (top 23) ["chain"] f_form fd_form) (D_form : Df P w K mg base 6 f_form fd_form ["chain"] SF.m_form) {f__law_form : Addr} {fd__law_form : FuncData} (G__law_form : Gd K mg "_law_form" (top 38) ["chain"] f__law_form fd__law_form) (D__law_form : Df P w K mg base 1 f__law_form fd__law_form ["chain"] SF.m__law_form) {f_same : Addr} {fd_same : FuncData} (G_same : Gd K mg "same" (top 25) ["one", "other"] f_same fd_same) (D_same : Df P w K mg base 6 f_same fd_same ["one", "other"] SF.m_same) {f_worth : Addr} {fd_worth : FuncData} (G_worth : Gd K mg "worth" (top 21) ["chain", "terminal"] f_worth fd_worth) (D_worth : Df P w K mg base 6 f_worth fd_worth ["chain", "terminal"] SF.m_worth) {f_told_apart : Addr} {fd_told_apart : FuncData} (G_told_apart : Gd K mg "told_apart" (top 27) ["one", "other"] f_told_apart fd_told_apart) (D_told_apart : Df P w K mg base 6 f_told_apart fd_told_apart ["one", "other"] SF.m_told_apart) : Df P w K mg base 7 f fd ["one", "other"] SF.m__law_pair_right := by
  refine df_mk (N := ["one", "other", "sets", "apart", "found", "some"]) (ps := ["one", "other"]) Fd sc__law_pair_right fun cdv A fs s H hr hgd => ?_
  have hu := hr.units
  exact (pfss_cons (pfs_set (i := 2) sc__law_pair_right.nd (pf_call D__law_sets (hr.mono (by decide)) hgd G__law_sets.m G__law_sets.kp G__law_sets.b (pfa_cons (pf_pure (pfn_lst (pfa_cons pf_str (pfa_cons pf_str (pfa_cons pf_str (pfa_cons pf_str (pfa_cons pf_str pfa_nil))))))) pfa_nil))) (pfss_cons (pfs_setLc (own := [("some", 5)]) rfl sc__law_pair_right.nd rfl rfl (sw_true rfl rfl rfl (by decide +kernel)) (pfi_any (pf_var 2)) (blkOk_by (N := ["one", "other", "sets", "apart", "found", "some"]) (sc := defScope (top 41)) (by decide +kernel)) (fun _ _ _ _ _ => (pfg_name sc__law_pair_right.nd)) (fun _ _ _ _ _ => (pfts_one (pft_cmp (o_ne hu) (pf_call D__law_worth (hr.mono (by decide)) hgd G__law_worth.m G__law_worth.kp G__law_worth.b (pfa_cons (pf_var 0) (pfa_cons (pf_var 5) pfa_nil))) (pf_call D__law_worth (hr.mono (by decide)) hgd G__law_worth.m G__law_worth.kp G__law_worth.b (pfa_cons (pf_var 1) (pfa_cons (pf_var 5) pfa_nil)))))) (fun _ _ _ _ _ => (pf_blt c_len h_len rfl (pfa_cons (pf_var 5) pfa_nil)))) (pfss_cons (pfs_if (pfw_pt (pfw_or (pft_cmp (o_ne hu) (pf_blt (c_reprA hgd hu) h_repr rfl (pfa_cons (pf_call D_form (hr.mono (by decide)) hgd G_form.m G_form.kp G_form.b (pfa_cons (pf_var 0) pfa_nil)) pfa_nil)) (pf_blt (c_reprA hgd hu) h_repr rfl (pfa_cons (pf_call D__law_form (hr.mono (by decide)) hgd G__law_form.m G__law_form.kp G__law_form.b (pfa_cons (pf_var 0) pfa_nil)) pfa_nil))) (pfw_or1 (pft_cmp (o_ne hu) (pf_blt (c_reprA hgd hu) h_repr rfl (pfa_cons (pf_call D_same (hr.mono (by decide)) hgd G_same.m G_same.kp G_same.b (pfa_cons (pf_var 0) (pfa_cons (pf_var 1) pfa_nil))) pfa_nil)) (pf_blt (c_reprA hgd hu) h_repr rfl (pfa_cons (pf_cmp (o_eq hu) (pf_var 3) (pf_pure (pfn_lst pfa_nil))) pfa_nil)))))) (pfss_one (pfs_ret pf_bl)) pfss_nil) (pfss_cons (pfs_if (pft_cmp (o_ne hu) (pf_pure (pfn_lc (own := [("some", 5)]) rfl sc__law_pair_right.nd (pfi_any (pf_var 2)) (blkOk_by (N := ["one", "other", "sets", "apart", "found", "some"]) (sc := defScope (top 41)) (by decide +kernel)) (fun _ _ _ _ _ => (pfg_name sc__law_pair_right.nd)) (fun _ _ _ _ _ => pfts_nil) (fun _ _ _ _ _ => (pf_call D_worth (hr.mono (by decide)) hgd G_worth.m G_worth.kp G_worth.b (pfa_cons (pf_var 0) (pfa_cons (pf_var 5) pfa_nil)))))) (pf_pure (pfn_lc (own := [("some", 5)]) rfl sc__law_pair_right.nd (pfi_any (pf_var 2)) (blkOk_by (N := ["one", "other", "sets", "apart", "found", "some"]) (sc := defScope (top 41)) (by decide +kernel)) (fun _ _ _ _ _ => (pfg_name sc__law_pair_right.nd)) (fun _ _ _ _ _ => pfts_nil) (fun _ _ _ _ _ => (pf_call D__law_worth (hr.mono (by decide)) hgd G__law_worth.m G__law_worth.kp G__law_worth.b (pfa_cons (pf_var 0) (pfa_cons (pf_var 5) pfa_nil))))))) (pfss_one (pfs_ret pf_bl)) pfss_nil) (pfss_cons (pfs_set (i := 4) sc__law_pair_right.nd (pf_call D_told_apart (hr.mono (by decide)) hgd G_told_apart.m G_told_apart.kp G_told_apart.b (pfa_cons (pf_var 0) (pfa_cons (pf_var 1) pfa_nil)))) (pfss_cons (pfs_if (pfw_pt (pfw_or (pft_cmp o_is (pf_var 4) pf_non) (pfw_or1 (pft_cmp (o_eq hu) (pf_var 3) (pf_pure (pfn_lst pfa_nil)))))) (pfss_one (pfs_ret (pf_and (pf_cmp o_is (pf_var 4) pf_non) (pf_one (pf_cmp (o_eq hu) (pf_var 3) (pf_pure (pfn_lst pfa_nil))))))) pfss_nil) (pfss_cons (pfs_if (pfw_pt (pfw_or (pft_not (pft_val (pf_blt c_isi h_isinstance rfl (pfa_cons (pf_var 4) (pfa_cons (pf_ty h_tuple rfl) pfa_nil))))) (pfw_or (pft_cmp (o_ne hu) (pf_pure (pfn_blt (c_sorted rfl) h_sorted rfl (pfa_cons (pf_var 4) pfa_nil))) (pf_pure (pfn_bltTy (c_list rfl) h_list rfl (pfa_cons (pf_var 4) pfa_nil)))) (pfw_or1 (pft_cmp (o_ne hu) (pf_blt c_len h_len rfl (pfa_cons (pf_var 4) pfa_nil)) (pf_ix hu (pf_var 3) pf_int)))))) (pfss_one (pfs_ret pf_bl)) pfss_nil) (pfss_one (pfs_ret (pf_and (pf_cmp (o_in hu) (pf_ix hu (pf_var 3) pf_int) (pf_tup (pfa_cons pf_int (pfa_cons pf_int pfa_nil)))) (pf_one (pf_cmp (o_ne hu) (pf_call D__law_worth (hr.mono (by decide)) hgd G__law_worth.m G__law_worth.kp G__law_worth.b (pfa_cons (pf_var 0) (pfa_cons (pf_var 4) pfa_nil))) (pf_call D__law_worth (hr.mono (by decide)) hgd G__law_worth.m G__law_worth.kp G__law_worth.b (pfa_cons (pf_var 1) (pfa_cons (pf_var 4) pfa_nil)))))))))))))))
theorem sc_law : FnScope ["script", "state", "turn", "one", "other"] ["script"] (defScope (top 43)) := ⟨rfl, rfl, rfl, by decide +kernel, rfl, by decide +kernel, by decide +kernel⟩
theorem d_law {f : Addr} {fd : FuncData} (Fd : Fun K "law" "law" (top 43) f fd) (h_range : mg "range" = none) {f__law_begin : Addr} {fd__law_begin : FuncData} (G__law_begin : Gd K mg "_law_begin" (top 30) ["script"] f__law_begin fd__law_begin) (D__law_begin : Df P w K mg base 1 f__law_begin fd__law_begin ["script"] SF.m__law_begin) {f__law_long_right : Addr} {fd__law_long_right : FuncData} (G__law_long_right : Gd K mg "_law_long_right" (top 42) [] f__law_long_right fd__law_long_right) (D__law_long_right : Df P w K mg base 7 f__law_long_right fd__law_long_right [] SF.m__law_long_right) {f__law_chain : Addr} {fd__law_chain : FuncData} (G__law_chain : Gd K mg "_law_chain" (top 39) ["state"] f__law_chain fd__law_chain) (D__law_chain : Df P w K mg base 3 f__law_chain fd__law_chain ["state"] SF.m__law_chain) {f__law_other : Addr} {fd__law_other : FuncData} (G__law_other : Gd K mg "_law_other" (top 40) ["state", "chain"] f__law_other fd__law_other) (D__law_other : Df P w K mg base 4 f__law_other fd__law_other ["state", "chain"] SF.m__law_other) {f__law_draw : Addr} {fd__law_draw : FuncData} (G__law_draw : Gd K mg "_law_draw" (top 31) ["state", "many"] f__law_draw fd__law_draw) (D__law_draw : Df P w K mg base 2 f__law_draw fd__law_draw ["state", "many"] SF.m__law_draw) {f__law_pair_right : Addr} {fd__law_pair_right : FuncData} (G__law_pair_right : Gd K mg "_law_pair_right" (top 41) ["one", "other"] f__law_pair_right fd__law_pair_right) (D__law_pair_right : Df P w K mg base 7 f__law_pair_right fd__law_pair_right ["one", "other"] SF.m__law_pair_right) : Df P w K mg base 8 f fd ["script"] SF.m_law_k07 := by
  refine df_mk (N := ["script", "state", "turn", "one", "other"]) (ps := ["script"]) Fd sc_law fun cdv A fs s H hr hgd => ?_
  have hu := hr.units
  exact (pfss_cons (pfs_set (i := 1) sc_law.nd (pf_call D__law_begin (hr.mono (by decide)) hgd G__law_begin.m G__law_begin.kp G__law_begin.b (pfa_cons (pf_var 0) pfa_nil))) (pfss_cons (pfs_if (pft_not (pft_val (pf_call0 D__law_long_right (hr.mono (by decide)) hgd G__law_long_right.m G__law_long_right.kp G__law_long_right.b))) (pfss_one (pfs_ret pf_bl)) pfss_nil) (pfss_cons (pfs_for PassesOwn.never rfl (pfi_range1 h_range (pfa_cons pf_int pfa_nil)) (pfg_name sc_law.nd) (pfss_cons (pfs_set (i := 3) sc_law.nd (pf_call D__law_chain (hr.mono (by decide)) hgd G__law_chain.m G__law_chain.kp G__law_chain.b (pfa_cons (pf_var 1) pfa_nil))) (pfss_cons (pfs_set (i := 4) sc_law.nd (pf_call D__law_other (hr.mono (by decide)) hgd G__law_other.m G__law_other.kp G__law_other.b (pfa_cons (pf_var 1) (pfa_cons (pf_var 3) pfa_nil)))) (pfss_cons (pfs_if (pft_cmp (o_eq hu) (pf_call D__law_draw (hr.mono (by decide)) hgd G__law_draw.m G__law_draw.kp G__law_draw.b (pfa_cons (pf_var 1) (pfa_cons pf_int pfa_nil))) pf_int) (pfss_one (pfs_set (i := 4) sc_law.nd (pf_call D__law_other (hr.mono (by decide)) hgd G__law_other.m G__law_other.kp G__law_other.b (pfa_cons (pf_var 1) (pfa_cons (pf_var 4) pfa_nil))))) pfss_nil) (pfss_one (pfs_if (pfw_pt (pfw_or (pft_not (pft_val (pf_call D__law_pair_right (hr.mono (by decide)) hgd G__law_pair_right.m G__law_pair_right.kp G__law_pair_right.b (pfa_cons (pf_var 3) (pfa_cons (pf_var 4) pfa_nil))))) (pfw_or1 (pft_not (pft_val (pf_call D__law_pair_right (hr.mono (by decide)) hgd G__law_pair_right.m G__law_pair_right.kp G__law_pair_right.b (pfa_cons (pf_var 4) (pfa_cons (pf_var 3) pfa_nil)))))))) (pfss_one (pfs_ret pf_bl)) pfss_nil)))))) (pfss_one (pfs_ret pf_bl)))))
theorem all_mk {w : World} {K : PySem.W.Frag} {h : Heap} {mg : Str → Option Value} {fa : Addr} (X : K.In h) (G : h.Ns mainGlobals mg) (hfa : mg "law" = some (.ref fa))
  (e__law_begin : FnIn K "_law_begin" (top 30))
  (e_is_short : FnIn K "is_short" (top 7))
  (e_is_name : FnIn K "is_name" (top 8))
  (e_is_name_pair : FnIn K "is_name_pair" (top 11))
  (e_is_chain : FnIn K "is_chain" (top 18))
  (e_need_chain : FnIn K "need_chain" (top 19))
  (e_runs_of : FnIn K "runs_of" (top 22))
  (e_have_one_form : FnIn K "have_one_form" (top 24))
  (e_same : FnIn K "same" (top 25))
  (e_worth_among : FnIn K "worth_among" (top 20))
  (e_least_apart : FnIn K "least_apart" (top 26))
  (e_told_apart : FnIn K "told_apart" (top 27))
  (e__law_long_right : FnIn K "_law_long_right" (top 42))
  (e__law_mixed : FnIn K "_law_mixed" (top 29))
  (e__law_draw : FnIn K "_law_draw" (top 31))
  (e__law_chain : FnIn K "_law_chain" (top 39))
  (e__law_other : FnIn K "_law_other" (top 40))
  (e__law_sets : FnIn K "_law_sets" (top 34))
  (e_ascend : FnIn K "ascend" (top 9))
  (e_are_names : FnIn K "are_names" (top 10))
  (e_is_terminal : FnIn K "is_terminal" (top 14))
  (e_need_terminal : FnIn K "need_terminal" (top 15))
  (e_worth : FnIn K "worth" (top 21))
  (e__law_worth : FnIn K "_law_worth" (top 37))
  (e_form : FnIn K "form" (top 23))
  (e__law_form : FnIn K "_law_form" (top 38))
  (e__law_pair_right : FnIn K "_law_pair_right" (top 41))
  (e_law : FnIn K "law" (top 43))
  (g_LONGEST : ∃ t, PySem.W.nsIn K mainGlobals "LONGEST" = some (some (.int 8 t)))
  (g_LETTERS : ∃ t, PySem.W.nsIn K mainGlobals "LETTERS" = some (some (.str "abcdefghijklmnopqrstuvwxyz" t)))
  (g_MOST_PAIRS : ∃ t, PySem.W.nsIn K mainGlobals "MOST_PAIRS" = some (some (.int 12 t)))
  (g_MOST_KNOWN : ∃ t, PySem.W.nsIn K mainGlobals "MOST_KNOWN" = some (some (.int 12 t)))
  (z_list : PySem.W.nsIn K mainGlobals "list" = some none)
  (z_isinstance : PySem.W.nsIn K mainGlobals "isinstance" = some none)
  (z_str : PySem.W.nsIn K mainGlobals "str" = some none)
  (z_len : PySem.W.nsIn K mainGlobals "len" = some none)
  (z_all : PySem.W.nsIn K mainGlobals "all" = some none)
  (z_tuple : PySem.W.nsIn K mainGlobals "tuple" = some none)
  (z_sorted : PySem.W.nsIn K mainGlobals "sorted" = some none)
  (z_enumerate : PySem.W.nsIn K mainGlobals "enumerate" = some none)
  (z_int : PySem.W.nsIn K mainGlobals "int" = some none)
  (z_range : PySem.W.nsIn K mainGlobals "range" = some none)
  (z_repr : PySem.W.nsIn K mainGlobals "repr" = some none) :
    ∃ fd : FuncData, (∀ (s : Shared) (v : Value), BindsTo s fd ⟨[v], []⟩ [("script", v)]) ∧ ∀ base : Heap, K.In base → base.Ns mainGlobals mg → Df PySem.Challenge.pw_stylefall_k07_whole_forms_of_chains w K mg base 8 fa fd ["script"] SF.m_law_k07 := by
  have h_LONGEST := g_LONGEST.imp fun _ z => PySem.W.mg_of X G z
  have h_LETTERS := g_LETTERS.imp fun _ z => PySem.W.mg_of X G z
  have h_MOST_PAIRS := g_MOST_PAIRS.imp fun _ z => PySem.W.mg_of X G z
  have h_MOST_KNOWN := g_MOST_KNOWN.imp fun _ z => PySem.W.mg_of X G z
  have h_list := PySem.W.mg_none_of X G z_list
  have h_isinstance := PySem.W.mg_none_of X G z_isinstance
  have h_str := PySem.W.mg_none_of X G z_str
  have h_len := PySem.W.mg_none_of X G z_len
  have h_all := PySem.W.mg_none_of X G z_all
  have h_tuple := PySem.W.mg_none_of X G z_tuple
  have h_sorted := PySem.W.mg_none_of X G z_sorted
  have h_enumerate := PySem.W.mg_none_of X G z_enumerate
  have h_int := PySem.W.mg_none_of X G z_int
  have h_range := PySem.W.mg_none_of X G z_range
  have h_repr := PySem.W.mg_none_of X G z_repr
  obtain ⟨f__law_begin, fd__law_begin, G__law_begin⟩ := e__law_begin.gd (ps := ["script"]) X G fun F => F.binds (ps := ["script"]) fun _ _ _ _ _ _ us hl => match us, hl with | [_], _ => rfl
  obtain ⟨f_is_short, fd_is_short, G_is_short⟩ := e_is_short.gd (ps := ["thing"]) X G fun F => F.binds (ps := ["thing"]) fun _ _ _ _ _ _ us hl => match us, hl with | [_], _ => rfl
  obtain ⟨f_is_name, fd_is_name, G_is_name⟩ := e_is_name.gd (ps := ["thing"]) X G fun F => F.binds (ps := ["thing"]) fun _ _ _ _ _ _ us hl => match us, hl with | [_], _ => rfl
  obtain ⟨f_is_name_pair, fd_is_name_pair, G_is_name_pair⟩ := e_is_name_pair.gd (ps := ["thing"]) X G fun F => F.binds (ps := ["thing"]) fun _ _ _ _ _ _ us hl => match us, hl with | [_], _ => rfl
  obtain ⟨f_is_chain, fd_is_chain, G_is_chain⟩ := e_is_chain.gd (ps := ["thing"]) X G fun F => F.binds (ps := ["thing"]) fun _ _ _ _ _ _ us hl => match us, hl with | [_], _ => rfl
  obtain ⟨f_need_chain, fd_need_chain, G_need_chain⟩ := e_need_chain.gd (ps := ["thing"]) X G fun F => F.binds (ps := ["thing"]) fun _ _ _ _ _ _ us hl => match us, hl with | [_], _ => rfl
  obtain ⟨f_runs_of, fd_runs_of, G_runs_of⟩ := e_runs_of.gd (ps := ["chain"]) X G fun F => F.binds (ps := ["chain"]) fun _ _ _ _ _ _ us hl => match us, hl with | [_], _ => rfl
  obtain ⟨f_have_one_form, fd_have_one_form, G_have_one_form⟩ := e_have_one_form.gd (ps := ["one", "other"]) X G fun F => F.binds (ps := ["one", "other"]) fun _ _ _ _ _ _ us hl => match us, hl with | [_, _], _ => rfl
  obtain ⟨f_same, fd_same, G_same⟩ := e_same.gd (ps := ["one", "other"]) X G fun F => F.binds (ps := ["one", "other"]) fun _ _ _ _ _ _ us hl => match us, hl with | [_, _], _ => rfl
  obtain ⟨f_worth_among, fd_worth_among, G_worth_among⟩ := e_worth_among.gd (ps := ["chain", "kinds"]) X G fun F => F.binds (ps := ["chain", "kinds"]) fun _ _ _ _ _ _ us hl => match us, hl with | [_, _], _ => rfl
  obtain ⟨f_least_apart, fd_least_apart, G_least_apart⟩ := e_least_apart.gd (ps := ["one", "other"]) X G fun F => F.binds (ps := ["one", "other"]) fun _ _ _ _ _ _ us hl => match us, hl with | [_, _], _ => rfl
  obtain ⟨f_told_apart, fd_told_apart, G_told_apart⟩ := e_told_apart.gd (ps := ["one", "other"]) X G fun F => F.binds (ps := ["one", "other"]) fun _ _ _ _ _ _ us hl => match us, hl with | [_, _], _ => rfl
  obtain ⟨f__law_long_right, fd__law_long_right, G__law_long_right⟩ := e__law_long_right.gd (ps := []) X G fun F => F.binds (ps := []) fun _ _ _ _ _ _ us hl => match us, hl with | [], _ => rfl
  obtain ⟨f__law_mixed, fd__law_mixed, G__law_mixed⟩ := e__law_mixed.gd (ps := ["cell", "k"]) X G fun F => F.binds (ps := ["cell", "k"]) fun _ _ _ _ _ _ us hl => match us, hl with | [_, _], _ => rfl
  obtain ⟨f__law_draw, fd__law_draw, G__law_draw⟩ := e__law_draw.gd (ps := ["state", "many"]) X G fun F => F.binds (ps := ["state", "many"]) fun _ _ _ _ _ _ us hl => match us, hl with | [_, _], _ => rfl
  obtain ⟨f__law_chain, fd__law_chain, G__law_chain⟩ := e__law_chain.gd (ps := ["state"]) X G fun F => F.binds (ps := ["state"]) fun _ _ _ _ _ _ us hl => match us, hl with | [_], _ => rfl
  obtain ⟨f__law_other, fd__law_other, G__law_other⟩ := e__law_other.gd (ps := ["state", "chain"]) X G fun F => F.binds (ps := ["state", "chain"]) fun _ _ _ _ _ _ us hl => match us, hl with | [_, _], _ => rfl
  obtain ⟨f__law_sets, fd__law_sets, G__law_sets⟩ := e__law_sets.gd (ps := ["words"]) X G fun F => F.binds (ps := ["words"]) fun _ _ _ _ _ _ us hl => match us, hl with | [_], _ => rfl
  obtain ⟨f_ascend, fd_ascend, G_ascend⟩ := e_ascend.gd (ps := ["names"]) X G fun F => F.binds (ps := ["names"]) fun _ _ _ _ _ _ us hl => match us, hl with | [_], _ => rfl
  obtain ⟨f_are_names, fd_are_names, G_are_names⟩ := e_are_names.gd (ps := ["thing", "most"]) X G fun F => F.binds (ps := ["thing", "most"]) fun _ _ _ _ _ _ us hl => match us, hl with | [_, _], _ => rfl
  obtain ⟨f_is_terminal, fd_is_terminal, G_is_terminal⟩ := e_is_terminal.gd (ps := ["thing"]) X G fun F => F.binds (ps := ["thing"]) fun _ _ _ _ _ _ us hl => match us, hl with | [_], _ => rfl
  obtain ⟨f_need_terminal, fd_need_terminal, G_need_terminal⟩ := e_need_terminal.gd (ps := ["thing"]) X G fun F => F.binds (ps := ["thing"]) fun _ _ _ _ _ _ us hl => match us, hl with | [_], _ => rfl
  obtain ⟨f_worth, fd_worth, G_worth⟩ := e_worth.gd (ps := ["chain", "terminal"]) X G fun F => F.binds (ps := ["chain", "terminal"]) fun _ _ _ _ _ _ us hl => match us, hl with | [_, _], _ => rfl
  obtain ⟨f__law_worth, fd__law_worth, G__law_worth⟩ := e__law_worth.gd (ps := ["chain", "terminal"]) X G fun F => F.binds (ps := ["chain", "terminal"]) fun _ _ _ _ _ _ us hl => match us, hl with | [_, _], _ => rfl
  obtain ⟨f_form, fd_form, G_form⟩ := e_form.gd (ps := ["chain"]) X G fun F => F.binds (ps := ["chain"]) fun _ _ _ _ _ _ us hl => match us, hl with | [_], _ => rfl
  obtain ⟨f__law_form, fd__law_form, G__law_form⟩ := e__law_form.gd (ps := ["chain"]) X G fun F => F.binds (ps := ["chain"]) fun _ _ _ _ _ _ us hl => match us, hl with | [_], _ => rfl
  obtain ⟨f__law_pair_right, fd__law_pair_right, G__law_pair_right⟩ := e__law_pair_right.gd (ps := ["one", "other"]) X G fun F => F.binds (ps := ["one", "other"]) fun _ _ _ _ _ _ us hl => match us, hl with | [_, _], _ => rfl
  obtain ⟨fd, F, bd⟩ := e_law.law (y := "script") X G hfa fun _ _ _ _ _ _ _ => rfl
  refine ⟨fd, bd, fun base _ _ => ?_⟩
  have D__law_begin := d__law_begin (P := PySem.Challenge.pw_stylefall_k07_whole_forms_of_chains) (w := w) (base := base) (mg := mg) G__law_begin.F h_list
  have D_is_short := d_is_short (P := PySem.Challenge.pw_stylefall_k07_whole_forms_of_chains) (w := w) (base := base) (mg := mg) G_is_short.F h_LONGEST h_isinstance h_str h_len
  have D_is_name := d_is_name (P := PySem.Challenge.pw_stylefall_k07_whole_forms_of_chains) (w := w) (base := base) (mg := mg) G_is_name.F h_LETTERS h_all G_is_short D_is_short
  have D_is_name_pair := d_is_name_pair (P := PySem.Challenge.pw_stylefall_k07_whole_forms_of_chains) (w := w) (base := base) (mg := mg) G_is_name_pair.F h_isinstance h_tuple h_len G_is_name D_is_name
  have D_is_chain := d_is_chain (P := PySem.Challenge.pw_stylefall_k07_whole_forms_of_chains) (w := w) (base := base) (mg := mg) G_is_chain.F h_MOST_PAIRS h_isinstance h_tuple h_len h_all G_is_name_pair D_is_name_pair
  have D_need_chain := d_need_chain (P := PySem.Challenge.pw_stylefall_k07_whole_forms_of_chains) (w := w) (base := base) (mg := mg) G_need_chain.F G_is_chain D_is_chain
  have D_runs_of := d_runs_of (P := PySem.Challenge.pw_stylefall_k07_whole_forms_of_chains) (w := w) (base := base) (mg := mg) G_runs_of.F h_len h_tuple h_sorted
  have D_have_one_form := d_have_one_form (P := PySem.Challenge.pw_stylefall_k07_whole_forms_of_chains) (w := w) (base := base) (mg := mg) G_have_one_form.F G_runs_of D_runs_of
  have D_same := d_same (P := PySem.Challenge.pw_stylefall_k07_whole_forms_of_chains) (w := w) (base := base) (mg := mg) G_same.F G_need_chain D_need_chain G_have_one_form D_have_one_form
  have D_worth_among := d_worth_among (P := PySem.Challenge.pw_stylefall_k07_whole_forms_of_chains) (w := w) (base := base) (mg := mg) G_worth_among.F
  have D_least_apart := d_least_apart (P := PySem.Challenge.pw_stylefall_k07_whole_forms_of_chains) (w := w) (base := base) (mg := mg) G_least_apart.F h_sorted G_worth_among D_worth_among
  have D_told_apart := d_told_apart (P := PySem.Challenge.pw_stylefall_k07_whole_forms_of_chains) (w := w) (base := base) (mg := mg) G_told_apart.F G_need_chain D_need_chain G_least_apart D_least_apart
  have D__law_long_right := d__law_long_right (P := PySem.Challenge.pw_stylefall_k07_whole_forms_of_chains) (w := w) (base := base) (mg := mg) G__law_long_right.F h_tuple h_enumerate G_same D_same G_told_apart D_told_apart
  have D__law_mixed := d__law_mixed (P := PySem.Challenge.pw_stylefall_k07_whole_forms_of_chains) (w := w) (base := base) (mg := mg) G__law_mixed.F h_int
  have D__law_draw := d__law_draw (P := PySem.Challenge.pw_stylefall_k07_whole_forms_of_chains) (w := w) (base := base) (mg := mg) G__law_draw.F h_int h_len G__law_mixed D__law_mixed
  have D__law_chain := d__law_chain (P := PySem.Challenge.pw_stylefall_k07_whole_forms_of_chains) (w := w) (base := base) (mg := mg) G__law_chain.F h_range h_len h_tuple G__law_draw D__law_draw
  have D__law_other := d__law_other (P := PySem.Challenge.pw_stylefall_k07_whole_forms_of_chains) (w := w) (base := base) (mg := mg) G__law_other.F h_list h_len h_tuple G__law_draw D__law_draw G__law_chain D__law_chain
  have D__law_sets := d__law_sets (P := PySem.Challenge.pw_stylefall_k07_whole_forms_of_chains) (w := w) (base := base) (mg := mg) G__law_sets.F h_sorted h_len
  have D_ascend := d_ascend (P := PySem.Challenge.pw_stylefall_k07_whole_forms_of_chains) (w := w) (base := base) (mg := mg) G_ascend.F h_all h_range h_len
  have D_are_names := d_are_names (P := PySem.Challenge.pw_stylefall_k07_whole_forms_of_chains) (w := w) (base := base) (mg := mg) G_are_names.F h_isinstance h_tuple h_len h_all G_is_name D_is_name G_ascend D_ascend
  have D_is_terminal := d_is_terminal (P := PySem.Challenge.pw_stylefall_k07_whole_forms_of_chains) (w := w) (base := base) (mg := mg) G_is_terminal.F h_MOST_KNOWN G_are_names D_are_names
  have D_need_terminal := d_need_terminal (P := PySem.Challenge.pw_stylefall_k07_whole_forms_of_chains) (w := w) (base := base) (mg := mg) G_need_terminal.F G_is_terminal D_is_terminal
  have D_worth := d_worth (P := PySem.Challenge.pw_stylefall_k07_whole_forms_of_chains) (w := w) (base := base) (mg := mg) G_worth.F G_need_chain D_need_chain G_need_terminal D_need_terminal G_worth_among D_worth_among
  have D__law_worth := d__law_worth (P := PySem.Challenge.pw_stylefall_k07_whole_forms_of_chains) (w := w) (base := base) (mg := mg) G__law_worth.F
  have D_form := d_form (P := PySem.Challenge.pw_stylefall_k07_whole_forms_of_chains) (w := w) (base := base) (mg := mg) G_form.F G_need_chain D_need_chain G_runs_of D_runs_of
  have D__law_form := d__law_form (P := PySem.Challenge.pw_stylefall_k07_whole_forms_of_chains) (w := w) (base := base) (mg := mg) G__law_form.F h_tuple h_sorted
  have D__law_pair_right := d__law_pair_right (P := PySem.Challenge.pw_stylefall_k07_whole_forms_of_chains) (w := w) (base := base) (mg := mg) G__law_pair_right.F h_len h_repr h_isinstance h_tuple h_sorted h_list G__law_sets D__law_sets G__law_worth D__law_worth G_form D_form G__law_form D__law_form G_same D_same G_worth D_worth G_told_apart D_told_apart
  exact d_law F h_range G__law_begin D__law_begin G__law_long_right D__law_long_right G__law_chain D__law_chain G__law_other D__law_other G__law_draw D__law_draw G__law_pair_right D__law_pair_right
end
end Dk07
end
set_option Elab.async false
set_option linter.all false
set_option maxRecDepth 100000
open PySem PySem.W PyProof.Rows
set_option maxHeartbeats 0 in
theorem PySem.Challenge.cw_stylefall_k07_whole_forms_of_chains_holds : PySem.Challenge.rw_stylefall_k07_whole_forms_of_chains.Holds := by
  w_on; o_law; k_head; (case hw => w_witness2)
  k_fill
  refine TL.walk_T (l := PySem.Challenge.rw_stylefall_k07_whole_forms_of_chains) (n := 63) (k := 8) (x := "script") (F := SF.m_law_k07) rfl (by decide) rfl ⟨rfl, by decide, by decide⟩ (fun w h Y => PySem.W.kIn_of Y) ?F SF.law07_true
  case F =>
    intro w mg fa h KX G hmg
    refine' Dk07.all_mk KX G hmg ?e__law_begin ?e_is_short ?e_is_name ?e_is_name_pair ?e_is_chain ?e_need_chain ?e_runs_of ?e_have_one_form ?e_same ?e_worth_among ?e_least_apart ?e_told_apart ?e__law_long_right ?e__law_mixed ?e__law_draw ?e__law_chain ?e__law_other ?e__law_sets ?e_ascend ?e_are_names ?e_is_terminal ?e_need_terminal ?e_worth ?e__law_worth ?e_form ?e__law_form ?e__law_pair_right ?e_law ?g_LONGEST ?g_LETTERS ?g_MOST_PAIRS ?g_MOST_KNOWN ?z_list ?z_isinstance ?z_str ?z_len ?z_all ?z_tuple ?z_sorted ?z_enumerate ?z_int ?z_range ?z_repr
    (case e__law_begin => (refine' TL.fnIn_mk ?a ?l ?c ?k; (case a => k_is); (case l => k_is); (case c => k_is); (case k => k_is)))
    (case e_is_short => (refine' TL.fnIn_mk ?a ?l ?c ?k; (case a => k_is); (case l => k_is); (case c => k_is); (case k => k_is)))
    (case e_is_name => (refine' TL.fnIn_mk ?a ?l ?c ?k; (case a => k_is); (case l => k_is); (case c => k_is); (case k => k_is)))
    (case e_is_name_pair => (refine' TL.fnIn_mk ?a ?l ?c ?k; (case a => k_is); (case l => k_is); (case c => k_is); (case k => k_is)))
    (case e_is_chain => (refine' TL.fnIn_mk ?a ?l ?c ?k; (case a => k_is); (case l => k_is); (case c => k_is); (case k => k_is)))
    (case e_need_chain => (refine' TL.fnIn_mk ?a ?l ?c ?k; (case a => k_is); (case l => k_is); (case c => k_is); (case k => k_is)))
    (case e_runs_of => (refine' TL.fnIn_mk ?a ?l ?c ?k; (case a => k_is); (case l => k_is); (case c => k_is); (case k => k_is)))
    (case e_have_one_form => (refine' TL.fnIn_mk ?a ?l ?c ?k; (case a => k_is); (case l => k_is); (case c => k_is); (case k => k_is)))
    (case e_same => (refine' TL.fnIn_mk ?a ?l ?c ?k; (case a => k_is); (case l => k_is); (case c => k_is); (case k => k_is)))
    (case e_worth_among => (refine' TL.fnIn_mk ?a ?l ?c ?k; (case a => k_is); (case l => k_is); (case c => k_is); (case k => k_is)))
    (case e_least_apart => (refine' TL.fnIn_mk ?a ?l ?c ?k; (case a => k_is); (case l => k_is); (case c => k_is); (case k => k_is)))
    (case e_told_apart => (refine' TL.fnIn_mk ?a ?l ?c ?k; (case a => k_is); (case l => k_is); (case c => k_is); (case k => k_is)))
    (case e__law_long_right => (refine' TL.fnIn_mk ?a ?l ?c ?k; (case a => k_is); (case l => k_is); (case c => k_is); (case k => k_is)))
    (case e__law_mixed => (refine' TL.fnIn_mk ?a ?l ?c ?k; (case a => k_is); (case l => k_is); (case c => k_is); (case k => k_is)))
    (case e__law_draw => (refine' TL.fnIn_mk ?a ?l ?c ?k; (case a => k_is); (case l => k_is); (case c => k_is); (case k => k_is)))
    (case e__law_chain => (refine' TL.fnIn_mk ?a ?l ?c ?k; (case a => k_is); (case l => k_is); (case c => k_is); (case k => k_is)))
    (case e__law_other => (refine' TL.fnIn_mk ?a ?l ?c ?k; (case a => k_is); (case l => k_is); (case c => k_is); (case k => k_is)))
    (case e__law_sets => (refine' TL.fnIn_mk ?a ?l ?c ?k; (case a => k_is); (case l => k_is); (case c => k_is); (case k => k_is)))
    (case e_ascend => (refine' TL.fnIn_mk ?a ?l ?c ?k; (case a => k_is); (case l => k_is); (case c => k_is); (case k => k_is)))
    (case e_are_names => (refine' TL.fnIn_mk ?a ?l ?c ?k; (case a => k_is); (case l => k_is); (case c => k_is); (case k => k_is)))
    (case e_is_terminal => (refine' TL.fnIn_mk ?a ?l ?c ?k; (case a => k_is); (case l => k_is); (case c => k_is); (case k => k_is)))
    (case e_need_terminal => (refine' TL.fnIn_mk ?a ?l ?c ?k; (case a => k_is); (case l => k_is); (case c => k_is); (case k => k_is)))
    (case e_worth => (refine' TL.fnIn_mk ?a ?l ?c ?k; (case a => k_is); (case l => k_is); (case c => k_is); (case k => k_is)))
    (case e__law_worth => (refine' TL.fnIn_mk ?a ?l ?c ?k; (case a => k_is); (case l => k_is); (case c => k_is); (case k => k_is)))
    (case e_form => (refine' TL.fnIn_mk ?a ?l ?c ?k; (case a => k_is); (case l => k_is); (case c => k_is); (case k => k_is)))
    (case e__law_form => (refine' TL.fnIn_mk ?a ?l ?c ?k; (case a => k_is); (case l => k_is); (case c => k_is); (case k => k_is)))
    (case e__law_pair_right => (refine' TL.fnIn_mk ?a ?l ?c ?k; (case a => k_is); (case l => k_is); (case c => k_is); (case k => k_is)))
    (case e_law => (refine' TL.fnIn_mk ?a ?l ?c ?k; (case a => k_is); (case l => k_is); (case c => k_is); (case k => k_is)))
    (case g_LONGEST => (refine' TL.some_mk ?a; (case a => k_is)))
    (case g_LETTERS => (refine' TL.some_mk ?a; (case a => k_is)))
    (case g_MOST_PAIRS => (refine' TL.some_mk ?a; (case a => k_is)))
    (case g_MOST_KNOWN => (refine' TL.some_mk ?a; (case a => k_is)))
    (case z_list => k_is)
    (case z_isinstance => k_is)
    (case z_str => k_is)
    (case z_len => k_is)
    (case z_all => k_is)
    (case z_tuple => k_is)
    (case z_sorted => k_is)
    (case z_enumerate => k_is)
    (case z_int => k_is)
    (case z_range => k_is)
    (case z_repr => k_is)
