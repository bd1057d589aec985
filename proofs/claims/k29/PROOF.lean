import PyProof.Rows.All
import Wide.All
import OpenK.AllK
import Wide.FinOn
import HandS.ForMost
import HandS.Flow
import HandS.Conv
import HandS.TupAny
import HandS.DictComp
import HandS.IsInst
import HandS.ListItems
import KE.GoesEnum
import HandS.Style
import KE.SortKeyHeap
import KE.SortUse
import HandS.Ends
import HandS.Iter
import HandS.Zip
import HandS.SetBool
import HandS.SetTxt0
import PyProof.SetRoads
import HandS.More
import HandS.SortOrd
import HandS.SortRule
import KE.KSortTup
import HandS.Strs
import HandS.Text
import HandS.Deep
import HandS.Defaults
import KE.KRevSl
import KE.LtSeq
import PyProof.ListStr
import KE.KDictPairs
import HandS.SetFor
import HandS.TupMul
import PyProof.SeqIndex
import PySem.Challenge.RW_stylefall_k29_closing_by_hand
set_option Elab.async false
set_option linter.all false
set_option maxRecDepth 100000
namespace TL
open PySem PySem.Spec L2
open PyProof.Rows hiding St
inductive T where
  | non | bl (b : Bool) | int (i : Int) | str (x : Str)
  | tup (ts : List T) | lst (ts : List T) | sls (ts : List T) | dct (ks : List Key) (ts : List T)
  | ref (n : Nat) | val (v : V)
  | ktp (ts : List T) | etp (ts : List T) | kdc (ks : List (List Key)) (ts : List T)
  /-- a dict that may be read, walked or not -/
  | fdc (ks : List Key) (ts : List T)
abbrev Sto := List T
abbrev Fr := List (Option T)
def TupK (K : PySem.W.Frag) (a : Addr) (xs : List V) : Prop :=
  ∃ (o : Obj) (its : Array Value) (n : Nat), K.lookup a = some o ∧ o.cls = .type "tuple" ∧ o.data = .seq its n ∧ its.size ≤ sizeLine ∧ Vals xs its.toList
def LstK (K : PySem.W.Frag) (a : Addr) (xs : List V) : Prop :=
  ∃ (o : Obj) (its : Array Value) (n : Nat), K.lookup a = some o ∧ o.cls = .type "list" ∧ o.dict = none ∧ o.data = .seq its n ∧ its.size ≤ sizeLine ∧ Vals xs its.toList
structure Mu where
  c : List Addr
  r : List Addr
def Mu.out (μ : Mu) (a : Addr) : Prop := a ∉ μ.c ∧ a ∉ μ.r
def Mu.hide (μ : Mu) (a : Addr) : Mu := ⟨μ.c, a :: μ.r⟩
def Mu.unh (μ : Mu) (a : Addr) : Mu := ⟨μ.c, μ.r.filter (· ≠ a)⟩
def Mu.more (μ : Mu) (a : Addr) : Mu := ⟨μ.c ++ [a], μ.r⟩
def Fix (H : Hp) (μ : Mu) (a : Addr) (u : HO) : Prop := Rd H a u ∧ μ.out a
def OT (K : PySem.W.Frag) (H : Hp) (μ : Mu) (a : Addr) (xs : List V) : Prop := Fix H μ a (.tup xs) ∨ TupK K a xs
def OL (K : PySem.W.Frag) (H : Hp) (μ : Mu) (a : Addr) (xs : List V) : Prop := Fix H μ a (.lst xs) ∨ LstK K a xs
def Fx (H : Hp) (μ : Mu) (a : Addr) (u : HO) : Prop := H a = some u ∧ μ.out a
def OK0 (K : PySem.W.Frag) (H : Hp) (μ : Mu) (a : Addr) (xs : List V) : Prop := ∃ o : Obj, H a = some (.frz o (.tup xs)) ∧ μ.out a ∧ o.dict = none
mutual
def Rel (K : PySem.W.Frag) (H : Hp) (μ : Mu) : T → V → Prop
  | .non, v => v = .non
  | .bl b, v => v = .bl b
  | .int i, v => v = .int i
  | .str x, v => v = .str x
  | .tup ts, v => ∃ a xs, v = .ref a ∧ OT K H μ a xs ∧ Rels K H μ ts xs
  | .lst ts, v => ∃ a xs, v = .ref a ∧ Fx H μ a (.lst xs) ∧ Rels K H μ ts xs
  | .sls ts, v => ∃ a xs, v = .ref a ∧ OL K H μ a xs ∧ Rels K H μ ts xs
  | .dct ks ts, v => ∃ a kvs, v = .ref a ∧ Fx H μ a (.dK kvs) ∧ kvs.map (·.1) = ks ∧ Rels K H μ ts (kvs.map (·.2))
  | .ref n, v => ∃ a, μ.c[n]? = some a ∧ v = .ref a
  | .val u, v => v = u
  | .ktp ts, v => ∃ a xs, v = .ref a ∧ OK0 K H μ a xs ∧ Rels K H μ ts xs
  | .etp ts, v => ∃ a xs, v = .ref a ∧ Fx H μ a (.tup xs) ∧ Rels K H μ ts xs
  | .kdc ks ts, v => ∃ a kvs, v = .ref a ∧ Fx H μ a (.dT kvs) ∧ kvs.map (·.1) = ks ∧ Rels K H μ ts (kvs.map (·.2))
  | .fdc ks ts, v => ∃ a kvs, v = .ref a ∧ Fix H μ a (.dK kvs) ∧ kvs.map (·.1) = ks ∧ Rels K H μ ts (kvs.map (·.2))
def Rels (K : PySem.W.Frag) (H : Hp) (μ : Mu) : List T → List V → Prop
  | [], vs => vs = []
  | t :: ts, vs => ∃ v r, vs = v :: r ∧ Rel K H μ t v ∧ Rels K H μ ts r
end
structure Ext (H : Hp) (μ : Mu) (H' : Hp) (μ' : Mu) : Prop where
  pre : ∃ ν, μ'.c = μ.c ++ ν ∧ ∀ p ∈ ν, H p = none
  res : (∀ p ∈ μ.r, p ∈ μ'.r) ∧ ∀ p ∈ μ'.r, p ∈ μ.r ∨ H p = none
  keep : ∀ a o, H a = some o → a ∉ μ.c → H' a = some o
  live : ∀ a, H a ≠ none → H' a ≠ none
theorem Ext.refl (H : Hp) (μ : Mu) : Ext H μ H μ := ⟨⟨[], by simp, fun _ h => nomatch h⟩, ⟨fun _ h => h, fun _ h => .inl h⟩, fun _ _ h _ => h, fun _ h => h⟩
theorem Ext.trans {H H1 H2 : Hp} {μ μ1 μ2 : Mu} (a : Ext H μ H1 μ1) (b : Ext H1 μ1 H2 μ2) : Ext H μ H2 μ2 := by
  obtain ⟨ν, eν, hν⟩ := a.pre
  obtain ⟨ξ, eξ, hξ⟩ := b.pre
  have hξ' : ∀ p ∈ ξ, H p = none := fun p hp => by
    cases q : H p with
    | none => rfl
    | some o => exact absurd (hξ p hp) (a.live p (by rw [q]; simp))
  have back : ∀ p, H1 p = none → H p = none := fun p hp => by
    cases q : H p with
    | none => rfl
    | some o => exact absurd hp (a.live p (by rw [q]; simp))
  refine ⟨⟨ν ++ ξ, by rw [eξ, eν]; simp, fun p hp => (List.mem_append.mp hp).elim (hν p) (hξ' p)⟩, ⟨fun p hp => b.res.1 p (a.res.1 p hp), fun p hp => (b.res.2 p hp).elim (a.res.2 p) fun z => .inr (back p z)⟩, fun c o e n => ?_, fun c h => b.live c (a.live c h)⟩
  refine b.keep c o (a.keep c o e n) fun h => ?_
  rw [eν] at h
  rcases List.mem_append.mp h with h | h
  · exact n h
  · rw [hν c h] at e; cases e
theorem Ext.out {H H' : Hp} {μ μ' : Mu} {a : Addr} {o : HO} (x : Ext H μ H' μ') (r : H a = some o) (n : μ.out a) : μ'.out a := by
  obtain ⟨ν, eν, hν⟩ := x.pre
  refine ⟨fun h => ?_, fun h => (x.res.2 a h).elim n.2 fun z => by rw [z] at r; cases r⟩
  rw [eν] at h
  exact (List.mem_append.mp h).elim n.1 fun h => by rw [hν a h] at r; cases r
theorem Ext.fix {H H' : Hp} {μ μ' : Mu} {a : Addr} {u : HO} (x : Ext H μ H' μ') (f : Fix H μ a u) : Fix H' μ' a u := by
  obtain ⟨r, n⟩ := f
  rcases r with r | ⟨o, r⟩
  · exact ⟨.inl (x.keep _ _ r n.1), x.out r n⟩
  · exact ⟨.inr ⟨o, x.keep _ _ r n.1⟩, x.out r n⟩
theorem Ext.fx {H H' : Hp} {μ μ' : Mu} {a : Addr} {u : HO} (x : Ext H μ H' μ') (f : Fx H μ a u) : Fx H' μ' a u := ⟨x.keep _ _ f.1 f.2.1, x.out f.1 f.2⟩
theorem Ext.ok0 {K : PySem.W.Frag} {H H' : Hp} {μ μ' : Mu} {a : Addr} {xs : List V} (x : Ext H μ H' μ') (f : OK0 K H μ a xs) : OK0 K H' μ' a xs := by
  obtain ⟨o, h, n, d⟩ := f
  exact ⟨o, x.keep _ _ h n.1, x.out h n, d⟩
theorem Ext.of_same {H H' : Hp} {μ : Mu} (s : Same H H') : Ext H μ H' μ := ⟨⟨[], by simp, fun _ h => nomatch h⟩, ⟨fun _ h => h, fun _ h => .inl h⟩, fun a o e _ => s a o e, fun a h z => by
  cases q : H a with
  | none => exact h q
  | some o => rw [s a o q] at z; cases z⟩
mutual
theorem Rel.mono {K : PySem.W.Frag} {H H' : Hp} {μ μ' : Mu} (x : Ext H μ H' μ') : ∀ (t : T) {v : V}, Rel K H μ t v → Rel K H' μ' t v
  | .non, _, h => by simpa only [Rel] using h
  | .bl _, _, h => by simpa only [Rel] using h
  | .int _, _, h => by simpa only [Rel] using h
  | .str _, _, h => by simpa only [Rel] using h
  | .val _, _, h => by simpa only [Rel] using h
  | .ref n, _, h => by
    simp only [Rel] at h ⊢
    obtain ⟨a, e, rfl⟩ := h
    obtain ⟨ν, eν, _⟩ := x.pre
    exact ⟨a, by rw [eν, List.getElem?_append_left (List.getElem?_eq_some_iff.mp e).1]; exact e, rfl⟩
  | .tup ts, _, h => by
    simp only [Rel] at h ⊢
    obtain ⟨a, xs, rfl, o, r⟩ := h
    exact ⟨a, xs, rfl, o.imp x.fix id, Rels.mono x ts r⟩
  | .lst ts, _, h => by
    simp only [Rel] at h ⊢
    obtain ⟨a, xs, rfl, o, r⟩ := h
    exact ⟨a, xs, rfl, x.fx o, Rels.mono x ts r⟩
  | .sls ts, _, h => by
    simp only [Rel] at h ⊢
    obtain ⟨a, xs, rfl, o, r⟩ := h
    exact ⟨a, xs, rfl, o.imp x.fix id, Rels.mono x ts r⟩
  | .dct ks ts, _, h => by
    simp only [Rel] at h ⊢
    obtain ⟨a, kvs, rfl, o, e, r⟩ := h
    exact ⟨a, kvs, rfl, x.fx o, e, Rels.mono x ts r⟩
  | .fdc ks ts, _, h => by
    simp only [Rel] at h ⊢
    obtain ⟨a, kvs, rfl, o, e, r⟩ := h
    exact ⟨a, kvs, rfl, x.fix o, e, Rels.mono x ts r⟩
  | .ktp ts, _, h => by
    simp only [Rel] at h ⊢
    obtain ⟨a, xs, rfl, o, r⟩ := h
    exact ⟨a, xs, rfl, x.ok0 o, Rels.mono x ts r⟩
  | .etp ts, _, h => by
    simp only [Rel] at h ⊢
    obtain ⟨a, xs, rfl, o, r⟩ := h
    exact ⟨a, xs, rfl, x.fx o, Rels.mono x ts r⟩
  | .kdc ks ts, _, h => by
    simp only [Rel] at h ⊢
    obtain ⟨a, kvs, rfl, o, e, r⟩ := h
    exact ⟨a, kvs, rfl, x.fx o, e, Rels.mono x ts r⟩
theorem Rels.mono {K : PySem.W.Frag} {H H' : Hp} {μ μ' : Mu} (x : Ext H μ H' μ') : ∀ (ts : List T) {vs : List V}, Rels K H μ ts vs → Rels K H' μ' ts vs
  | [], _, h => by simpa only [Rels] using h
  | t :: ts, _, h => by
    simp only [Rels] at h ⊢
    obtain ⟨v, r, rfl, h1, h2⟩ := h
    exact ⟨v, r, rfl, Rel.mono x t h1, Rels.mono x ts h2⟩
end
def CellR (K : PySem.W.Frag) (H : Hp) (μ : Mu) (a : Addr) : T → Prop
  | .lst ts => ∃ vs, H a = some (.lst vs) ∧ Rels K H μ ts vs
  | .dct ks ts => ∃ kvs, H a = some (.dK kvs) ∧ kvs.map (·.1) = ks ∧ Rels K H μ ts (kvs.map (·.2))
  | .kdc ks ts => ∃ kvs, H a = some (.dT kvs) ∧ kvs.map (·.1) = ks ∧ Rels K H μ ts (kvs.map (·.2))
  | _ => False
structure RelS (K : PySem.W.Frag) (H : Hp) (μ : Mu) (S : Sto) : Prop where
  len : μ.c.length = S.length
  nd : μ.c.Nodup
  cell : ∀ (n : Nat) (c : T) (a : Addr), S[n]? = some c → μ.c[n]? = some a → CellR K H μ a c
  live : ∀ p ∈ μ.r, H p ≠ none
  dis : ∀ p ∈ μ.r, p ∉ μ.c
theorem RelS.same {K : PySem.W.Frag} {H H' : Hp} {μ : Mu} {S : Sto} (r : RelS K H μ S) (s : Same H H') : RelS K H' μ S := by
  refine ⟨r.len, r.nd, fun n c a e1 e2 => ?_, fun p hp z => ?_, r.dis⟩
  rotate_left
  · cases q : H p with
    | none => exact r.live p hp q
    | some o => rw [s p o q] at z; cases z
  have q := r.cell n c a e1 e2
  cases c <;> first
    | exact q.elim
    | (obtain ⟨vs, h, q⟩ := q; exact ⟨vs, s _ _ h, Rels.mono (Ext.of_same s) _ q⟩)
    | (obtain ⟨vs, h, e, q⟩ := q; exact ⟨vs, s _ _ h, e, Rels.mono (Ext.of_same s) _ q⟩)
def RelF (K : PySem.W.Frag) (H : Hp) (μ : Mu) (τ : Fr) (σ : St) : Prop := τ.length = σ.length ∧ ∀ (i : Nat) (t : T), τ[i]? = some (some t) → ∃ v, σ[i]? = some (some v) ∧ Rel K H μ t v
theorem RelF.mono {K : PySem.W.Frag} {H H' : Hp} {μ μ' : Mu} {τ : Fr} {σ : St} (x : Ext H μ H' μ') (h : RelF K H μ τ σ) : RelF K H' μ' τ σ :=
  ⟨h.1, fun i t e => let ⟨v, a, b⟩ := h.2 i t e; ⟨v, a, Rel.mono x t b⟩⟩
theorem RelF.set {K : PySem.W.Frag} {H : Hp} {μ : Mu} {τ : Fr} {σ : St} {i : Nat} {t : T} {v : V} (h : RelF K H μ τ σ) (r : Rel K H μ t v) : RelF K H μ (τ.set i (some t)) (σ.set i (some v)) := by
  refine ⟨by rw [List.length_set, List.length_set]; exact h.1, fun j u e => ?_⟩
  by_cases hj : i = j
  · subst hj
    by_cases hl : i < τ.length
    · rw [List.getElem?_set_self hl] at e
      have e' : t = u := by simpa using e
      subst e'
      exact ⟨v, by rw [List.getElem?_set_self (h.1 ▸ hl)], r⟩
    · rw [List.getElem?_eq_none (by rw [List.length_set]; omega)] at e
      cases e
  · rw [List.getElem?_set_ne hj] at e ⊢
    exact h.2 j u e
abbrev XT := Str × List (Str × T)
inductive Res (α : Type) where
  | ok (a : α) (S : Sto) | exc (x : XT) (S : Sto) | stuck
def Res.bind {α β : Type} (r : Res α) (k : α → Sto → Res β) : Res β := match r with
  | .ok a S => k a S
  | .exc x S => .exc x S
  | .stuck => .stuck
abbrev WT := XT → Mu → Fr → Sto → St → Hp → Prop
abbrev XW := XT → Mu → Sto → Hp → Prop
abbrev WT.fr (wx : WT) (τ : Fr) (σ : St) : XW := fun x μ S H => wx x μ τ S σ H
abbrev RL (α β : Type) := Hp → Mu → α → β → Prop
def post {α β : Type} (K : PySem.W.Frag) (wx : XW) (rel : RL α β) (μ : Mu) (H : Hp) (r : Res α) (Q : β → Hp → Prop) : Prop := match r with
  | .ok t S' => ∀ μ' v H', Ext H μ H' μ' → RelS K H' μ' S' → rel H' μ' t v → Q v H'
  | .exc x S' => ∀ μ' H', Ext H μ H' μ' → RelS K H' μ' S' → wx x μ' S' H'
  | .stuck => False
theorem post.shift {α β : Type} {K : PySem.W.Frag} {wx : XW} {rel : RL α β} {μ μ1 : Mu} {H H1 : Hp} {r : Res α} {Q : β → Hp → Prop} (x : Ext H μ H1 μ1) (h : post K wx rel μ H r Q) : post K wx rel μ1 H1 r Q := by
  cases r with
  | ok t S' => exact fun μ' v H' y => h μ' v H' (x.trans y)
  | exc e S' => exact fun μ' H' y => h μ' H' (x.trans y)
  | stuck => exact h
def tG {α β : Type} (K : PySem.W.Frag) (wx : WT) (rel : RL α β) (F : Fr → Sto → Res α) : St → Hp → (β → Hp → Prop) → Prop := fun σ H Q =>
  ∃ μ τ S, RelS K H μ S ∧ RelF K H μ τ σ ∧ post K (wx.fr τ σ) rel μ H (F τ S) Q
structure At {α β : Type} (K : PySem.W.Frag) (μ : Mu) (H : Hp) (τ : Fr) (σ : St) (rel : RL α β) (μ1 : Mu) (H1 : Hp) (t : α) (v : β) (S1 : Sto) : Prop where
  ext : Ext H μ H1 μ1
  st : RelS K H1 μ1 S1
  fr : RelF K H1 μ1 τ σ
  rel : rel H1 μ1 t v
theorem tG.seq {α β γ δ : Type} {K : PySem.W.Frag} {wx : WT} {rel : RL α β} {rel2 : RL γ δ} {F : Fr → Sto → Res α} {k : α → Sto → Res γ} {μ : Mu} {H : Hp} {τ : Fr} {σ : St} {S : Sto} {Q : δ → Hp → Prop} {R : β → Hp → Prop}
    (s : RelS K H μ S) (f : RelF K H μ τ σ) (h : post K (wx.fr τ σ) rel2 μ H ((F τ S).bind k) Q)
    (hR : ∀ μ1 H1 t v S1, At K μ H τ σ rel μ1 H1 t v S1 → post K (wx.fr τ σ) rel2 μ1 H1 (k t S1) Q → R v H1) : tG K wx rel F σ H R := by
  refine ⟨μ, τ, S, s, f, ?_⟩
  cases e : F τ S with
  | stuck => rw [e] at h; exact h
  | exc x S1 => rw [e] at h; exact h
  | ok t S1 =>
    rw [e] at h
    exact fun μ1 v H1 x st r => hR μ1 H1 t v S1 ⟨x, st, f.mono x, r⟩ (h.shift x)
theorem post.here {α β : Type} {K : PySem.W.Frag} {wx : XW} {rel : RL α β} {μ : Mu} {H : Hp} {t : α} {v : β} {S : Sto} {Q : β → Hp → Prop} (h : post K wx rel μ H (.ok t S) Q) (st : RelS K H μ S) (r : rel H μ t v) : Q v H := h μ v H (Ext.refl _ _) st r
abbrev rV (K : PySem.W.Frag) : RL T V := fun H μ t v => Rel K H μ t v
abbrev rVs (K : PySem.W.Frag) : RL (List T) (List V) := fun H μ t v => Rels K H μ t v
abbrev rB : RL Bool Bool := fun _ _ b c => b = c
abbrev FE := Fr → Sto → Res T
abbrev FT := Fr → Sto → Res Bool
abbrev FA := Fr → Sto → Res (List T)
def PF (X : Cx) (wx : WT) (e : Expr) (F : FE) : Prop := PE X e (tG X.K wx (rV X.K) F)
def PFT (X : Cx) (wx : WT) (e : Expr) (F : FT) : Prop := PT X e (tG X.K wx rB F)
def PFA (X : Cx) (wx : WT) (es : List Expr) (F : FA) : Prop := PA X es (tG X.K wx (rVs X.K) F)
theorem PE.imp {X : Cx} {e : Expr} {t t' : TE} (h : PE X e t) (i : ∀ σ H Q, t' σ H Q → t σ H Q) : PE X e t' := ⟨fun pins s σ H Q I q => h.run pins s σ H Q I (i σ H Q q)⟩
theorem PT.imp {X : Cx} {e : Expr} {t t' : TT} (h : PT X e t) (i : ∀ σ H Q, t' σ H Q → t σ H Q) : PT X e t' := ⟨fun pins s σ H Q I q => h.run pins s σ H Q I (i σ H Q q)⟩
theorem PA.imp {X : Cx} {e : List Expr} {t t' : TA} (h : PA X e t) (i : ∀ σ H Q, t' σ H Q → t σ H Q) : PA X e t' := ⟨fun pos pins s σ H Q I q => h.run pos pins s σ H Q I (i σ H Q q)⟩
end TL
set_option Elab.async false
set_option linter.all false
set_option maxRecDepth 100000
namespace TL
open PySem PySem.Spec L2
open PyProof.Rows hiding St
def seqL (S : Sto) : T → Option (List T)
  | .lst ts => some ts
  | .sls ts => some ts
  | .ref n => match S[n]? with
    | some (.lst ts) => some ts
    | _ => none
  | _ => none
def plnL (S : Sto) : T → Option (List T)
  | .lst ts => some ts
  | .ref n => match S[n]? with
    | some (.lst ts) => some ts
    | _ => none
  | _ => none
def dctT (S : Sto) : T → Option (List Key × List T)
  | .dct ks ts => some (ks, ts)
  | .ref n => match S[n]? with
    | some (.dct ks ts) => some (ks, ts)
    | _ => none
  | _ => none
section
variable {K : PySem.W.Frag} {H H' : Hp} {μ : Mu} {S : Sto} {t : T} {v : V} {ts : List T} {ks : List Key}
theorem cell_at (s : RelS K H μ S) {n : Nat} {c : T} (e : S[n]? = some c) : ∃ a, μ.c[n]? = some a ∧ CellR K H μ a c := by
  have hn := (List.getElem?_eq_some_iff.mp e).1
  have hm : n < μ.c.length := by rw [s.len]; exact hn
  exact ⟨μ.c[n], List.getElem?_eq_getElem hm, s.cell n c _ e (List.getElem?_eq_getElem hm)⟩
theorem plnL_ok (e : plnL S t = some ts) (s : RelS K H μ S) (r : Rel K H μ t v) : ∃ a vs, v = .ref a ∧ H a = some (.lst vs) ∧ Rels K H μ ts vs := by
  unfold plnL at e
  split at e
  · cases e
    simp only [Rel] at r
    obtain ⟨a, xs, rfl, o, r⟩ := r
    exact ⟨a, xs, rfl, o.1, r⟩
  · split at e
    · rename_i n ts' e'
      cases e
      simp only [Rel] at r
      obtain ⟨a, ha, rfl⟩ := r
      obtain ⟨b, hb, q⟩ := cell_at s e'
      rw [ha] at hb
      cases hb
      obtain ⟨vs, h, q⟩ := q
      exact ⟨a, vs, rfl, h, q⟩
    · cases e
  · cases e
theorem seqL_ok (e : seqL S t = some ts) (s : RelS K H μ S) (r : Rel K H μ t v) : ∃ a vs, v = .ref a ∧ SqL K H a vs ∧ Rels K H μ ts vs := by
  cases t with
  | sls us =>
    simp only [seqL] at e
    cases e
    simp only [Rel] at r
    obtain ⟨a, xs, rfl, o, r⟩ := r
    exact ⟨a, xs, rfl, o.imp (fun z => z.1) id, r⟩
  | lst us =>
    obtain ⟨a, vs, e1, e2, e3⟩ := plnL_ok (t := .lst us) (ts := ts) e s r
    exact ⟨a, vs, e1, .inl (.inl e2), e3⟩
  | ref n =>
    obtain ⟨a, vs, e1, e2, e3⟩ := plnL_ok (t := .ref n) (ts := ts) e s r
    exact ⟨a, vs, e1, .inl (.inl e2), e3⟩
  | _ => cases e
theorem tup_ok (r : Rel K H μ (.tup ts) v) : ∃ a vs, v = .ref a ∧ SqT K H a vs ∧ Rels K H μ ts vs := by
  simp only [Rel] at r
  obtain ⟨a, xs, rfl, o, r⟩ := r
  exact ⟨a, xs, rfl, o.imp (fun z => z.1) id, r⟩
theorem ktp_ok (r : Rel K H μ (.ktp ts) v) : ∃ a vs, v = .ref a ∧ SqT K H a vs ∧ Rels K H μ ts vs := by
  simp only [Rel] at r
  obtain ⟨a, xs, rfl, ⟨o, h, _⟩, r⟩ := r
  exact ⟨a, xs, rfl, .inl (.inr ⟨o, h⟩), r⟩
theorem etp_ok (r : Rel K H μ (.etp ts) v) : ∃ a vs, v = .ref a ∧ SqT K H a vs ∧ Rels K H μ ts vs := by
  simp only [Rel] at r
  obtain ⟨a, xs, rfl, h, r⟩ := r
  exact ⟨a, xs, rfl, .inl (.inl h.1), r⟩
def tupL : T → Option (List T)
  | .tup ts => some ts
  | .ktp ts => some ts
  | .etp ts => some ts
  | _ => none
theorem tupL_ok {t : T} (e : tupL t = some ts) (r : Rel K H μ t v) : ∃ a vs, v = .ref a ∧ SqT K H a vs ∧ Rels K H μ ts vs := by
  cases t with
  | tup us => cases e; exact tup_ok r
  | ktp us => cases e; exact ktp_ok r
  | etp us => cases e; exact etp_ok r
  | _ => cases e
theorem dctT_ok (e : dctT S t = some (ks, ts)) (s : RelS K H μ S) (r : Rel K H μ t v) : ∃ a kvs, v = .ref a ∧ H a = some (.dK kvs) ∧ kvs.map (·.1) = ks ∧ Rels K H μ ts (kvs.map (·.2)) := by
  unfold dctT at e
  split at e
  · cases e
    simp only [Rel] at r
    obtain ⟨a, xs, rfl, o, e, r⟩ := r
    exact ⟨a, xs, rfl, o.1, e, r⟩
  · split at e
    · rename_i n ks' ts' e'
      cases e
      simp only [Rel] at r
      obtain ⟨a, ha, rfl⟩ := r
      obtain ⟨b, hb, q⟩ := cell_at s e'
      rw [ha] at hb
      cases hb
      obtain ⟨vs, h, e, q⟩ := q
      exact ⟨a, vs, rfl, h, e, q⟩
    · cases e
  · cases e
theorem Rels.length : ∀ {ts : List T} {vs : List V}, Rels K H μ ts vs → ts.length = vs.length
  | [], _, h => by simp only [Rels] at h; subst h; rfl
  | t :: ts, _, h => by
    simp only [Rels] at h
    obtain ⟨v, r, rfl, _, h⟩ := h
    simp [Rels.length h]
theorem Rels.get : ∀ {ts : List T} {vs : List V} {i : Nat} {t : T}, Rels K H μ ts vs → ts[i]? = some t → ∃ v, vs[i]? = some v ∧ Rel K H μ t v
  | [], _, _, _, _, e => by simp at e
  | t :: ts, _, 0, u, h, e => by
    simp only [Rels] at h
    obtain ⟨v, r, rfl, h1, _⟩ := h
    simp at e
    subst e
    exact ⟨v, rfl, h1⟩
  | t :: ts, _, i + 1, u, h, e => by
    simp only [Rels] at h
    obtain ⟨v, r, rfl, _, h⟩ := h
    obtain ⟨w, e1, e2⟩ := Rels.get (i := i) h (by simpa using e)
    exact ⟨w, by simpa using e1, e2⟩
theorem Rels.getV : ∀ {ts : List T} {vs : List V} {i : Nat} {v : V}, Rels K H μ ts vs → vs[i]? = some v → ∃ t, ts[i]? = some t ∧ Rel K H μ t v
  | [], _, _, _, h, e => by simp only [Rels] at h; subst h; simp at e
  | t :: ts, _, 0, u, h, e => by
    simp only [Rels] at h
    obtain ⟨v, r, rfl, h1, _⟩ := h
    simp at e
    subst e
    exact ⟨t, rfl, h1⟩
  | t :: ts, _, i + 1, u, h, e => by
    simp only [Rels] at h
    obtain ⟨v, r, rfl, _, h⟩ := h
    obtain ⟨w, e1, e2⟩ := Rels.getV (i := i) h (by simpa using e)
    exact ⟨w, by simpa using e1, e2⟩
theorem Rels.append : ∀ {ts us : List T} {vs ws : List V}, Rels K H μ ts vs → Rels K H μ us ws → Rels K H μ (ts ++ us) (vs ++ ws)
  | [], _, _, _, h, g => by simp only [Rels] at h; subst h; exact g
  | t :: ts, _, _, _, h, g => by
    simp only [Rels] at h
    obtain ⟨v, r, rfl, h1, h2⟩ := h
    simp only [List.cons_append, Rels]
    exact ⟨v, _, rfl, h1, Rels.append h2 g⟩
theorem Rels.take : ∀ {ts : List T} {vs : List V} (n : Nat), Rels K H μ ts vs → Rels K H μ (ts.take n) (vs.take n)
  | _, _, 0, _ => by simp only [List.take_zero, Rels]
  | [], _, n + 1, h => by simp only [Rels] at h; subst h; simp only [List.take_nil, Rels]
  | t :: ts, _, n + 1, h => by
    simp only [Rels] at h
    obtain ⟨v, r, rfl, h1, h2⟩ := h
    simp only [List.take_succ_cons, Rels]
    exact ⟨v, _, rfl, h1, Rels.take n h2⟩
theorem Rels.drop : ∀ {ts : List T} {vs : List V} (n : Nat), Rels K H μ ts vs → Rels K H μ (ts.drop n) (vs.drop n)
  | _, _, 0, h => by simpa using h
  | [], _, n + 1, h => by simp only [Rels] at h; subst h; simp only [List.drop_nil, Rels]
  | t :: ts, _, n + 1, h => by
    simp only [Rels] at h
    obtain ⟨v, r, rfl, h1, h2⟩ := h
    simp only [List.drop_succ_cons]
    exact Rels.drop n h2
theorem Rels.set : ∀ {ts : List T} {vs : List V} {t : T} {v : V} (n : Nat), Rels K H μ ts vs → Rel K H μ t v → Rels K H μ (ts.set n t) (vs.set n v)
  | [], _, _, _, n, h, _ => by simp only [Rels] at h; subst h; simp only [List.set_nil, Rels]
  | t :: ts, _, u, w, 0, h, g => by
    simp only [Rels] at h
    obtain ⟨v, r, rfl, h1, h2⟩ := h
    simp only [List.set_cons_zero, Rels]
    exact ⟨w, r, rfl, g, h2⟩
  | t :: ts, _, u, w, n + 1, h, g => by
    simp only [Rels] at h
    obtain ⟨v, r, rfl, h1, h2⟩ := h
    simp only [List.set_cons_succ, Rels]
    exact ⟨v, _, rfl, h1, Rels.set n h2 g⟩
end
def fVar (i : Nat) : FE := fun τ S => match τ[i]? with
  | some (some t) => .ok t S
  | _ => .stuck
def fC (t : T) : FE := fun _ S => .ok t S
section
variable {X : Cx} {wx : WT} {pos : Pos}
theorem pf_var (i : Nat) {x : Str} (hN : X.N[i]? = some x := by rfl) (hv : Vis X.env.scope x := by first | exact Or.inl rfl | exact Or.inr (Or.inl rfl) | exact Or.inr (Or.inr rfl)) (hd : (x == ("__debug__" : Str)) = false := by decide)
    (hcd : (x == ("__classdict__" : Str)) = false := by decide) : PF X wx (.Name x pos) (fVar i) := by
  refine PE.imp (pe_var (i := i) hN hv hd hcd) fun σ H Q h => ?_
  obtain ⟨μ, τ, S, s, f, h⟩ := h
  unfold fVar at h
  split at h
  · rename_i t e
    obtain ⟨v, e1, r⟩ := f.2 i t e
    exact ⟨v, e1, h.here s r⟩
  · exact h.elim
theorem pf_c {e : Expr} {v : V} {t : T} (h : PE X e (tC v)) (r : ∀ H μ, Rel X.K H μ t v) : PF X wx e (fC t) := PE.imp h fun σ H Q ⟨μ, τ, S, s, f, q⟩ => q.here s (r H μ)
theorem pf_int {i j} : PF X wx (.Constant (.int i) j pos) (fC (.int i)) := pf_c pe_int fun _ _ => by simp only [Rel]
theorem pf_bl {i j} : PF X wx (.Constant (.bool i) j pos) (fC (.bl i)) := pf_c pe_bl fun _ _ => by simp only [Rel]
theorem pf_non {j} : PF X wx (.Constant .none j pos) (fC .non) := pf_c pe_non fun _ _ => by simp only [Rel]
theorem pf_str {x j} : PF X wx (.Constant (.str x) j pos) (fC (.str x)) := pf_c pe_str fun _ _ => by simp only [Rel]
theorem pf_globI {x : Str} {i : Int} {t : Tok} (hm : X.mg x = some (.int i t)) (hg : Gl X x := by rfl) (hd : (x == ("__debug__" : Str)) = false := by decide) : PF X wx (.Name x pos) (fC (.int i)) := pf_c (pe_glob hg hm (v := .int i) ⟨t, rfl⟩ hd) fun _ _ => by simp only [Rel]
theorem pf_globS {x y : Str} {t : Tok} (hm : X.mg x = some (.str y t)) (hg : Gl X x := by rfl) (hd : (x == ("__debug__" : Str)) = false := by decide) : PF X wx (.Name x pos) (fC (.str y)) := pf_c (pe_glob hg hm (v := .str y) ⟨t, rfl⟩ hd) fun _ _ => by simp only [Rel]
theorem pf_ty {x : Str} {n : String} (hm : X.mg x = none) (hv : bootBuiltins x = some (.type n)) (hg : Gl X x := by rfl) (hn : x ≠ "__name__" := by decide) (hd : (x == ("__debug__" : Str)) = false := by decide) : PF X wx (.Name x pos) (fC (.val (.ty n))) := pf_c (pe_bltn hg hm hv (v := .ty n) rfl hn hd) fun _ _ => by simp only [Rel]
def ofO {α : Type} (o : Option α) (S : Sto) : Res α := match o with
  | some t => .ok t S
  | none => .stuck
theorem post_ofO {α β : Type} {K : PySem.W.Frag} {wx : XW} {rel : RL α β} {μ : Mu} {H : Hp} {o : Option α} {S : Sto} {Q : β → Hp → Prop} (h : post K wx rel μ H (ofO o S) Q) (s : RelS K H μ S) :
    ∃ t, o = some t ∧ ∀ v H', Same H H' → rel H' μ t v → Q v H' := by
  cases o with
  | none => exact h.elim
  | some t => exact ⟨t, rfl, fun v H' sm r => h μ v H' (Ext.of_same sm) (s.same sm) r⟩
def rP (K : PySem.W.Frag) (g : Sto → T → T → Option T) : R2 := fun x y H Q => ∃ μ S tx ty t, RelS K H μ S ∧ Rel K H μ tx x ∧ Rel K H μ ty y ∧ g S tx ty = some t ∧ ∀ v H', Same H H' → Rel K H' μ t v → Q v H'
def rU1 (K : PySem.W.Frag) (g : Sto → T → Option T) : V → Hp → VK → Prop := fun x H Q => ∃ μ S tx t, RelS K H μ S ∧ Rel K H μ tx x ∧ g S tx = some t ∧ ∀ v H', Same H H' → Rel K H' μ t v → Q v H'
def rN (K : PySem.W.Frag) (g : Sto → List T → Option T) : List V → Hp → VK → Prop := fun xs H Q => ∃ μ S ts t, RelS K H μ S ∧ Rels K H μ ts xs ∧ g S ts = some t ∧ ∀ v H', Same H H' → Rel K H' μ t v → Q v H'
def fBin (g : Sto → T → T → Option T) (Fa Fb : FE) : FE := fun τ S => (Fa τ S).bind fun x S1 => (Fb τ S1).bind fun y S2 => ofO (g S2 x y) S2
def fUn (g : Sto → T → Option T) (Fa : FE) : FE := fun τ S => (Fa τ S).bind fun x S1 => ofO (g S1 x) S1
def fTest (F : FE) : FT := fun τ S => (F τ S).bind fun x S1 => match x with
  | .bl b => .ok b S1
  | _ => .stuck
variable {a b c : Expr} {Fa Fb Fc : FE} {g : Sto → T → T → Option T}
theorem bin_imp {σ : St} {H : Hp} {Q : VK} (h : tG X.K wx (rV X.K) (fBin g Fa Fb) σ H Q) : tOp (rP X.K g) (tG X.K wx (rV X.K) Fa) (tG X.K wx (rV X.K) Fb) σ H Q := by
  obtain ⟨μ, τ, S, s, f, h⟩ := h
  refine tG.seq s f h fun μ1 H1 x v S1 A1 h1 => tG.seq A1.st A1.fr h1 fun μ2 H2 y u S2 A2 h2 => ?_
  obtain ⟨t, e, q⟩ := post_ofO h2 A2.st
  exact ⟨μ2, S2, x, y, t, A2.st, Rel.mono A2.ext x A1.rel, A2.rel, e, q⟩
theorem test_imp {F : FE} {σ : St} {H : Hp} {Q : Bool → Hp → Prop} (h : tG X.K wx rB (fTest F) σ H Q) : tTest (tG X.K wx (rV X.K) F) σ H Q := by
  obtain ⟨μ, τ, S, s, f, h⟩ := h
  refine tG.seq s f h fun μ1 H1 x v S1 A1 h1 => ?_
  cases x with
  | bl k =>
    have r := A1.rel
    simp only [Rel] at r
    exact ⟨k, r, h1.here A1.st rfl⟩
  | _ => exact h1.elim
theorem pf_bin {op : Operator} (ho : OpR X (binaryOp op) (rP X.K g)) (ha : PF X wx a Fa) (hb : PF X wx b Fb) : PF X wx (.BinOp a op b pos) (fBin g Fa Fb) := PE.imp (pe_op ho ha hb) fun _ _ _ h => bin_imp h
theorem pf_cmp {op : CmpOp} (ho : OpR X (compareOp op) (rP X.K g)) (ha : PF X wx a Fa) (hb : PF X wx b Fb) (hm : behindInMarks op b = false := by with_unfolding_all rfl) : PF X wx (.Compare a [op] [b] pos) (fBin g Fa Fb) := PE.imp (pe_cmpR ho ha hb hm) fun _ _ _ h => bin_imp h
theorem pft_cmp {op : CmpOp} (ho : OpR X (compareOp op) (rP X.K g)) (ha : PF X wx a Fa) (hb : PF X wx b Fb) (hm : behindInMarks op b = false := by with_unfolding_all rfl) : PFT X wx (.Compare a [op] [b] pos) (fTest (fBin g Fa Fb)) :=
  PT.imp (pt_cmpR ho ha hb hm) fun σ H Q h => by
    have h1 := test_imp h
    exact bin_imp h1
theorem pf_un {op : UnaryOp} {g : Sto → T → Option T} (ho : UnR X (unaryOp op) (rU1 X.K g)) (ha : PF X wx a Fa) : PF X wx (.UnaryOp op a pos) (fUn g Fa) := PE.imp (pe_un ho ha) fun σ H Q h => by
  obtain ⟨μ, τ, S, s, f, h⟩ := h
  refine tG.seq s f h fun μ1 H1 x v S1 A1 h1 => ?_
  obtain ⟨t, e, q⟩ := post_ofO h1 A1.st
  exact ⟨μ1, S1, x, t, A1.st, A1.rel, e, q⟩
def fChain (g g' : Sto → T → T → Option T) (Fa Fb Fc : FE) : FE := fun τ S => (Fa τ S).bind fun x S1 => (Fb τ S1).bind fun y S2 => match g S2 x y with
  | some (.bl true) => (Fc τ S2).bind fun z S3 => ofO (g' S3 y z) S3
  | some (.bl false) => .ok (.bl false) S2
  | _ => .stuck
theorem chain_imp {g' : Sto → T → T → Option T} {σ : St} {H : Hp} {Q : VK} (h : tG X.K wx (rV X.K) (fChain g g' Fa Fb Fc) σ H Q) : tChain (rP X.K g) (rP X.K g') (tG X.K wx (rV X.K) Fa) (tG X.K wx (rV X.K) Fb) (tG X.K wx (rV X.K) Fc) σ H Q := by
  obtain ⟨μ, τ, S, s, f, h⟩ := h
  refine tG.seq s f h fun μ1 H1 x v S1 A1 h1 => tG.seq A1.st A1.fr h1 fun μ2 H2 y u S2 A2 h2 => ?_
  cases e : g S2 x y with
  | none => simp only [e] at h2; exact h2.elim
  | some t =>
    cases t with
    | bl k =>
      refine ⟨μ2, S2, x, y, .bl k, A2.st, Rel.mono A2.ext x A1.rel, A2.rel, e, fun v' H' sm r => ?_⟩
      simp only [Rel] at r
      refine ⟨k, r, ?_⟩
      have E := Ext.of_same (μ := μ2) sm
      cases k with
      | false =>
        simp only [e] at h2
        exact iteF (h2 μ2 _ H' E (A2.st.same sm) (by simp only [Rel]))
      | true =>
        simp only [e] at h2
        refine iteT (tG.seq (A2.st.same sm) (A2.fr.mono E) (h2.shift E) fun μ3 H3 z w' S3 A3 h3 => ?_)
        obtain ⟨t, e3, q⟩ := post_ofO h3 A3.st
        exact ⟨μ3, S3, y, z, t, A3.st, Rel.mono A3.ext y (Rel.mono E y A2.rel), A3.rel, e3, q⟩
    | _ => simp only [e] at h2; exact h2.elim
theorem pf_chain {op op' : CmpOp} {g' : Sto → T → T → Option T} (ho : OpR X (compareOp op) (rP X.K g)) (ho' : OpR X (compareOp op') (rP X.K g')) (ha : PF X wx a Fa) (hb : PF X wx b Fb) (hc : PF X wx c Fc) (hm : lastMarks [op, op'] [b, c] = false := by with_unfolding_all rfl) :
    PF X wx (.Compare a [op, op'] [b, c] pos) (fChain g g' Fa Fb Fc) := PE.imp (pe_chain ho ho' ha hb hc hm) fun _ _ _ h => chain_imp h
end
def truT (S : Sto) : T → Option Bool
  | .non => some false
  | .bl b => some b
  | .int i => some (i != 0)
  | .str x => if x.length ≤ sizeLine then some ((x.length : Int) != 0) else none
  | .tup ts => some !ts.isEmpty
  | .lst ts => some !ts.isEmpty
  | .sls ts => some !ts.isEmpty
  | .dct ks _ => some !ks.isEmpty
  | .ref n => match S[n]? with
    | some (.lst ts) => some !ts.isEmpty
    | some (.dct ks _) => some !ks.isEmpty
    | _ => none
  | .val _ => none
  | .ktp ts => some !ts.isEmpty
  | .etp ts => some !ts.isEmpty
  | .kdc _ _ => none
  | .fdc _ _ => none
theorem isEmpty_of_length {α β : Type} {xs : List α} {ys : List β} (h : xs.length = ys.length) : xs.isEmpty = ys.isEmpty := by
  cases xs <;> cases ys <;> simp_all
section
variable {X : Cx} {wx : WT} {pos : Pos}
theorem truT_ok {K : PySem.W.Frag} {H : Hp} {μ : Mu} {S : Sto} {t : T} {v : V} {k : Bool} (e : truT S t = some k) (s : RelS K H μ S) (r : Rel K H μ t v) : TruV K v H k := by
  have lst : ∀ {ts : List T}, seqL S t = some ts → k = !ts.isEmpty → TruV K v H k := fun {ts} e1 e2 => by
    obtain ⟨a, vs, rfl, h, q⟩ := seqL_ok e1 s r
    exact .inl ⟨vs, h, by rw [e2, isEmpty_of_length q.length]⟩
  have dct : ∀ {ks : List Key} {ts : List T}, dctT S t = some (ks, ts) → k = !ks.isEmpty → TruV K v H k := fun {ks ts} e1 e2 => by
    obtain ⟨a, kvs, rfl, h, q, _⟩ := dctT_ok e1 s r
    exact .inr (.inr ⟨kvs, h, by rw [e2, ← q, isEmpty_of_length (List.length_map _)]⟩)
  cases t with
  | non => simp only [Rel] at r; simp only [truT] at e; cases e; subst r; rfl
  | bl b => simp only [Rel] at r; simp only [truT] at e; cases e; subst r; rfl
  | int i => simp only [Rel] at r; simp only [truT] at e; cases e; subst r; rfl
  | str x =>
    simp only [Rel] at r; simp only [truT] at e
    split at e
    · rename_i h
      cases e; subst r; exact ⟨h, rfl⟩
    · cases e
  | tup ts =>
    simp only [truT] at e
    cases e
    obtain ⟨a, vs, rfl, h, q⟩ := tup_ok r
    exact .inr (.inl ⟨vs, h, by rw [isEmpty_of_length q.length]⟩)
  | lst ts => simp only [truT] at e; cases e; exact lst rfl rfl
  | sls ts => simp only [truT] at e; cases e; exact lst rfl rfl
  | dct ks ts => simp only [truT] at e; cases e; exact dct rfl rfl
  | ref n =>
    simp only [truT] at e
    split at e
    · rename_i ts e1
      cases e; exact lst (by simp only [seqL, e1]) rfl
    · rename_i ks ts e1
      cases e; exact dct (ts := ts) (by simp only [dctT, e1]) rfl
    · cases e
  | val u => simp only [truT] at e; cases e
  | ktp ts =>
    simp only [truT] at e
    cases e
    obtain ⟨a, vs, rfl, h, q⟩ := ktp_ok r
    exact .inr (.inl ⟨vs, h, by rw [isEmpty_of_length q.length]⟩)
  | etp ts =>
    simp only [truT] at e
    cases e
    obtain ⟨a, vs, rfl, h, q⟩ := etp_ok r
    exact .inr (.inl ⟨vs, h, by rw [isEmpty_of_length q.length]⟩)
  | fdc ks ts => simp only [truT] at e; cases e
  | kdc ks ts => simp only [truT] at e; cases e
variable {a b c : Expr} {Fa Fb Fc : FE}
def fTru (F : FE) : FT := fun τ S => (F τ S).bind fun x S1 => ofO (truT S1 x) S1
theorem pft_val (ha : PF X wx a Fa) (he : ∀ whole, isTrue a X.env whole = (do let v ← whole; standAt a.pos; holding [v] (truthy v)) := by intro _; rfl) : PFT X wx a (fTru Fa) := PT.imp (pt_truth ha he) fun σ H Q h => by
  obtain ⟨μ, τ, S, s, f, h⟩ := h
  refine tG.seq s f h fun μ1 H1 x v S1 A1 h1 => ?_
  obtain ⟨k, e, q⟩ := post_ofO h1 A1.st
  exact ⟨k, truT_ok e A1.st A1.rel, q k H1 (Same.refl _) rfl⟩
def fNotT (F : FT) : FT := fun τ S => (F τ S).bind fun b S1 => .ok (!b) S1
theorem pft_not {F : FT} (ha : PFT X wx a F) : PFT X wx (.UnaryOp .Not a pos) (fNotT F) := PT.imp (pt_not ha) fun σ H Q h => by
  obtain ⟨μ, τ, S, s, f, h⟩ := h
  refine tG.seq s f h fun μ1 H1 x v S1 A1 h1 => ?_
  have r : x = v := A1.rel
  subst r
  exact h1.here A1.st rfl
def fAndT (F G : FT) : FT := fun τ S => (F τ S).bind fun b S1 => match b with
  | true => G τ S1
  | false => .ok false S1
def fOrT (F G : FT) : FT := fun τ S => (F τ S).bind fun b S1 => match b with
  | false => G τ S1
  | true => .ok true S1
def PFW (X : Cx) (wx : WT) (e : Expr) (F : FT) : Prop := PW X e (tG X.K wx rB F)
theorem PW.imp {X : Cx} {e : Expr} {t t' : TT} (h : PW X e t) (i : ∀ σ H Q, t' σ H Q → t σ H Q) : PW X e t' := ⟨fun w pins s σ H Q I q => h.run w pins s σ H Q I (i σ H Q q)⟩
variable {F G : FT} {rest : List Expr}
theorem pfw_pt (h : PFW X wx a F) : PFT X wx a F := L2.PW.pt h
theorem pfw_and1 (ha : PFT X wx a F) : PFW X wx (.BoolOp .And [a] pos) F := pw_and1 ha
theorem pfw_or1 (ha : PFT X wx a F) : PFW X wx (.BoolOp .Or [a] pos) F := pw_or1 ha
theorem pfw_and (ha : PFT X wx a F) (hb : PFW X wx (.BoolOp .And (b :: rest) pos) G) : PFW X wx (.BoolOp .And (a :: b :: rest) pos) (fAndT F G) := PW.imp (pw_and ha hb) fun σ H Q h => by
  obtain ⟨μ, τ, S, s, f, h⟩ := h
  refine tG.seq s f h fun μ1 H1 x v S1 A1 h1 => ?_
  have r : x = v := A1.rel
  subst r
  cases x with
  | true => exact iteT ⟨μ1, τ, S1, A1.st, A1.fr, h1⟩
  | false => exact iteF (h1.here A1.st rfl)
theorem pfw_or (ha : PFT X wx a F) (hb : PFW X wx (.BoolOp .Or (b :: rest) pos) G) : PFW X wx (.BoolOp .Or (a :: b :: rest) pos) (fOrT F G) := PW.imp (pw_or ha hb) fun σ H Q h => by
  obtain ⟨μ, τ, S, s, f, h⟩ := h
  refine tG.seq s f h fun μ1 H1 x v S1 A1 h1 => ?_
  have r : x = v := A1.rel
  subst r
  cases x with
  | false => exact iteF ⟨μ1, τ, S1, A1.st, A1.fr, h1⟩
  | true => exact iteT (h1.here A1.st rfl)
def fAnd (Fa Fb : FE) : FE := fun τ S => (Fa τ S).bind fun x S1 => match truT S1 x with
  | some true => Fb τ S1
  | some false => .ok x S1
  | none => .stuck
def fOr (Fa Fb : FE) : FE := fun τ S => (Fa τ S).bind fun x S1 => match truT S1 x with
  | some false => Fb τ S1
  | some true => .ok x S1
  | none => .stuck
def fNot (Fa : FE) : FE := fun τ S => (Fa τ S).bind fun x S1 => match truT S1 x with
  | some k => .ok (.bl !k) S1
  | none => .stuck
theorem pf_one {op} (h : PF X wx a Fa) : PF X wx (.BoolOp op [a] pos) Fa := pe_one h
theorem pf_and (ha : PF X wx a Fa) (hb : PF X wx (.BoolOp .And (b :: rest) pos) Fb) : PF X wx (.BoolOp .And (a :: b :: rest) pos) (fAnd Fa Fb) := PE.imp (pe_andT ha hb) fun σ H Q h => by
  obtain ⟨μ, τ, S, s, f, h⟩ := h
  refine tG.seq s f h fun μ1 H1 x v S1 A1 h1 => ?_
  cases e : truT S1 x with
  | none => simp only [e] at h1; exact h1.elim
  | some k =>
    refine ⟨k, truT_ok e A1.st A1.rel, ?_⟩
    cases k with
    | true => simp only [e] at h1; exact iteT ⟨μ1, τ, S1, A1.st, A1.fr, h1⟩
    | false => simp only [e] at h1; exact iteF (h1.here A1.st A1.rel)
theorem pf_or (ha : PF X wx a Fa) (hb : PF X wx (.BoolOp .Or (b :: rest) pos) Fb) : PF X wx (.BoolOp .Or (a :: b :: rest) pos) (fOr Fa Fb) := PE.imp (pe_orT ha hb) fun σ H Q h => by
  obtain ⟨μ, τ, S, s, f, h⟩ := h
  refine tG.seq s f h fun μ1 H1 x v S1 A1 h1 => ?_
  cases e : truT S1 x with
  | none => simp only [e] at h1; exact h1.elim
  | some k =>
    refine ⟨k, truT_ok e A1.st A1.rel, ?_⟩
    cases k with
    | false => simp only [e] at h1; exact iteF ⟨μ1, τ, S1, A1.st, A1.fr, h1⟩
    | true => simp only [e] at h1; exact iteT (h1.here A1.st A1.rel)
theorem pf_not (ha : PF X wx a Fa) : PF X wx (.UnaryOp .Not a pos) (fNot Fa) := PE.imp (pe_notT ha) fun σ H Q h => by
  obtain ⟨μ, τ, S, s, f, h⟩ := h
  refine tG.seq s f h fun μ1 H1 x v S1 A1 h1 => ?_
  cases e : truT S1 x with
  | none => simp only [e] at h1; exact h1.elim
  | some k =>
    simp only [e] at h1
    exact ⟨k, truT_ok e A1.st A1.rel, h1.here A1.st (by simp only [Rel])⟩
def fIf (F : FT) (Fa Fb : FE) : FE := fun τ S => (F τ S).bind fun k S1 => match k with
  | true => Fa τ S1
  | false => Fb τ S1
theorem pf_if (hc : PFT X wx c F) (ha : PF X wx a Fa) (hb : PF X wx b Fb) : PF X wx (.IfExp c a b pos) (fIf F Fa Fb) := PE.imp (pe_ifExp hc ha hb) fun σ H Q h => by
  obtain ⟨μ, τ, S, s, f, h⟩ := h
  refine tG.seq s f h fun μ1 H1 x v S1 A1 h1 => ?_
  have r : x = v := A1.rel
  subst r
  cases x with
  | true => exact iteT ⟨μ1, τ, S1, A1.st, A1.fr, h1⟩
  | false => exact iteF ⟨μ1, τ, S1, A1.st, A1.fr, h1⟩
def fNil : FA := fun _ S => .ok [] S
def fCons (F : FE) (Fs : FA) : FA := fun τ S => (F τ S).bind fun x S1 => (Fs τ S1).bind fun xs S2 => .ok (x :: xs) S2
theorem pfa_nil : PFA X wx [] fNil := PA.imp pa_nil fun σ H Q ⟨μ, τ, S, s, f, h⟩ => h.here s (by simp only [Rels])
theorem pfa_cons {es : List Expr} {Fs : FA} (ha : PF X wx a Fa) (hr : PFA X wx es Fs) (hs : starEach (a :: es) X.env = (false, eval a X.env) :: starEach es X.env := by rfl) : PFA X wx (a :: es) (fCons Fa Fs) := PA.imp (pa_cons ha hr hs) fun σ H Q h => by
  obtain ⟨μ, τ, S, s, f, h⟩ := h
  refine tG.seq s f h fun μ1 H1 x v S1 A1 h1 => tG.seq A1.st A1.fr h1 fun μ2 H2 y u S2 A2 h2 => ?_
  refine h2.here A2.st ?_
  simp only [Rels]
  exact ⟨v, u, rfl, Rel.mono A2.ext x A1.rel, A2.rel⟩
theorem fresh_same {H : Hp} {p : Addr} {o : HO} (h : H p = none) : Same H (upd H p o) := fun b x e => by
  rw [upd_ne (ne_of_none e h)]
  exact e
theorem RelS.free {K : PySem.W.Frag} {H : Hp} {μ : Mu} {S : Sto} (s : RelS K H μ S) {p : Addr} (h : H p = none) : μ.out p := ⟨fun hp => by
  obtain ⟨n, hn, e⟩ := List.mem_iff_getElem.mp hp
  have e1 : μ.c[n]? = some p := by rw [List.getElem?_eq_getElem hn, e]
  have hn' : n < S.length := by rw [← s.len]; exact hn
  have q := s.cell n S[n] p (List.getElem?_eq_getElem hn') e1
  cases ec : S[n] with
  | lst ts => rw [ec] at q; obtain ⟨vs, e, _⟩ := q; rw [h] at e; cases e
  | dct ks ts => rw [ec] at q; obtain ⟨vs, e, _⟩ := q; rw [h] at e; cases e
  | kdc ks ts => rw [ec] at q; obtain ⟨vs, e, _⟩ := q; rw [h] at e; cases e
  | _ => rw [ec] at q; exact q, fun hp => s.live p hp h⟩
theorem Fx.new {K : PySem.W.Frag} {H : Hp} {μ : Mu} {S : Sto} (s : RelS K H μ S) {p : Addr} {o : HO} (h : H p = none) : Fx (upd H p o) μ p o := ⟨upd_same, s.free h⟩
theorem rel_tup {K : PySem.W.Frag} {H : Hp} {μ : Mu} {S : Sto} {ts : List T} {vs : List V} (s : RelS K H μ S) {p : Addr} (h : H p = none) (r : Rels K H μ ts vs) : Rel K (upd H p (.tup vs)) μ (.tup ts) (.ref p) := by
  simp only [Rel]
  exact ⟨p, vs, rfl, .inl ⟨.inl upd_same, s.free h⟩, Rels.mono (Ext.of_same (fresh_same h)) ts r⟩
theorem rel_lst {K : PySem.W.Frag} {H : Hp} {μ : Mu} {S : Sto} {ts : List T} {vs : List V} (s : RelS K H μ S) {p : Addr} (h : H p = none) (r : Rels K H μ ts vs) : Rel K (upd H p (.lst vs)) μ (.lst ts) (.ref p) := by
  simp only [Rel]
  exact ⟨p, vs, rfl, Fx.new s h, Rels.mono (Ext.of_same (fresh_same h)) ts r⟩
def fTup (Fs : FA) : FE := fun τ S => (Fs τ S).bind fun ts S1 => if ts.length ≤ sizeLine then .ok (.tup ts) S1 else .stuck
def fLst (Fs : FA) : FE := fun τ S => (Fs τ S).bind fun ts S1 => if ts.length ≤ sizeLine then .ok (.lst ts) S1 else .stuck
variable {es : List Expr} {Fs : FA}
theorem pf_tup {k} (h : PFA X wx es Fs) : PF X wx (.Tuple es k pos) (fTup Fs) := PE.imp (pe_tup h) fun σ H Q h => by
  obtain ⟨μ, τ, S, s, f, h⟩ := h
  refine tG.seq s f h fun μ1 H1 x v S1 A1 h1 => ?_
  have r := A1.rel
  by_cases hl : x.length ≤ sizeLine
  · rw [if_pos hl] at h1
    exact ⟨by rw [← Rels.length r]; exact hl, fun p hp => h1 μ1 _ _ (Ext.of_same (fresh_same hp)) (A1.st.same (fresh_same hp)) (rel_tup A1.st hp r)⟩
  · rw [if_neg hl] at h1; exact h1.elim
end
end TL
set_option Elab.async false
set_option linter.all false
set_option maxRecDepth 100000
namespace TL
open PySem PySem.Spec L2
open PyProof.Rows hiding St
def Res.nox {α : Type} : Res α → Res α
  | .exc _ _ => .stuck
  | .ok a S => .ok a S
  | .stuck => .stuck
def xF : XW := fun _ _ _ _ => False
abbrev FF := List T → Sto → Res T
theorem post.nox {α β : Type} {K : PySem.W.Frag} {wx wx' : XW} {rel : RL α β} {μ : Mu} {H : Hp} {r : Res α} {Q : β → Hp → Prop} (h : post K wx rel μ H r.nox Q) : post K wx' rel μ H r Q := by
  cases r with
  | ok t S => exact h
  | exc x S => exact h.elim
  | stuck => exact h
def spT (K : PySem.W.Frag) (F : FF) : Sp := fun vs H Q _ => ∃ μ S ts, RelS K H μ S ∧ Rels K H μ ts vs ∧ post K xF (rV K) μ H (F ts S) Q
structure Df (P : Program) (w : World) (K : PySem.W.Frag) (mg : Str → Option Value) (base : Heap) (k : Nat) (f : Addr) (fd : FuncData) (ps : List Str) (F : FF) : Prop where
  arity : ∀ ts S, ts.length ≠ ps.length → F ts S = .stuck
  go : ∀ (A : Around) (fs : List Env) (s : Shared) (H : Hp) (given : Args) (us : List Value) (vs : List V) (Q : VK), Room k A → A.guards = some [] → Env0 P w K mg base A fs s H →
    BindsTo s fd given (ps.zip us) → Vals vs us → spT K F vs H Q E0 → codeAny (model P w) A (.call (.ref f) given) (CR CX0 fs P w H s Q E0) s
theorem Df.mono {P : Program} {w : World} {K : PySem.W.Frag} {mg : Str → Option Value} {base : Heap} {j k : Nat} {f : Addr} {fd : FuncData} {ps : List Str} {F : FF} (D : Df P w K mg base j f fd ps F) (h : j ≤ k) : Df P w K mg base k f fd ps F :=
  ⟨D.arity, fun A fs s H given us vs Q r => D.go A fs s H given us vs Q (r.mono h)⟩
theorem Df.eq {P : Program} {w : World} {K : PySem.W.Frag} {mg : Str → Option Value} {base : Heap} {k : Nat} {f : Addr} {fd : FuncData} {ps : List Str} {F G : FF} (D : Df P w K mg base k f fd ps F) (h : ∀ ts S, F ts S = G ts S) : Df P w K mg base k f fd ps G := by
  have e : F = G := funext fun ts => funext fun S => h ts S
  rw [← e]; exact D
theorem spT_len {P : Program} {w : World} {K : PySem.W.Frag} {mg : Str → Option Value} {base : Heap} {k : Nat} {f : Addr} {fd : FuncData} {ps : List Str} {F : FF} (D : Df P w K mg base k f fd ps F) {vs : List V} {H : Hp} {Q : VK} {E : XK} (h : spT K F vs H Q E) : vs.length = ps.length := by
  obtain ⟨μ, S, ts, _, r, h⟩ := h
  rw [← r.length]
  by_cases e : ts.length = ps.length
  · exact e
  · rw [D.arity ts S e] at h
    exact h.elim
theorem Df.call {X : Cx} {k : Nat} {f : Addr} {fd : FuncData} {ps : List Str} {F : FF} (D : Df X.prog X.w X.K X.mg X.base k f fd ps F) (hr : Room k X.A) (hgd : X.A.guards = some []) (hb : L2.Binds X.K fd ps []) {pins : List (Addr × Obj)} {σ : L2.St} {H : Hp} {s : Shared} {Q : VK} {us : List Value} {vs : List V}
    (I : L2.Inv X pins σ H s) (r : Vals vs us) (h : spT X.K F vs H Q E0) : wpAny (model X.prog X.w) X.A (call (.ref f) us) (EP X pins σ Q) X.xe s := by
  have n : (us ++ []).length = ps.length := by
    rw [List.append_nil, ← r.length]
    exact spT_len D h
  have bd := hb s us I.kIn n
  rw [List.append_nil] at bd
  refine wpAny_call (codeAny_mono (D.go X.A X.stack s H _ us vs Q hr hgd I.env0 bd r h) fun out s' hq => ?_)
  match out, hq with
  | .ok (.ret u), hq => exact I.after hq
def fCall (F : FF) (Fs : FA) : FE := fun τ S => (Fs τ S).bind fun ts S1 => (F ts S1).nox
section
variable {X : Cx} {wx : WT} {pos : Pos} {k : Nat} {f : Addr} {fd : FuncData} {ps : List Str} {F : FF} {x : Str} {p : Pos} {e : Expr} {es : List Expr} {Fs : FA}
theorem pf_call (D : Df X.prog X.w X.K X.mg X.base k f fd ps F) (hr : Room k X.A) (hgd : X.A.guards = some []) (hm : X.mg x = some (.ref f)) (hk : PySem.W.keepIn X.K (.ref f) = true) (hb : L2.Binds X.K fd ps []) (ha : PFA X wx (e :: es) Fs)
    (hg : Gl X x := by rfl) (hdb : (x == ("__debug__" : Str)) = false := by decide) (he : starEach (e :: es) X.env = (false, eval e X.env) :: starEach es X.env := by rfl) (hpl : (backTo pos (starEach es X.env)).any (·.1) = false := by rfl) :
    PF X wx (.Call (.Name x p) (e :: es) [] pos) (fCall F Fs) := by
  have go : PE X (.Call (.Name x p) (e :: es) [] pos) (fun σ H Q => tG X.K wx (rVs X.K) Fs σ H fun vs H1 => spT X.K F vs H1 Q E0) := ⟨fun pins s σ H Q I h => by
    refine wpAny_Call_Name_kw (ld_glob I hg hm ?_ hdb)
    refine PySem.W.callWith_K (h₀ := X.base) I.ok.mod.kin hk (thn (ha.run pos pins s σ H _ I h) fun us s1 h1 => ?_) he hpl
    obtain ⟨vs, H1, I1, r, q⟩ := h1
    exact ⟨I1.kIn, D.call hr hgd hb I1 r q⟩⟩
  refine PE.imp go fun σ H Q h => ?_
  obtain ⟨μ, τ, S, s, fr, h⟩ := h
  exact tG.seq s fr h fun μ1 H1 ts vs S1 A1 h1 => ⟨μ1, S1, ts, A1.st, A1.rel, h1.nox⟩
theorem pf_call0 (D : Df X.prog X.w X.K X.mg X.base k f fd ps F) (hr : Room k X.A) (hgd : X.A.guards = some []) (hm : X.mg x = some (.ref f)) (hk : PySem.W.keepIn X.K (.ref f) = true) (hb : L2.Binds X.K fd ps [])
    (hg : Gl X x := by rfl) (hdb : (x == ("__debug__" : Str)) = false := by decide) : PF X wx (.Call (.Name x p) [] [] pos) (fCall F fNil) := by
  have go : PE X (.Call (.Name x p) [] [] pos) (fun _ H Q => spT X.K F [] H Q E0) := ⟨fun pins s σ H Q I h => by
    refine wpAny_Call_Name_kw (ld_glob I hg hm ?_ hdb)
    exact PySem.W.callWith_K0 I.kIn hk (D.call hr hgd hb I .nil h)⟩
  refine PE.imp go fun σ H Q h => ?_
  obtain ⟨μ, τ, S, s, fr, h⟩ := h
  exact ⟨μ, S, [], s, by simp only [Rels], post.nox (show post X.K (wx.fr τ σ) (rV X.K) μ H (F [] S).nox Q from h)⟩
def fBlt (g : Sto → List T → Option T) (Fs : FA) : FE := fun τ S => (Fs τ S).bind fun ts S1 => ofO (g S1 ts) S1
variable {g : Sto → List T → Option T} {id : String}
theorem blt_imp {σ : St} {H : Hp} {Q : VK} (h : tG X.K wx (rV X.K) (fBlt g Fs) σ H Q) : tCB (rN X.K g) (tG X.K wx (rVs X.K) Fs) σ H Q := by
  obtain ⟨μ, τ, S, s, fr, h⟩ := h
  refine tG.seq s fr h fun μ1 H1 ts vs S1 A1 h1 => ?_
  obtain ⟨t, e, q⟩ := post_ofO h1 A1.st
  exact ⟨μ1, S1, ts, t, A1.st, A1.rel, e, q⟩
theorem pf_blt (hc : CallR X (.builtin id) (rN X.K g)) (hm : X.mg x = none) (hv : bootBuiltins x = some (.builtin id)) (ha : PFA X wx (e :: es) Fs) (hg : Gl X x := by rfl) (hn : x ≠ "__name__" := by decide) (hdb : (x == ("__debug__" : Str)) = false := by decide)
    (he : starEach (e :: es) X.env = (false, eval e X.env) :: starEach es X.env := by rfl) (hpl : (backTo pos (starEach es X.env)).any (·.1) = false := by rfl) : PF X wx (.Call (.Name x p) (e :: es) [] pos) (fBlt g Fs) :=
  PE.imp (pe_callB hc hg hm hv ha hn hdb he hpl) fun _ _ _ h => blt_imp h
theorem pf_bltTy (hc : CallR X (.type id) (rN X.K g)) (hm : X.mg x = none) (hv : bootBuiltins x = some (.type id)) (ha : PFA X wx (e :: es) Fs) (hg : Gl X x := by rfl) (hn : x ≠ "__name__" := by decide) (hdb : (x == ("__debug__" : Str)) = false := by decide)
    (he : starEach (e :: es) X.env = (false, eval e X.env) :: starEach es X.env := by rfl) (hpl : (backTo pos (starEach es X.env)).any (·.1) = false := by rfl) : PF X wx (.Call (.Name x p) (e :: es) [] pos) (fBlt g Fs) :=
  PE.imp (pe_callTy hc hg hm hv ha hn hdb he hpl) fun _ _ _ h => blt_imp h
end
def Src (K : PySem.W.Frag) (J : It) (xs : List T) (μ : Mu) (H : Hp) : Prop := ∀ μ2 H2, Ext H μ H2 μ2 →
  (∀ i x, xs[i]? = some x → J.go i H2 ∧ ∀ v H3, J.yld i H2 v H3 → Same H2 H3 ∧ ∀ S, RelS K H2 μ2 S → Rel K H3 μ2 x v) ∧ ∀ i, xs.length ≤ i → J.stop i H2
abbrev FI := Fr → Sto → Res (List T)
def rI (K : PySem.W.Frag) : RL (List T) It := fun H μ xs J => Src K J xs μ H
def wiT (K : PySem.W.Frag) (wx : WT) (Fi : FI) : TI := tG K wx (rI K) Fi
def PFI (X : Cx) (wx : WT) (tg e : Expr) (Fi : FI) : Prop := PI X tg e (wiT X.K wx Fi)
theorem PI.imp {X : Cx} {tg e : Expr} {t t' : TI} (h : PI X tg e t) (i : ∀ σ H Q, t' σ H Q → t σ H Q) : PI X tg e t' := ⟨fun pins s σ H Q I q => h.run pins s σ H Q I (i σ H Q q)⟩
theorem Src.list {K : PySem.W.Frag} {H : Hp} {μ : Mu} {a : Addr} {xs : List V} {ts : List T} (f : OL K H μ a xs) (r : Rels K H μ ts xs) : Src K (Itl K a) ts μ H := fun μ2 H2 E => by
  have f2 : OL K H2 μ2 a xs := f.imp E.fix id
  have q : SqL K H2 a xs := f2.imp (fun z => z.1) id
  have r2 := Rels.mono E ts r
  refine ⟨fun i x e => ?_, fun i h => ⟨xs, q, by rw [← r2.length]; exact h⟩⟩
  obtain ⟨v, e1, e2⟩ := r2.get e
  refine ⟨⟨xs, v, q, e1⟩, fun u H3 y => ?_⟩
  obtain ⟨rfl, y⟩ := y
  have e3 := y xs q
  rw [e1] at e3
  cases e3
  exact ⟨Same.refl _, fun S s => e2⟩
theorem Src.tup {K : PySem.W.Frag} {H : Hp} {μ : Mu} {a : Addr} {xs : List V} {ts : List T} (f : OT K H μ a xs) (r : Rels K H μ ts xs) : Src K (Itt K a) ts μ H := fun μ2 H2 E => by
  have f2 : OT K H2 μ2 a xs := f.imp E.fix id
  have q : SqT K H2 a xs := f2.imp (fun z => z.1) id
  have r2 := Rels.mono E ts r
  refine ⟨fun i x e => ?_, fun i h => ⟨xs, q, by rw [← r2.length]; exact h⟩⟩
  obtain ⟨v, e1, e2⟩ := r2.get e
  refine ⟨⟨xs, v, q, e1⟩, fun u H3 y => ?_⟩
  obtain ⟨rfl, y⟩ := y
  have e3 := y xs q
  rw [e1] at e3
  cases e3
  exact ⟨Same.refl _, fun S s => e2⟩
theorem Src.ints {K : PySem.W.Frag} {H : Hp} {μ : Mu} (lo : Int) (n : Nat) : Src K (Itr lo n) ((List.range n).map fun i => T.int (lo + (i : Nat))) μ H := fun μ2 H2 E => by
  refine ⟨fun i x e => ?_, fun i h => by
    show n ≤ i
    simpa using h⟩
  have hi : i < n := by
    have := (List.getElem?_eq_some_iff.mp e).1
    simpa using this
  have ex : x = T.int (lo + (i : Nat)) := by
    rw [List.getElem?_map, List.getElem?_range hi] at e
    exact (Option.some.inj e).symm
  subst ex
  refine ⟨hi, fun u H3 y => ?_⟩
  obtain ⟨rfl, rfl⟩ := y
  exact ⟨Same.refl _, fun S s => by simp only [Rel]⟩
def chars (x : Str) : List T := x.cps.toList.map fun c => T.str ⟨#[c]⟩
theorem Src.str {K : PySem.W.Frag} {H : Hp} {μ : Mu} (x : Str) : Src K (Its x) (chars x) μ H := fun μ2 H2 E => by
  unfold chars
  refine ⟨fun i t e => ?_, fun i h => by
    show x.cps.size ≤ i
    simpa using h⟩
  have hi : i < x.cps.size := by
    have := (List.getElem?_eq_some_iff.mp e).1
    simpa using this
  have ec : x.cps[i]? = some x.cps[i] := Array.getElem?_eq_getElem hi
  have et : t = T.str ⟨#[x.cps[i]]⟩ := by
    rw [List.getElem?_map, Array.getElem?_toList, ec] at e
    exact (Option.some.inj e).symm
  subst et
  refine ⟨hi, fun u H3 y => ?_⟩
  obtain ⟨rfl, c, e1, rfl⟩ := y
  rw [ec] at e1
  cases e1
  exact ⟨Same.refl _, fun S s => by simp only [Rel]⟩
section
variable {X : Cx} {wx : WT} {pos p : Pos} {tg a b : Expr} {Fa Fb : FE} {Fs : FA}
def fiL (Fa : FE) : FI := fun τ S => (Fa τ S).bind fun t S1 => match t with
  | .lst ts => .ok ts S1
  | .sls ts => .ok ts S1
  | _ => .stuck
def fiT (Fa : FE) : FI := fun τ S => (Fa τ S).bind fun t S1 => match t with
  | .tup ts => .ok ts S1
  | .ktp ts => .ok ts S1
  | .etp ts => .ok ts S1
  | _ => .stuck
def fiS (Fa : FE) : FI := fun τ S => (Fa τ S).bind fun t S1 => match t with
  | .str x => if x.length < sizeLine then .ok (chars x) S1 else .stuck
  | _ => .stuck
theorem pfi_list (ha : PF X wx a Fa) : PFI X wx tg a (fiL Fa) := PI.imp (pi_list ha) fun σ H Q h => by
  obtain ⟨μ, τ, S, s, f, h⟩ := h
  refine tG.seq s f h fun μ1 H1 t v S1 A1 h1 => ?_
  have r := A1.rel
  cases t with
  | lst ts =>
    simp only [Rel] at r
    obtain ⟨a, xs, rfl, o, r⟩ := r
    have o' : OL X.K H1 μ1 a xs := .inl ⟨.inl o.1, o.2⟩
    exact ⟨a, rfl, ⟨xs, .inl (.inl o.1)⟩, h1.here A1.st (Src.list o' r)⟩
  | sls ts =>
    simp only [Rel] at r
    obtain ⟨a, xs, rfl, o, r⟩ := r
    exact ⟨a, rfl, ⟨xs, o.imp (fun z => z.1) fun z => z⟩, h1.here A1.st (Src.list o r)⟩
  | _ => exact h1.elim
theorem pfi_tup (ha : PF X wx a Fa) : PFI X wx tg a (fiT Fa) := PI.imp (pi_tup ha) fun σ H Q h => by
  obtain ⟨μ, τ, S, s, f, h⟩ := h
  refine tG.seq s f h fun μ1 H1 t v S1 A1 h1 => ?_
  have r := A1.rel
  cases t with
  | tup ts =>
    simp only [Rel] at r
    obtain ⟨a, xs, rfl, o, r⟩ := r
    exact ⟨a, rfl, ⟨xs, o.imp (fun z => z.1) fun z => z⟩, h1.here A1.st (Src.tup o r)⟩
  | ktp ts =>
    simp only [Rel] at r
    obtain ⟨a, xs, rfl, ⟨ob, oh, oo, _⟩, r⟩ := r
    have o : OT X.K H1 μ1 a xs := .inl ⟨.inr ⟨ob, oh⟩, oo⟩
    exact ⟨a, rfl, ⟨xs, o.imp (fun z => z.1) fun z => z⟩, h1.here A1.st (Src.tup o r)⟩
  | etp ts =>
    simp only [Rel] at r
    obtain ⟨a, xs, rfl, ⟨oh, oo⟩, r⟩ := r
    have o : OT X.K H1 μ1 a xs := .inl ⟨.inl oh, oo⟩
    exact ⟨a, rfl, ⟨xs, o.imp (fun z => z.1) fun z => z⟩, h1.here A1.st (Src.tup o r)⟩
  | _ => exact h1.elim
theorem pfi_str (ha : PF X wx a Fa) : PFI X wx tg a (fiS Fa) := PI.imp (pi_str ha) fun σ H Q h => by
  obtain ⟨μ, τ, S, s, f, h⟩ := h
  refine tG.seq s f h fun μ1 H1 t v S1 A1 h1 => ?_
  have r := A1.rel
  cases t with
  | str x =>
    simp only [Rel] at r
    subst r
    by_cases hl : x.length < sizeLine
    · simp only [if_pos hl] at h1
      exact ⟨x, rfl, h1.here A1.st (Src.str x)⟩
    · simp only [if_neg hl] at h1; exact h1.elim
  | _ => exact h1.elim
def inR (i j : Int) : Bool := decide (-(2 ^ 62) ≤ i ∧ i < 2 ^ 62 ∧ -(2 ^ 62) ≤ j ∧ j < 2 ^ 62)
def rng (i j : Int) : List T := (List.range (j - i).toNat).map fun n => T.int (i + (n : Nat))
def fiR1 (Fs : FA) : FI := fun τ S => (Fs τ S).bind fun ts S1 => match ts with
  | [.int j] => if inR 0 j then .ok (rng 0 j) S1 else .stuck
  | _ => .stuck
def fiR2 (Fs : FA) : FI := fun τ S => (Fs τ S).bind fun ts S1 => match ts with
  | [.int i, .int j] => if inR i j then .ok (rng i j) S1 else .stuck
  | _ => .stuck
theorem pfi_range1 (hm : X.mg "range" = none) (ha : PFA X wx [a] Fs) (hg : Gl X "range" := by rfl) (hs : starEach [a] X.env = [(false, eval a X.env)] := by rfl) : PFI X wx tg (.Call (.Name "range" p) [a] [] pos) (fiR1 Fs) := PI.imp (pi_range1 hg hm ha hs) fun σ H Q h => by
  obtain ⟨μ, τ, S, s, f, h⟩ := h
  refine tG.seq s f h fun μ1 H1 ts vs S1 A1 h1 => ?_
  have r := A1.rel
  match ts, h1 with
  | [.int j], h1 =>
    simp only [Rels, Rel] at r
    obtain ⟨v, r', rfl, rfl, rfl⟩ := r
    by_cases hl : inR 0 j
    · simp only [if_pos hl] at h1
      have hl' := of_decide_eq_true hl
      refine ⟨j, rfl, hl'.2.2.1, hl'.2.2.2, h1.here A1.st ?_⟩
      have q := Src.ints (K := X.K) (H := H1) (μ := μ1) 0 j.toNat
      unfold rng
      rw [show (j - 0).toNat = j.toNat by simp]
      exact q
    · simp only [if_neg hl] at h1; exact h1.elim
theorem pfi_range2 (hm : X.mg "range" = none) (ha : PFA X wx [a, b] Fs) (hg : Gl X "range" := by rfl) (hs : starEach [a, b] X.env = [(false, eval a X.env), (false, eval b X.env)] := by rfl) (hs2 : starEach [b] X.env = [(false, eval b X.env)] := by rfl) :
    PFI X wx tg (.Call (.Name "range" p) [a, b] [] pos) (fiR2 Fs) := PI.imp (pi_range2 hg hm ha hs hs2) fun σ H Q h => by
  obtain ⟨μ, τ, S, s, f, h⟩ := h
  refine tG.seq s f h fun μ1 H1 ts vs S1 A1 h1 => ?_
  have r := A1.rel
  match ts, h1 with
  | [.int i, .int j], h1 =>
    simp only [Rels, Rel] at r
    obtain ⟨v, r', rfl, rfl, v2, r2, rfl, rfl, rfl⟩ := r
    by_cases hl : inR i j
    · simp only [if_pos hl] at h1
      have hl' := of_decide_eq_true hl
      exact ⟨i, j, rfl, hl', h1.here A1.st (Src.ints i _)⟩
    · simp only [if_neg hl] at h1; exact h1.elim
end
section
variable {X : Cx} {wx : WT} {tg a : Expr} {Fa : FE}
def fiA (Fa : FE) : FI := fun τ S => (Fa τ S).bind fun t S1 => match t with
  | .lst ts => .ok ts S1
  | .sls ts => .ok ts S1
  | .tup ts => .ok ts S1
  | .ktp ts => .ok ts S1
  | .etp ts => .ok ts S1
  | .str x => if x.length < sizeLine then .ok (chars x) S1 else .stuck
  | _ => .stuck
theorem pfi_any (ha : PF X wx a Fa) : PFI X wx tg a (fiA Fa) := ⟨fun pins s σ H R I h => by
  obtain ⟨μ, τ, S, st, f, h⟩ := h
  have lists : ∀ {q : Res (List T)}, fiL Fa τ S = q → post X.K (wx.fr τ σ) (rI X.K) μ H q R → _ := fun {q} e z => (pfi_list (tg := tg) ha).run pins s σ H R I ⟨μ, τ, S, st, f, by rw [e]; exact z⟩
  have tups : ∀ {q : Res (List T)}, fiT Fa τ S = q → post X.K (wx.fr τ σ) (rI X.K) μ H q R → _ := fun {q} e z => (pfi_tup (tg := tg) ha).run pins s σ H R I ⟨μ, τ, S, st, f, by rw [e]; exact z⟩
  have txts : ∀ {q : Res (List T)}, fiS Fa τ S = q → post X.K (wx.fr τ σ) (rI X.K) μ H q R → _ := fun {q} e z => (pfi_str (tg := tg) ha).run pins s σ H R I ⟨μ, τ, S, st, f, by rw [e]; exact z⟩
  cases e : Fa τ S with
  | stuck => simp only [fiA, e, Res.bind] at h; exact h.elim
  | exc x S1 =>
    simp only [fiA, e, Res.bind] at h
    exact lists (by simp only [fiL, e, Res.bind]) h
  | ok t S1 =>
    simp only [fiA, e, Res.bind] at h
    cases t with
    | lst ts => exact lists (by simp only [fiL, e, Res.bind]) h
    | sls ts => exact lists (by simp only [fiL, e, Res.bind]) h
    | tup ts => exact tups (by simp only [fiT, e, Res.bind]) h
    | ktp ts => exact tups (by simp only [fiT, e, Res.bind]) h
    | etp ts => exact tups (by simp only [fiT, e, Res.bind]) h
    | str x => exact txts (by simp only [fiS, e, Res.bind]) h
    | _ => exact h.elim⟩
end
abbrev Asg := List (Nat × T)
abbrev GT := T → Option Asg
abbrev GTs := List T → Option Asg
def setsT (τ : Fr) (l : Asg) : Fr := l.foldl (fun τ p => τ.set p.1 (some p.2)) τ
def setsV (σ : St) (l : List (Nat × V)) : St := l.foldl (fun σ p => σ.set p.1 (some p.2)) σ
inductive AsgR (K : PySem.W.Frag) (H : Hp) (μ : Mu) : Asg → List (Nat × V) → Prop
  | nil : AsgR K H μ [] []
  | cons {i : Nat} {t : T} {v : V} {l : Asg} {l' : List (Nat × V)} : Rel K H μ t v → AsgR K H μ l l' → AsgR K H μ ((i, t) :: l) ((i, v) :: l')
theorem AsgR.append {K : PySem.W.Frag} {H : Hp} {μ : Mu} {a b : Asg} {a' b' : List (Nat × V)} (h : AsgR K H μ a a') (g : AsgR K H μ b b') : AsgR K H μ (a ++ b) (a' ++ b') := by
  induction h with
  | nil => exact g
  | cons r _ ih => exact .cons r ih
theorem RelF.sets {K : PySem.W.Frag} {H : Hp} {μ : Mu} {l : Asg} {l' : List (Nat × V)} (h : AsgR K H μ l l') : ∀ {τ : Fr} {σ : St}, RelF K H μ τ σ → RelF K H μ (setsT τ l) (setsV σ l') := by
  induction h with
  | nil => exact fun f => f
  | cons r _ ih => exact fun f => ih (f.set r)
theorem AsgR.slots {K : PySem.W.Frag} {H : Hp} {μ : Mu} {a : Asg} {a' : List (Nat × V)} (h : AsgR K H μ a a') : a'.map (·.1) = a.map (·.1) := by
  induction h with
  | nil => rfl
  | cons r _ ih => simp [ih]
def gT (K : PySem.W.Frag) (g : GT) : TG := fun v σ H Q => ∃ μ t l, Rel K H μ t v ∧ g t = some l ∧ ∀ l', AsgR K H μ l l' → Q (setsV σ l') H
def gTs (K : PySem.W.Frag) (g : GTs) : TGs := fun vs σ H Q => ∃ μ ts l, Rels K H μ ts vs ∧ g ts = some l ∧ ∀ l', AsgR K H μ l l' → Q (setsV σ l') H
def PFG (X : Cx) (tg : Expr) (g : GT) : Prop := PG X tg (gT X.K g)
def PFGs (X : Cx) (tgs : List Expr) (g : GTs) : Prop := PGs X tgs (gTs X.K g)
theorem PG.imp {X : Cx} {e : Expr} {t t' : TG} (h : PG X e t) (i : ∀ v σ H Q, t' v σ H Q → t v σ H Q) : PG X e t' := ⟨fun pins s σ H v u Q I r q => h.run pins s σ H v u Q I r (i v σ H Q q)⟩
theorem PGs.imp {X : Cx} {e : List Expr} {t t' : TGs} (h : PGs X e t) (i : ∀ v σ H Q, t' v σ H Q → t v σ H Q) : PGs X e t' := ⟨fun pins s σ H v u Q I r q => h.run pins s σ H v u Q I r (i v σ H Q q)⟩
def sName (i : Nat) : GT := fun t => some [(i, t)]
def sNil : GTs := fun ts => match ts with
  | [] => some []
  | _ => none
def sCons (g : GT) (gs : GTs) : GTs := fun ts => match ts with
  | t :: r => (g t).bind fun a => (gs r).bind fun b => some (a ++ b)
  | [] => none
def sTup (n : Nat) (gs : GTs) : GT := fun t => match t with
  | .tup ts => if ts.length = n then gs ts else none
  | _ => none
section
variable {X : Cx} {pos : Pos}
theorem pfg_name {i : Nat} {x : Str} (hN : X.N.Nodup) (hi : X.N[i]? = some x := by rfl) (hx : Loc X.env.scope x := by first | exact Or.inl rfl | exact Or.inr rfl) (hf : X.fn x = true ∨ X.env.scope.names.lookup x = some .local := by first | exact .inl rfl | exact .inr rfl | assumption) : PFG X (.Name x pos) (sName i) :=
  PG.imp (pg_name hN hi hx hf) fun v σ H Q h => by
    obtain ⟨μ, t, l, r, e, q⟩ := h
    cases e
    exact q [(i, v)] (.cons r .nil)
theorem pfgs_nil : PFGs X [] sNil := PGs.imp pgs_nil fun v σ H Q h => by
  obtain ⟨μ, ts, l, r, e, q⟩ := h
  cases ts with
  | nil =>
    cases e
    simp only [Rels] at r
    exact ⟨r, q [] .nil⟩
  | cons t ts => cases e
theorem pfgs_cons {e : Expr} {es : List Expr} {g : GT} {gs : GTs} (h1 : PFG X e g) (h2 : PFGs X es gs) (hs : (assignEach (e :: es) X.env).map (·.2) = assign e X.env :: (assignEach es X.env).map (·.2) := by rfl) : PFGs X (e :: es) (sCons g gs) :=
  PGs.imp (pgs_cons h1 h2 hs) fun v σ H Q h => by
    obtain ⟨μ, ts, l, r, e, q⟩ := h
    cases ts with
    | nil => cases e
    | cons t ts =>
      simp only [Rels] at r
      obtain ⟨u, us, rfl, r1, r2⟩ := r
      simp only [sCons] at e
      cases e1 : g t with
      | none => rw [e1] at e; cases e
      | some a =>
        cases e2 : gs ts with
        | none => rw [e1, e2] at e; cases e
        | some b =>
          rw [e1, e2] at e
          cases e
          refine ⟨u, us, rfl, μ, t, a, r1, e1, fun a' ha => ⟨μ, ts, b, r2, e2, fun b' hb => ?_⟩⟩
          have z := q (a' ++ b') (ha.append hb)
          unfold setsV at z ⊢
          rw [List.foldl_append] at z
          exact z
theorem pfg_tup {es : List Expr} {k : Nat} {gs : GTs} {n : Nat} (hc : X.calm = true) (h : PFGs X es gs) (hn : (assignEach es X.env).length = n := by rfl) (hst : (assignEach es X.env).findIdx? (·.1) = none := by rfl) : PFG X (.Tuple es k pos) (sTup n gs) :=
  PG.imp (pg_tup hc h hn hst) fun v σ H Q h => by
    obtain ⟨μ, t, l, r, e, q⟩ := h
    cases t with
    | tup ts =>
      simp only [sTup] at e
      split at e
      · rename_i hl
        obtain ⟨a, vs, rfl, o, r⟩ := tup_ok r
        exact ⟨a, vs, rfl, o, by rw [← r.length]; exact hl, μ, ts, l, r, e, q⟩
      · cases e
    | _ => cases e
end
inductive RS where
  | nx (τ : Fr) (S : Sto) | rt (t : T) (S : Sto) | bk (τ : Fr) (S : Sto) | ct (τ : Fr) (S : Sto) | exc (x : XT) (τ : Fr) (S : Sto) | stuck
def postS (K : PySem.W.Frag) (wx : WT) (μ : Mu) (H : Hp) (r : RS) (D : Ends) : Prop := match r with
  | .nx τ S' => ∀ μ' σ' H', Ext H μ H' μ' → RelS K H' μ' S' → RelF K H' μ' τ σ' → D.nx σ' H'
  | .rt t S' => ∀ μ' v H', Ext H μ H' μ' → RelS K H' μ' S' → Rel K H' μ' t v → D.rt v H'
  | .bk τ S' => ∀ μ' σ' H', Ext H μ H' μ' → RelS K H' μ' S' → RelF K H' μ' τ σ' → D.bk σ' H'
  | .ct τ S' => ∀ μ' σ' H', Ext H μ H' μ' → RelS K H' μ' S' → RelF K H' μ' τ σ' → D.ct σ' H'
  | .exc x τ S' => ∀ μ' σ' H', Ext H μ H' μ' → RelS K H' μ' S' → RelF K H' μ' τ σ' → wx x μ' τ S' σ' H'
  | .stuck => False
theorem postS.shift {K : PySem.W.Frag} {wx : WT} {μ μ1 : Mu} {H H1 : Hp} {r : RS} {D : Ends} (x : Ext H μ H1 μ1) (h : postS K wx μ H r D) : postS K wx μ1 H1 r D := by
  cases r with
  | stuck => exact h
  | _ => exact fun μ' v H' y => h μ' v H' (x.trans y)
abbrev BS := Fr → Sto → RS
def tS (K : PySem.W.Frag) (wx : WT) (B : BS) : TS := fun D σ H => ∃ μ τ S, RelS K H μ S ∧ RelF K H μ τ σ ∧ postS K wx μ H (B τ S) D
def Res.bindS {α : Type} (r : Res α) (τ : Fr) (k : α → Sto → RS) : RS := match r with
  | .ok a S => k a S
  | .exc x S => .exc x τ S
  | .stuck => .stuck
theorem tG.seqS {α β : Type} {K : PySem.W.Frag} {wx : WT} {rel : RL α β} {F : Fr → Sto → Res α} {k : α → Sto → RS} {μ : Mu} {H : Hp} {τ : Fr} {σ : St} {S : Sto} {D : Ends} {R : β → Hp → Prop}
    (s : RelS K H μ S) (f : RelF K H μ τ σ) (h : postS K wx μ H ((F τ S).bindS τ k) D)
    (hR : ∀ μ1 H1 t v S1, At K μ H τ σ rel μ1 H1 t v S1 → postS K wx μ1 H1 (k t S1) D → R v H1) : tG K wx rel F σ H R := by
  refine ⟨μ, τ, S, s, f, ?_⟩
  cases e : F τ S with
  | stuck => rw [e] at h; exact h
  | exc x S1 => rw [e] at h; exact fun μ' H' E st => h μ' σ H' E st (f.mono E)
  | ok t S1 =>
    rw [e] at h
    exact fun μ1 v H1 x st r => hR μ1 H1 t v S1 ⟨x, st, f.mono x, r⟩ (h.shift x)
def PFS (X : Cx) (wx : WT) (st : Stmt) (B : BS) : Prop := PS X st (tS X.K wx B)
def PFSs (X : Cx) (wx : WT) (st : List Stmt) (B : BS) : Prop := PSs X st (tS X.K wx B)
theorem PS.imp {X : Cx} {e : Stmt} {t t' : TS} (h : PS X e t) (i : ∀ D σ H, t' D σ H → t D σ H) : PS X e t' := ⟨fun pins s σ H D I q => h.run pins s σ H D I (i D σ H q)⟩
theorem PSs.imp {X : Cx} {e : List Stmt} {t t' : TS} (h : PSs X e t) (i : ∀ D σ H, t' D σ H → t D σ H) : PSs X e t' := ⟨fun pins s σ H D I q => h.run pins s σ H D I (i D σ H q)⟩
def bNext : BS := fun τ S => .nx τ S
def bSeq (B C : BS) : BS := fun τ S => match B τ S with
  | .nx τ1 S1 => C τ1 S1
  | r => r
def bSet (i : Nat) (F : FE) : BS := fun τ S => (F τ S).bindS τ fun t S1 => .nx (τ.set i (some t)) S1
def bAsg (g : GT) (F : FE) : BS := fun τ S => (F τ S).bindS τ fun t S1 => match g t with
  | some l => .nx (setsT τ l) S1
  | none => .stuck
def bRet (F : FE) : BS := fun τ S => (F τ S).bindS τ fun t S1 => .rt t S1
def bRetN : BS := fun τ S => .rt .non S
def bExpr (F : FE) : BS := fun τ S => (F τ S).bindS τ fun _ S1 => .nx τ S1
def bIf (F : FT) (B C : BS) : BS := fun τ S => (F τ S).bindS τ fun k S1 => match k with
  | true => B τ S1
  | false => C τ S1
def bStuck : BS := fun _ _ => .stuck
section
variable {X : Cx} {wx : WT} {pos : Pos} {st : Stmt} {sts : List Stmt} {B C : BS} {e : Expr} {F : FE}
theorem pfss_nil : PFSs X wx [] bNext := PSs.imp pss_nil fun D σ H h => by
  obtain ⟨μ, τ, S, s, f, h⟩ := h
  exact h μ σ H (Ext.refl _ _) s f
theorem pfss_one (h : PFS X wx st B) : PFSs X wx [st] B := pss_one h
theorem pfss_cons (h1 : PFS X wx st B) (h2 : PFSs X wx sts C) : PFSs X wx (st :: sts) (bSeq B C) := PSs.imp (pss_cons h1 h2) fun D σ H h => by
  obtain ⟨μ, τ, S, s, f, h⟩ := h
  refine ⟨μ, τ, S, s, f, ?_⟩
  unfold bSeq at h
  cases e : B τ S with
  | nx τ1 S1 =>
    rw [e] at h
    exact fun μ' σ' H' E st' fr => ⟨μ', τ1, S1, st', fr, h.shift E⟩
  | _ => rw [e] at h; exact h
theorem pfs_never : PFS X wx st bStuck := PS.imp ps_never fun D σ H h => by
  obtain ⟨μ, τ, S, s, f, h⟩ := h
  exact h
theorem pfs_cont : PFS X wx (.Continue pos) (fun τ S => .ct τ S) := PS.imp ps_continue fun D σ H h => by
  obtain ⟨μ, τ, S, s, f, h⟩ := h
  exact h μ σ H (Ext.refl _ _) s f
theorem pfs_set {i : Nat} {x : Str} {pos' : Pos} (hN : X.N.Nodup) (he : PF X wx e F) (hi : X.N[i]? = some x := by rfl) (hx : Loc X.env.scope x := by first | exact Or.inl rfl | exact Or.inr rfl) (hs : swapsWith e (some (.Name x pos')) pos.line X.env = pure false := by rfl) (hf : X.fn x = true ∨ X.env.scope.names.lookup x = some .local := by first | exact .inl rfl | exact .inr rfl | assumption) :
    PFS X wx (.Assign [.Name x pos'] e pos) (bSet i F) := PS.imp (ps_set hN hi hx he hs hf) fun D σ H h => by
  obtain ⟨μ, τ, S, s, f, h⟩ := h
  exact tG.seqS s f h fun μ1 H1 t v S1 A1 h1 => h1 μ1 _ H1 (Ext.refl _ _) A1.st (A1.fr.set A1.rel)
theorem pfs_asg {tg : Expr} {g : GT} (he : PF X wx e F) (hg : PFG X tg g) (hs : swapsWithSole [tg] e pos.line X.env = pure false := by rfl) (hw : swappedStores [tg] e X.env = pure none := by rfl)
    (h1 : (assignEach [tg] X.env).map (·.2) = [assign tg X.env] := by rfl) : PFS X wx (.Assign [tg] e pos) (bAsg g F) := PS.imp (ps_asg he hg hs hw h1) fun D σ H h => by
  obtain ⟨μ, τ, S, s, f, h⟩ := h
  refine tG.seqS s f h fun μ1 H1 t v S1 A1 h1 => ?_
  cases e1 : g t with
  | none => simp only [e1] at h1; exact h1.elim
  | some l =>
    simp only [e1] at h1
    exact ⟨μ1, t, l, A1.rel, e1, fun l' f' => h1 μ1 _ H1 (Ext.refl _ _) A1.st (RelF.sets f' A1.fr)⟩
theorem pfs_ret (he : PF X wx e F) : PFS X wx (.Return (some e) pos) (bRet F) := PS.imp (ps_ret he) fun D σ H h => by
  obtain ⟨μ, τ, S, s, f, h⟩ := h
  exact tG.seqS s f h fun μ1 H1 t v S1 A1 h1 => h1 μ1 v H1 (Ext.refl _ _) A1.st A1.rel
theorem pfs_expr (he : PF X wx e F) (hs : swapsWith e none pos.line X.env = pure false := by rfl) : PFS X wx (.Expr e pos) (bExpr F) := PS.imp (ps_expr he hs) fun D σ H h => by
  obtain ⟨μ, τ, S, s, f, h⟩ := h
  exact tG.seqS s f h fun μ1 H1 t v S1 A1 h1 => h1 μ1 σ H1 (Ext.refl _ _) A1.st A1.fr
theorem pfs_if {c : Expr} {a b : List Stmt} {Fc : FT} (hc : PFT X wx c Fc) (ha : PFSs X wx a B) (hb : PFSs X wx b C) : PFS X wx (.If c a b pos) (bIf Fc B C) := PS.imp (ps_if hc ha hb) fun D σ H h => by
  obtain ⟨μ, τ, S, s, f, h⟩ := h
  refine tG.seqS s f h fun μ1 H1 t v S1 A1 h1 => ?_
  have r : t = v := A1.rel
  subst r
  cases t with
  | true => exact iteT ⟨μ1, τ, S1, A1.st, A1.fr, h1⟩
  | false => exact iteF ⟨μ1, τ, S1, A1.st, A1.fr, h1⟩
def forF (g : GT) (B : BS) : List T → BS
  | [], τ, S => .nx τ S
  | x :: xs, τ, S => match g x with
    | none => .stuck
    | some l => match B (setsT τ l) S with
      | .nx τ2 S2 => forF g B xs τ2 S2
      | .ct τ2 S2 => forF g B xs τ2 S2
      | .bk τ2 S2 => .nx τ2 S2
      | r => r
def bFor (Fi : FI) (g : GT) (B : BS) : BS := fun τ S => (Fi τ S).bindS τ fun xs S1 => forF g B xs τ S1
theorem drop_cons {xs : List T} {i : Nat} (h : i < xs.length) : xs.drop i = xs[i] :: xs.drop (i + 1) := List.drop_eq_getElem_cons h
theorem pfs_for {tg iter : Expr} {body : List Stmt} {Fi : FI} {g : GT} (hp : PassesOwn (model X.prog X.w) X.A X.env X.xe) (hc : X.calm = true) (hi : PFI X wx tg iter Fi) (hg : PFG X tg g) (hb : PFSs X wx body B)
    (hs : ∀ x, foldedSetIterable iter X.env x = pure x := by intro _; rfl) : PFS X wx (.For tg iter body [] pos) (bFor Fi g B) := PS.imp (ps_for hp hc hi hg hb hs) fun D σ H h => by
  obtain ⟨μ, τ, S, s, f, h⟩ := h
  refine tG.seqS s f h fun μ1 H1 xs J S1 A1 h1 => ?_
  refine ⟨fun i m σ2 H2 => ∃ μ2 τ2 S2, Ext H1 μ1 H2 μ2 ∧ RelS X.K H2 μ2 S2 ∧ RelF X.K H2 μ2 τ2 σ2 ∧ m = xs.length - i ∧ i ≤ xs.length ∧ postS X.K wx μ2 H2 (forF g B (xs.drop i) τ2 S2) D,
    ⟨xs.length, μ1, τ, S1, Ext.refl _ _, A1.st, A1.fr, rfl, Nat.zero_le _, by simpa using h1⟩, fun i m σ2 H2 hW => ?_⟩
  obtain ⟨μ2, τ2, S2, E2, s2, f2, rfl, hi, h2⟩ := hW
  obtain ⟨go, stop⟩ := A1.rel μ2 H2 E2
  by_cases hlt : i < xs.length
  · rw [drop_cons hlt] at h2
    obtain ⟨hgo, hy⟩ := go i xs[i] (List.getElem?_eq_getElem hlt)
    refine .inr ⟨hgo, fun σ' H' => ∃ μ2 τ2 S2, Ext H1 μ1 H' μ2 ∧ RelS X.K H' μ2 S2 ∧ RelF X.K H' μ2 τ2 σ' ∧ postS X.K wx μ2 H' (forF g B (xs.drop (i + 1)) τ2 S2) D, fun σ' H' hN => ?_, fun v H3 yl => ?_⟩
    · obtain ⟨μ3, τ3, S3, a, b, c, d⟩ := hN
      exact ⟨xs.length - (i + 1), by omega, μ3, τ3, S3, a, b, c, rfl, hlt, d⟩
    · obtain ⟨sm, hr⟩ := hy v H3 yl
      have E3 : Ext H2 μ2 H3 μ2 := Ext.of_same sm
      simp only [forF] at h2
      cases eg : g xs[i] with
      | none => simp only [eg] at h2; exact h2.elim
      | some l =>
        simp only [eg] at h2
        refine ⟨μ2, xs[i], l, hr S2 s2, eg, fun l' f' => ⟨μ2, setsT τ2 l, S2, s2.same sm, RelF.sets f' (f2.mono E3), ?_⟩⟩
        cases eb : B (setsT τ2 l) S2 with
        | stuck => simp only [eb] at h2; exact h2.elim
        | nx τ4 S4 =>
          simp only [eb] at h2
          exact fun μ4 σ4 H4 E4 s4 f4 => ⟨μ4, τ4, S4, (E2.trans E3).trans E4, s4, f4, h2.shift (E3.trans E4)⟩
        | ct τ4 S4 =>
          simp only [eb] at h2
          exact fun μ4 σ4 H4 E4 s4 f4 => ⟨μ4, τ4, S4, (E2.trans E3).trans E4, s4, f4, h2.shift (E3.trans E4)⟩
        | bk τ4 S4 =>
          simp only [eb] at h2
          exact fun μ4 σ4 H4 E4 s4 f4 => h2 μ4 σ4 H4 (E3.trans E4) s4 f4
        | rt t S4 =>
          simp only [eb] at h2
          exact fun μ4 v4 H4 E4 s4 f4 => h2 μ4 v4 H4 (E3.trans E4) s4 f4
        | exc x τ4 S4 =>
          simp only [eb] at h2
          exact fun μ4 v4 H4 E4 s4 f4 => h2 μ4 v4 H4 (E3.trans E4) s4 f4
  · have e : i = xs.length := by omega
    subst e
    rw [List.drop_length] at h2
    exact .inl ⟨stop _ (Nat.le_refl _), h2 μ2 σ2 H2 (Ext.refl _ _) s2 f2⟩
end
def startT (N : List Str) (ts : List T) : Fr := ts.map some ++ List.replicate (N.length - ts.length) none
def RS.fin : RS → Res T
  | .nx _ S => .ok .non S
  | .rt t S => .ok t S
  | .exc x _ S => .exc x S
  | _ => .stuck
def body (N : List Str) (n : Nat) (B : BS) : FF := fun ts S => if ts.length = n then (B (startT N ts) S).fin else .stuck
theorem relF_start {K : PySem.W.Frag} {H : Hp} {μ : Mu} {N : List Str} {ts : List T} {vs : List V} (r : Rels K H μ ts vs) : RelF K H μ (startT N ts) (L2.start N vs) := by
  have hl := r.length
  unfold startT L2.start
  refine ⟨by simp [hl], fun i t e => ?_⟩
  by_cases hi : i < ts.length
  · rw [List.getElem?_append_left (by simpa using hi), List.getElem?_map] at e
    cases e1 : ts[i]? with
    | none => rw [e1] at e; cases e
    | some u =>
      rw [e1] at e
      have e2 : u = t := by simpa using e
      subst e2
      obtain ⟨v, e3, r3⟩ := r.get e1
      exact ⟨v, by rw [List.getElem?_append_left (by simpa [← hl] using hi), List.getElem?_map, e3]; rfl, r3⟩
  · rw [List.getElem?_append_right (by simpa using hi)] at e
    have := (List.mem_of_getElem? e)
    simp at this
def wF : WT := fun _ _ _ _ _ _ => False
section
variable {P : Program} {w : World} {K : PySem.W.Frag} {mg : Str → Option Value} {base : Heap}
theorem df_mk {x qual : Str} {st : Stmt} {f : Addr} {fd : FuncData} {N ps : List Str} {k : Nat} {B : BS} (F : Fun K x qual st f fd) (sc : FnScope N ps (defScope st))
    (hB : ∀ (cdv : Value) (A : Around) (fs : List Env) (s : Shared) (H : Hp), Room k (A.deeper (envOfC qual (defScope st) s.heap.objs.size f cdv)) → A.guards = some [] → PFSs (cxOf CX0 P w K mg base N qual (defScope st) f cdv A fs s H E0).nox wF (defBody st) B) :
    Df P w K mg base (k + 1) f fd ps (body N ps.length B) := by
  obtain ⟨oc, od, kV, doc, pm, an, cdv, ct, osl, rfl, lk, hcd⟩ := F.ex
  refine ⟨fun ts S h => if_neg h, fun A fs s H given us vs Q r hgd e0 hb rv h => ?_⟩
  obtain ⟨μ, S, ts, st', rt, h⟩ := h
  unfold body at h
  by_cases hl : ts.length = ps.length
  rotate_left
  · rw [if_neg hl] at h; exact h.elim
  rw [if_pos hl] at h
  have lv : vs.length = ps.length := by rw [← rt.length]; exact hl
  have kx : K.In s.heap := e0.mod.kin.keeps fun b o q => (e0.bs b o q).1
  have nl : s.heap.NoLimit := e0.mod.nolimit.keeps fun b o q => (e0.bs b o q).1
  have seen : ∀ y ∈ ps.zip us, (defScope st).names.lookup y.1 = some .local ∨ ((defScope st).names.lookup y.1 = some .cell ∧ ((cellsFrom (s.heap.objs.size + 1) (defScope st).names []).lookup y.1).isSome = true) := by
    rintro ⟨n, v⟩ hy
    exact (sc.par n (List.of_mem_zip hy).1).imp id fun q => ⟨q, PySem.W.cellsFrom_some _ _ _ (.inl q)⟩
  refine codeAny_call_function r.depth (kx _ _ lk) rfl sc.co sc.gen rfl (PySem.W.codeRec_of kx hcd) (hb _ _ _ _ ?_)
  refine wpAny_newFunctionEnv_cells sc.kind seen fun env he s1 z => ?_
  subst he
  refine ⟨nl.keeps z.toInCall.keep, codeAny_func ?_⟩
  have I := inv_start (CX := CX0) (E := E0) sc r.hd e0 lv rv z
  have bd : PFSs (cxOf CX0 P w K mg base N qual (defScope st) f cdv A fs s H E0).nox wF (defBody st) B := hB cdv A fs s H (r.deeper _) hgd
  have asked : tS K wF B { nx := fun _ H' => Q .non H', rt := Q } (L2.start N vs) H := by
    refine ⟨μ, startT N ts, S, st', relF_start rt, ?_⟩
    cases e : B (startT N ts) S with
    | nx τ1 S1 =>
      simp only [e, RS.fin] at h
      exact fun μ' σ' H' E sr fr => h μ' .non H' E sr (by simp only [Rel])
    | rt t S1 =>
      simp only [e, RS.fin] at h
      exact h
    | exc x τ S1 =>
      simp only [e, RS.fin] at h
      exact fun μ' σ' H' E sr fr => h μ' H' E sr
    | _ => simp only [e, RS.fin] at h; exact h.elim
  refine wpAny_mono (bd.run [] s1 (L2.start N vs) H _ (I.wish _) asked) (fun fl s' hs => ?_) fun e s' hs => hs.elim
  match fl, hs with
  | .ret u, hs =>
    obtain ⟨v, σ', H', J, rv', q⟩ := hs
    exact ⟨v, H', J.os, J.bare, J.base, J.hok, rv', q⟩
  | .next, hs =>
    obtain ⟨σ', H', J, q⟩ := hs
    exact ⟨.non, H', J.os, J.bare, J.base, J.hok, rfl, q⟩
  | .brk, hs =>
    obtain ⟨_, _, _, q⟩ := hs
    exact q.elim
  | .cont, hs =>
    obtain ⟨_, _, _, q⟩ := hs
    exact q.elim
end
end TL
set_option Elab.async false
set_option linter.all false
set_option maxRecDepth 100000
namespace TL
open PySem PySem.Spec L2
open PyProof.Rows hiding St
mutual
/-- the trees stay where the heap keeps what they name, and they name nothing that is taken -/
theorem Rel.to {K : PySem.W.Frag} {H H' : Hp} {μ μ' : Mu} (hc : ∀ (n : Nat) (a : Addr), μ.c[n]? = some a → μ'.c[n]? = some a) (hk : ∀ a o, H a = some o → μ.out a → H' a = some o ∧ μ'.out a) : ∀ (t : T) {v : V}, Rel K H μ t v → Rel K H' μ' t v
  | .non, _, h => by simpa only [Rel] using h
  | .bl _, _, h => by simpa only [Rel] using h
  | .int _, _, h => by simpa only [Rel] using h
  | .str _, _, h => by simpa only [Rel] using h
  | .val _, _, h => by simpa only [Rel] using h
  | .ref n, _, h => by
    simp only [Rel] at h ⊢
    obtain ⟨a, e, rfl⟩ := h
    exact ⟨a, hc n a e, rfl⟩
  | .tup ts, _, h => by
    simp only [Rel] at h ⊢
    obtain ⟨a, xs, rfl, o, r⟩ := h
    refine ⟨a, xs, rfl, o.imp (fun z => ?_) id, Rels.to hc hk ts r⟩
    obtain ⟨z | ⟨o, z⟩, n⟩ := z
    · exact ⟨.inl (hk _ _ z n).1, (hk _ _ z n).2⟩
    · exact ⟨.inr ⟨o, (hk _ _ z n).1⟩, (hk _ _ z n).2⟩
  | .lst ts, _, h => by
    simp only [Rel] at h ⊢
    obtain ⟨a, xs, rfl, ⟨z, n⟩, r⟩ := h
    exact ⟨a, xs, rfl, hk _ _ z n, Rels.to hc hk ts r⟩
  | .sls ts, _, h => by
    simp only [Rel] at h ⊢
    obtain ⟨a, xs, rfl, o, r⟩ := h
    refine ⟨a, xs, rfl, o.imp (fun z => ?_) id, Rels.to hc hk ts r⟩
    obtain ⟨z | ⟨o, z⟩, n⟩ := z
    · exact ⟨.inl (hk _ _ z n).1, (hk _ _ z n).2⟩
    · exact ⟨.inr ⟨o, (hk _ _ z n).1⟩, (hk _ _ z n).2⟩
  | .dct ks ts, _, h => by
    simp only [Rel] at h ⊢
    obtain ⟨a, kvs, rfl, ⟨z, n⟩, e, r⟩ := h
    exact ⟨a, kvs, rfl, hk _ _ z n, e, Rels.to hc hk ts r⟩
  | .fdc ks ts, _, h => by
    simp only [Rel] at h ⊢
    obtain ⟨a, kvs, rfl, ⟨z, n⟩, e, r⟩ := h
    refine ⟨a, kvs, rfl, ?_, e, Rels.to hc hk ts r⟩
    rcases z with z | ⟨o, z⟩
    · exact ⟨.inl (hk _ _ z n).1, (hk _ _ z n).2⟩
    · exact ⟨.inr ⟨o, (hk _ _ z n).1⟩, (hk _ _ z n).2⟩
  | .ktp ts, _, h => by
    simp only [Rel] at h ⊢
    obtain ⟨a, xs, rfl, ⟨ob, z, n, d⟩, r⟩ := h
    exact ⟨a, xs, rfl, ⟨ob, (hk _ _ z n).1, (hk _ _ z n).2, d⟩, Rels.to hc hk ts r⟩
  | .etp ts, _, h => by
    simp only [Rel] at h ⊢
    obtain ⟨a, xs, rfl, ⟨z, n⟩, r⟩ := h
    exact ⟨a, xs, rfl, hk _ _ z n, Rels.to hc hk ts r⟩
  | .kdc ks ts, _, h => by
    simp only [Rel] at h ⊢
    obtain ⟨a, kvs, rfl, ⟨z, n⟩, e, r⟩ := h
    exact ⟨a, kvs, rfl, hk _ _ z n, e, Rels.to hc hk ts r⟩
theorem Rels.to {K : PySem.W.Frag} {H H' : Hp} {μ μ' : Mu} (hc : ∀ (n : Nat) (a : Addr), μ.c[n]? = some a → μ'.c[n]? = some a) (hk : ∀ a o, H a = some o → μ.out a → H' a = some o ∧ μ'.out a) : ∀ (ts : List T) {vs : List V}, Rels K H μ ts vs → Rels K H' μ' ts vs
  | [], _, h => by simpa only [Rels] using h
  | t :: ts, _, h => by
    simp only [Rels] at h ⊢
    obtain ⟨v, r, rfl, h1, h2⟩ := h
    exact ⟨v, r, rfl, Rel.to hc hk t h1, Rels.to hc hk ts h2⟩
end
section
variable {K : PySem.W.Frag} {H H' : Hp} {μ μ' : Mu} {S : Sto} {D : Addr} {o : HO}
theorem CellR.to {a : Addr} {c : T} (hc : ∀ (n : Nat) (a : Addr), μ.c[n]? = some a → μ'.c[n]? = some a) (hk : ∀ a o, H a = some o → μ.out a → H' a = some o ∧ μ'.out a) (ha : ∀ o, H a = some o → H' a = some o) (q : CellR K H μ a c) : CellR K H' μ' a c := by
  cases c <;> first
    | exact q.elim
    | (obtain ⟨vs, h, q⟩ := q; exact ⟨vs, ha _ h, Rels.to hc hk _ q⟩)
    | (obtain ⟨vs, h, e, q⟩ := q; exact ⟨vs, ha _ h, e, Rels.to hc hk _ q⟩)
theorem RelF.to {τ : Fr} {σ : L2.St} (hc : ∀ (n : Nat) (a : Addr), μ.c[n]? = some a → μ'.c[n]? = some a) (hk : ∀ a o, H a = some o → μ.out a → H' a = some o ∧ μ'.out a) (f : RelF K H μ τ σ) : RelF K H' μ' τ σ :=
  ⟨f.1, fun i t e => let ⟨v, a, b⟩ := f.2 i t e; ⟨v, a, Rel.to hc hk t b⟩⟩
theorem hide_keep (h : H D = none) : ∀ a u, H a = some u → μ.out a → upd H D o a = some u ∧ (μ.hide D).out a := fun a u e n =>
  ⟨by rw [upd_ne (ne_of_none e h)]; exact e, n.1, fun z => (List.mem_cons.mp z).elim (ne_of_none e h) n.2⟩
theorem RelS.hide (h : H D = none) (s : RelS K H μ S) : RelS K (upd H D o) (μ.hide D) S := by
  refine ⟨s.len, s.nd, fun n c a e1 e2 => CellR.to (μ := μ) (fun _ _ e => e) (hide_keep h) (q := s.cell n c a e1 e2) fun u e => by rw [upd_ne (ne_of_none e h)]; exact e, fun p hp => ?_, fun p hp => ?_⟩
  · by_cases hp' : p = D
    · subst hp'; rw [upd_same]; simp
    · rw [upd_ne hp']; exact s.live p ((List.mem_cons.mp hp).elim (fun z => absurd z hp') id)
  · rcases List.mem_cons.mp hp with z | z
    · rw [z]; exact (s.free h).1
    · exact s.dis p z
theorem Ext.hide (h : H D = none) : Ext H μ (upd H D o) (μ.hide D) :=
  ⟨⟨[], by simp [Mu.hide], fun _ z => nomatch z⟩, ⟨fun p hp => List.mem_cons_of_mem _ hp, fun p hp => (List.mem_cons.mp hp).elim (fun z => .inr (by rw [z]; exact h)) .inl⟩, fun a u e _ => by rw [upd_ne (ne_of_none e h)]; exact e, fun a n => by
    by_cases z : a = D
    · subst z; rw [upd_same]; simp
    · rw [upd_ne z]; exact n⟩
theorem hid_keep (h : D ∈ μ.r) : ∀ a u, H a = some u → μ.out a → upd H D o a = some u ∧ μ.out a := fun a u e n => ⟨by rw [upd_ne (fun z : a = D => n.2 (by rw [z]; exact h))]; exact e, n⟩
theorem RelS.hid (h : D ∈ μ.r) (s : RelS K H μ S) : RelS K (upd H D o) μ S := by
  refine ⟨s.len, s.nd, fun n c a e1 e2 => CellR.to (μ := μ) (fun _ _ e => e) (hid_keep h) (q := s.cell n c a e1 e2) fun u e => ?_, fun p hp => ?_, s.dis⟩
  · rw [upd_ne (fun z : a = D => s.dis D h (by rw [← z]; exact List.mem_of_getElem? e2))]; exact e
  · by_cases z : p = D
    · subst z; rw [upd_same]; simp
    · rw [upd_ne z]; exact s.live p hp
theorem Ext.hid {H0 : Hp} {μ0 : Mu} (h : H0 D = none) (x : Ext H0 μ0 H μ) : Ext H0 μ0 (upd H D o) μ :=
  ⟨x.pre, x.res, fun a u e n => by rw [upd_ne (ne_of_none e h)]; exact x.keep a u e n, fun a n => by
    by_cases z : a = D
    · subst z; rw [upd_same]; simp
    · rw [upd_ne z]; exact x.live a n⟩
theorem unh_keep : ∀ a u, H a = some u → μ.out a → H a = some u ∧ (μ.unh D).out a := fun a u e n => ⟨e, n.1, fun z => n.2 ((List.mem_filter.mp z).1)⟩
theorem RelS.unh (s : RelS K H μ S) : RelS K H (μ.unh D) S :=
  ⟨s.len, s.nd, fun n c a e1 e2 => CellR.to (μ := μ) (fun _ _ e => e) unh_keep (q := s.cell n c a e1 e2) fun _ e => e, fun p hp => s.live p ((List.mem_filter.mp hp).1), fun p hp => s.dis p ((List.mem_filter.mp hp).1)⟩
theorem Ext.unh {H0 : Hp} {μ0 : Mu} (h : H0 D = none) (s : RelS K H0 μ0 S) (x : Ext H0 μ0 H μ) : Ext H0 μ0 H (μ.unh D) :=
  ⟨x.pre, ⟨fun p hp => List.mem_filter.mpr ⟨x.res.1 p hp, by
    have : p ≠ D := fun z => s.live p hp (z ▸ h)
    simpa using this⟩, fun p hp => x.res.2 p ((List.mem_filter.mp hp).1)⟩, x.keep, x.live⟩
theorem unh_not : D ∉ (μ.unh D).r := fun z => by
  have := (List.mem_filter.mp z).2
  simp at this
theorem more_keep (h : D ∈ μ.r) : ∀ a u, H a = some u → μ.out a → H a = some u ∧ ((μ.unh D).more D).out a := fun a u e n =>
  ⟨e, fun z => (List.mem_append.mp z).elim n.1 fun q => n.2 (by rw [List.mem_singleton.mp q]; exact h), fun z => n.2 ((List.mem_filter.mp z).1)⟩
theorem more_get (n : Nat) (a : Addr) (e : μ.c[n]? = some a) : ((μ.unh D).more D).c[n]? = some a := (List.getElem?_append_left (List.getElem?_eq_some_iff.mp e).1).trans e
theorem RelS.more {c : T} (h : D ∈ μ.r) (s : RelS K H μ S) (q : CellR K H μ D c) : RelS K H ((μ.unh D).more D) (S ++ [c]) := by
  have dn : D ∉ μ.c := s.dis D h
  have hl : μ.c.length = S.length := s.len
  refine ⟨?_, ?_, fun n c' a e1 e2 => ?_, fun p hp => s.live p ((List.mem_filter.mp hp).1), fun p hp z => ?_⟩
  · show (μ.c ++ [D]).length = _
    rw [List.length_append, List.length_append, hl]; rfl
  · show (μ.c ++ [D]).Nodup
    rw [List.nodup_append]
    exact ⟨s.nd, by simp, fun a ha b hb => by rw [List.mem_singleton.mp hb]; exact fun z => dn (z ▸ ha)⟩
  · have e2' : (μ.c ++ [D])[n]? = some a := e2
    by_cases hn : n < S.length
    · rw [List.getElem?_append_left hn] at e1
      rw [List.getElem?_append_left (by omega)] at e2'
      exact (s.cell n c' a e1 e2').to more_get (more_keep h) fun _ e => e
    · rw [List.getElem?_append_right (by omega)] at e1
      rw [List.getElem?_append_right (by omega)] at e2'
      have h0 : n - S.length = 0 := by
        have := (List.getElem?_eq_some_iff.mp e1).1
        simp at this
        omega
      rw [h0] at e1
      rw [show n - μ.c.length = 0 by omega] at e2'
      simp at e1 e2'
      subst e1 e2'
      exact q.to more_get (more_keep h) fun _ e => e
  · rcases List.mem_append.mp z with z | z
    · exact s.dis p ((List.mem_filter.mp hp).1) z
    · rw [List.mem_singleton.mp z] at hp
      exact unh_not hp
end
def postN (K : PySem.W.Frag) (wx : XW) (μ : Mu) (H : Hp) (r : Res T) (Q : VK) : Prop := match r with
  | .ok c S' => ∀ μ' H' D, Ext H μ H' μ' → H D = none → D ∈ μ'.r → RelS K H' μ' S' → CellR K H' μ' D c → Q (.ref D) H'
  | .exc x S' => ∀ μ' H', Ext H μ H' μ' → RelS K H' μ' S' → wx x μ' S' H'
  | .stuck => False
def tN (K : PySem.W.Frag) (wx : WT) (F : FE) : TE := fun σ H Q => ∃ μ τ S, RelS K H μ S ∧ RelF K H μ τ σ ∧ postN K (wx.fr τ σ) μ H (F τ S) Q
def PFN (X : Cx) (wx : WT) (e : Expr) (F : FE) : Prop := PE X e (tN X.K wx F)
def isCell : T → Bool
  | .lst _ => true
  | .dct _ _ => true
  | .kdc _ _ => true
  | _ => false
def fPure (F : FE) : FE := fun τ S => (F τ S).bind fun c S1 => if isCell c then .ok c S1 else .stuck
def fCell (F : FE) : FE := fun τ S => (F τ S).bind fun c S1 => if isCell c then .ok (.ref S1.length) (S1 ++ [c]) else .stuck
section
variable {X : Cx} {wx : WT} {e : Expr} {F : FE}
theorem pure_imp {K : PySem.W.Frag} {σ : L2.St} {H : Hp} {Q : VK} (q : tG K wx (rV K) (fPure F) σ H Q) : tN K wx F σ H Q := by
  obtain ⟨μ, τ, S, s, f, q⟩ := q
  refine ⟨μ, τ, S, s, f, ?_⟩
  unfold fPure at q
  cases e : F τ S with
  | stuck => rw [e] at q; exact q
  | exc x S1 => rw [e] at q; exact q
  | ok c S1 =>
    rw [e] at q
    intro μ' H' D E hn hD st cr
    have dn : D ∉ μ'.c := st.dis D hD
    have E' := E.unh hn s
    cases c with
    | lst ts =>
      obtain ⟨vs, h, r⟩ := cr
      exact q _ _ H' E' st.unh (by simp only [Rel]; exact ⟨D, vs, rfl, ⟨h, dn, unh_not⟩, Rels.to (μ := μ') (μ' := μ'.unh D) (fun _ _ e => e) unh_keep _ r⟩)
    | dct ks ts =>
      obtain ⟨vs, h, ek, r⟩ := cr
      exact q _ _ H' E' st.unh (by simp only [Rel]; exact ⟨D, vs, rfl, ⟨h, dn, unh_not⟩, ek, Rels.to (μ := μ') (μ' := μ'.unh D) (fun _ _ e => e) unh_keep _ r⟩)
    | kdc ks ts =>
      obtain ⟨vs, h, ek, r⟩ := cr
      exact q _ _ H' E' st.unh (by simp only [Rel]; exact ⟨D, vs, rfl, ⟨h, dn, unh_not⟩, ek, Rels.to (μ := μ') (μ' := μ'.unh D) (fun _ _ e => e) unh_keep _ r⟩)
    | _ => exact q.elim
theorem pf_pure (h : PFN X wx e F) : PF X wx e (fPure F) := PE.imp h fun _ _ _ q => pure_imp q
theorem cell_imp {K : PySem.W.Frag} {σ : L2.St} {H : Hp} {Q : VK} (q : tG K wx (rV K) (fCell F) σ H Q) : tN K wx F σ H Q := by
  obtain ⟨μ, τ, S, s, f, q⟩ := q
  refine ⟨μ, τ, S, s, f, ?_⟩
  unfold fCell at q
  cases e : F τ S with
  | stuck => rw [e] at q; exact q
  | exc x S1 => rw [e] at q; exact q
  | ok c S1 =>
    rw [e] at q
    intro μ' H' D E hn hD st cr
    have fin : isCell c = true → Q (.ref D) H' := fun hc => by
      simp only [Res.bind, hc, if_true] at q
      have E1 := E.unh hn s
      obtain ⟨ν, eν, hν⟩ := E1.pre
      have E2 : Ext H μ H' ((μ'.unh D).more D) := ⟨⟨ν ++ [D], by show (μ'.unh D).c ++ [D] = _; rw [eν, List.append_assoc], fun p hp => (List.mem_append.mp hp).elim (hν p) fun z => by rw [List.mem_singleton.mp z]; exact hn⟩, E1.res, E1.keep, E1.live⟩
      refine q _ _ H' E2 (st.more hD cr) ?_
      simp only [Rel]
      refine ⟨D, ?_, rfl⟩
      show (μ'.c ++ [D])[S1.length]? = some D
      rw [List.getElem?_append_right (by rw [show μ'.c.length = S1.length from st.len]; exact Nat.le_refl _), show μ'.c.length = S1.length from st.len]
      simp
    cases c <;> first | exact fin rfl | exact cr.elim
theorem pf_cell (h : PFN X wx e F) : PF X wx e (fCell F) := PE.imp h fun _ _ _ q => cell_imp q
end
section
variable {X : Cx} {wx : WT} {pos : Pos} {es : List Expr} {Fs : FA}
theorem Ext.back {H H' : Hp} {μ μ' : Mu} (E : Ext H μ H' μ') {p : Addr} (h : H' p = none) : H p = none := by
  cases z : H p with
  | none => rfl
  | some u => exact absurd h (E.live p (by rw [z]; simp))
theorem new_at {K : PySem.W.Frag} {wx : XW} {μ μ0 : Mu} {H0 H : Hp} {c : T} {S : Sto} {Q : VK} {p : Addr} {o : HO} (E : Ext H0 μ0 H μ) (q : postN K wx μ0 H0 (.ok c S) Q) (s : RelS K H μ S) (hp : H p = none) (hc : CellR K (upd H p o) (μ.hide p) p c) : Q (.ref p) (upd H p o) :=
  q (μ.hide p) (upd H p o) p (E.trans (Ext.hide hp)) (E.back hp) List.mem_cons_self (s.hide hp) hc
theorem rels_new {K : PySem.W.Frag} {μ : Mu} {H : Hp} {p : Addr} {o : HO} {ts : List T} {vs : List V} (hp : H p = none) (r : Rels K H μ ts vs) : Rels K (upd H p o) (μ.hide p) ts vs := Rels.to (μ := μ) (μ' := μ.hide p) (fun _ _ e => e) (hide_keep hp) ts r
def fLstN (Fs : FA) : FE := fun τ S => (Fs τ S).bind fun ts S1 => if ts.length ≤ sizeLine then .ok (.lst ts) S1 else .stuck
theorem tG.seqN {α β : Type} {K : PySem.W.Frag} {wx : WT} {rel : RL α β} {F : Fr → Sto → Res α} {k : α → Sto → Res T} {μ : Mu} {H : Hp} {τ : Fr} {σ : L2.St} {S : Sto} {Q : VK} {R : β → Hp → Prop}
    (s : RelS K H μ S) (f : RelF K H μ τ σ) (h : postN K (wx.fr τ σ) μ H ((F τ S).bind k) Q)
    (hR : ∀ μ1 H1 t v S1, At K μ H τ σ rel μ1 H1 t v S1 → postN K (wx.fr τ σ) μ H (k t S1) Q → R v H1) : tG K wx rel F σ H R := by
  refine ⟨μ, τ, S, s, f, ?_⟩
  cases e : F τ S with
  | stuck => rw [e] at h; exact h
  | exc x S1 => rw [e] at h; exact h
  | ok t S1 =>
    rw [e] at h
    exact fun μ1 v H1 x st r => hR μ1 H1 t v S1 ⟨x, st, f.mono x, r⟩ h
theorem pfn_lst (h : PFA X wx es Fs) : PFN X wx (.List es pos) (fLstN Fs) := PE.imp (pe_lst h) fun σ H Q h => by
  obtain ⟨μ, τ, S, s, f, h⟩ := h
  refine tG.seqN s f h fun μ1 H1 x v S1 A1 h1 => ?_
  have r : Rels X.K H1 μ1 x v := A1.rel
  by_cases hl : x.length ≤ sizeLine
  · rw [if_pos hl] at h1
    exact ⟨by rw [← Rels.length r]; exact hl, fun p hp => new_at A1.ext h1 A1.st hp ⟨v, upd_same, rels_new hp r⟩⟩
  · rw [if_neg hl] at h1; exact h1.elim
end
def wipeT (τ : Fr) : List Nat → Fr
  | [] => τ
  | v :: vs => (wipeT τ vs).set v none
theorem relF_none {K : PySem.W.Frag} {H : Hp} {μ : Mu} {τ : Fr} {σ : L2.St} (f : RelF K H μ τ σ) (i : Nat) : RelF K H μ (τ.set i none) (σ.set i none) := by
  refine ⟨by simp [f.1], fun j t e => ?_⟩
  by_cases hj : i = j
  · subst hj
    by_cases hl : i < τ.length
    · rw [List.getElem?_set_self hl] at e; cases e
    · rw [List.getElem?_eq_none (by rw [List.length_set]; omega)] at e; cases e
  · rw [List.getElem?_set_ne hj] at e ⊢
    exact f.2 j t e
theorem relF_wipe {K : PySem.W.Frag} {H : Hp} {μ : Mu} {τ : Fr} {σ : L2.St} (f : RelF K H μ τ σ) : ∀ vs : List Nat, RelF K H μ (wipeT τ vs) (wipe σ vs)
  | [] => f
  | v :: vs => relF_none (relF_wipe f vs) v
theorem wipe_get (σ : L2.St) (i : Nat) : ∀ vs : List Nat, (wipe σ vs)[i]? = if i ∈ vs ∧ i < σ.length then some none else σ[i]?
  | [] => by simp [wipe]
  | v :: vs => by
    have ih := wipe_get σ i vs
    simp only [wipe]
    by_cases hv : v = i
    · subst hv
      by_cases hl : v < σ.length
      · rw [List.getElem?_set_self (by rw [wipe_length]; exact hl), if_pos ⟨List.mem_cons_self, hl⟩]
      · rw [List.getElem?_eq_none (by rw [List.length_set, wipe_length]; omega), if_neg (fun z => hl z.2), List.getElem?_eq_none (by omega)]
    · rw [List.getElem?_set_ne hv, ih]
      have : (i ∈ v :: vs) ↔ i ∈ vs := ⟨fun z => (List.mem_cons.mp z).elim (fun q => absurd q.symm hv) id, List.mem_cons_of_mem _⟩
      simp only [this]
theorem setsV_get (i : Nat) : ∀ (l : List (Nat × V)) (σ : L2.St), i ∉ l.map (·.1) → (setsV σ l)[i]? = σ[i]?
  | [], _, _ => rfl
  | p :: l, σ, h => by
    simp only [List.map_cons, List.mem_cons, not_or] at h
    have := setsV_get i l (σ.set p.1 (some p.2)) h.2
    show (setsV (σ.set p.1 (some p.2)) l)[i]? = _
    rw [this, List.getElem?_set_ne (fun z => h.1 z.symm)]
theorem setsV_length : ∀ (l : List (Nat × V)) (σ : L2.St), (setsV σ l).length = σ.length
  | [], _ => rfl
  | p :: l, σ => by
    show (setsV (σ.set p.1 (some p.2)) l).length = _
    rw [setsV_length l, List.length_set]
theorem wipe_back {σ : L2.St} {vs : List Nat} {l : List (Nat × V)} (h : ∀ i ∈ l.map (·.1), i ∈ vs) : wipe (setsV (wipe σ vs) l) vs = wipe σ vs := by
  apply List.ext_getElem?
  intro i
  rw [wipe_get, setsV_length, wipe_length]
  by_cases hi : i ∈ vs ∧ i < σ.length
  · rw [if_pos hi, wipe_get, if_pos hi]
  · rw [if_neg hi]
    by_cases hv : i ∈ l.map (·.1)
    · have h1 := h i hv
      have h2 : ¬ i < σ.length := fun z => hi ⟨h1, z⟩
      rw [List.getElem?_eq_none (by rw [setsV_length, wipe_length]; omega), List.getElem?_eq_none (by rw [wipe_length]; omega)]
    · rw [setsV_get i l _ hv]
def slotsIn (l : Asg) (vs : List Nat) : Bool := l.all fun p => vs.contains p.1
theorem slotsIn_mem {K : PySem.W.Frag} {H : Hp} {μ : Mu} {l : Asg} {l' : List (Nat × V)} {vs : List Nat} (h : slotsIn l vs = true) (r : AsgR K H μ l l') : ∀ j ∈ l'.map (·.1), j ∈ vs := fun j hj => by
  rw [AsgR.slots r] at hj
  obtain ⟨p, hp, rfl⟩ := List.mem_map.mp hj
  have := List.all_eq_true.mp h p hp
  simpa using this
def lcF (g : GT) (Ft : FT) (Fe : FE) (vs : List Nat) (τ : Fr) : List T → Sto → Res (List T)
  | [], S => .ok [] S
  | x :: xs, S => match g x with
    | none => .stuck
    | some l => if slotsIn l vs then (Ft (setsT τ l) S).nox.bind fun k S1 => match k with
        | true => (Fe (setsT τ l) S1).nox.bind fun y S2 => (lcF g Ft Fe vs τ xs S2).bind fun ys S3 => .ok (y :: ys) S3
        | false => lcF g Ft Fe vs τ xs S1
      else .stuck
def fLc (Fi : FI) (g : GT) (Ft : FT) (Fe : FE) (vs : List Nat) : FE := fun τ S => (Fi τ S).bind fun xs S1 => if xs.length ≤ sizeLine then (lcF g Ft Fe vs (wipeT τ vs) xs S1).bind fun ys S2 => .ok (.lst ys) S2 else .stuck
def fYes : FT := fun _ S => .ok true S
def PFTs (X : Cx) (wx : WT) (ifs : List Expr) (F : FT) : Prop := PTs X ifs (tG X.K wx rB F)
theorem tG.known {α β : Type} {K : PySem.W.Frag} {wx : WT} {rel : RL α β} {F : Fr → Sto → Res α} {μ : Mu} {H : Hp} {τ : Fr} {σ : L2.St} {S S1 : Sto} {t : α} {R : β → Hp → Prop} (s : RelS K H μ S) (f : RelF K H μ τ σ) (e : F τ S = .ok t S1)
    (hR : ∀ μ1 H1 v, At K μ H τ σ rel μ1 H1 t v S1 → R v H1) : tG K wx rel F σ H R := by
  refine ⟨μ, τ, S, s, f, ?_⟩
  rw [e]
  exact fun μ1 v H1 x st r => hR μ1 H1 v ⟨x, st, f.mono x, r⟩
section
variable {X : Cx} {wx : WT} {pos : Pos}
theorem pfts_nil : PFTs X wx [] fYes := ⟨fun pins s σ H Q I h => pts_nil.run pins s σ H Q I (by
  obtain ⟨μ, τ, S, st, f, q⟩ := h
  exact q.here st rfl)⟩
theorem pfts_one {c : Expr} {F : FT} (h : PFT X wx c F) : PFTs X wx [c] F := pts_one h
theorem lc_imp {Fi : FI} {g : GT} {Ft : FT} {Fe : FE} {vs : List Nat} {σ : L2.St} {H : Hp} {Q : VK} (h : tN X.K wx (fLc Fi g Ft Fe vs) σ H Q) : tLc (wiT X.K wx Fi) (gT X.K g) (tG X.K wF rB Ft) (tG X.K wF (rV X.K) Fe) vs σ H Q := by
  obtain ⟨μ, τ, S, s, f, h⟩ := h
  refine tG.seqN s f h fun μ1 H1 xs J S1 A1 h1 => ?_
  by_cases hl : xs.length ≤ sizeLine
  · rw [if_pos hl] at h1
    intro D hD
    have hD0 : H D = none := A1.ext.back hD
    -- what is kept: the list so far stands at D, which no tree names
    refine ⟨fun i m H2 => ∃ M S2 acc accT, Ext H1 μ1 H2 M ∧ D ∈ M.r ∧ RelS X.K H2 M S2 ∧ RelF X.K H2 M τ σ ∧ H2 D = some (.lst acc) ∧ Rels X.K H2 M accT acc ∧ acc.length ≤ i ∧ i ≤ xs.length ∧ m = xs.length - i ∧
        postN X.K (wx.fr τ σ) μ H ((lcF g Ft Fe vs (wipeT τ vs) (xs.drop i) S2).bind fun ys S3 => .ok (.lst (accT ++ ys)) S3) Q,
      ⟨xs.length, μ1.hide D, S1, [], [], Ext.hide hD, List.mem_cons_self, A1.st.hide hD, RelF.to (μ := μ1) (fun _ _ e => e) (hide_keep hD) A1.fr, upd_same, by simp only [Rels], Nat.zero_le _, Nat.zero_le _, rfl, by simpa using h1⟩, fun i m H2 hW => ?_⟩
    obtain ⟨M, S2, acc, accT, E2, nr2, s2, f2, d2, a2, hai, hix, rfl, h2⟩ := hW
    obtain ⟨go, stop⟩ := A1.rel M H2 E2
    by_cases hlt : i < xs.length
    · rw [drop_cons hlt] at h2
      obtain ⟨hgo, hy⟩ := go i xs[i] (List.getElem?_eq_getElem hlt)
      refine .inr ⟨hgo, fun H' => ∃ M S2 acc accT, Ext H1 μ1 H' M ∧ D ∈ M.r ∧ RelS X.K H' M S2 ∧ RelF X.K H' M τ σ ∧ H' D = some (.lst acc) ∧ Rels X.K H' M accT acc ∧ acc.length ≤ i + 1 ∧
        postN X.K (wx.fr τ σ) μ H ((lcF g Ft Fe vs (wipeT τ vs) (xs.drop (i + 1)) S2).bind fun ys S3 => .ok (.lst (accT ++ ys)) S3) Q, fun H' hN' => ?_, fun v H3 yl => ?_⟩
      · obtain ⟨M3, S3, acc3, accT3, q1, q2, q3, q4, q5, q6, q7, q8⟩ := hN'
        exact ⟨xs.length - (i + 1), by omega, M3, S3, acc3, accT3, q1, q2, q3, q4, q5, q6, q7, hlt, rfl, q8⟩
      · -- a turn
        obtain ⟨sm, hr⟩ := hy v H3 yl
        have E3 : Ext H2 M H3 M := Ext.of_same sm
        have s3 := s2.same sm
        have f3 := f2.mono E3
        simp only [lcF] at h2
        cases eg : g xs[i] with
        | none => simp only [eg] at h2; exact h2.elim
        | some l =>
          simp only [eg] at h2
          by_cases ha : slotsIn l vs = true
          · rw [if_pos ha] at h2
            refine ⟨M, xs[i], l, hr S2 s2, eg, fun l' fl => ⟨wipe_back (slotsIn_mem ha fl), ?_⟩⟩
            have fb : RelF X.K H3 M (setsT (wipeT τ vs) l) (setsV (wipe σ vs) l') := RelF.sets fl (relF_wipe f3 vs)
            cases et : Ft (setsT (wipeT τ vs) l) S2 with
            | stuck => rw [et] at h2; exact h2.elim
            | exc x S4 => rw [et] at h2; exact h2.elim
            | ok k S4 =>
              rw [et] at h2
              simp only [Res.nox, Res.bind] at h2
              refine tG.known s3 fb et fun M4 H4 b A4 => ?_
              have e : k = b := A4.rel
              subst e
              have E4 : Ext H2 M H4 M4 := E3.trans A4.ext
              cases k with
              | false =>
                simp only at h2
                refine iteF ⟨M4, S4, acc, accT, E2.trans E4, A4.ext.res.1 D nr2, A4.st, f2.mono E4, ?_, Rels.mono E4 _ a2, by omega, h2⟩
                exact E4.keep D _ d2 (s2.dis D nr2)
              | true =>
                simp only at h2
                refine iteT ?_
                cases ee : Fe (setsT (wipeT τ vs) l) S4 with
                | stuck => rw [ee] at h2; exact h2.elim
                | exc x S5 => rw [ee] at h2; exact h2.elim
                | ok y S5 =>
                  rw [ee] at h2
                  simp only at h2
                  refine tG.known A4.st A4.fr ee fun M5 H5 w A5 => ?_
                  have E5 : Ext H2 M H5 M5 := E4.trans A5.ext
                  have nr5 : D ∈ M5.r := A5.ext.res.1 D (A4.ext.res.1 D nr2)
                  have d5 : H5 D = some (.lst acc) := E5.keep D _ d2 (s2.dis D nr2)
                  refine ⟨acc, d5, by omega, M5, S5, acc ++ [w], accT ++ [y], (E2.trans E5).hid hD, nr5, A5.st.hid nr5, RelF.to (μ := M5) (fun _ _ e => e) (hid_keep nr5) (f2.mono E5), upd_same, ?_, by simp; omega, ?_⟩
                  · refine Rels.to (μ := M5) (fun _ _ e => e) (hid_keep nr5) _ (Rels.append (Rels.mono E5 _ a2) ?_)
                    simp only [Rels]
                    exact ⟨w, [], rfl, A5.rel, rfl⟩
                  · cases er : lcF g Ft Fe vs (wipeT τ vs) (xs.drop (i + 1)) S5 with
                    | stuck => rw [er] at h2; exact h2.elim
                    | exc x S6 => rw [er] at h2; exact h2
                    | ok ys S6 =>
                      rw [er] at h2
                      simp only [Res.bind] at h2 ⊢
                      rw [List.append_assoc]
                      exact h2
          · rw [if_neg ha] at h2; exact h2.elim
    · have e : i = xs.length := by omega
      subst e
      rw [List.drop_length] at h2
      refine .inl ⟨stop _ (Nat.le_refl _), ?_⟩
      simp only [lcF, Res.bind, List.append_nil] at h2
      exact h2 M H2 D (A1.ext.trans E2) hD0 nr2 s2 ⟨acc, d2, a2⟩
  · rw [if_neg hl] at h1; exact h1.elim
theorem pfn_lc {elt tg iter : Expr} {ifs : List Expr} {scope : Scope} {own : List (Str × Nat)} {Fi : FI} {g : GT} {Ft : FT} {Fe : FE} (hc : X.calm = true) (hN : X.N.Nodup) (hi : PFI X wx tg iter Fi) (ok : BlkOk X.N X.env.scope scope own)
    (hg : ∀ (s : Shared) (H : Hp) (C : Addr) (cl : List (Str × Addr)) (fp : List Addr), PFG (X.blk s H scope (compEnvC scope cl C X.env) fp) tg g) (ht : ∀ (s : Shared) (H : Hp) (C : Addr) (cl : List (Str × Addr)) (fp : List Addr), PFTs (X.blk s H scope (compEnvC scope cl C X.env) fp) wF ifs Ft)
    (he : ∀ (s : Shared) (H : Hp) (C : Addr) (cl : List (Str × Addr)) (fp : List Addr), PF (X.blk s H scope (compEnvC scope cl C X.env) fp) wF elt Fe) (hs : ∀ x, foldedSetIterable iter X.env x = pure x := by intro _; rfl) :
    PFN X wx (.ListComp elt [⟨tg, iter, ifs, 0⟩] scope pos) (fLc Fi g Ft Fe (own.map (·.2))) := PE.imp (pe_lc (g := gT X.K g) (tt := tG X.K wF rB Ft) (te := tG X.K wF (rV X.K) Fe) hc hN hi ok hg ht he hs) fun _ _ _ h => lc_imp h
theorem set_imp {K : PySem.W.Frag} {i : Nat} {G : FE} {D : Ends} {σ : L2.St} {H : Hp} (h : tS K wx (bSet i G) D σ H) : tG K wx (rV K) G σ H (fun x H1 => D.nx (σ.set i (some x)) H1) := by
  obtain ⟨μ, τ, S, s, f, h⟩ := h
  exact tG.seqS s f h fun μ1 H1 t v S1 A1 h1 => h1 μ1 _ H1 (Ext.refl _ _) A1.st (A1.fr.set A1.rel)
section
variable {elt tg iter : Expr} {ifs : List Expr} {scope : Scope} {own : List (Str × Nat)} {Fi : FI} {g : GT} {Ft : FT} {Fe : FE} {i : Nat} {y : Str} {py spos : Pos} (hc : X.calm = true) (hN : X.N.Nodup) (hy : X.N[i]? = some y) (hyl : X.env.scope.names.lookup y = some .local)
  (hsw : swapsWith (.ListComp elt [⟨tg, iter, ifs, 0⟩] scope pos) (some (.Name y py)) spos.line X.env = pure true) (hi : PFI X wx tg iter Fi) (ok : BlkOk X.N X.env.scope scope own)
  (hg : ∀ (s : Shared) (H : Hp) (C : Addr) (cl : List (Str × Addr)) (fp : List Addr), PFG (X.blk s H scope (compEnvC scope cl C X.env) fp) tg g) (ht : ∀ (s : Shared) (H : Hp) (C : Addr) (cl : List (Str × Addr)) (fp : List Addr), PFTs (X.blk s H scope (compEnvC scope cl C X.env) fp) wF ifs Ft)
  (he : ∀ (s : Shared) (H : Hp) (C : Addr) (cl : List (Str × Addr)) (fp : List Addr), PF (X.blk s H scope (compEnvC scope cl C X.env) fp) wF elt Fe) (hs : ∀ x, foldedSetIterable iter X.env x = pure x := by intro _; rfl)
include hc hN hy hyl hsw hi ok hg ht he hs
theorem pfs_setLc : PFS X wx (.Assign [.Name y py] (.ListComp elt [⟨tg, iter, ifs, 0⟩] scope pos) spos) (bSet i (fPure (fLc Fi g Ft Fe (own.map (·.2))))) :=
  PS.imp (ps_setLc (g := gT X.K g) (tt := tG X.K wF rB Ft) (te := tG X.K wF (rV X.K) Fe) hc hN hy hyl hsw hi ok hg ht he hs) fun D σ H h => by
    have h1 := pure_imp (set_imp h)
    exact lc_imp h1
end
end
end TL
set_option Elab.async false
set_option linter.all false
set_option maxRecDepth 100000
namespace TL
open PySem PySem.Spec L2
open PyProof.Rows hiding St
mutual
def toD : T → Option PyData
  | .non => some .none
  | .bl b => some (.bool b)
  | .int i => some (.int i)
  | .str x => some (.str x)
  | .tup ts => (toDs ts).map .tuple
  | .lst ts => (toDs ts).map .list
  | .sls ts => (toDs ts).map .list
  | .dct _ _ => none
  | .ref _ => none
  | .val _ => none
  | .ktp ts => (toDs ts).map .tuple
  | .etp ts => (toDs ts).map .tuple
  | .kdc _ _ => none
  | .fdc _ _ => none
def toDs : List T → Option (List PyData)
  | [] => some []
  | t :: ts => (toD t).bind fun d => (toDs ts).bind fun ds => some (d :: ds)
end
mutual
theorem toD_ok {K : PySem.W.Frag} {H : Hp} {μ : Mu} : ∀ (t : T) {v : V} {d : PyData}, toD t = some d → Rel K H μ t v → Dp K H v d
  | .non, _, _, e, r => by simp only [toD] at e; cases e; simp only [Rel] at r; subst r; exact .non
  | .bl _, _, _, e, r => by simp only [toD] at e; cases e; simp only [Rel] at r; subst r; exact .bl _
  | .int _, _, _, e, r => by simp only [toD] at e; cases e; simp only [Rel] at r; subst r; exact .int _
  | .str _, _, _, e, r => by simp only [toD] at e; cases e; simp only [Rel] at r; subst r; exact .str _
  | .tup ts, _, _, e, r => by
    simp only [toD, Option.map_eq_some_iff] at e
    obtain ⟨ds, e, rfl⟩ := e
    simp only [Rel] at r
    obtain ⟨a, xs, rfl, o, r⟩ := r
    exact .tup (o.imp (fun z => z.1) id) (toDs_ok ts e r)
  | .lst ts, _, _, e, r => by
    simp only [toD, Option.map_eq_some_iff] at e
    obtain ⟨ds, e, rfl⟩ := e
    simp only [Rel] at r
    obtain ⟨a, xs, rfl, o, r⟩ := r
    exact .lst (.inl (.inl o.1)) (toDs_ok ts e r)
  | .sls ts, _, _, e, r => by
    simp only [toD, Option.map_eq_some_iff] at e
    obtain ⟨ds, e, rfl⟩ := e
    simp only [Rel] at r
    obtain ⟨a, xs, rfl, o, r⟩ := r
    exact .lst (o.imp (fun z => z.1) id) (toDs_ok ts e r)
  | .dct _ _, _, _, e, _ => by simp only [toD] at e; cases e
  | .ref _, _, _, e, _ => by simp only [toD] at e; cases e
  | .val _, _, _, e, _ => by simp only [toD] at e; cases e
  | .ktp ts, _, _, e, r => by
    simp only [toD, Option.map_eq_some_iff] at e
    obtain ⟨ds, e, rfl⟩ := e
    simp only [Rel] at r
    obtain ⟨a, xs, rfl, ⟨ob, h, _⟩, r⟩ := r
    exact .tup (.inl (.inr ⟨ob, h⟩)) (toDs_ok ts e r)
  | .etp ts, _, _, e, r => by
    simp only [toD, Option.map_eq_some_iff] at e
    obtain ⟨ds, e, rfl⟩ := e
    simp only [Rel] at r
    obtain ⟨a, xs, rfl, o, r⟩ := r
    exact .tup (.inl (.inl o.1)) (toDs_ok ts e r)
  | .kdc _ _, _, _, e, _ => by simp only [toD] at e; cases e
  | .fdc _ _, _, _, e, _ => by simp only [toD] at e; cases e
theorem toDs_ok {K : PySem.W.Frag} {H : Hp} {μ : Mu} : ∀ (ts : List T) {vs : List V} {ds : List PyData}, toDs ts = some ds → Rels K H μ ts vs → DpAll K H vs ds
  | [], _, _, e, r => by simp only [toDs] at e; cases e; simp only [Rels] at r; subst r; exact .nil
  | t :: ts, _, _, e, r => by
    simp only [toDs, Option.bind_eq_some_iff] at e
    obtain ⟨d, e1, ds, e2, e⟩ := e
    cases e
    simp only [Rels] at r
    obtain ⟨v, r', rfl, r1, r2⟩ := r
    exact .cons (toD_ok t e1 r1) (toDs_ok ts e2 r2)
end
def toD1 (S : Sto) (t : T) : Option PyData := match t with
  | .ref n => match S[n]? with
    | some (.lst ts) => (toDs ts).map .list
    | _ => none
  | t => toD t
theorem toD1_ok {K : PySem.W.Frag} {H : Hp} {μ : Mu} {S : Sto} {t : T} {v : V} {d : PyData} (e : toD1 S t = some d) (s : RelS K H μ S) (r : Rel K H μ t v) : Dp K H v d := by
  cases t with
  | ref n =>
    simp only [toD1] at e
    split at e
    · rename_i ts e1
      simp only [Option.map_eq_some_iff] at e
      obtain ⟨ds, e, rfl⟩ := e
      obtain ⟨a, vs, rfl, h, q⟩ := plnL_ok (t := .ref n) (ts := ts) (by simp only [plnL, e1]) s r
      exact .lst (.inl (.inl h)) (toDs_ok ts e q)
    · cases e
  | _ => exact toD_ok _ e r
def getK : List Key → List T → Key → Option T
  | k' :: ks, t :: ts, k => if k' = k then some t else getK ks ts k
  | _, _, _ => none
def putK' (ks : List Key) (ts : List T) (k : Key) (t : T) : List Key × List T :=
  if ks.any (fun k' => decide (k' = k)) then (ks, List.zipWith (fun k' u => if k' = k then t else u) ks ts) else (ks ++ [k], ts ++ [t])
def keyT : T → Option Key
  | .int i => some (.inl i)
  | .str x => some (.inr x)
  | _ => none
def tKey : Key → T
  | .inl i => .int i
  | .inr x => .str x
section
variable {K : PySem.W.Frag} {H : Hp} {μ : Mu} {S : Sto}
theorem keyT_ok {t : T} {k : Key} {v : V} (e : keyT t = some k) (r : Rel K H μ t v) : v = kV k := by
  cases t <;> first
    | (simp only [keyT] at e; cases e; simp only [Rel] at r; subst r; rfl)
    | (simp only [keyT] at e; cases e)
theorem tKey_rel (k : Key) : Rel K H μ (tKey k) (kV k) := by
  cases k <;> simp only [tKey, kV, Rel]
theorem getK_ok : ∀ {kvs : List (Key × V)} {ks : List Key} {ts : List T} {k : Key} {t : T}, kvs.map (·.1) = ks → Rels K H μ ts (kvs.map (·.2)) → getK ks ts k = some t → ∃ v, valV kvs k = some v ∧ Rel K H μ t v
  | [], _, _, _, _, e, _, g => by subst e; simp [getK] at g
  | (k', v) :: kvs, _, ts, k, t, e, r, g => by
    subst e
    cases ts with
    | nil => simp [Rels] at r
    | cons u ts =>
      simp only [List.map_cons, Rels] at r
      obtain ⟨w, r', e, r1, r2⟩ := r
      cases e
      simp only [List.map_cons, getK] at g
      split at g
      · rename_i h
        cases g
        exact ⟨v, valV_pos h, r1⟩
      · rename_i h
        obtain ⟨w, e1, e2⟩ := getK_ok rfl r2 g
        exact ⟨w, by rw [valV_neg h]; exact e1, e2⟩
theorem getK_none : ∀ {kvs : List (Key × V)} {ks : List Key} {ts : List T} {k : Key}, kvs.map (·.1) = ks → Rels K H μ ts (kvs.map (·.2)) → getK ks ts k = none → valV kvs k = none
  | [], _, _, _, e, _, g => rfl
  | (k', v) :: kvs, _, ts, k, e, r, g => by
    subst e
    cases ts with
    | nil => simp [Rels] at r
    | cons u ts =>
      simp only [List.map_cons, Rels] at r
      obtain ⟨w, r', e, r1, r2⟩ := r
      cases e
      simp only [List.map_cons, getK] at g
      split at g
      · cases g
      · rename_i h
        rw [valV_neg h]
        exact getK_none rfl r2 g
theorem rels_zip : ∀ {kvs : List (Key × V)} {ts : List T} {k : Key} {t : T} {v : V}, Rels K H μ ts (kvs.map (·.2)) → Rel K H μ t v →
    Rels K H μ (List.zipWith (fun k' u => if k' = k then t else u) (kvs.map (·.1)) ts) ((kvs.map fun kv => if kv.1 = k then (kv.1, v) else kv).map (·.2))
  | [], ts, k, t, v, r, g => by
    simp only [List.map_nil, List.zipWith_nil_left, Rels]
  | (k', w) :: kvs, ts, k, t, v, r, g => by
    cases ts with
    | nil => simp [Rels] at r
    | cons u ts =>
      simp only [List.map_cons, Rels] at r
      obtain ⟨w', r', e, r1, r2⟩ := r
      cases e
      simp only [List.map_cons, List.zipWith_cons_cons, Rels]
      refine ⟨_, _, rfl, ?_, rels_zip r2 g⟩
      by_cases h : k' = k
      · simp only [h, if_true]; exact g
      · simp only [h, if_false]; exact r1
theorem putK_keys (k : Key) (v : V) : ∀ kvs : List (Key × V), (kvs.map fun kv => if kv.1 = k then (kv.1, v) else kv).map (·.1) = kvs.map (·.1)
  | [] => rfl
  | (k', w) :: kvs => by
    simp only [List.map_cons, putK_keys k v kvs]
    by_cases h : k' = k <;> simp [h]
theorem putK_ok {kvs : List (Key × V)} {ks : List Key} {ts : List T} {k : Key} {t : T} {v : V} (e : kvs.map (·.1) = ks) (r : Rels K H μ ts (kvs.map (·.2))) (g : Rel K H μ t v) :
    (putK kvs k v).map (·.1) = (putK' ks ts k t).1 ∧ Rels K H μ (putK' ks ts k t).2 ((putK kvs k v).map (·.2)) := by
  subst e
  have ha : (kvs.map (·.1)).any (fun k' => decide (k' = k)) = kvs.any (fun kv => decide (kv.1 = k)) := by rw [List.any_map]; rfl
  unfold putK putK'
  rw [ha]
  by_cases h : kvs.any (fun kv => decide (kv.1 = k)) = true
  · rw [if_pos h, if_pos h]
    exact ⟨putK_keys k v kvs, rels_zip r g⟩
  · rw [if_neg h, if_neg h]
    simp only [List.map_append, List.map_cons, List.map_nil]
    exact ⟨trivial, Rels.append r (by simp only [Rels]; exact ⟨v, [], rfl, g, rfl⟩)⟩
end
def addT (S : Sto) (x y : T) : Option T := match x, y with
  | .int i, .int j => some (.int (i + j))
  | .str a, .str b => if a.length + b.length ≤ sizeLine then some (.str (a ++ b)) else none
  | .tup a, .tup b => if a.length + b.length ≤ sizeLine then some (.tup (a ++ b)) else none
  | x, y => match plnL S x, plnL S y with
    | some a, some b => if a.length + b.length ≤ sizeLine then some (.lst (a ++ b)) else none
    | _, _ => none
def intsT (g : Int → Int → Option T) (_ : Sto) (x y : T) : Option T := match x, y with
  | .int i, .int j => g i j
  | _, _ => none
def mulT : Sto → T → T → Option T := intsT fun i j => if (decide (-(2 ^ 64) < i) && decide (i < 2 ^ 64)) || (decide (-(2 ^ 64) < j) && decide (j < 2 ^ 64)) then some (.int (i * j)) else none
def fdivT : Sto → T → T → Option T := intsT fun i j => if decide (0 < j) && decide (j < 1073741824) then some (.int (i / j)) else none
def modT : Sto → T → T → Option T := intsT fun i j => if decide (0 < j) then some (.int (i % j)) else none
def powT : Sto → T → T → Option T := intsT fun i j => if decide (0 ≤ j) && (decide (j ≤ 1000000) && decide (i.natAbs < 2 ^ 64)) then some (.int (i ^ j.toNat)) else none
def subT : Sto → T → T → Option T := intsT fun i j => some (.int (i - j))
def ltT (_ : Sto) (x y : T) : Option T := match x, y with
  | .int i, .int j => some (.bl (decide (i < j)))
  | .str a, .str b => some (.bl (decide (a.cps.toList < b.cps.toList)))
  | _, _ => none
def leT : Sto → T → T → Option T := intsT fun i j => some (.bl (decide (i ≤ j)))
def gtT : Sto → T → T → Option T := intsT fun i j => some (.bl (decide (j < i)))
def geT : Sto → T → T → Option T := intsT fun i j => some (.bl (decide (j ≤ i)))
def dctSame (ks : List Key) (ts : List T) (ls : List Key) (us : List T) : Bool :=
  decide (ks.length = ls.length) && (List.zip ks ts).all fun p => match p.2, getK ls us p.1 with
    | .non, some .non => true
    | .bl a, some (.bl b) => a == b
    | .int a, some (.int b) => decide (a = b)
    | .str a, some (.str b) => decide (a = b)
    | _, _ => false
def eqB (S : Sto) (x y : T) : Option Bool := match toD1 S x, toD1 S y with
  | some d, some e => if SeqAt.shaped d && SeqAt.shaped e then some (PyData.eqv d e) else none
  | _, _ => match dctT S x, dctT S y with
    | some (ks, ts), some (ls, us) => if dctSame ks ts ls us then some true else none
    | _, _ => none
def eqT (S : Sto) (x y : T) : Option T := (eqB S x y).map .bl
def neT (S : Sto) (x y : T) : Option T := (eqB S x y).map fun b => .bl !b
def isNT (_ : Sto) (x y : T) : Option T := match x, y with
  | .non, .non => some (.bl true)
  | .ref _, .non => some (.bl false)
  | .val _, .non => none
  | _, .non => some (.bl false)
  | _, _ => none
def notNT (S : Sto) (x y : T) : Option T := match isNT S x y with
  | some (.bl b) => some (.bl !b)
  | _ => none
def flatT : T → Option V
  | .non => some .non
  | .bl b => some (.bl b)
  | .int i => some (.int i)
  | .str x => some (.str x)
  | _ => none
def flats : List T → Option (List V)
  | [] => some []
  | t :: ts => (flatT t).bind fun v => (flats ts).bind fun vs => some (v :: vs)
def inB (S : Sto) (x y : T) : Option Bool := match dctT S y with
  | some (ks, ts) => match keyT x with
    | some k => some (getK ks ts k).isSome
    | none => none
  | none => match x, y with
    | .str a, .str b => some (!(Builtin.Str.occurrences b a 0 b.length 1).isEmpty)
    | x, .tup ts => match flatT x, flats ts with
      | some v, some vs => some (inV v vs)
      | _, _ => none
    | x, y => match seqL S y with
      | some ts => match flatT x, flats ts with
        | some v, some vs => some (inV v vs)
        | _, _ => none
      | none => none
def inT (S : Sto) (x y : T) : Option T := (inB S x y).map .bl
def ninT (S : Sto) (x y : T) : Option T := (inB S x y).map fun b => .bl !b
def ixT (S : Sto) (x y : T) : Option T := match dctT S x with
  | some (ks, ts) => (keyT y).bind fun k => getK ks ts k
  | none => match x, y with
    | .tup ts, .int i => atI ts i
    | .str a, .int i => if a.length ≤ sizeLine then (atI a.cps.toList i).map fun c => .str ⟨#[c]⟩ else none
    | x, .int i => (seqL S x).bind fun ts => atI ts i
    | _, _ => none
section
variable {X : Cx} {K : PySem.W.Frag} {H : Hp} {μ : Mu} {S : Sto}
theorem rel_bl {b : Bool} : Rel K H μ (.bl b) (.bl b) := by simp only [Rel]
theorem rel_int {b : Int} : Rel K H μ (.int b) (.int b) := by simp only [Rel]
theorem rel_str {b : Str} : Rel K H μ (.str b) (.str b) := by simp only [Rel]
theorem op_ints {f : Value → Value → Sem Value} {C : Int → Int → Prop} {g' : Int → Int → V} {g : Int → Int → Option T} (h : OpR X f (L2.rI C g')) (hg : ∀ i j t, g i j = some t → C i j ∧ ∀ K H μ, Rel K H μ t (g' i j)) : OpR X f (rP X.K (intsT g)) := by
  intro pins s σ H x y v u Q I rx ry q
  obtain ⟨μ, S, tx, ty, t, st, r1, r2, e, q⟩ := q
  unfold intsT at e
  split at e
  · rename_i i j
    simp only [Rel] at r1 r2
    obtain ⟨c, r⟩ := hg i j t e
    exact h pins s σ H x y v u Q I rx ry ⟨i, j, r1, r2, c, q _ H (Same.refl _) (r _ _ _)⟩
  · cases e
theorem op_ints0 {f : Value → Value → Sem Value} {g' : Int → Int → V} {g : Int → Int → Option T} (h : OpR X f (rI0 g')) (hg : ∀ i j t, g i j = some t → ∀ K H μ, Rel K H μ t (g' i j)) : OpR X f (rP X.K (intsT g)) := by
  intro pins s σ H x y v u Q I rx ry q
  obtain ⟨μ, S, tx, ty, t, st, r1, r2, e, q⟩ := q
  unfold intsT at e
  split at e
  · rename_i i j
    simp only [Rel] at r1 r2
    exact h pins s σ H x y v u Q I rx ry ⟨i, j, r1, r2, q _ H (Same.refl _) (hg i j t e _ _ _)⟩
  · cases e
theorem o_sub : OpR X (binaryOp .Sub) (rP X.K subT) := op_ints0 op_sub fun i j t e K H μ => by cases e; exact rel_int
theorem o_mul : OpR X (binaryOp .Mult) (rP X.K mulT) := op_ints op_mul fun i j t e => by
  split at e
  · rename_i h
    cases e
    simp only [Bool.or_eq_true, Bool.and_eq_true, decide_eq_true_eq] at h
    exact ⟨h, fun _ _ _ => rel_int⟩
  · cases e
theorem o_fdiv : OpR X (binaryOp .FloorDiv) (rP X.K fdivT) := op_ints op_fdiv fun i j t e => by
  split at e
  · rename_i h
    cases e
    simp only [Bool.and_eq_true, decide_eq_true_eq] at h
    exact ⟨h, fun _ _ _ => rel_int⟩
  · cases e
theorem o_mod : OpR X (binaryOp .Mod) (rP X.K modT) := op_ints op_mod fun i j t e => by
  split at e
  · rename_i h
    cases e
    simp only [decide_eq_true_eq] at h
    exact ⟨h, fun _ _ _ => rel_int⟩
  · cases e
theorem o_pow : OpR X (binaryOp .Pow) (rP X.K powT) := op_ints op_pow fun i j t e => by
  split at e
  · rename_i h
    cases e
    simp only [Bool.and_eq_true, decide_eq_true_eq] at h
    exact ⟨h, fun _ _ _ => rel_int⟩
  · cases e
theorem o_le : OpR X (compareOp .LtE) (rP X.K leT) := op_ints0 op_le fun i j t e K H μ => by cases e; exact rel_bl
theorem o_gt : OpR X (compareOp .Gt) (rP X.K gtT) := op_ints0 op_gt fun i j t e K H μ => by cases e; exact rel_bl
theorem o_ge : OpR X (compareOp .GtE) (rP X.K geT) := op_ints0 op_ge fun i j t e K H μ => by cases e; exact rel_bl
theorem o_lt : OpR X (compareOp .Lt) (rP X.K ltT) := by
  intro pins s σ H x y v u Q I rx ry q
  obtain ⟨μ, S, tx, ty, t, st, r1, r2, e, q⟩ := q
  unfold ltT at e
  split at e
  · rename_i i j
    cases e
    simp only [Rel] at r1 r2
    exact op_lt pins s σ H x y v u Q I rx ry ⟨i, j, r1, r2, q _ H (Same.refl _) rel_bl⟩
  · rename_i i j
    cases e
    simp only [Rel] at r1 r2
    exact op_lt_str pins s σ H x y v u Q I rx ry ⟨i, j, r1, r2, q _ H (Same.refl _) rel_bl⟩
  · cases e
theorem o_add : OpR X (binaryOp .Add) (rP X.K addT) := by
  intro pins s σ H x y v u Q I rx ry q
  obtain ⟨μ, S, tx, ty, t, st, r1, r2, e, q⟩ := q
  have lists : ∀ {a b : List T}, plnL S tx = some a → plnL S ty = some b → a.length + b.length ≤ sizeLine → t = .lst (a ++ b) → wpAny (model X.prog X.w) X.A (binaryOp .Add v u) (EP X pins σ Q) X.xe s := fun {a b} h1 h2 hl ht => by
    obtain ⟨p, xs, rfl, hp, ra⟩ := plnL_ok h1 st r1
    obtain ⟨p2, ys, rfl, hp2, rb⟩ := plnL_ok h2 st r2
    subst ht
    exact op_cat pins s σ H _ _ v u Q I rx ry ⟨p, p2, xs, ys, rfl, rfl, hp, hp2, by rw [← ra.length, ← rb.length]; exact hl, fun l nl => q _ _ (fresh_same nl) (rel_lst st nl (Rels.append ra rb))⟩
  unfold addT at e
  split at e
  · rename_i i j
    cases e
    simp only [Rel] at r1 r2
    exact op_add pins s σ H x y v u Q I rx ry ⟨i, j, r1, r2, q _ H (Same.refl _) rel_int⟩
  · rename_i a b
    split at e
    · rename_i hl
      cases e
      simp only [Rel] at r1 r2
      exact op_add_str pins s σ H x y v u Q I rx ry ⟨a, b, r1, r2, hl, q _ H (Same.refl _) rel_str⟩
    · cases e
  · rename_i a b
    split at e
    · rename_i hl
      cases e
      obtain ⟨p, xs, rfl, hp, ra⟩ := tup_ok r1
      obtain ⟨p2, ys, rfl, hp2, rb⟩ := tup_ok r2
      refine op_catA pins s σ H _ _ v u Q I rx ry ⟨p, p2, xs, ys, rfl, rfl, hp, hp2, by rw [← ra.length, ← rb.length]; exact hl, fun h => ?_, fun _ h => ?_, fun _ _ l nl => q _ _ (fresh_same nl) (rel_tup st nl (Rels.append ra rb))⟩
      · have : a = [] := List.length_eq_zero_iff.mp (by rw [ra.length, h]; rfl)
        subst this
        exact q _ H (Same.refl _) r2
      · have : b = [] := List.length_eq_zero_iff.mp (by rw [rb.length, h]; rfl)
        subst this
        rw [List.append_nil] at q
        exact q _ H (Same.refl _) r1
    · cases e
  · split at e
    · rename_i a b h1 h2
      split at e
      · rename_i hl
        cases e
        exact lists h1 h2 hl rfl
      · cases e
    · cases e
theorem eqB_dct {ks ls : List Key} {ts us : List T} {x y : V} {tx ty : T} {S : Sto} (st : RelS X.K H μ S) (r1 : Rel X.K H μ tx x) (r2 : Rel X.K H μ ty y) (h1 : dctT S tx = some (ks, ts)) (h2 : dctT S ty = some (ls, us)) (h : dctSame ks ts ls us = true) :
    ∃ a b kvs lvs, x = .ref a ∧ y = .ref b ∧ H a = some (.dK kvs) ∧ H b = some (.dK lvs) ∧ kvs.length = lvs.length ∧ (∀ p ∈ kvs, valV lvs p.1 = some p.2 ∧ flatB p.2 = true) := by
  obtain ⟨a, kvs, rfl, ha, ek, rk⟩ := dctT_ok h1 st r1
  obtain ⟨b, lvs, rfl, hb, el, rl⟩ := dctT_ok h2 st r2
  unfold dctSame at h
  simp only [Bool.and_eq_true, decide_eq_true_eq, List.all_eq_true] at h
  refine ⟨a, b, kvs, lvs, rfl, rfl, ha, hb, by rw [← ek, ← el] at h; simpa using h.1, fun p hp => ?_⟩
  obtain ⟨i, hi, rfl⟩ := List.mem_iff_getElem.mp hp
  have e2 : (kvs.map (·.2))[i]? = some kvs[i].2 := by rw [List.getElem?_map, List.getElem?_eq_getElem hi]; rfl
  obtain ⟨t, et, rt⟩ := rk.getV e2
  have e1 : ks[i]? = some kvs[i].1 := by rw [← ek, List.getElem?_map, List.getElem?_eq_getElem hi]; rfl
  have hz : (kvs[i].1, t) ∈ List.zip ks ts := by
    have : (List.zip ks ts)[i]? = some (kvs[i].1, t) := by rw [List.getElem?_zip_eq_some]; exact ⟨e1, et⟩
    exact List.mem_of_getElem? this
  have q := h.2 _ hz
  simp only at q
  cases t <;> cases eg : getK ls us kvs[i].1 with
  | none => simp [eg] at q
  | some u =>
    rw [eg] at q
    obtain ⟨w, e3, rw'⟩ := getK_ok el rl eg
    cases u <;> simp only [Bool.false_eq_true] at q
    all_goals
      simp only [Rel] at rt rw'
      rw [e3, rt, rw']
      first
        | exact ⟨rfl, rfl⟩
        | (simp only [beq_iff_eq] at q; subst q; exact ⟨rfl, rfl⟩)
        | (simp only [decide_eq_true_eq] at q; subst q; exact ⟨rfl, rfl⟩)
end
end TL
set_option Elab.async false
set_option linter.all false
set_option maxRecDepth 100000
namespace TL
open PySem PySem.Spec L2
open PyProof.Rows hiding St
section
variable {X : Cx} {K : PySem.W.Frag} {H : Hp} {μ : Mu} {S : Sto}
theorem o_eq (hu : X.A.units + 64 < cLine) : OpR X (compareOp .Eq) (rP X.K eqT) := by
  intro pins s σ H x y v u Q I rx ry q
  obtain ⟨μ, S, tx, ty, t, st, r1, r2, e, q⟩ := q
  simp only [eqT, Option.map_eq_some_iff] at e
  obtain ⟨b, e, rfl⟩ := e
  unfold eqB at e
  split at e
  · rename_i d d' h1 h2
    split at e
    · rename_i hs
      cases e
      simp only [Bool.and_eq_true] at hs
      exact op_eqD hu pins s σ H x y v u Q I rx ry ⟨d, d', toD1_ok h1 st r1, toD1_ok h2 st r2, hs.1, hs.2, q _ H (Same.refl _) rel_bl⟩
    · cases e
  · split at e
    · rename_i ks ts ls us h1 h2
      split at e
      · rename_i hs
        cases e
        obtain ⟨a, b, kvs, lvs, e1, e2, ha, hb, hl, hp⟩ := eqB_dct st r1 r2 h1 h2 hs
        exact op_eq_dictA (by omega) pins s σ H x y v u Q I rx ry ⟨a, b, kvs, lvs, e1, e2, ha, hb, hl, hp, q _ H (Same.refl _) rel_bl⟩
      · cases e
    · cases e
theorem o_ne (hu : X.A.units + 64 < cLine) : OpR X (compareOp .NotEq) (rP X.K neT) := by
  intro pins s σ H x y v u Q I rx ry q
  obtain ⟨μ, S, tx, ty, t, st, r1, r2, e, q⟩ := q
  simp only [neT, Option.map_eq_some_iff] at e
  obtain ⟨b, e, rfl⟩ := e
  unfold eqB at e
  split at e
  · rename_i d d' h1 h2
    split at e
    · rename_i hs
      cases e
      simp only [Bool.and_eq_true] at hs
      exact op_neD hu pins s σ H x y v u Q I rx ry ⟨d, d', toD1_ok h1 st r1, toD1_ok h2 st r2, hs.1, hs.2, q _ H (Same.refl _) rel_bl⟩
    · cases e
  · split at e
    · rename_i ks ts ls us h1 h2
      split at e
      · rename_i hs
        cases e
        obtain ⟨a, b, kvs, lvs, e1, e2, ha, hb, hl, hp⟩ := eqB_dct st r1 r2 h1 h2 hs
        exact op_ne_dictA (by omega) pins s σ H x y v u Q I rx ry ⟨a, b, kvs, lvs, e1, e2, ha, hb, hl, hp, q _ H (Same.refl _) rel_bl⟩
      · cases e
    · cases e
theorem isNT_ok {tx ty t : T} {x y : V} (e : isNT S tx ty = some t) (r1 : Rel K H μ tx x) (r2 : Rel K H μ ty y) : y = .non ∧ t = .bl (decide (x = .non)) := by
  cases ty <;> (try (cases tx <;> simp only [isNT] at e <;> cases e; done))
  simp only [Rel] at r2
  subst r2
  cases tx <;> simp only [isNT] at e <;> (try (cases e; done)) <;> cases e <;> simp only [Rel] at r1
  · subst r1; exact ⟨rfl, rfl⟩
  · subst r1; exact ⟨rfl, rfl⟩
  · subst r1; exact ⟨rfl, rfl⟩
  · subst r1; exact ⟨rfl, rfl⟩
  all_goals
    first
      | (obtain ⟨a, _, rfl, _⟩ := r1; exact ⟨rfl, rfl⟩)
      | (obtain ⟨a, _, rfl⟩ := r1; exact ⟨rfl, rfl⟩)
theorem o_is : OpR X (compareOp .Is) (rP X.K isNT) := by
  intro pins s σ H x y v u Q I rx ry q
  obtain ⟨μ, S, tx, ty, t, st, r1, r2, e, q⟩ := q
  obtain ⟨e1, rfl⟩ := isNT_ok e r1 r2
  exact op_isN pins s σ H x y v u Q I rx ry ⟨e1, q _ H (Same.refl _) rel_bl⟩
theorem o_isnot : OpR X (compareOp .IsNot) (rP X.K notNT) := by
  intro pins s σ H x y v u Q I rx ry q
  obtain ⟨μ, S, tx, ty, t, st, r1, r2, e, q⟩ := q
  unfold notNT at e
  split at e
  · rename_i b e1
    cases e
    obtain ⟨e2, e3⟩ := isNT_ok e1 r1 r2
    cases e3
    exact op_notN pins s σ H x y v u Q I rx ry ⟨e2, q _ H (Same.refl _) rel_bl⟩
  · cases e
theorem flatT_ok {t : T} {v w : V} (e : flatT t = some w) (r : Rel K H μ t v) : v = w ∧ flatV w = true := by
  cases t <;> simp only [flatT] at e <;> cases e <;> simp only [Rel] at r <;> subst r <;> exact ⟨rfl, rfl⟩
theorem flats_ok : ∀ {ts : List T} {vs ws : List V}, flats ts = some ws → Rels K H μ ts vs → vs = ws ∧ ws.all flatV = true
  | [], _, _, e, r => by simp only [flats] at e; cases e; simp only [Rels] at r; subst r; exact ⟨rfl, rfl⟩
  | t :: ts, _, _, e, r => by
    simp only [flats, Option.bind_eq_some_iff] at e
    obtain ⟨w, e1, ws, e2, e⟩ := e
    cases e
    simp only [Rels] at r
    obtain ⟨v, r', rfl, r1, r2⟩ := r
    obtain ⟨rfl, f1⟩ := flatT_ok e1 r1
    obtain ⟨rfl, f2⟩ := flats_ok e2 r2
    exact ⟨rfl, by simp [f1, f2]⟩
inductive InFact (K : PySem.W.Frag) (H : Hp) (x y : V) (b : Bool) : Prop
  | dict (a : Addr) (o : Option V) (e : y = .ref a) (g : DGet H a x o) (h : b = o.isSome)
  | str (i j : Str) (e1 : x = .str i) (e2 : y = .str j) (h : b = !(Builtin.Str.occurrences j i 0 j.length 1).isEmpty)
  | seq (p : Addr) (xs : List V) (e : y = .ref p) (hs : SqL K H p xs ∨ SqT K H p xs) (fx : flatV x = true) (fs : xs.all flatV = true) (h : b = inV x xs)
theorem inB_ok {tx ty : T} {x y : V} {b : Bool} (e : inB S tx ty = some b) (st : RelS K H μ S) (r1 : Rel K H μ tx x) (r2 : Rel K H μ ty y) : InFact K H x y b := by
  unfold inB at e
  split at e
  · rename_i ks ts h
    obtain ⟨a, kvs, rfl, ha, ek, rk⟩ := dctT_ok h st r2
    split at e
    · rename_i k hk
      cases e
      have := keyT_ok hk r1
      subst this
      refine .dict a (valV kvs k) rfl (DGet.k ha) ?_
      cases g : getK ks ts k with
      | none => rw [getK_none ek rk g]; rfl
      | some t =>
        obtain ⟨v, e1, _⟩ := getK_ok ek rk g
        rw [e1]; rfl
    · cases e
  · split at e
    · cases e
      simp only [Rel] at r1 r2
      exact .str _ _ r1 r2 rfl
    · split at e
      · rename_i v vs h1 h2
        cases e
        obtain ⟨p, xs, rfl, hp, rk⟩ := tup_ok r2
        obtain ⟨rfl, f1⟩ := flatT_ok h1 r1
        obtain ⟨rfl, f2⟩ := flats_ok h2 rk
        exact .seq p _ rfl (.inr hp) f1 f2 rfl
      · cases e
    · split at e
      · rename_i ts hs
        split at e
        · rename_i v vs h1 h2
          cases e
          obtain ⟨p, xs, rfl, hp, rk⟩ := seqL_ok hs st r2
          obtain ⟨rfl, f1⟩ := flatT_ok h1 r1
          obtain ⟨rfl, f2⟩ := flats_ok h2 rk
          exact .seq p _ rfl (.inl hp) f1 f2 rfl
        · cases e
      · cases e
theorem o_in (hu : X.A.units + 64 < cLine) : OpR X (compareOp .In) (rP X.K inT) := by
  intro pins s σ H x y v u Q I rx ry q
  obtain ⟨μ, S, tx, ty, t, st, r1, r2, e, q⟩ := q
  simp only [inT, Option.map_eq_some_iff] at e
  obtain ⟨b, e, rfl⟩ := e
  have q1 := q _ H (Same.refl _) rel_bl
  rcases inB_ok e st r1 r2 with ⟨a, o, rfl, g, rfl⟩ | ⟨i, j, rfl, rfl, rfl⟩ | ⟨p, xs, rfl, hs, fx, fs, rfl⟩
  · cases ry
    exact d_in (by omega) I g rx fun s' I' => ⟨.bl o.isSome, H, I', rfl, q1⟩
  · exact op_in_str pins s σ H _ _ v u Q I rx ry ⟨i, j, rfl, rfl, q1⟩
  · exact op_in_seq pins s σ H _ _ v u Q I rx ry ⟨p, xs, rfl, hs, fx, fs, by simpa using q1⟩
theorem o_nin (hu : X.A.units + 64 < cLine) : OpR X (compareOp .NotIn) (rP X.K ninT) := by
  intro pins s σ H x y v u Q I rx ry q
  obtain ⟨μ, S, tx, ty, t, st, r1, r2, e, q⟩ := q
  simp only [ninT, Option.map_eq_some_iff] at e
  obtain ⟨b, e, rfl⟩ := e
  have q1 := q _ H (Same.refl _) rel_bl
  rcases inB_ok e st r1 r2 with ⟨a, o, rfl, g, rfl⟩ | ⟨i, j, rfl, rfl, rfl⟩ | ⟨p, xs, rfl, hs, fx, fs, rfl⟩
  · cases ry
    exact d_notIn (by omega) I g rx fun s' I' => ⟨.bl (!o.isSome), H, I', rfl, q1⟩
  · exact op_notin_str pins s σ H _ _ v u Q I rx ry ⟨i, j, rfl, rfl, q1⟩
  · exact op_notIn_seq pins s σ H _ _ v u Q I rx ry ⟨p, xs, rfl, hs, fx, fs, by simpa using q1⟩
theorem ix_dict (hu : X.A.units + 64 < cLine) : IxR X (fun x y H Q => ∃ a v, x = .ref a ∧ DGet H a y (some v) ∧ Q v H) := by
  intro value slice pins s σ H x y v u Q I rx ry q hs
  obtain ⟨a, w, rfl, g, q⟩ := q
  cases rx
  have hT := dict_typeIs I g
  unfold subscriptTail
  refine wpAny_bind ?_
  rw [getitemInPython_of_ne hT.not_modules]
  refine wpAny_bind (wpAny_specialOf hT PySem.F.slot_dict_getitem.lookup ?_)
  have fin : wpAny (model X.prog X.w) X.A (subscripted slice false (.ref a) u) (fun r s₃ => wpAny (model X.prog X.w) X.A (letTemporaryGo value (.ref a) r >>= fun _ => pure r) (EP X pins σ Q) X.xe s₃) X.xe s := by
    rw [hs]
    exact wpAny_operating (wpAny_mono (d_getItem (by omega) I g ry fun w' s' I' rw' => (⟨w, H, I', rw', q⟩ : EP X pins σ Q w' s')) (fun r s₃ h₃ => wpAny_bind (wpAny_letTemporaryGo (wpAny_pure h₃))) fun _ _ x => x)
  first
    | exact wpAny_pure (wpAny_bind fin)
    | exact wpAny_bind (wpAny_pure (wpAny_bind fin))
    | exact wpAny_bind fin
theorem atI_rels {ts : List T} {vs : List V} {i : Int} {t : T} (r : Rels K H μ ts vs) (e : atI ts i = some t) : ∃ v, atI vs i = some v ∧ Rel K H μ t v := by
  unfold atI at e ⊢
  rw [← r.length]
  cases h : ixN ts.length i with
  | none => rw [h] at e; cases e
  | some j =>
    rw [h] at e
    obtain ⟨v, e1, e2⟩ := r.get (show ts[j]? = some t from e)
    exact ⟨v, e1, e2⟩
theorem o_ix (hu : X.A.units + 64 < cLine) : IxR X (rP X.K ixT) := by
  intro value slice pins s σ H x y v u Q I rx ry q hs
  obtain ⟨μ, S, tx, ty, t, st, r1, r2, e, q⟩ := q
  unfold ixT at e
  split at e
  · rename_i ks ts h
    simp only [Option.bind_eq_some_iff] at e
    obtain ⟨k, hk, g⟩ := e
    obtain ⟨a, kvs, rfl, ha, ek, rk⟩ := dctT_ok h st r1
    have := keyT_ok hk r2
    subst this
    obtain ⟨w, e1, rw'⟩ := getK_ok ek rk g
    refine ix_dict hu value slice pins s σ H _ _ v u Q I rx ry ⟨a, w, rfl, ?_, q w H (Same.refl _) rw'⟩ hs
    rw [← e1]
    exact DGet.k ha
  · split at e
    · rename_i ts i _
      obtain ⟨a, vs, rfl, ha, r⟩ := tup_ok r1
      simp only [Rel] at r2
      obtain ⟨w, e1, rw'⟩ := atI_rels r e
      exact ix_tup value slice pins s σ H _ _ v u Q I rx ry ⟨a, vs, i, w, rfl, r2, ha, e1, q w H (Same.refl _) rw'⟩ hs
    · rename_i a i _
      simp only [Rel] at r1 r2
      split at e
      · rename_i hl
        simp only [Option.map_eq_some_iff] at e
        obtain ⟨c, e, rfl⟩ := e
        exact ix_str value slice pins s σ H _ _ v u Q I rx ry ⟨a, i, c, r1, r2, hl, e, q _ H (Same.refl _) rel_str⟩ hs
      · cases e
    · rename_i i _ _
      simp only [Option.bind_eq_some_iff] at e
      obtain ⟨ts, h, e⟩ := e
      obtain ⟨a, vs, rfl, ha, r⟩ := seqL_ok h st r1
      simp only [Rel] at r2
      obtain ⟨w, e1, rw'⟩ := atI_rels r e
      exact ix_list value slice pins s σ H _ _ v u Q I rx ry ⟨a, vs, i, w, rfl, r2, ha, e1, q w H (Same.refl _) rw'⟩ hs
    · cases e
variable {wx : WT} {pos : Pos} {a b : Expr} {Fa Fb : FE}
theorem pf_ix (hu : X.A.units + 64 < cLine) (ha : PF X wx a Fa) (hb : PF X wx b Fb) (hs : PlainIx b := by intro _ _; rfl) : PF X wx (.Subscript a b pos) (fBin ixT Fa Fb) := PE.imp (pe_ix (o_ix hu) ha hb hs) fun _ _ _ h => bin_imp h
def cutT (ts : List T) (lo hi : Option Int) : List T := (ts.drop (HT.sIx ts.length 0 lo)).take (HT.sIx ts.length ts.length hi - HT.sIx ts.length 0 lo)
def slT (S : Sto) (x : T) (lo hi : Option Int) : Option T := match x with
  | .tup ts => some (.tup (cutT ts lo hi))
  | x => (seqL S x).map fun ts => .lst (cutT ts lo hi)
theorem cut_rels {ts : List T} {vs : List V} {lo hi : Option Int} (r : Rels K H μ ts vs) : Rels K H μ (cutT ts lo hi) (cutV vs lo hi) := by
  unfold cutT cutV
  rw [← r.length]
  exact Rels.take _ (Rels.drop _ r)
theorem cut_whole {ts : List T} {lo hi : Option Int} (h : HT.sIx ts.length 0 lo = 0 ∧ HT.sIx ts.length ts.length hi = ts.length) : cutT ts lo hi = ts := by
  unfold cutT
  rw [h.1, h.2]
  simp
theorem o_sl : SlR X (fun x lo hi H Q => ∃ μ S tx t, RelS X.K H μ S ∧ Rel X.K H μ tx x ∧ slT S tx lo hi = some t ∧ ∀ v H', Same H H' → Rel X.K H' μ t v → Q v H') := by
  intro pins s σ H x v vl vu lo hi sl Q I rx hs pl pu q
  obtain ⟨μ, S, tx, t, st, r1, e, q⟩ := q
  unfold slT at e
  split at e
  · rename_i ts
    cases e
    obtain ⟨a, vs, rfl, ha, r⟩ := tup_ok r1
    refine sl_tupA pins s σ H _ v vl vu lo hi sl Q I rx hs pl pu ⟨a, vs, rfl, ha, fun h => ?_, fun _ p hp => q _ _ (fresh_same hp) (rel_tup st hp (cut_rels r))⟩
    rw [← r.length] at h
    rw [cut_whole h] at q
    exact q _ H (Same.refl _) r1
  · simp only [Option.map_eq_some_iff] at e
    obtain ⟨ts, h, rfl⟩ := e
    obtain ⟨a, vs, rfl, ha, r⟩ := seqL_ok h st r1
    exact sl_list pins s σ H _ v vl vu lo hi sl Q I rx hs pl pu ⟨a, vs, rfl, ha, fun p hp => q _ _ (fresh_same hp) (rel_lst st hp (cut_rels r))⟩
abbrev FO := Fr → Sto → Res (Option Int)
def PFO (X : Cx) (wx : WT) (e : Option Expr) (F : FO) : Prop := PO X e (tG X.K wx (fun _ _ a b => a = b) F)
def foN : FO := fun _ S => .ok none S
def foS (F : FE) : FO := fun τ S => (F τ S).bind fun t S1 => match t with
  | .int i => .ok (some i) S1
  | _ => .stuck
theorem PO.imp {X : Cx} {e : Option Expr} {t t' : TO} (h : PO X e t) (i : ∀ σ H Q, t' σ H Q → t σ H Q) : PO X e t' := ⟨fun pins s σ H Q I q => h.run pins s σ H Q I (i σ H Q q)⟩
theorem pfo_none : PFO X wx none foN := PO.imp po_none fun σ H Q ⟨μ, τ, S, s, f, h⟩ => h.here s rfl
theorem pfo_some (h : PF X wx a Fa) : PFO X wx (some a) (foS Fa) := PO.imp (po_some h) fun σ H Q h => by
  obtain ⟨μ, τ, S, s, f, h⟩ := h
  refine tG.seq s f h fun μ1 H1 t v S1 A1 h1 => ?_
  have r := A1.rel
  cases t with
  | int i =>
    simp only [Rel] at r
    exact ⟨i, r, h1.here A1.st rfl⟩
  | _ => exact h1.elim
def fSl (F : FE) (L U : FO) : FE := fun τ S => (F τ S).bind fun x S1 => (L τ S1).bind fun l S2 => (U τ S2).bind fun u S3 => ofO (slT S3 x l u) S3
theorem pf_slice {lo hi : Option Expr} {L U : FO} {p2 : Pos} (ha : PF X wx a Fa) (hl : PFO X wx lo L) (hh : PFO X wx hi U) : PF X wx (.Subscript a (.Slice lo hi none p2) pos) (fSl Fa L U) := PE.imp (pe_slice o_sl ha hl hh) fun σ H Q h => by
  obtain ⟨μ, τ, S, s, f, h⟩ := h
  refine tG.seq s f h fun μ1 H1 x v S1 A1 h1 => tG.seq A1.st A1.fr h1 fun μ2 H2 l l' S2 A2 h2 => tG.seq A2.st A2.fr h2 fun μ3 H3 u u' S3 A3 h3 => ?_
  obtain ⟨t, e, q⟩ := post_ofO h3 A3.st
  have e1 : l = l' := A2.rel
  have e2 : u = u' := A3.rel
  subst e1 e2
  exact ⟨μ3, S3, x, t, A3.st, Rel.mono A3.ext x (Rel.mono A2.ext x A1.rel), e, q⟩
end
end TL
set_option Elab.async false
set_option linter.all false
set_option maxRecDepth 100000
namespace TL
open PySem PySem.Spec L2
open PyProof.Rows hiding St
section
variable {X : Cx} {wx : WT} {pos : Pos} {K : PySem.W.Frag} {H : Hp} {μ : Mu} {S : Sto}
def lenT (S : Sto) (ts : List T) : Option T := match ts with
  | [.str x] => if x.length ≤ sizeLine then some (.int x.length) else none
  | [.tup ts] => some (.int ts.length)
  | [t] => match dctT S t with
    | some (ks, _) => some (.int ks.length)
    | none => (seqL S t).map fun ts => .int ts.length
  | _ => none
theorem rels1 {t : T} {vs : List V} (r : Rels K H μ [t] vs) : ∃ v, vs = [v] ∧ Rel K H μ t v := by
  simp only [Rels] at r
  obtain ⟨v, _, rfl, r, rfl⟩ := r
  exact ⟨v, rfl, r⟩
theorem rels2 {t u : T} {vs : List V} (r : Rels K H μ [t, u] vs) : ∃ v w, vs = [v, w] ∧ Rel K H μ t v ∧ Rel K H μ u w := by
  simp only [Rels] at r
  obtain ⟨v, _, rfl, r, w, _, rfl, r2, rfl⟩ := r
  exact ⟨v, w, rfl, r, r2⟩
theorem c_len : CallR X (.builtin "len") (rN X.K lenT) := by
  intro pins s σ H xs us Q I rv q
  obtain ⟨μ, S, ts, t, st, r, e, q⟩ := q
  unfold lenT at e
  split at e
  · split at e
    · rename_i hl
      cases e
      obtain ⟨v, ev, rr⟩ := rels1 r
      subst ev
      replace r := rr
      simp only [Rel] at r
      subst r
      exact call_len pins s σ H _ us Q I rv ⟨_, _, rfl, ⟨hl, rfl⟩, q _ H (Same.refl _) rel_int⟩
    · cases e
  · rename_i ts
    cases e
    obtain ⟨v, ev, rr⟩ := rels1 r
    subst ev
    replace r := rr
    obtain ⟨a, vs, rfl, ha, r⟩ := tup_ok r
    exact call_len pins s σ H _ us Q I rv ⟨_, _, rfl, .inr ⟨vs, ha, r.length⟩, q _ H (Same.refl _) rel_int⟩
  · rename_i t' _ _
    obtain ⟨v, ev, rr⟩ := rels1 r
    subst ev
    replace r := rr
    split at e
    · rename_i ks ts h
      cases e
      obtain ⟨a, kvs, rfl, ha, ek, rk⟩ := dctT_ok h st r
      obtain ⟨u, rfl, rx⟩ := vals1 rv
      cases rx
      exact d_len I (.inl ha) fun t s' I' => ⟨.int kvs.length, H, I', ⟨_, rfl⟩, by
        have : ks.length = kvs.length := by rw [← ek, List.length_map]
        rw [← this]; exact q _ H (Same.refl _) rel_int⟩
    · simp only [Option.map_eq_some_iff] at e
      obtain ⟨ts, h, rfl⟩ := e
      obtain ⟨a, vs, rfl, ha, r⟩ := seqL_ok h st r
      exact call_len pins s σ H _ us Q I rv ⟨_, _, rfl, .inl ⟨vs, ha, r.length⟩, q _ H (Same.refl _) rel_int⟩
  · cases e
def intT (_ : Sto) (ts : List T) : Option T := match ts with
  | [.int i] => some (.int i)
  | [.bl k] => some (.int (if k then 1 else 0))
  | _ => none
theorem c_int : CallR X (.type "int") (rN X.K intT) := by
  intro pins s σ H xs us Q I rv q
  obtain ⟨μ, S, ts, t, st, r, e, q⟩ := q
  unfold intT at e
  split at e
  · cases e
    obtain ⟨v, ev, rr⟩ := rels1 r
    subst ev
    replace r := rr
    simp only [Rel] at r
    subst r
    exact call_int1 pins s σ H _ us Q I rv (.inl ⟨_, rfl, q _ H (Same.refl _) rel_int⟩)
  · cases e
    obtain ⟨v, ev, rr⟩ := rels1 r
    subst ev
    replace r := rr
    simp only [Rel] at r
    subst r
    exact call_int1 pins s σ H _ us Q I rv (.inr ⟨_, rfl, q _ H (Same.refl _) rel_int⟩)
  · cases e
def minT (_ : Sto) (ts : List T) : Option T := match ts with
  | [.int i, .int j] => some (.int (if j < i then j else i))
  | _ => none
theorem c_min (hc : X.calm = true) : CallR X (.builtin "min") (rN X.K minT) := by
  intro pins s σ H xs us Q I rv q
  obtain ⟨μ, S, ts, t, st, r, e, q⟩ := q
  unfold minT at e
  split at e
  · cases e
    obtain ⟨v, w, ev, rr, r2⟩ := rels2 r
    subst ev
    replace r := rr
    simp only [Rel] at r r2
    subst r r2
    exact call_min2 hc pins s σ H _ us Q I rv ⟨_, _, rfl, q _ H (Same.refl _) rel_int⟩
  · cases e
def tupT (S : Sto) (ts : List T) : Option T := match ts with
  | [.tup ts] => some (.tup ts)
  | [t] => (seqL S t).map .tup
  | _ => none
theorem c_tup : CallR X (.type "tuple") (rN X.K tupT) := by
  intro pins s σ H xs us Q I rv q
  obtain ⟨μ, S, ts, t, st, r, e, q⟩ := q
  unfold tupT at e
  split at e
  · cases e
    obtain ⟨v, ev, rr⟩ := rels1 r
    subst ev
    replace r := rr
    have r0 := r
    obtain ⟨a, vs, rfl, ha, r⟩ := tup_ok r
    exact call_tuple_of pins s σ H _ us Q I rv ⟨a, vs, rfl, .inr ⟨ha, q _ H (Same.refl _) r0⟩⟩
  · obtain ⟨v, ev, rr⟩ := rels1 r
    subst ev
    replace r := rr
    simp only [Option.map_eq_some_iff] at e
    obtain ⟨ts, h, rfl⟩ := e
    obtain ⟨a, vs, rfl, ha, r⟩ := seqL_ok h st r
    exact call_tuple_of pins s σ H _ us Q I rv ⟨a, vs, rfl, .inl ⟨ha, fun l hl => q _ _ (fresh_same hl) (rel_tup st hl r)⟩⟩
  · cases e
def bools : List T → Option (List Bool)
  | [] => some []
  | .bl b :: ts => (bools ts).map (b :: ·)
  | _ => none
theorem bools_ok : ∀ {ts : List T} {vs : List V} {bs : List Bool}, bools ts = some bs → Rels K H μ ts vs → vs = bs.map V.bl
  | [], _, _, e, r => by simp only [bools] at e; cases e; simp only [Rels] at r; subst r; rfl
  | .bl b :: ts, _, _, e, r => by
    simp only [bools, Option.map_eq_some_iff] at e
    obtain ⟨bs, e, rfl⟩ := e
    simp only [Rels, Rel] at r
    obtain ⟨v, r', rfl, rfl, r⟩ := r
    rw [bools_ok e r]
    rfl
  | .non :: _, _, _, e, _ | .int _ :: _, _, _, e, _ | .str _ :: _, _, _, e, _ | .tup _ :: _, _, _, e, _ | .lst _ :: _, _, _, e, _ | .sls _ :: _, _, _, e, _ | .dct _ _ :: _, _, _, e, _ | .ref _ :: _, _, _, e, _ | .val _ :: _, _, _, e, _ => by simp only [bools] at e; cases e
def allT (S : Sto) (ts : List T) : Option T := match ts with
  | [t] => (seqL S t).bind fun ts => (bools ts).map fun bs => .bl (bs.all id)
  | _ => none
def anyT (S : Sto) (ts : List T) : Option T := match ts with
  | [t] => (seqL S t).bind fun ts => (bools ts).map fun bs => .bl (bs.any id)
  | _ => none
theorem c_all (hc : X.calm = true) : CallR X (.builtin "all") (rN X.K allT) := by
  intro pins s σ H xs us Q I rv q
  obtain ⟨μ, S, ts, t, st, r, e, q⟩ := q
  unfold allT at e
  split at e
  · obtain ⟨v, ev, rr⟩ := rels1 r
    subst ev
    replace r := rr
    simp only [Option.bind_eq_some_iff, Option.map_eq_some_iff] at e
    obtain ⟨ts, h, bs, hb, rfl⟩ := e
    obtain ⟨a, vs, rfl, ha, r⟩ := seqL_ok h st r
    rw [bools_ok hb r] at ha
    exact cr_all hc pins s σ H _ us Q I rv ⟨a, bs, rfl, ha, q _ H (Same.refl _) rel_bl⟩
  · cases e
theorem c_any (hc : X.calm = true) : CallR X (.builtin "any") (rN X.K anyT) := by
  intro pins s σ H xs us Q I rv q
  obtain ⟨μ, S, ts, t, st, r, e, q⟩ := q
  unfold anyT at e
  split at e
  · obtain ⟨v, ev, rr⟩ := rels1 r
    subst ev
    replace r := rr
    simp only [Option.bind_eq_some_iff, Option.map_eq_some_iff] at e
    obtain ⟨ts, h, bs, hb, rfl⟩ := e
    obtain ⟨a, vs, rfl, ha, r⟩ := seqL_ok h st r
    rw [bools_ok hb r] at ha
    exact cr_any hc pins s σ H _ us Q I rv ⟨a, bs, rfl, ha, q _ H (Same.refl _) rel_bl⟩
  · cases e
def tyT (S : Sto) : T → Option String
  | .non => some "NoneType"
  | .bl _ => some "bool"
  | .int _ => some "int"
  | .str _ => some "str"
  | .tup _ => some "tuple"
  | .lst _ => some "list"
  | .sls _ => some "list"
  | .dct _ _ => some "dict"
  | .ref n => match S[n]? with
    | some (.lst _) => some "list"
    | some (.dct _ _) => some "dict"
    | _ => none
  | .val _ => none
  | .ktp _ => some "tuple"
  | .etp _ => some "tuple"
  | .kdc _ _ => none
  | .fdc _ _ => none
theorem tyT_ok {t : T} {v : V} {n : String} (e : tyT S t = some n) (st : RelS K H μ S) (r : Rel K H μ t v) : TyX K H v (.type n) := by
  cases t with
  | ktp ts =>
    simp only [tyT] at e; cases e
    simp only [Rel] at r
    obtain ⟨a, xs, rfl, ⟨o, z, _⟩, r⟩ := r
    exact .fTuple z
  | etp ts =>
    simp only [tyT] at e; cases e
    simp only [Rel] at r
    obtain ⟨a, xs, rfl, o, r⟩ := r
    exact .base (.tup o.1)
  | kdc ks ts => simp only [tyT] at e; cases e
  | fdc ks ts => simp only [tyT] at e; cases e
  | non => simp only [tyT] at e; cases e; simp only [Rel] at r; subst r; exact .base .non
  | bl b => simp only [tyT] at e; cases e; simp only [Rel] at r; subst r; exact .base (.bl _)
  | int b => simp only [tyT] at e; cases e; simp only [Rel] at r; subst r; exact .base (.int _)
  | str b => simp only [tyT] at e; cases e; simp only [Rel] at r; subst r; exact .base (.str _)
  | tup ts =>
    simp only [tyT] at e; cases e
    simp only [Rel] at r
    obtain ⟨a, xs, rfl, o, r⟩ := r
    rcases o with ⟨z | ⟨o, z⟩, _⟩ | ⟨o, its, n, z, hc, _⟩
    · exact .base (.tup z)
    · exact .fTuple z
    · exact .kTuple z hc
  | lst ts =>
    simp only [tyT] at e; cases e
    simp only [Rel] at r
    obtain ⟨a, xs, rfl, o, r⟩ := r
    exact .base (.lst o.1)
  | sls ts =>
    simp only [tyT] at e; cases e
    simp only [Rel] at r
    obtain ⟨a, xs, rfl, o, r⟩ := r
    rcases o with ⟨z | ⟨o, z⟩, _⟩ | ⟨o, its, n, z, hc, _⟩
    · exact .base (.lst z)
    · exact .base (.frz z)
    · exact .kList z hc
  | dct ks ts =>
    simp only [tyT] at e; cases e
    simp only [Rel] at r
    obtain ⟨a, xs, rfl, o, r⟩ := r
    exact .base (.dK o.1)
  | ref n =>
    simp only [tyT] at e
    split at e
    · rename_i ts e1
      cases e
      obtain ⟨a, vs, rfl, h, _⟩ := plnL_ok (t := .ref n) (ts := ts) (by simp only [plnL, e1]) st r
      exact .base (.lst h)
    · rename_i ks ts e1
      cases e
      obtain ⟨a, vs, rfl, h, _⟩ := dctT_ok (t := .ref n) (ks := ks) (ts := ts) (by simp only [dctT, e1]) st r
      exact .base (.dK h)
    · cases e
  | val u => simp only [tyT] at e; cases e
def isiT (S : Sto) (ts : List T) : Option T := match ts with
  | [t, .val (.ty n)] => (tyT S t).bind fun m => (kitB m n).map .bl
  | _ => none
theorem c_isi : CallR X (.builtin "isinstance") (rN X.K isiT) := by
  intro pins s σ H xs us Q I rv q
  obtain ⟨μ, S, ts, t, st, r, e, q⟩ := q
  unfold isiT at e
  split at e
  · obtain ⟨v, w, ev, rr, r2⟩ := rels2 r
    subst ev
    replace r := rr
    simp only [Rel] at r2
    subst r2
    simp only [Option.bind_eq_some_iff, Option.map_eq_some_iff] at e
    obtain ⟨m, hm, b, hb, rfl⟩ := e
    exact call_isi pins s σ H _ us Q I rv ⟨_, _, _, _, _, rfl, .ty _, tyT_ok hm st r, kit_ty hb, q _ H (Same.refl _) rel_bl⟩
  · cases e
def dispD : PyData → Bool
  | .list _ => true
  | .tuple _ => true
  | _ => false
def reprT (S : Sto) (ts : List T) : Option T := match ts with
  | [t] => (toD1 S t).bind fun d => if dispD d && d.showable && !d.hasDict && decide (d.depth ≤ 60) && decide (d.shown.length ≤ sizeLine) then some (.str d.shown) else none
  | _ => none
theorem c_repr (hgd : X.A.guards = some []) (hu : X.A.units + 64 < cLine) : CallR X (.builtin "repr") (rN X.K reprT) := by
  intro pins s σ H xs us Q I rv q
  obtain ⟨μ, S, ts, t, st, r, e, q⟩ := q
  unfold reprT at e
  split at e
  · obtain ⟨v, ev, rr⟩ := rels1 r
    subst ev
    replace r := rr
    simp only [Option.bind_eq_some_iff] at e
    obtain ⟨d, hd, e⟩ := e
    split at e
    · rename_i h
      cases e
      simp only [Bool.and_eq_true, Bool.not_eq_true', decide_eq_true_eq] at h
      obtain ⟨⟨⟨⟨h1, h2⟩, h3⟩, h4⟩, h5⟩ := h
      obtain ⟨u, rfl, rx⟩ := vals1 rv
      have dp := toD1_ok hd st r
      obtain ⟨as, rd⟩ := Dp.reads I d v u dp rx
      have href : ∃ a, u = .ref a := by
        cases dp with
        | lst => cases rx; exact ⟨_, rfl⟩
        | tup => cases rx; exact ⟨_, rfl⟩
        | _ => cases h1
      obtain ⟨a, rfl⟩ := href
      exact repr_of_reads' rd h2 (PyData.noDict_hsm h3) hgd (by omega) (fun _ _ e => e) (fun h' u tk hk => ⟨.str d.shown, H, I.kept hk, ⟨_, rfl⟩, q _ H (Same.refl _) rel_str⟩) h5
    · cases e
  · cases e
def rNw (K : PySem.W.Frag) (g : Sto → List T → Option T) : List V → Hp → VK → Prop := fun xs H Q => ∃ μ S ts c, RelS K H μ S ∧ Rels K H μ ts xs ∧ g S ts = some c ∧ ∀ p o, H p = none → CellR K (upd H p o) (μ.hide p) p c → Q (.ref p) (upd H p o)
variable {x : Str} {p : Pos} {e : Expr} {es : List Expr} {Fs : FA} {g : Sto → List T → Option T} {id : String}
theorem nw_imp {σ : L2.St} {H : Hp} {Q : VK} (h : tN X.K wx (fBlt g Fs) σ H Q) : tCB (rNw X.K g) (tG X.K wx (rVs X.K) Fs) σ H Q := by
  obtain ⟨μ, τ, S, s, fr, h⟩ := h
  refine tG.seqN s fr h fun μ1 H1 ts vs S1 A1 h1 => ?_
  cases e : g S1 ts with
  | none => simp only [e, ofO] at h1; exact h1.elim
  | some c =>
    simp only [e, ofO] at h1
    exact ⟨μ1, S1, ts, c, A1.st, A1.rel, e, fun p o hp hc => new_at A1.ext h1 A1.st hp hc⟩
theorem pfn_blt (hc : CallR X (.builtin id) (rNw X.K g)) (hm : X.mg x = none) (hv : bootBuiltins x = some (.builtin id)) (ha : PFA X wx (e :: es) Fs) (hg : Gl X x := by rfl) (hn : x ≠ "__name__" := by decide) (hdb : (x == ("__debug__" : Str)) = false := by decide)
    (he : starEach (e :: es) X.env = (false, eval e X.env) :: starEach es X.env := by rfl) (hpl : (backTo pos (starEach es X.env)).any (·.1) = false := by rfl) : PFN X wx (.Call (.Name x p) (e :: es) [] pos) (fBlt g Fs) :=
  PE.imp (pe_callB hc hg hm hv ha hn hdb he hpl) fun _ _ _ h => nw_imp h
theorem pfn_bltTy (hc : CallR X (.type id) (rNw X.K g)) (hm : X.mg x = none) (hv : bootBuiltins x = some (.type id)) (ha : PFA X wx (e :: es) Fs) (hg : Gl X x := by rfl) (hn : x ≠ "__name__" := by decide) (hdb : (x == ("__debug__" : Str)) = false := by decide)
    (he : starEach (e :: es) X.env = (false, eval e X.env) :: starEach es X.env := by rfl) (hpl : (backTo pos (starEach es X.env)).any (·.1) = false := by rfl) : PFN X wx (.Call (.Name x p) (e :: es) [] pos) (fBlt g Fs) :=
  PE.imp (pe_callTy hc hg hm hv ha hn hdb he hpl) fun _ _ _ h => nw_imp h
def listT (S : Sto) (ts : List T) : Option T := match ts with
  | [.tup ts] => some (.lst ts)
  | [t] => match dctT S t with
    | some (ks, _) => some (.lst (ks.map tKey))
    | none => (seqL S t).map .lst
  | _ => none
theorem keys_rels : ∀ ks : List Key, Rels K H μ (ks.map tKey) (ks.map kV)
  | [] => by simp only [List.map_nil, Rels]
  | k :: ks => by
    simp only [List.map_cons, Rels]
    exact ⟨kV k, _, rfl, tKey_rel k, keys_rels ks⟩
theorem c_list (hc : X.calm = true) : CallR X (.type "list") (rNw X.K listT) := by
  intro pins s σ H xs us Q I rv q
  obtain ⟨μ, S, ts, t, st, r, e, q⟩ := q
  unfold listT at e
  split at e
  · cases e
    obtain ⟨v, ev, rr⟩ := rels1 r
    subst ev
    replace r := rr
    obtain ⟨a, vs, rfl, ha, r⟩ := tup_ok r
    exact call_list_of pins s σ H _ us Q I rv ⟨a, vs, rfl, .inr ha, fun l hl => q _ _ hl ⟨vs, upd_same, rels_new hl r⟩⟩
  · obtain ⟨v, ev, rr⟩ := rels1 r
    subst ev
    replace r := rr
    split at e
    · rename_i ks ts h
      cases e
      obtain ⟨a, kvs, rfl, ha, ek, rk⟩ := dctT_ok h st r
      refine call_listD hc pins s σ H _ us Q I rv ⟨a, kvs, rfl, .inl ha, fun l hl => q _ _ hl ⟨_, upd_same, ?_⟩⟩
      have := keys_rels (K := X.K) (H := upd H l (.lst (kvs.map fun kv => kV kv.1))) (μ := μ.hide l) ks
      rw [← ek, List.map_map] at this
      rw [← ek, List.map_map]
      rw [List.map_map] at this
      exact this
    · simp only [Option.map_eq_some_iff] at e
      obtain ⟨ts, h, rfl⟩ := e
      obtain ⟨a, vs, rfl, ha, r⟩ := seqL_ok h st r
      exact call_list_of pins s σ H _ us Q I rv ⟨a, vs, rfl, .inl ha, fun l hl => q _ _ hl ⟨vs, upd_same, rels_new hl r⟩⟩
  · cases e
def mergeT (kt : List Key × List T) (more : List (Key × T)) : List Key × List T := more.foldl (fun acc kv => putK' acc.1 acc.2 kv.1 kv.2) kt
theorem merge_ok : ∀ {more : List (Key × T)} {kvs m : List (Key × V)} {ks : List Key} {ts : List T}, kvs.map (·.1) = ks → Rels K H μ ts (kvs.map (·.2)) → m.map (·.1) = more.map (·.1) → Rels K H μ (more.map (·.2)) (m.map (·.2)) →
    (mergeK kvs m).map (·.1) = (mergeT (ks, ts) more).1 ∧ Rels K H μ (mergeT (ks, ts) more).2 ((mergeK kvs m).map (·.2))
  | [], kvs, m, ks, ts, e, r, em, rm => by
    have : m = [] := by simpa using em
    subst this
    exact ⟨e, r⟩
  | (k, t) :: more, kvs, m, ks, ts, e, r, em, rm => by
    cases m with
    | nil => simp at em
    | cons p m =>
      obtain ⟨k', v⟩ := p
      simp only [List.map_cons, List.cons.injEq] at em
      obtain ⟨rfl, em⟩ := em
      simp only [List.map_cons, Rels] at rm
      obtain ⟨w, r', e', r1, r2⟩ := rm
      cases e'
      obtain ⟨q1, q2⟩ := putK_ok (k := k') (t := t) (v := v) e r r1
      exact merge_ok (more := more) (m := m) q1 q2 em r2
end
end TL
set_option Elab.async false
set_option linter.all false
set_option maxRecDepth 100000
namespace TL
open PySem PySem.Spec L2
open PyProof.Rows hiding St
section
variable {K : PySem.W.Frag} {H : Hp} {μ : Mu} {S : Sto} {n : Nat} {a : Addr} {o : HO} {c : T}
theorem cell_keep (ha : μ.c[n]? = some a) : ∀ b u, H b = some u → μ.out b → upd H a o b = some u ∧ μ.out b := fun b u e z => ⟨by rw [upd_ne (fun q : b = a => z.1 (q ▸ List.mem_of_getElem? ha))]; exact e, z⟩
theorem Ext.setc (ha : μ.c[n]? = some a) : Ext H μ (upd H a o) μ :=
  ⟨⟨[], by simp, fun _ z => nomatch z⟩, ⟨fun _ z => z, fun _ z => .inl z⟩, fun b u e z => by rw [upd_ne (fun q : b = a => z (q ▸ List.mem_of_getElem? ha))]; exact e, fun b z => by
    by_cases q : b = a
    · subst q; rw [upd_same]; simp
    · rw [upd_ne q]; exact z⟩
theorem RelS.setc (s : RelS K H μ S) (ha : μ.c[n]? = some a) (hc : CellR K (upd H a o) μ a c) : RelS K (upd H a o) μ (S.set n c) := by
  have hn : n < S.length := by rw [← s.len]; exact (List.getElem?_eq_some_iff.mp ha).1
  refine ⟨by rw [List.length_set]; exact s.len, s.nd, fun m c' b e1 e2 => ?_, fun p hp => ?_, s.dis⟩
  · by_cases h : n = m
    · subst h
      rw [List.getElem?_set_self hn] at e1
      cases e1
      rw [ha] at e2
      cases e2
      exact hc
    · rw [List.getElem?_set_ne h] at e1
      have ne : b ≠ a := fun q => by
        subst q
        obtain ⟨h1, e1'⟩ := List.getElem?_eq_some_iff.mp ha
        obtain ⟨h2, e2'⟩ := List.getElem?_eq_some_iff.mp e2
        exact h ((List.getElem_inj s.nd).mp (e1'.trans e2'.symm))
      exact CellR.to (μ := μ) (fun _ _ e => e) (cell_keep ha) (q := s.cell m c' b e1 e2) fun u e => by rw [upd_ne ne]; exact e
  · by_cases q : p = a
    · subst q; rw [upd_same]; simp
    · rw [upd_ne q]; exact s.live p hp
theorem rels_setc (ha : μ.c[n]? = some a) {ts : List T} {vs : List V} (r : Rels K H μ ts vs) : Rels K (upd H a o) μ ts vs := Rels.to (μ := μ) (μ' := μ) (fun _ _ e => e) (cell_keep ha) ts r
theorem rel_setc (ha : μ.c[n]? = some a) {t : T} {v : V} (r : Rel K H μ t v) : Rel K (upd H a o) μ t v := Rel.to (μ := μ) (μ' := μ) (fun _ _ e => e) (cell_keep ha) t r
end
section
variable {X : Cx} {wx : WT} {pos : Pos}
def lstAt (S : Sto) (n : Nat) : Option (List T) := match S[n]? with
  | some (.lst ts) => some ts
  | _ => none
theorem lstAt_ok {K : PySem.W.Frag} {H : Hp} {μ : Mu} {S : Sto} {n : Nat} {ts : List T} (e : lstAt S n = some ts) (s : RelS K H μ S) : ∃ a vs, μ.c[n]? = some a ∧ H a = some (.lst vs) ∧ Rels K H μ ts vs := by
  unfold lstAt at e
  split at e
  · rename_i us h
    cases e
    obtain ⟨a, ha, vs, h1, h2⟩ := cell_at s h
    exact ⟨a, vs, ha, h1, h2⟩
  · cases e
def fApp (Fo : FE) (Fs : FA) : FE := fun τ S => (Fo τ S).bind fun o S1 => match o with
  | .ref n => match lstAt S1 n with
    | some _ => (Fs τ S1).bind fun ts S2 => match ts, lstAt S2 n with
      | [y], some xs => if xs.length < sizeLine then .ok .non (S2.set n (.lst (xs ++ [y]))) else .stuck
      | _, _ => .stuck
    | none => .stuck
  | _ => .stuck
theorem pf_append {o e : Expr} {Fo : FE} {Fs : FA} {apos cpos : Pos} (ho : PF X wx o Fo) (ha : PFA X wx [e] Fs)
    (hbase : attributeBase o "append" X.env (eval o X.env) = eval o X.env := by rfl)
    (hfew : ((backTo cpos (starEach [e] X.env)).all (fun x => !x.1) && (backToKw cpos (keywordEach [] X.env)).all (fun x => x.1.isSome)
      && decide (([e] : List Expr).length + ([] : List Keyword).length + (if ([] : List Keyword).isEmpty then 0 else 1) < 30)) = true := by rfl)
    (hline : (apos.endLine == cpos.line) = true := by rfl) (hs : starEach [e] X.env = (false, eval e X.env) :: starEach [] X.env := by rfl) (hplain : (backTo cpos (starEach [] X.env)).any (·.1) = false := by rfl) :
    PF X wx (.Call (.Attribute o "append" apos) [e] [] cpos) (fApp Fo Fs) := PE.imp (pe_bm PySem.F.plainAttrs_list PySem.F.slot_list_append PySem.F.type_list_append mt_append ho ha hbase hfew hline hs hplain) fun σ H Q h => by
  obtain ⟨μ, τ, S, s, f, h⟩ := h
  refine tG.seq s f h fun μ1 H1 x v S1 A1 h1 => ?_
  cases x with
  | ref n =>
    simp only at h1
    cases e1 : lstAt S1 n with
    | none => simp only [e1] at h1; exact h1.elim
    | some us =>
      simp only [e1] at h1
      have r := A1.rel
      simp only [Rel] at r
      obtain ⟨a, ha1, rfl⟩ := r
      obtain ⟨a', vs, ha', hl, _⟩ := lstAt_ok e1 A1.st
      rw [ha1] at ha'
      cases ha'
      refine ⟨.inl ⟨rfl, vs, .inl (.inl hl)⟩, tG.seq A1.st A1.fr h1 fun μ2 H2 ts ws S2 A2 h2 => ?_⟩
      have r2 := A2.rel
      split at h2
      · rename_i y xs e2
        obtain ⟨w, rfl, r3⟩ := rels1 r2
        split at h2
        · rename_i hz
          obtain ⟨b, us', hb, hl2, r4⟩ := lstAt_ok e2 A2.st
          obtain ⟨ν, eν, _⟩ := A2.ext.pre
          have ha2 : μ2.c[n]? = some a := by rw [eν, List.getElem?_append_left (List.getElem?_eq_some_iff.mp ha1).1]; exact ha1
          rw [ha2] at hb
          cases hb
          refine ⟨a, us', w, rfl, rfl, hl2, by rw [← r4.length]; exact hz, h2 μ2 .non _ (Ext.setc ha2) (A2.st.setc ha2 ⟨_, upd_same, ?_⟩) (by simp only [Rel])⟩
          refine Rels.append (rels_setc ha2 r4) ?_
          simp only [Rels]
          exact ⟨w, [], rfl, rel_setc ha2 r3, rfl⟩
        · exact h2.elim
      · exact h2.elim
  | _ => exact h1.elim
def setT (S : Sto) (o i v : T) : Option Sto := match o with
  | .ref n => match S[n]? with
    | some (.lst ts) => match i with
      | .int k => (ixN ts.length k).map fun j => S.set n (.lst (ts.set j v))
      | _ => none
    | some (.dct ks ts) => (keyT i).bind fun k => if ks.length < sizeLine then some (S.set n (.dct (putK' ks ts k v).1 (putK' ks ts k v).2)) else none
    | _ => none
  | _ => none
def rSet (K : PySem.W.Frag) : TSet := fun o i v H Q => ∃ μ S to ti tv S', RelS K H μ S ∧ Rel K H μ to o ∧ Rel K H μ ti i ∧ Rel K H μ tv v ∧ setT S to ti tv = some S' ∧ ∀ H', Ext H μ H' μ → RelS K H' μ S' → Q H'
theorem o_set (hu : X.A.units + 64 < cLine) : PSet X (rSet X.K) := by
  intro pins s σ H o i v ov iv u Q I ro ri rv q
  obtain ⟨μ, S, to, ti, tv, S', st, r1, r2, r3, e, q⟩ := q
  cases to with
  | ref n =>
    simp only [setT] at e
    split at e
    · rename_i ts e1
      split at e
      · rename_i k
        simp only [Option.map_eq_some_iff] at e
        obtain ⟨j, hj, rfl⟩ := e
        simp only [Rel] at r1 r2
        obtain ⟨a, ha, rfl⟩ := r1
        subst r2
        obtain ⟨a', ha', vs, hl, rl⟩ := cell_at st e1
        rw [ha] at ha'
        cases ha'
        exact set_list pins s σ H _ _ v ov iv u Q I ro ri rv ⟨a, vs, k, j, rfl, rfl, hl, by rw [← rl.length]; exact hj, q _ (Ext.setc ha) (st.setc ha ⟨_, upd_same, Rels.set j (rels_setc ha rl) (rel_setc ha r3)⟩)⟩
      · cases e
    · rename_i ks ts e1
      simp only [Option.bind_eq_some_iff] at e
      obtain ⟨k, hk, e⟩ := e
      split at e
      · rename_i hz
        cases e
        have := keyT_ok hk r2
        subst this
        simp only [Rel] at r1
        obtain ⟨a, ha, rfl⟩ := r1
        obtain ⟨a', ha', kvs, hl, ek, rk⟩ := cell_at st e1
        rw [ha] at ha'
        cases ha'
        cases ro
        obtain ⟨z1, z2⟩ := putK_ok (k := k) (t := tv) (v := v) ek rk r3
        refine d_setItem (by omega) I (DPut.k hl (by rw [← ek, List.length_map] at hz; exact hz)) ri rv fun s' I' => ⟨_, I', q _ (Ext.setc ha) (st.setc ha ⟨_, upd_same, z1, rels_setc ha z2⟩)⟩
      · cases e
    · cases e
  | _ => cases e
def bStore (Fo Fi Fv : FE) : BS := fun τ S => (Fv τ S).bindS τ fun v S1 => (Fo τ S1).bindS τ fun o S2 => (Fi τ S2).bindS τ fun i S3 => match setT S3 o i v with
  | some S4 => .nx τ S4
  | none => .stuck
theorem pfs_store {o i e : Expr} {Fo Fi Fv : FE} {tpos : Pos} (hu : X.A.units + 64 < cLine) (he : PF X wx e Fv) (ho : PF X wx o Fo) (hi : PF X wx i Fi)
    (ha : ∀ v, assign (.Subscript o i tpos) X.env v = (do
      let ov ← holding [v] (eval o X.env)
      let iv ← holding [v, ov] (eval i X.env)
      standAt tpos
      holding [v, ov, iv] (setItem ov iv v)
      release [v, ov, iv] []) := by intro _; rfl)
    (hs : swapsWithSole [.Subscript o i tpos] e pos.line X.env = pure false := by rfl) (hw : swappedStores [.Subscript o i tpos] e X.env = pure none := by rfl)
    (h1 : (assignEach [.Subscript o i tpos] X.env).map (·.2) = [assign (.Subscript o i tpos) X.env] := by rfl) : PFS X wx (.Assign [.Subscript o i tpos] e pos) (bStore Fo Fi Fv) := PS.imp (ps_asg he (pg_sub ho hi (o_set hu) ha) hs hw h1) fun D σ H h => by
  obtain ⟨μ, τ, S, s, f, h⟩ := h
  refine tG.seqS s f h fun μ1 H1 v v' S1 A1 h1 => tG.seqS A1.st A1.fr h1 fun μ2 H2 o o' S2 A2 h2 => tG.seqS A2.st A2.fr h2 fun μ3 H3 i i' S3 A3 h3 => ?_
  cases e : setT S3 o i v with
  | none => simp only [e] at h3; exact h3.elim
  | some S4 =>
    simp only [e] at h3
    exact ⟨μ3, S3, o, i, v, S4, A3.st, Rel.mono A3.ext _ A2.rel, A3.rel, Rel.mono A3.ext _ (Rel.mono A2.ext _ A1.rel), e, fun H' E st => h3 μ3 σ H' E st (A3.fr.mono E)⟩
def prF : List (FE × FE) → Fr → Sto → Res (List (T × T))
  | [], _, S => .ok [] S
  | (Fk, Fv) :: r, τ, S => (Fk τ S).bind fun k S1 => (Fv τ S1).bind fun v S2 => (prF r τ S2).bind fun ps S3 => .ok ((k, v) :: ps) S3
def PFPs (X : Cx) (wx : WT) (pos : Pos) (ks : List (Option Expr)) (vs : List Expr) (fs : List (FE × FE)) : Prop := PPs X pos ks vs (fs.map fun p => (tG X.K wx (rV X.K) p.1, tG X.K wx (rV X.K) p.2))
theorem pfps_nil : PFPs X wx pos [] [] [] := pps_nil
theorem pfps_cons {k v : Expr} {ks : List (Option Expr)} {vs : List Expr} {Fk Fv : FE} {fs : List (FE × FE)} (hk : PF X wx k Fk) (hv : PF X wx v Fv) (hr : PFPs X wx pos ks vs fs) : PFPs X wx pos (some k :: ks) (v :: vs) ((Fk, Fv) :: fs) := pps_cons hk hv hr
inductive PrR (K : PySem.W.Frag) (H : Hp) (μ : Mu) : List (T × T) → List (V × V) → Prop
  | nil : PrR K H μ [] []
  | cons {a b : T} {x y : V} {l : List (T × T)} {l' : List (V × V)} : Rel K H μ a x → Rel K H μ b y → PrR K H μ l l' → PrR K H μ ((a, b) :: l) ((x, y) :: l')
theorem prs_run {K : PySem.W.Frag} {τ : Fr} {σ : L2.St} : ∀ {fs : List (FE × FE)} {μ : Mu} {H : Hp} {S S1 : Sto} {prs : List (T × T)} {Q : List (V × V) → Hp → Prop}, RelS K H μ S → RelF K H μ τ σ → prF fs τ S = .ok prs S1 →
    (∀ μ1 H1 vps, Ext H μ H1 μ1 → RelS K H1 μ1 S1 → PrR K H1 μ1 prs vps → Q vps H1) → tPairs (fs.map fun p => (tG K wx (rV K) p.1, tG K wx (rV K) p.2)) σ H Q
  | [], μ, H, S, S1, prs, Q, s, f, e, h => by
    simp only [prF] at e
    cases e
    exact h μ H [] (Ext.refl _ _) s .nil
  | (Fk, Fv) :: r, μ, H, S, S1, prs, Q, s, f, e, h => by
    simp only [prF] at e
    cases ek : Fk τ S with
    | stuck => rw [ek] at e; cases e
    | exc x S' => rw [ek] at e; cases e
    | ok k S2 =>
      rw [ek] at e
      simp only [Res.bind] at e
      cases ev : Fv τ S2 with
      | stuck => rw [ev] at e; cases e
      | exc x S' => rw [ev] at e; cases e
      | ok v S3 =>
        rw [ev] at e
        simp only at e
        cases er : prF r τ S3 with
        | stuck => rw [er] at e; cases e
        | exc x S' => rw [er] at e; cases e
        | ok ps S4 =>
          rw [er] at e
          cases e
          refine tG.known s f ek fun μ1 H1 x A1 => tG.known A1.st A1.fr ev fun μ2 H2 y A2 => prs_run A2.st A2.fr er fun μ3 H3 vps E3 s3 r3 => ?_
          exact h μ3 H3 _ ((A1.ext.trans A2.ext).trans E3) s3 (.cons (Rel.mono E3 _ (Rel.mono A2.ext _ A1.rel)) (Rel.mono E3 _ A2.rel) r3)
def keyed : List (T × T) → Option (List (Key × T))
  | [] => some []
  | (k, v) :: r => (keyT k).bind fun k => (keyed r).map fun r => (k, v) :: r
theorem keyed_ok {K : PySem.W.Frag} {H : Hp} {μ : Mu} : ∀ {prs : List (T × T)} {m : List (Key × T)} {vps : List (V × V)}, keyed prs = some m → PrR K H μ prs vps → ∃ kvs : List (Key × V), vps = kvs.map (fun kv => (kV kv.1, kv.2)) ∧ kvs.map (·.1) = m.map (·.1) ∧ Rels K H μ (m.map (·.2)) (kvs.map (·.2))
  | [], _, _, e, r => by
    simp only [keyed] at e; cases e
    cases r
    exact ⟨[], rfl, rfl, by simp only [List.map_nil, Rels]⟩
  | (k, v) :: prs, _, _, e, r => by
    simp only [keyed, Option.bind_eq_some_iff, Option.map_eq_some_iff] at e
    obtain ⟨k', hk, m, hm, rfl⟩ := e
    cases r with
    | @cons _ _ x y _ _ r1 r2 r3 =>
      obtain ⟨kvs, rfl, q1, q2⟩ := keyed_ok hm r3
      have := keyT_ok hk r1
      subst this
      exact ⟨(k', y) :: kvs, rfl, by simp [q1], by simp only [List.map_cons, Rels]; exact ⟨y, _, rfl, r2, q2⟩⟩
def fDisp (fs : List (FE × FE)) : FE := fun τ S => (prF fs τ S).nox.bind fun prs S1 => match keyed prs with
  | some m => if m.length ≤ 15 then .ok (.dct (mergeT ([], []) m).1 (mergeT ([], []) m).2) S1 else .stuck
  | none => .stuck
theorem pfn_disp {ks : List (Option Expr)} {vs : List Expr} {fs : List (FE × FE)} (h : PFPs X wx pos ks vs fs) (hall : ks.all (·.isSome) = true := by rfl) (hl : ks.length = vs.length := by rfl) (h0 : ks ≠ [] := by exact fun z => nomatch z) (h15 : ks.length ≤ 15 := by decide) :
    PFN X wx (.Dict ks vs pos) (fDisp fs) := PE.imp (pe_disp h hall hl h0 h15) fun σ H Q q => by
  obtain ⟨μ, τ, S, s, f, q⟩ := q
  intro p hp
  unfold fDisp at q
  cases e : prF fs τ S with
  | stuck => rw [e] at q; exact q.elim
  | exc x S1 => rw [e] at q; exact q.elim
  | ok prs S1 =>
    rw [e] at q
    simp only [Res.nox, Res.bind] at q
    have f1 : RelF X.K (upd H p (.dK [])) (μ.hide p) τ σ := RelF.to (μ := μ) (fun _ _ e => e) (hide_keep hp) f
    refine prs_run (s.hide hp) f1 e fun μ1 H1 vps E1 s1 r1 => ?_
    have dn : p ∈ μ1.r := E1.res.1 p List.mem_cons_self
    have hd : H1 p = some (.dK []) := E1.keep p _ upd_same (fun z => (s.hide (o := .dK []) hp).dis p List.mem_cons_self z)
    refine ⟨hd, ?_⟩
    cases ek : keyed prs with
    | none => simp only [ek] at q; exact q.elim
    | some m =>
      simp only [ek] at q
      split at q
      · rename_i hz
        obtain ⟨kvs, e2, q1, q2⟩ := keyed_ok ek r1
        have hlen : kvs.length = m.length := by simpa using congrArg List.length q1
        refine ⟨kvs, e2, by omega, ?_⟩
        obtain ⟨z1, z2⟩ := merge_ok (more := m) (kvs := []) (m := kvs) (ks := []) (ts := []) (K := X.K) (H := H1) (μ := μ1) rfl (by simp only [List.map_nil, Rels]) q1 q2
        refine q μ1 _ p (((Ext.hide hp).trans E1).hid hp) hp dn (s1.hid dn) ⟨_, upd_same, z1, Rels.to (μ := μ1) (μ' := μ1) (fun _ _ e => e) (hid_keep dn) _ z2⟩
      · exact q.elim
theorem pfn_dict0 : PFN X wx (.Dict [] [] pos) (fun _ S => .ok (.dct [] []) S) := PE.imp pe_dnewK fun σ H Q q => by
  obtain ⟨μ, τ, S, s, f, q⟩ := q
  exact fun p hp => new_at (Ext.refl _ _) q s hp ⟨[], upd_same, rfl, by simp only [List.map_nil, Rels]⟩
def itemsT (ks : List Key) (ts : List T) : List T := List.zipWith (fun k t => .tup [tKey k, t]) ks ts
def fItems (F : FE) : FE := fun τ S => (F τ S).bind fun d S1 => match dctT S1 d with
  | some (ks, ts) => .ok (.lst (itemsT ks ts)) S1
  | none => .stuck
end
end TL
set_option Elab.async false
set_option linter.all false
set_option maxRecDepth 100000
namespace TL
open PySem PySem.Spec L2
open PyProof.Rows hiding St
open AutoSeq1 (wpAny_loadPart') in
set_option maxHeartbeats 1000000 in
theorem enum_newT (a : Addr) (items : Array Value) (n : Nat) (dd : Option Addr) (sl : Array (Option Value)) :
    Meets (Builtin.«enumerate.__new__» ⟨[.type "enumerate", .ref a], []⟩) (fun _ R s => s.heap.get? a = some { cls := .type "tuple", dict := dd, data := .seq items n, slots := sl } ∧
      R (.ok (.ret (.ref (s.heap.push { cls := .type "tuple_iterator", data := .fields #[.ref a, .int 0 0] }).objs.size)))
        { s with heap := (s.heap.push { cls := .type "tuple_iterator", data := .fields #[.ref a, .int 0 0] }).push { cls := .type "enumerate", data := .fields #[.none, .bool false, .ref s.heap.objs.size, rawInt 0, .none, .none] } }) :=
  .of_wp fun prog w A R s q => by
    obtain ⟨h0, g, d, tk, os⟩ := s
    obtain ⟨ha, q⟩ := q
    have hE := sub_enumerate
    have hT : Heap.IsTuple (Shared.heap ⟨h0, g, d, tk, os⟩) a items := ⟨_, ha, rfl, n, rfl⟩
    wp_walk using wpAny_loadPart' ha
    refine wpAny_stack_any fun st => wpAny_pure ?_
    split
    case h_1 c _ _ _ _ _ => cases (c == Value.type "enumerate") <;> (wp_walk using wpAny_loadPart' ha, wpAny_pyIter_tuple hT; exact ⟨_, rfl, q⟩)
    all_goals (wp_walk using wpAny_loadPart' ha, wpAny_pyIter_tuple hT; exact ⟨_, rfl, q⟩)
theorem call_enumT {prog : Program} {w : World} {A : Around} {E : Value → Shared → Prop} {s : Shared} {a : Addr} {items : Array Value} {Q : Value → Shared → Prop} (hT : s.heap.IsTuple a items)
    (q : ∀ h', IsEnum h' (s.heap.objs.size + 1) s.heap.objs.size 0 .none → h'.IsTupleIter s.heap.objs.size a 0 → (∀ b o, s.heap.get? b = some o → h'.get? b = some o) → Q (.ref (s.heap.objs.size + 1)) { s with heap := h' }) :
    wpAny (model prog w) A (call (.type "enumerate") [.ref a]) Q E s := by
  obtain ⟨⟨c, dd, dt, sl⟩, ha, hc, n, hd⟩ := hT
  simp only at hc hd
  subst hc hd
  refine callType_new F.called_enumerate (by decide) (F.typeCall_enumerate_1 _) (F.newCall_enumerate_1 _) (fun o => F.args_object_init_2 o _) F.entry_enumerate_new (enum_newT a items n dd sl) ⟨ha, ?_⟩
  have z : (s.heap.push { cls := .type "tuple_iterator", data := .fields #[.ref a, .int 0 0] }).objs.size = s.heap.objs.size + 1 := Heap.size_push ..
  have e1 := Heap.get?_push_size (s.heap.push { cls := .type "tuple_iterator", data := .fields #[.ref a, .int 0 0] }) (o := { cls := .type "enumerate", data := .fields #[.none, .bool false, .ref s.heap.objs.size, rawInt 0, .none, .none] }) rfl
  rw [z] at e1
  show _ ∧ _
  rw [z]
  exact ⟨⟨_, e1, rfl⟩, q _ e1 ⟨_, Heap.get?_push_of_some _ (Heap.get?_push_size _ rfl), rfl, rfl⟩ fun b o y => Heap.get?_push_of_some _ (Heap.get?_push_of_some _ y)⟩
def ItE (K : PySem.W.Frag) (a : Addr) : It :=
  ⟨fun i H => ∃ (xs : List V) (x : V), SqT K H a xs ∧ xs[i]? = some x, fun i H v H' => ∃ T x, v = .ref T ∧ H T = none ∧ H' = upd H T (.tup [.int (i : Nat), x]) ∧ ∀ xs, SqT K H a xs → xs[i]? = some x, fun i H => ∃ xs : List V, SqT K H a xs ∧ xs.length ≤ i⟩
theorem turn_enumT {P : Program} {w : World} {K : PySem.W.Frag} {elts : List Expr} {kk : Nat} {tpos : Pos} (a e it : Addr) :
    Turn P w K (.Tuple elts kk tpos) (ItE K a) [e, it] e (fun i h => (∃ old, IsEnum h e it ((i : Nat) : Int) old) ∧ h.IsTupleIter it a i ∧ e ≠ it) where
  mem := List.mem_cons_self
  obj := fun i h st b hb => by
    obtain ⟨⟨old, he⟩, ⟨o, ho, hc, hd⟩, _⟩ := st
    rcases List.mem_cons.mp hb with z | z
    · subst z; exact ⟨_, he, fun v q => nomatch q⟩
    · rw [List.mem_singleton.mp z]; exact ⟨o, ho, fun v q => by rw [hd] at q; cases q⟩
  keep := fun i h h' st k => by
    obtain ⟨⟨old, he⟩, hi, hne⟩ := st
    exact ⟨⟨old, k e List.mem_cons_self _ he⟩, hi.at fun o q => k it (List.mem_cons_of_mem _ List.mem_cons_self) o q, hne⟩
  item := by
    intro X hP hw hK hc i pins s σ H E I hf st hg
    subst hP hw hK
    obtain ⟨⟨old, he⟩, hit, hne⟩ := st
    obtain ⟨xs, x, hq, hx⟩ := hg
    obtain ⟨its, rv, p, hz⟩ := I.tuple hq
    obtain ⟨u, hu, ru⟩ := rv.get hx
    have hT : s.heap.IsTuple a its.toArray := p
    have nae : e ≠ a := fun z => by
      subst z
      obtain ⟨o, ho, hc', _⟩ := hT
      have : s.heap.get? e = some _ := he
      rw [ho] at this
      cases this
      exact absurd (show Value.type "enumerate" = Value.type "tuple" from hc') (by decide)
    have nai : a ≠ it := fun z => by
      subst z
      obtain ⟨o, ho, hc', _⟩ := hT
      obtain ⟨o2, ho2, hc2, _⟩ := hit
      rw [ho] at ho2
      cases ho2
      rw [hc'] at hc2
      exact absurd hc2 (by decide)
    have hel : e < s.heap.objs.size := Heap.lt_size he
    have hil : it < s.heap.objs.size := by obtain ⟨_, q, _⟩ := hit; exact Heap.lt_size q
    have hlt : i < its.toArray.size := by
      have := (List.getElem?_eq_some_iff.mp hu).1
      simpa using this
    refine wpAny_pyNext_enum_itemD (Draws.tuple (A := X.A.in1) (I.ok.hd hc) it a nai its.toArray) he ⟨hit, hT⟩ hlt hne (by simp [hne, nae]) fun y h' tk hP' ho hit' hTn hsz hk => ?_
    have ey : y = u := by
      have z : its.toArray[i]? = some y := hP'
      simp only [List.getElem?_toArray] at z
      rw [hu] at z
      exact (Option.some.inj z).symm
    subst ey
    refine ⟨_, rfl, wpAny_letOwnedTupleGo_enum (s := { s with heap := h', toks := tk + 1 }) ho fun h'' he' sb => ?_⟩
    have hT2 : h''.get? s.heap.objs.size = some { cls := .type "tuple", data := .seq #[.int i tk, y] } := (sb.2 _ (Nat.ne_of_gt hel)).trans hTn
    have new : ObjOk X.prog X.w (upd H s.heap.objs.size (.tup [.int (i : Nat), x])) h'' s.heap.objs.size (.tup [.int (i : Nat), x]) :=
      ⟨by show 2 ≤ sizeLine; decide, [.int i tk, y], .cons ⟨_, rfl⟩ (.cons ru .nil), ⟨_, hT2, rfl, _, rfl⟩⟩
    have I1 : L2.Inv X pins σ (upd H s.heap.objs.size (.tup [.int (i : Nat), x])) { s with heap := h'', toks := tk + 1 } := by
      refine I.turnedNew (ch := [e, it]) (fun b ob hb q => ?_) hf (Nat.le_refl _) new
      have h1 : b ≠ e := fun z => hb (by simp [z])
      have h2 : b ≠ it := fun z => hb (by simp [z])
      exact (sb.2 b h1).trans (hk b ob h1 h2 q)
    refine ⟨.ref s.heap.objs.size, _, I1, rfl, ⟨_, x, rfl, I.hok.fresh (Nat.le_refl _), rfl, fun ys hy => by rw [I.tuple_inj hy hq]; exact hx⟩, ⟨⟨y, ?_⟩, hit'.1.at fun o q => (sb.2 it (Ne.symm hne)).trans q, hne⟩, fun b hb => ?_⟩
    · rw [show ((i + 1 : Nat) : Int) = (i : Int) + 1 by omega]
      exact he'
    · have hb' : b < s.heap.objs.size := by
        rcases List.mem_cons.mp hb with z | z
        · rw [z]; exact hel
        · rw [List.mem_singleton.mp z]; exact hil
      rw [upd_ne (Nat.ne_of_lt hb')]
      exact (hf b hb).1
  done := by
    intro X hP hw hK hc i pins s σ H E I hf st hg
    subst hP hw hK
    obtain ⟨⟨old, he⟩, hit, hne⟩ := st
    obtain ⟨xs, hq, hx⟩ := hg
    obtain ⟨its, rv, p, hz⟩ := I.tuple hq
    have hT : s.heap.IsTuple a its.toArray := p
    have nai : a ≠ it := fun z => by
      subst z
      obtain ⟨o, ho, hc', _⟩ := hT
      obtain ⟨o2, ho2, hc2, _⟩ := hit
      rw [ho] at ho2
      cases ho2
      rw [hc'] at hc2
      exact absurd hc2 (by decide)
    obtain ⟨f0, f1, f2, f3, f4, f5⟩ := hf it (by simp)
    have hl := rv.length
    have hnone : its.toArray[i]? = none := by
      rw [List.getElem?_toArray]
      exact List.getElem?_eq_none (by omega)
    have D : Draws X.prog X.w X.A.in1 it [it, a] 0 (fun _ _ => False) (fun _ h => h.IsTupleIter it a i ∧ h.IsTuple a its.toArray) :=
      ⟨fun _ _ st => let ⟨o, ho, _⟩ := st.1; ⟨o, ho⟩, fun _ _ _ st hk => ⟨st.1.at fun o e => hk it (by simp) o e, st.2.at fun o e => hk a (by simp) o e⟩, fun _ _ _ _ hi _ _ => absurd hi (Nat.not_lt_zero _),
        fun s Q E st hE => wpAny_nextOf_tuple_end (show X.A.in1.handled = none from I.ok.hd hc) st.1 st.2 hnone hE⟩
    exact wpAny_pyNext_enum_endD D he ⟨hit, hT⟩ fun h' eb => ⟨rfl, I.turned (t' := s.toks) (fun b o hb q => eb b o hb q) f0 f1 f3 f4 f5⟩
  self := fun A i s Q E st h => by
    obtain ⟨⟨_, he⟩, _⟩ := st
    exact wpAny_pyIter_enum he h
def fiE (Fs : FA) : FI := fun τ S => (Fs τ S).bind fun ts S1 => match ts with
  | [.tup xs] => .ok ((List.range xs.length).zipWith (fun i x => T.tup [.int (i : Nat), x]) xs) S1
  | _ => .stuck
theorem zip_range {xs : List T} {i : Nat} {y : T} (e : ((List.range xs.length).zipWith (fun i x => T.tup [.int (i : Nat), x]) xs)[i]? = some y) : ∃ x, xs[i]? = some x ∧ y = T.tup [.int (i : Nat), x] := by
  rw [List.getElem?_zipWith] at e
  by_cases hi : i < xs.length
  · rw [List.getElem?_range hi, List.getElem?_eq_getElem hi] at e
    exact ⟨xs[i], List.getElem?_eq_getElem hi, (Option.some.inj e).symm⟩
  · rw [List.getElem?_eq_none (by omega : xs.length ≤ i)] at e
    split at e <;> simp_all
theorem pfi_enum {X : Cx} {wx : WT} {e : Expr} {Fs : FA} {p pos tpos : Pos} {elts : List Expr} {kk : Nat} (ha : PFA X wx [e] Fs) (hm : X.mg "enumerate" = none) (hg : Gl X "enumerate" := by rfl) (hs : starEach [e] X.env = [(false, eval e X.env)] := by rfl) :
    PFI X wx (.Tuple elts kk tpos) (.Call (.Name "enumerate" p) [e] [] pos) (fiE Fs) := by
  refine ⟨fun pins s σ H R I h => ?_⟩
  obtain ⟨μ, τ, S, st, f, h⟩ := h
  refine Call_ (ld_blt I hg hm boot_enumerate (PyProof.Rows.callWith_type1 (thn (ha.run pos pins s σ H (fun vs H1 => ∃ μ1 xs S1, At X.K μ H τ σ (rVs X.K) μ1 H1 [.tup xs] vs S1 ∧ ∀ J, Src X.K J ((List.range xs.length).zipWith (fun i x => T.tup [.int (i : Nat), x]) xs) μ1 H1 → R J H1) I ?_) fun us s1 q1 => ?_) hs rfl))
  · refine tG.seq st f h fun μ1 H1 ts vs S1 A1 h1 => ?_
    split at h1
    · rename_i xs
      exact ⟨μ1, xs, S1, A1, fun J hJ => h1.here A1.st hJ⟩
    · exact h1.elim
  · obtain ⟨vs, H1, I1, r1, μ1, xs, S1, A1, hR⟩ := q1
    obtain ⟨v, rfl, rt⟩ := rels1 (show Rels X.K H1 μ1 [.tup xs] vs from A1.rel)
    simp only [Rel] at rt
    obtain ⟨a, ws, rfl, ho, rw'⟩ := rt
    obtain ⟨u, rfl, ru⟩ := vals1 r1
    cases ru
    have hq : SqT X.K H1 a ws := ho.imp (fun z => z.1) id
    obtain ⟨its, rv, p', hz⟩ := I1.tuple hq
    refine call_enumT (show s1.heap.IsTuple a its.toArray from p') fun h' he hit hk => wpAny_pyIter_enum he ?_
    have I2 : L2.Inv X pins σ H1 { s1 with heap := h' } := I1.kept (t' := s1.toks) hk
    refine ⟨s1.heap.objs.size + 1, [s1.heap.objs.size + 1, s1.heap.objs.size], _, _, H1, rfl, I2, turn_enumT a (s1.heap.objs.size + 1) s1.heap.objs.size, ⟨⟨.none, he⟩, hit, Nat.succ_ne_self _⟩, fun b hb => ?_, hR _ ?_⟩
    · have hle : s1.heap.objs.size ≤ b := by
        rcases List.mem_cons.mp hb with z | z
        · rw [z]; exact Nat.le_succ _
        · rw [List.mem_singleton.mp z]; exact Nat.le_refl _
      obtain ⟨f0, f1, f2, f3, f4, f5⟩ := I1.fpOk hle (I1.hok.fresh hle)
      exact ⟨f0, f1, f2, f3, f4, f5⟩
    · intro μ2 H2 E
      have ho2 : OT X.K H2 μ2 a ws := ho.imp E.fix id
      have hq2 : SqT X.K H2 a ws := ho2.imp (fun z => z.1) id
      have r2 := Rels.mono E xs rw'
      refine ⟨fun i y e => ?_, fun i hi => ⟨ws, hq2, by rw [← r2.length]; simpa using hi⟩⟩
      obtain ⟨x, ex, rfl⟩ := zip_range e
      obtain ⟨v, ev, rv2⟩ := r2.get ex
      refine ⟨⟨ws, v, hq2, ev⟩, fun u H3 y => ?_⟩
      obtain ⟨T', x', rfl, nT, rfl, hx'⟩ := y
      have := hx' ws hq2
      rw [ev] at this
      cases this
      have sm := fresh_same (o := .tup [.int (i : Nat), v]) nT
      refine ⟨sm, fun S s => ?_⟩
      exact rel_tup s nT (by simp only [Rels, Rel]; exact ⟨_, _, rfl, rfl, v, [], rfl, rv2, rfl⟩)
end TL
set_option Elab.async false
set_option linter.all false
set_option maxRecDepth 100000
namespace TL
open PySem PySem.Spec L2
open PyProof.Rows hiding St
def negT (_ : Sto) (x : T) : Option T := match x with
  | .int i => some (.int (-i))
  | _ => none
theorem o_neg {X : Cx} : UnR X (unaryOp .USub) (rU1 X.K negT) := by
  intro pins s σ H x v Q I rx q
  obtain ⟨μ, S, tx, t, st, r1, e, q⟩ := q
  cases tx with
  | int i =>
    simp only [negT] at e
    cases e
    simp only [Rel] at r1
    exact un_neg pins s σ H x v Q I rx ⟨i, r1, q _ H (Same.refl _) rel_int⟩
  | _ => cases e
structure Gd (K : PySem.W.Frag) (mg : Str → Option Value) (x : Str) (st : Stmt) (ps : List Str) (f : Addr) (fd : FuncData) : Prop where
  F : Fun K x x st f fd
  m : mg x = some (.ref f)
  b : L2.Binds K fd ps []
  kp : PySem.W.keepIn K (.ref f) = true
end TL
set_option Elab.async false
set_option linter.all false
set_option maxRecDepth 100000
namespace TL
open PySem PySem.Spec L2
open PyProof.Rows hiding St
def dcF (g : GT) (Ft : FT) (Fk Fv : FE) (vs : List Nat) (τ : Fr) : List T → Sto → Res (List (Key × T))
  | [], S => .ok [] S
  | x :: xs, S => match g x with
    | none => .stuck
    | some l => if slotsIn l vs then (Ft (setsT τ l) S).nox.bind fun b S1 => match b with
        | true => (Fk (setsT τ l) S1).nox.bind fun k S2 => (Fv (setsT τ l) S2).nox.bind fun v S3 => match keyT k with
          | some k => (dcF g Ft Fk Fv vs τ xs S3).bind fun ys S4 => .ok ((k, v) :: ys) S4
          | none => .stuck
        | false => dcF g Ft Fk Fv vs τ xs S1
      else .stuck
def fDc (Fi : FI) (g : GT) (Ft : FT) (Fk Fv : FE) (vs : List Nat) : FE := fun τ S => (Fi τ S).bind fun xs S1 => if xs.length ≤ sizeLine then (dcF g Ft Fk Fv vs (wipeT τ vs) xs S1).bind fun ys S2 => .ok (.dct (mergeT ([], []) ys).1 (mergeT ([], []) ys).2) S2 else .stuck
theorem mergeT_snoc (kt : List Key × List T) (m : List (Key × T)) (k : Key) (t : T) : mergeT kt (m ++ [(k, t)]) = putK' (mergeT kt m).1 (mergeT kt m).2 k t := by
  unfold mergeT
  rw [List.foldl_append]
  rfl
section
variable {X : Cx} {wx : WT} {pos : Pos}
theorem dc_imp {Fi : FI} {g : GT} {Ft : FT} {Fk Fv : FE} {vs : List Nat} {σ : L2.St} {H : Hp} {Q : VK} (h : tN X.K wx (fDc Fi g Ft Fk Fv vs) σ H Q) : tDc (wiT X.K wx Fi) (gT X.K g) (tG X.K wF rB Ft) (tG X.K wF (rV X.K) Fk) (tG X.K wF (rV X.K) Fv) vs σ H Q := by
  obtain ⟨μ, τ, S, s, f, h⟩ := h
  refine tG.seqN s f h fun μ1 H1 xs J S1 A1 h1 => ?_
  by_cases hl : xs.length ≤ sizeLine
  · rw [if_pos hl] at h1
    intro D hD
    have hD0 : H D = none := A1.ext.back hD
    refine ⟨fun i m H2 => ∃ M S2 kvs prs, Ext H1 μ1 H2 M ∧ D ∈ M.r ∧ RelS X.K H2 M S2 ∧ RelF X.K H2 M τ σ ∧ H2 D = some (.dK kvs) ∧ kvs.map (·.1) = (mergeT ([], []) prs).1 ∧ Rels X.K H2 M (mergeT ([], []) prs).2 (kvs.map (·.2)) ∧ kvs.length ≤ i ∧ i ≤ xs.length ∧ m = xs.length - i ∧
        postN X.K (wx.fr τ σ) μ H ((dcF g Ft Fk Fv vs (wipeT τ vs) (xs.drop i) S2).bind fun ys S3 => .ok (.dct (mergeT ([], []) (prs ++ ys)).1 (mergeT ([], []) (prs ++ ys)).2) S3) Q,
      ⟨xs.length, μ1.hide D, S1, [], [], Ext.hide hD, List.mem_cons_self, A1.st.hide hD, RelF.to (μ := μ1) (fun _ _ e => e) (hide_keep hD) A1.fr, upd_same, rfl, by simp only [mergeT, List.foldl_nil, List.map_nil, Rels], Nat.zero_le _, Nat.zero_le _, rfl, by simpa using h1⟩, fun i m H2 hW => ?_⟩
    obtain ⟨M, S2, kvs, prs, E2, nr2, s2, f2, d2, a2, b2, hai, hix, rfl, h2⟩ := hW
    obtain ⟨go, stop⟩ := A1.rel M H2 E2
    by_cases hlt : i < xs.length
    · rw [drop_cons hlt] at h2
      obtain ⟨hgo, hy⟩ := go i xs[i] (List.getElem?_eq_getElem hlt)
      refine .inr ⟨hgo, fun H' => ∃ M S2 kvs prs, Ext H1 μ1 H' M ∧ D ∈ M.r ∧ RelS X.K H' M S2 ∧ RelF X.K H' M τ σ ∧ H' D = some (.dK kvs) ∧ kvs.map (·.1) = (mergeT ([], []) prs).1 ∧ Rels X.K H' M (mergeT ([], []) prs).2 (kvs.map (·.2)) ∧ kvs.length ≤ i + 1 ∧
        postN X.K (wx.fr τ σ) μ H ((dcF g Ft Fk Fv vs (wipeT τ vs) (xs.drop (i + 1)) S2).bind fun ys S3 => .ok (.dct (mergeT ([], []) (prs ++ ys)).1 (mergeT ([], []) (prs ++ ys)).2) S3) Q, fun H' hN' => ?_, fun v H3 yl => ?_⟩
      · obtain ⟨M3, S3, kvs3, prs3, q1, q2, q3, q4, q5, q6, q6', q7, q8⟩ := hN'
        exact ⟨xs.length - (i + 1), by omega, M3, S3, kvs3, prs3, q1, q2, q3, q4, q5, q6, q6', q7, hlt, rfl, q8⟩
      · obtain ⟨sm, hr⟩ := hy v H3 yl
        have E3 : Ext H2 M H3 M := Ext.of_same sm
        have s3 := s2.same sm
        have f3 := f2.mono E3
        simp only [dcF] at h2
        cases eg : g xs[i] with
        | none => simp only [eg] at h2; exact h2.elim
        | some l =>
          simp only [eg] at h2
          by_cases ha : slotsIn l vs = true
          · rw [if_pos ha] at h2
            refine ⟨M, xs[i], l, hr S2 s2, eg, fun l' fl => ⟨wipe_back (slotsIn_mem ha fl), ?_⟩⟩
            have fb : RelF X.K H3 M (setsT (wipeT τ vs) l) (setsV (wipe σ vs) l') := RelF.sets fl (relF_wipe f3 vs)
            cases et : Ft (setsT (wipeT τ vs) l) S2 with
            | stuck => rw [et] at h2; exact h2.elim
            | exc x S4 => rw [et] at h2; exact h2.elim
            | ok b S4 =>
              rw [et] at h2
              simp only [Res.nox, Res.bind] at h2
              refine tG.known s3 fb et fun M4 H4 b' A4 => ?_
              have e : b = b' := A4.rel
              subst e
              have E4 : Ext H2 M H4 M4 := E3.trans A4.ext
              cases b with
              | false =>
                simp only at h2
                refine iteF ⟨M4, S4, kvs, prs, E2.trans E4, A4.ext.res.1 D nr2, A4.st, f2.mono E4, ?_, a2, Rels.mono E4 _ b2, by omega, h2⟩
                exact E4.keep D _ d2 (s2.dis D nr2)
              | true =>
                simp only at h2
                refine iteT ?_
                cases ek : Fk (setsT (wipeT τ vs) l) S4 with
                | stuck => rw [ek] at h2; exact h2.elim
                | exc x S5 => rw [ek] at h2; exact h2.elim
                | ok k S5 =>
                  rw [ek] at h2
                  simp only at h2
                  refine tG.known A4.st A4.fr ek fun M5 H5 y A5 => ?_
                  cases ev : Fv (setsT (wipeT τ vs) l) S5 with
                  | stuck => rw [ev] at h2; exact h2.elim
                  | exc x S6 => rw [ev] at h2; exact h2.elim
                  | ok u S6 =>
                    rw [ev] at h2
                    simp only at h2
                    refine tG.known A5.st A5.fr ev fun M6 H6 z A6 => ?_
                    cases eq : keyT k with
                    | none => simp only [eq] at h2; exact h2.elim
                    | some key =>
                      simp only [eq] at h2
                      have E6 : Ext H2 M H6 M6 := (E4.trans A5.ext).trans A6.ext
                      have nr6 : D ∈ M6.r := E6.res.1 D nr2
                      have d6 : H6 D = some (.dK kvs) := E6.keep D _ d2 (s2.dis D nr2)
                      obtain ⟨p1, p2⟩ := putK_ok (k := key) (t := u) (v := z) a2 (Rels.mono E6 _ b2) A6.rel
                      rw [← mergeT_snoc] at p1 p2
                      have hlen := length_putK kvs key z
                      refine ⟨kvs, key, keyT_ok eq (Rel.mono A6.ext k A5.rel), d6, by omega, M6, S6, _, prs ++ [(key, u)], (E2.trans E6).hid hD, nr6, A6.st.hid nr6, RelF.to (μ := M6) (fun _ _ e => e) (hid_keep nr6) (f2.mono E6), upd_same, p1, ?_, by omega, ?_⟩
                      · exact Rels.to (μ := M6) (fun _ _ e => e) (hid_keep nr6) _ p2
                      · cases er : dcF g Ft Fk Fv vs (wipeT τ vs) (xs.drop (i + 1)) S6 with
                        | stuck => rw [er] at h2; exact h2.elim
                        | exc x S7 => rw [er] at h2; exact h2
                        | ok ys S7 =>
                          rw [er] at h2
                          simp only [Res.bind] at h2 ⊢
                          rw [List.append_assoc]
                          exact h2
          · rw [if_neg ha] at h2; exact h2.elim
    · have e : i = xs.length := by omega
      subst e
      rw [List.drop_length] at h2
      refine .inl ⟨stop _ (Nat.le_refl _), ?_⟩
      simp only [dcF, Res.bind, List.append_nil] at h2
      exact h2 M H2 D (A1.ext.trans E2) hD0 nr2 s2 ⟨kvs, d2, a2, b2⟩
  · rw [if_neg hl] at h1; exact h1.elim
theorem pfn_dc {kx vx tg iter : Expr} {ifs : List Expr} {scope : Scope} {own : List (Str × Nat)} {Fi : FI} {g : GT} {Ft : FT} {Fk Fv : FE} (hc : X.calm = true) (hN : X.N.Nodup) (hi : PFI X wx tg iter Fi) (ok : BlkOk X.N X.env.scope scope own)
    (hg : ∀ (s : Shared) (H : Hp) (C : Addr) (cl : List (Str × Addr)) (fp : List Addr), PFG (X.blk s H scope (compEnvC scope cl C X.env) fp) tg g) (ht : ∀ (s : Shared) (H : Hp) (C : Addr) (cl : List (Str × Addr)) (fp : List Addr), PFTs (X.blk s H scope (compEnvC scope cl C X.env) fp) wF ifs Ft)
    (hk : ∀ (s : Shared) (H : Hp) (C : Addr) (cl : List (Str × Addr)) (fp : List Addr), PF (X.blk s H scope (compEnvC scope cl C X.env) fp) wF kx Fk)
    (he : ∀ (s : Shared) (H : Hp) (C : Addr) (cl : List (Str × Addr)) (fp : List Addr), PF (X.blk s H scope (compEnvC scope cl C X.env) fp) wF vx Fv) (hs : ∀ x, foldedSetIterable iter X.env x = pure x := by intro _; rfl) :
    PFN X wx (.DictComp kx vx [⟨tg, iter, ifs, 0⟩] scope pos) (fDc Fi g Ft Fk Fv (own.map (·.2))) := PE.imp (pe_dc (g := gT X.K g) (tt := tG X.K wF rB Ft) (tk := tG X.K wF (rV X.K) Fk) (tv := tG X.K wF (rV X.K) Fv) hc hN hi ok hg ht hk he hs) fun _ _ _ h => dc_imp h
section
variable {kx vx tg iter : Expr} {ifs : List Expr} {scope : Scope} {own : List (Str × Nat)} {Fi : FI} {g : GT} {Ft : FT} {Fk Fv : FE} {i : Nat} {y : Str} {py spos : Pos} (hc : X.calm = true) (hN : X.N.Nodup) (hy : X.N[i]? = some y) (hyl : X.env.scope.names.lookup y = some .local)
  (hsw : swapsWith (.DictComp kx vx [⟨tg, iter, ifs, 0⟩] scope pos) (some (.Name y py)) spos.line X.env = pure true) (hi : PFI X wx tg iter Fi) (ok : BlkOk X.N X.env.scope scope own)
  (hg : ∀ (s : Shared) (H : Hp) (C : Addr) (cl : List (Str × Addr)) (fp : List Addr), PFG (X.blk s H scope (compEnvC scope cl C X.env) fp) tg g) (ht : ∀ (s : Shared) (H : Hp) (C : Addr) (cl : List (Str × Addr)) (fp : List Addr), PFTs (X.blk s H scope (compEnvC scope cl C X.env) fp) wF ifs Ft)
  (hk : ∀ (s : Shared) (H : Hp) (C : Addr) (cl : List (Str × Addr)) (fp : List Addr), PF (X.blk s H scope (compEnvC scope cl C X.env) fp) wF kx Fk)
  (he : ∀ (s : Shared) (H : Hp) (C : Addr) (cl : List (Str × Addr)) (fp : List Addr), PF (X.blk s H scope (compEnvC scope cl C X.env) fp) wF vx Fv) (hs : ∀ x, foldedSetIterable iter X.env x = pure x := by intro _; rfl)
include hc hN hy hyl hsw hi ok hg ht hk he hs
end
end
end TL
set_option Elab.async false
set_option linter.all false
set_option maxRecDepth 100000
namespace TL
open PySem PySem.Spec L2
open PyProof.Rows hiding St
def leS (a b : Str) : Bool := !ltCps b.cps.toList a.cps.toList
def insS (x : Str) : List Str → List Str
  | [] => [x]
  | y :: r => if leS x y then x :: y :: r else y :: insS x r
def sortS : List Str → List Str
  | [] => []
  | x :: r => insS x (sortS r)
theorem leS_iff {a b : Str} : leS a b = true ↔ ¬ (b.cps.toList < a.cps.toList) := by
  unfold leS
  rw [ltCps_eq]
  simp
theorem leS_total (a b : Str) : leS a b = true ∨ leS b a = true := by
  rw [leS_iff, leS_iff]
  by_cases h : b.cps.toList < a.cps.toList
  · exact .inr fun z => List.lt_irrefl _ (List.lt_trans h z)
  · exact .inl h
theorem leS_trans {a b c : Str} (h : leS a b = true) (g : leS b c = true) : leS a c = true := by
  rw [leS_iff] at h g ⊢
  exact List.le_trans (show a.cps.toList ≤ b.cps.toList from h) (show b.cps.toList ≤ c.cps.toList from g)
theorem leS_anti {a b : Str} (h : leS a b = true) (g : leS b a = true) : a = b := by
  rw [leS_iff] at h g
  have : a.cps.toList = b.cps.toList := List.le_antisymm (show a.cps.toList ≤ b.cps.toList from h) (show b.cps.toList ≤ a.cps.toList from g)
  cases a; cases b
  simp only [Str.mk.injEq] at this ⊢
  exact Array.ext' this
theorem rising_pw : ∀ {l : List Str} {p : Str}, risingS p l = true → (p :: l).Pairwise fun a b => leS a b = true
  | [], p, _ => by simp
  | x :: r, p, h => by
    have h' : (leS p x && risingS x r) = true := h
    simp only [Bool.and_eq_true] at h'
    have ih := rising_pw h'.2
    rw [List.pairwise_cons]
    refine ⟨fun y hy => ?_, ih⟩
    rcases List.mem_cons.mp hy with z | z
    · rw [z]; exact h'.1
    · exact leS_trans h'.1 ((List.pairwise_cons.mp ih).1 y z)
theorem sorted_pw : ∀ {l : List Str}, sortedS l = true → l.Pairwise fun a b => leS a b = true
  | [], _ => List.Pairwise.nil
  | x :: r, h => rising_pw h
theorem insS_perm (x : Str) : ∀ l : List Str, (insS x l).Perm (x :: l)
  | [] => List.Perm.refl _
  | y :: r => by
    unfold insS
    by_cases h : leS x y = true
    · rw [if_pos h]
    · rw [if_neg h]
      exact ((insS_perm x r).cons y).trans (List.Perm.swap x y r)
theorem sortS_perm : ∀ l : List Str, (sortS l).Perm l
  | [] => List.Perm.refl _
  | x :: r => (insS_perm x _).trans ((sortS_perm r).cons x)
theorem insS_pw (x : Str) : ∀ {l : List Str}, l.Pairwise (fun a b => leS a b = true) → (insS x l).Pairwise fun a b => leS a b = true
  | [], _ => by simp [insS]
  | y :: r, h => by
    unfold insS
    by_cases hx : leS x y = true
    · rw [if_pos hx, List.pairwise_cons]
      refine ⟨fun z hz => ?_, h⟩
      rcases List.mem_cons.mp hz with q | q
      · rw [q]; exact hx
      · exact leS_trans hx ((List.pairwise_cons.mp h).1 z q)
    · rw [if_neg hx, List.pairwise_cons]
      refine ⟨fun z hz => ?_, insS_pw x (List.pairwise_cons.mp h).2⟩
      rcases List.mem_cons.mp ((insS_perm x r).mem_iff.mp hz) with q | q
      · rw [q]; exact (leS_total x y).resolve_left hx
      · exact (List.pairwise_cons.mp h).1 z q
theorem sortS_pw : ∀ l : List Str, (sortS l).Pairwise fun a b => leS a b = true
  | [] => List.Pairwise.nil
  | x :: r => insS_pw x (sortS_pw r)
theorem sort_one {ys xs : List Str} (p : ys.Perm xs) (h : sortedS ys = true) : ys = sortS xs :=
  List.Perm.eq_of_pairwise (fun _ _ _ _ a b => leS_anti a b) (sorted_pw h) (sortS_pw xs) (p.trans (sortS_perm xs).symm)
def strsT : List T → Option (List Str)
  | [] => some []
  | .str x :: r => (strsT r).map (x :: ·)
  | _ => none
theorem strsT_ok {K : PySem.W.Frag} {H : Hp} {μ : Mu} : ∀ {ts : List T} {xs : List Str} {vs : List V}, strsT ts = some xs → Rels K H μ ts vs → vs = xs.map V.str
  | [], _, _, e, r => by simp only [strsT] at e; cases e; simp only [Rels] at r; subst r; rfl
  | t :: ts, _, _, e, r => by
    cases t with
    | str x =>
      simp only [strsT, Option.map_eq_some_iff] at e
      obtain ⟨xs, e, rfl⟩ := e
      simp only [Rels, Rel] at r
      obtain ⟨v, r', rfl, rfl, r⟩ := r
      rw [strsT_ok e r]
      rfl
    | _ => simp only [strsT] at e; cases e
theorem strs_rels {K : PySem.W.Frag} {H : Hp} {μ : Mu} : ∀ xs : List Str, Rels K H μ (xs.map T.str) (xs.map V.str)
  | [] => by simp only [List.map_nil, Rels]
  | x :: r => by
    simp only [List.map_cons, Rels, Rel]
    exact ⟨_, _, rfl, rfl, strs_rels r⟩
def keyStrs : List Key → Option (List Str)
  | [] => some []
  | .inr x :: r => (keyStrs r).map (x :: ·)
  | .inl _ :: _ => none
theorem keyStrs_ok : ∀ {ks : List Key} {xs : List Str}, keyStrs ks = some xs → ks = xs.map Sum.inr
  | [], _, e => by simp only [keyStrs] at e; cases e; rfl
  | .inr x :: r, _, e => by
    simp only [keyStrs, Option.map_eq_some_iff] at e
    obtain ⟨xs, e, rfl⟩ := e
    rw [keyStrs_ok e]; rfl
  | .inl _ :: _, _, e => by simp only [keyStrs] at e; cases e
section
variable {prog : Program} {w : World} {A : Around} {E : Value → Shared → Prop} {s : Shared}
theorem gather_tup {a : Addr} {us : List Value} {Q : List Value → Shared → Prop} (hT : s.heap.IsTuple a us.toArray) (hz : us.length ≤ sizeLine)
    (q : ∀ h', (∀ b o, s.heap.get? b = some o → h'.get? b = some o) → Q us { s with heap := h' }) : wpAny (model prog w) A (collect (.ref a)) Q E s := by
  obtain ⟨o, ho, hc, n, hd⟩ := id hT
  have ho1 : (s.heap.push (seqObj "list" #[] 0)).get? a = some o := Heap.get?_push_of_some _ ho
  have hl1 : (s.heap.push (seqObj "list" #[] 0)).get? s.heap.objs.size = some (seqObj "list" #[] 0) := Heap.get?_push_size _ rfl
  have fits : (#[] ++ us.toArray).size ≤ sizeLine + 1 := by simp; omega
  unfold collect
  refine wpAny_bind (wpAny_runValue (codeAny_builtin entry_proto_collect' ?_))
  refine wpAny_bind (wpAny_newList (wpAny_pure ⟨Code.quiet_builtin _ (by decide +kernel), codeAny_builtin entry_list_iadd' ?_⟩))
  show wpAny _ _ (Builtin.List.listExtendWith (.ref s.heap.objs.size) (.ref a) (.ref s.heap.objs.size)) _ _
    { s with heap := s.heap.push (seqObj "list" #[] 0) }
  unfold Builtin.List.listExtendWith
  refine wpAny_bind (wpAny_typeOf (T := "tuple") ⟨o, ho1, hc⟩ ?_)
  have same : (Value.type "tuple" == Value.type "tuple") = true := rfl
  rw [if_pos (by rw [same]; simp)]
  refine wpAny_bind (listItems_at ho1 hd (wpAny_bind (listItems_at hl1 rfl ?_)))
  rw [if_neg (by simp)]
  refine wpAny_bind (listUpdate_at hl1 rfl (wpAny_pure ?_) (Nat.zero_le _) fits)
  refine wpAny_bind (wpAny_load (get?_update_seq hl1 _) ?_)
  show wpAny _ _ (pure ((#[] : Array Value) ++ us.toArray).toList) Q E _
  rw [show ((#[] : Array Value) ++ us.toArray).toList = us by simp]
  refine wpAny_pure (q _ fun b u e => ?_)
  have hb : b ≠ s.heap.objs.size := Nat.ne_of_lt (Heap.lt_size e)
  rw [Heap.get?_update_ne _ _ _ _ hb]
  exact Heap.get?_push_of_some _ e
end
theorem sorted_tupS {X : Cx} : CallR X (.builtin "sorted") (fun vs H Q => ∃ (a : Addr) (xs : List Str), vs = [V.ref a] ∧ SqT X.K H a (xs.map V.str) ∧ xs.length < 64 ∧
    ∀ p, H p = none → Q (.ref p) (upd H p (.lst ((sortS xs).map V.str)))) := by
  intro pins s σ H vs us Q I r h
  obtain ⟨a, xs, rfl, hs, h64, q⟩ := h
  obtain ⟨its, rv, hT, hz⟩ := I.tuple hs
  rw [Vals.ref1 r]
  have hS := rv.strs
  have hl : its.length = xs.length := by
    have := rv.length
    rw [List.length_map] at this
    exact this.symm
  refine Calls.call_function_entry kind_sorted plain_sorted entry_sorted (args_sorted1 _) ?_
  unfold Builtin.«sorted»
  refine wpAny_bind (m := checkCount "sorted" 1 1 _) (wpAny_pure (wpAny_bind (gather_tup hT (by rw [hl, sizeLine_eq]; omega) fun h' hk => ?_)))
  have I1 : L2.Inv X pins σ H { s with heap := h' } := I.kept (t' := s.toks) hk
  refine wpAny_bind (wpAny_newList ?_ (by rw [hl, sizeLine_eq]; omega))
  have hoL : (h'.push (seqObj "list" its.toArray 0)).get? h'.objs.size = some (seqObj "list" its.toArray 0) := Heap.get?_push_size _ rfl
  show wpAny _ _ _ _ _ { s with heap := h'.push (seqObj "list" its.toArray 0) }
  refine wpAny_bind (wpAny_holding (wpAny_call_entry slot_list_sort ⟨_, hoL, rfl⟩ entry_list_sort (list_sort_treeK strKind_oneLt (s := { s with heap := h'.push (seqObj "list" its.toArray 0) }) hoL hS.keysOf
    (fun v₁ v₂ rest e => keyKind_strs (by rw [← e]; exact hS)) (by rw [hl]; exact h64) fun st' hp hss => ⟨_, rfl, ?_⟩) (args_list_sort _)))
  obtain ⟨ys, g1, g2, g3⟩ := sorted_out_str hS hp hss
  obtain ⟨n', he⟩ := sortedHeap_at (vs := its) (out := (arrOf st').map (·.2)) hoL
  have ey := sort_one g2 g3
  subst ey
  have hlen : ((sortS xs).map V.str).length ≤ sizeLine := by
    rw [List.length_map, g2.length_eq, sizeLine_eq]; omega
  refine wpAny_pure ⟨_, rfl, .ref h'.objs.size, upd H h'.objs.size (.lst ((sortS xs).map V.str)), I1.laid (t' := s.toks) (fun b u e => ?_) (Nat.le_refl _)
    (show ObjOk X.prog X.w _ _ _ (.lst ((sortS xs).map V.str)) from ⟨hlen, ((arrOf st').map (·.2)).toList, n', vals_of_strs g1, by rw [Array.toArray_toList]; exact he⟩), rfl, q _ (I1.hok.fresh (Nat.le_refl _))⟩
  have hb : b < h'.objs.size := Heap.lt_size e
  rw [sortedHeap_old (Nat.ne_of_lt hb) (by rw [size_push']; exact Nat.lt_succ_of_lt hb)]
  exact Heap.get?_push_of_some _ e
def sortT (S : Sto) (ts : List T) : Option T := match ts with
  | [.tup ts] => (strsT ts).bind fun xs => if xs.length < 64 then some (.lst ((sortS xs).map T.str)) else none
  | [t] => match dctT S t with
    | some (ks, _) => (keyStrs ks).bind fun xs => if xs.length < 64 then some (.lst ((sortS xs).map T.str)) else none
    | none => (seqL S t).bind fun ts => (strsT ts).bind fun xs => if xs.length < 64 then some (.lst ((sortS xs).map T.str)) else none
  | _ => none
theorem c_sorted {X : Cx} (hc : X.calm = true) : CallR X (.builtin "sorted") (rNw X.K sortT) := by
  intro pins s σ H xs us Q I rv q
  obtain ⟨μ, S, ts, c, st, r, e, q⟩ := q
  unfold sortT at e
  split at e
  · simp only [Option.bind_eq_some_iff] at e
    obtain ⟨xs, hx, e⟩ := e
    split at e
    · rename_i h64
      cases e
      obtain ⟨v, ev, rr⟩ := rels1 r
      subst ev
      obtain ⟨a, vs, rfl, ha, r2⟩ := tup_ok rr
      rw [strsT_ok hx r2] at ha
      exact sorted_tupS pins s σ H _ us Q I rv ⟨a, xs, rfl, ha, h64, fun p hp => q p _ hp ⟨_, upd_same, strs_rels _⟩⟩
    · cases e
  · obtain ⟨v, ev, rr⟩ := rels1 r
    subst ev
    split at e
    · rename_i ks ts' hd
      simp only [Option.bind_eq_some_iff] at e
      obtain ⟨xs, hx, e⟩ := e
      split at e
      · rename_i h64
        cases e
        obtain ⟨a, kvs, rfl, ha, ek, _⟩ := dctT_ok hd st rr
        refine call_sortedD hc pins s σ H _ us Q I rv ⟨a, kvs, xs, rfl, .inl ha, by rw [ek]; exact keyStrs_ok hx, h64, fun ys p h1 h2 hp => ?_⟩
        have ey := sort_one h1 h2
        subst ey
        exact q p _ hp ⟨_, upd_same, strs_rels _⟩
      · cases e
    · simp only [Option.bind_eq_some_iff] at e
      obtain ⟨ts', hs, xs, hx, e⟩ := e
      split at e
      · rename_i h64
        cases e
        obtain ⟨a, vs, rfl, ha, r2⟩ := seqL_ok hs st rr
        rw [strsT_ok hx r2] at ha
        refine cr_sortedS pins s σ H _ us Q I rv ⟨a, xs, rfl, ha, h64, fun ys p h1 h2 hp => ?_⟩
        have ey := sort_one h1 h2
        subst ey
        exact q p _ hp ⟨_, upd_same, strs_rels _⟩
      · cases e
  · cases e
end TL
set_option Elab.async false
set_option linter.all false
set_option maxRecDepth 100000
namespace TL
open PySem PySem.Spec L2
open PyProof.Rows hiding St
mutual
def noD : T → Bool
  | .non => true
  | .bl _ => true
  | .int _ => true
  | .str _ => true
  | .tup ts => noDs ts
  | .lst ts => noDs ts
  | .sls ts => noDs ts
  | .dct _ _ => false
  | .ref _ => true
  | .val _ => true
  | .ktp ts => noDs ts
  | .etp ts => noDs ts
  | .kdc _ ts => noDs ts
  | .fdc _ ts => noDs ts
def noDs : List T → Bool
  | [] => true
  | t :: ts => noD t && noDs ts
end
def noDc : T → Bool
  | .lst ts => noDs ts
  | .dct _ ts => noDs ts
  | .kdc _ ts => noDs ts
  | _ => true
section
variable {K : PySem.W.Frag} {H H' : Hp} {μ : Mu} {S : Sto} {d : Addr} {od : Obj} {kvs : List (Key × V)}
mutual
theorem Rel.lock (hd : H d = some (.dK kvs)) : ∀ (t : T) {v : V}, noD t = true → Rel K H μ t v → Rel K (upd H d (.frz od (.dK kvs))) μ t v
  | .non, _, _, h => by simpa only [Rel] using h
  | .bl _, _, _, h => by simpa only [Rel] using h
  | .int _, _, _, h => by simpa only [Rel] using h
  | .str _, _, _, h => by simpa only [Rel] using h
  | .val _, _, _, h => by simpa only [Rel] using h
  | .ref n, _, _, h => by simpa only [Rel] using h
  | .tup ts, _, n, h => by
    simp only [Rel] at h ⊢
    obtain ⟨a, xs, rfl, o, r⟩ := h
    refine ⟨a, xs, rfl, o.imp (fun z => ?_) id, Rels.lock hd ts (by simpa only [noD] using n) r⟩
    have ne : ∀ u, H a = some u → u ≠ .dK kvs → a ≠ d := fun u e q z => by subst z; rw [hd] at e; cases e; exact q rfl
    obtain ⟨z | ⟨o, z⟩, m⟩ := z
    · exact ⟨.inl (by rw [upd_ne (ne _ z (fun q => nomatch q))]; exact z), m⟩
    · exact ⟨.inr ⟨o, by rw [upd_ne (ne _ z (fun q => nomatch q))]; exact z⟩, m⟩
  | .lst ts, _, n, h => by
    simp only [Rel] at h ⊢
    obtain ⟨a, xs, rfl, ⟨z, m⟩, r⟩ := h
    refine ⟨a, xs, rfl, ⟨?_, m⟩, Rels.lock hd ts (by simpa only [noD] using n) r⟩
    rw [upd_ne (fun q : a = d => by subst q; rw [hd] at z; cases z)]
    exact z
  | .sls ts, _, n, h => by
    simp only [Rel] at h ⊢
    obtain ⟨a, xs, rfl, o, r⟩ := h
    refine ⟨a, xs, rfl, o.imp (fun z => ?_) id, Rels.lock hd ts (by simpa only [noD] using n) r⟩
    have ne : ∀ u, H a = some u → u ≠ .dK kvs → a ≠ d := fun u e q z => by subst z; rw [hd] at e; cases e; exact q rfl
    obtain ⟨z | ⟨o, z⟩, m⟩ := z
    · exact ⟨.inl (by rw [upd_ne (ne _ z (fun q => nomatch q))]; exact z), m⟩
    · exact ⟨.inr ⟨o, by rw [upd_ne (ne _ z (fun q => nomatch q))]; exact z⟩, m⟩
  | .dct _ _, _, n, _ => by simp only [noD] at n; cases n
  | .ktp ts, _, n, h => by
    simp only [Rel] at h ⊢
    obtain ⟨a, xs, rfl, ⟨o, z, m, e⟩, r⟩ := h
    have ne : a ≠ d := fun q => by subst q; rw [hd] at z; cases z
    exact ⟨a, xs, rfl, ⟨o, by rw [upd_ne ne]; exact z, m, e⟩, Rels.lock hd ts (by simpa only [noD] using n) r⟩
  | .etp ts, _, n, h => by
    simp only [Rel] at h ⊢
    obtain ⟨a, xs, rfl, ⟨z, m⟩, r⟩ := h
    have ne : a ≠ d := fun q => by subst q; rw [hd] at z; cases z
    exact ⟨a, xs, rfl, ⟨by rw [upd_ne ne]; exact z, m⟩, Rels.lock hd ts (by simpa only [noD] using n) r⟩
  | .kdc ks ts, _, n, h => by
    simp only [Rel] at h ⊢
    obtain ⟨a, xs, rfl, ⟨z, m⟩, e, r⟩ := h
    have ne : a ≠ d := fun q => by subst q; rw [hd] at z; cases z
    exact ⟨a, xs, rfl, ⟨by rw [upd_ne ne]; exact z, m⟩, e, Rels.lock hd ts (by simpa only [noD] using n) r⟩
  | .fdc ks ts, _, n, h => by
    simp only [Rel] at h ⊢
    obtain ⟨a, xs, rfl, ⟨z, m⟩, e, r⟩ := h
    refine ⟨a, xs, rfl, ⟨?_, m⟩, e, Rels.lock hd ts (by simpa only [noD] using n) r⟩
    rcases z with z | ⟨o, z⟩
    · by_cases ne : a = d
      · subst ne; rw [hd] at z; cases z; exact .inr ⟨od, upd_same⟩
      · exact .inl (by rw [upd_ne ne]; exact z)
    · exact .inr ⟨o, by rw [upd_ne (fun q : a = d => by subst q; rw [hd] at z; cases z)]; exact z⟩
theorem Rels.lock (hd : H d = some (.dK kvs)) : ∀ (ts : List T) {vs : List V}, noDs ts = true → Rels K H μ ts vs → Rels K (upd H d (.frz od (.dK kvs))) μ ts vs
  | [], _, _, h => by simpa only [Rels] using h
  | t :: ts, _, n, h => by
    simp only [Rels] at h ⊢
    simp only [noDs, Bool.and_eq_true] at n
    obtain ⟨v, r, rfl, h1, h2⟩ := h
    exact ⟨v, r, rfl, Rel.lock hd t n.1 h1, Rels.lock hd ts n.2 h2⟩
end
theorem RelS.lock (hd : H d = some (.dK kvs)) (hn : d ∉ μ.c) (s : RelS K H μ S) (n : S.all noDc = true) : RelS K (upd H d (.frz od (.dK kvs))) μ S := by
  refine ⟨s.len, s.nd, fun m c a e1 e2 => ?_, fun p hp => ?_, s.dis⟩
  · have q := s.cell m c a e1 e2
    have nc := List.all_eq_true.mp n c (List.mem_of_getElem? e1)
    have ne : a ≠ d := fun z => hn (z ▸ List.mem_of_getElem? e2)
    cases c with
    | lst ts =>
      obtain ⟨vs, h, q⟩ := q
      exact ⟨vs, by rw [upd_ne ne]; exact h, Rels.lock hd ts nc q⟩
    | dct ks ts =>
      obtain ⟨vs, h, e, q⟩ := q
      exact ⟨vs, by rw [upd_ne ne]; exact h, e, Rels.lock hd ts nc q⟩
    | kdc ks ts =>
      obtain ⟨vs, h, e, q⟩ := q
      exact ⟨vs, by rw [upd_ne ne]; exact h, e, Rels.lock hd ts nc q⟩
    | _ => exact q.elim
  · by_cases z : p = d
    · subst z; rw [upd_same]; simp
    · rw [upd_ne z]; exact s.live p hp
theorem unlock_keep (hd : H' d = some (.frz od (.dK kvs))) : ∀ a u, (∀ o w, u = .frz o (.dK w) → False) → H' a = some u → upd H' d (.dK kvs) a = some u := fun a u q e => by
  rw [upd_ne (fun z : a = d => by subst z; rw [hd] at e; cases e; exact q _ _ rfl)]
  exact e
mutual
theorem Rel.unlock (hd : H' d = some (.frz od (.dK kvs))) : ∀ (t : T) {v : V}, Rel K H' μ t v → Rel K (upd H' d (.dK kvs)) μ t v
  | .non, _, h => by simpa only [Rel] using h
  | .bl _, _, h => by simpa only [Rel] using h
  | .int _, _, h => by simpa only [Rel] using h
  | .str _, _, h => by simpa only [Rel] using h
  | .val _, _, h => by simpa only [Rel] using h
  | .ref n, _, h => by simpa only [Rel] using h
  | .tup ts, _, h => by
    simp only [Rel] at h ⊢
    obtain ⟨a, xs, rfl, o, r⟩ := h
    refine ⟨a, xs, rfl, o.imp (fun z => ?_) id, Rels.unlock hd ts r⟩
    obtain ⟨z | ⟨o, z⟩, m⟩ := z
    · exact ⟨.inl (unlock_keep hd a _ (fun _ _ q => nomatch q) z), m⟩
    · exact ⟨.inr ⟨o, unlock_keep hd a _ (fun _ _ q => by cases q) z⟩, m⟩
  | .lst ts, _, h => by
    simp only [Rel] at h ⊢
    obtain ⟨a, xs, rfl, ⟨z, m⟩, r⟩ := h
    exact ⟨a, xs, rfl, ⟨unlock_keep hd a _ (fun _ _ q => nomatch q) z, m⟩, Rels.unlock hd ts r⟩
  | .sls ts, _, h => by
    simp only [Rel] at h ⊢
    obtain ⟨a, xs, rfl, o, r⟩ := h
    refine ⟨a, xs, rfl, o.imp (fun z => ?_) id, Rels.unlock hd ts r⟩
    obtain ⟨z | ⟨o, z⟩, m⟩ := z
    · exact ⟨.inl (unlock_keep hd a _ (fun _ _ q => nomatch q) z), m⟩
    · exact ⟨.inr ⟨o, unlock_keep hd a _ (fun _ _ q => by cases q) z⟩, m⟩
  | .dct ks ts, _, h => by
    simp only [Rel] at h ⊢
    obtain ⟨a, xs, rfl, ⟨z, m⟩, e, r⟩ := h
    exact ⟨a, xs, rfl, ⟨unlock_keep hd a _ (fun _ _ q => nomatch q) z, m⟩, e, Rels.unlock hd ts r⟩
  | .ktp ts, _, h => by
    simp only [Rel] at h ⊢
    obtain ⟨a, xs, rfl, ⟨o, z, m, e⟩, r⟩ := h
    exact ⟨a, xs, rfl, ⟨o, unlock_keep hd a _ (fun _ _ q => by cases q) z, m, e⟩, Rels.unlock hd ts r⟩
  | .etp ts, _, h => by
    simp only [Rel] at h ⊢
    obtain ⟨a, xs, rfl, ⟨z, m⟩, r⟩ := h
    exact ⟨a, xs, rfl, ⟨unlock_keep hd a _ (fun _ _ q => nomatch q) z, m⟩, Rels.unlock hd ts r⟩
  | .kdc ks ts, _, h => by
    simp only [Rel] at h ⊢
    obtain ⟨a, xs, rfl, ⟨z, m⟩, e, r⟩ := h
    exact ⟨a, xs, rfl, ⟨unlock_keep hd a _ (fun _ _ q => nomatch q) z, m⟩, e, Rels.unlock hd ts r⟩
  | .fdc ks ts, _, h => by
    simp only [Rel] at h ⊢
    obtain ⟨a, xs, rfl, ⟨z, m⟩, e, r⟩ := h
    refine ⟨a, xs, rfl, ⟨?_, m⟩, e, Rels.unlock hd ts r⟩
    by_cases ne : a = d
    · subst ne
      rcases z with z | ⟨o, z⟩
      · rw [hd] at z; cases z
      · rw [hd] at z; cases z; exact .inl upd_same
    · exact z.imp (fun z => by rw [upd_ne ne]; exact z) fun ⟨o, z⟩ => ⟨o, by rw [upd_ne ne]; exact z⟩
theorem Rels.unlock (hd : H' d = some (.frz od (.dK kvs))) : ∀ (ts : List T) {vs : List V}, Rels K H' μ ts vs → Rels K (upd H' d (.dK kvs)) μ ts vs
  | [], _, h => by simpa only [Rels] using h
  | t :: ts, _, h => by
    simp only [Rels] at h ⊢
    obtain ⟨v, r, rfl, h1, h2⟩ := h
    exact ⟨v, r, rfl, Rel.unlock hd t h1, Rels.unlock hd ts h2⟩
end
theorem RelS.unlock (hd : H' d = some (.frz od (.dK kvs))) (s : RelS K H' μ S) : RelS K (upd H' d (.dK kvs)) μ S := by
  refine ⟨s.len, s.nd, fun m c a e1 e2 => ?_, fun p hp => ?_, s.dis⟩
  · have q := s.cell m c a e1 e2
    cases c with
    | lst ts =>
      obtain ⟨vs, h, q⟩ := q
      exact ⟨vs, unlock_keep hd a _ (fun _ _ q => nomatch q) h, Rels.unlock hd ts q⟩
    | dct ks ts =>
      obtain ⟨vs, h, e, q⟩ := q
      exact ⟨vs, unlock_keep hd a _ (fun _ _ q => nomatch q) h, e, Rels.unlock hd ts q⟩
    | kdc ks ts =>
      obtain ⟨vs, h, e, q⟩ := q
      exact ⟨vs, unlock_keep hd a _ (fun _ _ q => nomatch q) h, e, Rels.unlock hd ts q⟩
    | _ => exact q.elim
  · by_cases z : p = d
    · subst z; rw [upd_same]; simp
    · rw [upd_ne z]; exact s.live p hp
theorem RelF.unlock {τ : Fr} {σ : L2.St} (hd : H' d = some (.frz od (.dK kvs))) (f : RelF K H' μ τ σ) : RelF K (upd H' d (.dK kvs)) μ τ σ :=
  ⟨f.1, fun i t e => let ⟨v, a, b⟩ := f.2 i t e; ⟨v, a, Rel.unlock hd t b⟩⟩
theorem Ext.unlock {μ' : Mu} (hd : H d = some (.dK kvs)) (E : Ext (upd H d (.frz od (.dK kvs))) μ H' μ') : Ext H μ (upd H' d (.dK kvs)) μ' := by
  have nn : ∀ p, upd H d (.frz od (.dK kvs)) p = none → H p = none := fun p h => by
    by_cases z : p = d
    · subst z; rw [upd_same] at h; cases h
    · rw [upd_ne z] at h; exact h
  obtain ⟨ν, e1, e2⟩ := E.pre
  refine ⟨⟨ν, e1, fun p hp => nn p (e2 p hp)⟩, ⟨E.res.1, fun p hp => (E.res.2 p hp).imp id (nn p)⟩, fun a u e n => ?_, fun a h => ?_⟩
  · by_cases z : a = d
    · subst z; rw [upd_same]; rw [hd] at e; exact e
    · rw [upd_ne z]
      exact E.keep a u (by rw [upd_ne z]; exact e) n
  · by_cases z : a = d
    · subst z; rw [upd_same]; simp
    · rw [upd_ne z]
      exact E.live a (by rw [upd_ne z]; exact h)
end
def maskT (τ : Fr) : Fr := τ.map fun o => o.bind fun t => if noD t then some t else none
section
variable {X : Cx} {wx : WT} {pos : Pos}
theorem forF_run {J : It} {xs : List T} {μ1 : Mu} {H1 : Hp} {τ : Fr} {σ : L2.St} {S1 : Sto} {g : GT} {B : BS} {D : Ends} (src : Src X.K J xs μ1 H1) (st : RelS X.K H1 μ1 S1) (fr : RelF X.K H1 μ1 τ σ) (h1 : postS X.K wx μ1 H1 (forF g B xs τ S1) D) :
    ∃ W : Nat → Nat → L2.St → Hp → Prop, (∃ m, W 0 m σ H1) ∧ ∀ i m σ H, W i m σ H →
      (J.stop i H ∧ D.nx σ H) ∨ (J.go i H ∧ ∃ N : L2.St → Hp → Prop, (∀ σ' H', N σ' H' → ∃ m', m' < m ∧ W (i + 1) m' σ' H') ∧ ∀ x H', J.yld i H x H' → gT X.K g x σ H' fun σ2 H2 => tS X.K wx B { D with nx := N, ct := N, bk := D.nx } σ2 H2) := by
  refine ⟨fun i m σ2 H2 => ∃ μ2 τ2 S2, Ext H1 μ1 H2 μ2 ∧ RelS X.K H2 μ2 S2 ∧ RelF X.K H2 μ2 τ2 σ2 ∧ m = xs.length - i ∧ i ≤ xs.length ∧ postS X.K wx μ2 H2 (forF g B (xs.drop i) τ2 S2) D,
    ⟨xs.length, μ1, τ, S1, Ext.refl _ _, st, fr, rfl, Nat.zero_le _, by simpa using h1⟩, fun i m σ2 H2 hW => ?_⟩
  obtain ⟨μ2, τ2, S2, E2, s2, f2, rfl, hi, h2⟩ := hW
  obtain ⟨go, stop⟩ := src μ2 H2 E2
  by_cases hlt : i < xs.length
  · rw [drop_cons hlt] at h2
    obtain ⟨hgo, hy⟩ := go i xs[i] (List.getElem?_eq_getElem hlt)
    refine .inr ⟨hgo, fun σ' H' => ∃ μ2 τ2 S2, Ext H1 μ1 H' μ2 ∧ RelS X.K H' μ2 S2 ∧ RelF X.K H' μ2 τ2 σ' ∧ postS X.K wx μ2 H' (forF g B (xs.drop (i + 1)) τ2 S2) D, fun σ' H' hN => ?_, fun v H3 yl => ?_⟩
    · obtain ⟨μ3, τ3, S3, a, b, c, d⟩ := hN
      exact ⟨xs.length - (i + 1), by omega, μ3, τ3, S3, a, b, c, rfl, hlt, d⟩
    · obtain ⟨sm, hr⟩ := hy v H3 yl
      have E3 : Ext H2 μ2 H3 μ2 := Ext.of_same sm
      simp only [forF] at h2
      cases eg : g xs[i] with
      | none => simp only [eg] at h2; exact h2.elim
      | some l =>
        simp only [eg] at h2
        refine ⟨μ2, xs[i], l, hr S2 s2, eg, fun l' f' => ⟨μ2, setsT τ2 l, S2, s2.same sm, RelF.sets f' (f2.mono E3), ?_⟩⟩
        cases eb : B (setsT τ2 l) S2 with
        | stuck => simp only [eb] at h2; exact h2.elim
        | nx τ4 S4 =>
          simp only [eb] at h2
          exact fun μ4 σ4 H4 E4 s4 f4 => ⟨μ4, τ4, S4, (E2.trans E3).trans E4, s4, f4, h2.shift (E3.trans E4)⟩
        | ct τ4 S4 =>
          simp only [eb] at h2
          exact fun μ4 σ4 H4 E4 s4 f4 => ⟨μ4, τ4, S4, (E2.trans E3).trans E4, s4, f4, h2.shift (E3.trans E4)⟩
        | bk τ4 S4 =>
          simp only [eb] at h2
          exact fun μ4 σ4 H4 E4 s4 f4 => h2 μ4 σ4 H4 (E3.trans E4) s4 f4
        | rt t S4 =>
          simp only [eb] at h2
          exact fun μ4 v4 H4 E4 s4 f4 => h2 μ4 v4 H4 (E3.trans E4) s4 f4
        | exc x τ4 S4 =>
          simp only [eb] at h2
          exact fun μ4 v4 H4 E4 s4 f4 => h2 μ4 v4 H4 (E3.trans E4) s4 f4
  · have e : i = xs.length := by omega
    subst e
    rw [List.drop_length] at h2
    exact .inl ⟨stop _ (Nat.le_refl _), h2 μ2 σ2 H2 (Ext.refl _ _) s2 f2⟩
end
end TL
set_option Elab.async false
set_option linter.all false
set_option maxRecDepth 100000
namespace TL
open PySem PySem.Spec L2
open PyProof.Rows hiding St
def bPar (i j : Nat) (F : FA) : BS := fun τ S => (F τ S).bindS τ fun vs S1 => match vs with
  | [v, w] => .nx ((τ.set i (some v)).set j (some w)) S1
  | _ => .stuck
def bPar3 (i j l : Nat) (F : FA) : BS := fun τ S => (F τ S).bindS τ fun vs S1 => match vs with
  | [u, v, w] => .nx (((τ.set i (some u)).set j (some v)).set l (some w)) S1
  | _ => .stuck
section
variable {X : Cx} {wx : WT} {F : FA} {pos : Pos}
theorem pfs_par {i j : Nat} {x y : Str} {a b : Expr} {px py pt : Pos} {kt k2 pt2} (hc : X.calm = true) (hN : X.N.Nodup) (ha : PFA X wx [a, b] F) (hi : X.N[i]? = some x := by rfl) (hj : X.N[j]? = some y := by rfl) (hij : i ≠ j := by decide)
    (hx : X.env.scope.names.lookup x = some .local := by rfl) (hy : X.env.scope.names.lookup y = some .local := by rfl)
    (hw : swappedStores [.Tuple [.Name x px, .Name y py] kt pt] (.Tuple [a, b] k2 pt2) X.env = pure (some [x, y]) := by rfl)
    (hs : swapsWithSole [.Tuple [.Name x px, .Name y py] kt pt] (.Tuple [a, b] k2 pt2) pos.line X.env = pure false := by rfl) :
    PFS X wx (.Assign [.Tuple [.Name x px, .Name y py] kt pt] (.Tuple [a, b] k2 pt2) pos) (bPar i j F) := PS.imp (ps_par hc hN hi hj hij hx hy ha hw hs) fun D σ H h => by
  obtain ⟨μ, τ, S, s, f, h⟩ := h
  refine tG.seqS s f h fun μ1 H1 ts vs S1 A1 h1 => ?_
  have r := A1.rel
  match ts, h1, r with
  | [t, u], h1, r =>
    simp only [Rels] at r
    obtain ⟨v, vs1, rfl, rv, w, vs2, rfl, rw', rfl⟩ := r
    exact ⟨v, w, rfl, h1 μ1 _ H1 (Ext.refl _ _) A1.st ((A1.fr.set rv).set rw')⟩
end
end TL
set_option Elab.async false
set_option linter.all false
set_option maxRecDepth 100000
namespace TL
open PySem PySem.Spec L2
open PyProof.Rows hiding St
section
variable {X : Cx} {wx : WT} {K : PySem.W.Frag} {H : Hp} {μ : Mu}
end
end TL
set_option Elab.async false
set_option linter.all false
set_option maxRecDepth 100000
namespace TL
open PySem PySem.Spec L2
open PyProof.Rows hiding St
theorem ints_rels {K : PySem.W.Frag} {H : Hp} {μ : Mu} : ∀ ns : List Int, Rels K H μ (ns.map T.int) (ns.map V.int)
  | [] => by simp only [List.map_nil, Rels]
  | n :: r => by
    simp only [List.map_cons, Rels, Rel]
    exact ⟨_, _, rfl, rfl, ints_rels r⟩
abbrev LawEnd (P : Program) (w : World) (f a : Addr) (s1 : Shared) : Prop :=
  codeAny (model P w) callerA (.call (.ref f) ⟨[.ref a], []⟩)
    (fun r t => r = .ok (.ret (.bool true)) ∧ OldK s1.heap t.heap ∧ t.os = s1.os ∧ AllBare t.gens) s1
section
variable {P : Program} {w : World} {K : PySem.W.Frag} {mg mb : Str → Option Value} {k : Nat} {f a : Addr} {fd : FuncData} {x : Str} {F : FF} {s1 : Shared} {its : List Value} {ns : List Int}
structure Start (K : PySem.W.Frag) (mg mb : Str → Option Value) (s1 : Shared) (a : Addr) (its : List Value) (ns : List Int) : Prop where
  kin : K.In s1.heap
  gl : s1.heap.Ns mainGlobals mg
  nb : s1.heap.Ns builtinsNs mb
  bb : ∀ y : Str, y ≠ "__name__" → mb y = bootBuiltins y
  lim : s1.heap.NoLimit
  gen : s1.gens = #[]
  at_ : s1.heap.get? a = some { cls := .type "list", data := .seq its.toArray }
  int : IntsAre its ns
  sz : ns.length ≤ sizeLine
theorem law_with (Z : Start K mg mb s1 a its ns) (hr : Room k callerA) (D : ∀ base : Heap, K.In base → base.Ns mainGlobals mg → Df P w K mg base k f fd [x] F)
    (bd : ∀ (s : Shared) (u : Value), BindsTo s fd ⟨[u], []⟩ [(x, u)]) (hF : ∃ S, F [.sls (ns.map T.int)] [] = .ok (.bl true) S)
    {H : Hp} (hO : Only H) (hS : OL K H ⟨[], []⟩ a (ns.map V.int)) (hok : HOk P w H s1.heap) (hA : ∀ b, H b ≠ none → b = a) (hK : H a ≠ none → K.lookup a = none) : LawEnd P w f a s1 := by
  have out : ∀ {b : Addr}, b ≠ a → H b = none := fun {b} n => Classical.byContradiction fun z => n (hA b z)
  have noA : ∀ {b : Addr} {o : Obj} {es : Array DictEntry} {ep : Nat}, s1.heap.get? b = some o → o.data = .dict es ep → H b = none := fun {b o es ep} e d => out fun z => by
    subst z
    rw [Z.at_] at e
    cases e
    have d2 : Data.seq its.toArray _ = Data.dict es ep := d
    cases d2
  have up : ∀ {b : Addr} {m : Str → Option Value}, s1.heap.Ns b m → (hidT s1.heap H).Ns b m := fun {b m} ⟨o, es, ep, e, d, r⟩ => ⟨o, es, ep, hidT_get e (noA e d), d, r⟩
  have kb : K.In (hidT s1.heap H) := fun b o e => hidT_get (Z.kin b o e) (Classical.byContradiction fun z => by
    have n := hA b z
    subst n
    rw [hK z] at e
    cases e)
  have hM : Mod K mg (hidT s1.heap H) := ⟨kb, up Z.gl, ⟨mb, up Z.nb, Z.bb⟩, Z.lim.imp fun _ h => ⟨up h.1, h.2⟩⟩
  have e0 : Env0 P w K mg (hidT s1.heap H) callerA [] s1 H := ⟨rfl, hM, fun b o e => of_hidT e, Nat.le_of_eq (hidT_size _ _), trivial, fun b hb => absurd (show b ∈ ([] : List Addr) from hb) (by simp), hok, .of_eq Z.gen⟩
  obtain ⟨S, hF⟩ := hF
  refine codeAny_mono ((D _ kb (up Z.gl)).go callerA [] s1 H ⟨[.ref a], []⟩ [.ref a] [.ref a] (fun v _ => v = .bl true) hr rfl e0 (bd s1 (.ref a)) (.cons rfl .nil) ?_) fun r t h => ?_
  · refine ⟨⟨[], []⟩, [], [.sls (ns.map T.int)], ⟨rfl, .nil, fun n c b e => (by simp at e), fun p hp => (by simp at hp), fun p hp => (by simp at hp)⟩, ?_, ?_⟩
    · simp only [Rels, Rel]
      exact ⟨_, _, rfl, ⟨_, _, rfl, hS, ints_rels ns⟩, rfl⟩
    · rw [hF]
      intro μ' v H' _ _ rv
      simp only [rV, Rel] at rv
      exact rv
  · match r, h with
    | .ok (.ret u), h =>
      obtain ⟨v, H', os, bare, un, hok', rv, q⟩ := h
      have q2 : v = .bl true := q
      subst q2
      obtain rfl : u = Value.bool true := rv
      refine ⟨rfl, OldK.of_keep fun b o e => ?_, os, bare⟩
      cases q : H b with
      | none => exact un.keep b o e q (fun z => absurd (show b ∈ ([] : List Addr) from z) (by simp)) (by simp)
      | some u =>
        rcases hO b with z | ⟨ob, zs, z⟩
        · rw [q] at z
          cases z
        · obtain ⟨e1, _⟩ := hok b _ z
          obtain ⟨e2, _⟩ := hok' b _ (un.frzs b ob _ z)
          rw [e] at e1
          cases e1
          exact e2
    | .error e, h => exact h.elim
    | .ok .next, h => exact False.elim h
    | .ok .brk, h => exact False.elim h
    | .ok .cont, h => exact False.elim h
theorem law_callT (Z : Start K mg mb s1 a its ns) (hr : Room k callerA) (D : ∀ base : Heap, K.In base → base.Ns mainGlobals mg → Df P w K mg base k f fd [x] F)
    (bd : ∀ (s : Shared) (u : Value), BindsTo s fd ⟨[u], []⟩ [(x, u)]) (hF : ∃ S, F [.sls (ns.map T.int)] [] = .ok (.bl true) S) : LawEnd P w f a s1 := by
  have rv := vals_ints Z.int
  have l1 := Z.int.length
  have nout : ∀ b : Addr, Mu.out ⟨[], []⟩ b := fun b => ⟨by simp, by simp⟩
  cases hk : K.lookup a with
  | some o =>
    have e := Z.kin a o hk
    rw [Z.at_] at e
    cases e
    exact law_with Z hr D bd hF (H := fun _ => none) (fun _ => .inl rfl) (.inr ⟨_, its.toArray, _, hk, rfl, rfl, rfl, by rw [List.size_toArray, l1]; exact Z.sz, by simpa using rv⟩)
      (fun b u z => nomatch (show (none : Option HO) = some u from z)) (fun b z => absurd rfl z) fun z => absurd rfl z
  | none =>
    refine law_with Z hr D bd hF (H := fun b => if b = a then some (.frz { cls := .type "list", data := .seq its.toArray } (.lst (ns.map V.int))) else none) (fun b => ?_) (.inl ⟨.inr ⟨_, if_pos rfl⟩, nout a⟩) (fun b u z => ?_) (fun b z => ?_) fun _ => hk
    · by_cases hb : b = a
      · exact .inr ⟨_, _, if_pos hb⟩
      · exact .inl (if_neg hb)
    · by_cases hb : b = a
      · have y := (if_pos hb).symm.trans z
        cases y
        subst hb
        exact ⟨Z.at_, by rw [List.length_map]; exact Z.sz, its, _, rv, Z.at_⟩
      · have y := (if_neg hb).symm.trans z
        cases y
    · exact Classical.byContradiction fun hb => z (if_neg hb)
end
theorem walk_T {l : PySem.W.OpenLaw} {n k : Nat} {q : Program} {loose : List Str} {XP : (Str → Option Value) → Heap → Prop} {YP : World → Heap → Prop} {d : DefRec} {K : Params → PySem.W.Frag} {x : Str} {F : FF}
    (h1 : l.most = some n) (h2 : n ≤ sizeLine) (h3 : d.params.defaults = []) (hr : Room k callerA) (hY : ∀ (w : World) (h : Heap), YP w h → (K w.params).In h)
    (G : ∀ (w : World) (mg : Str → Option Value) (f : Addr) (h : Heap), (K w.params).In h → h.Ns mainGlobals mg → mg d.name = some (.ref f) →
      ∃ fd : FuncData, (∀ (s : Shared) (u : Value), BindsTo s fd ⟨[u], []⟩ [(x, u)]) ∧ ∀ base : Heap, (K w.params).In base → base.Ns mainGlobals mg → Df l.prog w (K w.params) mg base k f fd [x] F)
    (hF : ∀ ns : List Int, ns.length ≤ n → ∃ S, F [.sls (ns.map T.int)] [] = .ok (.bl true) S) : PySem.W.WalkO q loose XP YP l.row.toRowW d [] (fun f vs => PySem.call f vs) := by
  refine Att.attach_call h1 h3 fun w s0 s1 mg mb f o pm cd doc a vs ns g Y ho hd hcd hm hob hi hl hg => ?_
  have kx := hY w _ Y
  obtain ⟨fd, bd, D⟩ := G w mg f _ kx g.T.g hm
  exact law_callT ⟨kx, g.T.g, g.T.b, g.T.builtins, g.T.nolimit, hg, hob, hi, Nat.le_trans hl h2⟩ hr D bd (hF ns hl)
end TL
namespace TL
open PySem PySem.Spec L2
open PyProof.Rows hiding St
def FnIn (K : PySem.W.Frag) (x : Str) (st : Stmt) : Prop :=
  ∃ (f : Addr) (oc kV doc pm cdv ct : Value) (od an : Option Addr) (osl : Array (Option Value)), PySem.W.nsIn K mainGlobals x = some (some (.ref f)) ∧
    K.lookup f = some ⟨oc, od, .func (PySem.W.fnOf x x (defArgs st) (defBody st) (defScope st) .none kV doc pm an cdv ct), osl⟩ ∧ PySem.W.codeIn K cdv x = true ∧ PySem.W.keepIn K (.ref f) = true
theorem fnIn_mk {K : PySem.W.Frag} {x : Str} {st : Stmt} {f : Addr} {oc kV doc pm cdv ct : Value} {od an : Option Addr} {osl : Array (Option Value)} (a : PySem.W.nsIn K mainGlobals x = some (some (.ref f)))
    (l : K.lookup f = some ⟨oc, od, .func (PySem.W.fnOf x x (defArgs st) (defBody st) (defScope st) .none kV doc pm an cdv ct), osl⟩) (c : PySem.W.codeIn K cdv x = true) (k : PySem.W.keepIn K (.ref f) = true) : FnIn K x st :=
  ⟨f, oc, kV, doc, pm, cdv, ct, od, an, osl, a, l, c, k⟩
theorem some_mk {K : PySem.W.Frag} {x : Str} {t : Tok} {c : Tok → Value} (a : PySem.W.nsIn K mainGlobals x = some (some (c t))) : ∃ t, PySem.W.nsIn K mainGlobals x = some (some (c t)) := ⟨t, a⟩
section
variable {K : PySem.W.Frag} {x : Str} {st : Stmt} {h : Heap} {mg : Str → Option Value} {ps : List Str}
theorem FnIn.gd (e : FnIn K x st) (X : K.In h) (G : h.Ns mainGlobals mg) (b : ∀ {f : Addr} {fd : FuncData}, Fun K x x st f fd → L2.Binds K fd ps []) : ∃ f fd, Gd K mg x st ps f fd := by
  obtain ⟨f, oc, kV, doc, pm, cdv, ct, od, an, osl, a, l, c, k⟩ := e
  have F := fun_mk (st := st) l c k
  exact ⟨f, _, F, PySem.W.mg_of X G a, b F, k⟩
theorem FnIn.law {fa : Addr} {y : Str} (e : FnIn K x st) (X : K.In h) (G : h.Ns mainGlobals mg) (hfa : mg x = some (.ref fa))
    (b : ∀ (kV doc pm : Value) (an : Option Addr) (cdv ct v : Value), bindArgs (PySem.W.fnOf x x (defArgs st) (defBody st) (defScope st) .none kV doc pm an cdv ct) ⟨[v], []⟩ = pure [(y, v)]) :
    ∃ fd, Fun K x x st fa fd ∧ ∀ (s : Shared) (v : Value), BindsTo s fd ⟨[v], []⟩ [(y, v)] := by
  obtain ⟨f, oc, kV, doc, pm, cdv, ct, od, an, osl, a, l, c, k⟩ := e
  have z := hfa.symm.trans (PySem.W.mg_of X G a)
  cases z
  exact ⟨_, fun_mk (st := st) l c k, fun s v => .of_eq (b kV doc pm an cdv ct v)⟩
end
end TL
set_option Elab.async false
set_option linter.all false
set_option maxRecDepth 100000
namespace TL
open PySem PySem.Spec L2
open PyProof.Rows hiding St
theorem bind_ok {α β : Type} (a : α) (S : Sto) (k : α → Sto → Res β) : (Res.ok a S).bind k = k a S := rfl
theorem bindS_ok {α : Type} (a : α) (S : Sto) (τ : Fr) (k : α → Sto → RS) : (Res.ok a S).bindS τ k = k a S := rfl
theorem nox_ok {α : Type} (a : α) (S : Sto) : (Res.ok a S).nox = .ok a S := rfl
theorem ofO_some {α : Type} (a : α) (S : Sto) : ofO (some a) S = .ok a S := rfl
theorem lc_map {g : GT} {Ft : FT} {Fe : FE} {vs : List Nat} {τ : Fr} {r : T → T} {S : Sto} : ∀ {xs : List T},
    (∀ x ∈ xs, ∃ l, g x = some l ∧ slotsIn l vs = true ∧ Ft (setsT τ l) S = .ok true S ∧ Fe (setsT τ l) S = .ok (r x) S) → lcF g Ft Fe vs τ xs S = .ok (xs.map r) S
  | [], _ => rfl
  | x :: xs, h => by
    obtain ⟨l, h1, h2, h3, h4⟩ := h x List.mem_cons_self
    have ih := lc_map fun y hy => h y (List.mem_cons_of_mem _ hy)
    simp only [lcF, h1, h2, h3, h4, ih, if_true, bind_ok, nox_ok, List.map_cons]
theorem lc_filter {g : GT} {Ft : FT} {Fe : FE} {vs : List Nat} {τ : Fr} {p : T → Bool} {r : T → T} {S : Sto} : ∀ {xs : List T},
    (∀ x ∈ xs, ∃ l, g x = some l ∧ slotsIn l vs = true ∧ Ft (setsT τ l) S = .ok (p x) S ∧ (p x = true → Fe (setsT τ l) S = .ok (r x) S)) → lcF g Ft Fe vs τ xs S = .ok ((xs.filter p).map r) S
  | [], _ => rfl
  | x :: xs, h => by
    obtain ⟨l, h1, h2, h3, h4⟩ := h x List.mem_cons_self
    have ih := lc_filter fun y hy => h y (List.mem_cons_of_mem _ hy)
    cases e : p x with
    | true => simp only [lcF, h1, h2, h3, e, h4 e, ih, if_true, bind_ok, nox_ok, List.filter_cons_of_pos, List.map_cons]
    | false =>
      rw [List.filter_cons_of_neg (by simp [e])]
      simp only [lcF, h1, h2, h3, e, ih, if_true, bind_ok, nox_ok]
theorem dc_map {g : GT} {Ft : FT} {Fk Fv : FE} {vs : List Nat} {τ : Fr} {k : T → Key} {r : T → T} {S : Sto} : ∀ {xs : List T},
    (∀ x ∈ xs, ∃ l, g x = some l ∧ slotsIn l vs = true ∧ Ft (setsT τ l) S = .ok true S ∧ Fk (setsT τ l) S = .ok (tKey (k x)) S ∧ Fv (setsT τ l) S = .ok (r x) S) → dcF g Ft Fk Fv vs τ xs S = .ok (xs.map fun x => (k x, r x)) S
  | [], _ => rfl
  | x :: xs, h => by
    obtain ⟨l, h1, h2, h3, h4, h5⟩ := h x List.mem_cons_self
    have ih := dc_map fun y hy => h y (List.mem_cons_of_mem _ hy)
    have hk : keyT (tKey (k x)) = some (k x) := by
      cases k x <;> rfl
    simp only [dcF, h1, h2, h3, h4, h5, hk, ih, if_true, bind_ok, nox_ok, List.map_cons]
theorem for_inv {g : GT} {B : BS} {I : Nat → Fr → Sto → Prop} : ∀ {xs : List T} {n : Nat} {τ : Fr} {S : Sto}, I n τ S →
    (∀ i x τ S, xs[i]? = some x → I (n + i) τ S → ∃ l, g x = some l ∧ ∃ τ2 S2, (B (setsT τ l) S = .nx τ2 S2 ∨ B (setsT τ l) S = .ct τ2 S2) ∧ I (n + i + 1) τ2 S2) →
    ∃ τ2 S2, forF g B xs τ S = .nx τ2 S2 ∧ I (n + xs.length) τ2 S2
  | [], n, τ, S, h0, _ => ⟨τ, S, rfl, h0⟩
  | x :: xs, n, τ, S, h0, h => by
    obtain ⟨l, h1, τ2, S2, h2, h3⟩ := h 0 x τ S rfl h0
    obtain ⟨τ3, S3, e, q⟩ := for_inv (n := n + 1) (xs := xs) (I := I) (g := g) (B := B) h3 fun i y τ S hy hI => by
      have q := h (i + 1) y τ S (by simpa using hy) (by rw [show n + (i + 1) = n + 1 + i by omega]; exact hI)
      rw [show n + (i + 1) + 1 = n + 1 + i + 1 by omega] at q
      exact q
    refine ⟨τ3, S3, ?_, by rw [List.length_cons, show n + (xs.length + 1) = n + 1 + xs.length by omega]; exact q⟩
    rcases h2 with h2 | h2 <;> simp only [forF, h1, h2, e]
def Goes (r : RS) (I : Fr → Sto → Prop) : Prop := match r with
  | .nx τ S => I τ S
  | .ct τ S => I τ S
  | _ => False
theorem goes_nx {τ : Fr} {S : Sto} {I : Fr → Sto → Prop} (h : I τ S) : Goes (.nx τ S) I := h
theorem for_go {g : GT} {B : BS} {xs : List T} {τ : Fr} {S : Sto} {R : RS} (hF : forF g B xs τ S = R) (I : Nat → Fr → Sto → Prop) (h0 : I 0 τ S)
    (h : ∀ i x τ S, xs[i]? = some x → I i τ S → ∃ l, g x = some l ∧ Goes (B (setsT τ l) S) (I (i + 1))) : ∃ τ2 S2, R = .nx τ2 S2 ∧ I xs.length τ2 S2 := by
  obtain ⟨τ2, S2, e, q⟩ := for_inv (n := 0) (xs := xs) (g := g) (B := B) (I := I) h0 fun i x τ S hx hI => by
    rw [Nat.zero_add] at hI ⊢
    obtain ⟨l, h1, h2⟩ := h i x τ S hx hI
    refine ⟨l, h1, ?_⟩
    unfold Goes at h2
    split at h2
    · rename_i e
      exact ⟨_, _, .inl e, h2⟩
    · rename_i e
      exact ⟨_, _, .inr e, h2⟩
    · exact h2.elim
  rw [Nat.zero_add] at q
  exact ⟨τ2, S2, hF.symm.trans e, q⟩
theorem sto_end (S : Sto) (x : T) (J : Sto) : (S ++ x :: J)[S.length]? = some x := by simp
theorem sto_set (S : Sto) (x y : T) (J : Sto) : (S ++ x :: J).set S.length y = S ++ y :: J := by simp
theorem lstAt_end (S : Sto) (ts : List T) (J : Sto) : lstAt (S ++ .lst ts :: J) S.length = some ts := by
  unfold lstAt
  rw [sto_end]
theorem truT_bl (b : Bool) (S : Sto) : truT S (.bl b) = some b := rfl
theorem truT_tup (b : List T) (S : Sto) : truT S (.tup b) = some !b.isEmpty := rfl
theorem isi_str (x : Str) (S : Sto) : isiT S [.str x, .val (.ty "str")] = some (.bl true) := rfl
theorem isi_tup (x : List T) (S : Sto) : isiT S [.tup x, .val (.ty "tuple")] = some (.bl true) := rfl
theorem isi_dct (k : List Key) (x : List T) (S : Sto) : isiT S [.dct k x, .val (.ty "dict")] = some (.bl true) := rfl
theorem len_tup (x : List T) (S : Sto) : lenT S [.tup x] = some (.int x.length) := rfl
theorem len_lst (x : List T) (S : Sto) : lenT S [.lst x] = some (.int x.length) := rfl
theorem len_sls (x : List T) (S : Sto) : lenT S [.sls x] = some (.int x.length) := rfl
theorem len_dct (k : List Key) (x : List T) (S : Sto) : lenT S [.dct k x] = some (.int k.length) := rfl
theorem eq_int (i j : Int) (S : Sto) : TL.eqT S (.int i) (.int j) = some (.bl (decide (i = j))) := by
  show (Option.map T.bl (some (PyData.eqv (.int i) (.int j)))) = _
  simp only [Option.map_some]
  congr 2
theorem ne_int (i j : Int) (S : Sto) : neT S (.int i) (.int j) = some (.bl (!decide (i = j))) := by
  show (Option.map (fun b => T.bl !b) (some (PyData.eqv (.int i) (.int j)))) = _
  simp only [Option.map_some]
  congr 3
theorem ix_0 (x : T) (r : List T) (S : Sto) : ixT S (.tup (x :: r)) (.int 0) = some x := by
  show atI (x :: r) 0 = some x
  unfold atI
  have h : ixN (x :: r).length 0 = some 0 := by
    unfold ixN
    simp
  rw [h]
  rfl
theorem ix_1 (x y : T) (r : List T) (S : Sto) : ixT S (.tup (x :: y :: r)) (.int 1) = some y := by
  show atI (x :: y :: r) 1 = some y
  unfold atI
  have h : ixN (x :: y :: r).length 1 = some 1 := by
    unfold ixN
    simp
    omega
  rw [h]
  rfl
theorem ix_2 (x y z : T) (r : List T) (S : Sto) : ixT S (.tup (x :: y :: z :: r)) (.int 2) = some z := by
  show atI (x :: y :: z :: r) 2 = some z
  unfold atI
  have h : ixN (x :: y :: z :: r).length 2 = some 2 := by
    unfold ixN
    simp
    omega
  rw [h]
  rfl
theorem bools_true {α : Type} : ∀ xs : List α, bools (xs.map fun _ => T.bl true) = some (xs.map fun _ => true)
  | [] => rfl
  | x :: xs => by simp only [List.map_cons, bools, bools_true xs, Option.map_some]
theorem all_lst {α : Type} (xs : List α) (S : Sto) : allT S [.lst (xs.map fun _ => T.bl true)] = some (.bl true) := by
  show ((bools (xs.map fun _ => T.bl true)).map fun bs => T.bl (bs.all id)) = some (.bl true)
  rw [bools_true]
  simp
theorem tup_lst (xs : List T) (S : Sto) : tupT S [.lst xs] = some (.tup xs) := rfl
theorem tup_tup (xs : List T) (S : Sto) : tupT S [.tup xs] = some (.tup xs) := rfl
theorem slots1 (i : Nat) (t : T) : slotsIn [(i, t)] [i] = true := by
  simp [slotsIn]
theorem flats_strs : ∀ l : List Str, flats (l.map T.str) = some (l.map V.str)
  | [] => rfl
  | x :: l => by simp only [List.map_cons, flats, flatT, flats_strs l, Option.bind_some]
theorem inV_strs (x : Str) : ∀ l : List Str, inV (V.str x) (l.map V.str) = decide (x ∈ l)
  | [] => rfl
  | y :: l => by
    have ih := inV_strs x l
    unfold inV at ih ⊢
    rw [List.map_cons, List.any_cons, ih]
    have e : eqV (V.str y) (V.str x) = decide (x = y) := by
      show (y == x) = decide (x = y)
      by_cases h : x = y
      · subst h
        rw [beq_self_eq_true, decide_eq_true rfl]
      · rw [decide_eq_false h]
        exact beq_false_of_ne fun z => h z.symm
    rw [e, ← Bool.decide_or]
    exact decide_eq_decide.mpr List.mem_cons.symm
theorem in_tup (x : Str) (l : List Str) (S : Sto) : inT S (.str x) (.tup (l.map T.str)) = some (.bl (decide (x ∈ l))) := by
  show Option.map T.bl (match flatT (.str x), flats (l.map T.str) with | some v, some vs => some (inV v vs) | _, _ => none) = _
  rw [flats_strs]
  simp only [flatT, inV_strs, Option.map_some]
theorem in_lst (x : Str) (l : List Str) (S : Sto) : inT S (.str x) (.lst (l.map T.str)) = some (.bl (decide (x ∈ l))) := by
  show Option.map T.bl (match flatT (.str x), flats (l.map T.str) with | some v, some vs => some (inV v vs) | _, _ => none) = _
  rw [flats_strs]
  simp only [flatT, inV_strs, Option.map_some]
theorem in_ref {n : Nat} {l : List Str} {S : Sto} (h : S[n]? = some (.lst (l.map T.str))) (x : Str) : inT S (.str x) (.ref n) = some (.bl (decide (x ∈ l))) := by
  have e : dctT S (.ref n) = none := by
    simp only [dctT, h]
  unfold inT inB
  simp only [e, seqL, h, flats_strs, flatT, inV_strs, Option.map_some]
theorem nin_of {S : Sto} {x y : T} {b : Bool} (h : inT S x y = some (.bl b)) : ninT S x y = some (.bl !b) := by
  unfold inT at h
  unfold ninT
  cases e : inB S x y with
  | none => rw [e] at h; cases h
  | some c =>
    rw [e] at h
    simp only [Option.map_some, Option.some.injEq, T.bl.injEq] at h
    simp only [h, Option.map_some]
theorem sto_1 (S : Sto) (z x : T) (J : Sto) : (S ++ z :: x :: J)[S.length + 1]? = some x := by simp
theorem sto_set1 (S : Sto) (z x y : T) (J : Sto) : (S ++ z :: x :: J).set (S.length + 1) y = S ++ z :: y :: J := by simp
theorem lstAt_1 (S : Sto) (z : T) (ts : List T) (J : Sto) : lstAt (S ++ z :: .lst ts :: J) (S.length + 1) = some ts := by
  unfold lstAt
  rw [sto_1]
theorem in_end (S : Sto) (l : List Str) (J : Sto) (x : Str) : inT (S ++ .lst (l.map T.str) :: J) (.str x) (.ref S.length) = some (.bl (decide (x ∈ l))) := in_ref (sto_end S _ J) x
theorem in_1 (S : Sto) (z : T) (l : List Str) (J : Sto) (x : Str) : inT (S ++ z :: .lst (l.map T.str) :: J) (.str x) (.ref (S.length + 1)) = some (.bl (decide (x ∈ l))) := in_ref (sto_1 S z _ J) x
theorem nin_end (S : Sto) (l : List Str) (J : Sto) (x : Str) : ninT (S ++ .lst (l.map T.str) :: J) (.str x) (.ref S.length) = some (.bl (!decide (x ∈ l))) := nin_of (in_end S l J x)
theorem nin_1 (S : Sto) (z : T) (l : List Str) (J : Sto) (x : Str) : ninT (S ++ z :: .lst (l.map T.str) :: J) (.str x) (.ref (S.length + 1)) = some (.bl (!decide (x ∈ l))) := nin_of (in_1 S z l J x)
theorem len_ref {S : Sto} {n : Nat} {ts : List T} (h : S[n]? = some (.lst ts)) : lenT S [.ref n] = some (.int ts.length) := by
  have e : dctT S (.ref n) = none := by
    simp only [dctT, h]
  unfold lenT
  simp only [e, seqL, h, Option.map_some]
theorem len_end (S : Sto) (ts : List T) (J : Sto) : lenT (S ++ .lst ts :: J) [.ref S.length] = some (.int ts.length) := len_ref (sto_end S _ J)
theorem len_1 (S : Sto) (z : T) (ts : List T) (J : Sto) : lenT (S ++ z :: .lst ts :: J) [.ref (S.length + 1)] = some (.int ts.length) := len_ref (sto_1 S z _ J)
theorem tup_end (S : Sto) (ts : List T) (J : Sto) : tupT (S ++ .lst ts :: J) [.ref S.length] = some (.tup ts) := by
  show (seqL (S ++ .lst ts :: J) (.ref S.length)).map T.tup = some (.tup ts)
  unfold seqL
  simp only [sto_end, Option.map_some]
theorem tup_1 (S : Sto) (z : T) (ts : List T) (J : Sto) : tupT (S ++ z :: .lst ts :: J) [.ref (S.length + 1)] = some (.tup ts) := by
  show (seqL (S ++ z :: .lst ts :: J) (.ref (S.length + 1))).map T.tup = some (.tup ts)
  unfold seqL
  simp only [sto_1, Option.map_some]
theorem gt_int (i j : Int) (S : Sto) : gtT S (.int i) (.int j) = some (.bl (decide (j < i))) := rfl
theorem lt_int (i j : Int) (S : Sto) : ltT S (.int i) (.int j) = some (.bl (decide (i < j))) := rfl
theorem map_snoc (l : List Str) (x : Str) : l.map T.str ++ [.str x] = (l ++ [x]).map T.str := by simp
end TL
set_option Elab.async false
set_option linter.all false
set_option maxRecDepth 100000
namespace TL
open PySem PySem.Spec L2
open PyProof.Rows hiding St
mutual
def sub (f : Nat → Option T) : T → Option T
  | .non => some .non
  | .bl b => some (.bl b)
  | .int i => some (.int i)
  | .str x => some (.str x)
  | .val v => some (.val v)
  | .tup ts => (subs f ts).map .tup
  | .lst ts => (subs f ts).map .lst
  | .sls ts => (subs f ts).map .sls
  | .dct ks ts => (subs f ts).map (.dct ks)
  | .ref m => f m
  | .ktp ts => (subs f ts).map .ktp
  | .etp ts => (subs f ts).map .etp
  | .kdc ks ts => (subs f ts).map (.kdc ks)
  | .fdc ks ts => (subs f ts).map (.fdc ks)
def subs (f : Nat → Option T) : List T → Option (List T)
  | [] => some []
  | t :: ts => (sub f t).bind fun u => (subs f ts).bind fun us => some (u :: us)
end
def oldR (k : Nat) (m : Nat) : Option T := if m < k then some (.ref m) else none
def frzR (k : Nat) (S : Sto) : Nat → Nat → Option T
  | 0, m => oldR k m
  | n + 1, m => if m < k then some (.ref m) else match S[m]? with
    | some (.lst ts) => (subs (frzR k S n) ts).map .lst
    | some (.dct ks ts) => (subs (frzR k S n) ts).map (.dct ks)
    | some (.kdc ks ts) => (subs (frzR k S n) ts).map (.kdc ks)
    | _ => none
def OldS (S S1 : Sto) : Prop := ∀ (n : Nat) (c : T), n < S.length → S1[n]? = some c → S[n]? = some c ∨ sub (oldR S.length) c = some c
open Classical in
noncomputable def gc (F : FF) : FF := fun ts S => match F ts S with
  | .ok t S1 => match sub (frzR S.length S1 3) t with
    | some t' => if S.length ≤ S1.length ∧ OldS S S1 then .ok t' (S1.take S.length) else .stuck
    | none => .stuck
  | r => r
mutual
/-- a tree without cells -/
def nr : T → Bool
  | .ref _ => false
  | .tup ts => nrs ts
  | .lst ts => nrs ts
  | .sls ts => nrs ts
  | .dct _ ts => nrs ts
  | .ktp ts => nrs ts
  | .etp ts => nrs ts
  | .kdc _ ts => nrs ts
  | .fdc _ ts => nrs ts
  | _ => true
def nrs : List T → Bool
  | [] => true
  | t :: ts => nr t && nrs ts
end
mutual
theorem sub_nr (f : Nat → Option T) : ∀ {t : T}, nr t = true → sub f t = some t
  | .non, _ => rfl
  | .bl _, _ => rfl
  | .int _, _ => rfl
  | .str _, _ => rfl
  | .val _, _ => rfl
  | .tup ts, h => by simp only [sub, subs_nr f (show nrs ts = true from h), Option.map_some]
  | .lst ts, h => by simp only [sub, subs_nr f (show nrs ts = true from h), Option.map_some]
  | .sls ts, h => by simp only [sub, subs_nr f (show nrs ts = true from h), Option.map_some]
  | .dct ks ts, h => by simp only [sub, subs_nr f (show nrs ts = true from h), Option.map_some]
  | .ref _, h => by cases h
  | .ktp ts, h => by simp only [sub, subs_nr f (show nrs ts = true from h), Option.map_some]
  | .etp ts, h => by simp only [sub, subs_nr f (show nrs ts = true from h), Option.map_some]
  | .kdc ks ts, h => by simp only [sub, subs_nr f (show nrs ts = true from h), Option.map_some]
  | .fdc ks ts, h => by simp only [sub, subs_nr f (show nrs ts = true from h), Option.map_some]
theorem subs_nr (f : Nat → Option T) : ∀ {ts : List T}, nrs ts = true → subs f ts = some ts
  | [], _ => rfl
  | t :: ts, h => by
    simp only [nrs, Bool.and_eq_true] at h
    simp only [subs, sub_nr f h.1, subs_nr f h.2, Option.bind_some]
end
section
variable {K : PySem.W.Frag} {H H' : Hp} {μ μ' μ'' : Mu} {S S1 : Sto}
mutual
/-- what the trees say stays when fewer cells are told, where each cell's tree is told otherwise -/
theorem Rel.sub {f : Nat → Option T} (ho : ∀ a, μ'.out a → μ''.out a) (hf : ∀ m u v, f m = some u → Rel K H' μ' (.ref m) v → Rel K H' μ'' u v) : ∀ (t : T) {t' : T} {v : V}, sub f t = some t' → Rel K H' μ' t v → Rel K H' μ'' t' v
  | .non, _, _, e, h => by cases e; simpa only [Rel] using h
  | .bl _, _, _, e, h => by cases e; simpa only [Rel] using h
  | .int _, _, _, e, h => by cases e; simpa only [Rel] using h
  | .str _, _, _, e, h => by cases e; simpa only [Rel] using h
  | .val _, _, _, e, h => by cases e; simpa only [Rel] using h
  | .ref n, t', v, e, h => hf n t' v e h
  | .tup ts, _, _, e, h => by
    simp only [TL.sub, Option.map_eq_some_iff] at e
    obtain ⟨us, e, rfl⟩ := e
    simp only [Rel] at h ⊢
    obtain ⟨a, xs, rfl, o, r⟩ := h
    exact ⟨a, xs, rfl, o.imp (fun z => ⟨z.1, ho _ z.2⟩) id, Rels.sub ho hf ts e r⟩
  | .lst ts, _, _, e, h => by
    simp only [TL.sub, Option.map_eq_some_iff] at e
    obtain ⟨us, e, rfl⟩ := e
    simp only [Rel] at h ⊢
    obtain ⟨a, xs, rfl, o, r⟩ := h
    exact ⟨a, xs, rfl, ⟨o.1, ho _ o.2⟩, Rels.sub ho hf ts e r⟩
  | .sls ts, _, _, e, h => by
    simp only [TL.sub, Option.map_eq_some_iff] at e
    obtain ⟨us, e, rfl⟩ := e
    simp only [Rel] at h ⊢
    obtain ⟨a, xs, rfl, o, r⟩ := h
    exact ⟨a, xs, rfl, o.imp (fun z => ⟨z.1, ho _ z.2⟩) id, Rels.sub ho hf ts e r⟩
  | .dct ks ts, _, _, e, h => by
    simp only [TL.sub, Option.map_eq_some_iff] at e
    obtain ⟨us, e, rfl⟩ := e
    simp only [Rel] at h ⊢
    obtain ⟨a, xs, rfl, o, q, r⟩ := h
    exact ⟨a, xs, rfl, ⟨o.1, ho _ o.2⟩, q, Rels.sub ho hf ts e r⟩
  | .ktp ts, _, _, e, h => by
    simp only [TL.sub, Option.map_eq_some_iff] at e
    obtain ⟨us, e, rfl⟩ := e
    simp only [Rel] at h ⊢
    obtain ⟨a, xs, rfl, ⟨o, z, m, d⟩, r⟩ := h
    exact ⟨a, xs, rfl, ⟨o, z, ho _ m, d⟩, Rels.sub ho hf ts e r⟩
  | .etp ts, _, _, e, h => by
    simp only [TL.sub, Option.map_eq_some_iff] at e
    obtain ⟨us, e, rfl⟩ := e
    simp only [Rel] at h ⊢
    obtain ⟨a, xs, rfl, o, r⟩ := h
    exact ⟨a, xs, rfl, ⟨o.1, ho _ o.2⟩, Rels.sub ho hf ts e r⟩
  | .kdc ks ts, _, _, e, h => by
    simp only [TL.sub, Option.map_eq_some_iff] at e
    obtain ⟨us, e, rfl⟩ := e
    simp only [Rel] at h ⊢
    obtain ⟨a, xs, rfl, o, q, r⟩ := h
    exact ⟨a, xs, rfl, ⟨o.1, ho _ o.2⟩, q, Rels.sub ho hf ts e r⟩
  | .fdc ks ts, _, _, e, h => by
    simp only [TL.sub, Option.map_eq_some_iff] at e
    obtain ⟨us, e, rfl⟩ := e
    simp only [Rel] at h ⊢
    obtain ⟨a, xs, rfl, o, q, r⟩ := h
    exact ⟨a, xs, rfl, ⟨o.1, ho _ o.2⟩, q, Rels.sub ho hf ts e r⟩
theorem Rels.sub {f : Nat → Option T} (ho : ∀ a, μ'.out a → μ''.out a) (hf : ∀ m u v, f m = some u → Rel K H' μ' (.ref m) v → Rel K H' μ'' u v) : ∀ (ts : List T) {ts' : List T} {vs : List V}, subs f ts = some ts' → Rels K H' μ' ts vs → Rels K H' μ'' ts' vs
  | [], _, _, e, h => by cases e; simpa only [Rels] using h
  | t :: ts, _, _, e, h => by
    simp only [TL.subs] at e
    cases e1 : TL.sub f t with
    | none => rw [e1] at e; cases e
    | some u =>
      cases e2 : TL.subs f ts with
      | none => rw [e1, e2] at e; cases e
      | some us =>
        rw [e1, e2] at e
        cases e
        simp only [Rels] at h ⊢
        obtain ⟨v, r, rfl, h1, h2⟩ := h
        exact ⟨v, r, rfl, Rel.sub ho hf t e1 h1, Rels.sub ho hf ts e2 h2⟩
end
mutual
theorem Rel.old : ∀ (t : T) {v : V}, Rel K H μ t v → TL.sub (oldR μ.c.length) t = some t
  | .non, _, _ => rfl
  | .bl _, _, _ => rfl
  | .int _, _, _ => rfl
  | .str _, _, _ => rfl
  | .val _, _, _ => rfl
  | .ref n, _, h => by
    simp only [Rel] at h
    obtain ⟨a, e, _⟩ := h
    exact if_pos (List.getElem?_eq_some_iff.mp e).1
  | .tup ts, _, h => by
    simp only [Rel] at h
    obtain ⟨a, xs, _, _, r⟩ := h
    simp only [TL.sub, Rels.old ts r, Option.map_some]
  | .lst ts, _, h => by
    simp only [Rel] at h
    obtain ⟨a, xs, _, _, r⟩ := h
    simp only [TL.sub, Rels.old ts r, Option.map_some]
  | .sls ts, _, h => by
    simp only [Rel] at h
    obtain ⟨a, xs, _, _, r⟩ := h
    simp only [TL.sub, Rels.old ts r, Option.map_some]
  | .dct ks ts, _, h => by
    simp only [Rel] at h
    obtain ⟨a, xs, _, _, _, r⟩ := h
    simp only [TL.sub, Rels.old ts r, Option.map_some]
  | .ktp ts, _, h => by
    simp only [Rel] at h
    obtain ⟨a, xs, _, _, r⟩ := h
    simp only [TL.sub, Rels.old ts r, Option.map_some]
  | .etp ts, _, h => by
    simp only [Rel] at h
    obtain ⟨a, xs, _, _, r⟩ := h
    simp only [TL.sub, Rels.old ts r, Option.map_some]
  | .kdc ks ts, _, h => by
    simp only [Rel] at h
    obtain ⟨a, xs, _, _, _, r⟩ := h
    simp only [TL.sub, Rels.old ts r, Option.map_some]
  | .fdc ks ts, _, h => by
    simp only [Rel] at h
    obtain ⟨a, xs, _, _, _, r⟩ := h
    simp only [TL.sub, Rels.old ts r, Option.map_some]
theorem Rels.old : ∀ (ts : List T) {vs : List V}, Rels K H μ ts vs → TL.subs (oldR μ.c.length) ts = some ts
  | [], _, _ => rfl
  | t :: ts, _, h => by
    simp only [Rels] at h
    obtain ⟨v, r, rfl, h1, h2⟩ := h
    simp only [TL.subs, Rel.old t h1, Rels.old ts h2, Option.bind_some]
end
theorem CellR.old {a : Addr} {c : T} (h : CellR K H μ a c) : TL.sub (oldR μ.c.length) c = some c := by
  cases c with
  | lst ts =>
    obtain ⟨vs, _, r⟩ := h
    simp only [TL.sub, Rels.old ts r, Option.map_some]
  | dct ks ts =>
    obtain ⟨kvs, _, _, r⟩ := h
    simp only [TL.sub, Rels.old ts r, Option.map_some]
  | kdc ks ts =>
    obtain ⟨kvs, _, _, r⟩ := h
    simp only [TL.sub, Rels.old ts r, Option.map_some]
  | _ => exact h.elim
theorem oldR_rel (hc : ∃ ν, μ'.c = μ.c ++ ν) (h2 : μ''.c = μ.c) : ∀ m u v, oldR μ.c.length m = some u → Rel K H' μ' (.ref m) v → Rel K H' μ'' u v := fun m u v e h => by
  unfold oldR at e
  split at e
  · rename_i hm
    cases e
    simp only [Rel] at h ⊢
    obtain ⟨a, ea, rfl⟩ := h
    obtain ⟨ν, eν⟩ := hc
    rw [eν, List.getElem?_append_left hm] at ea
    exact ⟨a, by rw [h2]; exact ea, rfl⟩
  · cases e
theorem frzR_rel (hc : ∃ ν, μ'.c = μ.c ++ ν) (h2 : μ''.c = μ.c) (hr : μ''.r = μ'.r) (s : RelS K H' μ' S1) : ∀ n m u v, frzR μ.c.length S1 n m = some u → Rel K H' μ' (.ref m) v → Rel K H' μ'' u v
  | 0, m, u, v, e, h => oldR_rel hc h2 m u v e h
  | n + 1, m, u, v, e, h => by
    have ho : ∀ a, μ'.out a → μ''.out a := fun a o => ⟨fun z => o.1 (by
      obtain ⟨ν, eν⟩ := hc
      rw [eν]
      exact List.mem_append_left _ (by rw [← h2]; exact z)), by rw [hr]; exact o.2⟩
    unfold frzR at e
    split at e
    · rename_i hm
      cases e
      exact oldR_rel hc h2 m _ v (if_pos hm) h
    · rename_i hm
      simp only [Rel] at h
      obtain ⟨a, ea, rfl⟩ := h
      have ao : μ''.out a := ⟨fun z => by
        rw [h2] at z
        obtain ⟨ν, eν⟩ := hc
        have nd := s.nd
        rw [eν, List.nodup_append] at nd
        rw [eν, List.getElem?_append_right (Nat.le_of_not_lt hm)] at ea
        exact nd.2.2 a z a (List.mem_of_getElem? ea) rfl, fun z => s.dis a (hr ▸ z) (List.mem_of_getElem? ea)⟩
      cases es : S1[m]? with
      | none => rw [es] at e; cases e
      | some c =>
        have q := s.cell m c a es ea
        rw [es] at e
        cases c with
        | lst ts =>
          simp only [Option.map_eq_some_iff] at e
          obtain ⟨us, e, rfl⟩ := e
          obtain ⟨vs, hv, r⟩ := q
          simp only [Rel]
          exact ⟨a, vs, rfl, ⟨hv, ao⟩, Rels.sub ho (fun m u v e h => frzR_rel hc h2 hr s n m u v e h) ts e r⟩
        | dct ks ts =>
          simp only [Option.map_eq_some_iff] at e
          obtain ⟨us, e, rfl⟩ := e
          obtain ⟨vs, hv, hk, r⟩ := q
          simp only [Rel]
          exact ⟨a, vs, rfl, ⟨hv, ao⟩, hk, Rels.sub ho (fun m u v e h => frzR_rel hc h2 hr s n m u v e h) ts e r⟩
        | kdc ks ts =>
          simp only [Option.map_eq_some_iff] at e
          obtain ⟨us, e, rfl⟩ := e
          obtain ⟨vs, hv, hk, r⟩ := q
          simp only [Rel]
          exact ⟨a, vs, rfl, ⟨hv, ao⟩, hk, Rels.sub ho (fun m u v e h => frzR_rel hc h2 hr s n m u v e h) ts e r⟩
        | _ => cases e
end
section
variable {P : Program} {w : World} {K : PySem.W.Frag} {mg : Str → Option Value} {base : Heap} {k : Nat} {f : Addr} {fd : FuncData} {ps : List Str} {F : FF}
theorem post_gc {μ : Mu} {H : Hp} {S : Sto} {ts : List T} {Q : VK} (s : RelS K H μ S) (h : post K xF (rV K) μ H (gc F ts S) Q) : post K xF (rV K) μ H (F ts S) Q := by
  unfold gc at h
  cases e : F ts S with
  | stuck => simp only [e] at h; exact h
  | exc x S1 => simp only [e] at h; exact h
  | ok t S1 =>
    simp only [e] at h
    cases e1 : sub (frzR S.length S1 3) t with
    | none => simp only [e1] at h; exact h.elim
    | some t' =>
      simp only [e1] at h
      split at h
      · rename_i hz
        obtain ⟨hl, hz⟩ := hz
        intro μ' v H' E s' r
        have hc : ∃ ν, μ'.c = μ.c ++ ν := by
          obtain ⟨ν, eν, _⟩ := E.pre
          exact ⟨ν, eν⟩
        have ho : ∀ a, μ'.out a → Mu.out ⟨μ.c, μ'.r⟩ a := fun a o => ⟨fun z => o.1 (by
          obtain ⟨ν, eν⟩ := hc
          rw [eν]
          exact List.mem_append_left _ z), o.2⟩
        refine h ⟨μ.c, μ'.r⟩ v H' ⟨⟨[], by simp, fun _ z => nomatch z⟩, E.res, E.keep, E.live⟩ ⟨?_, s.nd, fun n c a ec ea => ?_, s'.live, fun p hp z => s'.dis p hp ?_⟩ ?_
        · rw [List.length_take, s.len]
          omega
        · have hn : n < S.length := by
            rw [← s.len]
            exact (List.getElem?_eq_some_iff.mp ea).1
          rw [List.getElem?_take_of_lt hn] at ec
          obtain ⟨ν, eν⟩ := hc
          have ea' : μ'.c[n]? = some a := by
            rw [eν, List.getElem?_append_left (by rw [s.len]; exact hn)]
            exact ea
          have q := s'.cell n c a ec ea'
          have oc : TL.sub (oldR μ.c.length) c = some c := by
            rcases hz n c hn ec with y | y
            · exact (s.cell n c a y ea).old
            · rw [s.len]; exact y
          have hf := oldR_rel (K := K) (H' := H') (μ := μ) (μ' := μ') (μ'' := ⟨μ.c, μ'.r⟩) ⟨ν, eν⟩ rfl
          cases c with
          | lst ts =>
            obtain ⟨vs, hv, r⟩ := q
            simp only [TL.sub, Option.map_eq_some_iff, T.lst.injEq] at oc
            obtain ⟨us, oc, rfl⟩ := oc
            exact ⟨vs, hv, Rels.sub ho hf _ oc r⟩
          | dct ks ts =>
            obtain ⟨vs, hv, hk, r⟩ := q
            simp only [TL.sub, Option.map_eq_some_iff, T.dct.injEq, true_and] at oc
            obtain ⟨us, oc, rfl⟩ := oc
            exact ⟨vs, hv, hk, Rels.sub ho hf _ oc r⟩
          | kdc ks ts =>
            obtain ⟨vs, hv, hk, r⟩ := q
            simp only [TL.sub, Option.map_eq_some_iff, T.kdc.injEq, true_and] at oc
            obtain ⟨us, oc, rfl⟩ := oc
            exact ⟨vs, hv, hk, Rels.sub ho hf _ oc r⟩
          | _ => exact q.elim
        · obtain ⟨ν, eν⟩ := hc
          rw [eν]
          exact List.mem_append_left _ z
        · rw [← s.len] at e1
          exact Rel.sub ho (fun m u v e h => frzR_rel (μ'' := ⟨μ.c, μ'.r⟩) hc rfl rfl s' 3 m u v e h) t e1 r
      · exact h.elim
theorem df_gc (D : Df P w K mg base k f fd ps F) : Df P w K mg base k f fd ps (gc F) where
  arity := fun ts S h => by unfold gc; rw [D.arity ts S h]
  go := fun A fs s H given us vs Q hr hg he hb hv hs => D.go A fs s H given us vs Q hr hg he hb hv (by
    obtain ⟨μ, S, ts, st, r, h⟩ := hs
    exact ⟨μ, S, ts, st, r, post_gc st h⟩)
end
theorem gc_eq {F : FF} {ts : List T} {S J : Sto} {t t' : T} (h : F ts S = .ok t (S ++ J)) (e : sub (frzR S.length (S ++ J) 3) t = some t') : gc F ts S = .ok t' S := by
  unfold gc
  rw [h]
  simp only [e]
  rw [if_pos ⟨by simp, fun n c hn hc => .inl (by rw [← hc, List.getElem?_append_left hn])⟩, List.take_left' rfl]
theorem gc_nr {F : FF} {ts : List T} {S J : Sto} {t : T} (h : F ts S = .ok t (S ++ J)) (e : nr t = true) : gc F ts S = .ok t S := gc_eq h (sub_nr _ e)
theorem gc_ref {F : FF} {ts us : List T} {S J : Sto} {m : Nat} (h : F ts S = .ok (.ref m) (S ++ J)) (hm : S.length ≤ m) (e : (S ++ J)[m]? = some (.lst us)) (hn : nrs us = true) : gc F ts S = .ok (.lst us) S := gc_eq h (by
  simp only [sub, frzR]
  rw [if_neg (by omega), e]
  simp only [subs_nr _ hn, Option.map_some])
theorem gc_dref {F : FF} {ts us : List T} {ks : List Key} {S J : Sto} {m : Nat} (h : F ts S = .ok (.ref m) (S ++ J)) (hm : S.length ≤ m) (e : (S ++ J)[m]? = some (.dct ks us)) (hn : nrs us = true) : gc F ts S = .ok (.dct ks us) S := gc_eq h (by
  simp only [sub, frzR]
  rw [if_neg (by omega), e]
  simp only [subs_nr _ hn, Option.map_some])
theorem nrs_all : ∀ {ts : List T}, (∀ t ∈ ts, nr t = true) → nrs ts = true
  | [], _ => rfl
  | t :: ts, h => by simp only [nrs, h t List.mem_cons_self, nrs_all fun u hu => h u (List.mem_cons_of_mem _ hu), Bool.and_self]
theorem nrs_map {α : Type} {f : α → T} {l : List α} (h : ∀ x ∈ l, nr (f x) = true) : nrs (l.map f) = true := nrs_all fun t ht => by
  obtain ⟨x, hx, rfl⟩ := List.mem_map.mp ht
  exact h x hx
theorem nrs_str (l : List Str) : nrs (l.map T.str) = true := nrs_map fun _ _ => rfl
end TL
set_option Elab.async false
set_option linter.all false
set_option maxRecDepth 100000
namespace TL
open PySem PySem.Spec L2
open PyProof.Rows hiding St
abbrev CS := List T × Nat × T
abbrev FIC := Fr → Sto → Res CS
def SrcC (K : PySem.W.Frag) (J : It) (p : CS) (μ : Mu) (H : Hp) : Prop := ∀ μ2 H2 S2, Ext H μ H2 μ2 → RelS K H2 μ2 S2 → S2[p.2.1]? = some p.2.2 →
  (∀ i x, p.1[i]? = some x → J.go i H2 ∧ ∀ v H3, J.yld i H2 v H3 → Same H2 H3 ∧ ∀ S, RelS K H2 μ2 S → Rel K H3 μ2 x v) ∧ ∀ i, p.1.length ≤ i → J.stop i H2
def rIC (K : PySem.W.Frag) : RL CS It := fun H μ p J => SrcC K J p μ H
def wiC (K : PySem.W.Frag) (wx : WT) (Fi : FIC) : TI := tG K wx (rIC K) Fi
def PFIC (X : Cx) (wx : WT) (tg e : Expr) (Fi : FIC) : Prop := PI X tg e (wiC X.K wx Fi)
def lstC (S : Sto) (t : T) : Option (Nat × List T) := match t with
  | .ref n => match S[n]? with
    | some (.lst ts) => some (n, ts)
    | _ => none
  | _ => none
theorem lstC_eq {S : Sto} {t : T} {n : Nat} {ts : List T} (h : lstC S t = some (n, ts)) : t = .ref n ∧ S[n]? = some (.lst ts) := by
  unfold lstC at h
  split at h
  · rename_i m
    split at h
    · rename_i us e
      cases h
      exact ⟨rfl, e⟩
    · cases h
  · cases h
def fiAC (Fa : FE) : FIC := fun τ S => (Fa τ S).bind fun t S1 => match lstC S1 t with
  | some (n, ts) => .ok (ts, n, .lst ts) S1
  | none => .stuck
def numbT (xs : List T) : List T := (List.range xs.length).zipWith (fun i x => T.tup [.int (i : Nat), x]) xs
def fiEC (Fs : FA) : FIC := fun τ S => (Fs τ S).bind fun ts S1 => match ts with
  | [t] => match lstC S1 t with
    | some (n, ts) => .ok (numbT ts, n, .lst ts) S1
    | none => .stuck
  | _ => .stuck
open Classical in
noncomputable def forC (n : Nat) (c : T) (g : GT) (B : BS) : List T → BS
  | [], τ, S => if S[n]? = some c then .nx τ S else .stuck
  | x :: xs, τ, S => if S[n]? = some c then (match g x with
    | none => .stuck
    | some l => match B (setsT τ l) S with
      | .nx τ2 S2 => forC n c g B xs τ2 S2
      | .ct τ2 S2 => forC n c g B xs τ2 S2
      | .bk τ2 S2 => .nx τ2 S2
      | r => r) else .stuck
noncomputable def bForC (Fi : FIC) (g : GT) (B : BS) : BS := fun τ S => (Fi τ S).bindS τ fun p S1 => forC p.2.1 p.2.2 g B p.1 τ S1
open Classical in
noncomputable def lcC (n : Nat) (c : T) (g : GT) (Ft : FT) (Fe : FE) (vs : List Nat) (τ : Fr) : List T → Sto → Res (List T)
  | [], S => if S[n]? = some c then .ok [] S else .stuck
  | x :: xs, S => if S[n]? = some c then (match g x with
    | none => .stuck
    | some l => if slotsIn l vs then (Ft (setsT τ l) S).nox.bind fun k S1 => match k with
        | true => (Fe (setsT τ l) S1).nox.bind fun y S2 => (lcC n c g Ft Fe vs τ xs S2).bind fun ys S3 => .ok (y :: ys) S3
        | false => lcC n c g Ft Fe vs τ xs S1
      else .stuck) else .stuck
noncomputable def fLcC (Fi : FIC) (g : GT) (Ft : FT) (Fe : FE) (vs : List Nat) : FE := fun τ S => (Fi τ S).bind fun p S1 => if p.1.length ≤ sizeLine then (lcC p.2.1 p.2.2 g Ft Fe vs (wipeT τ vs) p.1 S1).bind fun ys S2 => .ok (.lst ys) S2 else .stuck
section
variable {X : Cx} {wx : WT} {pos p : Pos} {tg a e : Expr} {Fa : FE} {Fs : FA}
theorem lstC_ok {K : PySem.W.Frag} {H : Hp} {μ : Mu} {S : Sto} {t : T} {v : V} {n : Nat} {ts : List T} (h : lstC S t = some (n, ts)) (s : RelS K H μ S) (r : Rel K H μ t v) : ∃ a vs, μ.c[n]? = some a ∧ v = .ref a ∧ H a = some (.lst vs) ∧ Rels K H μ ts vs := by
  obtain ⟨rfl, e⟩ := lstC_eq h
  simp only [Rel] at r
  obtain ⟨a, ea, rfl⟩ := r
  obtain ⟨vs, hv, rv⟩ := s.cell n _ a e ea
  exact ⟨a, vs, ea, rfl, hv, rv⟩
theorem cell_later {K : PySem.W.Frag} {H H2 : Hp} {μ μ2 : Mu} {S2 : Sto} {n : Nat} {a : Addr} {ts : List T} (ea : μ.c[n]? = some a) (E : Ext H μ H2 μ2) (s2 : RelS K H2 μ2 S2) (e2 : S2[n]? = some (.lst ts)) : ∃ vs, H2 a = some (.lst vs) ∧ Rels K H2 μ2 ts vs := by
  obtain ⟨ν, eν, _⟩ := E.pre
  have ea2 : μ2.c[n]? = some a := by rw [eν, List.getElem?_append_left (List.getElem?_eq_some_iff.mp ea).1]; exact ea
  exact s2.cell n _ a e2 ea2
theorem pfi_cell (ha : PF X wx a Fa) : PFIC X wx tg a (fiAC Fa) := PI.imp (pi_list ha) fun σ H Q h => by
  obtain ⟨μ, τ, S, s, f, h⟩ := h
  refine tG.seq s f h fun μ1 H1 t v S1 A1 h1 => ?_
  cases e : lstC S1 t with
  | none => simp only [e] at h1; exact h1.elim
  | some q =>
    obtain ⟨n, ts⟩ := q
    simp only [e] at h1
    obtain ⟨a, vs, ea, rfl, hv, rv⟩ := lstC_ok e A1.st A1.rel
    refine ⟨a, rfl, ⟨vs, .inl (.inl hv)⟩, h1.here A1.st fun μ2 H2 S2 E s2 e2 => ?_⟩
    obtain ⟨ws, hw, rw'⟩ := cell_later ea E s2 e2
    have hq : SqL X.K H2 a ws := .inl (.inl hw)
    refine ⟨fun i x ei => ?_, fun i hi => ⟨ws, hq, by rw [← rw'.length]; exact hi⟩⟩
    obtain ⟨u, eu, ru⟩ := rw'.get ei
    refine ⟨⟨ws, u, hq, eu⟩, fun v H3 y => ?_⟩
    obtain ⟨rfl, hy⟩ := y
    have := hy ws hq
    rw [eu] at this
    cases this
    exact ⟨Same.refl _, fun _ _ => ru⟩
def fiEL (Fs : FA) : FI := fun τ S => (Fs τ S).bind fun ts S1 => match ts with
  | [.lst xs] => .ok (numbT xs) S1
  | [.sls xs] => .ok (numbT xs) S1
  | _ => .stuck
theorem Src.enumL {K : PySem.W.Frag} {H : Hp} {μ : Mu} {a : Addr} {ws : List V} {xs : List T} (f : OL K H μ a ws) (r : Rels K H μ xs ws) : Src K (Ite K a) (numbT xs) μ H := fun μ2 H2 E => by
  have f2 : OL K H2 μ2 a ws := f.imp E.fix id
  have hq : SqL K H2 a ws := f2.imp (fun z => z.1) id
  have rw' := Rels.mono E xs r
  refine ⟨fun i y ei => ?_, fun i hi => ⟨ws, hq, by rw [← rw'.length]; simpa [numbT] using hi⟩⟩
  obtain ⟨x, ex, rfl⟩ := zip_range ei
  obtain ⟨v, ev, rv2⟩ := rw'.get ex
  refine ⟨⟨ws, v, hq, ev⟩, fun u H3 y => ?_⟩
  obtain ⟨T', x', rfl, nT, rfl, hx'⟩ := y
  have := hx' ws hq
  rw [ev] at this
  cases this
  have sm := fresh_same (o := .tup [.int (i : Nat), v]) nT
  refine ⟨sm, fun S s => ?_⟩
  exact rel_tup s nT (by simp only [Rels, Rel]; exact ⟨_, _, rfl, rfl, v, [], rfl, rv2, rfl⟩)
theorem pfi_enumL {elts : List Expr} {kk : Nat} {tpos : Pos} (ha : PFA X wx [e] Fs) (hm : X.mg "enumerate" = none) (hg : Gl X "enumerate" := by rfl) (hs : starEach [e] X.env = [(false, eval e X.env)] := by rfl) :
    PFI X wx (.Tuple elts kk tpos) (.Call (.Name "enumerate" p) [e] [] pos) (fiEL Fs) := PI.imp (pi_enum hg hm ha hs) fun σ H Q h => by
  obtain ⟨μ, τ, S, s, f, h⟩ := h
  refine tG.seq s f h fun μ1 H1 ts vs S1 A1 h1 => ?_
  split at h1
  · rename_i xs
    obtain ⟨v, rfl, rt⟩ := rels1 (show Rels X.K H1 μ1 [.lst xs] vs from A1.rel)
    simp only [Rel] at rt
    obtain ⟨a, ws, rfl, o, r⟩ := rt
    have o' : OL X.K H1 μ1 a ws := .inl ⟨.inl o.1, o.2⟩
    exact ⟨a, ws, rfl, .inl (.inl o.1), h1.here A1.st (Src.enumL o' r)⟩
  · rename_i xs
    obtain ⟨v, rfl, rt⟩ := rels1 (show Rels X.K H1 μ1 [.sls xs] vs from A1.rel)
    simp only [Rel] at rt
    obtain ⟨a, ws, rfl, o, r⟩ := rt
    exact ⟨a, ws, rfl, o.imp (fun z => z.1) fun z => z, h1.here A1.st (Src.enumL o r)⟩
  · exact h1.elim
def fiEA (Fs : FA) : FI := fun τ S => (Fs τ S).bind fun ts S1 => match ts with
  | [.tup xs] => .ok (numbT xs) S1
  | [.lst xs] => .ok (numbT xs) S1
  | [.sls xs] => .ok (numbT xs) S1
  | _ => .stuck
theorem pfi_enumA {elts : List Expr} {kk : Nat} {tpos : Pos} (ha : PFA X wx [e] Fs) (hm : X.mg "enumerate" = none) (hg : Gl X "enumerate" := by rfl) (hs : starEach [e] X.env = [(false, eval e X.env)] := by rfl) :
    PFI X wx (.Tuple elts kk tpos) (.Call (.Name "enumerate" p) [e] [] pos) (fiEA Fs) := ⟨fun pins s σ H R I h => by
  obtain ⟨μ, τ, S, st, f, h⟩ := h
  have lists : ∀ {q : Res (List T)}, fiEL Fs τ S = q → post X.K (wx.fr τ σ) (rI X.K) μ H q R → _ := fun {q} e z => (pfi_enumL (p := p) (pos := pos) (elts := elts) (kk := kk) (tpos := tpos) ha hm hg hs).run pins s σ H R I ⟨μ, τ, S, st, f, by rw [e]; exact z⟩
  have tups : ∀ {q : Res (List T)}, fiE Fs τ S = q → post X.K (wx.fr τ σ) (rI X.K) μ H q R → _ := fun {q} e z => (pfi_enum (p := p) (pos := pos) (elts := elts) (kk := kk) (tpos := tpos) ha hm hg hs).run pins s σ H R I ⟨μ, τ, S, st, f, by rw [e]; exact z⟩
  cases e : Fs τ S with
  | stuck => simp only [fiEA, e, Res.bind] at h; exact h.elim
  | exc x S1 =>
    simp only [fiEA, e, Res.bind] at h
    exact lists (by simp only [fiEL, e, Res.bind]) h
  | ok ts S1 =>
    simp only [fiEA, e, Res.bind] at h
    split at h
    · exact tups (by simp only [fiE, e, Res.bind, numbT]) h
    · exact lists (by simp only [fiEL, e, Res.bind]) h
    · exact lists (by simp only [fiEL, e, Res.bind]) h
    · exact h.elim⟩
end
section
variable {X : Cx} {wx : WT} {pos : Pos} {B : BS}
theorem lcC_imp {Fi : FIC} {g : GT} {Ft : FT} {Fe : FE} {vs : List Nat} {σ : L2.St} {H : Hp} {Q : VK} (h : tN X.K wx (fLcC Fi g Ft Fe vs) σ H Q) : tLc (wiC X.K wx Fi) (gT X.K g) (tG X.K wF rB Ft) (tG X.K wF (rV X.K) Fe) vs σ H Q := by
  obtain ⟨μ, τ, S, s, f, h⟩ := h
  refine tG.seqN s f h fun μ1 H1 p J S1 A1 h1 => ?_
  obtain ⟨xs, n, c⟩ := p
  simp only at h1
  by_cases hl : xs.length ≤ sizeLine
  · rw [if_pos hl] at h1
    intro D hD
    have hD0 : H D = none := A1.ext.back hD
    -- what is kept: the list so far stands at D, which no tree names
    refine ⟨fun i m H2 => ∃ M S2 acc accT, Ext H1 μ1 H2 M ∧ D ∈ M.r ∧ RelS X.K H2 M S2 ∧ RelF X.K H2 M τ σ ∧ H2 D = some (.lst acc) ∧ Rels X.K H2 M accT acc ∧ acc.length ≤ i ∧ i ≤ xs.length ∧ m = xs.length - i ∧
        postN X.K (wx.fr τ σ) μ H ((lcC n c g Ft Fe vs (wipeT τ vs) (xs.drop i) S2).bind fun ys S3 => .ok (.lst (accT ++ ys)) S3) Q,
      ⟨xs.length, μ1.hide D, S1, [], [], Ext.hide hD, List.mem_cons_self, A1.st.hide hD, RelF.to (μ := μ1) (fun _ _ e => e) (hide_keep hD) A1.fr, upd_same, by simp only [Rels], Nat.zero_le _, Nat.zero_le _, rfl, by simpa using h1⟩, fun i m H2 hW => ?_⟩
    obtain ⟨M, S2, acc, accT, E2, nr2, s2, f2, d2, a2, hai, hix, rfl, h2⟩ := hW
    have hck : S2[n]? = some c := Classical.byContradiction fun hck => by
      cases hd : xs.drop i with
      | nil => rw [hd] at h2; simp only [lcC] at h2; rw [if_neg hck] at h2; exact h2
      | cons x r => rw [hd] at h2; simp only [lcC] at h2; rw [if_neg hck] at h2; exact h2
    obtain ⟨go, stop⟩ := A1.rel M H2 S2 E2 s2 hck
    by_cases hlt : i < xs.length
    · rw [drop_cons hlt] at h2
      obtain ⟨hgo, hy⟩ := go i xs[i] (List.getElem?_eq_getElem hlt)
      refine .inr ⟨hgo, fun H' => ∃ M S2 acc accT, Ext H1 μ1 H' M ∧ D ∈ M.r ∧ RelS X.K H' M S2 ∧ RelF X.K H' M τ σ ∧ H' D = some (.lst acc) ∧ Rels X.K H' M accT acc ∧ acc.length ≤ i + 1 ∧
        postN X.K (wx.fr τ σ) μ H ((lcC n c g Ft Fe vs (wipeT τ vs) (xs.drop (i + 1)) S2).bind fun ys S3 => .ok (.lst (accT ++ ys)) S3) Q, fun H' hN' => ?_, fun v H3 yl => ?_⟩
      · obtain ⟨M3, S3, acc3, accT3, q1, q2, q3, q4, q5, q6, q7, q8⟩ := hN'
        exact ⟨xs.length - (i + 1), by omega, M3, S3, acc3, accT3, q1, q2, q3, q4, q5, q6, q7, hlt, rfl, q8⟩
      · -- a turn
        obtain ⟨sm, hr⟩ := hy v H3 yl
        have E3 : Ext H2 M H3 M := Ext.of_same sm
        have s3 := s2.same sm
        have f3 := f2.mono E3
        simp only [lcC] at h2
        rw [if_pos hck] at h2
        cases eg : g xs[i] with
        | none => simp only [eg] at h2; exact h2.elim
        | some l =>
          simp only [eg] at h2
          by_cases ha : slotsIn l vs = true
          · rw [if_pos ha] at h2
            refine ⟨M, xs[i], l, hr S2 s2, eg, fun l' fl => ⟨wipe_back (slotsIn_mem ha fl), ?_⟩⟩
            have fb : RelF X.K H3 M (setsT (wipeT τ vs) l) (setsV (wipe σ vs) l') := RelF.sets fl (relF_wipe f3 vs)
            cases et : Ft (setsT (wipeT τ vs) l) S2 with
            | stuck => rw [et] at h2; exact h2.elim
            | exc x S4 => rw [et] at h2; exact h2.elim
            | ok k S4 =>
              rw [et] at h2
              simp only [Res.nox, Res.bind] at h2
              refine tG.known s3 fb et fun M4 H4 b A4 => ?_
              have e : k = b := A4.rel
              subst e
              have E4 : Ext H2 M H4 M4 := E3.trans A4.ext
              cases k with
              | false =>
                simp only at h2
                refine iteF ⟨M4, S4, acc, accT, E2.trans E4, A4.ext.res.1 D nr2, A4.st, f2.mono E4, ?_, Rels.mono E4 _ a2, by omega, h2⟩
                exact E4.keep D _ d2 (s2.dis D nr2)
              | true =>
                simp only at h2
                refine iteT ?_
                cases ee : Fe (setsT (wipeT τ vs) l) S4 with
                | stuck => rw [ee] at h2; exact h2.elim
                | exc x S5 => rw [ee] at h2; exact h2.elim
                | ok y S5 =>
                  rw [ee] at h2
                  simp only at h2
                  refine tG.known A4.st A4.fr ee fun M5 H5 w A5 => ?_
                  have E5 : Ext H2 M H5 M5 := E4.trans A5.ext
                  have nr5 : D ∈ M5.r := A5.ext.res.1 D (A4.ext.res.1 D nr2)
                  have d5 : H5 D = some (.lst acc) := E5.keep D _ d2 (s2.dis D nr2)
                  refine ⟨acc, d5, by omega, M5, S5, acc ++ [w], accT ++ [y], (E2.trans E5).hid hD, nr5, A5.st.hid nr5, RelF.to (μ := M5) (fun _ _ e => e) (hid_keep nr5) (f2.mono E5), upd_same, ?_, by simp; omega, ?_⟩
                  · refine Rels.to (μ := M5) (fun _ _ e => e) (hid_keep nr5) _ (Rels.append (Rels.mono E5 _ a2) ?_)
                    simp only [Rels]
                    exact ⟨w, [], rfl, A5.rel, rfl⟩
                  · cases er : lcC n c g Ft Fe vs (wipeT τ vs) (xs.drop (i + 1)) S5 with
                    | stuck => rw [er] at h2; exact h2.elim
                    | exc x S6 => rw [er] at h2; exact h2
                    | ok ys S6 =>
                      rw [er] at h2
                      simp only [Res.bind] at h2 ⊢
                      rw [List.append_assoc]
                      exact h2
          · rw [if_neg ha] at h2; exact h2.elim
    · have e : i = xs.length := by omega
      subst e
      rw [List.drop_length] at h2
      refine .inl ⟨stop _ (Nat.le_refl _), ?_⟩
      simp only [lcC] at h2
      rw [if_pos hck] at h2
      simp only [Res.bind, List.append_nil] at h2
      exact h2 M H2 D (A1.ext.trans E2) hD0 nr2 s2 ⟨acc, d2, a2⟩
  · rw [if_neg hl] at h1; exact h1.elim
theorem pfn_lcC {elt tg iter : Expr} {ifs : List Expr} {scope : Scope} {own : List (Str × Nat)} {Fi : FIC} {g : GT} {Ft : FT} {Fe : FE} (hc : X.calm = true) (hN : X.N.Nodup) (hi : PFIC X wx tg iter Fi) (ok : BlkOk X.N X.env.scope scope own)
    (hg : ∀ (s : Shared) (H : Hp) (C : Addr) (cl : List (Str × Addr)) (fp : List Addr), PFG (X.blk s H scope (compEnvC scope cl C X.env) fp) tg g) (ht : ∀ (s : Shared) (H : Hp) (C : Addr) (cl : List (Str × Addr)) (fp : List Addr), PFTs (X.blk s H scope (compEnvC scope cl C X.env) fp) wF ifs Ft)
    (he : ∀ (s : Shared) (H : Hp) (C : Addr) (cl : List (Str × Addr)) (fp : List Addr), PF (X.blk s H scope (compEnvC scope cl C X.env) fp) wF elt Fe) (hs : ∀ x, foldedSetIterable iter X.env x = pure x := by intro _; rfl) :
    PFN X wx (.ListComp elt [⟨tg, iter, ifs, 0⟩] scope pos) (fLcC Fi g Ft Fe (own.map (·.2))) := PE.imp (pe_lc (g := gT X.K g) (tt := tG X.K wF rB Ft) (te := tG X.K wF (rV X.K) Fe) hc hN hi ok hg ht he hs) fun _ _ _ h => lcC_imp h
section
variable {elt tg iter : Expr} {ifs : List Expr} {scope : Scope} {own : List (Str × Nat)} {Fi : FIC} {g : GT} {Ft : FT} {Fe : FE} {i : Nat} {y : Str} {py spos : Pos} (hc : X.calm = true) (hN : X.N.Nodup) (hy : X.N[i]? = some y) (hyl : X.env.scope.names.lookup y = some .local)
  (hsw : swapsWith (.ListComp elt [⟨tg, iter, ifs, 0⟩] scope pos) (some (.Name y py)) spos.line X.env = pure true) (hi : PFIC X wx tg iter Fi) (ok : BlkOk X.N X.env.scope scope own)
  (hg : ∀ (s : Shared) (H : Hp) (C : Addr) (cl : List (Str × Addr)) (fp : List Addr), PFG (X.blk s H scope (compEnvC scope cl C X.env) fp) tg g) (ht : ∀ (s : Shared) (H : Hp) (C : Addr) (cl : List (Str × Addr)) (fp : List Addr), PFTs (X.blk s H scope (compEnvC scope cl C X.env) fp) wF ifs Ft)
  (he : ∀ (s : Shared) (H : Hp) (C : Addr) (cl : List (Str × Addr)) (fp : List Addr), PF (X.blk s H scope (compEnvC scope cl C X.env) fp) wF elt Fe) (hs : ∀ x, foldedSetIterable iter X.env x = pure x := by intro _; rfl)
include hc hN hy hyl hsw hi ok hg ht he hs
end
end
end TL
set_option Elab.async false
set_option linter.all false
set_option maxRecDepth 100000
namespace TL
open PySem PySem.Spec L2
open PyProof.Rows hiding St
open RZ
def pairT (xs ys : List T) : List T := List.zipWith (fun x y => T.tup [x, y]) xs ys
def fiZ (Fs : FA) : FI := fun τ S => (Fs τ S).bind fun ts S1 => match ts with
  | [.lst xs, .lst ys] => .ok (pairT xs ys) S1
  | [.tup xs, .tup ys] => .ok (pairT xs ys) S1
  | _ => .stuck
section
variable {X : Cx} {wx : WT} {pos p : Pos} {e e2 : Expr} {Fs : FA}
end
def whF (Ft : FT) (B : BS) : Nat → BS
  | 0 => fun _ _ => .stuck
  | n + 1 => fun τ S => (Ft τ S).bindS τ fun k S1 => match k with
    | true => match B τ S1 with
      | .nx τ2 S2 => whF Ft B n τ2 S2
      | .ct τ2 S2 => whF Ft B n τ2 S2
      | .bk τ2 S2 => .nx τ2 S2
      | r => r
    | false => .nx τ S1
def bWhile (Ft : FT) (B : BS) : BS := whF Ft B 1000
section
variable {X : Cx} {wx : WT} {pos : Pos} {B : BS} {c : Expr} {body : List Stmt} {Ft : FT}
theorem pfs_while (hp : PassesOwn (model X.prog X.w) X.A X.env X.xe) (hc : PFT X wx c Ft) (hb : PFSs X wx body B) : PFS X wx (.While c body [] pos) (bWhile Ft B) := PS.imp (ps_while hp hc hb) fun D σ H h => by
  obtain ⟨μ, τ, S, s, f, h⟩ := h
  refine ⟨fun n σ2 H2 => ∃ μ2 τ2 S2, RelS X.K H2 μ2 S2 ∧ RelF X.K H2 μ2 τ2 σ2 ∧ postS X.K wx μ2 H2 (whF Ft B n τ2 S2) D, ⟨1000, μ, τ, S, s, f, h⟩, fun n σ2 H2 hW => ?_⟩
  obtain ⟨μ2, τ2, S2, s2, f2, h2⟩ := hW
  cases n with
  | zero => exact h2.elim
  | succ n =>
    refine tG.seqS s2 f2 h2 fun μ3 H3 k b S3 A3 h3 => ?_
    obtain rfl : k = b := A3.rel
    cases k with
    | false => exact iteF (h3 μ3 σ2 H3 (Ext.refl _ _) A3.st A3.fr)
    | true =>
      refine iteT ⟨fun σ' H' => ∃ μ2 τ2 S2, RelS X.K H' μ2 S2 ∧ RelF X.K H' μ2 τ2 σ' ∧ postS X.K wx μ2 H' (whF Ft B n τ2 S2) D, fun σ' H' hN => ⟨n, Nat.lt_succ_self n, hN⟩, μ3, τ2, S3, A3.st, A3.fr, ?_⟩
      simp only at h3
      cases eb : B τ2 S3 with
      | stuck => simp only [eb] at h3; exact h3.elim
      | nx τ4 S4 =>
        simp only [eb] at h3
        exact fun μ4 σ4 H4 E4 s4 f4 => ⟨μ4, τ4, S4, s4, f4, h3.shift E4⟩
      | ct τ4 S4 =>
        simp only [eb] at h3
        exact fun μ4 σ4 H4 E4 s4 f4 => ⟨μ4, τ4, S4, s4, f4, h3.shift E4⟩
      | bk τ4 S4 =>
        simp only [eb] at h3
        exact fun μ4 σ4 H4 E4 s4 f4 => h3 μ4 σ4 H4 E4 s4 f4
      | rt t S4 =>
        simp only [eb] at h3
        exact fun μ4 v4 H4 E4 s4 f4 => h3 μ4 v4 H4 E4 s4 f4
      | exc x τ4 S4 =>
        simp only [eb] at h3
        exact fun μ4 v4 H4 E4 s4 f4 => h3 μ4 v4 H4 E4 s4 f4
end
def isBT (_ : Sto) (x y : T) : Option T := match x, y with
  | .val _, _ => none
  | .bl a, .bl b => some (.bl (decide (a = b)))
  | _, .bl _ => some (.bl false)
  | _, _ => none
def notBT (S : Sto) (x y : T) : Option T := match isBT S x y with
  | some (.bl b) => some (.bl !b)
  | _ => none
section
variable {X : Cx}
end
def bAug (i : Nat) (F : FE) : BS := fun τ S => match τ[i]? with
  | some (some (.int a)) => (F τ S).bindS τ fun y S1 => match y with
    | .int b => .nx (τ.set i (some (.int (a + b)))) S1
    | _ => .stuck
  | _ => .stuck
section
variable {X : Cx} {wx : WT} {pos : Pos} {e : Expr} {F : FE}
end
end TL
set_option Elab.async false
set_option linter.all false
set_option maxRecDepth 100000
namespace TL
open PySem PySem.Spec L2
open PyProof.Rows hiding St
theorem gc_pure {F : FF} {ts : List T} {S : Sto} {t : T} (h : ∃ J, F ts S = .ok t (S ++ J)) (e : nr t = true) : gc F ts S = .ok t S := by
  obtain ⟨J, h⟩ := h
  exact gc_nr h e
theorem lstC_ref {S : Sto} {n : Nat} {ts : List T} (h : S[n]? = some (.lst ts)) : lstC S (.ref n) = some (n, ts) := by
  unfold lstC
  simp only [h]
theorem lstC_end (S : Sto) (ts : List T) (J : Sto) : lstC (S ++ .lst ts :: J) (.ref S.length) = some (S.length, ts) := lstC_ref (sto_end S _ J)
theorem lstC_1 (S : Sto) (z : T) (ts : List T) (J : Sto) : lstC (S ++ z :: .lst ts :: J) (.ref (S.length + 1)) = some (S.length + 1, ts) := lstC_ref (sto_1 S z _ J)
theorem is_bl (a b : Bool) (S : Sto) : isBT S (.bl a) (.bl b) = some (.bl (decide (a = b))) := rfl
theorem isnot_bl (a b : Bool) (S : Sto) : notBT S (.bl a) (.bl b) = some (.bl (!decide (a = b))) := rfl
theorem len_tup0 (S : Sto) (n : Nat) (ts : List T) (h : S[n]? = some (.lst ts)) : lenT S [.ref n] = some (.int ts.length) := len_ref h
end TL
section
open PySem PySem.Spec L2 TL
open PyProof.Rows hiding St
local macro_rules
  | `(tactic| simp_arith $[$loc:location]?) => `(tactic| simp_arith [TL.bind_ok] $[$loc:location]?)
  | `(tactic| simp_arith [$ls,*] $[$loc:location]?) => `(tactic| simp -implicitDefEqProofs only [TL.body, TL.startT, TL.RS.fin, TL.bSeq, TL.bSet, TL.bAsg, TL.bRet, TL.bRetN, TL.bExpr, TL.bIf, TL.bNext, TL.bFor, TL.bPar, TL.bPar3, TL.fVar, TL.fC, TL.fBin, TL.fUn, TL.fTest, TL.fChain, TL.fTru, TL.fNotT, TL.fAndT, TL.fOrT, TL.fAnd, TL.fOr, TL.fNot, TL.fIf, TL.fNil, TL.fCons, TL.fTup, TL.fLst, TL.fCall, TL.fBlt, TL.fPure, TL.fCell, TL.fLstN, TL.fLc, TL.fDc, TL.fYes, TL.fSl, TL.foS, TL.foN, TL.fItems, TL.fiA, TL.fiL, TL.fiT, TL.fiS, TL.fiR1, TL.fiR2, TL.fiE, TL.fiEA, TL.fiEL, TL.fiEC, TL.fiAC, TL.fiZ, fLcC, bForC, TL.fApp,
      TL.bind_ok, TL.bindS_ok, TL.nox_ok, TL.ofO_some, TL.isCell, TL.truT_bl, TL.truT_tup, TL.isi_str, TL.isi_tup, TL.isi_dct, TL.len_tup, TL.len_lst, TL.len_sls, TL.len_dct, TL.eq_int, TL.ne_int, TL.in_tup, TL.in_lst, TL.sto_end, TL.sto_set, TL.sto_1, TL.sto_set1, TL.lstAt_end, TL.lstAt_1, TL.in_end, TL.in_1, TL.nin_end, TL.nin_1, TL.len_end, TL.len_1, TL.lstC_end, TL.lstC_1, TL.is_bl, TL.isnot_bl, TL.bWhile, TL.bAug,  TL.tup_end, TL.tup_1, TL.gt_int, TL.lt_int, TL.ix_0, TL.ix_1, TL.ix_2, TL.tup_lst, TL.tup_tup, TL.wipeT, TL.setsT, TL.sName, TL.sTup, TL.sCons, TL.sNil, TL.slotsIn, List.map_cons, List.map_nil, List.length_cons, List.length_nil, List.cons_append, List.nil_append, List.getElem?_cons_zero, List.getElem?_cons_succ, List.set_cons_zero, List.set_cons_succ, List.foldl_cons, List.foldl_nil, List.reduceReplicate,
      Nat.reduceAdd, Nat.reduceSub, Nat.reduceLeDiff, Nat.reduceEqDiff, Nat.zero_add, Nat.zero_le, if_true, if_false, Option.map_some, Option.bind_some, Bool.not_true, Bool.not_false, decide_true, decide_false, decide_not, reduceCtorEq, Int.reduceNeg, Int.cast_ofNat_Int, Int.reduceEq, Int.reduceLT, Int.reduceLE, gt_iff_lt, Bool.and_true, Bool.true_and, Bool.false_and, Bool.or_false, Bool.false_or, Bool.false_eq_true, $ls,*] $[$loc]?)
set_option Elab.async false
set_option linter.all false
set_option maxRecDepth 100000
set_option maxHeartbeats 2000000
namespace TL
open PySem PySem.Spec L2
open PyProof.Rows hiding St
open PySem.Froz (SD sObj TxOk addTx tailTx)
def tOf (e : Int × Value) : Str := match e.2 with
  | .str k _ => k
  | _ => ⟨#[]⟩
def GdT (w : World) (e : Int × Value) : Prop := ∃ k u, e = (hashStr w k, Value.str k u)
structure TxR (P : Program) (w : World) (D : SD) (l : List Str) : Prop where
  ok : TxOk P w D l
  gd : ∀ e ∈ D.1.toList, GdT w e
  pm : (D.1.toList.map tOf).Perm l
  nd : l.Nodup
  sz : l.length < scanBound
  ris : Ris D.2.2.place.toList
  led : w.params.followText "set-order" = true ∨ D.2.2.led = true
def addS (l : List Str) (k : Str) : List Str := if k ∈ l then l else k :: l
section
variable {P : Program} {w : World} {A : Around} {E : Value → Shared → Prop} {s : Shared}
theorem tx_tail {ep : Nat} {es : Array (Int × Value)} {t : SetTable} {b : Bool} {l : List Str} (F : TxR P w (es, ep, t) l) : TxR P w (tailTx ep es t b) l := by
  refine ⟨Froz.tail_ok F.ok, ?_, ?_, F.nd, F.sz, ?_, ?_⟩
  all_goals (unfold tailTx; split)
  · exact fun e he => F.gd e ((relayAll_perm t es _).mem_iff.mp he)
  · exact F.gd
  · exact ((relayAll_perm t es _).map tOf).trans F.pm
  · exact F.pm
  · exact relayAll_ris t es _
  · exact F.ris
  · exact F.led.imp id fun z => (relayAll_led t es _).trans z
  · exact F.led
theorem tx_add {D : SD} {l : List Str} {k : Str} (u : Tok) (F : TxR P w D l) (hk : k ∉ l) (room : l.length + 1 < scanBound) : TxR P w (addTx (hashStr w k) (.str k u) D) (k :: l) := by
  obtain ⟨es, ep, t⟩ := D
  have hp := layNew_perm t es (hashStr w k) (.str k u)
  have hr := layNew_ris t es (hashStr w k) (.str k u) F.ris
  have hl := layNew_led t es (hashStr w k) (.str k u)
  have hf := layNew_fits t es (hashStr w k) (.str k u)
  have h0 := F.ok.push hp hf (ep' := ep)
  rw [Array.toList_push] at hp
  unfold addTx
  refine tx_tail ⟨?_, ?_, ?_, List.nodup_cons.mpr ⟨hk, F.nd⟩, by rw [List.length_cons]; exact room, ?_, ?_⟩
  · dsimp only
    split
    · exact ⟨h0.el, h0.mem, h0.sz, SetTable.fits_plain_off hf⟩
    · exact ⟨h0.el, h0.mem, h0.sz, hf⟩
  · intro e he
    rcases List.mem_append.mp (hp.mem_iff.mp he) with z | z
    · exact F.gd e z
    · exact ⟨k, u, List.mem_singleton.mp z⟩
  · refine (hp.map tOf).trans ?_
    rw [List.map_append]
    exact (List.perm_append_singleton _ _).trans (List.Perm.cons _ F.pm)
  · dsimp only
    split <;> exact hr
  · refine F.led.imp id fun z => ?_
    dsimp only
    split <;> exact hl.trans z
theorem tx_hashed {a : Addr} {D : SD} {l : List Str} {k : Str} {u : Tok} {Q : Bool → Shared → Prop} (ho : s.heap.get? a = some (sObj "set" D)) (F : TxR P w D l) (room : l.length + 1 < scanBound)
    (hQ : ∀ b h' D', Heap.SameBut a s.heap h' → h'.get? a = some (sObj "set" D') → TxR P w D' (addS l k) → Q b { s with heap := h' }) : wpAny (model P w) A (setAddHashed a (.str k u) (hashStr w k)) Q E s := by
  by_cases hk : k ∈ l
  · obtain ⟨es, ep, t⟩ := D
    have hd : (sObj "set" (es, ep, t)).data = .set es ep t := rfl
    have hsz : es.size = l.length := F.ok.sz
    have hb0 : es.size < scanBound := by omega
    have F1 := hQ false s.heap (es, ep, t) (Heap.SameBut.refl a s.heap) ho (by unfold addS; rw [if_pos hk]; exact F)
    unfold setAddHashed setAddHashedIn
    refine wpAny_holding (wpAny_bind (wpAny_setState_of ho hd F.ok.fit ?_))
    dsimp only
    rw [byScan_of rfl hb0 F.ok.el, if_pos rfl]
    unfold setAddByScan
    refine wpAny_bind (wpAny_bind (wpAny_rule (wpAny_bind (wpAny_setScan_of (knd := strKind P w) (k := k) (Froz.is_str k u) ho hd F.ok.fit F.ok.el ?_))))
    cases hr : List.findIdx? (fun e => (strKind P w).is k e.2) es.toList with
    | none =>
      obtain ⟨e, he, q⟩ := (F.ok.mem k).mp hk
      exact absurd q (by rw [List.findIdx?_eq_none_iff.mp hr e he]; exact Bool.false_ne_true)
    | some j =>
      dsimp only
      exact wpAny_pure (wpAny_pure F1)
  · refine Froz.add_x ho F.ok hk room ?_
    refine hQ true _ _ (Heap.SameBut.update s.heap a _) (Froz.get_upd _ ho rfl) ?_
    unfold addS
    rw [if_neg hk]
    exact tx_add u F hk room
def TxO (P : Program) (w : World) (a : Addr) (l : List Str) : HO := .ext fun h => ∃ D, h.get? a = some (sObj "set" D) ∧ TxR P w D l
theorem txO_new {H : Hp} {h : Heap} {a : Addr} {l : List Str} {D : SD} (ho : h.get? a = some (sObj "set" D)) (F : TxR P w D l) : ObjOk P w H h a (TxO P w a l) :=
  ⟨⟨D, ho, F⟩, ⟨_, ho⟩, fun _ _ p k => let ⟨D, q, F⟩ := p; ⟨D, k _ q, F⟩⟩
theorem tx_fresh {t : SetTable} (hf : t.fits 0 = true) (hr : Ris t.place.toList) (hl : w.params.followText "set-order" = true ∨ t.led = true) {ep : Nat} : TxR P w (#[], ep, t) [] :=
  ⟨TxOk.nil hf, fun e he => by simp at he, by simp, List.nodup_nil, by decide, hr, hl⟩
end
section
variable {X : Cx}
theorem txO_get {pins : List (Addr × Obj)} {σ : L2.St} {H : Hp} {s : Shared} {a : Addr} {l : List Str} (I : L2.Inv X pins σ H s) (ha : H a = some (TxO X.prog X.w a l)) : ∃ D, s.heap.get? a = some (sObj "set" D) ∧ TxR X.prog X.w D l := (I.hok a _ ha).1
theorem tx_add_ok {pins : List (Addr × Obj)} {σ : L2.St} {H : Hp} {s : Shared} {E : Value → Shared → Prop} {D : Addr} {l : List Str} {k : Str} {u : Tok} {Q : Value → Shared → Prop} (I : L2.Inv X pins σ H s) (hD : H D = some (TxO X.prog X.w D l)) (room : l.length + 1 < scanBound)
    (h : ∀ s', L2.Inv X pins σ (upd H D (TxO X.prog X.w D (addS l k))) s' → Q .none s') : wpAny (model X.prog X.w) X.A (call (.builtin "set.add") [.ref D, .str k u]) Q E s := by
  obtain ⟨D0, ho, F⟩ := txO_get I hD
  refine wpAny_call_entry PySem.F.slot_set_add ⟨_, ho, rfl⟩ PySem.F.entry_set_add ?_ (PySem.F.args_set_add_2 _ _)
  unfold Builtin.«set.add» Builtin.Frozenset.oneOther
  simp only [List.isEmpty_nil, bind_assoc]
  unfold Builtin.Frozenset.addrOf setAdd
  refine wpAny_bind (wpAny_pure (wpAny_bind (wpAny_pure (wpAny_bind (wpAny_holding (wpAny_bind ((strKind X.prog X.w).pyHash (Froz.is_str k u) ?_)))))))
  refine tx_hashed (s := { s with toks := s.toks + 1 }) ho F room fun b h' D' sb ho' F' => ?_
  show wpAny _ _ (ret Value.none) _ _ _
  exact wpAny_pure ⟨_, rfl, h _ (I.write (e := D) (t' := s.toks + 1) (by rw [hD]; trivial) (.inl rfl) (fun b u hb hu => (sb.2 b hb).trans hu) ⟨_, ho'⟩ (txO_new ho' F'))⟩
end
end TL
set_option Elab.async false
set_option linter.all false
set_option maxRecDepth 100000
set_option maxHeartbeats 2000000
namespace TL
open PySem PySem.Spec L2
open PyProof.Rows hiding St
open PySem.Froz (SD sObj TxOk addTx tailTx)
def tSt (P : Program) (w : World) (wi : TI) (g : TG) (tt : TT) (te : TE) (vs : List Nat) : TE := fun σ H Q => wi σ H fun J H1 => ∀ D, H1 D = none →
  ∃ Z : Nat → Nat → Hp → Prop, (∃ m, Z 0 m (upd H1 D (TxO P w D []))) ∧ ∀ i m H2, Z i m H2 → (J.stop i H2 ∧ Q (.ref D) H2) ∨ (J.go i H2 ∧
    ∃ N : Hp → Prop, (∀ H3, N H3 → ∃ k, k < m ∧ Z (i + 1) k H3) ∧ ∀ x H3, J.yld i H2 x H3 → g x (wipe σ vs) H3 fun σ4 H4 => wipe σ4 vs = wipe σ vs ∧ tt σ4 H4 fun b H5 =>
      if b = true then te σ4 H5 fun y H6 => ∃ k l, y = .str k ∧ H6 D = some (TxO P w D l) ∧ l.length + 1 < scanBound ∧ N (upd H6 D (TxO P w D (addS l k))) else N H5)
abbrev Blk (X : Cx) (sc : Scope) (s : Shared) (H : Hp) (C : Addr) (cl : List (Str × Addr)) (fp : List Addr) : Cx := X.blk s H sc (compEnvC sc cl C X.env) fp
section
variable {X : Cx}
theorem pe_st {elt tg iter : Expr} {ifs : List Expr} {sc : Scope} {own : List (Str × Nat)} {pos : Pos} {wi : TI} {g : TG} {tt : TT} {te : TE} (hc : X.calm = true) (hN : X.N.Nodup) (hi : PI X tg iter wi) (ok : BlkOk X.N X.env.scope sc own)
    (hg : ∀ s H C cl fp, PG (Blk X sc s H C cl fp) tg g) (ht : ∀ s H C cl fp, PTs (Blk X sc s H C cl fp) ifs tt) (he : ∀ s H C cl fp, PE (Blk X sc s H C cl fp) elt te) (hs : ∀ x, foldedSetIterable iter X.env x = pure x := by intro _; rfl) :
    PE X (.SetComp elt [⟨tg, iter, ifs, 0⟩] sc pos) (tSt X.prog X.w wi g tt te (own.map (·.2))) := by
  refine ⟨fun pins s σ H Q I h => ?_⟩
  rw [PpSet.eval_SetComp]
  have caught : ∀ y ∈ sc.names, y.2 = .free → ∃ c, X.env.cells.lookup y.1 = some c := fun y hy e => I.ok.has _ (ok.free y hy e)
  refine wpAny_comprehension_free rfl hs (closure_ok caught) ok.kind (fun y hy e => by rw [ok.uniq y hy, e]) (thn (hi.run pins s σ H _ I h) fun xv s1 hx => thn hx fun itv s2 hit => ?_)
  obtain ⟨it, fp, tn, J, Ha, rfl, Ia, T, sta, fa, q⟩ := hit
  refine PpSet.newSet_ok (newEnv_comp ?_)
  generalize eD : s2.heap.objs.size = D
  have nD : Ha D = none := Ia.hok.fresh (Nat.le_of_eq eD)
  obtain ⟨Z, ⟨m0, z0⟩, turn⟩ := q D nD
  -- the set, empty
  generalize eb : ({ s2 with heap := s2.heap.push { cls := .type "set", dict := none, data := .set #[] 0 (.fresh 0 0 (!X.w.params.followText "set-order")) } } : Shared) = sb
  have pb : sb.heap = s2.heap.push { cls := .type "set", dict := none, data := .set #[] 0 (.fresh 0 0 (!X.w.params.followText "set-order")) } := by rw [← eb]
  have stays : ∀ {b : Addr} {o : Obj}, s2.heap.get? b = some o → sb.heap.get? b = some o := fun e => by rw [pb]; exact Heap.get?_push_of_some _ e
  have Ib : L2.Inv X pins σ (upd Ha D (TxO X.prog X.w D [])) sb := by
    rw [← eb]
    refine Ia.laid (t' := s2.toks) (fun b o e => Heap.get?_push_of_some _ e) (Nat.le_of_eq eD) ?_
    rw [← eD]
    refine txO_new (D := (#[], 0, .fresh 0 0 (!X.w.params.followText "set-order"))) (Heap.get?_push_size _ rfl) (tx_fresh (by rfl) (by exact List.Pairwise.nil) ?_)
    show _ ∨ (!X.w.params.followText "set-order") = true
    cases X.w.params.followText "set-order" <;> simp
  have room : ∀ b ∈ fp, b < s2.heap.objs.size := fun b hb => let ⟨_, e, _⟩ := T.obj _ _ sta b hb; Heap.lt_size e
  have fb : ∀ b ∈ fp, FpOk X pins (upd Ha D (TxO X.prog X.w D [])) b ∧ b < sb.heap.objs.size := fun b hb =>
    ⟨⟨by rw [upd_ne (by rw [← eD]; exact Nat.ne_of_lt (room b hb))]; exact (fa b hb).1, (fa b hb).2⟩, by rw [pb, Heap.size_push]; exact Nat.lt_succ_of_lt (room b hb)⟩
  have stb : tn 0 sb.heap := T.keep _ _ _ sta fun b _ o e => stays e
  have Ic := block_start Ib ok hN fb
  have pg := hg sb (upd Ha D (TxO X.prog X.w D [])) sb.heap.objs.size (cellsFrom (sb.heap.objs.size + 1) sc.names (cloFrom X.env.cells sc.names [])) fp
  have pt := ht sb (upd Ha D (TxO X.prog X.w D [])) sb.heap.objs.size (cellsFrom (sb.heap.objs.size + 1) sc.names (cloFrom X.env.cells sc.names [])) fp
  have pe := he sb (upd Ha D (TxO X.prog X.w D [])) sb.heap.objs.size (cellsFrom (sb.heap.objs.size + 1) sc.names (cloFrom X.env.cells sc.names [])) fp
  unfold Blk at pg pt pe
  show codeAny _ _ (.compStart (.SetComp elt [⟨tg, iter, ifs, 0⟩] sc pos) 0 (.ref it) (.ref D) (compEnvC sc (cellsFrom (sb.heap.objs.size + 1) sc.names (cloFrom X.env.cells sc.names [])) sb.heap.objs.size X.env)) _ { sb with heap := pushCells (sb.heap.push { cls := .type "dict", data := .dict #[] }) sc.names }
  have nb : ∀ b ∈ fp, (upd Ha D (TxO X.prog X.w D [])) b = none := fun b hb => (fb b hb).1.1
  generalize ece : compEnvC sc (cellsFrom (sb.heap.objs.size + 1) sc.names (cloFrom X.env.cells sc.names [])) sb.heap.objs.size X.env = ce at Ic pg pt pe ⊢
  have lce : ce.locals = sb.heap.objs.size := by subst ece; rfl
  generalize eHb : upd Ha D (TxO X.prog X.w D []) = Hb at Ib Ic pg pt pe z0 nb fb
  generalize ec : ({ sb with heap := pushCells (sb.heap.push { cls := .type "dict", data := .dict #[] }) sc.names } : Shared) = sc0 at Ic ⊢
  have stc : tn 0 sc0.heap := T.keep _ _ _ stb fun b _ o e => by rw [← ec]; exact pushCells_keeps _ _ _ _ (Heap.get?_push_of_some _ e)
  have foot : ∀ {σ' : L2.St} {H' : Hp} {s' : Shared}, L2.Inv (X.blk sb Hb sc ce fp) [] σ' H' s' → (∀ b ∈ fp, H' b = none) → ∀ b ∈ fp, FpOk (X.blk sb Hb sc ce fp) [] H' b := fun {σ' H' s'} K hn b hb =>
    ⟨hn b hb, (K.ok.exf b hb).1, K.ok.exfs b hb, .inl hb, fun x c e => (K.ok.exf b hb).2 x c e, fun p hp => absurd (show p ∈ ([] : List (Addr × Obj)) ++ [] from hp) (by simp)⟩
  refine PpSet.codeAny_compStart_set ?_ (T.self X.A 0 _ _ _ stc ?_)
  all_goals
    refine PpSet.compLoopS_any (fun n s' => ∃ i H', L2.Inv (X.blk sb Hb sc ce fp) [] (wipe σ (own.map (·.2))) H' s' ∧ tn i s'.heap ∧ (∀ b ∈ fp, H' b = none) ∧ Z i n H') ?_ m0 ⟨0, Hb, Ic, stc, nb, z0⟩
    rintro n s5 ⟨i, H5, I5, st5, n5, z5⟩
    rcases turn i n H5 z5 with ⟨stop, qq⟩ | ⟨go, N, hN', step⟩
    · refine thnF (T.done (X.blk sb Hb sc ce fp) rfl rfl rfl hc i [] s5 _ H5 (fun _ _ => False) I5 (foot I5 n5) st5 stop) fun r s6 hr => ?_
      obtain ⟨rfl, I6⟩ := hr
      -- out of the block
      have I7 : L2.Inv X pins σ H5 s6 := Ib.call' (ch := fp) I6.os I6.base I6.hok I6.bare fun b hb => ⟨(fb b hb).1.2.2.2.1, (fb b hb).1.2.1, (fb b hb).1.2.2.2.2.1, (fb b hb).1.2.2.2.2.2⟩
      have nC : H5 sb.heap.objs.size = none := lce ▸ (show H5 ce.locals = none from I6.free)
      obtain ⟨m, hn, _⟩ := I6.loc
      have hn : s6.heap.Ns sb.heap.objs.size m := lce ▸ (show s6.heap.Ns ce.locals m from hn)
      obtain ⟨f0, f1, f2, f3, f4, f5⟩ := Ib.fpOk (H' := H5) (Nat.le_refl _) nC
      exact ⟨m, hn, fun h'' k => ⟨.ref D, H5, I7.turned (t' := s6.toks) (fun b o hb e => (k.2 b hb).trans e) f0 f1 f3 f4 f5, rfl, qq⟩⟩
    · refine thnF (T.item (X.blk sb Hb sc ce fp) rfl rfl rfl hc i [] s5 _ H5 (fun _ _ => False) I5 (foot I5 n5) st5 go) fun r s6 hr => ?_
      obtain ⟨u, rfl, h6⟩ := hr
      refine thnF h6 fun _ s7 ⟨x, H7, I7, r7, y7, st7, n7⟩ => ?_
      refine thnF (pg.run _ s7 _ H7 x u _ (I7.pinned (foot I7 n7) (T.obj _ _ st7)) r7 (step x H7 y7)) fun _ s8 ⟨σ8, H8, I8, hw8, q8⟩ => ?_
      refine thnF (pt.run _ s8 σ8 H8 _ I8 q8) fun b s9 ⟨H9, I9, q9⟩ => ?_
      have fin : ∀ {s' : Shared} {H' : Hp}, L2.Inv (X.blk sb Hb sc ce fp) ([] ++ pinsAt fp s7.heap) σ8 H' s' → N H' → ∃ m, m < n ∧ ∃ i H', L2.Inv (X.blk sb Hb sc ce fp) [] (wipe σ (own.map (·.2))) H' s' ∧ tn i s'.heap ∧ (∀ b ∈ fp, H' b = none) ∧ Z i m H' := fun {s' H'} K nx => by
        obtain ⟨m', hm, z'⟩ := hN' H' nx
        have pin : ∀ b ∈ fp, ∀ o, s7.heap.get? b = some o → s'.heap.get? b = some o ∧ H' b = none := fun b hb o e => ((K.pin (b, o) (List.mem_append_right _ (List.mem_append_right _ (mem_pinsAt hb e))))).imp id (·.1)
        exact ⟨m', hm, i + 1, H', (K.unpinned (pins := [])).weak (by rw [← hw8, wipe_length]) (fun j v e => (wipe_some (hw8 ▸ e)).1), T.keep _ _ _ st7 fun b hb o e => (pin b hb o e).1,
          fun b hb => let ⟨o, e, _⟩ := T.obj _ _ st7 b hb; (pin b hb o e).2, z'⟩
      cases b with
      | false =>
        simp only [Bool.false_eq_true, if_false] at q9 ⊢
        exact fin I9 q9
      | true =>
        simp only [if_true] at q9 ⊢
        refine thnF (pe.run _ s9 σ8 H9 _ I9 q9) fun z s10 hz => ?_
        obtain ⟨yv, Hd, Id, rd, k, l, rfl, dD, rm, nx⟩ := hz
        obtain ⟨tk, rfl⟩ := rd
        exact tx_add_ok (X := X.blk sb Hb sc ce fp) Id dD rm fun s11 I11 => fin I11 nx
end
end TL
set_option Elab.async false
set_option linter.all false
set_option maxRecDepth 100000
set_option maxHeartbeats 2000000
namespace TL
open PySem PySem.Spec L2
open PyProof.Rows hiding St
open PySem.Froz (SD sObj TxOk)
def postX (P : Program) (w : World) (K : PySem.W.Frag) (wx : XW) (μ : Mu) (H : Hp) (r : Res (List Str)) (Q : VK) : Prop := match r with
  | .ok l S' => ∀ μ' H' D, Ext H μ H' μ' → H D = none → RelS K H' μ' S' → H' D = some (TxO P w D l) → Q (.ref D) H'
  | .exc x S' => ∀ μ' H', Ext H μ H' μ' → RelS K H' μ' S' → wx x μ' S' H'
  | .stuck => False
abbrev FS := Fr → Sto → Res (List Str)
def tX (P : Program) (w : World) (K : PySem.W.Frag) (wx : WT) (F : FS) : TE := fun σ H Q => ∃ μ τ S, RelS K H μ S ∧ RelF K H μ τ σ ∧ postX P w K (wx.fr τ σ) μ H (F τ S) Q
def PFX (X : Cx) (wx : WT) (e : Expr) (F : FS) : Prop := PE X e (tX X.prog X.w X.K wx F)
def stF (g : GT) (Ft : FT) (Fe : FE) (vs : List Nat) (τ : Fr) : List T → List Str → Sto → Res (List Str)
  | [], l, S => .ok l S
  | x :: xs, l, S => match g x with
    | none => .stuck
    | some a => if slotsIn a vs then (Ft (setsT τ a) S).nox.bind fun k S1 => match k with
        | true => (Fe (setsT τ a) S1).nox.bind fun y S2 => match y with
          | .str u => stF g Ft Fe vs τ xs (addS l u) S2
          | _ => .stuck
        | false => stF g Ft Fe vs τ xs l S1
      else .stuck
def fSt (Fi : FI) (g : GT) (Ft : FT) (Fe : FE) (vs : List Nat) : FS := fun τ S => (Fi τ S).bind fun xs S1 => if xs.length + 1 < scanBound then stF g Ft Fe vs (wipeT τ vs) xs [] S1 else .stuck
theorem addS_len (l : List Str) (u : Str) : (addS l u).length ≤ l.length + 1 := by
  unfold addS
  split <;> simp
section
variable {X : Cx} {wx : WT} {pos : Pos}
theorem seqX {α β : Type} {P : Program} {w : World} {K : PySem.W.Frag} {wx : WT} {rel : RL α β} {F : Fr → Sto → Res α} {k : α → Sto → Res (List Str)} {μ : Mu} {H : Hp} {τ : Fr} {σ : L2.St} {S : Sto} {Q : VK} {R : β → Hp → Prop}
    (s : RelS K H μ S) (f : RelF K H μ τ σ) (h : postX P w K (wx.fr τ σ) μ H ((F τ S).bind k) Q) (hR : ∀ μ1 H1 t v S1, At K μ H τ σ rel μ1 H1 t v S1 → postX P w K (wx.fr τ σ) μ H (k t S1) Q → R v H1) : tG K wx rel F σ H R := by
  refine ⟨μ, τ, S, s, f, ?_⟩
  cases e : F τ S with
  | stuck => rw [e] at h; exact h.elim
  | exc x S1 => rw [e] at h; exact h
  | ok t S1 =>
    rw [e] at h
    exact fun μ1 v H1 x st r => hR μ1 H1 t v S1 ⟨x, st, f.mono x, r⟩ h
theorem st_imp {Fi : FI} {g : GT} {Ft : FT} {Fe : FE} {vs : List Nat} {σ : L2.St} {H : Hp} {Q : VK} (h : tX X.prog X.w X.K wx (fSt Fi g Ft Fe vs) σ H Q) : tSt X.prog X.w (wiT X.K wx Fi) (gT X.K g) (tG X.K wF rB Ft) (tG X.K wF (rV X.K) Fe) vs σ H Q := by
  obtain ⟨μ, τ, S, s, f, h⟩ := h
  refine seqX s f h fun μ1 H1 xs J S1 A1 h1 => ?_
  by_cases hl : xs.length + 1 < scanBound
  · rw [if_pos hl] at h1
    intro D hD
    have hD0 : H D = none := A1.ext.back hD
    refine ⟨fun i m H2 => ∃ M S2 l, Ext H1 μ1 H2 M ∧ D ∈ M.r ∧ RelS X.K H2 M S2 ∧ RelF X.K H2 M τ σ ∧ H2 D = some (TxO X.prog X.w D l) ∧ l.length ≤ i ∧ i ≤ xs.length ∧ m = xs.length - i ∧
        postX X.prog X.w X.K (wx.fr τ σ) μ H (stF g Ft Fe vs (wipeT τ vs) (xs.drop i) l S2) Q,
      ⟨xs.length, μ1.hide D, S1, [], Ext.hide hD, List.mem_cons_self, A1.st.hide hD, RelF.to (μ := μ1) (fun _ _ e => e) (hide_keep hD) A1.fr, upd_same, Nat.zero_le _, Nat.zero_le _, rfl, by simpa using h1⟩, fun i m H2 hW => ?_⟩
    obtain ⟨M, S2, l, E2, nr2, s2, f2, d2, hai, hix, rfl, h2⟩ := hW
    obtain ⟨go, stop⟩ := A1.rel M H2 E2
    by_cases hlt : i < xs.length
    · rw [drop_cons hlt] at h2
      obtain ⟨hgo, hy⟩ := go i xs[i] (List.getElem?_eq_getElem hlt)
      refine .inr ⟨hgo, fun H' => ∃ M S2 l, Ext H1 μ1 H' M ∧ D ∈ M.r ∧ RelS X.K H' M S2 ∧ RelF X.K H' M τ σ ∧ H' D = some (TxO X.prog X.w D l) ∧ l.length ≤ i + 1 ∧
        postX X.prog X.w X.K (wx.fr τ σ) μ H (stF g Ft Fe vs (wipeT τ vs) (xs.drop (i + 1)) l S2) Q, fun H' hN' => ?_, fun v H3 yl => ?_⟩
      · obtain ⟨M3, S3, l3, q1, q2, q3, q4, q5, q6, q8⟩ := hN'
        exact ⟨xs.length - (i + 1), by omega, M3, S3, l3, q1, q2, q3, q4, q5, q6, hlt, rfl, q8⟩
      · obtain ⟨sm, hr⟩ := hy v H3 yl
        have E3 : Ext H2 M H3 M := Ext.of_same sm
        have s3 := s2.same sm
        have f3 := f2.mono E3
        simp only [stF] at h2
        cases eg : g xs[i] with
        | none => simp only [eg] at h2; exact h2.elim
        | some a =>
          simp only [eg] at h2
          by_cases ha : slotsIn a vs = true
          · rw [if_pos ha] at h2
            refine ⟨M, xs[i], a, hr S2 s2, eg, fun l' fl => ⟨wipe_back (slotsIn_mem ha fl), ?_⟩⟩
            have fb : RelF X.K H3 M (setsT (wipeT τ vs) a) (setsV (wipe σ vs) l') := RelF.sets fl (relF_wipe f3 vs)
            cases et : Ft (setsT (wipeT τ vs) a) S2 with
            | stuck => rw [et] at h2; exact h2.elim
            | exc x S4 => rw [et] at h2; exact h2.elim
            | ok k S4 =>
              rw [et] at h2
              simp only [Res.nox, Res.bind] at h2
              refine tG.known s3 fb et fun M4 H4 b A4 => ?_
              have e : k = b := A4.rel
              subst e
              have E4 : Ext H2 M H4 M4 := E3.trans A4.ext
              cases k with
              | false =>
                simp only at h2
                exact iteF ⟨M4, S4, l, E2.trans E4, A4.ext.res.1 D nr2, A4.st, f2.mono E4, E4.keep D _ d2 (s2.dis D nr2), by omega, h2⟩
              | true =>
                simp only at h2
                refine iteT ?_
                cases ee : Fe (setsT (wipeT τ vs) a) S4 with
                | stuck => rw [ee] at h2; exact h2.elim
                | exc x S5 => rw [ee] at h2; exact h2.elim
                | ok y S5 =>
                  rw [ee] at h2
                  simp only at h2
                  refine tG.known A4.st A4.fr ee fun M5 H5 w A5 => ?_
                  have E5 : Ext H2 M H5 M5 := E4.trans A5.ext
                  have nr5 : D ∈ M5.r := A5.ext.res.1 D (A4.ext.res.1 D nr2)
                  have d5 := E5.keep D _ d2 (s2.dis D nr2)
                  have ry := A5.rel
                  cases y with
                  | str u =>
                    simp only at h2
                    have ew : w = V.str u := ry
                    have := addS_len l u
                    exact ⟨u, l, ew, d5, by omega, M5, S5, addS l u, (E2.trans E5).hid hD, nr5, A5.st.hid nr5, RelF.to (μ := M5) (fun _ _ e => e) (hid_keep nr5) (f2.mono E5), upd_same, by omega, h2⟩
                  | _ => exact h2.elim
          · rw [if_neg ha] at h2; exact h2.elim
    · have e : i = xs.length := by omega
      subst e
      rw [List.drop_length] at h2
      exact .inl ⟨stop _ (Nat.le_refl _), h2 M H2 D (A1.ext.trans E2) hD0 s2 d2⟩
  · rw [if_neg hl] at h1; exact h1.elim
theorem pfx_st {elt tg iter : Expr} {ifs : List Expr} {scope : Scope} {own : List (Str × Nat)} {Fi : FI} {g : GT} {Ft : FT} {Fe : FE} (hc : X.calm = true) (hN : X.N.Nodup) (hi : PFI X wx tg iter Fi) (ok : BlkOk X.N X.env.scope scope own)
    (hg : ∀ (s : Shared) (H : Hp) (C : Addr) (cl : List (Str × Addr)) (fp : List Addr), PFG (X.blk s H scope (compEnvC scope cl C X.env) fp) tg g) (ht : ∀ (s : Shared) (H : Hp) (C : Addr) (cl : List (Str × Addr)) (fp : List Addr), PFTs (X.blk s H scope (compEnvC scope cl C X.env) fp) wF ifs Ft)
    (he : ∀ (s : Shared) (H : Hp) (C : Addr) (cl : List (Str × Addr)) (fp : List Addr), PF (X.blk s H scope (compEnvC scope cl C X.env) fp) wF elt Fe) (hs : ∀ x, foldedSetIterable iter X.env x = pure x := by intro _; rfl) :
    PFX X wx (.SetComp elt [⟨tg, iter, ifs, 0⟩] scope pos) (fSt Fi g Ft Fe (own.map (·.2))) := PE.imp (pe_st (g := gT X.K g) (tt := tG X.K wF rB Ft) (te := tG X.K wF (rV X.K) Fe) hc hN hi ok hg ht he hs) fun _ _ _ h => st_imp h
theorem cr_lenX : CallR X (.builtin "len") (fun xs H Q => ∃ a l, xs = [.ref a] ∧ H a = some (TxO X.prog X.w a l) ∧ Q (.int (l.length : Nat)) H) := by
  intro pins s σ H xs us Q I r q
  obtain ⟨a, l, rfl, ha, q⟩ := q
  obtain ⟨D, ho, F⟩ := txO_get I ha
  rw [Vals.ref1 r]
  have hs : D.1.size = l.length := F.ok.sz
  refine call_len_set ho ⟨rfl, rfl, rfl⟩ (rfl : (sObj "set" D).data = .set D.1 D.2.1 D.2.2) F.ok.fit ?_ ⟨.int (l.length : Nat), H, I.tok _, ⟨_, by rw [hs]⟩, q⟩
  have h1 := F.sz
  rw [hs]
  have h2 : scanBound < 2 ^ 62 := by decide
  omega
def fLenX (F : FS) : FE := fun τ S => (F τ S).bind fun l S1 => .ok (.int (l.length : Nat)) S1
def fSortX (F : FS) : FE := fun τ S => (F τ S).bind fun l S1 => if l.length < 64 then .ok (.lst ((sortS l).map T.str)) S1 else .stuck
theorem gds {w : World} : ∀ {vs : List Value}, (∀ v ∈ vs, ∃ k u, v = Value.str k u) → StrsAre vs (vs.map fun v => tOf (0, v))
  | [], _ => .nil
  | v :: vs, h => by
    obtain ⟨k, u, rfl⟩ := h v List.mem_cons_self
    exact .cons k u (gds (w := w) fun x hx => h x (List.mem_cons_of_mem _ hx))
theorem cr_sortX (hc : X.calm = true) : CallR X (.builtin "sorted") (fun xs H Q => ∃ a l, xs = [.ref a] ∧ H a = some (TxO X.prog X.w a l) ∧ l.length < 64 ∧ ∀ p, H p = none → Q (.ref p) (upd H p (.lst ((sortS l).map V.str)))) := by
  intro pins s σ H xs us Q I r q
  obtain ⟨a, l, rfl, ha, h64, q⟩ := q
  obtain ⟨D, ho, F⟩ := txO_get I ha
  rw [Vals.ref1 r]
  have hs : D.1.size = l.length := F.ok.sz
  have hb := F.sz
  refine Calls.call_function_entry kind_sorted plain_sorted entry_sorted (args_sorted1 _) ?_
  unfold Builtin.«sorted»
  refine wpAny_bind (m := checkCount "sorted" 1 1 _) (wpAny_pure (wpAny_bind (collect_set (A := X.A.in1) (I.ok.hd hc) ⟨_, ho, rfl, rfl⟩ F.ok.fit (by rw [hs]; exact hb) F.ris F.led fun s1 vs k1 hz g1 o1 pm => ?_)))
  have hvl : vs.length = l.length := by rw [pm.length_eq, List.length_map, Array.length_toList]; exact hs
  have hstr : ∀ v ∈ vs, ∃ k u, v = Value.str k u := fun v hv => by
    obtain ⟨e, he, rfl⟩ := List.mem_map.mp (pm.mem_iff.mp hv)
    obtain ⟨k, u, z⟩ := F.gd e he
    exact ⟨k, u, by rw [z]⟩
  have hS := gds (w := X.w) hstr
  have hp : (vs.map fun v => tOf (0, v)).Perm l := by
    refine ((pm.map fun v => tOf (0, v)).trans ?_).trans F.pm
    rw [List.map_map]
    exact List.Perm.of_eq (List.map_congr_left fun e _ => rfl)
  refine wpAny_bind (wpAny_newList ?_ (by rw [hvl, sizeLine_eq]; omega))
  have hoL : (s1.heap.push (seqObj "list" vs.toArray 0)).get? s1.heap.objs.size = some (seqObj "list" vs.toArray 0) := Heap.get?_push_size _ rfl
  refine wpAny_bind (wpAny_holding (wpAny_call_entry slot_list_sort ⟨_, hoL, rfl⟩ entry_list_sort (list_sort_treeK strKind_oneLt (s := { s1 with heap := s1.heap.push (seqObj "list" vs.toArray 0) }) hoL hS.keysOf
    (fun v₁ v₂ rest e => keyKind_strs (by rw [← e]; exact hS)) (by rw [hvl]; exact h64) fun st' hp' hss => ⟨_, rfl, ?_⟩) (args_list_sort _)))
  obtain ⟨ys, g2, g3, g4⟩ := sorted_out_str hS hp' hss
  obtain ⟨n', he⟩ := sortedHeap_at (vs := vs) (out := (arrOf st').map (·.2)) hoL
  have ey := sort_one (g3.trans hp) g4
  subst ey
  have hlen : ((sortS l).map V.str).length ≤ sizeLine := by
    rw [List.length_map, (sortS_perm l).length_eq, sizeLine_eq]; omega
  have kk : ∀ b u, s.heap.get? b = some u → (sortedHeap (s1.heap.push (seqObj "list" vs.toArray 0)) s1.heap.objs.size vs ((arrOf st').map (·.2))).get? b = some u := fun b u e => by
    have q1 := k1 b u e
    have hb : b < s1.heap.objs.size := Heap.lt_size q1
    rw [sortedHeap_old (Nat.ne_of_lt hb) (by rw [size_push']; exact Nat.lt_succ_of_lt hb)]
    exact Heap.get?_push_of_some _ q1
  have hn : H s1.heap.objs.size = none := I.hok.fresh hz
  have new : ObjOk X.prog X.w (upd H s1.heap.objs.size (.lst ((sortS l).map V.str))) (sortedHeap (s1.heap.push (seqObj "list" vs.toArray 0)) s1.heap.objs.size vs ((arrOf st').map (·.2))) s1.heap.objs.size (.lst ((sortS l).map V.str)) :=
    ⟨hlen, ((arrOf st').map (·.2)).toList, n', vals_of_strs g2, by rw [Array.toArray_toList]; exact he⟩
  refine wpAny_pure ⟨_, rfl, .ref s1.heap.objs.size, upd H s1.heap.objs.size (.lst ((sortS l).map V.str)), ?_, rfl, q _ hn⟩
  exact I.call' (ch := []) o1 (Un.laid kk hz hn) (I.hok.laid kk hz new) (by show AllBare s1.gens; rw [g1]; exact I.bare) (fun _ z => nomatch z)
theorem seqXE {P : Program} {w : World} {K : PySem.W.Frag} {wx : WT} {F : FS} {μ : Mu} {H : Hp} {τ : Fr} {σ : L2.St} {S : Sto} {Q : VK} {rel : RL (List Str) V} {k : List Str → Sto → Res T}
    (s : RelS K H μ S) (f : RelF K H μ τ σ) (h : post K (wx.fr τ σ) (rV K) μ H ((F τ S).bind k) Q) :
    tX P w K wx F σ H fun v H1 => ∃ μ1 S1 l D, v = .ref D ∧ Ext H μ H1 μ1 ∧ H D = none ∧ RelS K H1 μ1 S1 ∧ H1 D = some (TxO P w D l) ∧ post K (wx.fr τ σ) (rV K) μ H (k l S1) Q := by
  refine ⟨μ, τ, S, s, f, ?_⟩
  cases e : F τ S with
  | stuck => rw [e] at h; exact h.elim
  | exc x S1 => rw [e] at h; exact h
  | ok t S1 =>
    rw [e] at h
    exact fun μ1 H1 D x hd st r => ⟨μ1, S1, t, D, rfl, x, hd, st, r, h⟩
theorem pf_lenX {x : Str} {p : Pos} {e : Expr} {F : FS} (hm : X.mg x = none) (hv : bootBuiltins x = some (.builtin "len")) (ha : PFX X wx e F) (hg : Gl X x := by rfl) (hn : x ≠ "__name__" := by decide) (hdb : (x == ("__debug__" : Str)) = false := by decide)
    (he : starEach [e] X.env = (false, eval e X.env) :: starEach [] X.env := by rfl) (hpl : (backTo pos (starEach [] X.env)).any (·.1) = false := by rfl) : PF X wx (.Call (.Name x p) [e] [] pos) (fLenX F) :=
  PE.imp (pe_callB cr_lenX hg hm hv (pa_cons ha pa_nil he) hn hdb he hpl) fun σ H Q h => by
    obtain ⟨μ, τ, S, s, f, h⟩ := h
    obtain ⟨μ', τ', S', s', f', h'⟩ := seqXE (P := X.prog) (w := X.w) (rel := fun _ _ _ _ => True) s f h
    refine ⟨μ', τ', S', s', f', ?_⟩
    cases e0 : F τ' S' with
    | stuck => rw [e0] at h'; exact h'
    | exc x S1 => rw [e0] at h'; exact h'
    | ok t S1 =>
      rw [e0] at h'
      intro μ1 H1 D x hd st r
      obtain ⟨μ2, S2, l, D2, evq, x2, hd2, st2, r2, q⟩ := h' μ1 H1 D x hd st r
      cases evq
      exact ⟨D, l, rfl, r2, q μ2 _ H1 x2 st2 (by simp only [Rel])⟩
theorem pfn_sortX {x : Str} {p : Pos} {e : Expr} {F : FS} (hc : X.calm = true) (hm : X.mg x = none) (hv : bootBuiltins x = some (.builtin "sorted")) (ha : PFX X wx e F) (hg : Gl X x := by rfl) (hn : x ≠ "__name__" := by decide) (hdb : (x == ("__debug__" : Str)) = false := by decide)
    (he : starEach [e] X.env = (false, eval e X.env) :: starEach [] X.env := by rfl) (hpl : (backTo pos (starEach [] X.env)).any (·.1) = false := by rfl) : PFN X wx (.Call (.Name x p) [e] [] pos) (fSortX F) :=
  PE.imp (pe_callB (cr_sortX hc) hg hm hv (pa_cons ha pa_nil he) hn hdb he hpl) fun σ H Q h => by
    obtain ⟨μ, τ, S, s, f, h⟩ := h
    refine ⟨μ, τ, S, s, f, ?_⟩
    unfold fSortX at h
    cases e0 : F τ S with
    | stuck => rw [e0] at h; exact h.elim
    | exc x S1 => rw [e0] at h; exact h
    | ok t S1 =>
      rw [e0] at h
      simp only [Res.bind] at h
      intro μ1 H1 D x hd st r
      by_cases h64 : t.length < 64
      · rw [if_pos h64] at h
        refine ⟨D, t, rfl, r, h64, fun p hp => new_at x h st hp ⟨_, upd_same, ?_⟩⟩
        exact rels_new hp (strs_rels (sortS t))
      · rw [if_neg h64] at h; exact h.elim
end
end TL
set_option Elab.async false
set_option linter.all false
set_option maxRecDepth 100000
set_option maxHeartbeats 2000000
namespace TL
open PySem PySem.Spec L2
open PyProof.Rows hiding St
def ltS (a b : Str) : Bool := decide (a.cps.toList < b.cps.toList)
section
variable {prog : Program} {w : World} {A : Around} {E : Value → Shared → Prop} {s : Shared}
def strOf : Value → Str
  | .str x _ => x
  | _ => ⟨#[]⟩
def rowAt (h : Heap) (v : Value) : List Str := match v with
  | .ref a => match h.get? a with
    | some o => match o.data with
      | .seq its _ => its.toList.map strOf
      | _ => []
    | none => []
  | _ => []
def IsRow (h : Heap) (v : Value) (l : List Str) : Prop := ∃ a o its n, v = .ref a ∧ h.get? a = some o ∧ o.cls = .type "tuple" ∧ o.data = .seq its n ∧ StrsAre its.toList l
theorem strs_of : ∀ {vs : List Value} {l : List Str}, StrsAre vs l → vs.map strOf = l
  | _, _, .nil => rfl
  | _, _, .cons x t h => by
    rw [List.map_cons, strs_of h]
    rfl
theorem IsRow.at {h : Heap} {v : Value} {l : List Str} (r : IsRow h v l) : rowAt h v = l := by
  obtain ⟨a, o, its, n, rfl, ho, hc, hd, hs⟩ := r
  unfold rowAt
  simp only [ho, hd]
  exact strs_of hs
theorem IsRow.keeps {h h' : Heap} {v : Value} {l : List Str} (r : IsRow h v l) (k : ∀ b o, h.get? b = some o → o.cls = .type "tuple" → h'.get? b = some o) : IsRow h' v l := by
  obtain ⟨a, o, its, n, rfl, ho, hc, hd, hs⟩ := r
  exact ⟨a, o, its, n, rfl, k _ _ ho hc, hc, hd, hs⟩
end
def rowsT : List T → Option (List (List Str))
  | [] => some []
  | .tup us :: ts => (strsT us).bind fun x => (rowsT ts).map fun r => x :: r
  | _ => none
theorem strsT_map : ∀ l : List Str, strsT (l.map T.str) = some l
  | [] => rfl
  | y :: l => by simp only [List.map_cons, strsT, strsT_map l, Option.map_some]
def okRows (ls : List (List Str)) : Bool := decide (ls.length < 2) || ls.all (fun l => !l.isEmpty)
end TL
set_option Elab.async false
set_option linter.all false
set_option maxRecDepth 100000
set_option maxHeartbeats 2000000
namespace TL
open PySem PySem.Spec L2
open PyProof.Rows hiding St
abbrev CM := Sto → List T → List T → Option (T × List T)
def lstD (o : Option (List T)) (k : List T → Res T) : Res T := match o with
  | some xs => k xs
  | none => .stuck
theorem lstD_some (xs : List T) (k : List T → Res T) : lstD (some xs) k = k xs := rfl
def cmEnd (n : Nat) (S : Sto) (o : Option (T × List T)) : Res T := match o with
  | some p => .ok p.1 (S.set n (.lst p.2))
  | none => .stuck
theorem cmEnd_some (n : Nat) (S : Sto) (r : T) (ys : List T) : cmEnd n S (some (r, ys)) = .ok r (S.set n (.lst ys)) := rfl
def refD (o : T) (k : Nat → Res T) : Res T := match o with
  | .ref n => k n
  | _ => .stuck
theorem refD_ref (n : Nat) (k : Nat → Res T) : refD (.ref n) k = k n := rfl
def fCM (op : CM) (Fo : FE) (Fs : FA) : FE := fun τ S => (Fo τ S).bind fun o S1 => refD o fun n => lstD (lstAt S1 n) fun _ => (Fs τ S1).bind fun ts S2 => lstD (lstAt S2 n) fun xs => cmEnd n S2 (op S2 xs ts)
def CmR (K : PySem.W.Frag) (op : CM) (rule : V → List V → Hp → VK → Prop) : Prop := ∀ (μ : Mu) (H : Hp) (S : Sto) (a : Addr) (xs ts : List T) (vs ws : List V) (r : T) (ys : List T) (Q : VK), RelS K H μ S → H a = some (.lst vs) → Rels K H μ xs vs → Rels K H μ ts ws →
  op S xs ts = some (r, ys) → (∀ v us, Rel K H μ r v → Rels K H μ ys us → Q v (upd H a (.lst us))) → rule (.ref a) ws H Q
section
variable {X : Cx} {wx : WT} {pos : Pos} {K : PySem.W.Frag}
theorem cm_imp {op : CM} {rule : V → List V → Hp → VK → Prop} (hr : CmR X.K op rule) {Fo : FE} {Fs : FA} {σ : L2.St} {H : Hp} {Q : VK} (h : tG X.K wx (rV X.K) (fCM op Fo Fs) σ H Q) : tBM X.K "list" rule (tG X.K wx (rV X.K) Fo) (tG X.K wx (rVs X.K) Fs) σ H Q := by
  obtain ⟨μ, τ, S, s, f, h⟩ := h
  refine tG.seq s f h fun μ1 H1 x v S1 A1 h1 => ?_
  cases x with
  | ref n =>
    rw [refD_ref] at h1
    cases e1 : lstAt S1 n with
    | none => rw [e1] at h1; exact h1.elim
    | some us =>
      rw [e1, lstD_some] at h1
      have r := A1.rel
      simp only [Rel] at r
      obtain ⟨a, ha1, rfl⟩ := r
      obtain ⟨a', vs, ha', hl, _⟩ := lstAt_ok e1 A1.st
      rw [ha1] at ha'
      cases ha'
      refine ⟨.inl ⟨rfl, vs, .inl (.inl hl)⟩, tG.seq A1.st A1.fr h1 fun μ2 H2 ts ws S2 A2 h2 => ?_⟩
      cases e2 : lstAt S2 n with
      | none => rw [e2] at h2; exact h2.elim
      | some xs =>
        rw [e2, lstD_some] at h2
        cases e3 : op S2 xs ts with
        | none => rw [e3] at h2; exact h2.elim
        | some p =>
          obtain ⟨r, ys⟩ := p
          rw [e3, cmEnd_some] at h2
          obtain ⟨b, us', hb, hl2, r4⟩ := lstAt_ok e2 A2.st
          obtain ⟨ν, eν, _⟩ := A2.ext.pre
          have ha2 : μ2.c[n]? = some a := by rw [eν, List.getElem?_append_left (List.getElem?_eq_some_iff.mp ha1).1]; exact ha1
          rw [ha2] at hb
          cases hb
          refine hr μ2 H2 S2 a xs ts us' ws r ys Q A2.st hl2 r4 A2.rel e3 fun v zs rv rz => ?_
          exact h2 μ2 v _ (Ext.setc ha2) (A2.st.setc ha2 ⟨_, upd_same, rels_setc ha2 rz⟩) (rel_setc ha2 rv)
  | _ => exact h1.elim
theorem pf_cm {op : CM} {rule : V → List V → Hp → VK → Prop} {id : String} {name : Str} (hr : CmR X.K op rule) (slot : Slot "list" name id) (hty : typeOf (.builtin id) = pure (.type "method_descriptor")) (hm : MtR X id rule) {o e : Expr} {es : List Expr} {Fo : FE} {Fs : FA} {apos cpos : Pos} (ho : PF X wx o Fo) (ha : PFA X wx (e :: es) Fs)
    (hbase : attributeBase o name X.env (eval o X.env) = eval o X.env := by rfl)
    (hfew : ((backTo cpos (starEach (e :: es) X.env)).all (fun x => !x.1) && (backToKw cpos (keywordEach [] X.env)).all (fun x => x.1.isSome)
      && decide ((e :: es).length + ([] : List Keyword).length + (if ([] : List Keyword).isEmpty then 0 else 1) < 30)) = true := by rfl)
    (hline : (apos.endLine == cpos.line) = true := by rfl) (hs : starEach (e :: es) X.env = (false, eval e X.env) :: starEach es X.env := by rfl) (hplain : (backTo cpos (starEach es X.env)).any (·.1) = false := by rfl) :
    PF X wx (.Call (.Attribute o name apos) (e :: es) [] cpos) (fCM op Fo Fs) := PE.imp (pe_bm PySem.F.plainAttrs_list slot hty hm ho ha hbase hfew hline hs hplain) fun σ H Q h => cm_imp hr h
theorem Rels.erase {H : Hp} {μ : Mu} : ∀ {ts : List T} {vs : List V} (n : Nat), Rels K H μ ts vs → Rels K H μ (ts.eraseIdx n) (vs.eraseIdx n)
  | [], _, n, r => by simp only [Rels] at r; subst r; simp [Rels]
  | t :: ts, vs, n, r => by
    simp only [Rels] at r
    obtain ⟨v, r', rfl, h1, h2⟩ := r
    cases n with
    | zero => exact h2
    | succ n =>
      simp only [List.eraseIdx_cons_succ, Rels]
      exact ⟨v, _, rfl, h1, Rels.erase n h2⟩
def opPop : CM := fun _ xs ts => match ts with
  | [.int i] => if decide (-(2 ^ 62) ≤ i) && decide (i < 2 ^ 62) then (seqIndex? i xs.length).bind fun k => (xs[k]?).map fun y => (y, xs.eraseIdx k) else none
  | _ => none
theorem cm_pop : CmR K opPop rPopAt := by
  intro μ H S a xs ts vs ws r ys Q s hl rx rt e q
  unfold opPop at e
  split at e
  · rename_i i
    split at e
    · rename_i hi
      simp only [Bool.and_eq_true, decide_eq_true_eq] at hi
      simp only [Option.bind_eq_some_iff, Option.map_eq_some_iff] at e
      obtain ⟨k, hk, y, hy, e⟩ := e
      cases e
      obtain ⟨w, rfl, rw'⟩ := rels1 rt
      have ew : w = .int i := rw'
      subst ew
      obtain ⟨v, hv, rv⟩ := rx.get hy
      exact ⟨a, vs, i, k, v, rfl, rfl, hl, by omega, by omega, by rw [← rx.length]; exact hk, hv, q v _ rv (rx.erase k)⟩
    · cases e
  · cases e
theorem pf_pop {o e : Expr} {Fo : FE} {Fs : FA} {apos cpos : Pos} (ho : PF X wx o Fo) (ha : PFA X wx [e] Fs) (hbase : attributeBase o "pop" X.env (eval o X.env) = eval o X.env := by rfl)
    (hfew : ((backTo cpos (starEach [e] X.env)).all (fun x => !x.1) && (backToKw cpos (keywordEach [] X.env)).all (fun x => x.1.isSome) && decide (([e] : List Expr).length + ([] : List Keyword).length + (if ([] : List Keyword).isEmpty then 0 else 1) < 30)) = true := by rfl)
    (hline : (apos.endLine == cpos.line) = true := by rfl) (hs : starEach [e] X.env = (false, eval e X.env) :: starEach [] X.env := by rfl) (hplain : (backTo cpos (starEach [] X.env)).any (·.1) = false := by rfl) :
    PF X wx (.Call (.Attribute o "pop" apos) [e] [] cpos) (fCM opPop Fo Fs) := pf_cm cm_pop PySem.F.slot_list_pop PySem.F.type_list_pop mt_popAt ho ha hbase hfew hline hs hplain
end
end TL
set_option Elab.async false
set_option linter.all false
set_option maxRecDepth 100000
set_option maxHeartbeats 2000000
namespace TL
open PySem PySem.Spec L2
open PyProof.Rows hiding St
section
variable {X : Cx} {wx : WT} {pos : Pos}
theorem rels_rep {K : PySem.W.Frag} {H : Hp} {μ : Mu} {ts : List T} {vs : List V} (r : Rels K H μ ts vs) : ∀ n : Nat, Rels K H μ (List.replicate n ts).flatten (List.replicate n vs).flatten
  | 0 => by simp [Rels]
  | n + 1 => by
    rw [List.replicate_succ, List.replicate_succ, List.flatten_cons, List.flatten_cons]
    exact Rels.append r (rels_rep r n)
end
end TL
set_option Elab.async false
set_option linter.all false
set_option maxRecDepth 100000
set_option maxHeartbeats 2000000
namespace TL
open PySem PySem.Spec L2
open PyProof.Rows hiding St
section
variable {X : Cx}
end
end TL
set_option Elab.async false
set_option linter.all false
set_option maxRecDepth 100000
set_option maxHeartbeats 2000000
namespace TL
open PySem PySem.Spec L2
open PyProof.Rows hiding St
def Sup (H : Hp) (μ : Mu) (H' : Hp) (μ' : Mu) : Prop := (∀ (n : Nat) (a : Addr), μ.c[n]? = some a → μ'.c[n]? = some a) ∧ ∀ a o, H a = some o → μ.out a → H' a = some o ∧ μ'.out a
theorem Sup.refl (H : Hp) (μ : Mu) : Sup H μ H μ := ⟨fun _ _ e => e, fun _ _ e n => ⟨e, n⟩⟩
theorem Ext.sup {H H' : Hp} {μ μ' : Mu} (x : Ext H μ H' μ') : Sup H μ H' μ' := ⟨fun n a e => by
  obtain ⟨ν, eν, -⟩ := x.pre
  rw [eν, List.getElem?_append_left (List.getElem?_eq_some_iff.mp e).1]
  exact e, fun a o e n => ⟨x.keep a o e n.1, x.out e n⟩⟩
theorem Sup.trans {H H1 H2 : Hp} {μ μ1 μ2 : Mu} (a : Sup H μ H1 μ1) (b : Sup H1 μ1 H2 μ2) : Sup H μ H2 μ2 := ⟨fun n p e => b.1 n p (a.1 n p e), fun p o e n => b.2 p o (a.2 p o e n).1 (a.2 p o e n).2⟩
theorem Sup.hid {H : Hp} {μ : Mu} {D : Addr} {o : HO} (h : D ∈ μ.r) : Sup H μ (upd H D o) μ := ⟨fun _ _ e => e, hid_keep h⟩
theorem Sup.fix {H H' : Hp} {μ μ' : Mu} {a : Addr} {u : HO} (x : Sup H μ H' μ') (f : Fix H μ a u) : Fix H' μ' a u := by
  obtain ⟨r, n⟩ := f
  rcases r with r | ⟨o, r⟩
  · exact ⟨.inl (x.2 _ _ r n).1, (x.2 _ _ r n).2⟩
  · exact ⟨.inr ⟨o, (x.2 _ _ r n).1⟩, (x.2 _ _ r n).2⟩
def Src2 (K : PySem.W.Frag) (J : It) (xs : List T) (μ : Mu) (H : Hp) : Prop := ∀ μ2 H2, Sup H μ H2 μ2 →
  (∀ i x, xs[i]? = some x → J.go i H2 ∧ ∀ v H3, J.yld i H2 v H3 → Same H2 H3 ∧ ∀ S, RelS K H2 μ2 S → Rel K H3 μ2 x v) ∧ ∀ i, xs.length ≤ i → J.stop i H2
def rI2 (K : PySem.W.Frag) : RL (List T) It := fun H μ xs J => Src2 K J xs μ H
def wiT2 (K : PySem.W.Frag) (wx : WT) (Fi : FI) : TI := tG K wx (rI2 K) Fi
def PFI2 (X : Cx) (wx : WT) (tg e : Expr) (Fi : FI) : Prop := PI X tg e (wiT2 X.K wx Fi)
theorem Src2.list {K : PySem.W.Frag} {H : Hp} {μ : Mu} {a : Addr} {xs : List V} {ts : List T} (f : OL K H μ a xs) (r : Rels K H μ ts xs) : Src2 K (Itl K a) ts μ H := fun μ2 H2 E => by
  have f2 : OL K H2 μ2 a xs := f.imp E.fix id
  have q : SqL K H2 a xs := f2.imp (fun z => z.1) id
  have r2 := Rels.to E.1 E.2 ts r
  refine ⟨fun i x e => ?_, fun i h => ⟨xs, q, by rw [← r2.length]; exact h⟩⟩
  obtain ⟨v, e1, e2⟩ := r2.get e
  refine ⟨⟨xs, v, q, e1⟩, fun u H3 y => ?_⟩
  obtain ⟨rfl, y⟩ := y
  have e3 := y xs q
  rw [e1] at e3
  cases e3
  exact ⟨Same.refl _, fun S s => e2⟩
theorem Src2.tup {K : PySem.W.Frag} {H : Hp} {μ : Mu} {a : Addr} {xs : List V} {ts : List T} (f : OT K H μ a xs) (r : Rels K H μ ts xs) : Src2 K (Itt K a) ts μ H := fun μ2 H2 E => by
  have f2 : OT K H2 μ2 a xs := f.imp E.fix id
  have q : SqT K H2 a xs := f2.imp (fun z => z.1) id
  have r2 := Rels.to E.1 E.2 ts r
  refine ⟨fun i x e => ?_, fun i h => ⟨xs, q, by rw [← r2.length]; exact h⟩⟩
  obtain ⟨v, e1, e2⟩ := r2.get e
  refine ⟨⟨xs, v, q, e1⟩, fun u H3 y => ?_⟩
  obtain ⟨rfl, y⟩ := y
  have e3 := y xs q
  rw [e1] at e3
  cases e3
  exact ⟨Same.refl _, fun S s => e2⟩
section
variable {X : Cx} {wx : WT} {tg a : Expr} {Fa : FE}
theorem pfi2_list (ha : PF X wx a Fa) : PFI2 X wx tg a (fiL Fa) := PI.imp (pi_list ha) fun σ H Q h => by
  obtain ⟨μ, τ, S, s, f, h⟩ := h
  refine tG.seq s f h fun μ1 H1 t v S1 A1 h1 => ?_
  have r := A1.rel
  cases t with
  | lst ts =>
    simp only [Rel] at r
    obtain ⟨a, xs, rfl, o, r⟩ := r
    have o' : OL X.K H1 μ1 a xs := .inl ⟨.inl o.1, o.2⟩
    exact ⟨a, rfl, ⟨xs, .inl (.inl o.1)⟩, h1.here A1.st (Src2.list o' r)⟩
  | sls ts =>
    simp only [Rel] at r
    obtain ⟨a, xs, rfl, o, r⟩ := r
    exact ⟨a, rfl, ⟨xs, o.imp (fun z => z.1) fun z => z⟩, h1.here A1.st (Src2.list o r)⟩
  | _ => exact h1.elim
theorem pfi2_tup (ha : PF X wx a Fa) : PFI2 X wx tg a (fiT Fa) := PI.imp (pi_tup ha) fun σ H Q h => by
  obtain ⟨μ, τ, S, s, f, h⟩ := h
  refine tG.seq s f h fun μ1 H1 t v S1 A1 h1 => ?_
  have r := A1.rel
  cases t with
  | tup ts =>
    simp only [Rel] at r
    obtain ⟨a, xs, rfl, o, r⟩ := r
    exact ⟨a, rfl, ⟨xs, o.imp (fun z => z.1) fun z => z⟩, h1.here A1.st (Src2.tup o r)⟩
  | ktp ts =>
    simp only [Rel] at r
    obtain ⟨a, xs, rfl, ⟨ob, oh, oo, _⟩, r⟩ := r
    have o : OT X.K H1 μ1 a xs := .inl ⟨.inr ⟨ob, oh⟩, oo⟩
    exact ⟨a, rfl, ⟨xs, o.imp (fun z => z.1) fun z => z⟩, h1.here A1.st (Src2.tup o r)⟩
  | etp ts =>
    simp only [Rel] at r
    obtain ⟨a, xs, rfl, ⟨oh, oo⟩, r⟩ := r
    have o : OT X.K H1 μ1 a xs := .inl ⟨.inl oh, oo⟩
    exact ⟨a, rfl, ⟨xs, o.imp (fun z => z.1) fun z => z⟩, h1.here A1.st (Src2.tup o r)⟩
  | _ => exact h1.elim
end
def lc2F (g : GT) (Ft : FT) (Fi1 : FI) (g1 : GT) (Ft1 : FT) (Fe : FE) (vs1 : List Nat) (vs : List Nat) (τ : Fr) : List T → Sto → Res (List T)
  | [], S => .ok [] S
  | x :: xs, S => match g x with
    | none => .stuck
    | some l => if slotsIn l vs then (Ft (setsT τ l) S).nox.bind fun k S1 => match k with
        | true => (Fi1 (setsT τ l) S1).nox.bind fun ys S2 => if ys.length ≤ 1000 then (lcF g1 Ft1 Fe vs1 (wipeT (setsT τ l) vs1) ys S2).bind fun zs S3 => (lc2F g Ft Fi1 g1 Ft1 Fe vs1 vs τ xs S3).bind fun ws S4 => .ok (zs ++ ws) S4 else .stuck
        | false => lc2F g Ft Fi1 g1 Ft1 Fe vs1 vs τ xs S1
      else .stuck
def fLc2 (Fi : FI) (g : GT) (Ft : FT) (Fi1 : FI) (g1 : GT) (Ft1 : FT) (Fe : FE) (vs1 vs : List Nat) : FE := fun τ S => (Fi τ S).bind fun xs S1 => if xs.length ≤ 1000 then (lc2F g Ft Fi1 g1 Ft1 Fe vs1 vs (wipeT τ vs) xs S1).bind fun ys S2 => .ok (.lst ys) S2 else .stuck
section
variable {X : Cx} {wx : WT} {pos : Pos}
theorem lc2_imp {Fi Fi1 : FI} {g g1 : GT} {Ft Ft1 : FT} {Fe : FE} {vs vs1 : List Nat} {σ : L2.St} {H : Hp} {Q : VK} (h : tN X.K wx (fLc2 Fi g Ft Fi1 g1 Ft1 Fe vs1 vs) σ H Q) :
    tLc2 (wiT X.K wx Fi) (gT X.K g) (tG X.K wF rB Ft) (wiT2 X.K wF Fi1) (gT X.K g1) (tG X.K wF rB Ft1) (tG X.K wF (rV X.K) Fe) vs vs1 σ H Q := by
  obtain ⟨μ, τ, S, s, f, h⟩ := h
  refine tG.seqN s f h fun μ1 H1 xs J S1 A1 h1 => ?_
  by_cases hl : xs.length ≤ 1000
  · rw [if_pos hl] at h1
    intro D hD
    have hD0 : H D = none := A1.ext.back hD
    have sz : 2000000 < sizeLine := by decide
    refine ⟨fun i m H2 => ∃ M S2 acc accT, Ext H1 μ1 H2 M ∧ D ∈ M.r ∧ RelS X.K H2 M S2 ∧ RelF X.K H2 M τ σ ∧ H2 D = some (.lst acc) ∧ Rels X.K H2 M accT acc ∧ acc.length ≤ 1000 * i ∧ i ≤ xs.length ∧ m = xs.length - i ∧
        postN X.K (wx.fr τ σ) μ H ((lc2F g Ft Fi1 g1 Ft1 Fe vs1 vs (wipeT τ vs) (xs.drop i) S2).bind fun ys S3 => .ok (.lst (accT ++ ys)) S3) Q,
      ⟨xs.length, μ1.hide D, S1, [], [], Ext.hide hD, List.mem_cons_self, A1.st.hide hD, RelF.to (μ := μ1) (fun _ _ e => e) (hide_keep hD) A1.fr, upd_same, by simp only [Rels], Nat.zero_le _, Nat.zero_le _, rfl, by simpa using h1⟩, fun i m H2 hW => ?_⟩
    obtain ⟨M, S2, acc, accT, E2, nr2, s2, f2, d2, a2, hai, hix, rfl, h2⟩ := hW
    obtain ⟨go, stop⟩ := A1.rel M H2 E2
    by_cases hlt : i < xs.length
    · rw [drop_cons hlt] at h2
      obtain ⟨hgo, hy⟩ := go i xs[i] (List.getElem?_eq_getElem hlt)
      refine .inr ⟨hgo, fun H' => ∃ M S2 acc accT, Ext H1 μ1 H' M ∧ D ∈ M.r ∧ RelS X.K H' M S2 ∧ RelF X.K H' M τ σ ∧ H' D = some (.lst acc) ∧ Rels X.K H' M accT acc ∧ acc.length ≤ 1000 * (i + 1) ∧
        postN X.K (wx.fr τ σ) μ H ((lc2F g Ft Fi1 g1 Ft1 Fe vs1 vs (wipeT τ vs) (xs.drop (i + 1)) S2).bind fun ys S3 => .ok (.lst (accT ++ ys)) S3) Q, fun H' hN' => ?_, fun v H3 yl => ?_⟩
      · obtain ⟨M3, S3, acc3, accT3, q1, q2, q3, q4, q5, q6, q7, q8⟩ := hN'
        exact ⟨xs.length - (i + 1), by omega, M3, S3, acc3, accT3, q1, q2, q3, q4, q5, q6, q7, hlt, rfl, q8⟩
      · obtain ⟨sm, hr⟩ := hy v H3 yl
        have E3 : Ext H2 M H3 M := Ext.of_same sm
        have s3 := s2.same sm
        have f3 := f2.mono E3
        simp only [lc2F] at h2
        cases eg : g xs[i] with
        | none => simp only [eg] at h2; exact h2.elim
        | some l =>
          simp only [eg] at h2
          by_cases ha : slotsIn l vs = true
          · rw [if_pos ha] at h2
            refine ⟨M, xs[i], l, hr S2 s2, eg, fun l' fl => ⟨wipe_back (slotsIn_mem ha fl), ?_⟩⟩
            have fb : RelF X.K H3 M (setsT (wipeT τ vs) l) (setsV (wipe σ vs) l') := RelF.sets fl (relF_wipe f3 vs)
            cases et : Ft (setsT (wipeT τ vs) l) S2 with
            | stuck => rw [et] at h2; exact h2.elim
            | exc x S4 => rw [et] at h2; exact h2.elim
            | ok k S4 =>
              rw [et] at h2
              simp only [Res.nox, Res.bind] at h2
              refine tG.known s3 fb et fun M4 H4 b A4 => ?_
              have e : k = b := A4.rel
              subst e
              have E4 : Ext H2 M H4 M4 := E3.trans A4.ext
              have nr4 : D ∈ M4.r := A4.ext.res.1 D nr2
              have d4 : H4 D = some (.lst acc) := E4.keep D _ d2 (s2.dis D nr2)
              cases k with
              | false =>
                simp only at h2
                exact iteF ⟨M4, S4, acc, accT, E2.trans E4, nr4, A4.st, f2.mono E4, d4, Rels.mono E4 _ a2, by omega, h2⟩
              | true =>
                simp only at h2
                refine iteT ?_
                cases ei : Fi1 (setsT (wipeT τ vs) l) S4 with
                | stuck => rw [ei] at h2; exact h2.elim
                | exc x S5 => rw [ei] at h2; exact h2.elim
                | ok ys S5 =>
                  rw [ei] at h2
                  simp only at h2
                  by_cases hl1 : ys.length ≤ 1000
                  · rw [if_pos hl1] at h2
                    refine tG.known A4.st A4.fr ei fun M5 H5 J1 A5 => ?_
                    have E5 : Ext H2 M H5 M5 := E4.trans A5.ext
                    have nr5 : D ∈ M5.r := A5.ext.res.1 D nr4
                    have d5 : H5 D = some (.lst acc) := E5.keep D _ d2 (s2.dis D nr2)
                    -- the inner walk
                    refine ⟨fun j m H6 => ∃ M6 S6 ac acT, Sup H5 M5 H6 M6 ∧ Ext H1 μ1 H6 M6 ∧ D ∈ M6.r ∧ RelS X.K H6 M6 S6 ∧ RelF X.K H6 M6 τ σ ∧ RelF X.K H6 M6 (setsT (wipeT τ vs) l) (setsV (wipe σ vs) l') ∧ H6 D = some (.lst ac) ∧ Rels X.K H6 M6 acT ac ∧ ac.length ≤ 1000 * i + j ∧ j ≤ ys.length ∧ m = ys.length - j ∧
                        postN X.K (wx.fr τ σ) μ H ((lcF g1 Ft1 Fe vs1 (wipeT (setsT (wipeT τ vs) l) vs1) (ys.drop j) S6).bind fun zs S7 => (lc2F g Ft Fi1 g1 Ft1 Fe vs1 vs (wipeT τ vs) (xs.drop (i + 1)) S7).bind fun ws S8 => .ok (.lst (acT ++ (zs ++ ws))) S8) Q,
                      ⟨ys.length, M5, S5, acc, accT, Sup.refl _ _, E2.trans E5, nr5, A5.st, f2.mono E5, A5.fr, d5, Rels.mono E5 _ a2, by omega, Nat.zero_le _, rfl, ?_⟩, fun j m H6 hW => ?_⟩
                    · rw [List.drop_zero]
                      refine cast ?_ h2
                      congr 1
                      cases lcF g1 Ft1 Fe vs1 (wipeT (setsT (wipeT τ vs) l) vs1) ys S5 with
                      | stuck => rfl
                      | exc x S => rfl
                      | ok zs S =>
                        simp only [Res.bind]
                        cases lc2F g Ft Fi1 g1 Ft1 Fe vs1 vs (wipeT τ vs) (xs.drop (i + 1)) S <;> rfl
                    · obtain ⟨M6, S6, ac, acT, E6, E16, nr6, s6, f6, fb6, d6, a6, hac, hjy, rfl, h6⟩ := hW
                      obtain ⟨go1, stop1⟩ := A5.rel M6 H6 E6
                      by_cases hlt1 : j < ys.length
                      · rw [drop_cons hlt1] at h6
                        obtain ⟨hgo1, hy1⟩ := go1 j ys[j] (List.getElem?_eq_getElem hlt1)
                        refine .inr ⟨hgo1, fun H' => ∃ M6 S6 ac acT, Sup H5 M5 H' M6 ∧ Ext H1 μ1 H' M6 ∧ D ∈ M6.r ∧ RelS X.K H' M6 S6 ∧ RelF X.K H' M6 τ σ ∧ RelF X.K H' M6 (setsT (wipeT τ vs) l) (setsV (wipe σ vs) l') ∧ H' D = some (.lst ac) ∧ Rels X.K H' M6 acT ac ∧ ac.length ≤ 1000 * i + (j + 1) ∧
                          postN X.K (wx.fr τ σ) μ H ((lcF g1 Ft1 Fe vs1 (wipeT (setsT (wipeT τ vs) l) vs1) (ys.drop (j + 1)) S6).bind fun zs S7 => (lc2F g Ft Fi1 g1 Ft1 Fe vs1 vs (wipeT τ vs) (xs.drop (i + 1)) S7).bind fun ws S8 => .ok (.lst (acT ++ (zs ++ ws))) S8) Q, fun H' hN' => ?_, fun v H7 yl1 => ?_⟩
                        · obtain ⟨M3, S3, acc3, accT3, q0, q1, q2, q3, q4, q4', q5, q6, q7, q8⟩ := hN'
                          exact ⟨ys.length - (j + 1), by omega, M3, S3, acc3, accT3, q0, q1, q2, q3, q4, q4', q5, q6, q7, hlt1, rfl, q8⟩
                        · obtain ⟨sm1, hr1⟩ := hy1 v H7 yl1
                          have E7 : Ext H6 M6 H7 M6 := Ext.of_same sm1
                          have s7 := s6.same sm1
                          simp only [lcF] at h6
                          cases eg1 : g1 ys[j] with
                          | none => simp only [eg1] at h6; exact h6.elim
                          | some l1 =>
                            simp only [eg1] at h6
                            by_cases ha1 : slotsIn l1 vs1 = true
                            · rw [if_pos ha1] at h6
                              refine ⟨M6, ys[j], l1, hr1 S6 s6, eg1, fun l1' fl1 => ⟨wipe_back (slotsIn_mem ha1 fl1), ?_⟩⟩
                              have fb7 : RelF X.K H7 M6 (setsT (wipeT (setsT (wipeT τ vs) l) vs1) l1) (setsV (wipe (setsV (wipe σ vs) l') vs1) l1') := RelF.sets fl1 (relF_wipe (fb6.mono E7) vs1)
                              cases et1 : Ft1 (setsT (wipeT (setsT (wipeT τ vs) l) vs1) l1) S6 with
                              | stuck => rw [et1] at h6; exact h6.elim
                              | exc x S9 => rw [et1] at h6; exact h6.elim
                              | ok k1 S9 =>
                                rw [et1] at h6
                                simp only [Res.nox, Res.bind] at h6
                                refine tG.known s7 fb7 et1 fun M9 H9 b1 A9 => ?_
                                have e1 : k1 = b1 := A9.rel
                                subst e1
                                have E9 : Ext H6 M6 H9 M9 := E7.trans A9.ext
                                have nr9 : D ∈ M9.r := A9.ext.res.1 D nr6
                                cases k1 with
                                | false =>
                                  simp only at h6
                                  exact iteF ⟨M9, S9, ac, acT, E6.trans E9.sup, E16.trans E9, nr9, A9.st, f6.mono E9, fb6.mono E9, E9.keep D _ d6 (s6.dis D nr6), Rels.mono E9 _ a6, by omega, h6⟩
                                | true =>
                                  simp only at h6
                                  refine iteT ?_
                                  cases ee : Fe (setsT (wipeT (setsT (wipeT τ vs) l) vs1) l1) S9 with
                                  | stuck => rw [ee] at h6; exact h6.elim
                                  | exc x S10 => rw [ee] at h6; exact h6.elim
                                  | ok y S10 =>
                                    rw [ee] at h6
                                    simp only at h6
                                    refine tG.known A9.st A9.fr ee fun M10 H10 w A10 => ?_
                                    have E10 : Ext H6 M6 H10 M10 := E9.trans A10.ext
                                    have nr10 : D ∈ M10.r := A10.ext.res.1 D nr9
                                    have d10 : H10 D = some (.lst ac) := E10.keep D _ d6 (s6.dis D nr6)
                                    have hD5 : H1 D = none := hD
                                    have keepD : ∀ a u, H10 a = some u → M10.out a → upd H10 D (.lst (ac ++ [w])) a = some u ∧ M10.out a := hid_keep nr10
                                    have i1000 : 1000 * i ≤ 1000 * 1000 := Nat.mul_le_mul_left _ (by omega)
                                    refine ⟨ac, d10, by omega, M10, S10, ac ++ [w], acT ++ [y], (E6.trans E10.sup).trans (Sup.hid nr10), (E16.trans E10).hid hD, nr10, A10.st.hid nr10, RelF.to (μ := M10) (fun _ _ e => e) keepD (f6.mono E10), RelF.to (μ := M10) (fun _ _ e => e) keepD (fb6.mono E10), upd_same, ?_, by simp; omega, ?_⟩
                                    · refine Rels.to (μ := M10) (fun _ _ e => e) keepD _ (Rels.append (Rels.mono E10 _ a6) ?_)
                                      simp only [Rels]
                                      exact ⟨w, [], rfl, A10.rel, rfl⟩
                                    · cases er : lcF g1 Ft1 Fe vs1 (wipeT (setsT (wipeT τ vs) l) vs1) (ys.drop (j + 1)) S10 with
                                      | stuck => rw [er] at h6; exact h6.elim
                                      | exc x S11 => rw [er] at h6; exact h6
                                      | ok zs S11 =>
                                        rw [er] at h6
                                        simp only [Res.bind] at h6 ⊢
                                        simp only [List.append_assoc, List.cons_append, List.nil_append] at h6 ⊢
                                        exact h6
                            · rw [if_neg ha1] at h6; exact h6.elim
                      · have e : j = ys.length := by omega
                        subst e
                        rw [List.drop_length] at h6
                        refine .inl ⟨stop1 _ (Nat.le_refl _), M6, S6, ac, acT, E16, nr6, s6, f6, d6, a6, by omega, ?_⟩
                        simp only [lcF, Res.bind, List.nil_append] at h6
                        exact h6
                  · rw [if_neg hl1] at h2; exact h2.elim
          · rw [if_neg ha] at h2; exact h2.elim
    · have e : i = xs.length := by omega
      subst e
      rw [List.drop_length] at h2
      refine .inl ⟨stop _ (Nat.le_refl _), ?_⟩
      simp only [lc2F, Res.bind, List.append_nil] at h2
      exact h2 M H2 D (A1.ext.trans E2) hD0 nr2 s2 ⟨acc, d2, a2⟩
  · rw [if_neg hl] at h1; exact h1.elim
theorem pfn_lc2 {elt tg iter tg1 iter1 : Expr} {ifs ifs1 : List Expr} {scope : Scope} {own : List (Str × Nat)} {vs1 : List Nat} {Fi Fi1 : FI} {g g1 : GT} {Ft Ft1 : FT} {Fe : FE} (hc : X.calm = true) (hN : X.N.Nodup) (hi : PFI X wx tg iter Fi) (ok : BlkOk X.N X.env.scope scope own) (hv : ∀ i ∈ vs1, i ∈ own.map (·.2))
    (hg : ∀ (s : Shared) (H : Hp) (C : Addr) (cl : List (Str × Addr)) (fp : List Addr), PFG (X.blk s H scope (compEnvC scope cl C X.env) fp) tg g) (ht : ∀ (s : Shared) (H : Hp) (C : Addr) (cl : List (Str × Addr)) (fp : List Addr), PFTs (X.blk s H scope (compEnvC scope cl C X.env) fp) wF ifs Ft)
    (hi1 : ∀ (s : Shared) (H : Hp) (C : Addr) (cl : List (Str × Addr)) (fp : List Addr), PFI2 (X.blk s H scope (compEnvC scope cl C X.env) fp) wF tg1 iter1 Fi1)
    (hg1 : ∀ (s : Shared) (H : Hp) (C : Addr) (cl : List (Str × Addr)) (fp : List Addr), PFG (X.blk s H scope (compEnvC scope cl C X.env) fp) tg1 g1) (ht1 : ∀ (s : Shared) (H : Hp) (C : Addr) (cl : List (Str × Addr)) (fp : List Addr), PFTs (X.blk s H scope (compEnvC scope cl C X.env) fp) wF ifs1 Ft1)
    (he : ∀ (s : Shared) (H : Hp) (C : Addr) (cl : List (Str × Addr)) (fp : List Addr), PF (X.blk s H scope (compEnvC scope cl C X.env) fp) wF elt Fe) (hs : ∀ x, foldedSetIterable iter X.env x = pure x := by intro _; rfl) (hs1 : ∀ env x, foldedSetIterable iter1 env x = pure x := by intro _ _; rfl) :
    PFN X wx (.ListComp elt [⟨tg, iter, ifs, 0⟩, ⟨tg1, iter1, ifs1, 0⟩] scope pos) (fLc2 Fi g Ft Fi1 g1 Ft1 Fe vs1 (own.map (·.2))) :=
  PE.imp (pe_lc2 (wi1 := wiT2 X.K wF Fi1) (g := gT X.K g) (tt := tG X.K wF rB Ft) (g1 := gT X.K g1) (tt1 := tG X.K wF rB Ft1) (te := tG X.K wF (rV X.K) Fe) hc hN hi ok hv hg ht hi1 hg1 ht1 he hs hs1) fun _ _ _ h => lc2_imp h
section
variable {elt tg iter tg1 iter1 : Expr} {ifs ifs1 : List Expr} {scope : Scope} {own : List (Str × Nat)} {vs1 : List Nat} {Fi Fi1 : FI} {g g1 : GT} {Ft Ft1 : FT} {Fe : FE} {i : Nat} {y : Str} {py spos : Pos} (hc : X.calm = true) (hN : X.N.Nodup) (hy : X.N[i]? = some y) (hyl : X.env.scope.names.lookup y = some .local)
  (hsw : swapsWith (.ListComp elt [⟨tg, iter, ifs, 0⟩, ⟨tg1, iter1, ifs1, 0⟩] scope pos) (some (.Name y py)) spos.line X.env = pure true) (hi : PFI X wx tg iter Fi) (ok : BlkOk X.N X.env.scope scope own) (hv : ∀ i ∈ vs1, i ∈ own.map (·.2))
  (hg : ∀ (s : Shared) (H : Hp) (C : Addr) (cl : List (Str × Addr)) (fp : List Addr), PFG (X.blk s H scope (compEnvC scope cl C X.env) fp) tg g) (ht : ∀ (s : Shared) (H : Hp) (C : Addr) (cl : List (Str × Addr)) (fp : List Addr), PFTs (X.blk s H scope (compEnvC scope cl C X.env) fp) wF ifs Ft)
  (hi1 : ∀ (s : Shared) (H : Hp) (C : Addr) (cl : List (Str × Addr)) (fp : List Addr), PFI2 (X.blk s H scope (compEnvC scope cl C X.env) fp) wF tg1 iter1 Fi1)
  (hg1 : ∀ (s : Shared) (H : Hp) (C : Addr) (cl : List (Str × Addr)) (fp : List Addr), PFG (X.blk s H scope (compEnvC scope cl C X.env) fp) tg1 g1) (ht1 : ∀ (s : Shared) (H : Hp) (C : Addr) (cl : List (Str × Addr)) (fp : List Addr), PFTs (X.blk s H scope (compEnvC scope cl C X.env) fp) wF ifs1 Ft1)
  (he : ∀ (s : Shared) (H : Hp) (C : Addr) (cl : List (Str × Addr)) (fp : List Addr), PF (X.blk s H scope (compEnvC scope cl C X.env) fp) wF elt Fe) (hs : ∀ x, foldedSetIterable iter X.env x = pure x := by intro _; rfl) (hs1 : ∀ env x, foldedSetIterable iter1 env x = pure x := by intro _ _; rfl)
include hc hN hy hyl hsw hi ok hv hg ht hi1 hg1 ht1 he hs hs1
theorem pfs_setLc2 : PFS X wx (.Assign [.Name y py] (.ListComp elt [⟨tg, iter, ifs, 0⟩, ⟨tg1, iter1, ifs1, 0⟩] scope pos) spos) (bSet i (fPure (fLc2 Fi g Ft Fi1 g1 Ft1 Fe vs1 (own.map (·.2))))) :=
  PS.imp (ps_setLc2 (wi1 := wiT2 X.K wF Fi1) (g := gT X.K g) (tt := tG X.K wF rB Ft) (g1 := gT X.K g1) (tt1 := tG X.K wF rB Ft1) (te := tG X.K wF (rV X.K) Fe) hc hN hy hyl hsw hi ok hv hg ht hi1 hg1 ht1 he hs hs1) fun D σ H h => by
    have h1 := pure_imp (set_imp h)
    exact lc2_imp h1
end
end
end TL
set_option Elab.async false
set_option linter.all false
set_option maxRecDepth 100000
set_option maxHeartbeats 2000000
namespace TL
open PySem PySem.Spec L2
open PyProof.Rows hiding St
end TL
set_option Elab.async false
set_option linter.all false
set_option maxRecDepth 100000
namespace TL
open PySem PySem.Spec L2
open PyProof.Rows hiding St
def intsL : List T → Option (List Int)
  | [] => some []
  | .int i :: ts => (intsL ts).map (i :: ·)
  | _ => none
section
variable {K : PySem.W.Frag} {H : Hp} {μ : Mu} {X : Cx}
theorem intsL_ok : ∀ {ts : List T} {vs : List V} {ns : List Int}, intsL ts = some ns → Rels K H μ ts vs → vs = ns.map V.int
  | [], _, _, e, r => by simp only [intsL] at e; cases e; simp only [Rels] at r; subst r; rfl
  | .int b :: ts, _, _, e, r => by
    simp only [intsL, Option.map_eq_some_iff] at e
    obtain ⟨bs, e, rfl⟩ := e
    simp only [Rels, Rel] at r
    obtain ⟨v, r', rfl, rfl, r⟩ := r
    rw [intsL_ok e r]
    rfl
  | .non :: _, _, _, e, _ | .bl _ :: _, _, _, e, _ | .str _ :: _, _, _, e, _ | .tup _ :: _, _, _, e, _ | .lst _ :: _, _, _, e, _ | .sls _ :: _, _, _, e, _ | .dct _ _ :: _, _, _, e, _ | .ref _ :: _, _, _, e, _ | .val _ :: _, _, _, e, _ => by simp only [intsL] at e; cases e
theorem intsL_map : ∀ ns : List Int, intsL (ns.map T.int) = some ns
  | [] => rfl
  | n :: ns => by simp only [List.map_cons, intsL, intsL_map ns, Option.map_some]
def sumT (S : Sto) (ts : List T) : Option T := match ts with
  | [t] => (seqL S t).bind fun ts => (intsL ts).map fun ns => .int ns.sum
  | _ => none
theorem c_sum (hc : X.calm = true) : CallR X (.builtin "sum") (rN X.K sumT) := by
  intro pins s σ H xs us Q I rv q
  obtain ⟨μ, S, ts, t, st, r, e, q⟩ := q
  unfold sumT at e
  split at e
  · obtain ⟨v, hve, rr⟩ := rels1 r
    subst hve
    replace r := rr
    simp only [Option.bind_eq_some_iff, Option.map_eq_some_iff] at e
    obtain ⟨ts, h, bs, hb, rfl⟩ := e
    obtain ⟨a, vs, rfl, ha, r⟩ := seqL_ok h st r
    rw [intsL_ok hb r] at ha
    exact cr_sum hc pins s σ H _ us Q I rv ⟨a, bs, rfl, ha, q _ H (Same.refl _) rel_int⟩
  · cases e
end
end TL
set_option Elab.async false
set_option linter.all false
set_option maxRecDepth 100000
namespace TL
open PySem PySem.Spec L2
open PyProof.Rows hiding St
section
variable {P : Program} {w : World} {K : PySem.W.Frag} {mg : Str → Option Value} {base : Heap}
end
structure Sh (K : PySem.W.Frag) (fd : FuncData) (ps : List Str) (dvs : List V) (n : Nat) (ks : List Str) (g : {α : Type} → List α → List α → List α → List α) : Prop where
  b : ∃ its : List Value, KBn K fd ps n ks (fun us ws => g us its ws) (fun vs zs => g vs dvs zs)
section
variable {K : PySem.W.Frag} {x qual : Str} {params : Arguments} {body : List Stmt} {scope : Scope} {dvs : List V} {f : Addr} {fd : FuncData} {ps : List Str}
theorem sh_mk (F : FunD K x qual params body scope dvs [] f fd) (n : Nat) (ks : List Str) (g : {α : Type} → List α → List α → List α → List α) (hd : dvs ≠ [])
    (hrel : ∀ {vs ds zs : List V} {us its ws : List Value}, Vals vs us → Vals ds its → Vals zs ws → Vals (g vs ds zs) (g us its ws))
    (h : ∀ (T : Addr) (kV doc pm : Value) (an : Option Addr) (cdv ct : Value) (us its ws : List Value), us.length = n → its.length = dvs.length → ws.length = ks.length →
      ∃ k, bindArgs (PySem.W.fnOf x qual params body scope (.ref T) kV doc pm an cdv ct) ⟨us, ks.zip ws⟩ = seqItems? (.ref T) >>= k ∧ k (some its.toArray) = pure (ps.zip (g us its ws))) : Sh K fd ps dvs n ks g := by
  obtain ⟨oc, od, dV, kV, doc, pm, an, cdv, ct, osl, rfl, lk, hcd, hD, hK⟩ := F.ex
  rcases hD with ⟨e, _⟩ | ⟨_, T, o, its, m, rfl, lT, oT, rT⟩
  · exact absurd e hd
  · refine ⟨its, ⟨fun s us ws X l1 l2 => ?_, fun r1 r2 => hrel r1 rT r2⟩⟩
    obtain ⟨k, e1, e2⟩ := h T kV doc pm an cdv ct us its ws l1 rT.length.symm l2
    refine BindsTo.of_looks fun M => ?_
    rw [e1]
    exact looks_items X lT oT (.of_pure e2)
end
section
variable {X : Cx} {wx : WT} {pos : Pos} {k n : Nat} {f : Addr} {fd : FuncData} {ps ks : List Str} {F : FF} {x : Str} {p : Pos} {e : Expr} {es : List Expr} {kws : List Keyword} {Fs Fk : FA} {dvs : List V} {dts : List T}
theorem PK.imp {t t' : TA} (h : PK X kws t) (i : ∀ σ H Q, t' σ H Q → t σ H Q) : PK X kws t' := ⟨fun pos pins s σ H Q I q => h.run pos pins s σ H Q I (i σ H Q q)⟩
end
abbrev shF {α : Type} (a _d _z : List α) : List α := a
abbrev shO {α : Type} (a d _z : List α) : List α := a ++ d
abbrev shK {α : Type} (a _d z : List α) : List α := a ++ z
inductive DV (K : PySem.W.Frag) : T → V → Value → Prop where
  | non : DV K .non .non .none
  | bl (b : Bool) : DV K (.bl b) (.bl b) (.bool b)
  | tup0 {a : Addr} {od : Option Addr} {n : Nat} {osl : Array (Option Value)} (l : K.lookup a = some ⟨.type "tuple", od, .seq #[] n, osl⟩) : DV K (.tup []) (.ref a) (.ref a)
theorem DV.rel {K : PySem.W.Frag} {t : T} {v : V} {u : Value} (d : DV K t v u) (H : Hp) (μ : Mu) : Rels K H μ [t] [v] := by
  simp only [Rels]
  refine ⟨v, [], rfl, ?_, rfl⟩
  cases d with
  | non => simp only [Rel]
  | bl b => simp only [Rel]
  | tup0 l =>
    simp only [Rel]
    exact ⟨_, [], rfl, .inr ⟨_, #[], _, l, rfl, rfl, Nat.zero_le _, .nil⟩, by simp only [Rels]⟩
theorem DV.val {K : PySem.W.Frag} {t : T} {v : V} {u : Value} (d : DV K t v u) : Vals [v] [u] := by
  refine .cons ?_ .nil
  cases d <;> rfl
def FnInD (K : PySem.W.Frag) (x : Str) (st : Stmt) (t : T) : Prop :=
  ∃ (f T : Addr) (oc kV doc pm cdv ct oc2 u : Value) (od an od2 : Option Addr) (osl osl2 : Array (Option Value)) (n : Nat) (v : V), PySem.W.nsIn K mainGlobals x = some (some (.ref f)) ∧
    K.lookup f = some ⟨oc, od, .func (PySem.W.fnOf x x (defArgs st) (defBody st) (defScope st) (.ref T) kV doc pm an cdv ct), osl⟩ ∧ PySem.W.codeIn K cdv x = true ∧ PySem.W.keepIn K (.ref f) = true ∧ K.lookup T = some ⟨oc2, od2, .seq #[u] n, osl2⟩ ∧ DV K t v u
structure GdD (K : PySem.W.Frag) (mg : Str → Option Value) (x : Str) (ps : List Str) (t : T) (v : V) (f : Addr) (fd : FuncData) : Prop where
  m : mg x = some (.ref f)
  kp : PySem.W.keepIn K (.ref f) = true
  dv : ∀ H μ, Rels K H μ [t] [v]
  sF : Sh K fd ps [v] ps.length [] shF
  sO : Sh K fd ps [v] (ps.length - 1) [] shO
  sK : Sh K fd ps [v] (ps.length - 1) [ps.getLastD ""] shK
section
variable {K : PySem.W.Frag} {x : Str} {st : Stmt} {h : Heap} {mg : Str → Option Value} {ps : List Str} {t : T}
def BdD (x : Str) (st : Stmt) (ps : List Str) (n : Nat) (ks : List Str) (g : List Value → List Value → List Value → List Value) : Prop :=
  ∀ (T : Addr) (kV doc pm : Value) (an : Option Addr) (cdv ct : Value) (us its ws : List Value), us.length = n → its.length = 1 → ws.length = ks.length →
      ∃ k, bindArgs (PySem.W.fnOf x x (defArgs st) (defBody st) (defScope st) (.ref T) kV doc pm an cdv ct) ⟨us, ks.zip ws⟩ = seqItems? (.ref T) >>= k ∧ k (some its.toArray) = pure (ps.zip (g us its ws))
theorem FnInD.gd (e : FnInD K x st t) (X : K.In h) (G : h.Ns mainGlobals mg) (b1 : BdD x st ps ps.length [] shF) (b2 : BdD x st ps (ps.length - 1) [] shO) (b3 : BdD x st ps (ps.length - 1) [ps.getLastD ""] shK) :
    ∃ f fd v, FunD K x x (defArgs st) (defBody st) (defScope st) [v] [] f fd ∧ GdD K mg x ps t v f fd := by
  obtain ⟨f, T, oc, kV, doc, pm, cdv, ct, oc2, u, od, an, od2, osl, osl2, n, v, a, l, c, k, lt, d⟩ := e
  have F : FunD K x x (defArgs st) (defBody st) (defScope st) [v] [] f (PySem.W.fnOf x x (defArgs st) (defBody st) (defScope st) (.ref T) kV doc pm an cdv ct) :=
    ⟨⟨oc, od, .ref T, kV, doc, pm, an, cdv, ct, osl, rfl, l, c, .inr ⟨by simp, T, _, [u], n, rfl, lt, rfl, d.val⟩, .inl rfl⟩, k⟩
  exact ⟨f, _, v, F, PySem.W.mg_of X G a, k, d.rel, sh_mk F _ [] shF (by simp) (fun r _ _ => r) b1, sh_mk F _ [] shO (by simp) (fun r r2 _ => r.append r2) b2, sh_mk F _ _ shK (by simp) (fun r _ r2 => r.append r2) b3⟩
end
section
variable {X : Cx} {wx : WT} {pos : Pos} {k n : Nat} {f : Addr} {fd : FuncData} {ps ks : List Str} {F : FF} {x : Str} {p : Pos} {e : Expr} {es : List Expr} {kws : List Keyword} {Fs Fk : FA} {v : V} {t : T}
end
end TL
set_option Elab.async false
set_option linter.all false
set_option maxRecDepth 100000
namespace TL
open PySem PySem.Spec L2
open PyProof.Rows hiding St
section
variable {X : Cx} {wx : WT} {pos p p2 pos2 : Pos} {e : Expr} {F : FE}
end
end TL
set_option Elab.async false
set_option linter.all false
set_option maxRecDepth 100000
namespace TL
open PySem PySem.Spec L2
open PyProof.Rows hiding St
def reprBT (S : Sto) (ts : List T) : Option T := match ts with
  | [.non] => some (.str "None")
  | [.int i] => if decide (0 ≤ i ∧ i ≤ 1000) then some (.str (toString i)) else none
  | [.bl b] => some (.str (if b then "True" else "False"))
  | ts => reprT S ts
variable {X : Cx}
theorem c_reprB (hgd : X.A.guards = some []) (hu : X.A.units + 64 < cLine) : CallR X (.builtin "repr") (rN X.K reprBT) := by
  intro pins s σ H xs us Q I rv q
  obtain ⟨μ, S, ts, t, st, r, e, q⟩ := q
  unfold reprBT at e
  split at e
  · cases e
    obtain ⟨v, rfl, rr⟩ := rels1 r
    have ev' : v = .non := rr
    subst ev'
    obtain ⟨u, rfl, rx⟩ := vals1 rv
    obtain rfl : u = Value.none := rx
    exact PySem.P.repr_of_none ⟨.str "None", H, I.tok _, ⟨_, rfl⟩, q _ H (Same.refl _) (by simp only [Rel])⟩
  · rename_i i
    split at e
    · rename_i hz
      simp only [decide_eq_true_eq] at hz
      cases e
      obtain ⟨v, rfl, rr⟩ := rels1 r
      have ev' : v = .int i := rr
      subst ev'
      obtain ⟨u, rfl, rx⟩ := vals1 rv
      obtain ⟨t, rfl⟩ : ∃ t, u = Value.int i t := rx
      have hl : i.natAbs.log2 < 1920 := Nat.lt_of_le_of_lt (Nat.log2_le_self _) (by omega)
      exact PySem.P.repr_of_int hl ⟨.str (toString i), H, I.tok _, ⟨_, rfl⟩, q _ H (Same.refl _) (by simp only [Rel])⟩
    · cases e
  · rename_i b
    cases e
    obtain ⟨v, rfl, rr⟩ := rels1 r
    have ev' : v = .bl b := rr
    subst ev'
    obtain ⟨u, rfl, rx⟩ := vals1 rv
    obtain rfl : u = Value.bool b := rx
    exact PySem.P.repr_of_bool ⟨.str (if b then "True" else "False"), H, I.tok _, ⟨_, by cases b <;> rfl⟩, q _ H (Same.refl _) (by simp only [Rel])⟩
  · exact c_repr hgd hu pins s σ H xs us Q I rv ⟨μ, S, _, t, st, r, e, q⟩
end TL
set_option Elab.async false
set_option linter.all false
set_option maxRecDepth 100000
namespace TL
open PySem PySem.Spec L2
open PyProof.Rows hiding St
variable {X : Cx} {wx : WT} {pos : Pos} {K : PySem.W.Frag}
theorem Rels.dropLast {H : Hp} {μ : Mu} {ts : List T} {vs : List V} (r : Rels K H μ ts vs) : Rels K H μ ts.dropLast vs.dropLast := by
  rw [List.dropLast_eq_take, List.dropLast_eq_take, ← r.length]
  exact r.take _
end TL
set_option Elab.async false
set_option linter.all false
set_option maxRecDepth 100000
namespace TL
open PySem PySem.Spec L2
open PyProof.Rows hiding St
section
variable {X : Cx} {K : PySem.W.Frag} {H : Hp} {μ : Mu} {S : Sto}
end
end TL
set_option Elab.async false
set_option linter.all false
set_option maxRecDepth 100000
namespace HTR
open PySem PySem.W PySem.Calls PyProof.Rows PyProof.V PySem.Spec HT
section
variable {prog : Program} {w : World} {A : Around} {E : Value → Shared → Prop} {s : Shared}
theorem adjust_back (n : Nat) : Builtin.Slice.sliceAdjust none none (-1) (n : Int) = ((n : Int) - 1, -1) := by
  unfold Builtin.Slice.sliceAdjust
  simp
theorem places_back (n : Nat) : Builtin.Slice.slicePlaces ((n : Int) - 1) (-1) (-1) = n := by
  unfold Builtin.Slice.slicePlaces
  simp only [show ¬ ((-1 : Int) > 0) by decide, if_false, Int.neg_neg, Int.ediv_one]
  split <;> omega
theorem sliceApplied_back {sl : Addr} {vk : Value} {n : Nat} {Q : Int × Int × Nat → Shared → Prop} (hs : s.heap.IsSliceOf sl .none .none vk) (pk : IsPart vk (some (-1)))
    (h : Q ((n : Int) - 1, -1, n) s) : wpAny (model prog w) A (Builtin.Slice.sliceApplied (.ref sl) (pure (n : Int))) Q E s := by
  obtain ⟨os, hos, hcs, hds⟩ := id hs
  unfold Builtin.Slice.sliceApplied Builtin.Slice.sliceFields
  refine wpAny_bind (wpAny_bind (wpAny_field hos hds (x := .none) rfl (wpAny_bind (wpAny_field hos hds (x := .none) rfl (wpAny_bind (wpAny_field hos hds (x := vk) rfl (wpAny_pure ?_)))))))
  refine wpAny_bind (slicePart_ pk ?_)
  show wpAny _ _ (if ((-1 : Int) == 0) = true then _ else _) _ _ s
  rw [if_neg (by decide)]
  refine wpAny_bind (slicePart_none (wpAny_bind (slicePart_none (wpAny_bind (wpAny_pure ?_)))))
  show wpAny _ _ (match Builtin.Slice.sliceAdjust none none (-1) (n : Int) with | (lo, hi) => pure (lo, (-1 : Int), Builtin.Slice.slicePlaces lo hi (-1))) _ _ s
  rw [adjust_back n]
  show wpAny _ _ (pure ((n : Int) - 1, (-1 : Int), Builtin.Slice.slicePlaces ((n : Int) - 1) (-1) (-1))) _ _ s
  rw [places_back]
  exact wpAny_pure h
theorem fm_congr {α β : Type} {f g : α → Option β} : ∀ {l : List α}, (∀ x ∈ l, f x = g x) → l.filterMap f = l.filterMap g
  | [], _ => rfl
  | x :: l, h => by
    rw [List.filterMap_cons, List.filterMap_cons, h x List.mem_cons_self, fm_congr fun y hy => h y (List.mem_cons_of_mem _ hy)]
theorem pick_back (xs : Array Value) : ((List.range xs.size).filterMap fun (m : Nat) => xs[((xs.size : Int) - 1 + (m : Int) * (-1)).toNat]?).toArray = xs.toList.reverse.toArray := by
  have e : ∀ m ∈ List.range xs.size, xs[((xs.size : Int) - 1 + (m : Int) * (-1)).toNat]? = (fun k => xs[k]?) (xs.size - 1 - m) := fun m hm => by
    have hm := List.mem_range.mp hm
    have : ((xs.size : Int) - 1 + (m : Int) * (-1)).toNat = xs.size - 1 - m := by omega
    rw [this]
  have e2 : ((List.range xs.size).filterMap fun (m : Nat) => xs[((xs.size : Int) - 1 + (m : Int) * (-1)).toNat]?) = ((List.range xs.size).map fun m => xs.size - 1 - m).filterMap (xs[·]?) := by
    rw [List.filterMap_map]
    exact fm_congr e
  rw [e2, krv_range, List.filterMap_reverse, krv_all]
theorem getItem_tuple_back {t sl : Addr} {items : Array Value} {vk : Value} {Q : Value → Shared → Prop} (ht : IsTup s.heap t items) (hs : s.heap.IsSliceOf sl .none .none vk) (pk : IsPart vk (some (-1)))
    (h : Q (.ref s.heap.objs.size) { s with heap := s.heap.push { cls := .type "tuple", data := .seq items.toList.reverse.toArray } })
    (hsz : items.size ≤ sizeLine) : wpAny (model prog w) A (getItem (.ref t) (.ref sl)) Q E s := by
  have htake : sizeOk (.seq items.toList.reverse.toArray) := by
    show items.toList.reverse.toArray.size ≤ sizeLine
    rw [List.size_toArray, List.length_reverse, Array.length_toList]
    exact hsz
  obtain ⟨os, hos, hcs, hds⟩ := id hs
  have hTs : s.TypeIs (.ref sl) "slice" := ⟨os, hos, hcs⟩
  unfold getItem
  try with_reducible refine wpAny_holding ?_
  first | refine wpAny_bind (wpAny_pure ?_) | skip
  refine wpAny_bind (wpAny_sequenceKey ht.typeIs (by decide) ?_)
  refine wpAny_bind (wpAny_callSpecial?_slot (name := Str.ofString "__getitem__") ht.typeIs PyProof.Rows.slot_tuple_getitem
    (wpAny_call_entry PyProof.Rows.slot_tuple_getitem ht.typeIs entry_tuple_getitem ?_ (args_tuple_getitem _ _)))
  show wpAny _ _ (Builtin.Tuple.tupleItemsOf (.ref t) >>= _) _ _ s
  refine wpAny_bind (tupleItemsOf_ ht ?_)
  refine wpAny_bind (wpAny_typeOf hTs ?_)
  rw [if_pos (by decide)]
  refine wpAny_bind (sliceApplied_back hs pk ?_)
  have hno : ¬ ((((items.size : Int) - 1) == 0 && (-1 : Int) == 1 && items.size == items.size) = true) := by
    intro q
    rw [Bool.and_eq_true, Bool.and_eq_true] at q
    exact absurd q.1.2 (by decide)
  show wpAny _ _ (if (((items.size : Int) - 1) == 0 && (-1 : Int) == 1 && items.size == items.size) = true then _ else _) _ _ s
  rw [if_neg hno, pick_back]
  first
    | exact wpAny_bind (m := Builtin.Tuple.tupleExact _) (wpAny_newObj_type (wpAny_pure ⟨_, rfl, wpAny_pure h⟩) htake)
    | exact wpAny_bind (m := Builtin.Tuple.tupleExact _) (wpAny_newObj_type (wpAny_bind (wpAny_pure (wpAny_pure ⟨_, rfl, wpAny_pure h⟩))) htake)
    | exact wpAny_bind (wpAny_bind (m := Builtin.Tuple.tupleExact _) (wpAny_newObj_type (wpAny_pure (wpAny_pure ⟨_, rfl, wpAny_pure h⟩)) htake))
    | exact wpAny_bind (wpAny_bind (m := Builtin.Tuple.tupleExact _) (wpAny_newObj_type (wpAny_pure ⟨_, rfl, wpAny_pure h⟩) htake))
end
end HTR
namespace TL
open PySem PySem.Spec L2
open PyProof.Rows hiding St
section
variable {X : Cx} {wx : WT} {pos p2 : Pos} {K : PySem.W.Frag} {H : Hp} {μ : Mu}
theorem Vals.reverse {xs : List V} {us : List Value} (r : Vals xs us) : Vals xs.reverse us.reverse := by
  unfold Vals at r ⊢
  induction r with
  | nil => exact .nil
  | cons h t ih =>
    rw [List.reverse_cons, List.reverse_cons]
    exact L2.Vals.append ih (.cons h .nil)
theorem Rels.reverse : ∀ {ts : List T} {vs : List V}, Rels K H μ ts vs → Rels K H μ ts.reverse vs.reverse
  | [], _, r => by simp only [Rels] at r; subst r; simp only [List.reverse_nil, Rels]
  | t :: ts, _, r => by
    simp only [Rels] at r
    obtain ⟨v, r', rfl, h1, h2⟩ := r
    rw [List.reverse_cons, List.reverse_cons]
    exact Rels.append (Rels.reverse h2) (by simp only [Rels]; exact ⟨v, [], rfl, h1, rfl⟩)
def revT (S : Sto) (x : T) : Option T := match x with
  | .tup ts => some (.tup ts.reverse)
  | x => (seqL S x).map fun ts => .lst ts.reverse
def fRev (F Fk : FE) : FE := fun τ S => (F τ S).bind fun x S1 => (Fk τ S1).bind fun k S2 => match k with
  | .int i => if i = -1 then ofO (revT S2 x) S2 else .stuck
  | _ => .stuck
def rRev (K : PySem.W.Frag) : V → Hp → VK → Prop := fun x H Q => ∃ a xs, x = .ref a ∧ ((SqT K H a xs ∧ ∀ p, H p = none → Q (.ref p) (upd H p (.tup xs.reverse))) ∨ (SqL K H a xs ∧ ∀ p, H p = none → Q (.ref p) (upd H p (.lst xs.reverse))))
def tRev (K : PySem.W.Frag) (te tk : TE) : TE := fun σ H Q => te σ H fun x H1 => tk σ H1 fun k H2 => k = .int (-1) ∧ rRev K x H2 Q
theorem pe_rev {a k : Expr} {te tk : TE} (he : PE X a te) (hk : PE X k tk) (hsub : ∀ (v : Value) (b : Addr), ∃ ops, subscripted (.Slice none none (some k) p2) false v (.ref b) = operate ops (getItem v (.ref b))) : PE X (.Subscript a (.Slice none none (some k) p2) pos) (tRev X.K te tk) := by
  refine ⟨fun pins s σ H Q I h => ?_⟩
  refine Subscript_ (thn (he.run pins s σ H _ I h) fun v s1 ⟨x, H1, I1, r1, q1⟩ => ?_)
  refine wpAny_Slice ?_
  rw [evalPart_none]
  refine wpAny_pure ?_
  refine wpAny_pure ?_
  rw [evalPart_some]
  refine thn (hk.run pins s1 σ H1 _ I1 q1) fun vk s3 ⟨y, H3, I3, rk, ek, q3⟩ => ?_
  subst ek
  obtain ⟨tk, rfl⟩ : ∃ t, vk = Value.int (-1) t := rk
  have pk : IsPart (Value.int (-1) tk) (some (-1)) := IsPart.int _ _
  have I4 : Inv X pins σ H3 { s3 with heap := s3.heap.push { cls := .type "slice", data := .fields #[.none, .none, .int (-1) tk] } } := I3.kept (t' := s3.toks) fun b ob q => Heap.get?_push_of_some _ q
  have hs : ({ s3 with heap := s3.heap.push { cls := .type "slice", data := .fields #[.none, .none, .int (-1) tk] } } : Shared).heap.IsSliceOf s3.heap.objs.size .none .none (.int (-1) tk) := Heap.IsSliceOf.new ..
  obtain ⟨a0, xs, rfl, q3⟩ := q3
  cases r1
  obtain ⟨ops, hops⟩ := hsub (.ref a0) s3.heap.objs.size
  rcases q3 with ⟨hx, q3⟩ | ⟨hx, q3⟩
  · obtain ⟨its, r, ht, hz⟩ := I4.tuple hx
    show wpAny (model X.prog X.w) X.A (subscriptTail a (.Slice none none (some k) p2) (.ref a0) (.ref s3.heap.objs.size)) (EP X pins σ Q) X.xe _
    refine tail_any (ops := ops) ht.typeIs PyProof.Rows.slot_tuple_getitem.lookup (HTR.getItem_tuple_back ht hs pk ?_ (by rw [List.size_toArray, ← r.length]; exact hz)) hops
    refine ⟨.ref _, _, I4.laid (t' := s3.toks) (o := .tup xs.reverse) (fun b ob q => Heap.get?_push_of_some _ q) (Nat.le_refl _) ?_, rfl, q3 _ (I4.hok.fresh (Nat.le_refl _))⟩
    exact ⟨by rw [List.length_reverse]; exact hz, _, Vals.reverse r, IsTup.new _ _⟩
  · obtain ⟨its, r, ht, hz⟩ := I4.list hx
    show wpAny (model X.prog X.w) X.A (subscriptTail a (.Slice none none (some k) p2) (.ref a0) (.ref s3.heap.objs.size)) (EP X pins σ Q) X.xe _
    refine tail_any (ops := ops) ht.isList.typeIs slot_list_getitem.lookup (wpAny_getItem_list_slice ht.isList hs .none .none pk (by decide) ?_ (by rw [List.size_toArray, ← r.length]; exact hz)) hops
    rw [PySem.W.krv_pick]
    refine ⟨.ref _, _, I4.laid (t' := s3.toks) (o := .lst xs.reverse) (fun b ob q => Heap.get?_push_of_some _ q) (Nat.le_refl _) ?_, rfl, q3 _ (I4.hok.fresh (Nat.le_refl _))⟩
    exact ⟨by rw [List.length_reverse]; exact hz, _, 0, Vals.reverse r, Heap.get?_push_size _ rfl⟩
theorem pf_rev {a k : Expr} {Fa Fk : FE} (ha : PF X wx a Fa) (hk : PF X wx k Fk) (hsub : ∀ (v : Value) (b : Addr), ∃ ops, subscripted (.Slice none none (some k) p2) false v (.ref b) = operate ops (getItem v (.ref b)) := by intro _ _; exact ⟨_, by with_unfolding_all rfl⟩) : PF X wx (.Subscript a (.Slice none none (some k) p2) pos) (fRev Fa Fk) := PE.imp (pe_rev ha hk hsub) fun σ H Q h => by
  obtain ⟨μ, τ, S, s, f, h⟩ := h
  refine tG.seq s f h fun μ1 H1 x v S1 A1 h1 => tG.seq A1.st A1.fr h1 fun μ2 H2 y u S2 A2 h2 => ?_
  cases y with
  | int i =>
    simp only at h2
    split at h2
    · rename_i hi
      subst hi
      have r2 := A2.rel
      simp only [Rel] at r2
      obtain ⟨t, e, q⟩ := post_ofO h2 A2.st
      have r1 := Rel.mono A2.ext x A1.rel
      refine ⟨r2, ?_⟩
      unfold revT at e
      split at e
      · cases e
        obtain ⟨b, vs, rfl, hb, r⟩ := tup_ok r1
        exact ⟨b, vs, rfl, .inl ⟨hb, fun p hp => q _ _ (fresh_same hp) (rel_tup A2.st hp (Rels.reverse r))⟩⟩
      · simp only [Option.map_eq_some_iff] at e
        obtain ⟨ts, h, rfl⟩ := e
        obtain ⟨b, vs, rfl, hb, r⟩ := seqL_ok h A2.st r1
        exact ⟨b, vs, rfl, .inr ⟨hb, fun p hp => q _ _ (fresh_same hp) (rel_lst A2.st hp (Rels.reverse r))⟩⟩
    · exact h2.elim
  | _ => exact h2.elim
end
end TL
set_option Elab.async false
set_option linter.all false
set_option maxRecDepth 100000
namespace TL
open PySem PySem.Spec L2
open PyProof.Rows hiding St
section
variable {X : Cx} {wx : WT} {pos : Pos} {a b : Expr} {Fa Fb : FE}
end
end TL
set_option Elab.async false
set_option linter.all false
set_option maxRecDepth 100000
set_option maxHeartbeats 2000000
namespace TL
open PySem PySem.Spec L2
open PyProof.Rows hiding St
section
variable {X : Cx} {wx : WT}
end
def IsK (h : Heap) (v : Value) (k : Str) : Prop := ∃ a t x, v = .ref a ∧ h.get? a = some { cls := .type "tuple", data := .seq #[.str k t, x] }
def kAt (h : Heap) (v : Value) : Str := match v with
  | .ref a => match h.get? a with
    | some o => match o.data with
      | .seq its _ => strOf (its.toList.headD .none)
      | _ => ⟨#[]⟩
    | none => ⟨#[]⟩
  | _ => ⟨#[]⟩
theorem IsK.at {h : Heap} {v : Value} {k : Str} (r : IsK h v k) : kAt h v = k := by
  obtain ⟨a, t, x, rfl, ho⟩ := r
  simp only [kAt, ho]
  rfl
theorem IsK.keeps {h h' : Heap} {v : Value} {k : Str} (r : IsK h v k) (q : ∀ b o, h.get? b = some o → o.cls = .type "tuple" → h'.get? b = some o) : IsK h' v k := by
  obtain ⟨a, t, x, rfl, ho⟩ := r
  exact ⟨a, t, x, rfl, q _ _ ho rfl⟩
section
variable {prog : Program} {w : World} {A : Around} {E : Value → Shared → Prop} {s : Shared}
end
section
variable {X : Cx} {wx : WT} {pos : Pos}
end
end TL
set_option Elab.async false
set_option linter.all false
set_option maxRecDepth 100000
set_option maxHeartbeats 2000000
namespace TL
open PySem PySem.Spec L2
open PyProof.Rows hiding St
section
variable {P : Program} {w : World} {A : Around} {R : Result → Shared → Prop} {s : Shared} {y a i b j : Expr} {ca cb : List Expr} {sc : Scope} {p : Pos} {it D : Value} {ev0 : Env}
end
open PySem.Froz (SD sObj TxOk addTx tailTx)
section
variable {X : Cx}
end
section
variable {X : Cx} {wx : WT} {tg a : Expr} {Fa : FE}
end
section
variable {X : Cx} {wx : WT} {pos : Pos}
end
end TL
set_option Elab.async false
set_option linter.all false
set_option maxRecDepth 100000
set_option maxHeartbeats 2000000
namespace TL
open PySem PySem.Spec L2
open PyProof.Rows hiding St
end TL
set_option Elab.async false
set_option linter.all false
set_option maxRecDepth 100000
set_option maxHeartbeats 2000000
namespace TL
open PySem PySem.Spec L2
open PyProof.Rows hiding St
section
variable {K : PySem.W.Frag} {H : Hp} {μ : Mu}
end
end TL
set_option Elab.async false
set_option linter.all false
set_option maxRecDepth 100000
set_option maxHeartbeats 2000000
namespace TL
open PySem PySem.Spec L2
open PyProof.Rows hiding St
def keysT : List T → Option (List Key)
  | [] => some []
  | t :: ts => (keyT t).bind fun k => (keysT ts).map fun r => k :: r
def flatKey (x : T) : Option (List Key) := (tupL x).bind keysT
section
variable {K : PySem.W.Frag} {H : Hp} {μ : Mu} {S : Sto}
theorem keysT_ok : ∀ {ts : List T} {ks : List Key} {vs : List V}, keysT ts = some ks → Rels K H μ ts vs → vs = ks.map kV
  | [], _, _, e, r => by
    simp only [keysT] at e; cases e
    simp only [Rels] at r; subst r; rfl
  | t :: ts, _, _, e, r => by
    simp only [keysT, Option.bind_eq_some_iff, Option.map_eq_some_iff] at e
    obtain ⟨k, hk, ks, h2, rfl⟩ := e
    simp only [Rels] at r
    obtain ⟨u, r', rfl, r1, r2⟩ := r
    rw [keyT_ok hk r1, keysT_ok h2 r2]
    rfl
theorem flatKey_ok {x : T} {v : V} {k : List Key} (e : flatKey x = some k) (r : Rel K H μ x v) : ∃ b, v = .ref b ∧ SqT K H b (k.map kV) := by
  simp only [flatKey, Option.bind_eq_some_iff] at e
  obtain ⟨ts, e1, e2⟩ := e
  obtain ⟨a, vs, rfl, h, q⟩ := tupL_ok e1 r
  rw [keysT_ok e2 q] at h
  exact ⟨a, rfl, h⟩
end
section
variable {X : Cx}
theorem key_sq {pins : List (Addr × Obj)} {σ : L2.St} {H : Hp} {s : Shared} (I : L2.Inv X pins σ H s) {b : Addr} {k : List Key} (h : SqT X.K H b (k.map kV)) : (tupleKind (mixKind X.prog X.w)).is s.heap k b := by
  obtain ⟨its, rv, ⟨o, h1, h2, n, h3⟩, _⟩ := I.tuple h
  exact ⟨o, its.toArray, n, h1, h2, h3, by simpa using items_are rv⟩
def fTupE (Fs : FA) : FE := fun τ S => (Fs τ S).bind fun ts S1 => if ts.length ≤ sizeLine then .ok (.etp ts) S1 else .stuck
theorem pf_tupE {wx : WT} {es : List Expr} {Fs : FA} {pos : Pos} {k} (h : PFA X wx es Fs) : PF X wx (.Tuple es k pos) (fTupE Fs) := PE.imp (pe_tup h) fun σ H Q h => by
  obtain ⟨μ, τ, S, s, f, h⟩ := h
  refine tG.seq s f h fun μ1 H1 x v S1 A1 h1 => ?_
  have r := A1.rel
  by_cases hl : x.length ≤ sizeLine
  · rw [if_pos hl] at h1
    refine ⟨by rw [← Rels.length r]; exact hl, fun p hp => h1 μ1 _ _ (Ext.of_same (fresh_same hp)) (A1.st.same (fresh_same hp)) ?_⟩
    simp only [Rel]
    exact ⟨p, v, rfl, Fx.new A1.st hp, Rels.mono (Ext.of_same (fresh_same hp)) x r⟩
  · rw [if_neg hl] at h1; exact h1.elim
end
end TL
set_option Elab.async false
set_option linter.all false
set_option maxRecDepth 100000
set_option maxHeartbeats 2000000
namespace TL
open PySem PySem.Spec L2
open PyProof.Rows hiding St
section
variable {prog : Program} {w : World} {A : Around} {E : Value → Shared → Prop} {s : Shared}
end
def ok0 : List (List Str) → Bool
  | [] :: _ => true
  | ls => okRows ls
section
variable {X : Cx} {wx : WT} {a b : Expr} {Fa Fb : FE} {pos : Pos}
end
section
variable {X : Cx} {wx : WT} {K : PySem.W.Frag} {H : Hp} {μ : Mu}
end
end TL
set_option Elab.async false
set_option linter.all false
set_option maxRecDepth 100000
set_option maxHeartbeats 2000000
namespace TL
open PySem PySem.Spec L2
open PyProof.Rows hiding St
section
variable {prog : Program} {w : World} {A : Around} {E : Value → Shared → Prop} {s : Shared}
end
end TL
set_option Elab.async false
set_option linter.all false
set_option maxRecDepth 100000
set_option maxHeartbeats 2000000
namespace TL
open PySem PySem.Spec L2
open PyProof.Rows hiding St
section
variable {X : Cx} {wx : WT} {a : Expr} {Fa : FE} {pos : Pos}
end
end TL
set_option Elab.async false
set_option linter.all false
set_option maxRecDepth 100000
namespace TL
open PySem PySem.Spec L2
open PyProof.Rows hiding St
def kdcL (S : Sto) : T → Option (List (List Key) × List T)
  | .kdc ks ts => some (ks, ts)
  | .ref n => match S[n]? with
    | some (.kdc ks ts) => some (ks, ts)
    | _ => none
  | _ => none
section
variable {K : PySem.W.Frag} {H : Hp} {μ : Mu} {S : Sto}
theorem kdcL_ok {t : T} {v : V} {ks : List (List Key)} {ts : List T} (e : kdcL S t = some (ks, ts)) (s : RelS K H μ S) (r : Rel K H μ t v) : ∃ a kvs, v = .ref a ∧ H a = some (.dT kvs) ∧ kvs.map (·.1) = ks ∧ Rels K H μ ts (kvs.map (·.2)) := by
  unfold kdcL at e
  split at e
  · cases e
    simp only [Rel] at r
    obtain ⟨a, xs, rfl, o, e, r⟩ := r
    exact ⟨a, xs, rfl, o.1, e, r⟩
  · split at e
    · rename_i n ks' ts' e'
      cases e
      simp only [Rel] at r
      obtain ⟨a, ha, rfl⟩ := r
      obtain ⟨b, hb, q⟩ := cell_at s e'
      rw [ha] at hb
      cases hb
      obtain ⟨vs, h, e, q⟩ := q
      exact ⟨a, vs, rfl, h, e, q⟩
    · cases e
  · cases e
end
def putKK (ks : List (List Key)) (ts : List T) (k : List Key) (t : T) : List (List Key) × List T :=
  if ks.any (fun a => decide (a = k)) then (ks, List.zipWith (fun a u => if a = k then t else u) ks ts) else (ks ++ [k], ts ++ [t])
theorem putKK_ok {K : PySem.W.Frag} {H : Hp} {μ : Mu} {k : List Key} {t : T} {v : V} (rv : Rel K H μ t v) : ∀ {kvs : List (List Key × V)} {ks : List (List Key)} {ts : List T}, kvs.map (·.1) = ks → Rels K H μ ts (kvs.map (·.2)) →
    (putK kvs k v).map (·.1) = (putKK ks ts k t).1 ∧ Rels K H μ (putKK ks ts k t).2 ((putK kvs k v).map (·.2)) := by
  intro kvs ks ts ek rk
  have ea : (kvs.any fun kv => decide (kv.1 = k)) = ks.any fun a => decide (a = k) := by rw [← ek, List.any_map]; rfl
  unfold putK putKK
  rw [ea]
  by_cases h : (ks.any fun a => decide (a = k)) = true
  · rw [if_pos h, if_pos h]
    clear h ea
    refine ⟨?_, ?_⟩
    · rw [← ek, List.map_map]
      refine List.map_congr_left fun x _ => ?_
      show (if x.1 = k then (x.1, v) else x).1 = x.1
      split <;> rfl
    · show Rels K H μ (List.zipWith (fun a u => if a = k then t else u) ks ts) _
      induction kvs generalizing ks ts with
      | nil =>
        simp only [List.map_nil] at ek ⊢
        subst ek
        simp only [List.zipWith_nil_left, Rels]
      | cons p r ih =>
        rw [List.map_cons] at ek rk
        subst ek
        cases ts with
        | nil => simp only [Rels] at rk; cases rk
        | cons u us =>
          simp only [Rels] at rk
          obtain ⟨w, r', e, r1, r2⟩ := rk
          cases e
          rw [List.zipWith_cons_cons, List.map_cons, List.map_cons]
          simp only [Rels]
          refine ⟨_, _, rfl, ?_, ih rfl r2⟩
          by_cases e : p.1 = k
          · rw [if_pos e, if_pos e]; exact rv
          · rw [if_neg e, if_neg e]; exact r1
  · rw [if_neg h, if_neg h]
    refine ⟨by rw [List.map_append, ek]; rfl, ?_⟩
    rw [List.map_append]
    exact Rels.append rk (by simp only [List.map_cons, List.map_nil, Rels]; exact ⟨_, _, rfl, rv, rfl⟩)
section
variable {X : Cx} {wx : WT} {pos : Pos}
theorem pfn_kdc0 : PFN X wx (.Dict [] [] pos) (fun _ S => .ok (.kdc [] []) S) := PE.imp pe_dnewT fun σ H Q q => by
  obtain ⟨μ, τ, S, s, f, h⟩ := q
  exact fun p hp => new_at (Ext.refl _ _) h s hp ⟨[], upd_same, rfl, by simp only [List.map_nil, Rels]⟩
def inCB (S : Sto) (x y : T) : Option Bool := match kdcL S y with
  | some (ks, _) => (flatKey x).map fun k => ks.any fun a => decide (a = k)
  | none => none
def inCT (S : Sto) (x y : T) : Option T := (inCB S x y).map .bl
def ninCT (S : Sto) (x y : T) : Option T := (inCB S x y).map fun b => .bl !b
theorem inCB_ok {H : Hp} {μ : Mu} {S : Sto} {x y : T} {v u : V} {b : Bool} (e : inCB S x y = some b) (s : RelS X.K H μ S) (r1 : Rel X.K H μ x v) (r2 : Rel X.K H μ y u) : ∃ k p a kvs, v = .ref p ∧ u = .ref a ∧ SqT X.K H p (k.map kV) ∧ H a = some (.dT kvs) ∧ b = (valV kvs k).isSome := by
  unfold inCB at e
  split at e
  · rename_i ks ts h
    simp only [Option.map_eq_some_iff] at e
    obtain ⟨k, hk, rfl⟩ := e
    obtain ⟨p, rfl, hp⟩ := flatKey_ok hk r1
    obtain ⟨a, kvs, rfl, hd, ek, _⟩ := kdcL_ok h s r2
    refine ⟨k, p, a, kvs, rfl, rfl, hp, hd, ?_⟩
    rw [← valV_any, ← ek, List.any_map]
    rfl
  · cases e
theorem o_inC (hu : X.A.units + 64 < cLine) : OpR X (compareOp .In) (rP X.K inCT) := by
  intro pins s σ H x y v u Q I rx ry q
  obtain ⟨μ, S, tx, ty, t, st, r1, r2, e, q⟩ := q
  simp only [inCT, Option.map_eq_some_iff] at e
  obtain ⟨b, e, rfl⟩ := e
  obtain ⟨k, p, a, kvs, rfl, rfl, hp, hd, rfl⟩ := inCB_ok e st r1 r2
  cases rx
  cases ry
  obtain ⟨z, hs, xs, rel, dd⟩ := dt_rd I.hok (.inl hd)
  refine wpAny_in_heap (tupleKind_room_in1 (by omega)) (key_sq I hp) hs dd ?_
  have w := (rel.val k).isSome_eq
  rw [Option.isSome_map] at w
  rw [← w]
  exact ⟨.bl (valV kvs k).isSome, H, I.tok _, rfl, q _ H (Same.refl _) rel_bl⟩
theorem o_ninC (hu : X.A.units + 64 < cLine) : OpR X (compareOp .NotIn) (rP X.K ninCT) := by
  intro pins s σ H x y v u Q I rx ry q
  obtain ⟨μ, S, tx, ty, t, st, r1, r2, e, q⟩ := q
  simp only [ninCT, Option.map_eq_some_iff] at e
  obtain ⟨b, e, rfl⟩ := e
  obtain ⟨k, p, a, kvs, rfl, rfl, hp, hd, rfl⟩ := inCB_ok e st r1 r2
  cases rx
  cases ry
  obtain ⟨z, hs, xs, rel, dd⟩ := dt_rd I.hok (.inl hd)
  refine wpAny_notIn_heap (tupleKind_room_in1 (by omega)) (key_sq I hp) hs dd ?_
  have w := (rel.val k).isSome_eq
  rw [Option.isSome_map] at w
  rw [← w]
  exact ⟨.bl !(valV kvs k).isSome, H, I.tok _, rfl, q _ H (Same.refl _) rel_bl⟩
def setCT (S : Sto) (o i v : T) : Option Sto := match o, i with
  | .ref n, .etp us => match S[n]? with
    | some (.kdc ks ts) => (keysT us).bind fun k => if ks.length < sizeLine then some (S.set n (.kdc (putKK ks ts k v).1 (putKK ks ts k v).2)) else none
    | _ => none
  | _, _ => none
def rSetC (K : PySem.W.Frag) : TSet := fun o i v H Q => ∃ μ S to ti tv S', RelS K H μ S ∧ Rel K H μ to o ∧ Rel K H μ ti i ∧ Rel K H μ tv v ∧ setCT S to ti tv = some S' ∧ ∀ H', Ext H μ H' μ → RelS K H' μ S' → Q H'
theorem o_setC (hu : X.A.units + 64 < cLine) : PSet X (rSetC X.K) := by
  intro pins s σ H o i v ov iv u Q I ro ri rv q
  obtain ⟨μ, S, to, ti, tv, S', st, r1, r2, r3, e, q⟩ := q
  unfold setCT at e
  split at e
  · rename_i n us
    split at e
    · rename_i ks ts e1
      simp only [Option.bind_eq_some_iff] at e
      obtain ⟨k, hk, e⟩ := e
      split at e
      · rename_i hz
        cases e
        simp only [Rel] at r1 r2
        obtain ⟨b, xs, rfl, hb, rb⟩ := r2
        have ex := keysT_ok hk rb
        subst ex
        obtain ⟨a, ha, rfl⟩ := r1
        obtain ⟨a', ha', kvs, hl, ek, rk⟩ := cell_at st e1
        rw [ha] at ha'
        cases ha'
        cases ro
        obtain ⟨z1, z2⟩ := putKK_ok (k := k) r3 ek rk
        refine d_setItem (by omega) I (DPut.t hl hb.1 (by rw [← ek, List.length_map] at hz; exact hz)) ri rv fun s' I' => ⟨_, I', q _ (Ext.setc ha) (st.setc ha ⟨_, upd_same, z1, rels_setc ha z2⟩)⟩
      · cases e
    · cases e
  · cases e
def bStoreC (Fo Fi Fv : FE) : BS := fun τ S => (Fv τ S).bindS τ fun v S1 => (Fo τ S1).bindS τ fun o S2 => (Fi τ S2).bindS τ fun i S3 => match setCT S3 o i v with
  | some S4 => .nx τ S4
  | none => .stuck
theorem pfs_storeC {o i e : Expr} {Fo Fi Fv : FE} {tpos : Pos} (hu : X.A.units + 64 < cLine) (he : PF X wx e Fv) (ho : PF X wx o Fo) (hi : PF X wx i Fi)
    (ha : ∀ v, assign (.Subscript o i tpos) X.env v = (do
      let ov ← holding [v] (eval o X.env)
      let iv ← holding [v, ov] (eval i X.env)
      standAt tpos
      holding [v, ov, iv] (setItem ov iv v)
      release [v, ov, iv] []) := by intro _; rfl)
    (hs : swapsWithSole [.Subscript o i tpos] e pos.line X.env = pure false := by rfl) (hw : swappedStores [.Subscript o i tpos] e X.env = pure none := by rfl)
    (h1 : (assignEach [.Subscript o i tpos] X.env).map (·.2) = [assign (.Subscript o i tpos) X.env] := by rfl) : PFS X wx (.Assign [.Subscript o i tpos] e pos) (bStoreC Fo Fi Fv) := PS.imp (ps_asg he (pg_sub ho hi (o_setC hu) ha) hs hw h1) fun D σ H h => by
  obtain ⟨μ, τ, S, s, f, h⟩ := h
  refine tG.seqS s f h fun μ1 H1 v v' S1 A1 h1 => tG.seqS A1.st A1.fr h1 fun μ2 H2 o o' S2 A2 h2 => tG.seqS A2.st A2.fr h2 fun μ3 H3 i i' S3 A3 h3 => ?_
  cases e : setCT S3 o i v with
  | none => simp only [e] at h3; exact h3.elim
  | some S4 =>
    simp only [e] at h3
    exact ⟨μ3, S3, o, i, v, S4, A3.st, Rel.mono A3.ext _ A2.rel, A3.rel, Rel.mono A3.ext _ (Rel.mono A2.ext _ A1.rel), e, fun H' E st => h3 μ3 σ H' E st (A3.fr.mono E)⟩
def fFd (F : FE) : FE := fun τ S => (F τ S).bind fun t S1 => match t with
  | .dct ks ts => .ok (.fdc ks ts) S1
  | .fdc ks ts => .ok (.fdc ks ts) S1
  | _ => .stuck
theorem pf_fd {e : Expr} {F : FE} (h : PF X wx e F) : PF X wx e (fFd F) := PE.imp h fun σ H Q q => by
  obtain ⟨μ, τ, S, s, f, q⟩ := q
  refine tG.seq s f q fun μ1 H1 t v S1 A1 h1 => ?_
  cases t with
  | dct ks ts =>
    refine h1.here A1.st ?_
    have r := A1.rel
    simp only [rV, Rel] at r ⊢
    obtain ⟨a, kvs, rfl, hd, ek, rk⟩ := r
    exact ⟨a, kvs, rfl, ⟨.inl hd.1, hd.2⟩, ek, rk⟩
  | fdc ks ts => exact h1.here A1.st A1.rel
  | _ => exact h1.elim
def ixFT (_ : Sto) (x y : T) : Option T := match x with
  | .fdc ks ts => (keyT y).bind fun k => getK ks ts k
  | _ => none
theorem o_ixF (hu : X.A.units + 64 < cLine) : IxR X (rP X.K ixFT) := by
  intro value slice pins s σ H x y v u Q I rx ry q hs
  obtain ⟨μ, S, tx, ty, t, st, r1, r2, e, q⟩ := q
  unfold ixFT at e
  split at e
  · rename_i ks ts
    simp only [Option.bind_eq_some_iff] at e
    obtain ⟨k, hk, g⟩ := e
    simp only [Rel] at r1
    obtain ⟨a, kvs, rfl, ha, ek, rk⟩ := r1
    have := keyT_ok hk r2
    subst this
    obtain ⟨w, e1, rw'⟩ := getK_ok ek rk g
    refine ix_dict (by omega) value slice pins s σ H _ _ v u Q I rx ry ⟨a, w, rfl, ?_, q w H (Same.refl _) rw'⟩ hs
    exact .inl ⟨kvs, k, ha.1, rfl, e1.symm⟩
  · cases e
def lenFT (_ : Sto) (ts : List T) : Option T := match ts with
  | [.fdc ks _] => some (.int ks.length)
  | _ => none
theorem c_lenF : CallR X (.builtin "len") (rN X.K lenFT) := by
  intro pins s σ H xs us Q I rv q
  obtain ⟨μ, S, ts, t, st, r, e, q⟩ := q
  unfold lenFT at e
  split at e
  · rename_i ks ts'
    cases e
    obtain ⟨v, evq, rr⟩ := rels1 r
    subst evq
    simp only [Rel] at rr
    obtain ⟨a, kvs, rfl, ha, ek, rk⟩ := rr
    obtain ⟨u, rfl, rx⟩ := vals1 rv
    cases rx
    exact d_len I ha.1 fun t s' I' => ⟨.int kvs.length, H, I', ⟨_, rfl⟩, by
      have : ks.length = kvs.length := by rw [← ek, List.length_map]
      rw [← this]; exact q _ H (Same.refl _) rel_int⟩
  · cases e
theorem keys_at {kvs : List (Key × V)} {ks : List Key} {i : Nat} {t : T} (ek : kvs.map (·.1) = ks) (e : (ks.map tKey)[i]? = some t) : ∃ k v, kvs[i]? = some (k, v) ∧ t = tKey k := by
  rw [← ek, List.map_map, List.getElem?_map] at e
  cases e4 : kvs[i]? with
  | none => rw [e4] at e; cases e
  | some p => rw [e4] at e; cases e; exact ⟨p.1, p.2, rfl, rfl⟩
theorem src_keys {K : PySem.W.Frag} {H : Hp} {μ : Mu} {d : Addr} {od : Obj} {kvs : List (Key × V)} {ks : List Key} (hd : H d = some (.frz od (.dK kvs))) (hout : d ∉ μ.c) (ek : kvs.map (·.1) = ks) : Src K (Itk d od kvs) (ks.map tKey) μ H := fun μ2 H2 E => by
  have hd2 : H2 d = some (.frz od (.dK kvs)) := E.keep d _ hd hout
  refine ⟨fun i t e => ?_, fun i hi => ⟨hd2, ?_⟩⟩
  · obtain ⟨k, w, e1, rfl⟩ := keys_at ek e
    refine ⟨⟨hd2, (List.getElem?_eq_some_iff.mp e1).1⟩, fun y H3 yl => ?_⟩
    obtain ⟨rfl, k', w', e2, rfl⟩ := yl
    rw [e1] at e2
    cases e2
    exact ⟨Same.refl _, fun S' s' => tKey_rel k⟩
  · rw [← ek, List.map_map, List.length_map] at hi
    exact hi
theorem mask_relF {K : PySem.W.Frag} {H : Hp} {μ : Mu} {τ : Fr} {σ : L2.St} (f : RelF K H μ τ σ) : RelF K H μ (maskT τ) σ := by
  refine ⟨by unfold maskT; rw [List.length_map]; exact f.1, fun i t e => ?_⟩
  unfold maskT at e
  rw [List.getElem?_map] at e
  cases e1 : τ[i]? with
  | none => rw [e1] at e; cases e
  | some o =>
    rw [e1] at e
    cases o with
    | none => cases e
    | some u =>
      simp only [Option.map_some, Option.bind_some] at e
      by_cases hn : noD u = true
      · rw [if_pos hn] at e; cases e; exact f.2 i _ e1
      · rw [if_neg hn] at e; cases e
theorem mask_lock {K : PySem.W.Frag} {H : Hp} {μ : Mu} {τ : Fr} {σ : L2.St} {d : Addr} {od : Obj} {kvs : List (Key × V)} (hd : H d = some (.dK kvs)) (f : RelF K H μ τ σ) : RelF K (upd H d (.frz od (.dK kvs))) μ (maskT τ) σ := by
  refine ⟨by unfold maskT; rw [List.length_map]; exact f.1, fun i t e => ?_⟩
  unfold maskT at e
  rw [List.getElem?_map] at e
  cases e1 : τ[i]? with
  | none => rw [e1] at e; cases e
  | some o =>
    rw [e1] at e
    cases o with
    | none => cases e
    | some u =>
      simp only [Option.map_some, Option.bind_some] at e
      by_cases hn : noD u = true
      · rw [if_pos hn] at e
        cases e
        obtain ⟨w, h1, h2⟩ := f.2 i _ e1
        exact ⟨w, h1, Rel.lock hd _ hn h2⟩
      · rw [if_neg hn] at e; cases e
def bForK (j : Nat) (g : GT) (B : BS) : BS := fun τ S => match τ[j]? with
  | some (some (.fdc ks _)) => if S.all noDc then forF g B (ks.map tKey) (maskT τ) S else .stuck
  | _ => .stuck
theorem pfs_forK {j : Nat} {x : Str} {tg : Expr} {npos : Pos} {body : List Stmt} {g : GT} {B : BS} (hp : PassesOwn (model X.prog X.w) X.A X.env X.xe) (hc : X.calm = true) (hg : PFG X tg g) (hb : PFSs X wF body B)
    (hN : X.N[j]? = some x := by rfl) (hv : Vis X.env.scope x := by first | exact Or.inl rfl | exact Or.inr (Or.inl rfl) | exact Or.inr (Or.inr rfl)) (hd : (x == ("__debug__" : Str)) = false := by decide) (hcd : (x == ("__classdict__" : Str)) = false := by decide)
    (hs : ∀ y, foldedSetIterable (.Name x npos) X.env y = pure y := by intro _; rfl) :
    PFS X wF (.For tg (.Name x npos) body [] pos) (bForK j g B) := by
  have base := ps_for (pos := pos) hp hc (pi_keys (pe_var (pos := npos) (i := j) hN hv hd hcd)) hg hb hs
  have locked := ps_lock base
  refine ⟨fun pins s σ H D I h => ?_⟩
  obtain ⟨μ, τ, S, s1, f, h⟩ := h
  unfold bForK at h
  split at h
  · rename_i ks ts ej
    split at h
    · rename_i hnd
      obtain ⟨v, hv', rv⟩ := f.2 j _ ej
      simp only [Rel] at rv
      obtain ⟨d, kvs, rfl, ⟨hrd, hout⟩, ek, rk⟩ := rv
      rcases hrd with hd1 | ⟨od, hd1⟩
      · refine locked.run pins s σ H D I ⟨d, .dK kvs, hd1, True.intro, fun od => ?_⟩
        refine ⟨.ref d, hv', d, od, rfl, .inl ⟨kvs, upd_same, ?_⟩⟩
        refine forF_run (wx := wF) (src_keys upd_same hout.1 ek) (s1.lock hd1 hout.1 hnd) (mask_lock hd1 f) ?_
        have fin : ∀ {μ' : Mu} {H' : Hp}, Ext (upd H d (.frz od (.dK kvs))) μ H' μ' → H' d = some (.frz od (.dK kvs)) := fun E => E.keep d _ upd_same hout.1
        cases e : forF g B (ks.map tKey) (maskT τ) S with
        | stuck => rw [e] at h; exact h
        | nx τ1 S1 =>
          rw [e] at h
          exact fun μ' σ' H' E st fr => ⟨fin E, h μ' σ' _ (E.unlock hd1) (st.unlock (fin E)) (fr.unlock (fin E))⟩
        | bk τ1 S1 =>
          rw [e] at h
          exact fun μ' σ' H' E st fr => ⟨fin E, h μ' σ' _ (E.unlock hd1) (st.unlock (fin E)) (fr.unlock (fin E))⟩
        | ct τ1 S1 =>
          rw [e] at h
          exact fun μ' σ' H' E st fr => ⟨fin E, h μ' σ' _ (E.unlock hd1) (st.unlock (fin E)) (fr.unlock (fin E))⟩
        | rt t S1 =>
          rw [e] at h
          exact fun μ' v' H' E st r => ⟨fin E, h μ' v' _ (E.unlock hd1) (st.unlock (fin E)) (Rel.unlock (fin E) _ r)⟩
        | exc x τ1 S1 =>
          rw [e] at h
          exact fun μ' σ' H' E st fr => show False from h μ' σ' (upd H' d (.dK kvs)) (E.unlock hd1) (st.unlock (fin E)) (fr.unlock (fin E))
      · refine base.run pins s σ H D I ⟨.ref d, hv', d, od, rfl, .inl ⟨kvs, hd1, ?_⟩⟩
        exact forF_run (wx := wF) (src_keys hd1 hout.1 ek) s1 (mask_relF f) h
    · exact h.elim
  · exact h.elim
theorem CellR.unlock {K : PySem.W.Frag} {H' : Hp} {μ : Mu} {d D : Addr} {od : Obj} {kvs : List (Key × V)} {c : T} (hd : H' d = some (.frz od (.dK kvs))) (q : CellR K H' μ D c) : CellR K (upd H' d (.dK kvs)) μ D c := by
  cases c with
  | lst ts =>
    obtain ⟨vs, h, q⟩ := q
    exact ⟨vs, unlock_keep hd D _ (fun _ _ q => nomatch q) h, Rels.unlock hd ts q⟩
  | dct ks ts =>
    obtain ⟨vs, h, e, q⟩ := q
    exact ⟨vs, unlock_keep hd D _ (fun _ _ q => nomatch q) h, e, Rels.unlock hd ts q⟩
  | kdc ks ts =>
    obtain ⟨vs, h, e, q⟩ := q
    exact ⟨vs, unlock_keep hd D _ (fun _ _ q => nomatch q) h, e, Rels.unlock hd ts q⟩
  | _ => exact q.elim
def fiK (j : Nat) : FI := fun τ S => match τ[j]? with
  | some (some (.fdc ks _)) => .ok (ks.map tKey) S
  | _ => .stuck
def fLcK (j : Nat) (g : GT) (Ft : FT) (Fe : FE) (vs : List Nat) : FE := fun τ S => match τ[j]? with
  | some (some (.fdc _ _)) => if S.all noDc then fLc (fiK j) g Ft Fe vs (maskT τ) S else .stuck
  | _ => .stuck
def frzAt (j : Nat) (σ : L2.St) (H : Hp) : Prop := ∃ d od kvs, σ[j]? = some (some (.ref d)) ∧ H d = some (.frz od (.dK kvs))
theorem pi_keysK {j : Nat} {x : Str} {tg : Expr} {npos : Pos} (hN : X.N[j]? = some x) (hv : Vis X.env.scope x) (hd : (x == ("__debug__" : Str)) = false) (hcd : (x == ("__classdict__" : Str)) = false) :
    PI X tg (.Name x npos) (fun σ H R => frzAt j σ H ∧ wiT X.K wF (fiK j) σ H R) := PI.imp (pi_keys (pe_var (pos := npos) (i := j) hN hv hd hcd)) fun σ H R h => by
  obtain ⟨⟨d, od, kvs, hs, hd⟩, μ, τ, S, st, f, h⟩ := h
  refine ⟨.ref d, hs, d, od, rfl, .inl ⟨kvs, hd, ?_⟩⟩
  unfold fiK at h
  split at h
  · rename_i ks ts ej
    obtain ⟨v, hv', rv⟩ := f.2 j _ ej
    rw [hs] at hv'
    cases hv'
    simp only [Rel] at rv
    obtain ⟨d', kvs', e, ⟨hrd, hout⟩, ek, rk⟩ := rv
    cases e
    have : kvs' = kvs := by
      rcases hrd with z | ⟨o, z⟩
      · rw [hd] at z; cases z
      · rw [hd] at z; cases z; rfl
    subst this
    exact h μ _ H (Ext.refl _ _) st (src_keys hd hout.1 ek)
  · exact h.elim
theorem pfn_lcK {j : Nat} {x : Str} {elt tg : Expr} {npos : Pos} {ifs : List Expr} {scope : Scope} {own : List (Str × Nat)} {g : GT} {Ft : FT} {Fe : FE} (hc : X.calm = true) (hNd : X.N.Nodup) (ok : BlkOk X.N X.env.scope scope own)
    (hg : ∀ (s : Shared) (H : Hp) (C : Addr) (cl : List (Str × Addr)) (fp : List Addr), PFG (X.blk s H scope (compEnvC scope cl C X.env) fp) tg g) (ht : ∀ (s : Shared) (H : Hp) (C : Addr) (cl : List (Str × Addr)) (fp : List Addr), PFTs (X.blk s H scope (compEnvC scope cl C X.env) fp) wF ifs Ft)
    (he : ∀ (s : Shared) (H : Hp) (C : Addr) (cl : List (Str × Addr)) (fp : List Addr), PF (X.blk s H scope (compEnvC scope cl C X.env) fp) wF elt Fe)
    (hN : X.N[j]? = some x := by rfl) (hv : Vis X.env.scope x := by first | exact Or.inl rfl | exact Or.inr (Or.inl rfl) | exact Or.inr (Or.inr rfl)) (hd : (x == ("__debug__" : Str)) = false := by decide) (hcd : (x == ("__classdict__" : Str)) = false := by decide)
    (hs : ∀ y, foldedSetIterable (.Name x npos) X.env y = pure y := by intro _; rfl) :
    PFN X wF (.ListComp elt [⟨tg, .Name x npos, ifs, 0⟩] scope pos) (fLcK j g Ft Fe (own.map (·.2))) := by
  have base := pe_lc (pos := pos) (g := gT X.K g) (tt := tG X.K wF rB Ft) (te := tG X.K wF (rV X.K) Fe) hc hNd (pi_keysK (npos := npos) (tg := tg) hN hv hd hcd) ok hg ht he hs
  have locked := pe_lock base
  refine ⟨fun pins s σ H Q I h => ?_⟩
  obtain ⟨μ, τ, S, s1, f, h⟩ := h
  unfold fLcK at h
  split at h
  · rename_i ks ts ej
    split at h
    · rename_i hnd
      obtain ⟨v, hv', rv⟩ := f.2 j _ ej
      simp only [Rel] at rv
      obtain ⟨d, kvs, rfl, ⟨hrd, hout⟩, ek, rk⟩ := rv
      rcases hrd with hd1 | ⟨od, hd1⟩
      · have step : ∀ od, tN X.K wF (fLc (fiK j) g Ft Fe (own.map (·.2))) σ (upd H d (.frz od (.dK kvs))) fun v H' => H' d = some (.frz od (.dK kvs)) ∧ Q v (upd H' d (.dK kvs)) := ?_
        · exact locked.run pins s σ H Q I ⟨d, .dK kvs, hd1, True.intro, fun od => ⟨⟨d, od, kvs, hv', upd_same⟩, lc_imp (step od)⟩⟩
        refine fun od => ⟨μ, maskT τ, S, s1.lock hd1 hout.1 hnd, mask_lock hd1 f, ?_⟩
        cases e : fLc (fiK j) g Ft Fe (own.map (·.2)) (maskT τ) S with
        | stuck => rw [e] at h; exact h
        | exc x S1 =>
          rw [e] at h
          exact fun μ' H' E st => show False from h μ' (upd H' d (.dK kvs)) (E.unlock hd1) (st.unlock (E.keep d _ upd_same hout.1))
        | ok c S1 =>
          rw [e] at h
          intro μ' H' D E hn hD st cr
          have fin : H' d = some (.frz od (.dK kvs)) := E.keep d _ upd_same hout.1
          refine ⟨fin, h μ' _ D (E.unlock hd1) ?_ hD (st.unlock fin) (CellR.unlock fin cr)⟩
          by_cases z : D = d
          · subst z; rw [upd_same] at hn; cases hn
          · rw [upd_ne z] at hn; exact hn
      · have step : tN X.K wF (fLc (fiK j) g Ft Fe (own.map (·.2))) σ H Q := ⟨μ, maskT τ, S, s1, mask_relF f, h⟩
        exact base.run pins s σ H Q I ⟨⟨d, od, kvs, hv', hd1⟩, lc_imp step⟩
    · exact h.elim
  · exact h.elim
variable {a b : Expr} {Fa Fb : FE}
theorem pf_ixF (hu : X.A.units + 64 < cLine) (ha : PF X wx a Fa) (hb : PF X wx b Fb) (hs : PlainIx b := by intro _ _; rfl) : PF X wx (.Subscript a b pos) (fBin ixFT Fa Fb) := PE.imp (pe_ix (o_ixF hu) ha hb hs) fun _ _ _ h => bin_imp h
end
end TL
set_option Elab.async false
set_option linter.all false
set_option maxRecDepth 100000
namespace TL
open PySem PySem.Spec L2
open PyProof.Rows hiding St
section
variable {prog : Program} {w : World} {A : Around} {E : Value → Shared → Prop} {s : Shared}
theorem keys_stop {it d : Addr} {i n ep : Nat} {od : Obj} {es : Array DictEntry} {Q : Value → Shared → Prop} (hh : A.handled = none) (hit : s.heap.IsKeyIter it d i n ep) (hod : s.heap.get? d = some od) (hdd : od.data = .dict es ep) (hsz : es.size = n) (hge : n ≤ i)
    (hE : ∀ h' e, Heap.ExtBut it s.heap h' → (∃ o, h'.get? e = some o ∧ o.cls = .type "StopIteration") → E (.ref e) { s with heap := h' }) : wpAny (model prog w) A (Builtin.SmallTypes.nextOf (.ref it)) Q E s := by
  obtain ⟨o, ho, hc, hd⟩ := id hit
  unfold Builtin.SmallTypes.nextOf
  refine wpAny_bind (wpAny_callSpecial?_slot (name := Str.ofString "__next__") hit.typeIs F.slot_dict_keyiterator_next (wpAny_call_entry F.slot_dict_keyiterator_next hit.typeIs F.entry_dict_keyiterator_next ?_ (F.args_dict_keyiterator_next_1 _)))
  refine wpAny_bind (wpAny_pure (wpAny_bind (wpAny_bind ?_)))
  first | refine wpAny_bind (wpAny_typeNameOfWhole_keyiter hit.typeIs (wpAny_pure (wpAny_bind (wpAny_fieldsOf ho hd ?_)))) | refine wpAny_bind (wpAny_typeNameOf_keyiter hit.typeIs (wpAny_pure (wpAny_bind (wpAny_fieldsOf ho hd ?_))))
  have own : Builtin.Dict_items.ownsTuple "dict_keyiterator" = false := by decide +kernel
  simp only [own, Bool.false_eq_true, if_false]
  show wpAny (model prog w) _ (if (Value.ref d == Value.none) = true then _ else _) _ _ s
  rw [if_neg (show ¬(Value.ref d == Value.none) = true from fun z => Bool.false_ne_true z)]
  refine wpAny_bind (wpAny_pure (wpAny_bind (wpAny_dictEntries hod hdd ?_)))
  rw [if_neg (by rw [hsz]; simp)]; refine wpAny_bind (wpAny_pure (wpAny_bind (wpAny_dictEpoch hod hdd ?_)))
  rw [if_neg (by simp)]; refine wpAny_pure ?_
  have hz : es.size ≤ i := by omega
  simp only [show ¬((i : Int) < 0) from (by omega), if_false, Int.toNat_natCast, Array.getElem?_eq_none hz]
  refine wpAny_bind ?_
  first | refine wpAny_bind (wpAny_typeNameOfWhole_keyiter hit.typeIs (wpAny_pure ?_)) | refine wpAny_bind (wpAny_typeNameOf_keyiter hit.typeIs (wpAny_pure ?_))
  show wpAny (model prog w) _ (setField (.ref it) 0 .none >>= _) _ _ s
  refine wpAny_bind (wpAny_setField ho hd (by simp) ?_)
  show wpAny (model prog w) _ (newExc (.type "StopIteration") [] >>= _) _ _ _
  refine wpAny_bind ?_
  simp only [newExc, newTuple]; refine wpAny_bind (wpAny_newObj_type ?_ (by size_fits))
  refine wpAny_bind (m := firstArgMember _ _) (wpAny_of_eq (a := Value.none) (by first | rfl | (simp only [firstArgMember]; rfl)) (wpAny_newObj_type ?_ (by size_fits)))
  simp only [raiseNew]; refine wpAny_bind (wpAny_handled ?_)
  first | rw [show A.in1.handled = none from hh] | rw [hh]
  exact wpAny_bind (wpAny_pure (wpAny_throw (hE _ _ (((Heap.SameBut.update ..).extBut.push _).push _) ⟨_, Heap.get?_push_size _ rfl, rfl⟩)))
theorem Draws_keys {K : Type} [DecidableEq K] {knd : KeyKind prog w K} (hh : A.handled = none) (it d : Addr) (hne : d ≠ it) (kvs : List (K × Value)) (ep : Nat) (od : Obj) {es : Array DictEntry} (hdd : od.data = .dict es ep) (hsz : es.size = kvs.length) :
    Draws prog w A it [it, d] kvs.length (fun i v => ∃ k x, kvs[i]? = some (k, x) ∧ knd.is k v = true) (fun i h => h.IsKeyIter it d i kvs.length ep ∧ h.get? d = some od ∧ h.DictAt knd d kvs ep) where
  live := fun _ _ st => let ⟨o, ho, _⟩ := st.1; ⟨o, ho⟩
  frame := fun _ _ _ st hk => ⟨st.1.at fun o e => hk it (by simp) o e, hk d (by simp) _ st.2.1, let ⟨o, es, ho, r⟩ := st.2.2; ⟨o, es, hk d (by simp) o ho, r⟩⟩
  item := fun i s Q E hi st hQ => by
    obtain ⟨⟨k, x⟩, hkv⟩ : ∃ p, kvs[i]? = some p := ⟨kvs[i], List.getElem?_eq_getElem hi⟩
    unfold Builtin.SmallTypes.nextOf
    refine wpAny_bind (PySem.W.kdk_special st.1 st.2.2 hkv fun key h' hkey st' sb => wpAny_pure ?_)
    refine hQ key h' s.toks ⟨k, x, hkv, hkey⟩ ⟨st', (sb.2 d hne).trans st.2.1, ?_⟩ sb
    obtain ⟨o, es, ho, r⟩ := st.2.2
    exact ⟨o, es, (sb.2 d hne).trans ho, r⟩
  done := fun s Q E st hE => keys_stop hh st.1 st.2.1 hdd hsz (Nat.le_refl _) hE
end
def keyIt (d : Addr) (n ep : Nat) : Obj := { cls := .type "dict_keyiterator", data := .fields #[.ref d, .int 0 0, .int n 0, .int ep 0] }
def enumO (it : Addr) : Obj := { cls := .type "enumerate", data := .fields #[.none, .bool false, .ref it, rawInt 0, .none, .none] }
set_option maxHeartbeats 1000000 in
theorem enum_newK (a : Addr) (od : Obj) (es : Array DictEntry) (ep : Nat) (hm : (a == sysModules) = false) (hc : od.ExactDict) (hdat : od.data = .dict es ep) :
    Meets (Builtin.«enumerate.__new__» ⟨[.type "enumerate", .ref a], []⟩) (fun _ R s => s.heap.get? a = some od ∧
      R (.ok (.ret (.ref (s.heap.push (keyIt a es.size ep)).objs.size))) { s with heap := (s.heap.push (keyIt a es.size ep)).push (enumO s.heap.objs.size) }) :=
  .of_wp fun prog w A R s q => by
    obtain ⟨h0, g, d, tk, os⟩ := s
    obtain ⟨ha, q⟩ := q
    have hE := sub_enumerate
    have it := fun (A' : Around) (E' : Value → Shared → Prop) (Q' : Value → Shared → Prop) (hQ : Q' (.ref h0.objs.size) ⟨h0.push (keyIt a es.size ep), g, d, tk, os⟩) => iter_keys (prog := prog) (w := w) (A := A') (E := E') (s := ⟨h0, g, d, tk, os⟩) (Q := Q') hm ha hc hdat hQ
    wp_walk using it
    refine wpAny_stack_any fun st => wpAny_pure ?_
    split
    case h_1 c _ _ _ _ _ => cases (c == Value.type "enumerate") <;> (wp_walk using it; exact ⟨_, rfl, q⟩)
    all_goals (wp_walk using it; exact ⟨_, rfl, q⟩)
theorem call_enumK {prog : Program} {w : World} {A : Around} {E : Value → Shared → Prop} {s : Shared} {a : Addr} {od : Obj} {es : Array DictEntry} {ep : Nat} {Q : Value → Shared → Prop} (hm : (a == sysModules) = false) (ha : s.heap.get? a = some od) (hc : od.ExactDict) (hdat : od.data = .dict es ep)
    (q : ∀ h', IsEnum h' (s.heap.objs.size + 1) s.heap.objs.size 0 .none → h'.IsKeyIter s.heap.objs.size a 0 es.size ep → (∀ b o, s.heap.get? b = some o → h'.get? b = some o) → Q (.ref (s.heap.objs.size + 1)) { s with heap := h' }) :
    wpAny (model prog w) A (call (.type "enumerate") [.ref a]) Q E s := by
  refine callType_new F.called_enumerate (by decide) (F.typeCall_enumerate_1 _) (F.newCall_enumerate_1 _) (fun o => F.args_object_init_2 o _) F.entry_enumerate_new (enum_newK a od es ep hm hc hdat) ⟨ha, ?_⟩
  have z : (s.heap.push (keyIt a es.size ep)).objs.size = s.heap.objs.size + 1 := Heap.size_push ..
  have e1 := Heap.get?_push_size (s.heap.push (keyIt a es.size ep)) (o := enumO s.heap.objs.size) rfl
  rw [z] at e1
  show _ ∧ _
  rw [z]
  exact ⟨⟨_, e1, rfl⟩, q _ e1 ⟨_, Heap.get?_push_of_some _ (Heap.get?_push_size _ rfl), rfl, rfl⟩ fun b o y => Heap.get?_push_of_some _ (Heap.get?_push_of_some _ y)⟩
def ItEK (d : Addr) (od : Obj) (kvs : List (Key × V)) : It :=
  ⟨fun i H => H d = some (.frz od (.dK kvs)) ∧ i < kvs.length, fun i H v H' => ∃ T k x, kvs[i]? = some (k, x) ∧ v = .ref T ∧ H T = none ∧ H' = upd H T (.tup [.int (i : Nat), kV k]), fun i H => H d = some (.frz od (.dK kvs)) ∧ kvs.length ≤ i⟩
theorem turn_enumK {P : Program} {w : World} {K : PySem.W.Frag} {elts : List Expr} {kk : Nat} {tpos : Pos} (d : Addr) (od : Obj) (kvs : List (Key × V)) {es : Array DictEntry} {ep : Nat} (hod : od.data = .dict es ep) (hcd : od.cls = .type "dict") (e it : Addr) :
    Turn P w K (.Tuple elts kk tpos) (ItEK d od kvs) [e, it] e (fun i h => (∃ old, IsEnum h e it ((i : Nat) : Int) old) ∧ h.IsKeyIter it d i kvs.length ep ∧ e ≠ it) where
  mem := List.mem_cons_self
  obj := fun i h st b hb => by
    obtain ⟨⟨old, he⟩, ⟨o, ho, hc, hd⟩, _⟩ := st
    rcases List.mem_cons.mp hb with z | z
    · subst z; exact ⟨_, he, fun v q => nomatch q⟩
    · rw [List.mem_singleton.mp z]; exact ⟨o, ho, fun v q => by rw [hd] at q; cases q⟩
  keep := fun i h h' st k => by
    obtain ⟨⟨old, he⟩, hi, hne⟩ := st
    exact ⟨⟨old, k e List.mem_cons_self _ he⟩, hi.at fun o q => k it (List.mem_cons_of_mem _ List.mem_cons_self) o q, hne⟩
  item := by
    intro X hP hw hK hc i pins s σ H E I hf st hg
    subst hP hw hK
    obtain ⟨⟨old, he⟩, hit, hne⟩ := st
    obtain ⟨hd, hi⟩ := hg
    obtain ⟨hs, hgd, hx, es', ep', vs, hdt, hsz, kv, hm⟩ := I.frzK hd
    obtain ⟨rfl, rfl⟩ := dict_ep hod hdt
    have hl : kvs.length = vs.length := Paired.length kv
    have nae : e ≠ d := fun z => by
      subst z
      have : s.heap.get? e = some _ := he
      rw [hgd] at this
      cases this
      exact absurd (show Value.type "enumerate" = Value.type "dict" from hcd) (by decide)
    have nai : d ≠ it := fun z => by
      subst z
      obtain ⟨o2, ho2, hc2, _⟩ := hit
      rw [hgd] at ho2
      cases ho2
      rw [hcd] at hc2
      exact absurd hc2 (by decide)
    have hel : e < s.heap.objs.size := Heap.lt_size he
    have hil : it < s.heap.objs.size := by obtain ⟨_, q, _⟩ := hit; exact Heap.lt_size q
    rw [hl] at hit
    refine wpAny_pyNext_enum_itemD (Draws_keys (A := X.A.in1) (knd := mixKind X.prog X.w) (I.ok.hd hc) it d nai vs ep' od hod (by rw [hsz, hl])) he ⟨hit, hgd, hm⟩ (by rw [← hl]; exact hi) hne (by simp [hne, nae]) fun y h' tk hP' ho hit' hTn hsz' hk => ?_
    obtain ⟨k, x, hvx, hkey⟩ := hP'
    obtain ⟨⟨k', x'⟩, hkv⟩ : ∃ p, kvs[i]? = some p := ⟨kvs[i], List.getElem?_eq_getElem hi⟩
    obtain ⟨u, hu, ru⟩ := kv_get kv hkv
    rw [hvx] at hu
    cases hu
    refine ⟨_, rfl, wpAny_letOwnedTupleGo_enum (s := { s with heap := h', toks := tk + 1 }) ho fun h'' he' sb => ?_⟩
    have hT2 : h''.get? s.heap.objs.size = some { cls := .type "tuple", data := .seq #[.int i tk, y] } := (sb.2 _ (Nat.ne_of_gt hel)).trans hTn
    have new : ObjOk X.prog X.w (upd H s.heap.objs.size (.tup [.int (i : Nat), kV k])) h'' s.heap.objs.size (.tup [.int (i : Nat), kV k]) :=
      ⟨by show 2 ≤ sizeLine; decide, [.int i tk, y], .cons ⟨_, rfl⟩ (.cons (relV_key (show keyIs k y = true from hkey)) .nil), ⟨_, hT2, rfl, _, rfl⟩⟩
    have I1 : L2.Inv X pins σ (upd H s.heap.objs.size (.tup [.int (i : Nat), kV k])) { s with heap := h'', toks := tk + 1 } := by
      refine I.turnedNew (ch := [e, it]) (fun b ob hb q => ?_) hf (Nat.le_refl _) new
      have h1 : b ≠ e := fun z => hb (by simp [z])
      have h2 : b ≠ it := fun z => hb (by simp [z])
      exact (sb.2 b h1).trans (hk b ob h1 h2 q)
    refine ⟨.ref s.heap.objs.size, _, I1, rfl, ⟨_, k, x', hkv, rfl, I.hok.fresh (Nat.le_refl _), rfl⟩, ⟨⟨y, ?_⟩, ?_, hne⟩, fun b hb => ?_⟩
    · rw [show ((i + 1 : Nat) : Int) = (i : Int) + 1 by omega]
      exact he'
    · show h''.IsKeyIter it d (i + 1) kvs.length _
      rw [hl]
      exact hit'.1.at fun o q => (sb.2 it (Ne.symm hne)).trans q
    · have hb' : b < s.heap.objs.size := by
        rcases List.mem_cons.mp hb with z | z
        · rw [z]; exact hel
        · rw [List.mem_singleton.mp z]; exact hil
      rw [upd_ne (Nat.ne_of_lt hb')]
      exact (hf b hb).1
  done := by
    intro X hP hw hK hc i pins s σ H E I hf st hg
    subst hP hw hK
    obtain ⟨⟨old, he⟩, hit, hne⟩ := st
    obtain ⟨hd, hi⟩ := hg
    obtain ⟨hs, hgd, hx, es', ep', vs, hdt, hsz, kv, hm⟩ := I.frzK hd
    obtain ⟨rfl, rfl⟩ := dict_ep hod hdt
    have nai : d ≠ it := fun z => by
      subst z
      obtain ⟨o2, ho2, hc2, _⟩ := hit
      rw [hgd] at ho2
      cases ho2
      rw [hcd] at hc2
      exact absurd hc2 (by decide)
    obtain ⟨f0, f1, f2, f3, f4, f5⟩ := hf it (by simp)
    have D : Draws X.prog X.w X.A.in1 it [it, d] 0 (fun _ _ => False) (fun _ h => h.IsKeyIter it d i kvs.length ep' ∧ h.get? d = some od) :=
      ⟨fun _ _ st => let ⟨o, ho, _⟩ := st.1; ⟨o, ho⟩, fun _ _ _ st hk => ⟨st.1.at fun o e => hk it (by simp) o e, hk d (by simp) _ st.2⟩, fun _ _ _ _ hi _ _ => absurd hi (Nat.not_lt_zero _),
        fun s Q E st hE => keys_stop (show X.A.in1.handled = none from I.ok.hd hc) st.1 st.2 hod hsz hi hE⟩
    exact wpAny_pyNext_enum_endD D he ⟨hit, hgd⟩ fun h' eb => ⟨rfl, I.turned (t' := s.toks) (fun b o hb q => eb b o hb q) f0 f1 f3 f4 f5⟩
  self := fun A i s Q E st h => by
    obtain ⟨⟨_, he⟩, _⟩ := st
    exact wpAny_pyIter_enum he h
section
variable {X : Cx} {wx : WT} {pos : Pos}
def iEnumK (td : TE) : TI := fun σ H R => td σ H fun x H1 => ∃ d o kvs, x = .ref d ∧ H1 d = some (.frz o (.dK kvs)) ∧ R (ItEK d o kvs) H1
theorem pi_enumK {e : Expr} {td : TE} {p pos tpos : Pos} {elts : List Expr} {kk : Nat} (he : PE X e td) (hm : X.mg "enumerate" = none) (hg : Gl X "enumerate") (hs : starEach [e] X.env = (false, eval e X.env) :: starEach [] X.env) :
    PI X (.Tuple elts kk tpos) (.Call (.Name "enumerate" p) [e] [] pos) (iEnumK td) := by
  refine ⟨fun pins s σ H R I h => ?_⟩
  refine Call_ (ld_blt I hg hm boot_enumerate (PyProof.Rows.callWith_type1 (PyProof.Rows.args_cons (thn (he.run pins s σ H _ I h) fun u s1 ⟨x, H1, I1, rx, d, od, kvs, ex, hd, hR⟩ => ?_) hs) hs rfl))
  subst ex
  obtain rfl : u = Value.ref d := rx
  obtain ⟨hs', hgd, hx, es, ep, vs, hdt, hsz, kv, hmm⟩ := I1.frzK hd
  refine PyProof.Rows.args_nil ?_
  refine call_enumK hs' hgd hx hdt fun h' he hit hk => wpAny_pyIter_enum he ?_
  have I2 : L2.Inv X pins σ H1 { s1 with heap := h' } := I1.kept (t' := s1.toks) hk
  rw [hsz] at hit
  refine ⟨s1.heap.objs.size + 1, [s1.heap.objs.size + 1, s1.heap.objs.size], _, _, H1, rfl, I2, turn_enumK d od kvs hdt hx.1 (s1.heap.objs.size + 1) s1.heap.objs.size, ⟨⟨.none, he⟩, hit, Nat.succ_ne_self _⟩, fun b hb => ?_, hR⟩
  have hle : s1.heap.objs.size ≤ b := by
    rcases List.mem_cons.mp hb with z | z
    · rw [z]; exact Nat.le_succ _
    · rw [List.mem_singleton.mp z]; exact Nat.le_refl _
  obtain ⟨f0, f1, f2, f3, f4, f5⟩ := I1.fpOk hle (I1.hok.fresh hle)
  exact ⟨f0, f1, f2, f3, f4, f5⟩
theorem src_enumK {K : PySem.W.Frag} {H : Hp} {μ : Mu} {d : Addr} {od : Obj} {kvs : List (Key × V)} {ks : List Key} (hd : H d = some (.frz od (.dK kvs))) (hout : d ∉ μ.c) (ek : kvs.map (·.1) = ks) : Src K (ItEK d od kvs) (numbT (ks.map tKey)) μ H := fun μ2 H2 E => by
  have hd2 : H2 d = some (.frz od (.dK kvs)) := E.keep d _ hd hout
  have hl : ks.length = kvs.length := by rw [← ek, List.length_map]
  refine ⟨fun i t e => ?_, fun i hi => ⟨hd2, by simpa [numbT, hl] using hi⟩⟩
  obtain ⟨x, ex, rfl⟩ := zip_range e
  obtain ⟨k, w, e1, rfl⟩ := keys_at ek ex
  refine ⟨⟨hd2, (List.getElem?_eq_some_iff.mp e1).1⟩, fun y H3 yl => ?_⟩
  obtain ⟨T', k', w', e2, rfl, nT, rfl⟩ := yl
  rw [e1] at e2
  cases e2
  refine ⟨fresh_same nT, fun S s => rel_tup s nT ?_⟩
  simp only [Rels, Rel]
  exact ⟨_, _, rfl, rfl, _, [], rfl, tKey_rel k, rfl⟩
def bForEK (j : Nat) (g : GT) (B : BS) : BS := fun τ S => match τ[j]? with
  | some (some (.fdc ks _)) => if S.all noDc then forF g B (numbT (ks.map tKey)) (maskT τ) S else .stuck
  | _ => .stuck
theorem pfs_forEK {j : Nat} {x : Str} {elts : List Expr} {kk : Nat} {tpos p npos cpos : Pos} {body : List Stmt} {g : GT} {B : BS} (hp : PassesOwn (model X.prog X.w) X.A X.env X.xe) (hc : X.calm = true) (hm : X.mg "enumerate" = none) (hg : PFG X (.Tuple elts kk tpos) g) (hb : PFSs X wF body B)
    (hgl : Gl X "enumerate" := by rfl) (hN : X.N[j]? = some x := by rfl) (hv : Vis X.env.scope x := by first | exact Or.inl rfl | exact Or.inr (Or.inl rfl) | exact Or.inr (Or.inr rfl)) (hd : (x == ("__debug__" : Str)) = false := by decide) (hcd : (x == ("__classdict__" : Str)) = false := by decide)
    (hse : starEach [.Name x npos] X.env = (false, eval (.Name x npos) X.env) :: starEach [] X.env := by rfl)
    (hs : ∀ y, foldedSetIterable (.Call (.Name "enumerate" p) [.Name x npos] [] cpos) X.env y = pure y := by intro _; rfl) :
    PFS X wF (.For (.Tuple elts kk tpos) (.Call (.Name "enumerate" p) [.Name x npos] [] cpos) body [] pos) (bForEK j g B) := by
  have base := ps_for (pos := pos) hp hc (pi_enumK (p := p) (pos := cpos) (elts := elts) (kk := kk) (tpos := tpos) (pe_var (pos := npos) (i := j) hN hv hd hcd) hm hgl hse) hg hb hs
  have locked := ps_lock base
  refine ⟨fun pins s σ H D I h => ?_⟩
  obtain ⟨μ, τ, S, s1, f, h⟩ := h
  unfold bForEK at h
  split at h
  · rename_i ks ts ej
    split at h
    · rename_i hnd
      obtain ⟨v, hv', rv⟩ := f.2 j _ ej
      simp only [Rel] at rv
      obtain ⟨d, kvs, rfl, ⟨hrd, hout⟩, ek, rk⟩ := rv
      rcases hrd with hd1 | ⟨od, hd1⟩
      · refine locked.run pins s σ H D I ⟨d, .dK kvs, hd1, True.intro, fun od => ?_⟩
        refine ⟨.ref d, hv', d, od, kvs, rfl, upd_same, ?_⟩
        refine forF_run (wx := wF) (src_enumK upd_same hout.1 ek) (s1.lock hd1 hout.1 hnd) (mask_lock hd1 f) ?_
        have fin : ∀ {μ' : Mu} {H' : Hp}, Ext (upd H d (.frz od (.dK kvs))) μ H' μ' → H' d = some (.frz od (.dK kvs)) := fun E => E.keep d _ upd_same hout.1
        cases e : forF g B (numbT (ks.map tKey)) (maskT τ) S with
        | stuck => rw [e] at h; exact h
        | nx τ1 S1 =>
          rw [e] at h
          exact fun μ' σ' H' E st fr => ⟨fin E, h μ' σ' _ (E.unlock hd1) (st.unlock (fin E)) (fr.unlock (fin E))⟩
        | bk τ1 S1 =>
          rw [e] at h
          exact fun μ' σ' H' E st fr => ⟨fin E, h μ' σ' _ (E.unlock hd1) (st.unlock (fin E)) (fr.unlock (fin E))⟩
        | ct τ1 S1 =>
          rw [e] at h
          exact fun μ' σ' H' E st fr => ⟨fin E, h μ' σ' _ (E.unlock hd1) (st.unlock (fin E)) (fr.unlock (fin E))⟩
        | rt t S1 =>
          rw [e] at h
          exact fun μ' v' H' E st r => ⟨fin E, h μ' v' _ (E.unlock hd1) (st.unlock (fin E)) (Rel.unlock (fin E) _ r)⟩
        | exc x τ1 S1 =>
          rw [e] at h
          exact fun μ' σ' H' E st fr => show False from h μ' σ' (upd H' d (.dK kvs)) (E.unlock hd1) (st.unlock (fin E)) (fr.unlock (fin E))
      · refine base.run pins s σ H D I ⟨.ref d, hv', d, od, kvs, rfl, hd1, ?_⟩
        exact forF_run (wx := wF) (src_enumK hd1 hout.1 ek) s1 (mask_relF f) h
    · exact h.elim
  · exact h.elim
def shlT (_ : Sto) (x y : T) : Option T := match x, y with
  | .int i, .int j => if 0 ≤ i ∧ i ≤ 1 ∧ 0 ≤ j ∧ j ≤ 60 then some (.int (i * 2 ^ j.toNat)) else none
  | _, _ => none
def borT (_ : Sto) (x y : T) : Option T := match x, y with
  | .int i, .int j => some (.int (Builtin.bitOr i j))
  | _, _ => none
theorem o_shl : OpR X (binaryOp .LShift) (rP X.K shlT) := by
  intro pins s σ H x y v u Q I rx ry q
  obtain ⟨μ, S, tx, ty, t, st, r1, r2, e, q⟩ := q
  cases tx <;> (try cases e; done) <;> cases ty <;> (try cases e; done)
  simp only [shlT] at e
  split at e
  · rename_i h
    cases e
    simp only [Rel] at r1 r2
    subst r1 r2
    exact op_shl pins s σ H _ _ v u Q I rx ry ⟨_, _, rfl, rfl, ⟨h.2.2.1, by omega, by omega⟩, q _ H (Same.refl _) rel_int⟩
  · cases e
theorem o_bor : OpR X (binaryOp .BitOr) (rP X.K borT) := by
  intro pins s σ H x y v u Q I rx ry q
  obtain ⟨μ, S, tx, ty, t, st, r1, r2, e, q⟩ := q
  cases tx <;> (try cases e; done) <;> cases ty <;> (try cases e; done)
  simp only [borT] at e
  cases e
  simp only [Rel] at r1 r2
  subst r1 r2
  exact op_or pins s σ H _ _ v u Q I rx ry ⟨_, _, rfl, rfl, q _ H (Same.refl _) rel_int⟩
end
end TL
set_option Elab.async false
set_option linter.all false
set_option maxRecDepth 100000
namespace TL
open PySem PySem.Spec L2
open PyProof.Rows hiding St
open PySem.Froz (SD sObj TxOk addTx tailTx)
def mulTT (_ : Sto) (x y : T) : Option T := match x, y with
  | .tup (t :: ts), .int k => if decide (2 ≤ k) && (decide (k ≤ 1000) && decide ((t :: ts).length ≤ 1000)) then some (.tup (List.replicate k.toNat (t :: ts)).flatten) else none
  | _, _ => none
theorem o_mulT {X : Cx} : OpR X (binaryOp .Mult) (rP X.K mulTT) := by
  intro pins s σ H x y v u Q I rx ry q
  obtain ⟨μ, S, tx, ty, t, st, r1, r2, e, q⟩ := q
  unfold mulTT at e
  split at e
  · rename_i a as k
    split at e
    · rename_i hk
      simp only [Bool.and_eq_true, decide_eq_true_eq] at hk
      cases e
      obtain ⟨p, xs, rfl, hp, ra⟩ := tup_ok r1
      have ey : y = .int k := r2
      subst ey
      have lx := ra.length
      refine op_repT pins s σ H _ _ v u Q I rx ry ⟨p, k, xs, rfl, rfl, hp, fun z => ?_, hk.1, hk.2.1, by rw [← lx]; exact hk.2.2, fun l nl => q _ _ (fresh_same nl) (rel_tup st nl (rels_rep ra _))⟩
      rw [z] at lx
      cases lx
    · cases e
  · cases e
section
variable {P : Program} {w : World} {A : Around} {E : Value → Shared → Prop} {s : Shared}
theorem adds_le : ∀ (ks l : List Str), (ks.foldl addS l).length ≤ l.length + ks.length := by
  intro ks
  induction ks with
  | nil => exact fun l => Nat.le_refl _
  | cons k ks ih =>
    intro l
    rw [List.foldl_cons, List.length_cons]
    have h1 := ih (addS l k)
    have h2 : (addS l k).length ≤ l.length + 1 := by
      unfold addS
      split
      · omega
      · rw [List.length_cons]; omega
    omega
theorem txt_loop {I : Addr} {fp wr : List Addr} {G : Array GenState → Array GenState → Prop} {n : Nat} {Pv : Nat → Value → Prop} {St : Nat → Shared → Prop} {R : Result → Shared → Prop} (W : WalksS P w A.in1 I fp wr G n Pv St) (S : Addr) (out : S ∉ fp) (ks : List Str)
    (en : n = ks.length) (room : ks.length + 1 < scanBound) (val : ∀ i v, Pv i v → ∃ k t, ks[i]? = some k ∧ v = .str k t) : ∀ (j i : Nat) (s : Shared), n - i = j → i ≤ n → St i s → (∃ D, s.heap.get? S = some (sObj "set" D) ∧ TxR P w D ((ks.take i).foldl addS [])) →
    (∀ s' D, Moved (S :: wr) G s s' → s'.heap.get? S = some (sObj "set" D) → TxR P w D (ks.foldl addS []) → R (.ok (.ret .none)) s') → codeAny (model P w) A (.builtin "set.update.loop" ⟨[.ref S, .ref I], []⟩) R s := by
  have outw : S ∉ wr := fun z => out (W.sub _ z)
  have inw : ∀ b ∈ wr, b ∈ S :: wr := fun b z => List.mem_cons_of_mem _ z
  intro j
  induction j with
  | zero =>
    intro i s ej hi st ⟨D, ho, F1⟩ fin
    obtain rfl : i = n := by omega
    have ek : ks.take i = ks := List.take_of_length_le (Nat.le_of_eq en.symm)
    rw [ek] at F1
    refine codeAny_builtin PyProof.Rows.F.entry_set_update_loop ?_
    rw [Around.under_plainId PyProof.Rows.F.plain_set_update_loop _]; show wpAny (model P w) A.in1 (pyNext (.ref I) >>= _) _ _ s
    refine wpAny_bind (W.done s _ _ st fun s2 mv => ?_)
    show wpAny (model P w) A.in1 (ret Value.none) _ _ s2
    exact wpAny_pure (fin s2 D (mv.mono inw) (mv.heap S _ outw ho) F1)
  | succ j ih =>
    intro i s ej hi st ⟨D, ho, F1⟩ fin
    have lt : i < n := by omega
    refine codeAny_builtin PyProof.Rows.F.entry_set_update_loop ?_
    rw [Around.under_plainId PyProof.Rows.F.plain_set_update_loop _]; show wpAny (model P w) A.in1 (pyNext (.ref I) >>= _) _ _ s
    refine wpAny_bind (W.item i s _ _ lt st fun v s2 pv st2 mv => ?_)
    obtain ⟨k, t, ek, rfl⟩ := val i v pv
    have ho2 : s2.heap.get? S = some (sObj "set" D) := mv.heap S _ outw ho
    have small : ((ks.take i).foldl addS []).length + 1 < scanBound := by
      have h1 := adds_le (ks.take i) []
      rw [List.length_take, List.length_nil] at h1
      omega
    have next : (ks.take (i + 1)).foldl addS [] = addS ((ks.take i).foldl addS []) k := by
      rw [List.take_add_one, ek, List.foldl_append]; rfl
    show wpAny (model P w) A.in1 (holding [Value.str k t] (setAdd S (.str k t)) >>= _) _ _ s2
    refine wpAny_bind (wpAny_holding ?_)
    unfold setAdd
    refine wpAny_holding (wpAny_bind ((strKind P w).pyHash (Froz.is_str k t) ?_))
    refine tx_hashed (s := { s2 with toks := s2.toks + 1 }) ho2 F1 small fun b h3 D3 sb ho3 F3 => ?_
    rw [← next] at F3
    have sb' : ∀ b o, b ≠ S → s2.heap.get? b = some o → h3.get? b = some o := fun b o nb e => (sb.2 b nb).trans e
    refine wpAny_pure ⟨plainId_quiet PyProof.Rows.F.plain_set_update_loop _, ih (i + 1) _ (by omega) lt (W.frame _ s2 _ _ st2 (Nat.le_succ _) fun b hb o e => sb' b o (fun z => out (z ▸ hb)) e) ⟨D3, ho3, F3⟩ fun s4 D4 mv4 ho4 F4 => fin s4 D4 ?_ ho4 F4⟩
    exact Moved.trans W.gtrans ((mv.mono inw).then_heap (Nat.le_succ _) fun b o nb e => sb' b o (fun z => nb (z ▸ List.mem_cons_self)) e) mv4
theorem strs_ix : ∀ {us : List Value} {ks : List Str}, StrsAre us ks → ∀ (i : Nat) (v : Value), us[i]? = some v → ∃ (k : Str) (t : Tok), ks[i]? = some k ∧ v = Value.str k t := by
  intro us ks h
  induction h with
  | nil => intro i v e; simp at e
  | cons k t h ih =>
    intro i v e
    cases i with
    | zero => exact ⟨k, t, rfl, by simpa using e.symm⟩
    | succ i =>
      obtain ⟨k2, t2, e1, e2⟩ := ih i v (by simpa using e)
      exact ⟨k2, t2, by simpa using e1, e2⟩
abbrev newS (w : World) : Obj := sObj "set" (#[], 0, .fresh 0 0 (!w.params.followText "set-order"))
theorem newS_ok : TxR P w (#[], 0, .fresh 0 0 (!w.params.followText "set-order")) [] := tx_fresh (by rfl) (by exact List.Pairwise.nil) (by
  show _ ∨ (!w.params.followText "set-order") = true
  cases w.params.followText "set-order" <;> simp)
set_option maxHeartbeats 8000000 in
theorem call_set_txts {l : Addr} {items : Array Value} (ks : List Str) {Q : Value → Shared → Prop} (hh : A.handled = none) (hl : s.heap.IsTuple l items) (hit : StrsAre items.toList ks) (room : ks.length + 1 < scanBound)
    (h : ∀ (h' : Heap) (tk : Nat) (D : SD), h'.get? s.heap.objs.size = some (sObj "set" D) → TxR P w D (ks.foldl addS []) → (∀ b o, s.heap.get? b = some o → h'.get? b = some o) → Q (.ref s.heap.objs.size) { s with heap := h', toks := tk }) :
    wpAny (model P w) A (call (.type "set") [.ref l]) Q E s := by
  have size : items.size = ks.length := by have q := hit.length; rwa [Array.length_toList] at q
  obtain ⟨c, tl, hmro⟩ := PySem.F.called_set.mro
  have m1 := PySem.F.called_set.made; have m2 := PySem.F.called_set.sub
  have m3 := PySem.F.called_set.notType; have m4 := PySem.F.called_set.canCreate
  have m5 := PySem.F.typeCall_set_1 (.ref l)
  refine wpAny_call (codeAny_of_tree ?_); show wpAny (model P w) _ (callAny (.type "set") _) _ _ _
  refine wpAny_pure ⟨Code.quiet_builtin _ (by decide +kernel), codeAny_builtin PySem.F.entry_type_call ?_⟩
  rw [Around.under_plain (weight_type_call_type "set" [.ref l] []) rfl]
  repeat (any_goals (first | assumption | wp_step))
  refine codeAny_mono (code_set_led1 (.ref l) (E := E) (Q₁ := fun obj s1 => obj = .ref s.heap.objs.size ∧ s1 = { s with heap := s.heap.push (newS w) }) ⟨rfl, rfl⟩) fun r s1 hr => ?_
  cases r with
  | error e => exact hr
  | ok fl =>
    cases fl with
    | ret obj =>
      obtain ⟨rfl, rfl⟩ := hr
      have at0 : (s.heap.push (newS w)).get? s.heap.objs.size = some (newS w) := Heap.get?_push_size _ rfl
      have ty0 : Shared.TypeIs { s with heap := s.heap.push (newS w) } (.ref s.heap.objs.size) "set" := ⟨_, at0, rfl⟩
      have i1 := PySem.F.called_set.init.lookup; have i2 := PySem.F.called_set.init.bind (.ref s.heap.objs.size)
      repeat (any_goals (first | assumption | wp_step))
      refine codeAny_mono (codeAny_call_builtin (R := wants (fun r s2 => r = .none ∧ ∃ h' tk D, s2 = { s with heap := h', toks := tk } ∧ h'.get? s.heap.objs.size = some (sObj "set" D) ∧ TxR P w D (ks.foldl addS []) ∧ (∀ b o, s.heap.get? b = some o → h'.get? b = some o)) E) PySem.F.called_set.init.plain PySem.F.entry_set_init (check_set_init_1 ty0 ?_)) fun r2 s2 hr2 => ?_
      · obtain ⟨⟨oc, od, odt, osl⟩, hol, hcl, nl, hdl⟩ := id hl
        simp only at hcl hdl
        subst hcl; subst hdl
        have hol' : (s.heap.push (newS w)).get? l = some { cls := .type "tuple", dict := od, data := .seq items nl, slots := osl } := Heap.get?_push_of_some _ hol
        have q1 := PySem.F.sub_tuple_set; have q2 := PySem.F.sub_tuple_frozenset
        have q3 : (Value.type "tuple" == Value.type "dict") = false := by decide
        have tup1 : (s.heap.push (newS w)).IsTuple l items := ⟨_, hol', rfl, nl, rfl⟩
        unfold Builtin.«set.__init__» noKeywords Builtin.Frozenset.updateFrom
        generalize ePI : pyIter = PI
        wp_walk
        subst ePI
        refine wpAny_pyIter_tuple tup1 (wpAny_bind (wpAny_runValue ?_))
        have lS : l < s.heap.objs.size := Heap.lt_size hol
        have hh3 : A.in1.in1.in1.handled = none := by simp [hh]
        have sz1 : (s.heap.push (newS w)).objs.size = s.heap.objs.size + 1 := Heap.size_push ..
        have n1 : l ≠ (s.heap.push (newS w)).objs.size := by rw [sz1]; exact Nat.ne_of_lt (Nat.lt_succ_of_lt lS)
        have n2 : s.heap.objs.size ∉ [(s.heap.push (newS w)).objs.size, l] := by
          rw [sz1]; simp only [List.mem_cons, List.not_mem_nil, or_false, not_or]; exact ⟨Nat.ne_of_lt (Nat.lt_succ_self _), Nat.ne_of_gt lS⟩
        have hv : ∀ (i : Nat) (v : Value), items[i]? = some v → ∃ k t, ks[i]? = some k ∧ v = .str k t := fun i v e => by
          exact strs_ix hit i v (by rw [Array.getElem?_toList]; exact e)
        refine txt_loop ((Walks.tuple hh3 _ l n1 items).toS) s.heap.objs.size n2 ks size room hv (items.size - 0) 0 _ rfl (Nat.zero_le _) ⟨⟨_, Heap.get?_push_size _ rfl, rfl, rfl⟩, (tup1.push _)⟩ ⟨_, Heap.get?_push_of_some _ at0, newS_ok⟩ ?_
        intro s3 D mv ho F1
        obtain ⟨h3, g3, d3, tk3, os3⟩ := s3
        obtain rfl : g3 = s.gens := mv.gens
        obtain rfl : d3 = s.drawn := mv.drawn
        obtain rfl : os3 = s.os := mv.os
        show wpAny _ _ _ _ _ _
        refine wpAny_pure (?_ : wpAny _ _ (ret Value.none) _ _ _)
        refine wpAny_pure ⟨rfl, h3, tk3, D, rfl, ho, F1, fun b o e => ?_⟩
        have b0 : b < s.heap.objs.size := Heap.lt_size e
        exact mv.heap b o (by rw [sz1]; simp only [List.mem_cons, List.not_mem_nil, or_false, not_or]; exact ⟨Nat.ne_of_lt b0, Nat.ne_of_lt (Nat.lt_succ_of_lt b0)⟩) (Heap.get?_push_of_some _ (Heap.get?_push_of_some _ e))
      · cases r2 with
        | error e => exact hr2
        | ok fl2 =>
          cases fl2 with
          | ret r =>
            obtain ⟨rfl, h', tk, D, rfl, ho, F1, kp⟩ := hr2
            repeat (any_goals (first | assumption | wp_step))
            exact h _ _ _ ho F1 kp
          | _ => exact hr2.elim
    | _ => exact hr.elim
end
end TL
set_option Elab.async false
set_option linter.all false
set_option maxRecDepth 100000
set_option maxHeartbeats 2000000
namespace TL
open PySem PySem.Spec L2
open PyProof.Rows hiding St
section
variable {X : Cx} {wx : WT} {K : PySem.W.Frag} {H : Hp} {μ : Mu}
end
end TL
set_option Elab.async false
set_option linter.all false
set_option maxRecDepth 100000
set_option maxHeartbeats 2000000
namespace TL
open PySem PySem.Spec L2
open PyProof.Rows hiding St
theorem strs_vals : ∀ {ks : List Str} {us : List Value}, Vals (ks.map V.str) us → StrsAre us ks
  | [], _, r => by cases r; exact .nil
  | k :: ks, _, r => by
    cases r with
    | cons h t =>
      obtain ⟨u, rfl⟩ := h
      exact .cons k u (strs_vals t)
section
variable {X : Cx} {wx : WT} {pos : Pos}
theorem cr_setT (hc : X.calm = true) : CallR X (.type "set") (fun xs H Q => ∃ (a : Addr) (ks : List Str), xs = [.ref a] ∧ SqT X.K H a (ks.map V.str) ∧ ks.length + 1 < scanBound ∧ ∀ D, H D = none → Q (.ref D) (upd H D (TxO X.prog X.w D (ks.foldl addS [])))) := by
  intro pins s σ H xs us Q I r q
  obtain ⟨a, ks, rfl, ha, room, q⟩ := q
  rw [Vals.ref1 r]
  obtain ⟨its, rv, ht, hz⟩ := I.tuple ha
  have nf : H s.heap.objs.size = none := I.hok.fresh (Nat.le_refl _)
  refine call_set_txts ks (I.ok.hd hc) ht (strs_vals rv) room fun h' tk D ho F kp => ⟨.ref s.heap.objs.size, _, I.laid (t' := tk) kp (Nat.le_refl _) (txO_new ho F), rfl, q _ nf⟩
def fSetT (Fs : FA) : FS := fun τ S => (Fs τ S).bind fun ts S1 => match ts with
  | [t] => match tupL t with
    | some us => match strsT us with
      | some ks => if ks.length + 1 < scanBound then .ok (ks.foldl addS []) S1 else .stuck
      | none => .stuck
    | none => .stuck
  | _ => .stuck
theorem pfx_set {x : Str} {p : Pos} {e : Expr} {Fs : FA} (hc : X.calm = true) (hm : X.mg x = none) (hv : bootBuiltins x = some (.type "set")) (ha : PFA X wx [e] Fs) (hg : Gl X x := by rfl) (hn : x ≠ "__name__" := by decide) (hdb : (x == ("__debug__" : Str)) = false := by decide)
    (he : starEach [e] X.env = (false, eval e X.env) :: starEach [] X.env := by rfl) (hpl : (backTo pos (starEach [] X.env)).any (·.1) = false := by rfl) : PFX X wx (.Call (.Name x p) [e] [] pos) (fSetT Fs) :=
  PE.imp (pe_callTy (cr_setT hc) hg hm hv ha hn hdb he hpl) fun σ H Q h => by
    obtain ⟨μ, τ, S, s, f, h⟩ := h
    refine seqX s f h fun μ1 H1 ts vs S1 A1 h1 => ?_
    cases ts with
    | nil => exact h1.elim
    | cons t ts =>
      cases ts with
      | cons _ _ => exact h1.elim
      | nil =>
        simp only at h1
        cases e1 : tupL t with
        | none => rw [e1] at h1; exact h1.elim
        | some us =>
          simp only [e1] at h1
          cases e2 : strsT us with
          | none => rw [e2] at h1; exact h1.elim
          | some ks =>
            simp only [e2] at h1
            by_cases hz : ks.length + 1 < scanBound
            · rw [if_pos hz] at h1
              obtain ⟨v, rfl, rr⟩ := rels1 A1.rel
              obtain ⟨a, ws, rfl, hq, r2⟩ := tupL_ok e1 rr
              have := strsT_ok e2 r2
              subst this
              exact ⟨a, ks, rfl, hq, hz, fun D hD => h1 μ1 _ D (A1.ext.trans (Ext.of_same (fresh_same hD))) (A1.ext.back hD) (A1.st.same (fresh_same hD)) upd_same⟩
            · rw [if_neg hz] at h1; exact h1.elim
end
end TL
set_option Elab.async false
set_option linter.all false
set_option maxRecDepth 100000
namespace SF
open PySem PySem.Spec L2 TL
open PyProof.Rows hiding St
noncomputable def b__law_begin : BS := (bSeq (bSet 1 (fIf (fTest (fBin neT (fVar 0) (fPure (fLstN fNil)))) (fPure (fBlt listT (fCons (fVar 0) fNil))) (fPure (fLstN (fCons (fC (.int 0)) fNil))))) (bRet (fCell (fDisp (((fC (.str "cells")), (fVar 1)) :: (((fC (.str "lefts")), (fCell (fLc (fiA (fVar 1)) (sName 2) fYes (fIf (fTest (fBin geT (fVar 2) (fBin powT (fC (.int 10)) (fC (.int 18))))) (fVar 2) (fC (.int 0))) [2]))) :: (((fC (.str "at")), (fC (.int 0))) :: (((fC (.str "room")), (fC (.int 0))) :: []))))))))
noncomputable def m__law_begin : FF := body ["script", "cells", "cell"] 1 b__law_begin
noncomputable def b__law_mixed : BS := (bSeq (bSet 0 (fBin modT (fBlt intT (fCons (fVar 0) fNil)) (fC (.int 2147483647)))) (bRet (fBin modT (fBin mulT (fBin modT (fBin addT (fBin addT (fBin mulT (fVar 0) (fBin addT (fC (.int 48271)) (fBin mulT (fBin mulT (fC (.int 2)) (fVar 1)) (fVar 1)))) (fBin mulT (fC (.int 69621)) (fVar 1))) (fC (.int 11))) (fC (.int 2147483647))) (fC (.int 69621))) (fC (.int 2147483629)))))
noncomputable def m__law_mixed : FF := body ["cell", "k"] 2 b__law_mixed
noncomputable def b__law_draw : BS := (bSeq (bSet 2 (fBin ixT (fVar 0) (fC (.str "at")))) (bSeq (bStore (fVar 0) (fC (.str "at")) (fBin addT (fVar 2) (fC (.int 1)))) (bSeq (bSet 3 (fBin modT (fBlt intT (fCons (fVar 2) fNil)) (fBlt lenT (fCons (fBin ixT (fVar 0) (fC (.str "cells"))) fNil)))) (bSeq (bSet 4 (fBin ixT (fBin ixT (fVar 0) (fC (.str "lefts"))) (fVar 3))) (bSeq (bIf (fTest (fBin gtT (fVar 4) (fC (.int 0)))) (bSeq (bStore (fBin ixT (fVar 0) (fC (.str "lefts"))) (fVar 3) (fBin fdivT (fVar 4) (fVar 1))) (bRet (fBin modT (fBlt intT (fCons (fVar 4) fNil)) (fVar 1)))) bNext) (bSeq (bSet 5 (fCall m__law_mixed (fCons (fCall m__law_mixed (fCons (fBin ixT (fBin ixT (fVar 0) (fC (.str "cells"))) (fVar 3)) (fCons (fVar 2) fNil))) (fCons (fBin addT (fC (.int 40)) (fVar 2)) fNil)))) (bRet (fBin modT (fBin fdivT (fBlt intT (fCons (fBin addT (fBin mulT (fVar 5) (fC (.int 2147483647))) (fCall m__law_mixed (fCons (fVar 5) (fCons (fBin addT (fC (.int 7)) (fVar 2)) fNil)))) fNil)) (fC (.int 64))) (fVar 1)))))))))
noncomputable def m__law_draw : FF := body ["state", "many", "at", "place", "left", "number"] 2 b__law_draw
noncomputable def b_is_short : BS := (bRet (fAnd (fBlt isiT (fCons (fVar 0) (fCons (fC (.val (.ty "str"))) fNil))) (fChain leT leT (fC (.int 1)) (fBlt lenT (fCons (fVar 0) fNil)) (fC (.int 8)))))
noncomputable def m_is_short : FF := body ["thing"] 1 b_is_short
noncomputable def b_is_word : BS := (bSeq (bIf (fOrT (fNotT (fTru (fCall m_is_short (fCons (fVar 0) fNil)))) (fOrT (fTest (fBin eqT (fBin ixT (fVar 0) (fC (.int 0))) (fC (.str ";")))) (fTest (fBin eqT (fBin ixT (fVar 0) (fUn negT (fC (.int 1)))) (fC (.str ";")))))) (bRet (fC (.bl false))) bNext) (bRet (fBlt allT (fCons (fPure (fLc (fiA (fVar 0)) (sName 1) fYes (fOr (fBin inT (fVar 1) (fC (.str "0123456789"))) (fBin eqT (fVar 1) (fC (.str ";")))) [1])) fNil))))
noncomputable def m_is_word : FF := body ["thing", "sign"] 1 b_is_word
noncomputable def b_is_name : BS := (bRet (fAnd (fCall m_is_short (fCons (fVar 0) fNil)) (fBlt allT (fCons (fPure (fLc (fiA (fVar 0)) (sName 1) fYes (fBin inT (fVar 1) (fC (.str "abcdefghijklmnopqrstuvwxyz"))) [1])) fNil))))
noncomputable def m_is_name : FF := body ["thing", "sign"] 1 b_is_name
noncomputable def b_ascend : BS := (bRet (fBlt allT (fCons (fPure (fLc (fiR2 (fCons (fC (.int 1)) (fCons (fBlt lenT (fCons (fVar 0) fNil)) fNil))) (sName 1) fYes (fBin ltT (fBin ixT (fVar 0) (fBin subT (fVar 1) (fC (.int 1)))) (fBin ixT (fVar 0) (fVar 1))) [1])) fNil)))
noncomputable def m_ascend : FF := body ["names", "at"] 1 b_ascend
noncomputable def b_is_name_pair : BS := (bRet (fAnd (fBlt isiT (fCons (fVar 0) (fCons (fC (.val (.ty "tuple"))) fNil))) (fAnd (fBin eqT (fBlt lenT (fCons (fVar 0) fNil)) (fC (.int 2))) (fAnd (fCall m_is_name (fCons (fBin ixT (fVar 0) (fC (.int 0))) fNil)) (fCall m_is_name (fCons (fBin ixT (fVar 0) (fC (.int 1))) fNil))))))
noncomputable def m_is_name_pair : FF := body ["thing"] 1 b_is_name_pair
noncomputable def b_are_gifts : BS := (bSeq (bIf (fOrT (fNotT (fTru (fBlt isiT (fCons (fVar 0) (fCons (fC (.val (.ty "tuple"))) fNil))))) (fTest (fBin eqT (fBlt lenT (fCons (fVar 0) fNil)) (fC (.int 0))))) (bRet (fC (.bl false))) bNext) (bRet (fAnd (fBlt allT (fCons (fPure (fLc (fiA (fVar 0)) (sName 1) fYes (fCall m_is_name_pair (fCons (fVar 1) fNil)) [1])) fNil)) (fCall m_ascend (fCons (fPure (fLc (fiA (fVar 0)) (sName 1) fYes (fBin ixT (fVar 1) (fC (.int 0))) [1])) fNil)))))
noncomputable def m_are_gifts : FF := body ["thing", "pair"] 1 b_are_gifts
noncomputable def b_is_code : BS := (bSeq (bIf (fOrT (fNotT (fTru (fBlt isiT (fCons (fVar 0) (fCons (fC (.val (.ty "tuple"))) fNil))))) (fTest (fBin neT (fBlt lenT (fCons (fVar 0) fNil)) (fC (.int 3))))) (bRet (fC (.bl false))) bNext) (bSeq (bAsg (sTup 3 (sCons (sName 2) (sCons (sName 3) (sCons (sName 4) sNil)))) (fVar 0)) (bSeq (bIf (fOrT (fNotT (fTru (fCall m_is_word (fCons (fVar 2) fNil)))) (fOrT (fNotT (fTru (fCall m_is_name (fCons (fVar 3) fNil)))) (fNotT (fTru (fCall m_are_gifts (fCons (fVar 4) fNil)))))) (bRet (fC (.bl false))) bNext) (bRet (fBlt allT (fCons (fPure (fLc (fiA (fVar 4)) (sName 5) fYes (fBin inT (fBin ixT (fVar 5) (fC (.int 0))) (fVar 1)) [5])) fNil))))))
noncomputable def m_is_code : FF := body ["thing", "aspects", "word", "kind", "gives", "pair"] 2 b_is_code
noncomputable def b_need_codes : BS := (bSeq (bSet 2 (fCell (fLstN fNil))) (bSeq (bSet 3 (fCell (fLstN fNil))) (bFor (fiEA (fCons (fVar 1) fNil)) (sTup 2 (sCons (sName 4) (sCons (sName 5) sNil))) (bSeq (bIf (fOrT (fNotT (fTru (fCall m_is_code (fCons (fVar 5) (fCons (fVar 0) fNil))))) (fTest (fBin inT (fBin ixT (fVar 5) (fC (.int 0))) (fVar 2)))) bStuck bNext) (bSeq (bExpr (fApp (fVar 2) (fCons (fBin ixT (fVar 5) (fC (.int 0))) fNil))) (bSeq (bIf (fTest (fBin ninT (fBin ixT (fVar 5) (fC (.int 1))) (fVar 3))) (bExpr (fApp (fVar 3) (fCons (fBin ixT (fVar 5) (fC (.int 1))) fNil))) bNext) (bIf (fTest (fBin gtT (fBlt lenT (fCons (fVar 3) fNil)) (fC (.int 6)))) bStuck bNext)))))))
noncomputable def m_need_codes : FF := gc (body ["aspects", "codes", "words", "kinds", "number", "code"] 2 b_need_codes)
noncomputable def b_are_names : BS := (bSeq (bIf (fOrT (fNotT (fTru (fBlt isiT (fCons (fVar 0) (fCons (fC (.val (.ty "tuple"))) fNil))))) (fTest (fBin gtT (fBlt lenT (fCons (fVar 0) fNil)) (fVar 1)))) (bRet (fC (.bl false))) bNext) (bRet (fAnd (fBlt allT (fCons (fPure (fLc (fiA (fVar 0)) (sName 2) fYes (fCall m_is_name (fCons (fVar 2) fNil)) [2])) fNil)) (fCall m_ascend (fCons (fVar 0) fNil)))))
noncomputable def m_are_names : FF := body ["thing", "most", "part"] 2 b_are_names
noncomputable def b_need_book : BS := (bSeq (bIf (fOrT (fNotT (fTru (fBlt isiT (fCons (fVar 0) (fCons (fC (.val (.ty "tuple"))) fNil))))) (fTest (fBin neT (fBlt lenT (fCons (fVar 0) fNil)) (fC (.int 3))))) bStuck bNext) (bSeq (bAsg (sTup 3 (sCons (sName 1) (sCons (sName 2) (sCons (sName 3) sNil)))) (fVar 0)) (bSeq (bIf (fOrT (fNotT (fTru (fCall m_are_names (fCons (fVar 1) (fCons (fC (.int 6)) fNil))))) (fTest (fBin eqT (fBlt lenT (fCons (fVar 1) fNil)) (fC (.int 0))))) bStuck bNext) (bSeq (bIf (fOrT (fNotT (fTru (fCall m_are_names (fCons (fVar 2) (fCons (fC (.int 6)) fNil))))) (fNotT (fTru (fBlt allT (fCons (fPure (fLc (fiA (fVar 2)) (sName 4) fYes (fBin inT (fVar 4) (fVar 1)) [4])) fNil))))) bStuck bNext) (bSeq (bIf (fOrT (fNotT (fTru (fBlt isiT (fCons (fVar 3) (fCons (fC (.val (.ty "tuple"))) fNil))))) (fTest (fBin gtT (fBlt lenT (fCons (fVar 3) fNil)) (fC (.int 16))))) bStuck bNext) (bSeq (bExpr (fCall m_need_codes (fCons (fVar 1) (fCons (fVar 3) fNil)))) (bRet (fVar 0))))))))
noncomputable def m_need_book : FF := body ["thing", "aspects", "shown", "codes", "name"] 1 b_need_book
noncomputable def b_words_of : BS := (bRet (fPure (fLc (fiA (fBin ixT (fVar 0) (fC (.int 2)))) (sName 1) fYes (fBin ixT (fVar 1) (fC (.int 0))) [1])))
noncomputable def m_words_of : FF := body ["book", "code"] 1 b_words_of
noncomputable def b_is_letter : BS := (bRet (fAnd (fBin eqT (fBlt lenT (fCons (fVar 0) fNil)) (fC (.int 1))) (fBin inT (fVar 0) (fC (.str "abcdefghijklmnopqrstuvwxyz")))))
noncomputable def m_is_letter : FF := body ["item"] 1 b_is_letter
noncomputable def b_is_sign : BS := (bRet (fOr (fCall m_is_letter (fCons (fVar 0) fNil)) (fOr (fBin eqT (fVar 0) (fC (.str " "))) (fBin eqT (fVar 0) (fC (.str "\n"))))))
noncomputable def m_is_sign : FF := body ["item"] 1 b_is_sign
noncomputable def b_codes_by_word : BS := (bRet (fPure (fDc (fiA (fBin ixT (fVar 0) (fC (.int 2)))) (sName 1) fYes (fBin ixT (fVar 1) (fC (.int 0))) (fVar 1) [1])))
noncomputable def m_codes_by_word : FF := body ["book", "code"] 1 b_codes_by_word
noncomputable def b_shown_at : BS := (bSeq (bAsg (sTup 3 (sCons (sName 2) (sCons (sName 3) (sCons (sName 4) sNil)))) (fVar 0)) (bSeq (bIf (fTru (fCall m_is_letter (fCons (fVar 1) fNil))) (bRet (fVar 2)) bNext) (bSeq (bIf (fTest (fBin eqT (fVar 1) (fC (.str " ")))) (bRet (fVar 3)) bNext) (bRet (fTup fNil)))))
noncomputable def m_shown_at : FF := body ["book", "sign", "aspects", "shown", "_"] 2 b_shown_at
noncomputable def b_no_chains : BS := (bRet (fCell (fDc (fiA (fBin ixT (fVar 0) (fC (.int 0)))) (sName 1) fYes (fVar 1) (fTup fNil) [1])))
noncomputable def m_no_chains : FF := body ["book", "aspect"] 1 b_no_chains
noncomputable def b_behind : BS := (bRet (fBin addT (fTup (fCons (fTup (fCons (fVar 1) (fCons (fVar 2) fNil))) fNil)) (fBlt tupT (fCons (fPure (fLc (fiA (fVar 0)) (sName 3) (fTest (fBin neT (fBin ixT (fVar 3) (fC (.int 0))) (fVar 1))) (fVar 3) [3])) fNil))))
noncomputable def m_behind : FF := body ["chain", "kind", "value", "pair"] 3 b_behind
noncomputable def b_pass_code : BS := (bSeq (bAsg (sTup 3 (sCons (sName 2) (sCons (sName 3) (sCons (sName 4) sNil)))) (fVar 1)) (bFor (fiA (fVar 4)) (sTup 2 (sCons (sName 5) (sCons (sName 6) sNil))) (bStore (fVar 0) (fVar 5) (fCall m_behind (fCons (fBin ixT (fVar 0) (fVar 5)) (fCons (fVar 3) (fCons (fVar 6) fNil)))))))
noncomputable def m_pass_code : FF := body ["chains", "code", "_", "kind", "gives", "aspect", "value"] 2 b_pass_code
noncomputable def b_worth_among : BS := (bSeq (bFor (fiA (fVar 0)) (sTup 2 (sCons (sName 2) (sCons (sName 3) sNil))) (bIf (fTest (fBin inT (fVar 2) (fVar 1))) (bRet (fVar 3)) bNext)) (bRet (fC .non)))
noncomputable def m_worth_among : FF := body ["chain", "kinds", "kind", "value"] 2 b_worth_among
end SF
set_option Elab.async false
set_option linter.all false
set_option maxRecDepth 100000
namespace SF
open PySem PySem.Spec L2 TL
open PyProof.Rows hiding St
noncomputable def b_kinds_of : BS := (bSeq (bSet 1 (fBin ixT (fCall m_need_book (fCons (fVar 0) fNil)) (fC (.int 2)))) (bRet (fBlt tupT (fCons (fPure (fSortX (fSt (fiA (fVar 1)) (sName 2) fYes (fBin ixT (fVar 2) (fC (.int 1))) [2]))) fNil))))
noncomputable def m_kinds_of : FF := body ["book", "codes", "code"] 1 b_kinds_of
end SF
set_option Elab.async false
set_option linter.all false
set_option maxRecDepth 100000
namespace SF
open PySem PySem.Spec L2 TL
open PyProof.Rows hiding St
noncomputable def b_chains_behind : BS := (bSeq (bSet 2 (fCall m_codes_by_word (fCons (fVar 0) fNil))) (bSeq (bSet 3 (fCall m_no_chains (fCons (fVar 0) fNil))) (bSeq (bFor (fiA (fVar 1)) (sName 4) (bIf (fNotT (fTru (fCall m_is_sign (fCons (fVar 4) fNil)))) (bExpr (fCall m_pass_code (fCons (fVar 3) (fCons (fBin ixT (fVar 2) (fVar 4)) fNil)))) bNext)) (bRet (fVar 3)))))
noncomputable def m_chains_behind : FF := gc (body ["book", "items", "codes", "chains", "item"] 2 b_chains_behind)
end SF
set_option Elab.async false
set_option linter.all false
set_option maxRecDepth 100000
namespace SF
open PySem PySem.Spec L2 TL
open PyProof.Rows hiding St
noncomputable def b_least_apart : BS := (bSeq (bSet 2 (fPure (fSortX (fSt (fiA (fBin addT (fVar 0) (fVar 1))) (sName 8) fYes (fBin ixT (fVar 8) (fC (.int 0))) [8])))) (bSeq (bSet 3 (fPure (fLc (fiA (fVar 2)) (sName 6) fYes (fTup (fCons (fVar 6) fNil)) [6]))) (bSeq (bSet 4 (fPure (fLc2 (fiA (fVar 2)) (sName 6) fYes (fiL (fVar 2)) (sName 7) (fTest (fBin ltT (fVar 6) (fVar 7))) (fTup (fCons (fVar 6) (fCons (fVar 7) fNil))) [7] [6, 7]))) (bSeq (bFor (fiA (fBin addT (fVar 3) (fVar 4))) (sName 5) (bIf (fTest (fBin neT (fCall m_worth_among (fCons (fVar 0) (fCons (fVar 5) fNil))) (fCall m_worth_among (fCons (fVar 1) (fCons (fVar 5) fNil))))) (bRet (fVar 5)) bNext)) (bRet (fC .non))))))
noncomputable def m_least_apart : FF := body ["one", "other", "kinds", "singles", "twos", "terminal", "kind", "more", "pair"] 2 b_least_apart
end SF
set_option Elab.async false
set_option linter.all false
set_option maxRecDepth 100000
namespace SF
open PySem PySem.Spec L2 TL
open PyProof.Rows hiding St
noncomputable def b_is_row : BS := (bSeq (bIf (fOrT (fNotT (fTru (fBlt isiT (fCons (fVar 1) (fCons (fC (.val (.ty "tuple"))) fNil))))) (fTest (fBin gtT (fBlt lenT (fCons (fVar 1) fNil)) (fVar 2)))) (bRet (fC (.bl false))) bNext) (bSeq (bSet 3 (fCall m_words_of (fCons (fVar 0) fNil))) (bRet (fBlt allT (fCons (fPure (fLc (fiA (fVar 1)) (sName 4) fYes (fAnd (fBlt isiT (fCons (fVar 4) (fCons (fC (.val (.ty "str"))) fNil))) (fBin inT (fVar 4) (fVar 3))) [4])) fNil)))))
noncomputable def m_is_row : FF := body ["book", "thing", "most", "words", "word"] 3 b_is_row
noncomputable def b_need_row : BS := (bSeq (bExpr (fCall m_need_book (fCons (fVar 0) fNil))) (bSeq (bIf (fNotT (fTru (fCall m_is_row (fCons (fVar 0) (fCons (fVar 1) (fCons (fC (.int 60)) fNil)))))) bStuck bNext) (bRet (fVar 1))))
noncomputable def m_need_row : FF := body ["book", "thing"] 2 b_need_row
noncomputable def b_size_among : BS := (bRet (fBlt sumT (fCons (fPure (fLc (fiA (fVar 0)) (sName 1) fYes (fBin addT (fBlt lenT (fCons (fVar 1) fNil)) (fC (.int 2))) [1])) fNil)))
noncomputable def m_size_among : FF := body ["words", "word"] 1 b_size_among
noncomputable def b_size_of : BS := (bRet (fCall m_size_among (fCons (fCall m_need_row (fCons (fVar 0) (fCons (fVar 1) fNil))) fNil)))
noncomputable def m_size_of : FF := body ["book", "row"] 2 b_size_of
end SF
set_option Elab.async false
set_option linter.all false
set_option maxRecDepth 100000
namespace SF
open PySem PySem.Spec L2 TL
open PyProof.Rows hiding St
noncomputable def b_with_plain : BS := (bSeq (bSet 2 (fPure (fLc (fiA (fVar 0)) (sTup 2 (sCons (sName 3) (sCons (sName 4) sNil))) fYes (fVar 3) [3, 4]))) (bRet (fBin addT (fVar 0) (fBlt tupT (fCons (fPure (fLc (fiA (fVar 1)) (sName 3) (fTest (fBin ninT (fVar 3) (fVar 2))) (fTup (fCons (fVar 3) (fCons (fC (.str "plain")) fNil))) [3])) fNil)))))
noncomputable def m_with_plain : FF := body ["chain", "kinds", "known", "kind", "_"] 2 b_with_plain
noncomputable def b_apart_behind : BS := (bSeq (bSet 3 (fCall m_kinds_of (fCons (fVar 0) fNil))) (bSeq (bSet 4 (fCall m_chains_behind (fCons (fVar 0) (fCons (fVar 1) fNil)))) (bSeq (bSet 5 (fCall m_chains_behind (fCons (fVar 0) (fCons (fBin addT (fVar 1) (fVar 2)) fNil)))) (bSeq (bFor (fiA (fBin ixT (fVar 0) (fC (.int 0)))) (sName 6) (bSeq (bSet 7 (fCall m_least_apart (fCons (fCall m_with_plain (fCons (fBin ixT (fVar 4) (fVar 6)) (fCons (fVar 3) fNil))) (fCons (fCall m_with_plain (fCons (fBin ixT (fVar 5) (fVar 6)) (fCons (fVar 3) fNil))) fNil)))) (bIf (fTest (fBin notNT (fVar 7) (fC .non))) (bRet (fVar 7)) bNext))) (bRet (fC .non))))))
noncomputable def m_apart_behind : FF := body ["book", "ahead", "behind", "kinds", "chains", "others", "aspect", "terminal"] 3 b_apart_behind
end SF
set_option Elab.async false
set_option linter.all false
set_option maxRecDepth 100000
namespace SF
open PySem PySem.Spec L2 TL
open PyProof.Rows hiding St
noncomputable def b__law_hand_book_k32 : BS := (bSeq (bSet 1 (fTup (fCons (fTup (fCons (fC (.str "1")) (fCons (fC (.str "basic")) (fCons (fTup (fCons (fTup (fCons (fC (.str "weight")) (fCons (fC (.str "bold")) fNil))) fNil)) fNil)))) (fCons (fTup (fCons (fC (.str "2")) (fCons (fC (.str "basic")) (fCons (fTup (fCons (fTup (fCons (fC (.str "weight")) (fCons (fC (.str "faint")) fNil))) fNil)) fNil)))) fNil)))) (bSeq (bSet 1 (fBin addT (fVar 1) (fTup (fCons (fTup (fCons (fC (.str "22")) (fCons (fC (.str "basic")) (fCons (fTup (fCons (fTup (fCons (fC (.str "weight")) (fCons (fC (.str "plain")) fNil))) fNil)) fNil)))) (fCons (fTup (fCons (fC (.str "33")) (fCons (fC (.str "basic")) (fCons (fTup (fCons (fTup (fCons (fC (.str "ink")) (fCons (fC (.str "yellow")) fNil))) fNil)) fNil)))) fNil))))) (bSeq (bSet 1 (fBin addT (fVar 1) (fTup (fCons (fTup (fCons (fC (.str "38;5;208")) (fCons (fC (.str "many")) (fCons (fTup (fCons (fTup (fCons (fC (.str "ink")) (fCons (fC (.str "orange")) fNil))) fNil)) fNil)))) (fCons (fTup (fCons (fC (.str "39")) (fCons (fC (.str "basic")) (fCons (fTup (fCons (fTup (fCons (fC (.str "ink")) (fCons (fC (.str "plain")) fNil))) fNil)) fNil)))) fNil))))) (bRet (fTup (fCons (fTup (fCons (fC (.str "ink")) (fCons (fC (.str "weight")) fNil))) (fCons (fTup (fCons (fC (.str "ink")) fNil)) (fCons (fBin addT (fBin addT (fVar 1) (fTup (fCons (fTup (fCons (fC (.str "0")) (fCons (fC (.str "basic")) (fCons (fTup (fCons (fTup (fCons (fC (.str "ink")) (fCons (fC (.str "plain")) fNil))) (fCons (fTup (fCons (fC (.str "weight")) (fCons (fC (.str "plain")) fNil))) fNil))) fNil)))) fNil))) (fVar 0)) fNil))))))))
noncomputable def m__law_hand_book_k32 : FF := body ["more", "codes"] 1 b__law_hand_book_k32
end SF
set_option Elab.async false
set_option linter.all false
set_option maxRecDepth 100000
namespace SF
open PySem PySem.Spec L2 TL
open PyProof.Rows hiding St
end SF
set_option Elab.async false
set_option linter.all false
set_option maxRecDepth 100000
namespace SF
open PySem PySem.Spec L2 TL
open PyProof.Rows hiding St
noncomputable def b_are_settled : BS := (bRet (fBlt allT (fCons (fPure (fLc (fiA (fVar 1)) (sName 2) fYes (fBin inCT (fVar 2) (fVar 0)) [2])) fNil)))
noncomputable def m_are_settled : FF := body ["settled", "pairs", "pair"] 2 b_are_settled
noncomputable def b_can_take : BS := (bSeq (bFor (fiA (fVar 0)) (sTup 2 (sCons (sName 2) (sCons (sName 3) sNil))) (bIf (fAndT (fTest (fBin ninCT (fVar 2) (fVar 1))) (fOrT (fTest (fBin isNT (fVar 3) (fC .non))) (fNotT (fTru (fCall m_are_settled (fCons (fVar 1) (fCons (fVar 3) fNil))))))) (bRet (fC (.bl false))) bNext)) (bRet (fC (.bl true))))
noncomputable def m_can_take : FF := body ["need", "settled", "pair", "ahead"] 2 b_can_take
noncomputable def b_settle : BS := (bFor (fiA (fBin ixFT (fVar 1) (fVar 2))) (sTup 2 (sCons (sName 3) (sCons (sName 4) sNil))) (bStoreC (fVar 0) (fVar 3) (fC (.bl true))))
noncomputable def m_settle : FF := body ["settled", "needs", "word", "pair", "_"] 3 b_settle
noncomputable def b_take_all : BS := (bSeq (bSet 1 (fCell (fLstN fNil))) (bSeq (bSet 2 (fCell (fun _ S => .ok (.kdc [] []) S))) (bSeq (bSet 3 (fC (.bl true))) (bSeq (bWhile (fTru (fVar 3)) (bSeq (bSet 3 (fC (.bl false))) (bForK 0 (sName 4) (bIf (fAndT (fTest (fBin ninT (fVar 4) (fVar 1))) (fTru (fCall m_can_take (fCons (fBin ixFT (fVar 0) (fVar 4)) (fCons (fVar 2) fNil))))) (bSeq (bExpr (fApp (fVar 1) (fCons (fVar 4) fNil))) (bSeq (bExpr (fCall m_settle (fCons (fVar 2) (fCons (fVar 0) (fCons (fVar 4) fNil))))) (bSet 3 (fC (.bl true))))) bNext)))) (bRet (fVar 1))))))
noncomputable def m_take_all : FF := gc (body ["needs", "words", "settled", "found", "word"] 1 b_take_all)
noncomputable def b_settled_by : BS := (bSeq (bSet 2 (fCell (fun _ S => .ok (.kdc [] []) S))) (bSeq (bFor (fiA (fVar 1)) (sName 3) (bExpr (fCall m_settle (fCons (fVar 2) (fCons (fVar 0) (fCons (fVar 3) fNil)))))) (bRet (fVar 2))))
noncomputable def m_settled_by : FF := gc (body ["needs", "words", "settled", "word"] 2 b_settled_by)
noncomputable def b_reach : BS := (bSeq (bSet 3 (fCell (fun _ S => .ok (.kdc [] []) S))) (bSeq (bFor (fiA (fVar 2)) (sName 4) (bSeq (bIf (fNotT (fTru (fCall m_can_take (fCons (fBin ixFT (fVar 0) (fVar 4)) (fCons (fVar 3) fNil))))) (bRet (fC (.bl false))) bNext) (bExpr (fCall m_settle (fCons (fVar 3) (fCons (fVar 0) (fCons (fVar 4) fNil))))))) (bRet (fCall m_are_settled (fCons (fVar 3) (fCons (fVar 1) fNil))))))
noncomputable def m_reach : FF := gc (body ["needs", "goal", "words", "settled", "word"] 3 b_reach)
noncomputable def b_without_idle : BS := (bSeq (bSet 3 (fVar 2)) (bSeq (bFor (fiA (fRev (fVar 2) (fUn negT (fC (.int 1))))) (sName 4) (bSeq (bSet 5 (fPure (fLc (fiA (fVar 3)) (sName 6) (fTest (fBin neT (fVar 6) (fVar 4))) (fVar 6) [6]))) (bIf (fTru (fCall m_reach (fCons (fVar 0) (fCons (fVar 1) (fCons (fVar 5) fNil))))) (bSet 3 (fVar 5)) bNext))) (bRet (fVar 3))))
noncomputable def m_without_idle : FF := body ["needs", "goal", "words", "kept", "word", "fewer", "other"] 3 b_without_idle
noncomputable def b_row_or_bar : BS := (bSeq (bSet 2 (fCall m_take_all (fCons (fVar 0) fNil))) (bSeq (bIf (fNotT (fTru (fCall m_are_settled (fCons (fCall m_settled_by (fCons (fVar 0) (fCons (fVar 2) fNil))) (fCons (fVar 1) fNil))))) (bRet (fTup (fCons (fC (.str "bar")) (fCons (fBlt tupT (fCons (fPure (fBlt sortT (fCons (fVar 2) fNil))) fNil)) fNil)))) bNext) (bRet (fTup (fCons (fC (.str "row")) (fCons (fBlt tupT (fCons (fRev (fCall m_without_idle (fCons (fVar 0) (fCons (fVar 1) (fCons (fVar 2) fNil)))) (fUn negT (fC (.int 1)))) fNil)) fNil))))))
noncomputable def m_row_or_bar : FF := body ["needs", "goal", "words"] 2 b_row_or_bar
noncomputable def b_bars : BS := (bSeq (bSet 3 (fCall m_settled_by (fCons (fVar 0) (fCons (fVar 2) fNil)))) (bSeq (bIf (fTru (fCall m_are_settled (fCons (fVar 3) (fCons (fVar 1) fNil)))) (bRet (fC (.bl false))) bNext) (bRet (fNot (fBlt anyT (fCons (fPure (fLcK 0 (sName 4) (fTest (fBin ninT (fVar 4) (fVar 2))) (fCall m_can_take (fCons (fBin ixFT (fVar 0) (fVar 4)) (fCons (fVar 3) fNil))) [4])) fNil))))))
noncomputable def m_bars : FF := body ["needs", "goal", "words", "settled", "word"] 3 b_bars
noncomputable def b_are_some_words : BS := (bRet (fAnd (fCall m_is_row (fCons (fVar 0) (fCons (fVar 1) (fCons (fBlt lenT (fCons (fBin ixT (fVar 0) (fC (.int 2))) fNil)) fNil)))) (fCall m_ascend (fCons (fVar 1) fNil))))
noncomputable def m_are_some_words : FF := body ["book", "thing"] 2 b_are_some_words
noncomputable def b_need_few_codes : BS := (bIf (fTest (fBin gtT (fBlt lenT (fCons (fBin ixT (fVar 0) (fC (.int 2))) fNil)) (fC (.int 10)))) bStuck bNext)
noncomputable def m_need_few_codes : FF := body ["book"] 1 b_need_few_codes
noncomputable def b_least_row : BS := (bSeq (bSet 2 (fC .non)) (bSeq (bSet 3 (fCell (fDisp (((fC (.int 0)), (fTup fNil)) :: [])))) (bSeq (bFor (fiR1 (fCons (fBin shlT (fC (.int 1)) (fBlt lenFT (fCons (fVar 0) fNil))) fNil)) (sName 4) (bIf (fTest (fBin inT (fVar 4) (fVar 3))) (bSeq (bSet 5 (fBin ixT (fVar 3) (fVar 4))) (bSeq (bSet 6 (fCall m_settled_by (fCons (fVar 0) (fCons (fVar 5) fNil)))) (bSeq (bIf (fAndT (fTru (fCall m_are_settled (fCons (fVar 6) (fCons (fVar 1) fNil)))) (fOrT (fTest (fBin isNT (fVar 2) (fC .non))) (fTest (fBin ltT (fCall m_size_among (fCons (fVar 5) fNil)) (fCall m_size_among (fCons (fVar 2) fNil)))))) (bSet 2 (fVar 5)) bNext) (bForEK 0 (sTup 2 (sCons (sName 7) (sCons (sName 8) sNil))) (bIf (fAndT (fTest (fBin ninT (fVar 8) (fVar 5))) (fTru (fCall m_can_take (fCons (fBin ixFT (fVar 0) (fVar 8)) (fCons (fVar 6) fNil))))) (bStore (fVar 3) (fBin borT (fVar 4) (fBin shlT (fC (.int 1)) (fVar 7))) (fBin addT (fTup (fCons (fVar 8) fNil)) (fVar 5))) bNext))))) bNext)) (bRet (fVar 2)))))
noncomputable def m_least_row : FF := gc (body ["needs", "goal", "least", "rows", "choice", "row", "settled", "at", "word"] 2 b_least_row)
end SF
set_option Elab.async false
set_option linter.all false
set_option maxRecDepth 100000
namespace SF
open PySem PySem.Spec L2 TL
open PyProof.Rows hiding St
end SF
set_option Elab.async false
set_option linter.all false
set_option maxRecDepth 100000
namespace SF
open PySem PySem.Spec L2 TL
open PyProof.Rows hiding St
noncomputable def b_needs_of_close : BS := (bSeq (bSet 1 (fCell (fun _ S => .ok (.dct [] []) S))) (bSeq (bFor (fiA (fBin ixT (fVar 0) (fC (.int 2)))) (sTup 3 (sCons (sName 2) (sCons (sName 3) (sCons (sName 4) sNil)))) (bStore (fVar 1) (fVar 2) (fPure (fLc (fiA (fVar 4)) (sTup 2 (sCons (sName 5) (sCons (sName 6) sNil))) fYes (fTup (fCons (fTupE (fCons (fVar 5) (fCons (fVar 3) fNil))) (fCons (fIf (fTest (fBin eqT (fVar 6) (fC (.str "plain")))) (fPure (fLstN fNil)) (fC .non)) fNil))) [5, 6])))) (bRet (fVar 1))))
noncomputable def m_needs_of_close : FF := gc (body ["book", "needs", "word", "kind", "gives", "aspect", "value"] 1 b_needs_of_close)
noncomputable def b_goal_of_close : BS := (bSeq (bSet 2 (fCall m_chains_behind (fCons (fVar 0) (fCons (fVar 1) fNil)))) (bRet (fPure (fLc2 (fiA (fBin ixT (fVar 0) (fC (.int 0)))) (sName 3) fYes (fiT (fBin ixT (fVar 2) (fVar 3))) (sTup 2 (sCons (sName 4) (sCons (sName 5) sNil))) (fTest (fBin neT (fVar 5) (fC (.str "plain")))) (fTupE (fCons (fVar 3) (fCons (fVar 4) fNil))) [4, 5] [3, 4, 5]))))
noncomputable def m_goal_of_close : FF := body ["book", "row", "chains", "aspect", "kind", "value"] 2 b_goal_of_close
noncomputable def b_is_barred : BS := (bSeq (bExpr (fCall m_need_row (fCons (fVar 0) (fCons (fVar 1) fNil)))) (bSeq (bIf (fNotT (fTru (fCall m_are_some_words (fCons (fVar 0) (fCons (fVar 2) fNil))))) (bRet (fC (.bl false))) bNext) (bRet (fCall m_bars (fCons (fFd (fCall m_needs_of_close (fCons (fVar 0) fNil))) (fCons (fCall m_goal_of_close (fCons (fVar 0) (fCons (fVar 1) fNil))) (fCons (fVar 2) fNil)))))))
noncomputable def m_is_barred : FF := body ["book", "row", "thing"] 3 b_is_barred
noncomputable def b_closes : BS := (bSeq (bExpr (fCall m_need_row (fCons (fVar 0) (fCons (fVar 1) fNil)))) (bSeq (bExpr (fCall m_need_row (fCons (fVar 0) (fCons (fVar 2) fNil)))) (bRet (fBin isNT (fCall m_apart_behind (fCons (fVar 0) (fCons (fTup fNil) (fCons (fBin addT (fVar 1) (fVar 2)) fNil)))) (fC .non)))))
noncomputable def m_closes : FF := body ["book", "row", "other"] 3 b_closes
noncomputable def b__law_sizes : BS := (bSeq (bSet 1 (fPure (fLstN (fCons (fTup (fCons (fTup fNil) (fCons (fC (.int 0)) fNil))) (fCons (fTup (fCons (fTup (fCons (fC (.str "33")) fNil)) (fCons (fC (.int 3)) fNil))) (fCons (fTup (fCons (fTup (fCons (fC (.str "1")) (fCons (fC (.str "33")) fNil))) (fCons (fC (.int 3)) fNil))) (fCons (fTup (fCons (fTup (fCons (fC (.str "2")) fNil)) (fCons (fC (.int 3)) fNil))) (fCons (fTup (fCons (fTup (fCons (fC (.str "39")) fNil)) (fCons (fC (.int 0)) fNil))) (fCons (fTup (fCons (fTup (fCons (fC (.str "33")) (fCons (fC (.str "39")) fNil))) (fCons (fC (.int 0)) fNil))) fNil))))))))) (bSeq (bSet 1 (fBin addT (fVar 1) (fPure (fLstN (fCons (fTup (fCons (fTup (fCons (fC (.str "38;5;208")) fNil)) (fCons (fIf (fTru (fVar 0)) (fC (.int 4)) (fC .non)) fNil))) (fCons (fTup (fCons (fTup (fCons (fC (.str "33")) (fCons (fC (.str "38;5;208")) fNil))) (fCons (fIf (fTru (fVar 0)) (fC (.int 7)) (fC .non)) fNil))) fNil)))))) (bRet (fBin addT (fVar 1) (fPure (fLstN (fCons (fTup (fCons (fTup (fCons (fC (.str "38;5;208")) (fCons (fC (.str "1")) fNil))) (fCons (fIf (fTru (fVar 0)) (fC (.int 7)) (fC .non)) fNil))) (fCons (fTup (fCons (fTup (fCons (fC (.str "38;5;208")) (fCons (fC (.str "39")) fNil))) (fCons (fIf (fTru (fVar 0)) (fC (.int 4)) (fC .non)) fNil))) fNil))))))))
noncomputable def m__law_sizes : FF := body ["is_more", "rows"] 1 b__law_sizes
noncomputable def b__law_closing_rows : BS := (bSeq (bSet 0 (fPure (fLstN (fCons (fTup (fCons (fTup (fCons (fC (.str "33")) fNil)) (fCons (fTup (fCons (fC (.str "39")) fNil)) (fCons (fC (.bl true)) fNil)))) (fCons (fTup (fCons (fTup (fCons (fC (.str "33")) fNil)) (fCons (fTup (fCons (fC (.str "0")) fNil)) (fCons (fC (.bl true)) fNil)))) (fCons (fTup (fCons (fTup (fCons (fC (.str "33")) fNil)) (fCons (fTup (fCons (fC (.str "22")) fNil)) (fCons (fC (.bl false)) fNil)))) (fCons (fTup (fCons (fTup (fCons (fC (.str "33")) fNil)) (fCons (fTup fNil) (fCons (fC (.bl false)) fNil)))) fNil))))))) (bSeq (bSet 0 (fBin addT (fVar 0) (fPure (fLstN (fCons (fTup (fCons (fTup (fCons (fC (.str "33")) fNil)) (fCons (fTup (fCons (fC (.str "33")) fNil)) (fCons (fC (.bl false)) fNil)))) (fCons (fTup (fCons (fTup (fCons (fC (.str "33")) fNil)) (fCons (fTup (fCons (fC (.str "39")) (fCons (fC (.str "33")) fNil))) (fCons (fC (.bl false)) fNil)))) (fCons (fTup (fCons (fTup (fCons (fC (.str "33")) fNil)) (fCons (fTup (fCons (fC (.str "33")) (fCons (fC (.str "39")) fNil))) (fCons (fC (.bl true)) fNil)))) fNil))))))) (bSeq (bSet 0 (fBin addT (fVar 0) (fPure (fLstN (fCons (fTup (fCons (fTup fNil) (fCons (fTup fNil) (fCons (fC (.bl true)) fNil)))) (fCons (fTup (fCons (fTup fNil) (fCons (fTup (fCons (fC (.str "1")) fNil)) (fCons (fC (.bl false)) fNil)))) (fCons (fTup (fCons (fTup fNil) (fCons (fTup (fCons (fC (.str "22")) fNil)) (fCons (fC (.bl true)) fNil)))) (fCons (fTup (fCons (fTup (fCons (fC (.str "39")) fNil)) (fCons (fTup fNil) (fCons (fC (.bl true)) fNil)))) fNil)))))))) (bSeq (bSet 0 (fBin addT (fVar 0) (fPure (fLstN (fCons (fTup (fCons (fTup (fCons (fC (.str "33")) (fCons (fC (.str "39")) fNil))) (fCons (fTup fNil) (fCons (fC (.bl true)) fNil)))) (fCons (fTup (fCons (fTup (fCons (fC (.str "38;5;208")) fNil)) (fCons (fTup (fCons (fC (.str "39")) fNil)) (fCons (fC (.bl false)) fNil)))) (fCons (fTup (fCons (fTup (fCons (fC (.str "38;5;208")) fNil)) (fCons (fTup (fCons (fC (.str "0")) (fCons (fC (.str "0")) fNil))) (fCons (fC (.bl false)) fNil)))) fNil))))))) (bSeq (bSet 0 (fBin addT (fVar 0) (fPure (fLstN (fCons (fTup (fCons (fTup (fCons (fC (.str "1")) (fCons (fC (.str "33")) fNil))) (fCons (fTup (fCons (fC (.str "39")) fNil)) (fCons (fC (.bl false)) fNil)))) (fCons (fTup (fCons (fTup (fCons (fC (.str "1")) (fCons (fC (.str "33")) fNil))) (fCons (fTup (fCons (fC (.str "22")) (fCons (fC (.str "39")) fNil))) (fCons (fC (.bl true)) fNil)))) (fCons (fTup (fCons (fTup (fCons (fC (.str "1")) (fCons (fC (.str "33")) fNil))) (fCons (fTup (fCons (fC (.str "0")) fNil)) (fCons (fC (.bl true)) fNil)))) fNil))))))) (bRet (fBin addT (fVar 0) (fPure (fLstN (fCons (fTup (fCons (fTup (fCons (fC (.str "1")) (fCons (fC (.str "2")) fNil))) (fCons (fTup (fCons (fC (.str "22")) fNil)) (fCons (fC (.bl true)) fNil)))) (fCons (fTup (fCons (fTup (fCons (fC (.str "33")) (fCons (fC (.str "1")) (fCons (fC (.str "22")) fNil)))) (fCons (fTup (fCons (fC (.str "39")) fNil)) (fCons (fC (.bl true)) fNil)))) (fCons (fTup (fCons (fTup (fCons (fC (.str "38;5;208")) (fCons (fC (.str "39")) fNil))) (fCons (fTup fNil) (fCons (fC (.bl false)) fNil)))) fNil))))))))))))
noncomputable def m__law_closing_rows : FF := body ["rows"] 0 b__law_closing_rows
noncomputable def b__law_more_rows : BS := (bSeq (bSet 0 (fPure (fLstN (fCons (fTup (fCons (fTup (fCons (fC (.str "38;5;208")) fNil)) (fCons (fTup (fCons (fC (.str "49")) fNil)) (fCons (fC (.bl true)) fNil)))) (fCons (fTup (fCons (fTup (fCons (fC (.str "38;5;208")) fNil)) (fCons (fTup (fCons (fC (.str "39")) fNil)) (fCons (fC (.bl false)) fNil)))) (fCons (fTup (fCons (fTup (fCons (fC (.str "38;5;208")) fNil)) (fCons (fTup (fCons (fC (.str "39")) (fCons (fC (.str "49")) fNil))) (fCons (fC (.bl true)) fNil)))) fNil)))))) (bSeq (bSet 0 (fBin addT (fVar 0) (fPure (fLstN (fCons (fTup (fCons (fTup (fCons (fC (.str "33")) (fCons (fC (.str "38;5;208")) fNil))) (fCons (fTup (fCons (fC (.str "49")) fNil)) (fCons (fC (.bl false)) fNil)))) (fCons (fTup (fCons (fTup (fCons (fC (.str "33")) (fCons (fC (.str "38;5;208")) fNil))) (fCons (fTup (fCons (fC (.str "39")) (fCons (fC (.str "49")) fNil))) (fCons (fC (.bl true)) fNil)))) fNil)))))) (bSeq (bSet 0 (fBin addT (fVar 0) (fPure (fLstN (fCons (fTup (fCons (fTup (fCons (fC (.str "38;5;208")) (fCons (fC (.str "33")) fNil))) (fCons (fTup (fCons (fC (.str "49")) (fCons (fC (.str "0")) fNil))) (fCons (fC (.bl true)) fNil)))) (fCons (fTup (fCons (fTup (fCons (fC (.str "38;5;208")) (fCons (fC (.str "49")) fNil))) (fCons (fTup fNil) (fCons (fC (.bl true)) fNil)))) fNil)))))) (bRet (fBin addT (fVar 0) (fPure (fLstN (fCons (fTup (fCons (fTup (fCons (fC (.str "49")) (fCons (fC (.str "33")) fNil))) (fCons (fTup (fCons (fC (.str "39")) fNil)) (fCons (fC (.bl true)) fNil)))) fNil))))))))
noncomputable def m__law_more_rows : FF := body ["rows"] 0 b__law_more_rows
noncomputable def b_shortest_close : BS := (bSeq (bExpr (fCall m_need_row (fCons (fVar 0) (fCons (fVar 1) fNil)))) (bSeq (bExpr (fCall m_need_few_codes (fCons (fVar 0) fNil))) (bRet (fCall m_least_row (fCons (fFd (fCall m_needs_of_close (fCons (fVar 0) fNil))) (fCons (fCall m_goal_of_close (fCons (fVar 0) (fCons (fVar 1) fNil))) fNil))))))
noncomputable def m_shortest_close : FF := body ["book", "row"] 2 b_shortest_close
noncomputable def b_close_for : BS := (bSeq (bExpr (fCall m_need_row (fCons (fVar 0) (fCons (fVar 1) fNil)))) (bRet (fCall m_row_or_bar (fCons (fFd (fCall m_needs_of_close (fCons (fVar 0) fNil))) (fCons (fCall m_goal_of_close (fCons (fVar 0) (fCons (fVar 1) fNil))) fNil)))))
noncomputable def m_close_for : FF := body ["book", "row"] 2 b_close_for
noncomputable def b__law_right_k29 : BS := (bSeq (bFor (fiA (fBin addT (fCall m__law_closing_rows fNil) (fIf (fTru (fVar 1)) (fCall m__law_more_rows fNil) (fCell (fLstN fNil))))) (sTup 3 (sCons (sName 2) (sCons (sName 3) (sCons (sName 4) sNil)))) (bIf (fTest (fBin neT (fBlt reprBT (fCons (fCall m_closes (fCons (fVar 0) (fCons (fVar 2) (fCons (fVar 3) fNil)))) fNil)) (fBlt reprBT (fCons (fVar 4) fNil)))) (bRet (fC (.bl false))) bNext)) (bSeq (bFor (fiA (fCall m__law_sizes (fCons (fVar 1) fNil))) (sTup 2 (sCons (sName 2) (sCons (sName 4) sNil))) (bSeq (bAsg (sTup 2 (sCons (sName 5) (sCons (sTup 2 (sCons (sName 6) (sCons (sName 7) sNil))) sNil))) (fTup (fCons (fCall m_shortest_close (fCons (fVar 0) (fCons (fVar 2) fNil))) (fCons (fCall m_close_for (fCons (fVar 0) (fCons (fVar 2) fNil))) fNil)))) (bSeq (bIf (fOrT (fTest (fBin neT (fBin isNT (fVar 5) (fC .non)) (fBin isNT (fVar 4) (fC .non)))) (fTest (fBin neT (fVar 6) (fIf (fTest (fBin isNT (fVar 4) (fC .non))) (fC (.str "bar")) (fC (.str "row")))))) (bRet (fC (.bl false))) bNext) (bSeq (bIf (fAndT (fTest (fBin isNT (fVar 4) (fC .non))) (fTest (fBin neT (fVar 7) (fTup (fCons (fC (.str "0")) (fCons (fC (.str "1")) (fCons (fC (.str "2")) (fCons (fC (.str "22")) (fCons (fC (.str "33")) (fCons (fC (.str "39")) fNil)))))))))) (bRet (fC (.bl false))) bNext) (bSeq (bIf (fTest (fBin isNT (fVar 4) (fC .non))) (fun τ S => .ct τ S) bNext) (bSeq (bIf (fOrT (fTest (fBin neT (fCall m_size_of (fCons (fVar 0) (fCons (fVar 5) fNil))) (fVar 4))) (fOrT (fNotT (fTru (fCall m_closes (fCons (fVar 0) (fCons (fVar 2) (fCons (fVar 5) fNil)))))) (fNotT (fTru (fCall m_closes (fCons (fVar 0) (fCons (fVar 2) (fCons (fVar 7) fNil)))))))) (bRet (fC (.bl false))) bNext) (bIf (fTest (fBin ltT (fLenX (fSetT (fCons (fVar 7) fNil))) (fBlt lenT (fCons (fVar 7) fNil)))) (bRet (fC (.bl false))) bNext))))))) (bRet (fC (.bl true)))))
noncomputable def m__law_right_k29 : FF := gc (body ["book", "is_more", "row", "other", "due", "found", "way", "words"] 2 b__law_right_k29)
noncomputable def b_law_k29 : BS := (bSeq (bSet 1 (fCall m__law_begin (fCons (fVar 0) fNil))) (bSeq (bFor (fiR1 (fCons (fBin addT (fC (.int 2)) (fBlt minT (fCons (fC (.int 2)) (fCons (fBlt lenT (fCons (fVar 0) fNil)) fNil)))) fNil)) (sName 2) (bFor (fiA (fTup (fCons (fTup fNil) (fCons (fTup (fCons (fTup (fCons (fC (.str "49")) (fCons (fC (.str "many")) (fCons (fTup (fCons (fTup (fCons (fC (.str "ink")) (fCons (fC (.str "plain")) fNil))) fNil)) fNil)))) fNil)) fNil)))) (sName 4) (bSeq (bSet 5 (fCall m__law_hand_book_k32 (fCons (fVar 4) fNil))) (bSeq (bPar 8 9 (fCons (fCell (fBlt listT (fCons (fBin ixT (fVar 5) (fC (.int 2))) fNil))) (fCons (fCell (fLstN fNil)) fNil))) (bSeq (bFor (fiR1 (fCons (fBlt lenT (fCons (fVar 8) fNil)) fNil)) (sName 7) (bExpr (fApp (fVar 9) (fCons (fCM opPop (fVar 8) (fCons (fCall m__law_draw (fCons (fVar 1) (fCons (fBlt lenT (fCons (fVar 8) fNil)) fNil))) fNil)) fNil)))) (bIf (fNotT (fTru (fCall m__law_right_k29 (fCons (fBin addT (fSl (fVar 5) foN (foS (fC (.int 2)))) (fTup (fCons (fBlt tupT (fCons (fVar 9) fNil)) fNil))) (fCons (fBin neT (fVar 4) (fTup fNil)) fNil))))) (bRet (fC (.bl false))) bNext)))))) (bSeq (bAsg (sTup 2 (sCons (sName 5) (sCons (sName 6) sNil))) (fTup (fCons (fCall m__law_hand_book_k32 (fCons (fTup fNil) fNil)) (fCons (fTup (fCons (fC (.str "0")) (fCons (fC (.str "1")) (fCons (fC (.str "2")) (fCons (fC (.str "22")) (fCons (fC (.str "33")) (fCons (fC (.str "39")) fNil))))))) fNil)))) (bSeq (bIf (fTest (fBin neT (fPure (fLstN (fCons (fCall m_closes (fCons (fVar 5) (fCons (fBin mulTT (fTup (fCons (fC (.str "33")) fNil)) (fC (.int 60))) (fCons (fBin mulTT (fTup (fCons (fC (.str "39")) fNil)) (fC (.int 60))) fNil)))) (fCons (fCall m_closes (fCons (fVar 5) (fCons (fBin mulTT (fTup (fCons (fC (.str "39")) fNil)) (fC (.int 60))) (fCons (fBin mulTT (fTup (fCons (fC (.str "33")) fNil)) (fC (.int 60))) fNil)))) fNil)))) (fPure (fLstN (fCons (fC (.bl true)) (fCons (fC (.bl false)) fNil)))))) (bRet (fC (.bl false))) bNext) (bSeq (bSet 3 (fCell (fLstN (fCons (fTup fNil) (fCons (fVar 6) (fCons (fSl (fVar 6) foN (foS (fC (.int 5)))) (fCons (fBin addT (fSl (fVar 6) (foS (fC (.int 1))) foN) (fSl (fVar 6) foN (foS (fC (.int 1))))) (fCons (fPure (fBlt listT (fCons (fVar 6) fNil))) (fCons (fC .non) (fCons (fTup (fCons (fC (.str "0")) (fCons (fC (.str "22")) (fCons (fC (.str "39")) fNil)))) (fCons (fTup (fCons (fC (.str "0")) (fCons (fC (.str "0")) fNil))) (fCons (fTup (fCons (fC (.str "7")) fNil)) (fCons (fC (.int 5)) (fCons (fC (.str "bar")) fNil)))))))))))))) (bSeq (bExpr (fApp (fVar 3) (fCons (fTup (fCons (fC (.str "0")) (fCons (fC (.str "1")) (fCons (fC (.str "2")) (fCons (fC (.str "22")) (fCons (fC (.str "33")) (fCons (fC (.str "38;5;208")) (fCons (fC (.str "39")) fNil)))))))) fNil))) (bSeq (bIf (fOrT (fTru (fCall m_is_barred (fCons (fVar 5) (fCons (fTup (fCons (fC (.str "33")) fNil)) (fCons (fVar 6) fNil))))) (fTru (fCall m_is_barred (fCons (fVar 5) (fCons (fTup fNil) (fCons (fVar 6) fNil)))))) (bRet (fC (.bl false))) bNext) (bRet (fBin eqT (fPure (fLcC (fiAC (fVar 3)) (sName 10) (fTru (fCall m_is_barred (fCons (fVar 5) (fCons (fTup (fCons (fC (.str "38;5;208")) fNil)) (fCons (fVar 10) fNil))))) (fVar 10) [10])) (fPure (fLstN (fCons (fVar 6) fNil))))))))))))
noncomputable def m_law_k29 : FF := body ["script", "state", "turn", "things", "more", "book", "bar", "k", "codes", "found", "thing"] 1 b_law_k29
end SF
set_option Elab.async false
set_option linter.all false
set_option maxRecDepth 100000
namespace SF
open PySem PySem.Spec L2 TL
open PyProof.Rows hiding St
abbrev tS (l : List Str) : T := .tup (l.map T.str)
def pT (p : Str × Str) : T := .tup [.str p.1, .str p.2]
structure Code where
  w : Str
  k : Str
  g : List (Str × Str)
def cT (c : Code) : T := .tup [.str c.w, .str c.k, .tup (c.g.map pT)]
structure Bk where
  asp : List Str
  sh : List Str
  cs : List Code
def bT (b : Bk) : T := .tup [tS b.asp, tS b.sh, .tup (b.cs.map cT)]
def Nm (x : Str) : Prop := ∀ S, m_is_name [.str x] S = .ok (.bl true) S
def Wd (x : Str) : Prop := ∀ S, m_is_word [.str x] S = .ok (.bl true) S
def Sg (x : Str) (b : Bool) : Prop := ∀ S, m_is_sign [.str x] S = .ok (.bl b) S
def fstT : T → T
  | .tup (a :: _) => a
  | _ => .non
theorem map_fst (g : List (Str × Str)) : (g.map pT).map fstT = g.map fun p => T.str p.1 := by
  rw [List.map_map]
  exact List.map_congr_left fun _ _ => rfl
theorem is_name_pair_ok {p : Str × Str} (h1 : Nm p.1) (h2 : Nm p.2) (S : Sto) : m_is_name_pair [pT p] S = .ok (.bl true) S := by
  unfold m_is_name_pair b_is_name_pair pT
  simp_arith [h1 S, h2 S]
theorem are_gifts_ok {g : List (Str × Str)} (h0 : g ≠ []) (hz : g.length ≤ sizeLine) (h1 : ∀ p ∈ g, Nm p.1 ∧ Nm p.2) (h2 : ∀ S, m_ascend [.lst (g.map fun p => .str p.1)] S = .ok (.bl true) S) (S : Sto) : m_are_gifts [.tup (g.map pT)] S = .ok (.bl true) S := by
  unfold m_are_gifts b_are_gifts
  have h1 : ∀ p ∈ g, ∀ S, m_is_name_pair [pT p] S = .ok (.bl true) S := fun p hp S => is_name_pair_ok (h1 p hp).1 (h1 p hp).2 S
  generalize m_is_name_pair = f1 at h1 ⊢
  generalize m_ascend = f2 at h2 ⊢
  have hl : (g.length : Int) ≠ 0 := by
    intro z
    exact h0 (List.length_eq_zero_iff.mp (by omega))
  simp_arith [List.length_map, hl, hz]
  rw [lc_map (r := fun _ => .bl true) fun x hx => ?a]
  case a =>
    obtain ⟨p, hp, rfl⟩ := List.mem_map.mp hx
    exact ⟨_, rfl, slots1 _ _, rfl, by simp_arith [h1 p hp S]⟩
  simp_arith [all_lst]
  rw [lc_map (r := fstT) fun x hx => ?b]
  case b =>
    obtain ⟨p, hp, rfl⟩ := List.mem_map.mp hx
    exact ⟨_, rfl, slots1 _ _, rfl, by simp_arith [pT, fstT]⟩
  simp_arith [map_fst, h2 S]
theorem is_code_ok {c : Code} {asp : List Str} (hz : c.g.length ≤ sizeLine) (h1 : Wd c.w) (h2 : Nm c.k) (h3 : ∀ S, m_are_gifts [.tup (c.g.map pT)] S = .ok (.bl true) S) (h4 : ∀ p ∈ c.g, p.1 ∈ asp) (S : Sto) : m_is_code [cT c, tS asp] S = .ok (.bl true) S := by
  unfold m_is_code b_is_code
  simp_arith [cT, h1 S, h2 S, h3 S, List.length_map, hz]
  rw [lc_map (r := fun _ => .bl true) fun x hx => ?a]
  case a =>
    obtain ⟨p, hp, rfl⟩ := List.mem_map.mp hx
    exact ⟨_, rfl, slots1 _ _, rfl, by simp_arith [pT, h4 p hp]⟩
  simp_arith [all_lst]
def Pu (F : FF) (ts : List T) (r : T) : Prop := ∀ S, F ts S = .ok r S
theorem nr_pT (p : Str × Str) : nr (pT p) = true := rfl
theorem nr_tS (l : List Str) : nr (tS l) = true := nrs_str l
end SF
set_option Elab.async false
set_option linter.all false
set_option maxRecDepth 100000
namespace SF
open PySem PySem.Spec L2 TL
open PyProof.Rows hiding St
structure GB (b : Bk) : Prop where
  asp : ∀ S, m_are_names [tS b.asp, .int 6] S = .ok (.bl true) S
  asp0 : b.asp ≠ []
  sh : ∀ S, m_are_names [tS b.sh, .int 6] S = .ok (.bl true) S
  sub : ∀ x ∈ b.sh, x ∈ b.asp
  shz : b.sh.length ≤ 6
  len : b.cs.length ≤ 16
  code : ∀ c ∈ b.cs, ∀ S, m_is_code [cT c, tS b.asp] S = .ok (.bl true) S
  nd : (b.cs.map (·.w)).Nodup
  kin : ∃ K : List Str, K.length ≤ 6 ∧ ∀ c ∈ b.cs, c.k ∈ K
theorem small16 {n : Nat} (h : n ≤ 200) : n ≤ sizeLine := Nat.le_trans h (by decide)
theorem small16' {n : Nat} (h : n ≤ 200) : n < sizeLine := Nat.lt_of_le_of_lt h (by decide)
theorem fiE_at {cs : List Code} {i : Nat} {x : T} (h : (numbT (cs.map cT))[i]? = some x) : ∃ c, cs[i]? = some c ∧ x = .tup [.int (i : Nat), cT c] := by
  obtain ⟨y, h1, rfl⟩ := zip_range h
  rw [List.getElem?_map] at h1
  cases e : cs[i]? with
  | none => rw [e] at h1; cases h1
  | some c =>
    rw [e] at h1
    have : cT c = y := by simpa using h1
    exact ⟨c, rfl, by rw [this]⟩
theorem nodup_len {α : Type} [DecidableEq α] : ∀ {l K : List α}, l.Nodup → (∀ x ∈ l, x ∈ K) → l.length ≤ K.length
  | [], K, _, _ => Nat.zero_le _
  | x :: l, K, h, g => by
    have hx := g x List.mem_cons_self
    obtain ⟨h1, h2⟩ := List.nodup_cons.mp h
    have ih := nodup_len (K := K.erase x) h2 fun y hy => (List.mem_erase_of_ne (by rintro rfl; exact h1 hy)).mpr (g y (List.mem_cons_of_mem _ hy))
    rw [List.length_erase_of_mem hx] at ih
    have : 0 < K.length := List.length_pos_of_mem hx
    rw [List.length_cons]
    omega
def Cl (S : Sto) : Prop := S.all noDc = true
theorem Cl.nil : Cl [] := rfl
theorem Cl.app {S J : Sto} (h : Cl S) (g : Cl J) : Cl (S ++ J) := by
  unfold Cl at *
  rw [List.all_append, h, g]
  rfl
theorem Cl.cons {x : T} {J : Sto} (h : noDc x = true) (g : Cl J) : Cl (x :: J) := by
  unfold Cl at *
  rw [List.all_cons, h, g]
  rfl
theorem noDs_str : ∀ l : List Str, noDs (l.map T.str) = true
  | [] => rfl
  | x :: l => by simp only [List.map_cons, noDs, noD, noDs_str l, Bool.and_self]
theorem Cl.strs {l : List Str} {J : Sto} (g : Cl J) : Cl (.lst (l.map T.str) :: J) := .cons (noDs_str l) g
theorem split_at {α : Type} {l : List α} {i : Nat} {c : α} (h : l[i]? = some c) : l = l.take i ++ c :: l.drop (i + 1) := by
  obtain ⟨hi, e⟩ := List.getElem?_eq_some_iff.mp h
  rw [← e, List.getElem_cons_drop hi, List.take_append_drop]
theorem need_codes_ok {b : Bk} (G : GB b) : Pu m_need_codes [tS b.asp, .tup (b.cs.map cT)] .non := by
  intro S
  obtain ⟨K, hK, hk⟩ := G.kin
  have hc := G.code
  unfold m_need_codes
  refine gc_pure ?_ rfl
  unfold b_need_codes
  generalize m_is_code = f1 at hc ⊢
  simp_arith [Nat.zero_le]
  generalize hF : forF _ _ _ _ _ = R
  obtain ⟨τ2, S2, e, ks, hks, h1, h2⟩ := for_go hF (fun i τ T1 => ∃ ks : List Str, (ks.Nodup ∧ ∀ x ∈ ks, x ∈ K) ∧ T1 = S ++ [.lst (((b.cs.take i).map (·.w)).map T.str), .lst (ks.map T.str)] ∧
      ∃ y z, τ = [some (tS b.asp), some (.tup (b.cs.map cT)), some (.ref S.length), some (.ref (S.length + 1)), y, z])
    ⟨[], ⟨List.nodup_nil, fun x hx => nomatch hx⟩, by simp, none, none, by simp⟩ (by
    intro i x τ T1 hx hI
    obtain ⟨ks, ⟨hnd, hsub⟩, rfl, y, z, rfl⟩ := hI
    obtain ⟨c, hc1, rfl⟩ := fiE_at hx
    refine ⟨_, rfl, ?_⟩
    have hcm : c ∈ b.cs := List.mem_of_getElem? hc1
    have hlen := nodup_len hnd hsub
    have hi := (List.getElem?_eq_some_iff.mp hc1).1
    have hl := G.len
    have w1 : c.w ∉ (b.cs.take i).map (·.w) := fun hz => by
      have h3 := G.nd
      rw [split_at hc1] at h3
      rw [List.map_append, List.nodup_append] at h3
      exact h3.2.2 _ hz _ (by simp) rfl
    have z1 : (b.cs.take i).length < sizeLine := small16' (by rw [List.length_take]; omega)
    have z2 : ks.length < sizeLine := small16' (by omega)
    have hw : (((b.cs.take i).map (·.w)).map T.str) ++ [T.str c.w] = ((b.cs.take (i + 1)).map (·.w)).map T.str := by
      rw [List.take_add_one, hc1, List.map_append, List.map_append]
      rfl
    have hc2 : ∀ S, f1 [.tup [.str c.w, .str c.k, .tup (c.g.map pT)], tS b.asp] S = .ok (.bl true) S := hc c hcm
    have w2 : ¬ (6 : Int) < ks.length := by omega
    by_cases hk2 : c.k ∈ ks
    · simp_arith [hc2, cT, w1, List.length_map, z1, hk2, hw, w2]
      exact goes_nx ⟨ks, ⟨hnd, hsub⟩, rfl, _, _, rfl⟩
    · have nd2 : (ks ++ [c.k]).Nodup := by
        rw [List.nodup_append]
        exact ⟨hnd, by simp, fun a ha b hb => by
          rw [List.mem_singleton.mp hb]
          rintro rfl
          exact hk2 ha⟩
      have sub2 : ∀ x ∈ ks ++ [c.k], x ∈ K := fun x hx => (List.mem_append.mp hx).elim (hsub x) fun h => by
        rw [List.mem_singleton.mp h]
        exact hk c hcm
      have l2 := nodup_len nd2 sub2
      have w3 : ¬ (6 : Int) < (ks ++ [c.k]).length := by omega
      simp_arith [hc2, cT, w1, List.length_map, z1, z2, hk2, hw, w3, map_snoc]
      exact goes_nx ⟨ks ++ [c.k], ⟨nd2, sub2⟩, rfl, _, _, rfl⟩)
  subst e h1
  simp_arith []
  exact ⟨_, rfl⟩
end SF
set_option Elab.async false
set_option linter.all false
set_option maxRecDepth 100000
namespace SF
open PySem PySem.Spec L2 TL
open PyProof.Rows hiding St
abbrev kS (l : List Str) : List Key := l.map Sum.inr
def getS : List Str → List Str → Str → Str
  | k :: ks, v :: vs, a => if k = a then v else getS ks vs a
  | _, _, _ => ⟨#[]⟩
def updS (ks vs : List Str) (a v : Str) : List Str := List.zipWith (fun k u => if k = a then v else u) ks vs
def giveS (ks vs : List Str) (g : List (Str × Str)) : List Str := g.foldl (fun vs p => updS ks vs p.1 p.2) vs
theorem updS_len {ks vs : List Str} (h : vs.length = ks.length) (a v : Str) : (updS ks vs a v).length = ks.length := by
  unfold updS
  rw [List.length_zipWith]
  omega
theorem giveS_len {ks : List Str} : ∀ {g : List (Str × Str)} {vs : List Str}, vs.length = ks.length → (giveS ks vs g).length = ks.length
  | [], _, h => h
  | p :: g, vs, h => giveS_len (g := g) (updS_len h p.1 p.2)
theorem inr_eq {a b : Str} : ((Sum.inr a : Key) = Sum.inr b) ↔ a = b := ⟨fun h => Sum.inr.inj h, fun h => by rw [h]⟩
theorem any_S {ks : List Str} {a : Str} (m : a ∈ ks) : (kS ks).any (fun k => decide (k = Sum.inr a)) = true := List.any_eq_true.mpr ⟨_, List.mem_map_of_mem m, by simp⟩
theorem merge_new : ∀ {prs : List (Key × T)} {ks : List Key} {ts : List T}, ks.length = ts.length → (ks ++ prs.map (·.1)).Nodup → mergeT (ks, ts) prs = (ks ++ prs.map (·.1), ts ++ prs.map (·.2))
  | [], ks, ts, _, _ => by simp [mergeT]
  | (k, t) :: prs, ks, ts, hl, h => by
    have hk : k ∉ ks := fun m => by
      rw [List.nodup_append] at h
      exact h.2.2 k m k (by simp) rfl
    have e : putK' ks ts k t = (ks ++ [k], ts ++ [t]) := by
      unfold putK'
      rw [if_neg]
      intro z
      obtain ⟨y, hy, q⟩ := List.any_eq_true.mp z
      exact hk (of_decide_eq_true q ▸ hy)
    have ih := merge_new (prs := prs) (ks := ks ++ [k]) (ts := ts ++ [t]) (by simp [hl]) (by simpa using h)
    show mergeT (putK' ks ts k t) prs = _
    rw [e, ih]
    simp
theorem merge_nil {prs : List (Key × T)} (h : (prs.map (·.1)).Nodup) : mergeT ([], []) prs = (prs.map (·.1), prs.map (·.2)) := by
  have := merge_new (prs := prs) (ks := []) (ts := []) rfl (by simpa using h)
  simpa using this
theorem nodup_inr {l : List Str} (h : l.Nodup) : (kS l).Nodup := List.Pairwise.map _ (fun _ _ n z => n (Sum.inr.inj z)) h
def findC (cs : List Code) (x : Str) : Option Code := cs.find? fun c => decide (c.w = x)
theorem getK_C (f : Code → T) : ∀ (cs : List Code) (x : Str), getK (cs.map fun c => Sum.inr c.w) (cs.map f) (.inr x) = (findC cs x).map f
  | [], _ => rfl
  | c :: cs, x => by
    simp only [List.map_cons, getK, findC, inr_eq, List.find?_cons]
    by_cases e : c.w = x
    · rw [if_pos e]
      simp [e]
    · rw [if_neg e, getK_C f cs x]
      simp [e, findC]
theorem findC_mem {cs : List Code} {x : Str} {c : Code} (h : findC cs x = some c) : c ∈ cs ∧ c.w = x := ⟨List.mem_of_find?_eq_some h, by simpa using List.find?_some h⟩
theorem findC_none {cs : List Code} {x : Str} (h : findC cs x = none) : ∀ c ∈ cs, c.w ≠ x := fun c hc e => by
  have := List.find?_eq_none.mp h c hc
  simp [e] at this
structure Si (x : Str) : Prop where
  sg : Sg x true
  sh : ∀ b S, m_shown_at [bT b, .str x] S = .ok (tS (if x = "\n" then [] else if x = " " then b.sh else b.asp)) S
  nl : ∀ S, TL.eqT S (.str x) (.str "\n") = some (.bl (decide (x = "\n")))
  bl : ∀ S, TL.eqT S (.str x) (.str " ") = some (.bl (decide (x = " ")))
def leftS (b : Bk) (t : List Str) : List Str → List Str → List Str
  | vs, [] => vs
  | vs, x :: r => match findC b.cs x with
    | some c => leftS b t (if c.k ∈ t then giveS b.asp vs c.g else vs) r
    | none => leftS b t vs r
end SF
set_option Elab.async false
set_option linter.all false
set_option maxRecDepth 100000
namespace SF
open PySem PySem.Spec L2 TL
open PyProof.Rows hiding St
theorem need_book_ok {b : Bk} (G : GB b) : Pu m_need_book [bT b] (bT b) := by
  intro S
  have hJ := need_codes_ok G S
  have ha := G.asp
  have hs := G.sh
  unfold m_need_book b_need_book bT
  generalize m_need_codes = f1 at hJ ⊢
  generalize m_are_names = f2 at ha hs ⊢
  have l1 : (b.asp.length : Int) ≠ 0 := by
    intro z
    exact G.asp0 (List.length_eq_zero_iff.mp (by omega))
  have l2 : ¬ (16 : Int) < b.cs.length := by
    have := G.len
    omega
  have l3 : b.sh.length ≤ sizeLine := small16 (by have := G.shz; omega)
  simp_arith [ha, hs, List.length_map, l1, l2, l3]
  rw [lc_map (r := fun _ => .bl true) fun x hx => ?a]
  case a =>
    obtain ⟨p, hp, rfl⟩ := List.mem_map.mp hx
    exact ⟨_, rfl, slots1 _ _, rfl, by simp_arith [G.sub p hp]⟩
  simp_arith [all_lst, hJ, List.length_map, l2]
structure GI (b : Bk) (xs : List Str) : Prop where
  len : xs.length ≤ 200
  it : ∀ x ∈ xs, (∃ c ∈ b.cs, c.w = x) ∨ Si x
structure GW (b : Bk) : Prop where
  gb : GB b
  sg : ∀ c ∈ b.cs, Sg c.w false
  gin : ∀ c ∈ b.cs, ∀ p ∈ c.g, p.1 ∈ b.asp
  and : b.asp.Nodup
  gz : ∀ c ∈ b.cs, c.g.length ≤ 6
  asz : b.asp.length ≤ 6
theorem Si.not {b : Bk} (W : GW b) {x : Str} (h : Si x) : findC b.cs x = none := by
  cases e : findC b.cs x with
  | none => rfl
  | some c =>
    obtain ⟨hc, rfl⟩ := findC_mem e
    have h1 := h.sg []
    have h2 := W.sg c hc []
    rw [h1] at h2
    simp at h2
theorem GI.find {b : Bk} (W : GW b) {xs : List Str} (I : GI b xs) {x : Str} (hx : x ∈ xs) : (∃ c ∈ b.cs, c.w = x ∧ findC b.cs x = some c ∧ Sg x false) ∨ (Si x ∧ findC b.cs x = none) := by
  rcases I.it x hx with ⟨c, hc, rfl⟩ | h
  · cases e : findC b.cs c.w with
    | none => exact absurd rfl (findC_none e c hc)
    | some d =>
      obtain ⟨hd, e2⟩ := findC_mem e
      exact .inl ⟨d, hd, e2, rfl, W.sg c hc⟩
  · exact .inr ⟨h, h.not W⟩
theorem words_of_ok {b : Bk} (W : GW b) : Pu m_words_of [bT b] (.lst ((b.cs.map (·.w)).map T.str)) := by
  intro S
  unfold m_words_of b_words_of
  have l2 : b.cs.length ≤ sizeLine := small16 (by have := W.gb.len; omega)
  simp_arith [bT]
  rw [lc_map (r := fstT) fun x hx => ?a]
  case a =>
    obtain ⟨p, hp, rfl⟩ := List.mem_map.mp hx
    exact ⟨_, rfl, slots1 _ _, rfl, by simp_arith [cT, fstT]⟩
  have e1 : (b.cs.map cT).map fstT = (b.cs.map (·.w)).map T.str := by
    rw [List.map_map, List.map_map]
    exact List.map_congr_left fun _ _ => rfl
  simp_arith [e1, List.length_map, l2]
end SF
set_option Elab.async false
set_option linter.all false
set_option maxRecDepth 100000
namespace SF
open PySem PySem.Spec L2 TL
open PyProof.Rows hiding St
theorem ix_codes (f : Code → T) (cs : List Code) (x : Str) (S : Sto) : ixT S (.dct (cs.map fun c => Sum.inr c.w) (cs.map f)) (.str x) = (findC cs x).map f := by
  show ((keyT (.str x)).bind fun k => getK _ _ k) = _
  exact getK_C f cs x
def kOf : T → Key
  | .tup (.str w :: _) => .inr w
  | _ => .inl 0
theorem codes_dc {b : Bk} (W : GW b) (f : Code → T) : mergeT ([], []) (b.cs.map fun c => ((Sum.inr c.w : Key), f c)) = (b.cs.map fun c => Sum.inr c.w, b.cs.map f) := by
  rw [merge_nil, List.map_map, List.map_map]
  · rfl
  · rw [List.map_map]
    have h := nodup_inr W.gb.nd
    unfold kS at h
    rw [List.map_map] at h
    exact h
theorem codes_by_word_ok {b : Bk} (W : GW b) : Pu m_codes_by_word [bT b] (.dct (b.cs.map fun c => Sum.inr c.w) (b.cs.map cT)) := by
  intro S
  unfold m_codes_by_word b_codes_by_word
  have z1 : b.cs.length ≤ sizeLine := small16 (by have := W.gb.len; omega)
  have i2 : ∀ S, ixT S (bT b) (.int 2) = some (.tup (b.cs.map cT)) := fun S => rfl
  simp_arith [i2, List.length_map, z1]
  rw [dc_map (k := kOf) (r := id) fun x hx => ?a]
  case a =>
    obtain ⟨c, hc, rfl⟩ := List.mem_map.mp hx
    exact ⟨_, rfl, slots1 _ _, rfl, by simp_arith [cT, kOf, tKey], by simp_arith [id]⟩
  have e1 : (b.cs.map cT).map (fun x => (kOf x, id x)) = b.cs.map fun c => ((Sum.inr c.w : Key), cT c) := by
    rw [List.map_map]
    exact List.map_congr_left fun _ _ => rfl
  simp_arith [e1, codes_dc W cT]
end SF
set_option Elab.async false
set_option linter.all false
set_option maxRecDepth 100000
namespace SF
open PySem PySem.Spec L2 TL
open PyProof.Rows hiding St
def signS (b : Bk) (xs : List Str) : List Str := xs.filter fun x => (findC b.cs x).isNone
theorem add_lst {a b : List T} (h : a.length + b.length ≤ sizeLine) (S : Sto) : addT S (.lst a) (.lst b) = some (.lst (a ++ b)) := by
  show (if a.length + b.length ≤ sizeLine then some (T.lst (a ++ b)) else none) = _
  rw [if_pos h]
end SF
set_option Elab.async false
set_option linter.all false
set_option maxRecDepth 100000
namespace SF
open PySem PySem.Spec L2 TL
open PyProof.Rows hiding St
def Rp (x : Str) : Prop := (reprText x).length ≤ 100 ∧ PyData.strOk (reprText x) = true ∧ PyData.strOk x = true
structure Nice (n m : Nat) (d : PyData) : Prop where
  lay : d.canLay0 = true
  eqv : PyData.eqv d d = true
  sh : d.showable = true
  hd : d.hasDict = false
  dp : d.depth ≤ n
  ln : d.shown.length ≤ m
  ok : PyData.strOk d.shown = true
theorem Nice.str {x : Str} (h : Rp x) : Nice 0 100 (.str x) :=
  ⟨by simp only [PyData.canLay0]; exact h.2.2, by simp only [PyData.eqv]; exact beq_self_eq_true x, by simp only [PyData.showable], by simp only [PyData.hasDict], by simp only [PyData.depth]; exact Nat.le_refl _, by simp only [PyData.shown]; exact h.1, by simp only [PyData.shown]; exact h.2.1⟩
theorem strOk_app {a b : Str} (h : PyData.strOk a = true) (g : PyData.strOk b = true) : PyData.strOk (a ++ b) = true := by
  unfold PyData.strOk at *
  show (a.cps ++ b.cps).all _ = true
  rw [Array.all_append, h, g]
  rfl
theorem strOk_join : ∀ {ts : List Str}, (∀ t ∈ ts, PyData.strOk t = true) → PyData.strOk (Str.join ", " ts) = true
  | [], _ => by decide +kernel
  | [x], h => h x List.mem_cons_self
  | x :: y :: r, h => by
    have ih := strOk_join (ts := y :: r) fun t ht => h t (List.mem_cons_of_mem _ ht)
    show PyData.strOk (x ++ ", " ++ Str.join ", " (y :: r)) = true
    exact strOk_app (strOk_app (h x List.mem_cons_self) (by decide +kernel)) ih
theorem piled_le {m : Nat} : ∀ {ts : List Str}, (∀ t ∈ ts, t.length ≤ m) → piled ts ≤ ts.length * (m + 2)
  | [], _ => by simp [piled]
  | t :: ts, h => by
    have ih := piled_le (ts := ts) fun u hu => h u (List.mem_cons_of_mem _ hu)
    have h1 := h t List.mem_cons_self
    rw [piled_cons, List.length_cons, Nat.add_mul]
    omega
theorem tupleText_le {m : Nat} {ts : List Str} (h : ∀ t ∈ ts, t.length ≤ m) : (tupleText ts).length ≤ 3 + ts.length * (m + 2) := by
  unfold tupleText
  rw [strLen_append, strLen_append]
  have e1 : ((("(" : String) : Str)).length = 1 := rfl
  have e3 : (((if ts.length == 1 then ",)" else ")" : String) : Str)).length ≤ 2 := by split <;> decide
  have hp := piled_le h
  cases ts with
  | nil =>
    have e2 : (Str.join ", " []).length = 0 := rfl
    omega
  | cons t r =>
    have e2 := join_length_add (t :: r) (by simp)
    omega
theorem shownAll_map : ∀ ds : List PyData, PyData.shownAll ds = ds.map PyData.shown
  | [] => by simp only [PyData.shownAll, List.map_nil]
  | d :: ds => by simp only [PyData.shownAll, List.map_cons, shownAll_map ds]
theorem Nice.tup {n m k : Nat} {ds : List PyData} (h : ∀ d ∈ ds, Nice n m d) (hk : ds.length ≤ k) : Nice (n + 1) (3 + k * (m + 2)) (.tuple ds) := by
  have a1 : ∀ {ds : List PyData}, (∀ d ∈ ds, Nice n m d) → PyData.canLayAll0 ds = true ∧ PyData.eqvAll ds ds = true ∧ PyData.showableAll ds = true ∧ PyData.hasDictAll ds = false ∧ PyData.depthAll ds ≤ n := fun {ds} h => by
    induction ds with
    | nil => exact ⟨by simp only [PyData.canLayAll0], by simp only [PyData.eqvAll], by simp only [PyData.showableAll], by simp only [PyData.hasDictAll], by simp only [PyData.depthAll]; exact Nat.zero_le _⟩
    | cons d ds ih =>
      obtain ⟨q1, q2, q3, q4, q5⟩ := ih fun x hx => h x (List.mem_cons_of_mem _ hx)
      have g := h d List.mem_cons_self
      exact ⟨by simp only [PyData.canLayAll0, g.lay, q1, Bool.and_self], by simp only [PyData.eqvAll, g.eqv, q2, Bool.and_self], by simp only [PyData.showableAll, g.sh, q3, Bool.and_self], by simp only [PyData.hasDictAll, g.hd, q4, Bool.or_self], by
        simp only [PyData.depthAll]
        exact Nat.max_le.mpr ⟨g.dp, q5⟩⟩
  obtain ⟨q1, q2, q3, q4, q5⟩ := a1 h
  have hs : ∀ t ∈ ds.map PyData.shown, t.length ≤ m ∧ PyData.strOk t = true := fun t ht => by
    obtain ⟨d, hd, rfl⟩ := List.mem_map.mp ht
    exact ⟨(h d hd).ln, (h d hd).ok⟩
  refine ⟨by simp only [PyData.canLay0]; exact q1, by simp only [PyData.eqv]; exact q2, by simp only [PyData.showable]; exact q3, by simp only [PyData.hasDict]; exact q4, by simp only [PyData.depth]; omega, ?_, ?_⟩
  · simp only [PyData.shown, shownAll_map]
    have := tupleText_le (ts := ds.map PyData.shown) fun t ht => (hs t ht).1
    rw [List.length_map] at this
    exact Nat.le_trans this (Nat.add_le_add_left (Nat.mul_le_mul_right _ hk) _)
  · simp only [PyData.shown, shownAll_map]
    unfold tupleText
    refine strOk_app (strOk_app (by decide +kernel) (strOk_join fun t ht => (hs t ht).2)) ?_
    split <;> decide +kernel
def NiceT (n m : Nat) (t : T) : Prop := ∃ d, toD t = some d ∧ Nice n m d ∧ dispD d = true
theorem toDs_of : ∀ {ts : List T} {P : PyData → Prop}, (∀ t ∈ ts, ∃ d, toD t = some d ∧ P d) → ∃ ds, toDs ts = some ds ∧ ds.length = ts.length ∧ ∀ d ∈ ds, P d
  | [], _, _ => ⟨[], by simp only [toDs], rfl, fun d h => nomatch h⟩
  | t :: ts, P, h => by
    obtain ⟨d, e, p⟩ := h t List.mem_cons_self
    obtain ⟨ds, es, hl, hp⟩ := toDs_of fun u hu => h u (List.mem_cons_of_mem _ hu)
    refine ⟨d :: ds, by simp only [toDs, e, es, Option.bind_some], by simp [hl], fun x hx => ?_⟩
    rcases List.mem_cons.mp hx with rfl | hx
    · exact p
    · exact hp x hx
theorem NiceT.tup {n m k : Nat} {ts : List T} (h : ∀ t ∈ ts, ∃ d, toD t = some d ∧ Nice n m d) (hk : ts.length ≤ k) : NiceT (n + 1) (3 + k * (m + 2)) (.tup ts) := by
  obtain ⟨ds, e, hl, hp⟩ := toDs_of h
  exact ⟨.tuple ds, by simp only [toD, e, Option.map_some], Nice.tup hp (by omega), rfl⟩
theorem NiceT.ne {n m : Nat} {t : T} (h : NiceT n m t) (hn : n ≤ 60) (S : Sto) : TL.neT S t t = some (.bl false) ∧ TL.eqT S t t = some (.bl true) := by
  obtain ⟨d, e, g, hd⟩ := h
  have e1 : toD1 S t = some d := by
    cases t with
    | ref i => simp only [toD] at e; cases e
    | _ => exact e
  have sh : SeqAt.shaped d = true := by
    unfold SeqAt.shaped
    rw [g.lay, decide_eq_true (show d.depth ≤ 64 by have := g.dp; omega)]
    rfl
  unfold TL.neT TL.eqT eqB
  simp only [e1, sh, Bool.and_self, if_true, g.eqv, Option.map_some, Bool.not_true, and_self]
theorem NiceT.repr {n m : Nat} {t : T} (h : NiceT n m t) (hn : n ≤ 60) (hm : m ≤ sizeLine) (S : Sto) : ∃ s, reprT S [t] = some (.str s) ∧ TL.neT S (.str s) (.str s) = some (.bl false) := by
  obtain ⟨d, e, g, hd⟩ := h
  have e1 : toD1 S t = some d := by
    cases t with
    | ref i => simp only [toD] at e; cases e
    | _ => exact e
  refine ⟨d.shown, ?_, ?_⟩
  · unfold reprT
    simp only [e1, Option.bind_some]
    rw [if_pos]
    rw [hd, g.sh, g.hd, decide_eq_true (show d.depth ≤ 60 by have := g.dp; omega), decide_eq_true (show d.shown.length ≤ sizeLine from Nat.le_trans g.ln hm)]
    rfl
  · have sh : SeqAt.shaped (.str d.shown) = true := by
      unfold SeqAt.shaped
      simp only [PyData.canLay0, g.ok, PyData.depth]
      rfl
    unfold TL.neT eqB
    simp only [toD1, toD, sh, Bool.and_self, if_true, PyData.eqv, beq_self_eq_true, Option.map_some, Bool.not_true]
theorem updS_mem {ks vs : List Str} {a v x : Str} (h : x ∈ updS ks vs a v) : x = v ∨ x ∈ vs := by
  unfold updS at h
  obtain ⟨i, hi, e⟩ := List.mem_iff_getElem.mp h
  rw [List.getElem_zipWith] at e
  split at e
  · exact .inl e.symm
  · exact .inr (e ▸ List.getElem_mem _)
theorem giveS_mem {ks : List Str} {x : Str} : ∀ {g : List (Str × Str)} {vs : List Str}, x ∈ giveS ks vs g → x ∈ vs ∨ ∃ p ∈ g, x = p.2
  | [], _, h => .inl h
  | p :: g, vs, h => by
    rcases giveS_mem (g := g) (vs := updS ks vs p.1 p.2) h with q | ⟨r, hr, e⟩
    · rcases updS_mem q with e | q
      · exact .inr ⟨p, List.mem_cons_self, e⟩
      · exact .inl q
    · exact .inr ⟨r, List.mem_cons_of_mem _ hr, e⟩
structure GL (b : Bk) : Prop where
  w : GW b
  val : ∀ c ∈ b.cs, ∀ p ∈ c.g, Nm p.2 ∧ Rp p.2
def VB (b : Bk) (vs : List Str) : Prop := vs.length = b.asp.length ∧ ∀ v ∈ vs, Nm v ∧ Rp v
theorem VB.give {b : Bk} (L : GL b) {vs : List Str} (h : VB b vs) {c : Code} (hc : c ∈ b.cs) : VB b (giveS b.asp vs c.g) :=
  ⟨giveS_len h.1, fun v hv => (giveS_mem hv).elim (h.2 v) fun ⟨p, hp, e⟩ => by rw [e]; exact L.val c hc p hp⟩
theorem VB.left {b : Bk} (L : GL b) {t : List Str} : ∀ {xs vs : List Str}, VB b vs → VB b (leftS b t vs xs)
  | [], _, h => h
  | x :: xs, vs, h => by
    unfold leftS
    cases e : findC b.cs x with
    | none => exact VB.left L h
    | some c =>
      simp only
      split
      · exact VB.left L (h.give L (findC_mem e).1)
      · exact VB.left L h
end SF
set_option Elab.async false
set_option linter.all false
set_option maxRecDepth 100000
namespace SF
open PySem PySem.Spec L2 TL
open PyProof.Rows hiding St
theorem GI.sub {b : Bk} {xs ys : List Str} (I : GI b xs) (h : ys.Sublist xs) : GI b ys := ⟨Nat.le_trans h.length_le I.len, fun x hx => I.it x (h.subset hx)⟩
theorem getS_self : ∀ {ks vs : List Str}, vs.length = ks.length → ks.Nodup → ks.map (getS ks vs) = vs
  | [], [], _, _ => rfl
  | [], _ :: _, h, _ => by simp at h
  | _ :: _, [], h, _ => by simp at h
  | k :: ks, v :: vs, h, nd => by
    obtain ⟨n1, n2⟩ := List.nodup_cons.mp nd
    rw [List.map_cons]
    congr 1
    · unfold getS
      rw [if_pos rfl]
    · have ih := getS_self (ks := ks) (vs := vs) (by simpa using h) n2
      have e : ks.map (getS (k :: ks) (v :: vs)) = ks.map (getS ks vs) := List.map_congr_left fun a ha => by
        show (if k = a then v else getS ks vs a) = _
        exact if_neg (by rintro rfl; exact n1 ha)
      rw [e, ih]
theorem add_tup {a b : List T} (h : a.length + b.length ≤ sizeLine) (S : Sto) : addT S (.tup a) (.tup b) = some (.tup (a ++ b)) := by
  show (if a.length + b.length ≤ sizeLine then some (T.tup (a ++ b)) else none) = _
  rw [if_pos h]
end SF
set_option Elab.async false
set_option linter.all false
set_option maxRecDepth 100000
namespace SF
open PySem PySem.Spec L2 TL
open PyProof.Rows hiding St
theorem mod_int {i j : Int} (h : 0 < j) (S : Sto) : modT S (.int i) (.int j) = some (.int (i % j)) := by
  unfold modT intsT
  simp only [decide_eq_true h, if_true]
theorem add_int (i j : Int) (S : Sto) : addT S (.int i) (.int j) = some (.int (i + j)) := rfl
theorem mul_int {i j : Int} (h : (-(2 ^ 64) < i ∧ i < 2 ^ 64) ∨ (-(2 ^ 64) < j ∧ j < 2 ^ 64)) (S : Sto) : mulT S (.int i) (.int j) = some (.int (i * j)) := by
  unfold mulT intsT
  simp only
  rw [if_pos]
  rcases h with h | h
  · rw [decide_eq_true h.1, decide_eq_true h.2]; rfl
  · rw [decide_eq_true h.1, decide_eq_true h.2]; simp
theorem fdiv_int {i j : Int} (h : 0 < j ∧ j < 1073741824) (S : Sto) : fdivT S (.int i) (.int j) = some (.int (i / j)) := by
  unfold fdivT intsT
  simp only [decide_eq_true h.1, decide_eq_true h.2, Bool.and_self, if_true]
theorem int_int (i : Int) (S : Sto) : intT S [.int i] = some (.int i) := rfl
theorem mixed_ok (c : Int) {k : Int} (h0 : 0 ≤ k) (h1 : k < 2 ^ 62) (S : Sto) : ∃ r, m__law_mixed [.int c, .int k] S = .ok (.int r) S ∧ 0 ≤ r ∧ r < 2147483629 := by
  unfold m__law_mixed b__law_mixed
  have m1 := Int.emod_nonneg c (show (2147483647 : Int) ≠ 0 by decide)
  have m2 := Int.emod_lt_of_pos c (show (0 : Int) < 2147483647 by decide)
  have e1 : ∀ S, modT S (.int c) (.int 2147483647) = some (.int (c % 2147483647)) := mod_int (by decide)
  generalize c % 2147483647 = d at m1 m2 e1
  have e2 : ∀ S, mulT S (.int 2) (.int k) = some (.int (2 * k)) := mul_int (.inl (by decide))
  have e3 : ∀ S, mulT S (.int (2 * k)) (.int k) = some (.int (2 * k * k)) := mul_int (.inr (by omega))
  have e4 : ∀ x S, mulT S (.int d) (.int x) = some (.int (d * x)) := fun x => mul_int (.inl (by omega))
  have e5 : ∀ S, mulT S (.int 69621) (.int k) = some (.int (69621 * k)) := mul_int (.inl (by decide))
  have e6 : ∀ x S, modT S (.int x) (.int 2147483647) = some (.int (x % 2147483647)) := fun x => mod_int (by decide)
  have e7 : ∀ x S, mulT S (.int x) (.int 69621) = some (.int (x * 69621)) := fun x => mul_int (.inr (by decide))
  have e8 : ∀ x S, modT S (.int x) (.int 2147483629) = some (.int (x % 2147483629)) := fun x => mod_int (by decide)
  simp_arith [int_int, e1, e2, e3, e4, e5, e6, e7, e8, add_int]
  exact ⟨_, rfl, Int.emod_nonneg _ (by decide), Int.emod_lt_of_pos _ (by decide)⟩
def K4 : List Key := kS ["cells", "lefts", "at", "room"]
def DD (cs : List Int) (a : Nat) : T := .dct K4 [.lst (cs.map T.int), .ref 0, .int a, .int 0]
def S2 (ls cs : List Int) (a : Nat) (R : Sto) : Sto := .lst (ls.map T.int) :: DD cs a :: R
theorem S2_ref1 (ls cs : List Int) (a : Nat) (R : Sto) : (S2 ls cs a R)[1]? = some (DD cs a) := rfl
theorem dct_1 (ls cs : List Int) (a : Nat) (R : Sto) : dctT (S2 ls cs a R) (.ref 1) = some (K4, [.lst (cs.map T.int), .ref 0, .int a, .int 0]) := by
  unfold dctT
  simp only [S2_ref1, DD]
theorem ix_at (ls cs : List Int) (a : Nat) (R : Sto) : ixT (S2 ls cs a R) (.ref 1) (.str "at") = some (.int a) := by
  unfold ixT
  rw [dct_1]
  rfl
theorem ix_cells (ls cs : List Int) (a : Nat) (R : Sto) : ixT (S2 ls cs a R) (.ref 1) (.str "cells") = some (.lst (cs.map T.int)) := by
  unfold ixT
  rw [dct_1]
  rfl
theorem ix_lefts (ls cs : List Int) (a : Nat) (R : Sto) : ixT (S2 ls cs a R) (.ref 1) (.str "lefts") = some (.ref 0) := by
  unfold ixT
  rw [dct_1]
  rfl
theorem ix_of {ls : List Int} {x : T} {S : Sto} {p : Nat} (hs : seqL S x = some (ls.map T.int)) (hd : dctT S x = none) (hx : ∀ ts, x ≠ .tup ts) (hy : ∀ s, x ≠ .str s) (h : p < ls.length) : ixT S x (.int p) = some (.int (ls[p])) := by
  have hi : ixN (ls.map T.int).length (p : Int) = some p := by
    unfold ixN
    rw [if_pos (by omega), if_pos (by rw [List.length_map]; omega)]
    simp
  have e : (seqL S x).bind (fun ts => atI ts (p : Int)) = some (.int ls[p]) := by
    rw [hs, Option.bind_some]
    unfold atI
    rw [hi]
    simp [h]
  unfold ixT
  rw [hd]
  cases x with
  | tup ts => exact absurd rfl (hx ts)
  | str s => exact absurd rfl (hy s)
  | _ => exact e
theorem set_at (ls cs : List Int) (a : Nat) (R : Sto) (b : Nat) : setT (S2 ls cs a R) (.ref 1) (.str "at") (.int b) = some (S2 ls cs b R) := by
  unfold setT
  simp only [S2_ref1, DD]
  rfl
theorem set_left (ls cs : List Int) (a : Nat) (R : Sto) {p : Nat} (v : Int) (h : p < ls.length) : setT (S2 ls cs a R) (.ref 0) (.int p) (.int v) = some (S2 (ls.set p v) cs a R) := by
  have hi : ixN (ls.map T.int).length (p : Int) = some p := by
    unfold ixN
    rw [if_pos (by omega), if_pos (by rw [List.length_map]; omega)]
    simp
  unfold setT
  simp only [S2, List.getElem?_cons_zero, hi, Option.map_some, List.set_cons_zero, List.map_set]
theorem draw_ok {m : Int} (hm : 0 < m ∧ m < 1073741824) {ls cs : List Int} {a : Nat} {R : Sto} (hl : ls.length = cs.length) (hc : cs ≠ []) (ha : a < 2 ^ 60) :
    ∃ r ls', m__law_draw [.ref 1, .int m] (S2 ls cs a R) = .ok (.int r) (S2 ls' cs (a + 1) R) ∧ 0 ≤ r ∧ r < m ∧ ls'.length = cs.length := by
  unfold m__law_draw b__law_draw
  have hn : 0 < cs.length := List.length_pos_iff.mpr hc
  obtain ⟨p, hp1, hp2⟩ : ∃ p : Nat, (a : Int) % (cs.length : Int) = p ∧ p < cs.length := ⟨a % cs.length, by rw [Int.natCast_emod], Nat.mod_lt _ hn⟩
  have e1 : ∀ S, modT S (.int a) (.int cs.length) = some (.int p) := fun S => by rw [mod_int (by omega), hp1]
  have e2 : ((a : Int) + 1) = ((a + 1 : Nat) : Int) := by omega
  have e3 : ixT (S2 ls cs (a + 1) R) (.ref 0) (.int p) = some (.int (ls[p]'(by omega))) := ix_of rfl rfl (fun _ => by simp) (fun _ => by simp) (by omega)
  have e4 : ∀ S, ixT S (.lst (cs.map T.int)) (.int p) = some (.int (cs[p])) := fun S => ix_of rfl rfl (fun _ => by simp) (fun _ => by simp) hp2
  have e5 : ∀ S, lenT S [.lst (cs.map T.int)] = some (.int cs.length) := fun S => by rw [len_lst, List.length_map]
  have mx : ∀ (c : Int) (k : Int), 0 ≤ k → k < 2 ^ 62 → ∀ S, ∃ r, m__law_mixed [.int c, .int k] S = .ok (.int r) S ∧ 0 ≤ r ∧ r < 2147483629 := fun c k h0 h1 S => mixed_ok c h0 h1 S
  generalize m__law_mixed = f1 at mx ⊢
  have ls1 : (0 : Int) < ls[p]'(by omega) ∨ ¬ (0 : Int) < ls[p]'(by omega) := by omega
  have st := fun v => set_left ls cs (a + 1) R (p := p) v (by omega)
  generalize ls[p]'(by omega) = l at e3 ls1
  rcases ls1 with hl0 | hl0
  · have d1 : ∀ S, fdivT S (.int l) (.int m) = some (.int (l / m)) := fdiv_int hm
    have d2 : ∀ S, modT S (.int l) (.int m) = some (.int (l % m)) := mod_int hm.1
    simp_arith [ix_at, bStore, add_int, e2, set_at, int_int, ix_cells, e5, e1, ix_lefts, e3, hl0, d1, st, d2]
    exact ⟨_, _, rfl, Int.emod_nonneg _ (by omega), Int.emod_lt_of_pos _ hm.1, by rw [List.length_set]; exact hl⟩
  · obtain ⟨r1, h1, b1, c1⟩ := mx cs[p] a (by omega) (by omega) (S2 ls cs (a + 1) R)
    obtain ⟨r2, h2, b2, c2⟩ := mx r1 (40 + a) (by omega) (by omega) (S2 ls cs (a + 1) R)
    obtain ⟨r3, h3, b3, c3⟩ := mx r2 (7 + a) (by omega) (by omega) (S2 ls cs (a + 1) R)
    have d1 : ∀ S, mulT S (.int r2) (.int 2147483647) = some (.int (r2 * 2147483647)) := mul_int (.inr (by decide))
    have d2 : ∀ x S, fdivT S (.int x) (.int 64) = some (.int (x / 64)) := fun x => fdiv_int (by decide)
    have d3 : ∀ x S, modT S (.int x) (.int m) = some (.int (x % m)) := fun x => mod_int hm.1
    simp_arith [ix_at, bStore, add_int, e2, set_at, int_int, ix_cells, e5, e1, ix_lefts, e3, hl0, e4, h1, h2, h3, d1, d2, d3]
    exact ⟨_, _, rfl, Int.emod_nonneg _ (by omega), Int.emod_lt_of_pos _ hm.1, hl⟩
end SF
set_option Elab.async false
set_option linter.all false
set_option maxRecDepth 100000
namespace SF
open PySem PySem.Spec L2 TL
open PyProof.Rows hiding St
def L3 : List Str := ["a", "b", "c"]
def V4 : List Str := ["plain", "u", "v", "zz"]
def K3 : List Str := ["j", "k", "l"]
def W8 : List Str := ["1", "2", "22", "3;4", "0", "38;5;1", "9", "44"]
def G5 : List Str := ["x", "y", " ", "z", "\n"]
def T5 : List Str := ["a", "j", "k", "l", "zz"]
def subls {α : Type} : List α → List (List α)
  | [] => [[]]
  | x :: r => subls r ++ (subls r).map (x :: ·)
theorem mem_subs {α : Type} : ∀ {L l : List α}, l.Sublist L → l ∈ subls L
  | [], l, h => by
    rw [List.sublist_nil.mp h]
    exact List.mem_singleton.mpr rfl
  | x :: L, l, h => by
    unfold subls
    rcases List.sublist_cons_iff.mp h with h2 | ⟨r, rfl, h2⟩
    · exact List.mem_append_left _ (mem_subs h2)
    · exact List.mem_append_right _ (List.mem_map_of_mem (mem_subs h2))
theorem all_of {α : Type} {P : α → Prop} : ∀ {L : List α}, (List.foldr (fun x q => P x ∧ q) True L) → ∀ x ∈ L, P x
  | [], _, x, h => nomatch h
  | y :: L, h, x, hx => by
    rcases List.mem_cons.mp hx with rfl | hx
    · exact h.1
    · exact all_of h.2 x hx
theorem nm_all : ∀ x ∈ L3 ++ V4 ++ K3, Nm x := all_of ⟨fun _ => by kernel_rfl, fun _ => by kernel_rfl, fun _ => by kernel_rfl, fun _ => by kernel_rfl, fun _ => by kernel_rfl, fun _ => by kernel_rfl, fun _ => by kernel_rfl, fun _ => by kernel_rfl, fun _ => by kernel_rfl, fun _ => by kernel_rfl, trivial⟩
theorem wd_all : ∀ x ∈ W8, Wd x ∧ Sg x false := all_of ⟨⟨fun _ => by kernel_rfl, fun _ => by kernel_rfl⟩, ⟨fun _ => by kernel_rfl, fun _ => by kernel_rfl⟩, ⟨fun _ => by kernel_rfl, fun _ => by kernel_rfl⟩, ⟨fun _ => by kernel_rfl, fun _ => by kernel_rfl⟩, ⟨fun _ => by kernel_rfl, fun _ => by kernel_rfl⟩, ⟨fun _ => by kernel_rfl, fun _ => by kernel_rfl⟩, ⟨fun _ => by kernel_rfl, fun _ => by kernel_rfl⟩, ⟨fun _ => by kernel_rfl, fun _ => by kernel_rfl⟩, trivial⟩
theorem rp_of {x : Str} (h : (decide ((reprText x).length ≤ 100) && PyData.strOk (reprText x) && PyData.strOk x) = true) : Rp x := by
  simp only [Bool.and_eq_true, decide_eq_true_eq] at h
  exact ⟨h.1.1, h.1.2, h.2⟩
theorem rp_all : ∀ x ∈ L3 ++ V4 ++ K3 ++ W8 ++ G5 ++ T5, Rp x := fun x hx => rp_of (List.all_eq_true.mp (show (L3 ++ V4 ++ K3 ++ W8 ++ G5 ++ T5).all (fun x => decide ((reprText x).length ≤ 100) && PyData.strOk (reprText x) && PyData.strOk x) = true by decide +kernel) x hx)
theorem asp_all : ∀ l ∈ subls L3, ∀ S, m_are_names [tS l, .int 6] S = .ok (.bl true) S := all_of ⟨fun _ => by kernel_rfl, fun _ => by kernel_rfl, fun _ => by kernel_rfl, fun _ => by kernel_rfl, fun _ => by kernel_rfl, fun _ => by kernel_rfl, fun _ => by kernel_rfl, fun _ => by kernel_rfl, trivial⟩
theorem asc_all : ∀ l ∈ subls L3, ∀ S, m_ascend [.lst (l.map T.str)] S = .ok (.bl true) S := all_of ⟨fun _ => by kernel_rfl, fun _ => by kernel_rfl, fun _ => by kernel_rfl, fun _ => by kernel_rfl, fun _ => by kernel_rfl, fun _ => by kernel_rfl, fun _ => by kernel_rfl, fun _ => by kernel_rfl, trivial⟩
structure CL (asp : List Str) (c : Code) : Prop where
  k : c.k ∈ K3
  g0 : c.g ≠ []
  gs : (c.g.map (·.1)).Sublist asp
  gv : ∀ p ∈ c.g, p.2 ∈ V4
structure BL (b : Bk) : Prop where
  asp : b.asp.Sublist L3
  a0 : b.asp ≠ []
  sh : b.sh.Sublist b.asp
  ws : b.cs.map (·.w) = W8.take b.cs.length
  n8 : b.cs.length ≤ 8
  n0 : b.cs ≠ []
  cl : ∀ c ∈ b.cs, CL b.asp c
theorem nd_L3 : L3.Nodup := by decide +kernel
theorem BL.gl {b : Bk} (B : BL b) : GL b := by
  have wm : ∀ c ∈ b.cs, c.w ∈ W8 := fun c hc => by
    have : c.w ∈ b.cs.map (·.w) := List.mem_map_of_mem hc
    rw [B.ws] at this
    exact List.mem_of_mem_take this
  have gl6 : ∀ c ∈ b.cs, c.g.length ≤ 6 := fun c hc => by
    have h1 := ((B.cl c hc).gs.trans B.asp).length_le
    rw [List.length_map] at h1
    have h2 : L3.length = 3 := rfl
    omega
  have gin : ∀ c ∈ b.cs, ∀ p ∈ c.g, p.1 ∈ b.asp := fun c hc p hp => (B.cl c hc).gs.subset (List.mem_map_of_mem hp)
  have inL : ∀ x ∈ L3, x ∈ L3 ++ V4 ++ K3 := fun x hx => List.mem_append_left _ (List.mem_append_left _ hx)
  have inV : ∀ x ∈ V4, x ∈ L3 ++ V4 ++ K3 := fun x hx => List.mem_append_left _ (List.mem_append_right _ hx)
  have inK : ∀ x ∈ K3, x ∈ L3 ++ V4 ++ K3 := fun x hx => List.mem_append_right _ hx
  have l3 : b.asp.length ≤ 3 := B.asp.length_le
  have l4 := B.sh.length_le
  have l8 := B.n8
  refine ⟨⟨⟨asp_all _ (mem_subs B.asp), B.a0, asp_all _ (mem_subs (B.sh.trans B.asp)), fun x hx => B.sh.subset hx, by omega, by omega, fun c hc => ?_, ?_, ⟨K3, by decide, fun c hc => (B.cl c hc).k⟩⟩, fun c hc => (wd_all _ (wm c hc)).2, gin, nd_L3.sublist B.asp, gl6, by omega⟩, fun c hc p hp => ?_⟩
  · have C := B.cl c hc
    have a1 := asc_all _ (mem_subs (C.gs.trans B.asp))
    rw [List.map_map] at a1
    exact is_code_ok (small16 (by have := gl6 c hc; omega)) (wd_all _ (wm c hc)).1 (nm_all _ (inK _ C.k)) (are_gifts_ok C.g0 (small16 (by have := gl6 c hc; omega)) (fun p hp => ⟨nm_all _ (inL _ (B.asp.subset (gin c hc p hp))), nm_all _ (inV _ (C.gv p hp))⟩) a1) (gin c hc)
  · rw [B.ws]
    exact (show W8.Nodup by decide +kernel).sublist (List.take_sublist _ _)
  · exact ⟨nm_all _ (inV _ ((B.cl c hc).gv p hp)), rp_all _ (List.mem_append_left _ (List.mem_append_left _ (List.mem_append_left _ (inV _ ((B.cl c hc).gv p hp)))))⟩
structure XL (b : Bk) (xs : List Str) : Prop where
  len : xs.length ≤ 200
  it : ∀ x ∈ xs, x ∈ b.cs.map (·.w) ∨ x ∈ G5
theorem XL.rp {b : Bk} {xs : List Str} (X : XL b xs) : ∀ x ∈ xs, findC b.cs x = none → Rp x := fun x hx e => by
  rcases X.it x hx with h | h
  · obtain ⟨c, hc, e2⟩ := List.mem_map.mp h
    exact absurd e2 (findC_none e c hc)
  · exact rp_all _ (List.mem_append_left _ (List.mem_append_right _ h))
end SF
set_option Elab.async false
set_option linter.all false
set_option maxRecDepth 100000
namespace SF
open PySem PySem.Spec L2 TL
open PyProof.Rows hiding St
def Dq {α : Type} (cs : List Int) (R : Sto) (n : Nat) (P : α → Prop) (G : Sto → Res α) : Prop := ∀ ls a, ls.length = cs.length → a + n ≤ 2 ^ 60 →
  ∃ r ls' a', G (S2 ls cs a R) = .ok r (S2 ls' cs a' R) ∧ P r ∧ ls'.length = cs.length ∧ a' ≤ a + n
theorem draw_dq {cs : List Int} {R : Sto} (hc : cs ≠ []) {m : Int} (hm : 0 < m ∧ m < 1073741824) : Dq cs R 1 (fun t => ∃ r : Nat, t = .int r ∧ (r : Int) < m) (m__law_draw [.ref 1, .int m]) := fun ls a hl ha => by
  obtain ⟨r, ls', e, h0, h1, h2⟩ := draw_ok hm (R := R) hl hc (show a < 2 ^ 60 by omega)
  exact ⟨_, ls', a + 1, e, ⟨r.toNat, by rw [Int.toNat_of_nonneg h0], by omega⟩, h2, Nat.le_refl _⟩
end SF
set_option Elab.async false
set_option linter.all false
set_option maxRecDepth 100000
namespace SF
open PySem PySem.Spec L2 TL
open PyProof.Rows hiding St
theorem S2_app (ls cs : List Int) (a : Nat) (R J : Sto) : S2 ls cs a R ++ J = S2 ls cs a (R ++ J) := rfl
theorem S2_len (ls cs : List Int) (a : Nat) (R : Sto) : (S2 ls cs a R).length = R.length + 2 := rfl
theorem lst_S2 (ls cs : List Int) (a : Nat) (R J : Sto) (ts : List T) : lstAt (S2 ls cs a (R ++ .lst ts :: J)) (R.length + 2) = some ts := by
  have e : (S2 ls cs a (R ++ .lst ts :: J))[R.length + 2]? = some (.lst ts) := by simp [S2]
  unfold lstAt
  rw [e]
theorem set_S2 (ls cs : List Int) (a : Nat) (R J : Sto) (x y : T) : (S2 ls cs a (R ++ x :: J)).set (R.length + 2) y = S2 ls cs a (R ++ y :: J) := by
  simp [S2]
theorem rng_at {r i : Nat} {x : T} (h : (rng 0 (r : Int))[i]? = some x) : i < r ∧ x = .int i := by
  unfold rng at h
  rw [List.getElem?_map] at h
  have e : ((r : Int) - 0).toNat = r := by omega
  rw [e] at h
  by_cases hi : i < r
  · rw [List.getElem?_range hi] at h
    refine ⟨hi, ?_⟩
    have : T.int (0 + (i : Nat)) = x := by simpa using h
    rw [← this]
    congr 1
    omega
  · rw [List.getElem?_eq_none (by simpa using hi)] at h
    cases h
theorem inR_small {r : Int} (h0 : 0 ≤ r) (h : r ≤ 1000) : TL.inR 0 r = true := by
  unfold TL.inR
  exact decide_eq_true (by omega)
end SF
set_option Elab.async false
set_option linter.all false
set_option maxRecDepth 100000
namespace SF
open PySem PySem.Spec L2 TL
open PyProof.Rows hiding St
end SF
set_option Elab.async false
set_option linter.all false
set_option maxRecDepth 100000
namespace SF
open PySem PySem.Spec L2 TL
open PyProof.Rows hiding St
theorem toDs_ints : ∀ ns : List Int, toDs (ns.map T.int) = some (ns.map PyData.int)
  | [] => rfl
  | n :: ns => by simp only [List.map_cons, toDs, toD, toDs_ints ns, Option.bind_some]
theorem shaped_ints (ns : List Int) : SeqAt.shaped (.list (ns.map PyData.int)) = true := by
  have h1 : ∀ ns : List Int, PyData.canLayAll0 (ns.map PyData.int) = true := fun ns => by
    induction ns with
    | nil => simp only [List.map_nil, PyData.canLayAll0]
    | cons n ns ih => simp only [List.map_cons, PyData.canLayAll0, PyData.canLay0, ih, Bool.and_self]
  have h2 : ∀ ns : List Int, PyData.depthAll (ns.map PyData.int) = 0 := fun ns => by
    induction ns with
    | nil => simp only [List.map_nil, PyData.depthAll]
    | cons n ns ih => simp only [List.map_cons, PyData.depthAll, PyData.depth, ih, Nat.max_self]
  unfold SeqAt.shaped
  simp only [PyData.canLay0, h1, PyData.depth, h2]
  rfl
theorem ne_sls {ns : List Int} (h : ns ≠ []) (S : Sto) : TL.neT S (.sls (ns.map T.int)) (.lst []) = some (.bl true) := by
  have e1 : toD1 S (.sls (ns.map T.int)) = some (.list (ns.map PyData.int)) := by
    show toD (.sls (ns.map T.int)) = _
    simp only [toD, toDs_ints, Option.map_some]
  have e2 : toD1 S (.lst []) = some (.list []) := by
    show toD (.lst []) = _
    simp only [toD, toDs, Option.map_some]
  have s2 : SeqAt.shaped (.list []) = true := by decide +kernel
  have v : PyData.eqv (.list (ns.map PyData.int)) (.list []) = false := by
    cases ns with
    | nil => exact absurd rfl h
    | cons n ns => simp only [List.map_cons, PyData.eqv, PyData.eqvAll]
  unfold TL.neT eqB
  simp only [e1, e2, shaped_ints, s2, Bool.and_self, if_true, v, Option.map_some, Bool.not_false]
theorem list_sls (ts : List T) (S : Sto) : listT S [.sls ts] = some (.lst ts) := rfl
theorem pow_18 (S : Sto) : powT S (.int 10) (.int 18) = some (.int (10 ^ 18)) := by kernel_rfl
theorem ge_int (i j : Int) (S : Sto) : geT S (.int i) (.int j) = some (.bl (decide (j ≤ i))) := rfl
theorem merge_K4 (c l a r : T) : mergeT ([], []) [(.inr "cells", c), (.inr "lefts", l), (.inr "at", a), (.inr "room", r)] = (K4, [c, l, a, r]) := by kernel_rfl
def bigT : T → T
  | .int c => .int (if (10 : Int) ^ 18 ≤ c then c else 0)
  | t => t
theorem begin_ok {ns : List Int} (hz : ns.length ≤ 63) : ∃ ls cs, m__law_begin [.sls (ns.map T.int)] [] = .ok (.ref 1) (S2 ls cs 0 []) ∧ ls.length = cs.length ∧ cs ≠ [] := by
  have rest : ∀ cs : List Int, cs ≠ [] → cs.length ≤ 63 → ∀ x2,
      bRet (fCell (fDisp (((fC (.str "cells")), (fVar 1)) :: (((fC (.str "lefts")), (fCell (fLc (fiA (fVar 1)) (sName 2) fYes (fIf (fTest (fBin geT (fVar 2) (fBin powT (fC (.int 10)) (fC (.int 18))))) (fVar 2) (fC (.int 0))) [2]))) :: (((fC (.str "at")), (fC (.int 0))) :: (((fC (.str "room")), (fC (.int 0))) :: []))))))
        [some (.sls (ns.map T.int)), some (.lst (cs.map T.int)), x2] [] = .rt (.ref 1) (S2 (cs.map fun c => if (10 : Int) ^ 18 ≤ c then c else 0) cs 0 []) := fun cs hc hl x2 => by
    simp_arith [fDisp, prF, List.length_map, small16 (show cs.length ≤ 200 by omega)]
    rw [lc_map (r := bigT) fun x hx => ?aa]
    case aa =>
      obtain ⟨c, hcc, rfl⟩ := List.mem_map.mp hx
      refine ⟨_, rfl, slots1 _ _, rfl, ?_⟩
      by_cases h : (10 : Int) ^ 18 ≤ c
      · simp_arith [pow_18, ge_int, h, bigT]
      · simp_arith [pow_18, ge_int, h, bigT]
    have e : (cs.map T.int).map bigT = (cs.map fun c => if (10 : Int) ^ 18 ≤ c then c else 0).map T.int := by
      rw [List.map_map, List.map_map]
      exact List.map_congr_left fun _ _ => rfl
    simp_arith [e, keyed, keyT, merge_K4]
    rfl
  by_cases h : ns = []
  · subst h
    exact ⟨[0], [0], by kernel_rfl, rfl, by simp⟩
  · refine ⟨ns.map fun c => if (10 : Int) ^ 18 ≤ c then c else 0, ns, ?_, by rw [List.length_map], h⟩
    · have r0 := rest ns h hz none
      unfold m__law_begin b__law_begin
      generalize bRet _ = B at r0 ⊢
      simp_arith [ne_sls h, list_sls, r0]
end SF
set_option Elab.async false
set_option linter.all false
set_option maxRecDepth 100000
namespace SF
open PySem PySem.Spec L2 TL
open PyProof.Rows hiding St
theorem sub_of_sorted : ∀ {L t : List Str}, L.Pairwise (fun a b => leS a b = true) → L.Nodup → t.Pairwise (fun a b => leS a b = true) → t.Nodup → (∀ x ∈ t, x ∈ L) → t.Sublist L
  | [], t, _, _, _, _, h => by
    cases t with
    | nil => exact .slnil
    | cons x t => exact nomatch h x List.mem_cons_self
  | y :: L, [], _, _, _, _, _ => List.nil_sublist _
  | y :: L, x :: t, hL, nL, ht, nt, h => by
    obtain ⟨a1, a2⟩ := List.pairwise_cons.mp hL
    obtain ⟨b1, b2⟩ := List.pairwise_cons.mp ht
    obtain ⟨c1, c2⟩ := List.nodup_cons.mp nL
    obtain ⟨d1, d2⟩ := List.nodup_cons.mp nt
    by_cases e : x = y
    · subst e
      exact (sub_of_sorted a2 c2 b2 d2 fun z hz => (List.mem_cons.mp (h z (List.mem_cons_of_mem _ hz))).resolve_left (by rintro rfl; exact d1 hz)).cons₂ x
    · have hx : x ∈ L := (List.mem_cons.mp (h x List.mem_cons_self)).resolve_left e
      refine (sub_of_sorted a2 c2 ht nt fun z hz => (List.mem_cons.mp (h z hz)).resolve_left ?_).cons y
      rintro rfl
      rcases List.mem_cons.mp hz with q | q
      · exact e q.symm
      · exact e (leS_anti (b1 z q) (a1 x hx))
theorem sorted_eq {L t : List Str} (hL : L.Pairwise (fun a b => leS a b = true)) (nL : L.Nodup) (ht : t.Pairwise (fun a b => leS a b = true)) (nt : t.Nodup) (h : ∀ x, x ∈ t ↔ x ∈ L) : t = L :=
  (sub_of_sorted hL nL ht nt fun x hx => (h x).mp hx).eq_of_length_le (sub_of_sorted ht nt hL nL fun x hx => (h x).mpr hx).length_le
end SF
set_option Elab.async false
set_option linter.all false
set_option maxRecDepth 100000
namespace SF
open PySem PySem.Spec L2 TL
open PyProof.Rows hiding St
end SF
set_option Elab.async false
set_option linter.all false
set_option maxRecDepth 100000
namespace SF
open PySem PySem.Spec L2 TL
open PyProof.Rows hiding St
mutual
def pl : Nat → T → Bool
  | _, .non => true
  | _, .int _ => true
  | _, .str x => PyData.strOk x
  | n, .tup ts => decide (0 < n) && pls (n - 1) ts
  | n, .lst ts => decide (0 < n) && pls (n - 1) ts
  | _, _ => false
def pls : Nat → List T → Bool
  | _, [] => true
  | n, t :: ts => pl n t && pls n ts
end
mutual
theorem pl_toD : ∀ {n : Nat} {t : T}, pl n t = true → ∃ d, toD t = some d ∧ d.canLay0 = true ∧ d.depth ≤ n
  | n, .non, _ => ⟨.none, rfl, by simp only [PyData.canLay0], by simp only [PyData.depth]; exact Nat.zero_le _⟩
  | n, .int i, _ => ⟨.int i, rfl, by simp only [PyData.canLay0], by simp only [PyData.depth]; exact Nat.zero_le _⟩
  | n, .str x, h => ⟨.str x, rfl, by simp only [PyData.canLay0]; exact h, by simp only [PyData.depth]; exact Nat.zero_le _⟩
  | n, .tup ts, h => by
    simp only [pl, Bool.and_eq_true, decide_eq_true_eq] at h
    obtain ⟨ds, e, c, dp⟩ := pls_toDs h.2
    exact ⟨.tuple ds, by simp only [toD, e, Option.map_some], by simp only [PyData.canLay0]; exact c, by simp only [PyData.depth]; omega⟩
  | n, .lst ts, h => by
    simp only [pl, Bool.and_eq_true, decide_eq_true_eq] at h
    obtain ⟨ds, e, c, dp⟩ := pls_toDs h.2
    exact ⟨.list ds, by simp only [toD, e, Option.map_some], by simp only [PyData.canLay0]; exact c, by simp only [PyData.depth]; omega⟩
  | _, .bl _, h => by simp [pl] at h
  | _, .sls _, h => by simp [pl] at h
  | _, .dct _ _, h => by simp [pl] at h
  | _, .ref _, h => by simp [pl] at h
  | _, .val _, h => by simp [pl] at h
theorem pls_toDs : ∀ {n : Nat} {ts : List T}, pls n ts = true → ∃ ds, toDs ts = some ds ∧ PyData.canLayAll0 ds = true ∧ PyData.depthAll ds ≤ n
  | n, [], _ => ⟨[], rfl, by simp only [PyData.canLayAll0], by simp only [PyData.depthAll]; exact Nat.zero_le _⟩
  | n, t :: ts, h => by
    simp only [pls, Bool.and_eq_true] at h
    obtain ⟨d, e, c, dp⟩ := pl_toD h.1
    obtain ⟨ds, es, cs, dps⟩ := pls_toDs h.2
    exact ⟨d :: ds, by simp only [toDs, e, es, Option.bind_some], by simp only [PyData.canLayAll0, c, cs, Bool.and_self], by simp only [PyData.depthAll]; exact Nat.max_le.mpr ⟨dp, dps⟩⟩
end
mutual
theorem pl_eqv : ∀ {n m : Nat} {x y : T} {d e : PyData}, pl n x = true → pl m y = true → toD x = some d → toD y = some e → (PyData.eqv d e = true ↔ x = y)
  | n, m, .non, y, d, e, _, hy, hd, he => by
    cases hd
    cases y <;> first | (simp [pl] at hy; done) | (simp only [toD] at he; cases he; simp [PyData.eqv]; done) | (simp only [toD, Option.map_eq_some_iff] at he; obtain ⟨_, _, rfl⟩ := he; simp [PyData.eqv])
  | n, m, .int i, y, d, e, _, hy, hd, he => by
    cases hd
    cases y <;> first | (simp [pl] at hy; done) | (simp only [toD] at he; cases he; simp [PyData.eqv]; done) | (simp only [toD, Option.map_eq_some_iff] at he; obtain ⟨_, _, rfl⟩ := he; simp [PyData.eqv])
  | n, m, .str i, y, d, e, _, hy, hd, he => by
    cases hd
    cases y <;> first | (simp [pl] at hy; done) | (simp only [toD] at he; cases he; simp [PyData.eqv]; done) | (simp only [toD, Option.map_eq_some_iff] at he; obtain ⟨_, _, rfl⟩ := he; simp [PyData.eqv])
  | n, m, .tup ts, y, d, e, hx, hy, hd, he => by
    simp only [toD, Option.map_eq_some_iff] at hd
    obtain ⟨ds, hd, rfl⟩ := hd
    simp only [pl, Bool.and_eq_true] at hx
    cases y with
    | tup us =>
      simp only [toD, Option.map_eq_some_iff] at he
      obtain ⟨es, he, rfl⟩ := he
      simp only [pl, Bool.and_eq_true] at hy
      simp only [PyData.eqv, T.tup.injEq]
      exact pls_eqv hx.2 hy.2 hd he
    | lst us =>
      simp only [toD, Option.map_eq_some_iff] at he
      obtain ⟨es, he, rfl⟩ := he
      simp [PyData.eqv]
    | non => simp only [toD] at he; cases he; simp [PyData.eqv]
    | int i => simp only [toD] at he; cases he; simp [PyData.eqv]
    | str i => simp only [toD] at he; cases he; simp [PyData.eqv]
    | _ => simp [pl] at hy
  | n, m, .lst ts, y, d, e, hx, hy, hd, he => by
    simp only [toD, Option.map_eq_some_iff] at hd
    obtain ⟨ds, hd, rfl⟩ := hd
    simp only [pl, Bool.and_eq_true] at hx
    cases y with
    | lst us =>
      simp only [toD, Option.map_eq_some_iff] at he
      obtain ⟨es, he, rfl⟩ := he
      simp only [pl, Bool.and_eq_true] at hy
      simp only [PyData.eqv, T.lst.injEq]
      exact pls_eqv hx.2 hy.2 hd he
    | tup us =>
      simp only [toD, Option.map_eq_some_iff] at he
      obtain ⟨es, he, rfl⟩ := he
      simp [PyData.eqv]
    | non => simp only [toD] at he; cases he; simp [PyData.eqv]
    | int i => simp only [toD] at he; cases he; simp [PyData.eqv]
    | str i => simp only [toD] at he; cases he; simp [PyData.eqv]
    | _ => simp [pl] at hy
  | _, _, .bl _, _, _, _, h, _, _, _ => by simp [pl] at h
  | _, _, .sls _, _, _, _, h, _, _, _ => by simp [pl] at h
  | _, _, .dct _ _, _, _, _, h, _, _, _ => by simp [pl] at h
  | _, _, .ref _, _, _, _, h, _, _, _ => by simp [pl] at h
  | _, _, .val _, _, _, _, h, _, _, _ => by simp [pl] at h
theorem pls_eqv : ∀ {n m : Nat} {xs ys : List T} {ds es : List PyData}, pls n xs = true → pls m ys = true → toDs xs = some ds → toDs ys = some es → (PyData.eqvAll ds es = true ↔ xs = ys)
  | n, m, [], ys, ds, es, _, _, hd, he => by
    cases hd
    cases ys with
    | nil => cases he; simp [PyData.eqvAll]
    | cons y ys =>
      simp only [toDs, Option.bind_eq_some_iff] at he
      obtain ⟨_, _, _, _, z⟩ := he
      cases z
      simp [PyData.eqvAll]
  | n, m, x :: xs, ys, ds, es, hx, hy, hd, he => by
    simp only [toDs, Option.bind_eq_some_iff] at hd
    obtain ⟨d, h1, dr, h2, z⟩ := hd
    cases z
    simp only [pls, Bool.and_eq_true] at hx
    cases ys with
    | nil => cases he; simp [PyData.eqvAll]
    | cons y ys =>
      simp only [toDs, Option.bind_eq_some_iff] at he
      obtain ⟨e, h3, er, h4, z⟩ := he
      cases z
      simp only [pls, Bool.and_eq_true] at hy
      simp only [PyData.eqvAll, Bool.and_eq_true, List.cons.injEq]
      rw [pl_eqv hx.1 hy.1 h1 h3, pls_eqv hx.2 hy.2 h2 h4]
end
theorem pl_toD1 {n : Nat} {t : T} (h : pl n t = true) (S : Sto) : toD1 S t = toD t := by
  cases t <;> first | rfl | (simp [pl] at h)
theorem shaped_of {d : PyData} (h : d.canLay0 = true) (g : d.depth ≤ 60) : SeqAt.shaped d = true := by
  unfold SeqAt.shaped
  rw [h, decide_eq_true (show d.depth ≤ 64 by omega)]
  rfl
theorem eqB_pl {x y : T} {k : Bool} (hx : pl 60 x = true) (hy : pl 60 y = true) (hk : k = true ↔ x = y) (S : Sto) : eqB S x y = some k := by
  obtain ⟨d, e1, c1, d1⟩ := pl_toD hx
  obtain ⟨e, e2, c2, d2⟩ := pl_toD hy
  unfold eqB
  rw [pl_toD1 hx, pl_toD1 hy, e1, e2]
  simp only [shaped_of c1 d1, shaped_of c2 d2, Bool.and_self, if_true]
  have := pl_eqv hx hy e1 e2
  congr 1
  rw [Bool.eq_iff_iff, this, hk]
theorem eq_pl {x y : T} {k : Bool} (hx : pl 60 x = true) (hy : pl 60 y = true) (hk : k = true ↔ x = y) (S : Sto) : TL.eqT S x y = some (.bl k) := by
  unfold TL.eqT
  rw [eqB_pl hx hy hk]
  rfl
theorem ne_pl {x y : T} {k : Bool} (hx : pl 60 x = true) (hy : pl 60 y = true) (hk : k = true ↔ x = y) (S : Sto) : TL.neT S x y = some (.bl !k) := by
  unfold TL.neT
  rw [eqB_pl hx hy hk]
  rfl
abbrev So (x : Str) : Prop := PyData.strOk x = true
theorem eq_str {a b : Str} (ha : So a) (hb : So b) (S : Sto) : TL.eqT S (.str a) (.str b) = some (.bl (decide (a = b))) := eq_pl (x := .str a) (y := .str b) ha hb (by simp) S
theorem ne_str {a b : Str} (ha : So a) (hb : So b) (S : Sto) : TL.neT S (.str a) (.str b) = some (.bl (!decide (a = b))) := ne_pl (x := .str a) (y := .str b) ha hb (by simp) S
theorem So.of {x : Str} (h : Rp x) : So x := h.2.2
end SF
set_option Elab.async false
set_option linter.all false
set_option maxRecDepth 100000
namespace SF
open PySem PySem.Spec L2 TL
open PyProof.Rows hiding St
abbrev Ch := List (Str × Str)
def chT (c : Ch) : T := .tup (c.map pT)
def behindS (c : Ch) (k v : Str) : Ch := (k, v) :: c.filter fun p => !decide (p.1 = k)
def worthS (t : List Str) : Ch → Option Str
  | [] => none
  | p :: c => if p.1 ∈ t then some p.2 else worthS t c
def optT : Option Str → T
  | some x => .str x
  | none => .non
def giveF (f : Str → Ch) (k : Str) (g : List (Str × Str)) : Str → Ch := g.foldl (fun f p a => if a = p.1 then behindS (f a) k p.2 else f a) f
def chainF (b : Bk) : (Str → Ch) → List Str → Str → Ch
  | f, [] => f
  | f, x :: r => match findC b.cs x with
    | some c => chainF b (giveF f c.k c.g) r
    | none => chainF b f r
def shownS (b : Bk) (x : Str) : List Str := if x = "\n" then [] else if x = " " then b.sh else b.asp
def rowsF (b : Bk) : (Str → Ch) → List Str → List (List Ch)
  | _, [] => []
  | f, x :: r => match findC b.cs x with
    | some c => rowsF b (giveF f c.k c.g) r
    | none => (shownS b x).map f :: rowsF b f r
abbrev chD (b : Bk) (f : Str → Ch) : T := .dct (kS b.asp) (b.asp.map fun a => chT (f a))
theorem chain_app (b : Bk) : ∀ (f : Str → Ch) (xs ys : List Str), chainF b f (xs ++ ys) = chainF b (chainF b f xs) ys
  | f, [], ys => rfl
  | f, x :: xs, ys => by
    simp only [List.cons_append, chainF]
    cases findC b.cs x with
    | some c => exact chain_app b _ xs ys
    | none => exact chain_app b f xs ys
structure CI (K : List Str) (c : Ch) : Prop where
  nd : (c.map (·.1)).Nodup
  sub : ∀ p ∈ c, p.1 ∈ K
theorem CI.nil (K : List Str) : CI K [] := ⟨List.nodup_nil, fun p h => nomatch h⟩
theorem CI.len {K : List Str} {c : Ch} (h : CI K c) : c.length ≤ K.length := by
  have := nodup_len h.nd (K := K) fun x hx => by
    obtain ⟨p, hp, rfl⟩ := List.mem_map.mp hx
    exact h.sub p hp
  rwa [List.length_map] at this
theorem CI.behind {K : List Str} {c : Ch} (h : CI K c) {k v : Str} (hk : k ∈ K) : CI K (behindS c k v) := by
  refine ⟨?_, fun p hp => ?_⟩
  · unfold behindS
    rw [List.map_cons, List.nodup_cons]
    refine ⟨fun z => ?_, h.nd.sublist (List.Sublist.map _ List.filter_sublist)⟩
    obtain ⟨p, hp, e⟩ := List.mem_map.mp z
    have := (List.mem_filter.mp hp).2
    simp [show p.1 = k from e] at this
  · unfold behindS at hp
    rcases List.mem_cons.mp hp with rfl | hp
    · exact hk
    · exact h.sub p (List.mem_filter.mp hp).1
theorem CI.give {K : List Str} {k : Str} (hk : k ∈ K) : ∀ {g : List (Str × Str)} {f : Str → Ch}, (∀ a, CI K (f a)) → ∀ a, CI K (giveF f k g a)
  | [], f, h, a => h a
  | p :: g, f, h, a => CI.give hk (g := g) (f := fun a => if a = p.1 then behindS (f a) k p.2 else f a) (fun a => by
    show CI K (if a = p.1 then behindS (f a) k p.2 else f a)
    split
    · exact (h a).behind hk
    · exact h a) a
structure GC (b : Bk) : Prop where
  w : GW b
  ko : ∀ c ∈ b.cs, So c.k
  vo : ∀ c ∈ b.cs, ∀ p ∈ c.g, So p.2
  kin : ∃ K : List Str, K.length ≤ 6 ∧ ∀ c ∈ b.cs, c.k ∈ K
theorem CI.chain {b : Bk} {K : List Str} (hK : ∀ c ∈ b.cs, c.k ∈ K) : ∀ {xs : List Str} {f : Str → Ch}, (∀ a, CI K (f a)) → ∀ a, CI K (chainF b f xs a)
  | [], f, h, a => h a
  | x :: xs, f, h, a => by
    unfold chainF
    cases e : findC b.cs x with
    | some c => exact CI.chain hK (CI.give (hK c (findC_mem e).1) h) a
    | none => exact CI.chain hK h a
theorem chain_vals {b : Bk} {P : Str × Str → Prop} (hP : ∀ c ∈ b.cs, ∀ p ∈ c.g, P (c.k, p.2)) : ∀ {xs : List Str} {f : Str → Ch}, (∀ a, ∀ p ∈ f a, P p) → ∀ a, ∀ p ∈ chainF b f xs a, P p
  | [], f, h, a => h a
  | x :: xs, f, h, a => by
    unfold chainF
    cases e : findC b.cs x with
    | none => exact chain_vals hP h a
    | some c =>
      refine chain_vals hP (f := giveF f c.k c.g) ?_ a
      have key : ∀ g : List (Str × Str), (∀ p ∈ g, P (c.k, p.2)) → ∀ f : Str → Ch, (∀ a, ∀ p ∈ f a, P p) → ∀ a, ∀ p ∈ giveF f c.k g a, P p := fun g => by
        induction g with
        | nil => exact fun _ f h => h
        | cons q g ih =>
          intro hg f h
          refine ih (fun p hp => hg p (List.mem_cons_of_mem _ hp)) (fun a => if a = q.1 then behindS (f a) c.k q.2 else f a) fun a p hp => ?_
          split at hp
          · unfold behindS at hp
            rcases List.mem_cons.mp hp with rfl | hp
            · exact hg q List.mem_cons_self
            · exact h a p (List.mem_filter.mp hp).1
          · exact h a p hp
      exact key c.g (hP c (findC_mem e).1) f h
theorem nr_chT (c : Ch) : nr (chT c) = true := nrs_map fun p _ => nr_pT p
theorem behind_ok {c : Ch} {k v : Str} (hz : c.length ≤ 100) (hk : So k) (hc : ∀ p ∈ c, So p.1) : Pu m_behind [chT c, .str k, .str v] (chT (behindS c k v)) := by
  intro S
  unfold m_behind b_behind chT
  simp_arith [List.length_map, small16 (show c.length ≤ 200 by omega), small16 (show 2 ≤ 200 by omega), small16 (show 1 ≤ 200 by omega)]
  rw [lc_filter (p := fun x => match x with | .tup [.str a, _] => !decide (a = k) | _ => false) (r := id) fun x hx => ?a]
  case a =>
    obtain ⟨p, hp, rfl⟩ := List.mem_map.mp hx
    exact ⟨_, rfl, slots1 _ _, by simp_arith [pT, ne_str (hc p hp) hk], fun _ => by simp_arith [id]⟩
  have e : ((c.map pT).filter fun x => match x with | .tup [.str a, _] => !decide (a = k) | _ => false).map id = (c.filter fun p => !decide (p.1 = k)).map pT := by
    rw [List.map_id, List.filter_map]
    rfl
  have z : [T.tup [T.str k, T.str v]].length + ((c.filter fun p => !decide (p.1 = k)).map pT).length ≤ sizeLine := small16 (by
    have := List.length_filter_le (fun p : Str × Str => !decide (p.1 = k)) c
    rw [List.length_map]
    simp only [List.length_cons, List.length_nil]
    omega)
  simp_arith [e, add_tup z]
  rfl
theorem no_chains_ok {b : Bk} (W : GW b) (S : Sto) : m_no_chains [bT b] S = .ok (.ref S.length) (S ++ [chD b fun _ => []]) := by
  unfold m_no_chains b_no_chains
  have z2 : b.asp.length ≤ sizeLine := small16 (by have := W.asz; omega)
  have i0 : ∀ S, ixT S (bT b) (.int 0) = some (tS b.asp) := fun S => rfl
  simp_arith [i0, List.length_map, z2]
  rw [dc_map (k := fun x => match x with | .str a => .inr a | _ => .inl 0) (r := fun _ => .tup []) fun x hx => ?a]
  case a =>
    obtain ⟨a, ha, rfl⟩ := List.mem_map.mp hx
    exact ⟨_, rfl, slots1 _ _, rfl, by simp_arith [tKey], by simp_arith []⟩
  have e2 : (b.asp.map T.str).map (fun x => ((match x with | .str a => .inr a | _ => .inl 0 : Key), (T.tup [] : T))) = b.asp.map fun a => ((Sum.inr a : Key), T.tup []) := by
    rw [List.map_map]
    exact List.map_congr_left fun _ _ => rfl
  have e3 : mergeT ([], []) (b.asp.map fun a => ((Sum.inr a : Key), T.tup [])) = (kS b.asp, b.asp.map fun a => chT []) := by
    rw [merge_nil, List.map_map, List.map_map]
    · rfl
    · rw [List.map_map]
      exact nodup_inr W.and
  simp_arith [e2, e3]
theorem getK_f (f : Str → T) : ∀ {ks : List Str} {a : Str}, a ∈ ks → getK (kS ks) (ks.map f) (.inr a) = some (f a)
  | [], a, h => nomatch h
  | k :: ks, a, h => by
    simp only [kS, List.map_cons, getK, inr_eq]
    by_cases e : k = a
    · rw [if_pos e, e]
    · rw [if_neg e]
      exact getK_f f ((List.mem_cons.mp h).resolve_left fun z => e z.symm)
theorem putK_f (f : Str → T) {ks : List Str} {a : Str} (t : T) (m : a ∈ ks) : putK' (kS ks) (ks.map f) (.inr a) t = (kS ks, ks.map fun x => if x = a then t else f x) := by
  unfold putK'
  rw [if_pos (any_S m)]
  congr 1
  unfold kS
  rw [List.zipWith_map]
  induction ks with
  | nil => rfl
  | cons k ks ih =>
    rw [List.zipWith_cons_cons, List.map_cons]
    congr 1
    · by_cases e : k = a
      · rw [if_pos e, if_pos (by rw [e])]
      · rw [if_neg e, if_neg (by rwa [inr_eq])]
    · clear m ih
      induction ks with
      | nil => rfl
      | cons k ks ih =>
        rw [List.zipWith_cons_cons, List.map_cons, ih]
        congr 1
        by_cases e : k = a
        · rw [if_pos e, if_pos (by rw [e])]
        · rw [if_neg e, if_neg (by rwa [inr_eq])]
theorem ix_ch {b : Bk} {f : Str → Ch} {S : Sto} {n : Nat} {a : Str} (h : S[n]? = some (chD b f)) (m : a ∈ b.asp) : ixT S (.ref n) (.str a) = some (chT (f a)) := by
  have e : dctT S (.ref n) = some (kS b.asp, b.asp.map fun a => chT (f a)) := by
    simp only [dctT, h]
  unfold ixT
  rw [e]
  exact getK_f _ m
theorem set_ch {b : Bk} {f : Str → Ch} {S : Sto} {n : Nat} {a : Str} {c : Ch} (hz : b.asp.length < sizeLine) (h : S[n]? = some (chD b f)) (m : a ∈ b.asp) :
    setT S (.ref n) (.str a) (chT c) = some (S.set n (chD b fun x => if x = a then c else f x)) := by
  unfold setT
  simp only [h, keyT, Option.bind_some, List.length_map, hz, if_true, putK_f _ _ m]
  congr 3
  simp only [chD, T.dct.injEq, true_and]
  exact List.map_congr_left fun x _ => by split <;> rfl
theorem pass_code_ok {b : Bk} (G : GC b) {c : Code} (hc : c ∈ b.cs) {f : Str → Ch} {S : Sto} {n : Nat} (h : S[n]? = some (chD b f)) (hf : ∀ a, (f a).length ≤ 6 ∧ ∀ p ∈ f a, So p.1)
    (hg : ∀ g, g.Sublist c.g → ∀ a, (giveF f c.k g a).length ≤ 6 ∧ ∀ p ∈ giveF f c.k g a, So p.1) : m_pass_code [.ref n, cT c] S = .ok .non (S.set n (chD b (giveF f c.k c.g))) := by
  have W := G.w
  have bh := fun {c : Ch} {k v : Str} (hz : c.length ≤ 100) (hk : So k) (hc : ∀ p ∈ c, So p.1) => behind_ok (v := v) hz hk hc
  unfold m_pass_code b_pass_code
  generalize m_behind = f1 at bh ⊢
  have z3 : b.asp.length < sizeLine := small16' (by have := W.asz; omega)
  have hn : n < S.length := (List.getElem?_eq_some_iff.mp h).1
  have e0 : S.set n (chD b f) = S := by
    obtain ⟨_, e⟩ := List.getElem?_eq_some_iff.mp h
    rw [← e, List.set_getElem_self]
  simp_arith [cT]
  generalize hF : forF _ _ _ _ _ = R
  obtain ⟨τ2, S2, e, h1, x5, x6, h2⟩ := for_go hF (fun i τ T1 => T1 = S.set n (chD b (giveF f c.k (c.g.take i))) ∧ ∃ x5 x6, τ = [some (.ref n), some (cT c), some (.str c.w), some (.str c.k), some (.tup (c.g.map pT)), x5, x6])
    ⟨e0.symm, none, none, rfl⟩ (by
    intro i y τ T1 hx hI
    obtain ⟨rfl, x5, x6, rfl⟩ := hI
    rw [List.getElem?_map] at hx
    cases ex : c.g[i]? with
    | none => rw [ex] at hx; cases hx
    | some p =>
    rw [ex] at hx
    cases hx
    have hpm : p ∈ c.g := List.mem_of_getElem? ex
    have ha : p.1 ∈ b.asp := W.gin c hc p hpm
    have hg1 : giveF f c.k (c.g.take (i + 1)) = fun a => if a = p.1 then behindS (giveF f c.k (c.g.take i) a) c.k p.2 else giveF f c.k (c.g.take i) a := by
      unfold giveF
      rw [List.take_add_one, ex, List.foldl_append]
      rfl
    rw [hg1]
    obtain hq := hg (c.g.take i) (List.take_sublist _ _)
    generalize giveF f c.k (c.g.take i) = F at hq ⊢
    have hS : (S.set n (chD b F))[n]? = some (chD b F) := by rw [List.getElem?_set_self hn]
    obtain ⟨q1, q2⟩ := hq p.1
    have b1 := bh (v := p.2) (c := F p.1) (by omega) (G.ko c hc) q2
    refine ⟨_, rfl, ?_⟩
    simp_arith [pT, bStore, ix_ch hS ha, b1 (S.set n (chD b F)), set_ch z3 hS ha, List.set_set]
    refine goes_nx ⟨?_, _, _, rfl⟩
    congr 1
    simp only [chD, T.dct.injEq, true_and]
    refine List.map_congr_left fun x _ => ?_
    by_cases e : x = p.1
    · rw [if_pos e, if_pos e, e]
    · rw [if_neg e, if_neg e])
  subst e h1 h2
  rw [List.length_map, List.take_length]
end SF
set_option Elab.async false
set_option linter.all false
set_option maxRecDepth 100000
namespace SF
open PySem PySem.Spec L2 TL
open PyProof.Rows hiding St
abbrev f0 : Str → Ch := fun _ => []
theorem GC.cs {b : Bk} (G : GC b) {xs : List Str} (a : Str) : (chainF b f0 xs a).length ≤ 6 ∧ ∀ p ∈ chainF b f0 xs a, So p.1 := by
  obtain ⟨K, hK, hk⟩ := G.kin
  exact ⟨Nat.le_trans (CI.chain hk (xs := xs) (f := f0) (fun _ => CI.nil K) a).len hK, chain_vals (P := fun p => So p.1) (fun c hc p _ => G.ko c hc) (fun _ p h => by cases h) a⟩
theorem take_chain {b : Bk} {xs : List Str} {i : Nat} {x : Str} (f : Str → Ch) (h : xs[i]? = some x) : chainF b f (xs.take (i + 1)) = (match findC b.cs x with | some c => giveF (chainF b f (xs.take i)) c.k c.g | none => chainF b f (xs.take i)) := by
  rw [List.take_add_one, h, chain_app]
  simp only [Option.toList, chainF] <;> cases findC b.cs x <;> rfl
theorem pass_at {b : Bk} (G : GC b) {c : Code} (hc : c ∈ b.cs) {xs : List Str} {S : Sto} {n : Nat} (h : S[n]? = some (chD b (chainF b f0 xs))) :
    m_pass_code [.ref n, cT c] S = .ok .non (S.set n (chD b (giveF (chainF b f0 xs) c.k c.g))) := by
  obtain ⟨K, hK, hk⟩ := G.kin
  have ci : ∀ a, CI K (chainF b f0 xs a) := CI.chain hk (fun _ => CI.nil K)
  have so : ∀ g : List (Str × Str), ∀ f : Str → Ch, (∀ a, ∀ p ∈ f a, So p.1) → ∀ a, ∀ p ∈ giveF f c.k g a, So p.1 := fun g => by
    induction g with
    | nil => exact fun f h => h
    | cons q g ih =>
      intro f h
      refine ih (fun a => if a = q.1 then behindS (f a) c.k q.2 else f a) fun a p hp => ?_
      split at hp
      · unfold behindS at hp
        rcases List.mem_cons.mp hp with rfl | hp
        · exact G.ko c hc
        · exact h a p (List.mem_filter.mp hp).1
      · exact h a p hp
  exact pass_code_ok G hc h (fun a => G.cs a) fun g hg a => ⟨Nat.le_trans (CI.give (hk c hc) ci a).len hK, so g _ (fun a => (G.cs a).2) a⟩
theorem worth_ok (t : List Str) (c : Ch) : Pu m_worth_among [chT c, tS t] (optT (worthS t c)) := by
  intro S
  unfold m_worth_among b_worth_among chT
  simp_arith []
  have h : ∀ (c : Ch) (x0 x2 x3 : Option T), (∃ y z, forF (sTup 2 (sCons (sName 2) (sCons (sName 3) sNil))) (bIf (fTest (fBin inT (fVar 2) (fVar 1))) (bRet (fVar 3)) bNext) (c.map pT) [x0, some (tS t), x2, x3] S = .nx [x0, some (tS t), y, z] S ∧ worthS t c = none) ∨
      ∃ v, forF (sTup 2 (sCons (sName 2) (sCons (sName 3) sNil))) (bIf (fTest (fBin inT (fVar 2) (fVar 1))) (bRet (fVar 3)) bNext) (c.map pT) [x0, some (tS t), x2, x3] S = .rt (.str v) S ∧ worthS t c = some v := fun c => by
    induction c with
    | nil => exact fun x0 x2 x3 => .inl ⟨x2, x3, rfl, rfl⟩
    | cons p c ih =>
      intro x0 x2 x3
      by_cases h : p.1 ∈ t
      · exact .inr ⟨p.2, by simp_arith [forF, pT, h], by simp only [worthS, if_pos h]⟩
      · rcases ih x0 (some (.str p.1)) (some (.str p.2)) with ⟨y, z, e, w⟩ | ⟨v, e, w⟩
        · exact .inl ⟨y, z, by simp_arith [forF, pT, h]; exact e, by simp only [worthS, if_neg h, w]⟩
        · exact .inr ⟨v, by simp_arith [forF, pT, h]; exact e, by simp only [worthS, if_neg h, w]⟩
  rcases h c (some (.tup (c.map pT))) none none with ⟨y, z, e, w⟩ | ⟨v, e, w⟩
  · simp_arith [e, w, optT]
  · simp_arith [e, w, optT]
end SF
set_option Elab.async false
set_option linter.all false
set_option maxRecDepth 100000
namespace SF
open PySem PySem.Spec L2 TL
open PyProof.Rows hiding St
theorem getS_upd : ∀ {ks vs : List Str} {a v x : Str}, vs.length = ks.length → x ∈ ks → getS ks (updS ks vs a v) x = if x = a then v else getS ks vs x
  | [], _, _, _, _, _, h => nomatch h
  | k :: ks, [], _, _, _, h, _ => by simp at h
  | k :: ks, u :: vs, a, v, x, h, m => by
    unfold updS
    rw [List.zipWith_cons_cons]
    unfold getS
    by_cases e : k = x
    · subst e
      rw [if_pos rfl, if_pos rfl]
    · rw [if_neg e, if_neg e]
      exact getS_upd (ks := ks) (vs := vs) (by simpa using h) ((List.mem_cons.mp m).resolve_left fun z => e z.symm)
theorem worth_cons (t : List Str) (p : Str × Str) (c : Ch) : worthS t (p :: c) = if p.1 ∈ t then some p.2 else worthS t c := rfl
theorem worth_behind {t : List Str} {c : Ch} {k v : Str} : worthS t (behindS c k v) = if k ∈ t then some v else worthS t c := by
  unfold behindS
  rw [worth_cons]
  split
  · rfl
  · rename_i h
    induction c with
    | nil => rfl
    | cons p c ih =>
      by_cases e : p.1 = k
      · rw [List.filter_cons_of_neg (by simp [e]), ih, worth_cons, if_neg (by rw [e]; exact h)]
      · rw [List.filter_cons_of_pos (by simp [e]), worth_cons, worth_cons, ih]
def Same5 (b : Bk) (t : List Str) (d : Str → Str) (vs : List Str) (f : Str → Ch) : Prop := vs.length = b.asp.length ∧ ∀ a ∈ b.asp, getS b.asp vs a = (worthS t (f a)).getD (d a)
theorem same5_in {b : Bk} {t : List Str} {d : Str → Str} {k : Str} (hk : k ∈ t) : ∀ {g : List (Str × Str)} {vs : List Str} {f : Str → Ch}, Same5 b t d vs f → Same5 b t d (giveS b.asp vs g) (giveF f k g)
  | [], _, _, h => h
  | p :: g, vs, f, h => same5_in hk (g := g) (vs := updS b.asp vs p.1 p.2) (f := fun a => if a = p.1 then behindS (f a) k p.2 else f a) ⟨updS_len h.1 _ _, fun a ha => by
    rw [getS_upd h.1 ha]
    by_cases e : a = p.1
    · rw [if_pos e]
      show p.2 = (worthS t (if a = p.1 then behindS (f a) k p.2 else f a)).getD (d a)
      rw [if_pos e, worth_behind, if_pos hk]
      rfl
    · rw [if_neg e]
      show _ = (worthS t (if a = p.1 then behindS (f a) k p.2 else f a)).getD (d a)
      rw [if_neg e]
      exact h.2 a ha⟩
theorem give_out {t : List Str} {k : Str} (hk : k ∉ t) : ∀ {g : List (Str × Str)} {f : Str → Ch} (a : Str), worthS t (giveF f k g a) = worthS t (f a)
  | [], _, _ => rfl
  | p :: g, f, a => by
    have ih := give_out hk (g := g) (f := fun a => if a = p.1 then behindS (f a) k p.2 else f a) a
    refine ih.trans ?_
    show worthS t (if a = p.1 then behindS (f a) k p.2 else f a) = _
    split
    · rw [worth_behind, if_neg hk]
    · rfl
theorem same5_step {b : Bk} {t : List Str} {d : Str → Str} {vs : List Str} {f : Str → Ch} (c : Code) (h : Same5 b t d vs f) : Same5 b t d (if c.k ∈ t then giveS b.asp vs c.g else vs) (giveF f c.k c.g) := by
  split
  · rename_i hk
    exact same5_in hk h
  · rename_i hk
    exact ⟨h.1, fun a ha => by rw [give_out hk]; exact h.2 a ha⟩
theorem same5_left {b : Bk} {t : List Str} {d : Str → Str} : ∀ {xs vs : List Str} {f : Str → Ch}, Same5 b t d vs f → Same5 b t d (leftS b t vs xs) (chainF b f xs)
  | [], _, _, h => h
  | x :: xs, vs, f, h => by
    simp only [leftS, chainF]
    cases e : findC b.cs x with
    | some c => exact same5_left (same5_step c h)
    | none => exact same5_left h
def runQ (b : Bk) : (Str → Ch) → List Str → List (Str × (Str → Ch))
  | _, [] => []
  | f, x :: r => match findC b.cs x with
    | some c => runQ b (giveF f c.k c.g) r
    | none => (x, f) :: runQ b f r
theorem rows_q (b : Bk) : ∀ (xs : List Str) (f : Str → Ch), rowsF b f xs = (runQ b f xs).map fun q => (shownS b q.1).map q.2
  | [], _ => rfl
  | x :: xs, f => by
    simp only [rowsF, runQ]
    cases e : findC b.cs x with
    | some c => exact rows_q b xs _
    | none => rw [List.map_cons, ← rows_q b xs f]
theorem getS_const {v : Str} : ∀ {ks : List Str} {a : Str}, a ∈ ks → getS ks (ks.map fun _ => v) a = v
  | [], _, h => nomatch h
  | k :: ks, a, h => by
    rw [List.map_cons]
    unfold getS
    by_cases e : k = a
    · rw [if_pos e]
    · rw [if_neg e]
      exact getS_const ((List.mem_cons.mp h).resolve_left fun z => e z.symm)
theorem same5_c (b : Bk) (t : List Str) (v : Str) : Same5 b t (fun _ => v) (b.asp.map fun _ => v) f0 := ⟨by rw [List.length_map], fun a ha => getS_const ha⟩
theorem any_lst : ∀ (bs : List Bool) (S : Sto), anyT S [.lst (bs.map T.bl)] = some (.bl (bs.any id)) := fun bs S => by
  have h : ∀ bs : List Bool, bools (bs.map T.bl) = some bs := fun bs => by
    induction bs with
    | nil => rfl
    | cons b bs ih => simp only [List.map_cons, bools, ih, Option.map_some]
  show ((bools (bs.map T.bl)).map fun bs => T.bl (bs.any id)) = _
  rw [h]
  rfl
end SF
set_option Elab.async false
set_option linter.all false
set_option maxRecDepth 100000
namespace SF
open PySem PySem.Spec L2 TL
open PyProof.Rows hiding St
theorem BL.gc {b : Bk} (B : BL b) : GC b := ⟨B.gl.w, fun c hc => So.of (rp_all _ (by
    simp only [List.mem_append]
    exact .inl (.inl (.inl (.inr (B.cl c hc).k))))), fun c hc p hp => So.of (B.gl.val c hc p hp).2, ⟨K3, by decide, fun c hc => (B.cl c hc).k⟩⟩
structure GX (b : Bk) (xs : List Str) : Prop where
  i : GI b xs
  so : ∀ x ∈ xs, findC b.cs x = none → So x
theorem q_mem {b : Bk} : ∀ {xs : List Str} {f : Str → Ch} {q : Str × (Str → Ch)}, q ∈ runQ b f xs → q.1 ∈ xs ∧ findC b.cs q.1 = none ∧ ∃ ys, q.2 = chainF b f ys
  | [], _, _, h => nomatch h
  | x :: xs, f, q, h => by
    simp only [runQ] at h
    cases e : findC b.cs x with
    | some c =>
      rw [e] at h
      obtain ⟨h1, h2, ys, h3⟩ := q_mem h
      exact ⟨List.mem_cons_of_mem _ h1, h2, x :: ys, by simp only [chainF, e]; exact h3⟩
    | none =>
      rw [e] at h
      rcases List.mem_cons.mp h with rfl | h
      · exact ⟨List.mem_cons_self, e, [], rfl⟩
      · obtain ⟨h1, h2, h3⟩ := q_mem h
        exact ⟨List.mem_cons_of_mem _ h1, h2, h3⟩
theorem worth_mem {t : List Str} {v : Str} : ∀ {c : Ch}, worthS t c = some v → ∃ p ∈ c, p.1 ∈ t ∧ p.2 = v
  | [], h => by cases h
  | p :: c, h => by
    rw [worth_cons] at h
    split at h
    · rename_i hp
      exact ⟨p, List.mem_cons_self, hp, Option.some.inj h⟩
    · obtain ⟨q, hq, r⟩ := worth_mem h
      exact ⟨q, List.mem_cons_of_mem _ hq, r⟩
theorem GC.vals {b : Bk} (G : GC b) {xs : List Str} (a : Str) : ∀ p ∈ chainF b f0 xs a, So p.2 := chain_vals (P := fun p => So p.2) (fun c hc p hp => G.vo c hc p hp) (fun _ p h => by cases h) a
end SF
set_option Elab.async false
set_option linter.all false
set_option maxRecDepth 100000
namespace SF
open PySem PySem.Spec L2 TL
open PyProof.Rows hiding St
theorem textFrom_le {m : Nat} : ∀ {ts : List Str} {k : Nat} {acc : Str}, (∀ t ∈ ts, t.length ≤ m) → (textFrom k acc ts).length ≤ acc.length + ts.length * (m + 2)
  | [], k, acc, _ => by show acc.length ≤ _; simp
  | t :: ts, k, acc, h => by
    have ih := textFrom_le (ts := ts) (k := k + 1) (acc := acc ++ (if k > 0 then ", " else "" : String) ++ t) fun u hu => h u (List.mem_cons_of_mem _ hu)
    have e : (acc ++ (if k > 0 then ", " else "" : String) ++ t).length ≤ acc.length + 2 + t.length := by
      rw [strLen_append, strLen_append]
      have : (((if k > 0 then ", " else "" : String) : Str)).length ≤ 2 := by split <;> decide
      omega
    have h1 := h t List.mem_cons_self
    show (textFrom (k + 1) (acc ++ (if k > 0 then ", " else "" : String) ++ t) ts).length ≤ _
    rw [List.length_cons, Nat.add_mul]
    omega
theorem textFrom_ok : ∀ {ts : List Str} {k : Nat} {acc : Str}, (∀ t ∈ ts, So t) → So acc → So (textFrom k acc ts)
  | [], k, acc, _, ha => ha
  | t :: ts, k, acc, h, ha => textFrom_ok (ts := ts) (k := k + 1) (acc := acc ++ (if k > 0 then ", " else "" : String) ++ t) (fun u hu => h u (List.mem_cons_of_mem _ hu)) (strOk_app (strOk_app ha (by split <;> decide +kernel)) (h t List.mem_cons_self))
theorem Nice.lst {n m k : Nat} {ds : List PyData} (h : ∀ d ∈ ds, Nice n m d) (hk : ds.length ≤ k) : Nice (n + 1) (3 + k * (m + 2)) (.list ds) := by
  have a1 : ∀ {ds : List PyData}, (∀ d ∈ ds, Nice n m d) → PyData.canLayAll0 ds = true ∧ PyData.eqvAll ds ds = true ∧ PyData.showableAll ds = true ∧ PyData.hasDictAll ds = false ∧ PyData.depthAll ds ≤ n := fun {ds} h => by
    induction ds with
    | nil => exact ⟨by simp only [PyData.canLayAll0], by simp only [PyData.eqvAll], by simp only [PyData.showableAll], by simp only [PyData.hasDictAll], by simp only [PyData.depthAll]; exact Nat.zero_le _⟩
    | cons d ds ih =>
      obtain ⟨q1, q2, q3, q4, q5⟩ := ih fun x hx => h x (List.mem_cons_of_mem _ hx)
      have g := h d List.mem_cons_self
      exact ⟨by simp only [PyData.canLayAll0, g.lay, q1, Bool.and_self], by simp only [PyData.eqvAll, g.eqv, q2, Bool.and_self], by simp only [PyData.showableAll, g.sh, q3, Bool.and_self], by simp only [PyData.hasDictAll, g.hd, q4, Bool.or_self], by
        simp only [PyData.depthAll]
        exact Nat.max_le.mpr ⟨g.dp, q5⟩⟩
  obtain ⟨q1, q2, q3, q4, q5⟩ := a1 h
  have hs : ∀ t ∈ ds.map PyData.shown, t.length ≤ m ∧ PyData.strOk t = true := fun t ht => by
    obtain ⟨d, hd, rfl⟩ := List.mem_map.mp ht
    exact ⟨(h d hd).ln, (h d hd).ok⟩
  refine ⟨by simp only [PyData.canLay0]; exact q1, by simp only [PyData.eqv]; exact q2, by simp only [PyData.showable]; exact q3, by simp only [PyData.hasDict]; exact q4, by simp only [PyData.depth]; omega, ?_, ?_⟩
  · simp only [PyData.shown, shownAll_map]
    unfold listText
    rw [strLen_append]
    have := textFrom_le (ts := ds.map PyData.shown) (k := 0) (acc := "[") fun t ht => (hs t ht).1
    rw [List.length_map] at this
    have e1 : (("[" : String) : Str).length = 1 := rfl
    have e2 : (("]" : String) : Str).length = 1 := rfl
    have h3 := Nat.mul_le_mul_right (m + 2) hk
    omega
  · simp only [PyData.shown, shownAll_map]
    unfold listText
    exact strOk_app (textFrom_ok (fun t ht => (hs t ht).2) (by decide +kernel)) (by decide +kernel)
theorem NiceT.lst {n m k : Nat} {ts : List T} (h : ∀ t ∈ ts, ∃ d, toD t = some d ∧ Nice n m d) (hk : ts.length ≤ k) : NiceT (n + 1) (3 + k * (m + 2)) (.lst ts) := by
  obtain ⟨ds, e, hl, hp⟩ := toDs_of h
  exact ⟨.list ds, by simp only [toD, e, Option.map_some], Nice.lst hp (by omega), rfl⟩
end SF
set_option Elab.async false
set_option linter.all false
set_option maxRecDepth 100000
namespace SF
open PySem PySem.Spec L2 TL
open PyProof.Rows hiding St
abbrev Run := Str × List Str
def runsR : Ch → List Run
  | [] => []
  | p :: c => match runsR c with
    | [] => [(p.2, [p.1])]
    | (w, ks) :: r => if w = p.2 then (p.2, p.1 :: ks) :: r else (p.2, [p.1]) :: (w, ks) :: r
def formS (c : Ch) : List Run := (runsR c).map fun r => (r.1, sortS r.2)
def worthR (t : List Str) : List Run → Option Str
  | [] => none
  | r :: rs => if (r.2.any fun k => decide (k ∈ t)) = true then some r.1 else worthR t rs
theorem worthR_cons (t : List Str) (r : Run) (rs : List Run) : worthR t (r :: rs) = if (r.2.any fun k => decide (k ∈ t)) = true then some r.1 else worthR t rs := rfl
theorem runsR_cons (p : Str × Str) (c : Ch) : runsR (p :: c) = match runsR c with
    | [] => [(p.2, [p.1])]
    | (w, ks) :: r => if w = p.2 then (p.2, p.1 :: ks) :: r else (p.2, [p.1]) :: (w, ks) :: r := rfl
theorem any_one {t : List Str} {k : Str} : ([k].any fun k => decide (k ∈ t)) = decide (k ∈ t) := by simp
theorem worth_runs (t : List Str) : ∀ c : Ch, worthS t c = worthR t (runsR c)
  | [] => rfl
  | p :: c => by
    have ih := worth_runs t c
    rw [worth_cons, runsR_cons]
    cases e : runsR c with
    | nil =>
      rw [e] at ih
      show _ = worthR t [(p.2, [p.1])]
      rw [worthR_cons, any_one, ih]
      simp only [decide_eq_true_eq]
    | cons x r =>
      obtain ⟨w, ks⟩ := x
      rw [e] at ih
      show _ = worthR t (if w = p.2 then (p.2, p.1 :: ks) :: r else (p.2, [p.1]) :: (w, ks) :: r)
      by_cases h : w = p.2
      · rw [if_pos h, worthR_cons, List.any_cons]
        rw [worthR_cons] at ih
        by_cases hp : p.1 ∈ t
        · rw [if_pos hp, decide_eq_true hp, Bool.true_or, if_pos rfl]
        · rw [if_neg hp, decide_eq_false hp, Bool.false_or, ih, h]
      · rw [if_neg h, worthR_cons, any_one, ih]
        simp only [decide_eq_true_eq]
theorem worthR_sort (t : List Str) : ∀ rs : List Run, worthR t (rs.map fun r => (r.1, sortS r.2)) = worthR t rs
  | [] => rfl
  | r :: rs => by
    rw [List.map_cons, worthR_cons, worthR_cons, worthR_sort t rs]
    have e : ((sortS r.2).any fun k => decide (k ∈ t)) = r.2.any fun k => decide (k ∈ t) := by
      rw [Bool.eq_iff_iff, List.any_eq_true, List.any_eq_true]
      exact ⟨fun ⟨k, h1, h2⟩ => ⟨k, (sortS_perm _).mem_iff.mp h1, h2⟩, fun ⟨k, h1, h2⟩ => ⟨k, (sortS_perm _).mem_iff.mpr h1, h2⟩⟩
    show (if ((sortS r.2).any fun k => decide (k ∈ t)) = true then some r.1 else _) = _
    rw [e]
theorem worth_form (t : List Str) (c : Ch) : worthS t c = worthR t (formS c) := by rw [worth_runs]; exact (worthR_sort t _).symm
theorem form_worth {c d : Ch} (h : formS c = formS d) (t : List Str) : worthS t c = worthS t d := by rw [worth_form, worth_form, h]
inductive RW : List Run → Prop
  | nil : RW []
  | cons {v : Str} {K : List Str} {r : List Run} : K ≠ [] → K.Nodup → (∀ k ∈ K, ∀ x ∈ r, k ∉ x.2) → (∀ x, r.head? = some x → x.1 ≠ v) → RW r → RW ((v, K) :: r)
theorem runs_kinds : ∀ (c : Ch) (k : Str), (∃ x ∈ runsR c, k ∈ x.2) ↔ k ∈ c.map (·.1)
  | [], k => by simp [runsR]
  | p :: c, k => by
    have ih := runs_kinds c k
    rw [List.map_cons, List.mem_cons, ← ih, runsR_cons]
    cases e : runsR c with
    | nil => simp
    | cons x r =>
      obtain ⟨w, ks⟩ := x
      simp only
      split <;> simp [or_assoc]
theorem runs_rw : ∀ {c : Ch}, (c.map (·.1)).Nodup → RW (runsR c)
  | [], _ => .nil
  | p :: c, h => by
    rw [List.map_cons, List.nodup_cons] at h
    obtain ⟨h1, h2⟩ := h
    have ih := runs_rw h2
    have hk := runs_kinds c p.1
    have hp : ∀ x ∈ runsR c, p.1 ∉ x.2 := fun x hx z => h1 (hk.mp ⟨x, hx, z⟩)
    rw [runsR_cons]
    cases e : runsR c with
    | nil => exact .cons (by simp) (by simp) (fun _ _ x hx => nomatch hx) (fun x hx => nomatch hx) .nil
    | cons x r =>
      obtain ⟨w, ks⟩ := x
      rw [e] at ih hp
      simp only
      cases ih with
      | cons a1 a2 a3 a4 a5 =>
        split
        · rename_i hw
          subst hw
          refine .cons (by simp) (List.nodup_cons.mpr ⟨hp _ List.mem_cons_self, a2⟩) (fun k hk x hx => ?_) a4 a5
          rcases List.mem_cons.mp hk with rfl | hk
          · exact hp x (List.mem_cons_of_mem _ hx)
          · exact a3 k hk x hx
        · rename_i hw
          refine .cons (by simp) (by simp) (fun k hk x hx => ?_) (fun x hx => ?_) (.cons a1 a2 a3 a4 a5)
          · rw [List.mem_singleton.mp hk]
            exact hp x hx
          · cases hx
            exact hw
theorem worthR_hit {t : List Str} {v : Str} {K : List Str} {r : List Run} {k : Str} (hk : k ∈ K) (ht : k ∈ t) : worthR t ((v, K) :: r) = some v := by
  rw [worthR_cons, if_pos (List.any_eq_true.mpr ⟨k, hk, decide_eq_true ht⟩)]
theorem worthR_miss {t : List Str} {v : Str} {K : List Str} {r : List Run} (h : ∀ k ∈ K, k ∉ t) : worthR t ((v, K) :: r) = worthR t r := by
  rw [worthR_cons, if_neg]
  intro z
  obtain ⟨k, h1, h2⟩ := List.any_eq_true.mp z
  exact h k h1 (of_decide_eq_true h2)
theorem worthR_congr {t s : List Str} : ∀ {r : List Run}, (∀ x ∈ r, ∀ k ∈ x.2, (k ∈ t ↔ k ∈ s)) → worthR t r = worthR s r
  | [], _ => rfl
  | y :: r, h => by
    rw [worthR_cons, worthR_cons, worthR_congr (r := r) fun x hx => h x (List.mem_cons_of_mem _ hx)]
    have e : (y.2.any fun k => decide (k ∈ t)) = y.2.any fun k => decide (k ∈ s) := by
      rw [Bool.eq_iff_iff, List.any_eq_true, List.any_eq_true]
      exact ⟨fun ⟨k, h1, h2⟩ => ⟨k, h1, decide_eq_true ((h y List.mem_cons_self k h1).mp (of_decide_eq_true h2))⟩, fun ⟨k, h1, h2⟩ => ⟨k, h1, decide_eq_true ((h y List.mem_cons_self k h1).mpr (of_decide_eq_true h2))⟩⟩
    rw [e]
def Agree (A B : List Run) : Prop := ∀ k l : Str, (∃ x ∈ A ++ B, k ∈ x.2) → (∃ x ∈ A ++ B, l ∈ x.2) → worthR [k, l] A = worthR [k, l] B
theorem first_sub {v : Str} {K L : List Str} {A B : List Run} (hA : RW ((v, K) :: A)) (hB : RW ((v, L) :: B)) (h : Agree ((v, K) :: A) ((v, L) :: B)) : ∀ k ∈ K, k ∈ L := by
  intro k hk
  refine Classical.byContradiction fun hn => ?_
  have ink : ∃ x ∈ (v, K) :: A ++ (v, L) :: B, k ∈ x.2 := ⟨(v, K), by simp, hk⟩
  cases hB with
  | cons b1 b2 b3 b4 b5 =>
    have miss : ∀ l : Str, l ∉ L → worthR [k, l] ((v, L) :: B) = worthR [k, l] B := fun l hl => worthR_miss fun z hz q => by
      rcases List.mem_cons.mp q with rfl | q
      · exact hn hz
      · rw [List.mem_singleton.mp q] at hz
        exact hl hz
    cases B with
    | nil =>
      have := h k k ink ink
      rw [worthR_hit hk List.mem_cons_self, miss k hn] at this
      cases this
    | cons y B =>
      obtain ⟨w, M⟩ := y
      have hw : w ≠ v := b4 _ rfl
      cases b5 with
      | cons c1 c2 c3 c4 c5 =>
        obtain ⟨l, hl⟩ : ∃ l, l ∈ M := by
          cases M with
          | nil => exact absurd rfl c1
          | cons l M => exact ⟨l, List.mem_cons_self⟩
        have hlL : l ∉ L := fun z => b3 l z (w, M) List.mem_cons_self hl
        have := h k l ink ⟨(w, M), by simp, hl⟩
        rw [worthR_hit hk List.mem_cons_self, miss l hlL, worthR_hit hl (by simp)] at this
        exact hw (Option.some.inj this).symm
theorem Agree.symm {A B : List Run} (h : Agree A B) : Agree B A := fun k l hk hl => (h k l (by
  obtain ⟨x, h1, h2⟩ := hk
  exact ⟨x, by rw [List.mem_append] at h1 ⊢; exact h1.symm, h2⟩) (by
  obtain ⟨x, h1, h2⟩ := hl
  exact ⟨x, by rw [List.mem_append] at h1 ⊢; exact h1.symm, h2⟩)).symm
theorem sort_same {K L : List Str} (hK : K.Nodup) (hL : L.Nodup) (h : ∀ x, x ∈ K ↔ x ∈ L) : sortS K = sortS L :=
  sorted_eq (sortS_pw L) ((sortS_perm L).nodup_iff.mpr hL) (sortS_pw K) ((sortS_perm K).nodup_iff.mpr hK) fun x => by rw [(sortS_perm K).mem_iff, (sortS_perm L).mem_iff, h]
theorem runs_eq : ∀ {A B : List Run}, RW A → RW B → Agree A B → (A.map fun r => (r.1, sortS r.2)) = B.map fun r => (r.1, sortS r.2)
  | [], [], _, _, _ => rfl
  | [], (w, L) :: B, _, hB, h => by
    cases hB with
    | cons b1 b2 b3 b4 b5 =>
      cases L with
      | nil => exact absurd rfl b1
      | cons l L =>
        have := h l l ⟨(w, l :: L), by simp, List.mem_cons_self⟩ ⟨(w, l :: L), by simp, List.mem_cons_self⟩
        rw [worthR_hit (k := l) List.mem_cons_self List.mem_cons_self] at this
        cases this
  | (v, K) :: A, [], hA, _, h => by
    cases hA with
    | cons b1 b2 b3 b4 b5 =>
      cases K with
      | nil => exact absurd rfl b1
      | cons l L =>
        have := h l l ⟨(v, l :: L), by simp, List.mem_cons_self⟩ ⟨(v, l :: L), by simp, List.mem_cons_self⟩
        rw [worthR_hit (k := l) List.mem_cons_self List.mem_cons_self] at this
        cases this
  | (v, K) :: A, (w, L) :: B, hA, hB, h => by
    have hA0 := hA
    have hB0 := hB
    cases hA with
    | cons a1 a2 a3 a4 a5 =>
    cases hB with
    | cons b1 b2 b3 b4 b5 =>
    have hvw : v = w := by
      cases K with
      | nil => exact absurd rfl a1
      | cons k K =>
        cases L with
        | nil => exact absurd rfl b1
        | cons l L =>
          have := h k l ⟨(v, k :: K), by simp, List.mem_cons_self⟩ ⟨(w, l :: L), by simp, List.mem_cons_self⟩
          rw [worthR_hit (k := k) List.mem_cons_self List.mem_cons_self, worthR_hit (k := l) List.mem_cons_self (by simp)] at this
          exact Option.some.inj this
    subst hvw
    have s1 := first_sub hA0 hB0 h
    have s2 := first_sub hB0 hA0 h.symm
    have hKL : ∀ x, x ∈ K ↔ x ∈ L := fun x => ⟨s1 x, s2 x⟩
    rw [List.map_cons, List.map_cons, runs_eq a5 b5 fun k l hk hl => ?_]
    · show (v, sortS K) :: _ = (v, sortS L) :: _
      rw [sort_same a2 b2 hKL]
    · have out : ∀ z : Str, (∃ x ∈ A ++ B, z ∈ x.2) → z ∉ K := fun z ⟨x, hx, hz⟩ hk => by
        rcases List.mem_append.mp hx with q | q
        · exact a3 z hk x q hz
        · exact b3 z ((hKL z).mp hk) x q hz
      have more : ∀ z : Str, (∃ x ∈ A ++ B, z ∈ x.2) → ∃ x ∈ (v, K) :: A ++ (v, L) :: B, z ∈ x.2 := fun z ⟨x, hx, hz⟩ => ⟨x, by
        rcases List.mem_append.mp hx with q | q
        · simp [q]
        · simp [q], hz⟩
      have q := h k l (more k hk) (more l hl)
      have nk : ∀ z ∈ K, z ∉ [k, l] := fun z hz q => by
        rcases List.mem_cons.mp q with rfl | q
        · exact out _ hk hz
        · rw [List.mem_singleton.mp q] at hz
          exact out _ hl hz
      rw [worthR_miss nk, worthR_miss fun z hz => nk z ((hKL z).mpr hz)] at q
      exact q
theorem form_of_worth {c d : Ch} (hc : (c.map (·.1)).Nodup) (hd : (d.map (·.1)).Nodup) (h : ∀ k l : Str, k ∈ c.map (·.1) ∨ k ∈ d.map (·.1) → l ∈ c.map (·.1) ∨ l ∈ d.map (·.1) → worthS [k, l] c = worthS [k, l] d) : formS c = formS d := by
  refine runs_eq (runs_rw hc) (runs_rw hd) fun k l hk hl => ?_
  have key : ∀ z : Str, (∃ x ∈ runsR c ++ runsR d, z ∈ x.2) → z ∈ c.map (·.1) ∨ z ∈ d.map (·.1) := fun z ⟨x, hx, hz⟩ => by
    rcases List.mem_append.mp hx with q | q
    · exact .inl ((runs_kinds c z).mp ⟨x, q, hz⟩)
    · exact .inr ((runs_kinds d z).mp ⟨x, q, hz⟩)
  rw [← worth_runs, ← worth_runs]
  exact h k l (key k hk) (key l hl)
theorem worth_congr {t s : List Str} {c : Ch} (h : ∀ k ∈ c.map (·.1), (k ∈ t ↔ k ∈ s)) : worthS t c = worthS s c := by
  rw [worth_runs, worth_runs]
  exact worthR_congr fun x hx k hk => h k ((runs_kinds c k).mp ⟨x, hx, hk⟩)
end SF
set_option Elab.async false
set_option linter.all false
set_option maxRecDepth 100000
namespace SF
open PySem PySem.Spec L2 TL
open PyProof.Rows hiding St
def glue (v : Str) (K : List Str) : List Run → List Run
  | [] => [(v, K)]
  | (w, ks) :: r => if w = v then (v, K ++ ks) :: r else (v, K) :: (w, ks) :: r
theorem runsR_glue (p : Str × Str) (c : Ch) : runsR (p :: c) = glue p.2 [p.1] (runsR c) := by
  rw [runsR_cons]
  cases runsR c with
  | nil => rfl
  | cons x r => rfl
theorem glue_glue {v : Str} {K : List Str} {w : Str} {L : List Str} {rs : List Run} : glue v K (glue w L rs) = if w = v then glue v (K ++ L) rs else (v, K) :: glue w L rs := by
  cases rs with
  | nil =>
    show (if w = v then [(v, K ++ L)] else (v, K) :: [(w, L)]) = _
    split <;> rfl
  | cons x r =>
    obtain ⟨u, ks⟩ := x
    show glue v K (if u = w then (w, L ++ ks) :: r else (w, L) :: (u, ks) :: r) = if w = v then (if u = v then (v, K ++ L ++ ks) :: r else (v, K ++ L) :: (u, ks) :: r) else (v, K) :: (if u = w then (w, L ++ ks) :: r else (w, L) :: (u, ks) :: r)
    by_cases h1 : w = v
    · subst h1
      rw [if_pos rfl]
      by_cases h2 : u = w
      · rw [if_pos h2, if_pos h2]
        show (if w = w then (w, K ++ (L ++ ks)) :: r else _) = _
        rw [if_pos rfl, List.append_assoc]
      · rw [if_neg h2, if_neg h2]
        show (if w = w then (w, K ++ L) :: (u, ks) :: r else _) = _
        rw [if_pos rfl]
    · rw [if_neg h1]
      by_cases h2 : u = w
      · rw [if_pos h2]
        show (if w = v then _ else (v, K) :: (w, L ++ ks) :: r) = _
        rw [if_neg h1]
      · rw [if_neg h2]
        show (if w = v then _ else (v, K) :: (w, L) :: (u, ks) :: r) = _
        rw [if_neg h1]
inductive Acc : List Run → Ch → List Run → Prop
  | nil {c : Ch} : Acc [] c (runsR c)
  | snoc {B : List Run} {v : Str} {K : List Str} {c : Ch} : Acc (B ++ [(v, K)]) c (B ++ glue v K (runsR c))
theorem Acc.one {p : Str × Str} {c : Ch} {R : List Run} (h : Acc [] (p :: c) R) : Acc [(p.2, [p.1])] c R := by
  have e : R = runsR (p :: c) := by
    generalize hA : ([] : List Run) = A at h
    cases h with
    | nil => rfl
    | snoc => simp at hA
  rw [e, runsR_glue]
  exact Acc.snoc (B := [])
theorem Acc.get {B : List Run} {v : Str} {K : List Str} {c : Ch} {R : List Run} (h : Acc (B ++ [(v, K)]) c R) : R = B ++ glue v K (runsR c) := by
  generalize hA : B ++ [(v, K)] = A at h
  cases h with
  | nil => simp at hA
  | snoc =>
    rename_i B' v' K'
    have h1 := List.append_inj' hA rfl
    obtain ⟨rfl, h2⟩ := h1
    cases h2
    rfl
theorem Acc.same {B : List Run} {v : Str} {K : List Str} {p : Str × Str} {c : Ch} {R : List Run} (h : Acc (B ++ [(v, K)]) (p :: c) R) (e : p.2 = v) : Acc (B ++ [(v, K ++ [p.1])]) c R := by
  rw [h.get, runsR_glue, glue_glue, if_pos e]
  exact .snoc
theorem Acc.other {B : List Run} {v : Str} {K : List Str} {p : Str × Str} {c : Ch} {R : List Run} (h : Acc (B ++ [(v, K)]) (p :: c) R) (e : p.2 ≠ v) : Acc ((B ++ [(v, K)]) ++ [(p.2, [p.1])]) c R := by
  rw [h.get, runsR_glue, glue_glue, if_neg e, show B ++ (v, K) :: glue p.2 [p.1] (runsR c) = (B ++ [(v, K)]) ++ glue p.2 [p.1] (runsR c) by simp]
  exact .snoc
theorem strsT_map : ∀ l : List Str, strsT (l.map T.str) = some l
  | [] => rfl
  | x :: l => by simp only [List.map_cons, strsT, strsT_map l, Option.map_some]
end SF
set_option Elab.async false
set_option linter.all false
set_option maxRecDepth 100000
namespace SF
open PySem PySem.Spec L2 TL
open PyProof.Rows hiding St
structure GH (c : Ch) : Prop where
  len : c.length ≤ 6
  so : ∀ p ∈ c, So p.1 ∧ So p.2
  nd : (c.map (·.1)).Nodup
def likeR (R Q : List (List Ch)) : Prop := R.map (·.map formS) = Q.map (·.map formS)
instance (R Q : List (List Ch)) : Decidable (likeR R Q) := by unfold likeR; infer_instance
end SF
set_option Elab.async false
set_option linter.all false
set_option maxRecDepth 100000
namespace SF
open PySem PySem.Spec L2 TL
open PyProof.Rows hiding St
abbrev Ow := Str → Option Str
def giveO (g : List (Str × Str)) (o : Ow) : Ow := g.foldl (fun o p a => if a = p.1 then some p.2 else o a) o
def stepO (t : List Str) (c : Code) (o : Ow) : Ow := if c.k ∈ t then giveO c.g o else o
def afterO (b : Bk) (t : List Str) : Ow → List Str → Ow
  | o, [] => o
  | o, x :: r => match findC b.cs x with
    | some c => afterO b t (stepO t c o) r
    | none => afterO b t o r
def wl (b : Bk) (t : List Str) : Ow → List Str → List (List (Option Str))
  | _, [] => []
  | o, x :: r => match findC b.cs x with
    | some c => wl b t (stepO t c o) r
    | none => (shownS b x).map o :: wl b t o r
abbrev o0 : Ow := fun _ => none
theorem wl_app (b : Bk) (t : List Str) : ∀ (o : Ow) (xs ys : List Str), wl b t o (xs ++ ys) = wl b t o xs ++ wl b t (afterO b t o xs) ys
  | o, [], ys => rfl
  | o, x :: xs, ys => by
    simp only [List.cons_append, wl, afterO]
    cases findC b.cs x with
    | some c => exact wl_app b t _ xs ys
    | none => rw [List.cons_append, wl_app b t o xs ys]
theorem wl_len (b : Bk) (t : List Str) : ∀ (o : Ow) (xs : List Str), (wl b t o xs).length = (signS b xs).length
  | o, [] => rfl
  | o, x :: xs => by
    unfold signS
    simp only [wl]
    cases e : findC b.cs x with
    | some c =>
      rw [List.filter_cons_of_neg (by simp [e])]
      exact wl_len b t _ xs
    | none =>
      rw [List.filter_cons_of_pos (by simp [e]), List.length_cons, List.length_cons, wl_len b t o xs]
      rfl
theorem give_o {t : List Str} {k : Str} (hk : k ∈ t) : ∀ {g : List (Str × Str)} {f : Str → Ch} {o : Ow}, (∀ a, worthS t (f a) = o a) → ∀ a, worthS t (giveF f k g a) = giveO g o a
  | [], f, o, h, a => h a
  | p :: g, f, o, h, a => give_o hk (g := g) (f := fun a => if a = p.1 then behindS (f a) k p.2 else f a) (o := fun a => if a = p.1 then some p.2 else o a) (fun a => by
    show worthS t (if a = p.1 then behindS (f a) k p.2 else f a) = if a = p.1 then some p.2 else o a
    by_cases e : a = p.1
    · rw [if_pos e, if_pos e, worth_behind, if_pos hk]
    · rw [if_neg e, if_neg e]
      exact h a) a
theorem step_o {t : List Str} (c : Code) {f : Str → Ch} {o : Ow} (h : ∀ a, worthS t (f a) = o a) (a : Str) : worthS t (giveF f c.k c.g a) = stepO t c o a := by
  unfold stepO
  split
  · rename_i hk
    exact give_o hk h a
  · rename_i hk
    rw [give_out hk]
    exact h a
theorem wl_rows (b : Bk) (t : List Str) : ∀ (xs : List Str) (f : Str → Ch) (o : Ow), (∀ a, worthS t (f a) = o a) → wl b t o xs = (rowsF b f xs).map (·.map (worthS t))
  | [], _, _, _ => rfl
  | x :: xs, f, o, h => by
    simp only [wl, rowsF]
    cases e : findC b.cs x with
    | some c => exact wl_rows b t xs _ _ (step_o c h)
    | none =>
      show (shownS b x).map o :: wl b t o xs = _
      rw [List.map_cons, wl_rows b t xs f o h, List.map_map]
      congr 1
      exact List.map_congr_left fun a _ => (h a).symm
theorem wl_rows0 (b : Bk) (t xs : List Str) : wl b t o0 xs = (rowsF b f0 xs).map (·.map (worthS t)) := wl_rows b t xs f0 o0 fun _ => rfl
def likeS (b : Bk) (xs ys : List Str) : Prop := likeR (rowsF b f0 xs) (rowsF b f0 ys)
instance (b : Bk) (xs ys : List Str) : Decidable (likeS b xs ys) := by unfold likeS; infer_instance
theorem like_wl {b : Bk} {xs ys : List Str} (h : likeS b xs ys) (t : List Str) : wl b t o0 xs = wl b t o0 ys := by
  have e : ∀ R : List (List Ch), R.map (·.map (worthS t)) = (R.map (·.map formS)).map (·.map (worthR t)) := fun R => by
    rw [List.map_map]
    refine List.map_congr_left fun r _ => ?_
    show r.map (worthS t) = (r.map formS).map (worthR t)
    rw [List.map_map]
    exact List.map_congr_left fun c _ => worth_form t c
  rw [wl_rows0, wl_rows0, e, e, show (rowsF b f0 xs).map (·.map formS) = _ from h]
theorem rows_mem {b : Bk} {xs : List Str} {r : List Ch} (h : r ∈ rowsF b f0 xs) : ∃ x ys, r = (shownS b x).map (chainF b f0 ys) := by
  rw [rows_q] at h
  obtain ⟨q, hq, rfl⟩ := List.mem_map.mp h
  obtain ⟨_, _, ys, e⟩ := q_mem hq
  exact ⟨q.1, ys, by rw [← e]⟩
theorem GC.gh {b : Bk} (G : GC b) (ys : List Str) (a : Str) : GH (chainF b f0 ys a) := by
  obtain ⟨K, hK, hk⟩ := G.kin
  have ci : CI K (chainF b f0 ys a) := CI.chain hk (fun _ => CI.nil K) a
  exact ⟨(G.cs a).1, fun p hp => ⟨(G.cs a).2 p hp, G.vals a p hp⟩, ci.nd⟩
theorem chain_kinds {b : Bk} {ys : List Str} {a k : Str} (h : k ∈ (chainF b f0 ys a).map (·.1)) : ∃ c ∈ b.cs, c.k = k := by
  obtain ⟨p, hp, rfl⟩ := List.mem_map.mp h
  exact chain_vals (P := fun p => ∃ c ∈ b.cs, c.k = p.1) (fun c hc p _ => ⟨c, hc, rfl⟩) (fun _ p h => by cases h) a p hp
theorem like_of {b : Bk} (G : GC b) {xs ys : List Str} (h : ∀ k l : Str, (∃ c ∈ b.cs, c.k = k) → (∃ c ∈ b.cs, c.k = l) → wl b [k, l] o0 xs = wl b [k, l] o0 ys) (hn : wl b [] o0 xs = wl b [] o0 ys) : likeS b xs ys := by
  have at_ : ∀ t, wl b t o0 xs = wl b t o0 ys → ∀ i : Nat, ((rowsF b f0 xs)[i]?.map (·.map (worthS t))) = (rowsF b f0 ys)[i]?.map (·.map (worthS t)) := fun t e i => by
    rw [wl_rows0, wl_rows0] at e
    have := congrArg (fun l => l[i]?) e
    simpa only [List.getElem?_map] using this
  refine List.ext_getElem? fun i => ?_
  rw [List.getElem?_map, List.getElem?_map]
  have h0 := at_ [] hn i
  cases er : (rowsF b f0 xs)[i]? with
  | none =>
    rw [er] at h0
    cases eq : (rowsF b f0 ys)[i]? with
    | none => rfl
    | some q => rw [eq] at h0; cases h0
  | some r =>
    rw [er] at h0
    cases eq : (rowsF b f0 ys)[i]? with
    | none => rw [eq] at h0; cases h0
    | some q =>
      rw [eq] at h0
      simp only [Option.map_some, Option.some.injEq] at h0 ⊢
      obtain ⟨x, zs, rfl⟩ := rows_mem (List.mem_of_getElem? er)
      obtain ⟨y, us, rfl⟩ := rows_mem (List.mem_of_getElem? eq)
      refine List.ext_getElem? fun j => ?_
      have hj : ∀ t, wl b t o0 xs = wl b t o0 ys → (((shownS b x).map (chainF b f0 zs))[j]?.map (worthS t)) = ((shownS b y).map (chainF b f0 us))[j]?.map (worthS t) := fun t e => by
        have z := at_ t e i
        rw [er, eq] at z
        simp only [Option.map_some, Option.some.injEq] at z
        have := congrArg (fun l => l[j]?) z
        simpa only [List.getElem?_map] using this
      rw [List.getElem?_map, List.getElem?_map]
      have j0 := hj [] hn
      simp only [List.getElem?_map] at hj j0 ⊢
      cases ea : (shownS b x)[j]? with
      | none =>
        rw [ea] at j0
        cases eb : (shownS b y)[j]? with
        | none => rfl
        | some a' => rw [eb] at j0; cases j0
      | some a =>
        cases eb : (shownS b y)[j]? with
        | none => rw [ea, eb] at j0; cases j0
        | some a' =>
          simp only [ea, eb, Option.map_some, Option.some.injEq] at hj ⊢
          refine form_of_worth (G.gh zs a).nd (G.gh us a').nd fun k l hk hl => hj _ (h k l ?_ ?_)
          · exact hk.elim chain_kinds chain_kinds
          · exact hl.elim chain_kinds chain_kinds
theorem likeS.symm {b : Bk} {xs ys : List Str} (h : likeS b xs ys) : likeS b ys xs := Eq.symm h
theorem likeS.trans {b : Bk} {xs ys zs : List Str} (h : likeS b xs ys) (g : likeS b ys zs) : likeS b xs zs := Eq.trans h g
theorem give_keep {P p o O : Ow} (h : ∀ a, P a = O a ∨ (P a = p a ∧ O a = o a)) : ∀ g : List (Str × Str), ∀ a, giveO g P a = giveO g O a ∨ (giveO g P a = giveO g p a ∧ giveO g O a = giveO g o a) := fun g => by
  induction g generalizing P p o O with
  | nil => exact h
  | cons q g ih =>
    refine ih (P := fun a => if a = q.1 then some q.2 else P a) (p := fun a => if a = q.1 then some q.2 else p a) (o := fun a => if a = q.1 then some q.2 else o a) (O := fun a => if a = q.1 then some q.2 else O a) fun a => ?_
    by_cases e : a = q.1
    · left
      show (if a = q.1 then _ else _) = if a = q.1 then _ else _
      rw [if_pos e, if_pos e]
    · rcases h a with z | z
      · left
        show (if a = q.1 then _ else _) = if a = q.1 then _ else _
        rw [if_neg e, if_neg e, z]
      · right
        show (if a = q.1 then _ else _) = (if a = q.1 then _ else _) ∧ (if a = q.1 then _ else _) = if a = q.1 then _ else _
        rw [if_neg e, if_neg e, if_neg e, if_neg e]
        exact z
theorem wl_keep {b : Bk} {t : List Str} : ∀ {C : List Str} {P p o O : Ow}, wl b t p C = wl b t o C → (∀ a, P a = O a ∨ (P a = p a ∧ O a = o a)) → wl b t P C = wl b t O C
  | [], _, _, _, _, _, _ => rfl
  | x :: C, P, p, o, O, h, r => by
    simp only [wl] at h ⊢
    cases e : findC b.cs x with
    | some c =>
      rw [e] at h
      refine wl_keep (p := stepO t c p) (o := stepO t c o) h fun a => ?_
      unfold stepO
      split
      · exact give_keep r c.g a
      · exact r a
    | none =>
      rw [e] at h
      simp only [List.cons.injEq] at h ⊢
      refine ⟨List.map_congr_left fun a ha => ?_, wl_keep h.2 r⟩
      have hp : p a = o a := (List.map_inj_left.mp h.1) a ha
      rcases r a with z | ⟨z1, z2⟩
      · exact z
      · rw [z1, z2, hp]
theorem give_step {t : List Str} (c : Code) (p o : Ow) : ∀ a, stepO t c p a = stepO t c o a ∨ (stepO t c p a = p a ∧ stepO t c o a = o a) := fun a => by
  unfold stepO
  split
  · have key : ∀ g : List (Str × Str), ∀ P O : Ow, (∀ a, P a = O a ∨ (P a = p a ∧ O a = o a)) → ∀ a, giveO g P a = giveO g O a ∨ (giveO g P a = p a ∧ giveO g O a = o a) := fun g => by
      induction g with
      | nil => exact fun P O h => h
      | cons q g ih =>
        intro P O h
        refine ih (fun a => if a = q.1 then some q.2 else P a) (fun a => if a = q.1 then some q.2 else O a) fun a => ?_
        by_cases e : a = q.1
        · left
          show (if a = q.1 then _ else _) = if a = q.1 then _ else _
          rw [if_pos e, if_pos e]
        · show (if a = q.1 then _ else P a) = (if a = q.1 then _ else O a) ∨ _
          rw [if_neg e, if_neg e]
          exact h a
    exact key c.g p o (fun a => .inr ⟨rfl, rfl⟩) a
  · exact .inr ⟨rfl, rfl⟩
theorem append_inj_len {α : Type} {a b c d : List α} (h : a ++ b = c ++ d) (l : a.length = c.length) : a = c ∧ b = d := List.append_inj h l
theorem needed_stays {b : Bk} (G : GC b) {A D C : List Str} {w x : Str} {c e : Code} (hw : findC b.cs w = some c) (hx : findC b.cs x = some e) (h : likeS b (A ++ w :: (D ++ C)) (A ++ (D ++ C))) : likeS b (A ++ w :: (D ++ x :: C)) (A ++ (D ++ x :: C)) := by
  have key : ∀ t, wl b t o0 (A ++ w :: (D ++ x :: C)) = wl b t o0 (A ++ (D ++ x :: C)) := fun t => by
    have q := like_wl h t
    rw [wl_app, wl_app] at q ⊢
    have q2 := (append_inj_len q rfl).2
    congr 1
    simp only [wl, hw] at q2 ⊢
    rw [wl_app, wl_app] at q2 ⊢
    obtain ⟨q3, q4⟩ := append_inj_len q2 (by rw [wl_len, wl_len])
    rw [q3]
    congr 1
    simp only [wl, hx]
    exact wl_keep q4 (give_step e _ _)
  exact like_of G (fun _ _ _ _ => key _) (key _)
end SF
set_option Elab.async false
set_option linter.all false
set_option maxRecDepth 100000
namespace SF
open PySem PySem.Spec L2 TL
open PyProof.Rows hiding St
abbrev wo (xs : List Str) (i : Nat) : List Str := xs.eraseIdx i
theorem add_tS {xs ys : List Str} (h : xs.length + ys.length ≤ 1000) (S : Sto) : addT S (tS xs) (tS ys) = some (tS (xs ++ ys)) := by
  rw [add_tup (Nat.le_trans (by rw [List.length_map, List.length_map]; exact h) (by decide)), ← List.map_append]
theorem GX.sub {b : Bk} {xs ys : List Str} (X : GX b xs) (h : ys.Sublist xs) : GX b ys := ⟨X.i.sub h, fun x hx => X.so x (h.subset hx)⟩
def needP (b : Bk) (xs : List Str) (i : Nat) : Bool := match xs[i]? with
  | some x => (findC b.cs x).isSome && decide (likeS b xs (wo xs i))
  | none => false
theorem rng_nat (n : Nat) : rng 0 (n : Int) = (List.range n).map fun i : Nat => T.int i := by
  unfold rng
  rw [show ((n : Int) - 0).toNat = n by omega]
  exact List.map_congr_left fun i _ => by congr 1; omega
end SF
set_option Elab.async false
set_option linter.all false
set_option maxRecDepth 100000
namespace SF
open PySem PySem.Spec L2 TL
open PyProof.Rows hiding St
theorem needP_of {b : Bk} {xs : List Str} {i : Nat} (h : needP b xs i = true) : ∃ x c, xs[i]? = some x ∧ findC b.cs x = some c ∧ likeS b xs (wo xs i) := by
  unfold needP at h
  cases e : xs[i]? with
  | none => rw [e] at h; cases h
  | some x =>
    rw [e] at h
    simp only [Bool.and_eq_true, decide_eq_true_eq] at h
    obtain ⟨c, hc⟩ := Option.isSome_iff_exists.mp h.1
    exact ⟨x, c, rfl, hc, h.2⟩
theorem stays {b : Bk} (G : GC b) {xs : List Str} {i n : Nat} (hin : i < n) (hn : n < xs.length) (hw : ∃ x c, xs[n]? = some x ∧ findC b.cs x = some c) (h : needP b xs i = false) : needP b (wo xs n) i = false := by
  cases hq : needP b (wo xs n) i with
  | false => rfl
  | true =>
    exfalso
    obtain ⟨w, c, e1, e2, e3⟩ := needP_of hq
    obtain ⟨x, d, e4, e5⟩ := hw
    have e1' : xs[i]? = some w := by rwa [wo, List.getElem?_eraseIdx_of_lt hin] at e1
    have sp : xs = xs.take i ++ w :: ((xs.drop (i + 1)).take (n - i - 1) ++ x :: xs.drop (n + 1)) := by
      conv => lhs; rw [split_at e1']
      congr 2
      have e6 : (xs.drop (i + 1))[n - i - 1]? = some x := by
        rw [List.getElem?_drop, show i + 1 + (n - i - 1) = n by omega]
        exact e4
      conv => lhs; rw [split_at e6]
      rw [List.drop_drop, show i + 1 + (n - i - 1 + 1) = n + 1 by omega]
    generalize hA : xs.take i = A at sp
    have lA : A.length = i := by rw [← hA, List.length_take]; omega
    generalize hD : (xs.drop (i + 1)).take (n - i - 1) = D at sp
    have lD : D.length = n - i - 1 := by rw [← hD, List.length_take, List.length_drop]; omega
    generalize xs.drop (n + 1) = C at sp
    have w1 : wo xs i = A ++ (D ++ x :: C) := by
      rw [sp, wo, List.eraseIdx_append_of_length_le (by omega), lA, Nat.sub_self]
      rfl
    have w2 : wo xs n = A ++ w :: (D ++ C) := by
      rw [sp, wo, List.eraseIdx_append_of_length_le (by omega), lA, show n - i = (n - i - 1) + 1 by omega, List.eraseIdx_cons_succ, List.eraseIdx_append_of_length_le (by omega), lD, Nat.sub_self]
      rfl
    have w3 : wo (wo xs n) i = A ++ (D ++ C) := by
      rw [w2, wo, List.eraseIdx_append_of_length_le (by omega), lA, Nat.sub_self]
      rfl
    rw [w3, w2] at e3
    have k := needed_stays G (x := x) e2 e5 e3
    rw [← sp, ← w1] at k
    unfold needP at h
    rw [e1'] at h
    simp only [e2, Option.isSome_some, Bool.true_and, decide_eq_false_iff_not] at h
    exact h k
end SF
set_option Elab.async false
set_option linter.all false
set_option maxRecDepth 100000
namespace SF
open PySem PySem.Spec L2 TL
open PyProof.Rows hiding St
end SF
set_option Elab.async false
set_option linter.all false
set_option maxRecDepth 100000
namespace SF
open PySem PySem.Spec L2 TL
open PyProof.Rows hiding St
end SF
set_option Elab.async false
set_option linter.all false
set_option maxRecDepth 100000
namespace SF
open PySem PySem.Spec L2 TL
open PyProof.Rows hiding St
end SF
set_option Elab.async false
set_option linter.all false
set_option maxRecDepth 100000
namespace SF
open PySem PySem.Spec L2 TL
open PyProof.Rows hiding St
end SF
set_option Elab.async false
set_option linter.all false
set_option maxRecDepth 100000
namespace SF
open PySem PySem.Spec L2 TL
open PyProof.Rows hiding St
def inA (s t : List Str) : Bool := s.all fun k => decide (k ∈ t)
def leastB (F : List Str → Bool) (L : List (List Str)) (t : List Str) : Bool := F t && L.all fun s => !(inA s t && F s) || decide (s = t)
end SF
set_option Elab.async false
set_option linter.all false
set_option maxRecDepth 100000
namespace SF
open PySem PySem.Spec L2 TL
open PyProof.Rows hiding St
theorem lc_img {α : Type} {F : α → T} {P : α → Bool} {r : α → T} {g : GT} {Ft : FT} {Fe : FE} {vs : List Nat} {τ : Fr} {S : Sto} : ∀ {l : List α},
    (∀ a ∈ l, ∃ s, g (F a) = some s ∧ slotsIn s vs = true ∧ Ft (setsT τ s) S = .ok (P a) S ∧ (P a = true → Fe (setsT τ s) S = .ok (r a) S)) → lcF g Ft Fe vs τ (l.map F) S = .ok ((l.filter P).map r) S
  | [], _ => rfl
  | x :: xs, h => by
    obtain ⟨s, h1, h2, h3, h4⟩ := h x List.mem_cons_self
    have ih := lc_img fun y hy => h y (List.mem_cons_of_mem _ hy)
    cases e : P x with
    | true => simp only [List.map_cons, lcF, h1, h2, h3, e, h4 e, ih, if_true, bind_ok, nox_ok, List.filter_cons_of_pos]
    | false => simp only [List.map_cons, lcF, h1, h2, h3, e, ih, if_true, bind_ok, nox_ok, List.filter_cons, Bool.false_eq_true, if_false]
theorem lc_each1 {α : Type} {F : α → T} {r : α → T} {g : GT} {Ft : FT} {Fe : FE} {vs : List Nat} {τ : Fr} {S : Sto} {l : List α}
    (h : ∀ a ∈ l, ∃ s, g (F a) = some s ∧ slotsIn s vs = true ∧ Ft (setsT τ s) S = .ok true S ∧ Fe (setsT τ s) S = .ok (r a) S) : lcF g Ft Fe vs τ (l.map F) S = .ok (l.map r) S := by
  rw [lc_img (P := fun _ => true) (r := r) fun a ha => (h a ha).imp fun s z => ⟨z.1, z.2.1, z.2.2.1, fun _ => z.2.2.2⟩, List.filter_eq_self.mpr fun _ _ => rfl]
theorem st_img {α : Type} {F : α → T} {r : α → Str} {g : GT} {Ft : FT} {Fe : FE} {vs : List Nat} {τ : Fr} {S : Sto} : ∀ {l : List α} {m : List Str},
    (∀ a ∈ l, ∃ s, g (F a) = some s ∧ slotsIn s vs = true ∧ Ft (setsT τ s) S = .ok true S ∧ Fe (setsT τ s) S = .ok (.str (r a)) S) → stF g Ft Fe vs τ (l.map F) m S = .ok ((l.map r).foldl addS m) S
  | [], _, _ => rfl
  | x :: xs, m, h => by
    obtain ⟨s, h1, h2, h3, h4⟩ := h x List.mem_cons_self
    have ih := st_img (m := addS m (r x)) fun y hy => h y (List.mem_cons_of_mem _ hy)
    simp only [List.map_cons, stF, h1, h2, h3, h4, ih, if_true, bind_ok, nox_ok, List.foldl_cons]
theorem for_at {α : Type} {F : α → T} {g : GT} {B : BS} {l : List α} {τ : Fr} {S : Sto} {R : RS} (hF : forF g B (l.map F) τ S = R) (I : Nat → Fr → Sto → Prop) (h0 : I 0 τ S)
    (h : ∀ i a τ S, l[i]? = some a → I i τ S → ∃ s, g (F a) = some s ∧ TL.Goes (B (setsT τ s) S) (I (i + 1))) : ∃ τ2 S2, R = .nx τ2 S2 ∧ I l.length τ2 S2 := by
  have q := for_go hF I h0 fun i x τ S hx hI => by
    rw [List.getElem?_map] at hx
    cases ex : l[i]? with
    | none => rw [ex] at hx; cases hx
    | some a =>
      rw [ex] at hx
      cases hx
      exact h i a τ S ex hI
  rw [List.length_map] at q
  exact q
theorem bools_of : ∀ bs : List Bool, bools (bs.map T.bl) = some bs
  | [] => rfl
  | b :: bs => by simp only [List.map_cons, bools, bools_of bs, Option.map_some]
theorem all_of_bl (bs : List Bool) (S : Sto) : allT S [.lst (bs.map T.bl)] = some (.bl (bs.all id)) := by
  show ((bools (bs.map T.bl)).map fun bs => T.bl (bs.all id)) = _
  rw [bools_of]
  rfl
theorem all_img {α : Type} (P : α → Bool) (l : List α) (S : Sto) : allT S [.lst (l.map fun a => T.bl (P a))] = some (.bl (l.all P)) := by
  have := all_of_bl (l.map P) S
  rw [List.map_map] at this
  rw [show (l.map fun a => T.bl (P a)) = l.map (T.bl ∘ P) from rfl, this, List.all_map]
  rfl
theorem any_img {α : Type} (P : α → Bool) (l : List α) (S : Sto) : anyT S [.lst (l.map fun a => T.bl (P a))] = some (.bl (l.any P)) := by
  have := any_lst (l.map P) S
  rw [List.map_map] at this
  rw [show (l.map fun a => T.bl (P a)) = l.map (T.bl ∘ P) from rfl, this, List.any_map]
  rfl
theorem adds_nd : ∀ {xs m : List Str}, m.Nodup → (xs.foldl addS m).Nodup
  | [], _, h => h
  | x :: xs, m, h => by
    rw [List.foldl_cons]
    refine adds_nd ?_
    unfold addS
    split
    · exact h
    · exact List.nodup_cons.mpr ⟨‹_›, h⟩
theorem adds_mem : ∀ {xs m : List Str} {y : Str}, y ∈ xs.foldl addS m ↔ y ∈ m ∨ y ∈ xs
  | [], _, _ => by simp
  | x :: xs, m, y => by
    rw [List.foldl_cons, adds_mem, List.mem_cons]
    unfold addS
    split
    · rename_i h
      exact ⟨fun z => z.elim .inl fun z => .inr (.inr z), fun z => z.elim .inl fun z => z.elim (fun e => .inl (e ▸ h)) .inr⟩
    · rw [List.mem_cons]
      exact ⟨fun z => z.elim (fun z => z.elim (fun e => .inr (.inl e)) .inl) fun z => .inr (.inr z), fun z => z.elim (fun z => .inl (.inr z)) fun z => z.elim (fun e => .inl (.inl e)) .inr⟩
theorem adds_len : ∀ (xs m : List Str), (xs.foldl addS m).length ≤ m.length + xs.length
  | [], _ => Nat.le_refl _
  | x :: xs, m => by
    rw [List.foldl_cons, List.length_cons]
    have := adds_len xs (addS m x)
    have := addS_len m x
    omega
def kindsG (b : Bk) : List Str := sortS ((b.cs.map (·.k)).foldl addS [])
theorem kindsG_nd (b : Bk) : (kindsG b).Nodup := (sortS_perm _).nodup_iff.mpr (adds_nd List.nodup_nil)
theorem kindsG_mem {b : Bk} {k : Str} : k ∈ kindsG b ↔ ∃ c ∈ b.cs, c.k = k := by
  unfold kindsG
  rw [(sortS_perm _).mem_iff, adds_mem, List.mem_map]
  simp
theorem kindsG_len {b : Bk} (G : GC b) : (kindsG b).length ≤ 6 := by
  obtain ⟨K, h1, h2⟩ := G.kin
  refine Nat.le_trans (nodup_len (kindsG_nd b) fun k hk => ?_) h1
  obtain ⟨c, hc, rfl⟩ := kindsG_mem.mp hk
  exact h2 c hc
theorem kinds_of_ok {b : Bk} (G : GB b) : Pu m_kinds_of [bT b] (tS (kindsG b)) := by
  intro S
  have hb := need_book_ok G
  have i2 : ∀ S, ixT S (bT b) (.int 2) = some (.tup (b.cs.map cT)) := fun S => rfl
  have l16 := G.len
  have hz := adds_len (b.cs.map (·.k)) []
  rw [List.length_map, List.length_nil, Nat.zero_add] at hz
  unfold m_kinds_of b_kinds_of
  generalize m_need_book = f1 at hb ⊢
  have z1 : b.cs.length + 1 < scanBound := Nat.lt_of_le_of_lt (show _ ≤ 17 by omega) (by decide)
  simp_arith [hb S, i2, fSortX, fSt, List.length_map, z1]
  rw [st_img (r := fun c : Code => c.k) fun c hc => ⟨_, rfl, slots1 _ _, rfl, by simp_arith [cT]⟩]
  simp_arith [show ((b.cs.map (·.k)).foldl addS []).length < 64 by omega]
  rfl
end SF
set_option Elab.async false
set_option linter.all false
set_option maxRecDepth 100000
namespace SF
open PySem PySem.Spec L2 TL
open PyProof.Rows hiding St
def freeP (b : Bk) (xs : List Str) (t : List Str) : Bool := !(rowsF b f0 xs).any fun r => r.any fun c => (worthS t c).isNone
end SF
set_option Elab.async false
set_option linter.all false
set_option maxRecDepth 100000
namespace SF
open PySem PySem.Spec L2 TL
open PyProof.Rows hiding St
end SF
set_option Elab.async false
set_option linter.all false
set_option maxRecDepth 100000
namespace SF
open PySem PySem.Spec L2 TL
open PyProof.Rows hiding St
structure CN (c : Ch) : Prop where
  gh : GH c
  nm : ∀ p ∈ c, Nm p.1 ∧ Nm p.2
theorem BL.cn {b : Bk} (B : BL b) (ys : List Str) (a : Str) : CN (chainF b f0 ys a) :=
  ⟨B.gc.gh ys a, fun p hp => chain_vals (P := fun p => Nm p.1 ∧ Nm p.2) (fun c hc p hp => ⟨nm_all _ (List.mem_append_right _ (B.cl c hc).k), nm_all _ (List.mem_append_left _ (List.mem_append_right _ ((B.cl c hc).gv p hp)))⟩) (fun _ p h => by cases h) a p hp⟩
theorem chains_behind_ok {b : Bk} (G : GC b) {xs : List Str} (hf : ∀ x ∈ xs, (∃ c ∈ b.cs, c.w = x ∧ findC b.cs x = some c ∧ Sg x false) ∨ (Si x ∧ findC b.cs x = none)) : Pu m_chains_behind [bT b, tS xs] (chD b (chainF b f0 xs)) := by
  intro U
  have W := G.w
  have hcb := codes_by_word_ok W
  have hnc := no_chains_ok W
  have hpc := fun {c : Code} (hc : c ∈ b.cs) {xs : List Str} {S : Sto} {n : Nat} (h : S[n]? = some (chD b (chainF b f0 xs))) => pass_at G hc h
  have hsg : ∀ x k, Sg x k → ∀ S, m_is_sign [.str x] S = .ok (.bl k) S := fun x k h S => h S
  suffices H : body ["book", "items", "codes", "chains", "item"] 2 b_chains_behind [bT b, tS xs] U = .ok (.ref U.length) (U ++ [chD b (chainF b f0 xs)]) by
    unfold m_chains_behind
    exact gc_dref H (Nat.le_refl _) (sto_end U _ []) (nrs_map fun a _ => nr_chT _)
  unfold b_chains_behind
  generalize m_codes_by_word = f1 at hcb ⊢
  generalize m_no_chains = f2 at hnc ⊢
  generalize m_pass_code = f3 at hpc ⊢
  generalize m_is_sign = f4 at hsg ⊢
  simp_arith [hcb U, hnc U]
  generalize hF : forF _ _ _ _ _ = R
  obtain ⟨τ2, S2, e, h3, x6, h4⟩ := for_at hF (fun i τ T1 => T1 = U ++ [chD b (chainF b f0 (xs.take i))] ∧
      ∃ x6, τ = [some (bT b), some (tS xs), some (.dct (b.cs.map fun c => Sum.inr c.w) (b.cs.map cT)), some (.ref U.length), x6])
    ⟨rfl, none, rfl⟩ (by
    intro i x τ T1 ex hI
    obtain ⟨rfl, x6, rfl⟩ := hI
    have hxm : x ∈ xs := List.mem_of_getElem? ex
    have htk := take_chain (b := b) f0 ex
    refine ⟨_, rfl, ?_⟩
    rcases hf x hxm with ⟨c, hc, e, hfc, hs⟩ | ⟨hs, hfc⟩
    · rw [hfc] at htk
      simp only at htk
      have hix : ∀ S, ixT S (.dct (b.cs.map fun c => Sum.inr c.w) (b.cs.map cT)) (.str x) = some (cT c) := fun S => by
        rw [ix_codes cT, hfc]
        rfl
      have hp := hpc hc (xs := xs.take i) (S := U ++ [chD b (chainF b f0 (xs.take i))]) (n := U.length) (sto_end U _ _)
      rw [sto_set] at hp
      simp_arith [hsg x false hs, hix, hp]
      exact goes_nx ⟨by rw [htk], _, rfl⟩
    · rw [hfc] at htk
      simp only at htk
      simp_arith [hsg x true hs.sg]
      exact goes_nx ⟨by rw [htk], _, rfl⟩)
  subst e h3 h4
  rw [List.take_length]
  simp_arith []
theorem ix_chp {b : Bk} {f : Str → Ch} {a : Str} (m : a ∈ b.asp) (S : Sto) : ixT S (chD b f) (.str a) = some (chT (f a)) := by
  have h := ix_ch (b := b) (f := f) (S := [chD b f]) (n := 0) rfl m
  exact h
end SF
set_option Elab.async false
set_option linter.all false
set_option maxRecDepth 100000
namespace SF
open PySem PySem.Spec L2 TL
open PyProof.Rows hiding St
abbrev wsB (b : Bk) : List Str := b.cs.map (·.w)
structure NearR (b : Bk) (xs ys : List Str) : Prop where
  sg : signS b ys = signS b xs
  it : ∀ y ∈ ys, y ∈ xs ∨ y ∈ wsB b
  len : ys.length ≤ xs.length + 1
theorem NearR.xl {b : Bk} {xs ys : List Str} (N : NearR b xs ys) (X : XL b xs) (h : xs.length ≤ 150) : XL b ys :=
  ⟨by have := N.len; omega, fun y hy => (N.it y hy).elim (X.it y) .inl⟩
theorem pop_at {xs : List T} {i : Nat} {x : T} (h : xs[i]? = some x) (S : Sto) (hl : xs.length ≤ 200) : opPop S xs [.int (i : Nat)] = some (x, xs.eraseIdx i) := by
  have hi := (List.getElem?_eq_some_iff.mp h).1
  have e : seqIndex? (i : Int) xs.length = some i := by
    unfold seqIndex?
    rw [if_neg (show ¬ (i : Int) < 0 by omega)]
    simp only [Int.toNat_natCast]
    rw [if_pos (by simp; omega)]
  have c : (decide (-(2 ^ 62) ≤ (i : Int)) && decide ((i : Int) < 2 ^ 62)) = true := by
    rw [decide_eq_true (show -(2 ^ 62) ≤ (i : Int) by omega), decide_eq_true (show (i : Int) < 2 ^ 62 by omega)]
    rfl
  unfold opPop
  simp only [c, if_true, e, Option.bind_some, h, Option.map_some]
end SF
set_option Elab.async false
set_option linter.all false
set_option maxRecDepth 100000
namespace SF
open PySem PySem.Spec L2 TL
open PyProof.Rows hiding St
theorem at_S2 (ls cs : List Int) (a : Nat) (R J : Sto) (c : T) : (S2 ls cs a (R ++ c :: J))[R.length + 2]? = some c := by
  show (R ++ c :: J)[R.length]? = _
  exact sto_end R _ J
end SF
set_option Elab.async false
set_option linter.all false
set_option maxRecDepth 100000
namespace SF
open PySem PySem.Spec L2 TL
open PyProof.Rows hiding St
def formsEq (b : Bk) (X Y : List Str) : Prop := ∀ a ∈ b.asp, formS (chainF b f0 X a) = formS (chainF b f0 Y a)
instance (b : Bk) (X Y : List Str) : Decidable (formsEq b X Y) := by unfold formsEq; infer_instance
end SF
set_option Elab.async false
set_option linter.all false
set_option maxRecDepth 100000
namespace SF
open PySem PySem.Spec L2 TL
open PyProof.Rows hiding St
theorem lc2_img {α : Type} {F : α → T} {r : α → List T} {g : GT} {Ft : FT} {Fi1 : FI} {g1 : GT} {Ft1 : FT} {Fe : FE} {vs1 vs : List Nat} {τ : Fr} {S : Sto} : ∀ {l : List α},
    (∀ a ∈ l, ∃ s ys, g (F a) = some s ∧ slotsIn s vs = true ∧ Ft (setsT τ s) S = .ok true S ∧ Fi1 (setsT τ s) S = .ok ys S ∧ ys.length ≤ 1000 ∧ lcF g1 Ft1 Fe vs1 (wipeT (setsT τ s) vs1) ys S = .ok (r a) S) →
    lc2F g Ft Fi1 g1 Ft1 Fe vs1 vs τ (l.map F) S = .ok (l.flatMap r) S
  | [], _ => rfl
  | x :: xs, h => by
    obtain ⟨s, ys, h1, h2, h3, h4, h5, h6⟩ := h x List.mem_cons_self
    have ih := lc2_img fun y hy => h y (List.mem_cons_of_mem _ hy)
    simp only [List.map_cons, lc2F, h1, h2, h3, h4, h5, h6, ih, if_true, bind_ok, nox_ok, List.flatMap_cons]
def kindsU (c d : Ch) : List Str := sortS (((c ++ d).map (·.1)).foldl addS [])
def ltS (a b : Str) : Bool := decide (a.cps.toList < b.cps.toList)
def twosU (ks : List Str) : List (List Str) := ks.flatMap fun a => (ks.filter fun b => ltS a b).map fun b => [a, b]
def candU (ks : List Str) : List (List Str) := ks.map (fun a => [a]) ++ twosU ks
def leastU (c d : Ch) : Option (List Str) := (candU (kindsU c d)).find? fun t => !decide (worthS t c = worthS t d)
def opttS : Option (List Str) → T
  | some t => tS t
  | none => .non
theorem kindsU_len (c d : Ch) : (kindsU c d).length ≤ c.length + d.length := by
  have := adds_len ((c ++ d).map (·.1)) []
  unfold kindsU
  rw [(sortS_perm _).length_eq]
  simp only [List.length_map, List.length_append, List.length_nil] at this
  omega
theorem twosU_len {ks : List Str} (h : ks.length ≤ 24) : (twosU ks).length ≤ 576 := by
  have h1 : ∀ l : List Str, (l.flatMap fun a => (ks.filter fun b => ltS a b).map fun b => [a, b]).length ≤ l.length * 24 := fun l => by
    induction l with
    | nil => exact Nat.zero_le _
    | cons a l ih =>
      rw [List.flatMap_cons, List.length_append, List.length_map, List.length_cons]
      have := List.length_filter_le (fun b => ltS a b) ks
      omega
  have := h1 ks
  unfold twosU
  omega
theorem worthS_mem {t : List Str} {v : Str} : ∀ {c : Ch}, worthS t c = some v → ∃ p ∈ c, p.2 = v
  | [], h => nomatch h
  | p :: c, h => by
    unfold worthS at h
    by_cases e : p.1 ∈ t
    · rw [if_pos e] at h
      exact ⟨p, List.mem_cons_self, Option.some.inj h⟩
    · rw [if_neg e] at h
      obtain ⟨q, hq, e2⟩ := worthS_mem h
      exact ⟨q, List.mem_cons_of_mem _ hq, e2⟩
theorem pl_worth {t : List Str} {c : Ch} (h : ∀ p ∈ c, So p.2) : pl 60 (optT (worthS t c)) = true := by
  cases e : worthS t c with
  | none => rfl
  | some v =>
    obtain ⟨p, hp, rfl⟩ := worthS_mem e
    exact h p hp
theorem optT_inj {a b : Option Str} : optT a = optT b ↔ a = b := by
  cases a <;> cases b <;> simp [optT]
theorem worth_ne {t : List Str} {c d : Ch} (h : ∀ p ∈ c, So p.2) (g : ∀ p ∈ d, So p.2) (S : Sto) : TL.neT S (optT (worthS t c)) (optT (worthS t d)) = some (.bl (!decide (worthS t c = worthS t d))) :=
  ne_pl (pl_worth h) (pl_worth g) (by rw [decide_eq_true_eq, optT_inj]) S
theorem least_apart_ok {c d : Ch} (hc : c.length ≤ 12) (hd : d.length ≤ 12) (sc : ∀ p ∈ c, So p.2) (sd : ∀ p ∈ d, So p.2) : Pu m_least_apart [chT c, chT d] (opttS (leastU c d)) := by
  intro S
  have hk : (kindsU c d).length ≤ 24 := by have := kindsU_len c d; omega
  have hz := adds_len ((c ++ d).map (·.1)) []
  simp only [List.length_map, List.length_append, List.length_nil] at hz
  have w := worth_ok
  unfold m_least_apart b_least_apart
  generalize m_worth_among = f1 at w ⊢
  have z1 : (c ++ d).length + 1 < scanBound := Nat.lt_of_le_of_lt (show _ ≤ 25 by rw [List.length_append]; omega) (by decide)
  have z2 : (c.map pT).length + (d.map pT).length ≤ sizeLine := small16 (by simp only [List.length_map]; omega)
  have za : addT S (.tup (c.map pT)) (.tup (d.map pT)) = some (.tup ((c ++ d).map pT)) := by
    rw [List.map_append]
    exact if_pos z2
  simp_arith [chT, za, fSortX, fSt, List.length_map, z1]
  rw [st_img (r := fun p : Str × Str => p.1) fun p hp => ⟨_, rfl, slots1 _ _, rfl, by simp_arith [pT]⟩]
  simp_arith [show (((c ++ d).map (·.1)).foldl addS []).length < 64 by omega]
  rw [show sortS (((c ++ d).map fun p => p.1).foldl addS []) = kindsU c d from rfl]
  unfold leastU
  generalize kindsU c d = ks at hk ⊢
  have l1 : ks.length ≤ 1000 := by omega
  have l2 : ks.length ≤ sizeLine := small16 (by omega)
  simp_arith [List.length_map, l2]
  rw [lc_each1 (r := fun a => tS [a]) fun a ha => ⟨_, rfl, slots1 _ _, rfl, by simp_arith []; rfl⟩]
  simp_arith [fLc2, List.length_map, l1]
  rw [lc2_img (r := fun a => ((ks.filter fun b => ltS a b).map fun b => tS [a, b])) fun a ha => ⟨_, ks.map T.str, rfl, rfl, rfl, by simp_arith [fiL], by rw [List.length_map]; exact l1, by
    rw [lc_img (P := fun b => ltS a b) (r := fun b => tS [a, b]) fun b hb => ⟨_, rfl, slots1 _ _, by simp_arith [ltT, ltS], fun _ => by simp_arith []; rfl⟩]⟩]
  have e2 : (ks.flatMap fun a => (ks.filter fun b => ltS a b).map fun b => tS [a, b]) = (twosU ks).map tS := by
    unfold twosU
    rw [List.map_flatMap]
    congr 1
    funext a
    rw [List.map_map]
    rfl
  have e1 : (ks.map fun a => tS [a]) = (ks.map fun a => [a]).map tS := by rw [List.map_map]; rfl
  have t2 := twosU_len hk
  rw [e2, e1]
  have za2 : ∀ S, addT S (.lst ((ks.map fun a => [a]).map tS)) (.lst ((twosU ks).map tS)) = some (.lst ((candU ks).map tS)) := fun S => by
    have z : ((ks.map fun a => [a]).map tS).length + ((twosU ks).map tS).length ≤ sizeLine := by
      simp only [List.length_map]
      exact Nat.le_trans (show _ ≤ 1000 by omega) (by decide)
    have q : addT S (.lst ((ks.map fun a => [a]).map tS)) (.lst ((twosU ks).map tS)) = if ((ks.map fun a => [a]).map tS).length + ((twosU ks).map tS).length ≤ sizeLine then some (.lst ((ks.map fun a => [a]).map tS ++ (twosU ks).map tS)) else none := rfl
    rw [q, if_pos z, ← List.map_append]
    rfl
  simp_arith [za2]
  generalize hF : forF _ _ _ _ _ = R2
  have h : ∀ (l : List (List Str)) (x2 x3 x4 x5 : Option T), (∃ y, forF (sName 5) (bIf (fTest (fBin neT (fCall f1 (fCons (fVar 0) (fCons (fVar 5) fNil))) (fCall f1 (fCons (fVar 1) (fCons (fVar 5) fNil))))) (bRet (fVar 5)) bNext) (l.map tS) [some (chT c), some (chT d), x2, x3, x4, x5, none, none, none] S = .nx [some (chT c), some (chT d), x2, x3, x4, y, none, none, none] S ∧ (l.find? fun t => !decide (worthS t c = worthS t d)) = none) ∨
      ∃ t, forF (sName 5) (bIf (fTest (fBin neT (fCall f1 (fCons (fVar 0) (fCons (fVar 5) fNil))) (fCall f1 (fCons (fVar 1) (fCons (fVar 5) fNil))))) (bRet (fVar 5)) bNext) (l.map tS) [some (chT c), some (chT d), x2, x3, x4, x5, none, none, none] S = .rt (tS t) S ∧ (l.find? fun t => !decide (worthS t c = worthS t d)) = some t := fun l => by
    induction l with
    | nil => exact fun x2 x3 x4 x5 => .inl ⟨x5, rfl, rfl⟩
    | cons t l ih =>
      intro x2 x3 x4 x5
      have w1 := w t c S
      have w2 := w t d S
      by_cases h : worthS t c = worthS t d
      · have n1 : ∀ S, TL.neT S (optT (worthS t c)) (optT (worthS t d)) = some (.bl false) := fun S => by rw [worth_ne sc sd, decide_eq_true h]; rfl
        rcases ih x2 x3 x4 (some (tS t)) with ⟨y, e, z⟩ | ⟨u, e, z⟩
        · exact .inl ⟨y, by simp_arith [forF, w1, w2, n1]; exact e, by rw [List.find?_cons, decide_eq_true h]; exact z⟩
        · exact .inr ⟨u, by simp_arith [forF, w1, w2, n1]; exact e, by rw [List.find?_cons, decide_eq_true h]; exact z⟩
      · have n1 : ∀ S, TL.neT S (optT (worthS t c)) (optT (worthS t d)) = some (.bl true) := fun S => by rw [worth_ne sc sd, decide_eq_false h]; rfl
        exact .inr ⟨t, by simp_arith [forF, w1, w2, n1], by rw [List.find?_cons, decide_eq_false h]; rfl⟩
  rcases h (candU ks) (some (.lst (ks.map T.str))) (some (.lst ((ks.map fun a => [a]).map tS))) (some (.lst ((twosU ks).map tS))) none with ⟨y, e, z⟩ | ⟨t, e, z⟩
  · rw [show R2 = _ from hF.symm.trans e, z]
    rfl
  · rw [show R2 = _ from hF.symm.trans e, z]
    rfl
end SF
set_option Elab.async false
set_option linter.all false
set_option maxRecDepth 100000
namespace SF
open PySem PySem.Spec L2 TL
open PyProof.Rows hiding St
end SF
set_option Elab.async false
set_option linter.all false
set_option maxRecDepth 100000
namespace SF
open PySem PySem.Spec L2 TL
open PyProof.Rows hiding St
end SF
set_option Elab.async false
set_option linter.all false
set_option maxRecDepth 100000
namespace SF
open PySem PySem.Spec L2 TL
open PyProof.Rows hiding St
end SF
set_option Elab.async false
set_option linter.all false
set_option maxRecDepth 100000
namespace SF
open PySem PySem.Spec L2 TL
open PyProof.Rows hiding St
def K7 : List Str := ["h", "ha", "hb", "i", "j"]
def V7 : List Str := ["u", "v", "plain"]
structure G7 (c : Ch) : Prop where
  nd : (c.map (·.1)).Nodup
  ks : ∀ p ∈ c, p.1 ∈ K7
  vs : ∀ p ∈ c, p.2 ∈ V7
theorem nm7 : ∀ x ∈ K7 ++ V7, Nm x := all_of ⟨fun _ => by kernel_rfl, fun _ => by kernel_rfl, fun _ => by kernel_rfl, fun _ => by kernel_rfl, fun _ => by kernel_rfl, fun _ => by kernel_rfl, fun _ => by kernel_rfl, fun _ => by kernel_rfl, trivial⟩
theorem so7 : ∀ x ∈ K7 ++ V7, So x := all_of ⟨by kernel_rfl, by kernel_rfl, by kernel_rfl, by kernel_rfl, by kernel_rfl, by kernel_rfl, by kernel_rfl, by kernel_rfl, trivial⟩
theorem nd_K7 : K7.Nodup := by decide +kernel
theorem G7.ci {c : Ch} (h : G7 c) : CI K7 c := ⟨h.nd, h.ks⟩
theorem G7.gh {c : Ch} (h : G7 c) : GH c := ⟨Nat.le_trans h.ci.len (by decide), fun p hp => ⟨so7 _ (List.mem_append_left _ (h.ks p hp)), so7 _ (List.mem_append_right _ (h.vs p hp))⟩, h.nd⟩
theorem G7.cn {c : Ch} (h : G7 c) : CN c := ⟨h.gh, fun p hp => ⟨nm7 _ (List.mem_append_left _ (h.ks p hp)), nm7 _ (List.mem_append_right _ (h.vs p hp))⟩⟩
theorem G7.erase {c : Ch} (h : G7 c) (i : Nat) : G7 (c.eraseIdx i) :=
  ⟨h.nd.sublist ((List.eraseIdx_sublist c i).map _), fun p hp => h.ks p ((List.eraseIdx_sublist c i).subset hp), fun p hp => h.vs p ((List.eraseIdx_sublist c i).subset hp)⟩
theorem G7.set {c : Ch} (h : G7 c) {i : Nat} {p : Str × Str} (hi : c[i]? = some p) {v : Str} (hv : v ∈ V7) : G7 (c.set i (p.1, v)) := by
  have hk : (c.set i (p.1, v)).map (·.1) = c.map (·.1) := by
    rw [List.map_set]
    have hl := List.getElem?_eq_some_iff.mp hi
    have e : (c.map (·.1))[i]'(by rw [List.length_map]; exact hl.1) = p.1 := by simp [hl.2]
    show (c.map (·.1)).set i p.1 = _
    rw [← e, List.set_getElem_self]
  refine ⟨by rw [hk]; exact h.nd, fun q hq => ?_, fun q hq => ?_⟩
  · have : q.1 ∈ (c.set i (p.1, v)).map (·.1) := List.mem_map_of_mem hq
    rw [hk] at this
    obtain ⟨r, hr, e⟩ := List.mem_map.mp this
    rw [← e]
    exact h.ks r hr
  · rcases List.mem_or_eq_of_mem_set hq with q1 | q1
    · exact h.vs q q1
    · rw [q1]; exact hv
end SF
set_option Elab.async false
set_option linter.all false
set_option maxRecDepth 100000
namespace SF
open PySem PySem.Spec L2 TL
open PyProof.Rows hiding St
structure L7 (c : Ch) (s : List Str) : Prop where
  pm : (c.map (·.1) ++ s).Perm K7
  vs : ∀ p ∈ c, p.2 ∈ V7
theorem L7.g {c : Ch} {s : List Str} (h : L7 c s) : G7 c := by
  have nd := h.pm.nodup_iff.mpr nd_K7
  exact ⟨(List.nodup_append.mp nd).1, fun p hp => h.pm.mem_iff.mp (List.mem_append_left _ (List.mem_map_of_mem hp)), h.vs⟩
theorem L7.step {c : Ch} {s : List Str} (h : L7 c s) {i : Nat} {k v : Str} (hi : s[i]? = some k) (hv : v ∈ V7) : L7 (c ++ [(k, v)]) (s.eraseIdx i) := by
  refine ⟨?_, fun p hp => ?_⟩
  · refine List.Perm.trans ?_ h.pm
    rw [List.map_append, List.append_assoc]
    refine List.Perm.append_left _ ?_
    have hl := List.getElem?_eq_some_iff.mp hi
    have h2 : s = s.take i ++ k :: s.drop (i + 1) := by
      have := List.take_append_drop i s
      rw [List.drop_eq_getElem_cons hl.1, hl.2] at this
      exact this.symm
    rw [List.eraseIdx_eq_take_drop_succ]
    conv => rhs; rw [h2]
    show (k :: (s.take i ++ s.drop (i + 1))).Perm _
    exact List.perm_middle.symm
  · rcases List.mem_append.mp hp with q | q
    · exact h.vs p q
    · rw [List.mem_singleton.mp q]; exact hv
end SF
set_option Elab.async false
set_option linter.all false
set_option maxRecDepth 100000
namespace SF
open PySem PySem.Spec L2 TL
open PyProof.Rows hiding St
end SF
set_option Elab.async false
set_option linter.all false
set_option maxRecDepth 100000
namespace SF
open PySem PySem.Spec L2 TL
open PyProof.Rows hiding St
theorem kindsU_mem {c d : Ch} {k : Str} : k ∈ kindsU c d ↔ k ∈ c.map (·.1) ∨ k ∈ d.map (·.1) := by
  unfold kindsU
  rw [(sortS_perm _).mem_iff, adds_mem, List.map_append, List.mem_append]
  simp
theorem cand_mem {ks t : List Str} : t ∈ candU ks ↔ (∃ a ∈ ks, t = [a]) ∨ ∃ a ∈ ks, ∃ b ∈ ks, ltS a b = true ∧ t = [a, b] := by
  unfold candU twosU
  simp only [List.mem_append, List.mem_map, List.mem_flatMap, List.mem_filter]
  constructor
  · rintro (⟨a, h, rfl⟩ | ⟨a, h, b, ⟨h1, h2⟩, rfl⟩)
    · exact .inl ⟨a, h, rfl⟩
    · exact .inr ⟨a, h, b, h1, h2, rfl⟩
  · rintro (⟨a, h, rfl⟩ | ⟨a, h, b, h1, h2, rfl⟩)
    · exact .inl ⟨a, h, rfl⟩
    · exact .inr ⟨a, h, b, ⟨h1, h2⟩, rfl⟩
theorem worth_nil (c : Ch) : worthS [] c = none := by
  induction c with
  | nil => rfl
  | cons p c ih =>
    unfold worthS
    rw [if_neg (by simp), ih]
theorem ltS_total {a b : Str} (h : a ≠ b) : ltS a b = true ∨ ltS b a = true := by
  unfold ltS
  simp only [decide_eq_true_eq]
  by_cases q : a.cps.toList < b.cps.toList
  · exact .inl q
  · by_cases r : b.cps.toList < a.cps.toList
    · exact .inr r
    · exact absurd (leS_anti (leS_iff.mpr r) (leS_iff.mpr q)) h
theorem least_none {c d : Ch} (hc : (c.map (·.1)).Nodup) (hd : (d.map (·.1)).Nodup) (h : ∀ t ∈ candU (kindsU c d), worthS t c = worthS t d) : formS c = formS d := by
  refine form_of_worth hc hd fun k l hk hl => ?_
  have mk := kindsU_mem.mpr hk
  have ml := kindsU_mem.mpr hl
  by_cases e : k = l
  · subst e
    have := h [k] (cand_mem.mpr (.inl ⟨k, mk, rfl⟩))
    have q : ∀ x : Ch, worthS [k, k] x = worthS [k] x := fun x => worth_congr fun y _ => by simp
    rw [q, q, this]
  · rcases ltS_total e with q | q
    · exact h _ (cand_mem.mpr (.inr ⟨k, mk, l, ml, q, rfl⟩))
    · have := h _ (cand_mem.mpr (.inr ⟨l, ml, k, mk, q, rfl⟩))
      have w : ∀ x : Ch, worthS [k, l] x = worthS [l, k] x := fun x => worth_congr fun y _ => by simp [or_comm]
      rw [w, w, this]
theorem least_form {c d : Ch} (hc : (c.map (·.1)).Nodup) (hd : (d.map (·.1)).Nodup) : leastU c d = none ↔ formS c = formS d := by
  unfold leastU
  rw [List.find?_eq_none]
  constructor
  · intro h
    exact least_none hc hd fun t ht => by simpa using h t ht
  · intro h t ht
    simp [form_worth h t]
end SF
set_option Elab.async false
set_option linter.all false
set_option maxRecDepth 100000
namespace SF
open PySem PySem.Spec L2 TL
open PyProof.Rows hiding St
theorem Nice.mono {n m n' m' : Nat} {d : PyData} (h : Nice n m d) (hn : n ≤ n') (hm : m ≤ m') : Nice n' m' d := ⟨h.lay, h.eqv, h.sh, h.hd, Nat.le_trans h.dp hn, Nat.le_trans h.ln hm, h.ok⟩
end SF
set_option Elab.async false
set_option linter.all false
set_option maxRecDepth 100000
namespace SF
open PySem PySem.Spec L2 TL
open PyProof.Rows hiding St
def fiRq (q : Int → Int → Bool) (Fs : FA) : FI := fun τ S => (Fs τ S).bind fun ts S1 => match ts with
  | [.int j] => if q 0 j then .ok (rng 0 j) S1 else .stuck
  | _ => .stuck
theorem fiR1_q : fiR1 = fiRq TL.inR := rfl
theorem fiRq_ok {q : Int → Int → Bool} {Fs : FA} {τ : Fr} {S S1 : Sto} {n : Int} (hq : q 0 n = true) (h : Fs τ S = .ok [.int n] S1) : fiRq q Fs τ S = .ok (rng 0 n) S1 := by
  unfold fiRq
  rw [h]
  simp only [bind_ok, hq, if_true]
theorem fiR1_ok {Fs : FA} {τ : Fr} {S S1 : Sto} {n : Nat} (hn : n ≤ 1000) (h : Fs τ S = .ok [.int (n : Nat)] S1) : fiR1 Fs τ S = .ok (rng 0 (n : Nat)) S1 := by
  rw [fiR1_q]
  exact fiRq_ok (inR_small (by omega) (by omega)) h
theorem seq_nx {B C : BS} {τ τ1 : Fr} {S S1 : Sto} (h : B τ S = .nx τ1 S1) : bSeq B C τ S = C τ1 S1 := by
  unfold bSeq
  rw [h]
end SF
set_option Elab.async false
set_option linter.all false
set_option maxRecDepth 100000
namespace SF
open PySem PySem.Spec L2 TL
open PyProof.Rows hiding St
structure RO (b : Bk) (n : Nat) (xs : List Str) : Prop where
  len : xs.length ≤ n
  it : ∀ x ∈ xs, x ∈ b.cs.map (·.w)
theorem RO.find {b : Bk} (W : GW b) {n : Nat} {xs : List Str} (X : RO b n xs) {x : Str} (hx : x ∈ xs) : ∃ c ∈ b.cs, c.w = x ∧ findC b.cs x = some c ∧ Sg x false := by
  obtain ⟨c, hc, rfl⟩ := List.mem_map.mp (X.it x hx)
  cases e : findC b.cs c.w with
  | none => exact absurd rfl (findC_none e c hc)
  | some d =>
    obtain ⟨hd, e2⟩ := findC_mem e
    exact ⟨d, hd, e2, rfl, W.sg c hc⟩
theorem is_row_ok {b : Bk} (W : GW b) {n : Nat} {xs : List Str} (X : RO b n xs) (h200 : n ≤ 200) : Pu m_is_row [bT b, tS xs, .int (n : Nat)] (.bl true) := by
  intro S
  have hw := words_of_ok W
  unfold m_is_row b_is_row
  generalize m_words_of = f1 at hw ⊢
  have l1 : ¬ (n : Int) < xs.length := by
    have := X.len
    omega
  simp_arith [hw S, List.length_map, l1]
  rw [lc_each1 (F := T.str) (r := fun _ => .bl true) fun x hx => ⟨_, rfl, slots1 _ _, rfl, by simp_arith [X.it x hx]⟩]
  simp_arith [all_lst, small16 (show xs.length ≤ 200 from Nat.le_trans X.len h200)]
theorem need_row_ok {b : Bk} (W : GW b) {xs : List Str} (X : RO b 60 xs) : Pu m_need_row [bT b, tS xs] (tS xs) := by
  intro S
  have hJ := need_book_ok W.gb S
  have hr := is_row_ok W X (by decide)
  unfold m_need_row b_need_row
  generalize m_need_book = f1 at hJ ⊢
  generalize m_is_row = f2 at hr ⊢
  have hr : f2 [bT b, tS xs, .int 60] S = .ok (.bl true) S := hr S
  simp_arith [hJ, hr]
def sizeS (xs : List Str) : Int := (xs.map fun x : Str => ((x.length : Int) + 2)).sum
theorem sum_lst (ns : List Int) (S : Sto) : sumT S [.lst (ns.map T.int)] = some (.int ns.sum) := by
  show (((intsL (ns.map T.int)).map fun ns => T.int ns.sum) : Option T) = _
  rw [intsL_map]
  rfl
theorem len_str {x : Str} (h : x.length ≤ 200) (S : Sto) : lenT S [.str x] = some (.int x.length) := by
  show (if x.length ≤ sizeLine then some (T.int x.length) else none) = _
  rw [if_pos (small16 h)]
theorem size_among_ok {xs : List Str} (h : xs.length ≤ 200) (hz : ∀ x ∈ xs, x.length ≤ 200) : Pu m_size_among [tS xs] (.int (sizeS xs)) := by
  intro S
  unfold m_size_among b_size_among
  simp_arith []
  rw [lc_each1 (F := T.str) (r := fun x => .int ((x.length : Int) + 2)) fun x hx => ⟨_, rfl, slots1 _ _, rfl, by simp_arith [len_str (hz x hx), add_int]⟩]
  have e : (xs.map fun x : Str => T.int ((x.length : Int) + 2)) = (xs.map fun x : Str => ((x.length : Int) + 2)).map T.int := by
    rw [List.map_map]
    rfl
  simp_arith [List.length_map, small16 h, e, sum_lst]
  rfl
theorem size_of_ok {b : Bk} (W : GW b) {xs : List Str} (X : RO b 60 xs) (hz : ∀ x ∈ xs, x.length ≤ 200) : Pu m_size_of [bT b, tS xs] (.int (sizeS xs)) := by
  intro S
  have hr := need_row_ok W X
  have hs := size_among_ok (xs := xs) (Nat.le_trans X.len (by decide)) hz
  unfold m_size_of b_size_of
  generalize m_need_row = f1 at hr ⊢
  generalize m_size_among = f2 at hs ⊢
  simp_arith [hr S, hs S]
end SF
set_option Elab.async false
set_option linter.all false
set_option maxRecDepth 100000
namespace SF
open PySem PySem.Spec L2 TL
open PyProof.Rows hiding St
def WOk (b : Bk) (xs : List Str) : Prop := ∀ x ∈ xs, ∃ c ∈ b.cs, c.w = x ∧ findC b.cs x = some c ∧ Sg x false
end SF
set_option Elab.async false
set_option linter.all false
set_option maxRecDepth 100000
namespace SF
open PySem PySem.Spec L2 TL
open PyProof.Rows hiding St
def restS (c d : Ch) : Ch := d.filter fun p => !decide (p.1 ∈ c.map (·.1))
def overF (F E : Str → Ch) : Str → Ch := fun a => F a ++ restS (F a) (E a)
theorem behind_over (c d : Ch) (k v : Str) : behindS (c ++ restS c d) k v = behindS c k v ++ restS (behindS c k v) d := by
  unfold behindS restS
  rw [List.filter_append, List.cons_append, List.filter_filter]
  congr 2
  refine List.filter_congr fun p _ => ?_
  rw [Bool.eq_iff_iff]
  simp only [Bool.and_eq_true, Bool.not_eq_true', decide_eq_false_iff_not, List.map_cons, List.mem_cons, not_or, List.mem_map, List.mem_filter, not_exists, not_and, and_imp]
  constructor
  · rintro ⟨h1, h2⟩
    exact ⟨h1, fun q hq _ => h2 q hq⟩
  · rintro ⟨h1, h2⟩
    refine ⟨h1, fun q hq e => ?_⟩
    exact h2 q hq (by rw [e]; exact h1) e
theorem give_over (k : Str) : ∀ (g : List (Str × Str)) (F E : Str → Ch), giveF (overF F E) k g = overF (giveF F k g) E
  | [], _, _ => rfl
  | p :: g, F, E => by
    have q : (fun a => if a = p.1 then behindS (overF F E a) k p.2 else overF F E a) = overF (fun a => if a = p.1 then behindS (F a) k p.2 else F a) E := by
      funext a
      unfold overF
      simp only
      by_cases e : a = p.1
      · simp only [if_pos e]
        exact behind_over _ _ _ _
      · simp only [if_neg e]
    show giveF (fun a => if a = p.1 then behindS (overF F E a) k p.2 else overF F E a) k g = _
    rw [q, give_over k g]
    rfl
theorem chain_over (b : Bk) : ∀ (ys : List Str) (F E : Str → Ch), chainF b (overF F E) ys = overF (chainF b F ys) E
  | [], _, _ => rfl
  | y :: ys, F, E => by
    unfold chainF
    cases findC b.cs y with
    | none => exact chain_over b ys F E
    | some c =>
      simp only
      rw [give_over, chain_over b ys]
theorem chain_rest (b : Bk) (xs ys : List Str) (a : Str) : chainF b f0 (xs ++ ys) a = chainF b f0 ys a ++ restS (chainF b f0 ys a) (chainF b f0 xs a) := by
  rw [chain_app]
  have e : chainF b f0 xs = overF f0 (chainF b f0 xs) := by
    funext a
    show _ = [] ++ restS [] _
    unfold restS
    rw [List.nil_append, List.filter_eq_self.mpr]
    exact fun p _ => by simp
  rw [e, chain_over, ← e]
  rfl
theorem strs_of {ws : List Str} : ∀ {ts : List T}, (∀ t ∈ ts, ∃ x ∈ ws, t = .str x) → ∃ xs : List Str, (∀ x ∈ xs, x ∈ ws) ∧ ts = xs.map T.str
  | [], _ => ⟨[], fun x h => (nomatch h), rfl⟩
  | t :: ts, h => by
    obtain ⟨x, hx, rfl⟩ := h t List.mem_cons_self
    obtain ⟨xs, h1, rfl⟩ := strs_of fun t ht => h t (List.mem_cons_of_mem _ ht)
    exact ⟨x :: xs, fun y hy => (List.mem_cons.mp hy).elim (fun e => e ▸ hx) (h1 y), rfl⟩
end SF
set_option Elab.async false
set_option linter.all false
set_option maxRecDepth 100000
namespace SF
open PySem PySem.Spec L2 TL
open PyProof.Rows hiding St
theorem add_chT {c d : Ch} (h : c.length + d.length ≤ 200) (S : Sto) : addT S (chT c) (chT d) = some (chT (c ++ d)) := by
  rw [chT, chT, add_tup (small16 (by rw [List.length_map, List.length_map]; exact h)), chT, List.map_append]
theorem RO.wok {b : Bk} (W : GW b) {n : Nat} {xs : List Str} (X : RO b n xs) : WOk b xs := fun x hx => X.find W hx
end SF
set_option Elab.async false
set_option linter.all false
set_option maxRecDepth 100000
namespace SF
open PySem PySem.Spec L2 TL
open PyProof.Rows hiding St
def W6 : List Str := ["5", "55", "555", "6", "66", "666"]
theorem wd6 : ∀ x ∈ W6, Wd x ∧ Sg x false := all_of ⟨⟨fun _ => by kernel_rfl, fun _ => by kernel_rfl⟩, ⟨fun _ => by kernel_rfl, fun _ => by kernel_rfl⟩, ⟨fun _ => by kernel_rfl, fun _ => by kernel_rfl⟩, ⟨fun _ => by kernel_rfl, fun _ => by kernel_rfl⟩, ⟨fun _ => by kernel_rfl, fun _ => by kernel_rfl⟩, ⟨fun _ => by kernel_rfl, fun _ => by kernel_rfl⟩, trivial⟩
theorem wdx : ∀ x ∈ W8 ++ W6, Wd x ∧ Sg x false := fun x hx => (List.mem_append.mp hx).elim (wd_all x) (wd6 x)
structure BX (b : Bk) : Prop where
  asp : b.asp.Sublist L3
  a0 : b.asp ≠ []
  sh : b.sh.Sublist b.asp
  ws : ∀ c ∈ b.cs, c.w ∈ W8 ++ W6
  nd : (b.cs.map (·.w)).Nodup
  n16 : b.cs.length ≤ 16
  n0 : b.cs ≠ []
  cl : ∀ c ∈ b.cs, CL b.asp c
theorem BX.gl {b : Bk} (B : BX b) : GL b := by
  have wm := B.ws
  have gl6 : ∀ c ∈ b.cs, c.g.length ≤ 6 := fun c hc => by
    have h1 := ((B.cl c hc).gs.trans B.asp).length_le
    rw [List.length_map] at h1
    have h2 : L3.length = 3 := rfl
    omega
  have gin : ∀ c ∈ b.cs, ∀ p ∈ c.g, p.1 ∈ b.asp := fun c hc p hp => (B.cl c hc).gs.subset (List.mem_map_of_mem hp)
  have inL : ∀ x ∈ L3, x ∈ L3 ++ V4 ++ K3 := fun x hx => List.mem_append_left _ (List.mem_append_left _ hx)
  have inV : ∀ x ∈ V4, x ∈ L3 ++ V4 ++ K3 := fun x hx => List.mem_append_left _ (List.mem_append_right _ hx)
  have inK : ∀ x ∈ K3, x ∈ L3 ++ V4 ++ K3 := fun x hx => List.mem_append_right _ hx
  have l3 : b.asp.length ≤ 3 := B.asp.length_le
  have l4 := B.sh.length_le
  have l8 := B.n16
  refine ⟨⟨⟨asp_all _ (mem_subs B.asp), B.a0, asp_all _ (mem_subs (B.sh.trans B.asp)), fun x hx => B.sh.subset hx, by omega, by omega, fun c hc => ?_, ?_, ⟨K3, by decide, fun c hc => (B.cl c hc).k⟩⟩, fun c hc => (wdx _ (wm c hc)).2, gin, nd_L3.sublist B.asp, gl6, by omega⟩, fun c hc p hp => ?_⟩
  · have C := B.cl c hc
    have a1 := asc_all _ (mem_subs (C.gs.trans B.asp))
    rw [List.map_map] at a1
    exact is_code_ok (small16 (by have := gl6 c hc; omega)) (wdx _ (wm c hc)).1 (nm_all _ (inK _ C.k)) (are_gifts_ok C.g0 (small16 (by have := gl6 c hc; omega)) (fun p hp => ⟨nm_all _ (inL _ (B.asp.subset (gin c hc p hp))), nm_all _ (inV _ (C.gv p hp))⟩) a1) (gin c hc)
  · exact B.nd
  · exact ⟨nm_all _ (inV _ ((B.cl c hc).gv p hp)), rp_all _ (List.mem_append_left _ (List.mem_append_left _ (List.mem_append_left _ (inV _ ((B.cl c hc).gv p hp)))))⟩
theorem BX.gc {b : Bk} (B : BX b) : GC b := ⟨B.gl.w, fun c hc => So.of (rp_all _ (by
    simp only [List.mem_append]
    exact .inl (.inl (.inl (.inr (B.cl c hc).k))))), fun c hc p hp => So.of (B.gl.val c hc p hp).2, ⟨K3, by decide, fun c hc => (B.cl c hc).k⟩⟩
end SF
set_option Elab.async false
set_option linter.all false
set_option maxRecDepth 100000
namespace SF
open PySem PySem.Spec L2 TL
open PyProof.Rows hiding St
abbrev Wr := List Str × List Str
structure RX (b : Bk) (ws : List Wr) : Prop where
  n0 : ws ≠ []
  n6 : ws.length ≤ 6
  it : ∀ w ∈ ws, RO b 12 w.1 ∧ RO b 12 w.2
abbrev plS : Str := "plain"
def missP (ks : List Str) (c : Ch) : List Str := ks.filter fun k => !decide (k ∈ c.map (·.1))
def withP (ks : List Str) (c : Ch) : Ch := c ++ (missP ks c).map fun k => ((k, plS) : Str × Str)
def wp (t : List Str) (c : Ch) : Str := (worthS t c).getD plS
theorem with_plain_ok {ks : List Str} {c : Ch} (hk : ks.length ≤ 50) (hc : c.length ≤ 50) : Pu m_with_plain [chT c, tS ks] (chT (withP ks c)) := by
  intro S
  unfold m_with_plain b_with_plain
  have zc : c.length ≤ 200 := by omega
  simp_arith [chT, List.length_map, small16 zc]
  rw [lc_each1 (F := pT) (r := fun p => .str p.1) fun p hp => ⟨_, rfl, rfl, rfl, by simp_arith []⟩]
  have e4 : (c.map fun p => T.str p.1) = (c.map (·.1)).map T.str := by rw [List.map_map]; rfl
  simp_arith [e4, List.length_map, small16 zc, small16 (show ks.length ≤ 200 by omega)]
  rw [lc_img (F := T.str) (P := fun k => !decide (k ∈ c.map (·.1))) (r := fun k => pT ((k, plS) : Str × Str)) fun p hp => ⟨_, rfl, slots1 _ _, by simp_arith [nin_of (in_lst _ _ _)], fun _ => by simp_arith [pT, small16 (show 2 ≤ 200 by omega)]⟩]
  have fl : (missP ks c).length ≤ ks.length := List.length_filter_le _ ks
  have e6 : (ks.filter fun k => !decide (k ∈ c.map (·.1))) = missP ks c := rfl
  have e5 : ((missP ks c).map fun k => pT ((k, plS) : Str × Str)) = ((missP ks c).map fun k => ((k, plS) : Str × Str)).map pT := by rw [List.map_map]; rfl
  have ac : ∀ S, addT S (chT c) (chT ((missP ks c).map fun k => ((k, plS) : Str × Str))) = some (chT (withP ks c)) := fun S => add_chT (c := c) (by rw [List.length_map]; omega) S
  rw [e6, e5]
  have ac : ∀ S, addT S (.tup (c.map pT)) (.tup (((missP ks c).map fun k => ((k, plS) : Str × Str)).map pT)) = some (chT (withP ks c)) := ac
  simp_arith [ac, List.length_map, small16 (show (missP ks c).length ≤ 200 by omega)]
  rfl
theorem worth_app (t : List Str) (c d : Ch) : worthS t (c ++ d) = (worthS t c).or (worthS t d) := by
  induction c with
  | nil => rfl
  | cons p c ih =>
    rw [List.cons_append, worth_cons, worth_cons]
    by_cases h : p.1 ∈ t
    · rw [if_pos h, if_pos h]; rfl
    · rw [if_neg h, if_neg h, ih]
theorem worth_no {t : List Str} : ∀ {c : Ch}, worthS t c = none → ∀ p ∈ c, p.1 ∉ t
  | [], _, p, hp => nomatch hp
  | q :: c, h, p, hp => by
    rw [worth_cons] at h
    by_cases e : q.1 ∈ t
    · rw [if_pos e] at h; cases h
    · rw [if_neg e] at h
      rcases List.mem_cons.mp hp with rfl | hp
      · exact e
      · exact worth_no h p hp
theorem worth_plains (t : List Str) : ∀ ks : List Str, worthS t (ks.map fun k => ((k, plS) : Str × Str)) = if ∃ k ∈ ks, k ∈ t then some plS else none
  | [] => by simp [worthS]
  | k :: ks => by
    rw [List.map_cons, worth_cons, worth_plains t ks]
    by_cases h : k ∈ t
    · rw [if_pos h, if_pos ⟨k, List.mem_cons_self, h⟩]
    · rw [if_neg h]
      by_cases g : ∃ x ∈ ks, x ∈ t
      · rw [if_pos g, if_pos (by obtain ⟨x, h1, h2⟩ := g; exact ⟨x, List.mem_cons_of_mem _ h1, h2⟩)]
      · rw [if_neg g, if_neg fun ⟨x, h1, h2⟩ => (List.mem_cons.mp h1).elim (fun e => h (e ▸ h2)) fun h1 => g ⟨x, h1, h2⟩]
theorem worth_withP {ks : List Str} {c : Ch} (hc : ∀ p ∈ c, p.1 ∈ ks) (t : List Str) : worthS t (withP ks c) = if ∃ k ∈ ks, k ∈ t then some (wp t c) else none := by
  unfold withP wp missP
  rw [worth_app, worth_plains]
  cases e : worthS t c with
  | some v =>
    obtain ⟨p, h1, h2, _⟩ := worth_mem e
    simp only [Option.some_or]
    rw [if_pos ⟨p.1, hc p h1, h2⟩]
    rfl
  | none =>
    have hn := worth_no e
    rw [Option.none_or]
    by_cases g : ∃ k ∈ ks, k ∈ t
    · rw [if_pos g]
      obtain ⟨k, h1, h2⟩ := g
      rw [if_pos ⟨k, List.mem_filter.mpr ⟨h1, by
        rw [Bool.not_eq_true', decide_eq_false_iff_not, List.mem_map]
        rintro ⟨p, hp, rfl⟩
        exact hn p hp h2⟩, h2⟩]
      rfl
    · rw [if_neg g, if_neg fun ⟨k, h1, h2⟩ => g ⟨k, (List.mem_filter.mp h1).1, h2⟩]
theorem withP_ks {ks : List Str} {c : Ch} (hc : ∀ p ∈ c, p.1 ∈ ks) : ∀ p ∈ withP ks c, p.1 ∈ ks := fun p hp => by
  rcases List.mem_append.mp hp with hp | hp
  · exact hc p hp
  · obtain ⟨k, hk, rfl⟩ := List.mem_map.mp hp
    exact (List.mem_filter.mp hk).1
theorem withP_nd {ks : List Str} {c : Ch} (hk : ks.Nodup) (hc : (c.map (·.1)).Nodup) : ((withP ks c).map (·.1)).Nodup := by
  unfold withP missP
  rw [List.map_append, List.map_map, List.nodup_append]
  have e : ((ks.filter fun k => !decide (k ∈ c.map (·.1))).map ((fun p : Str × Str => p.1) ∘ fun k => ((k, plS) : Str × Str))) = ks.filter fun k => !decide (k ∈ c.map (·.1)) := by
    conv => rhs; rw [← List.map_id (ks.filter _)]
    rfl
  rw [e]
  refine ⟨hc, hk.filter _, fun a ha b hb => ?_⟩
  rintro rfl
  have := (List.mem_filter.mp hb).2
  rw [decide_eq_true ha] at this
  cases this
end SF
set_option Elab.async false
set_option linter.all false
set_option maxRecDepth 100000
namespace SF
open PySem PySem.Spec L2 TL
open PyProof.Rows hiding St
def apartS (b : Bk) (x y : List Str) : Option (List Str) := b.asp.findSome? fun a => leastU (withP (kindsG b) (chainF b f0 x a)) (withP (kindsG b) (chainF b f0 (x ++ y) a))
theorem GC.ks {b : Bk} (G : GC b) (xs : List Str) (a : Str) : ∀ p ∈ chainF b f0 xs a, p.1 ∈ kindsG b :=
  chain_vals (P := fun p => p.1 ∈ kindsG b) (fun c hc p hp => kindsG_mem.mpr ⟨c, hc, rfl⟩) (fun _ p h => by cases h) a
theorem isn_opt (o : Option (List Str)) (S : Sto) : isNT S (opttS o) .non = some (.bl o.isNone) := by
  cases o <;> rfl
theorem notn_opt (o : Option (List Str)) (S : Sto) : notNT S (opttS o) .non = some (.bl o.isSome) := by
  cases o <;> rfl
theorem withP_len {b : Bk} (G : GC b) {c : Ch} (hc : ∀ p ∈ c, p.1 ∈ kindsG b) (nd : (c.map (·.1)).Nodup) : (withP (kindsG b) c).length ≤ 12 := by
  have h := nodup_len (withP_nd (kindsG_nd b) nd) (fun k hk => by
    obtain ⟨p, hp, rfl⟩ := List.mem_map.mp hk
    exact withP_ks hc p hp)
  rw [List.length_map] at h
  have := kindsG_len G
  omega
theorem pl_so : So plS := by kernel_rfl
theorem withP_so {ks : List Str} {c : Ch} (h : ∀ p ∈ c, So p.2) : ∀ p ∈ withP ks c, So p.2 := fun p hp => by
  unfold withP at hp
  rcases List.mem_append.mp hp with hp | hp
  · exact h p hp
  · obtain ⟨k, _, rfl⟩ := List.mem_map.mp hp
    exact pl_so
theorem first_at {α : Type} {F : α → T} {g : GT} {B : BS} {S : Sto} (I : Fr → Prop) (p : α → Option T) : ∀ {l : List α} {τ : Fr}, I τ →
    (∀ a ∈ l, ∀ τ, I τ → ∃ s, g (F a) = some s ∧ match p a with | some r => B (setsT τ s) S = .rt r S | none => ∃ τ2, B (setsT τ s) S = .nx τ2 S ∧ I τ2) →
    match l.findSome? p with | some r => forF g B (l.map F) τ S = .rt r S | none => ∃ τ2, forF g B (l.map F) τ S = .nx τ2 S ∧ I τ2
  | [], τ, h0, _ => ⟨τ, rfl, h0⟩
  | a :: l, τ, h0, h => by
    obtain ⟨s, h1, h2⟩ := h a List.mem_cons_self τ h0
    rw [List.findSome?_cons]
    cases e : p a with
    | some r =>
      rw [e] at h2
      simp only at h2 ⊢
      rw [List.map_cons]
      unfold forF
      simp only [h1, h2]
    | none =>
      rw [e] at h2
      obtain ⟨τ2, h3, h4⟩ := h2
      have ih := first_at I p (l := l) h4 fun x hx => h x (List.mem_cons_of_mem _ hx)
      simp only
      rw [List.map_cons]
      unfold forF
      simp only [h1, h3]
      exact ih
theorem apart_behind_ok {b : Bk} (G : GC b) {x y : List Str} (hx : WOk b x) (hy : WOk b y) (hz : x.length + y.length ≤ 200) : Pu m_apart_behind [bT b, tS x, tS y] (opttS (apartS b x y)) := by
  intro S
  have W := G.w
  have hk := kinds_of_ok W.gb
  have hxy : WOk b (x ++ y) := fun z hz => (List.mem_append.mp hz).elim (hx z) (hy z)
  have c1 := chains_behind_ok G (xs := x) fun z hz => .inl (hx z hz)
  have c2 := chains_behind_ok G (xs := x ++ y) fun z hz => .inl (hxy z hz)
  have k6 := kindsG_len G
  have wpl := fun (xs : List Str) (a : Str) => with_plain_ok (ks := kindsG b) (c := chainF b f0 xs a) (by omega) (by have := (G.gh xs a).len; omega)
  have lap := fun (u v : List Str) (a : Str) => least_apart_ok (c := withP (kindsG b) (chainF b f0 u a)) (d := withP (kindsG b) (chainF b f0 v a)) (withP_len G (G.ks u a) (G.gh u a).nd) (withP_len G (G.ks v a) (G.gh v a).nd) (withP_so (G.vals a)) (withP_so (G.vals a))
  unfold m_apart_behind b_apart_behind
  generalize m_kinds_of = f1 at hk ⊢
  generalize m_chains_behind = f2 at c1 c2 ⊢
  generalize m_with_plain = f3 at wpl ⊢
  generalize m_least_apart = f4 at lap ⊢
  have i0 : ∀ S, ixT S (bT b) (.int 0) = some (tS b.asp) := fun S => rfl
  have ap : ∀ S, addT S (tS x) (tS y) = some (tS (x ++ y)) := fun S => add_tS (by omega) S
  simp_arith [hk S, c1 S, c2 S, ap, i0]
  have key := first_at (F := T.str) (g := sName 6) (B := bSeq (bSet 7 (fCall f4 (fCons (fCall f3 (fCons (fBin ixT (fVar 4) (fVar 6)) (fCons (fVar 3) fNil))) (fCons (fCall f3 (fCons (fBin ixT (fVar 5) (fVar 6)) (fCons (fVar 3) fNil))) fNil)))) (bIf (fTest (fBin notNT (fVar 7) (fC .non))) (bRet (fVar 7)) bNext)) (S := S)
    (fun τ => ∃ x6 x7, τ = [some (bT b), some (tS x), some (tS y), some (tS (kindsG b)), some (chD b (chainF b f0 x)), some (chD b (chainF b f0 (x ++ y))), x6, x7])
    (fun a => (leastU (withP (kindsG b) (chainF b f0 x a)) (withP (kindsG b) (chainF b f0 (x ++ y) a))).map fun t => tS t) (l := b.asp) ⟨none, none, rfl⟩ (by
    intro a ha τ hI
    obtain ⟨x6, x7, rfl⟩ := hI
    refine ⟨_, rfl, ?_⟩
    have l1 := lap x (x ++ y) a S
    cases e : leastU (withP (kindsG b) (chainF b f0 x a)) (withP (kindsG b) (chainF b f0 (x ++ y) a)) with
    | none =>
      rw [e] at l1
      simp_arith [ix_chp ha, wpl x a S, wpl (x ++ y) a S, l1, isn_opt, notn_opt, Option.isSome_none]
      exact ⟨_, rfl, _, _, rfl⟩
    | some t =>
      rw [e] at l1
      simp_arith [ix_chp ha, wpl x a S, wpl (x ++ y) a S, l1, isn_opt, notn_opt, Option.isSome_some]
      rfl)
  have e9 : apartS b x y = b.asp.findSome? fun a => leastU (withP (kindsG b) (chainF b f0 x a)) (withP (kindsG b) (chainF b f0 (x ++ y) a)) := rfl
  have e10 : (b.asp.findSome? fun a => (leastU (withP (kindsG b) (chainF b f0 x a)) (withP (kindsG b) (chainF b f0 (x ++ y) a))).map fun t => tS t) = (apartS b x y).map tS := by
    rw [e9, List.map_findSome?]
    rfl
  rw [e10] at key
  cases e : apartS b x y with
  | none =>
    rw [e] at key
    obtain ⟨τ2, k1, x6, x7, rfl⟩ := key
    rw [k1]
    simp_arith []
    rfl
  | some t =>
    rw [e] at key
    simp only [Option.map_some] at key
    rw [key]
    simp_arith []
    rfl
end SF
set_option Elab.async false
set_option linter.all false
set_option maxRecDepth 100000
namespace SF
open PySem PySem.Spec L2 TL
open PyProof.Rows hiding St
abbrev wAt (ws : List Wr) (i : Nat) : Wr := ws.getD i ([], [])
def aheadS (ws : List Wr) : Option Nat → List Str
  | none => []
  | some j => (wAt ws j).1
def underS (b : Bk) (ws : List Wr) (i : Nat) (o : Option Nat) : Option (List Str) := apartS b (aheadS ws o) ((wAt ws i).1 ++ (wAt ws i).2)
theorem wAt_mem {ws : List Wr} {i : Nat} (h : i < ws.length) : wAt ws i ∈ ws := by
  rw [wAt, List.getD_eq_getElem?_getD, List.getElem?_eq_getElem h, Option.getD_some]
  exact List.getElem_mem h
theorem RX.w1 {b : Bk} {ws : List Wr} (X : RX b ws) {i : Nat} (h : i < ws.length) : RO b 12 (wAt ws i).1 ∧ RO b 12 (wAt ws i).2 := X.it _ (wAt_mem h)
def unOk (ws : List Wr) (o : Option Nat) : Prop := ∀ j, o = some j → j < ws.length
theorem RX.ahead {b : Bk} {ws : List Wr} (X : RX b ws) {o : Option Nat} (h : unOk ws o) : RO b 12 (aheadS ws o) := by
  cases o with
  | none => exact ⟨Nat.zero_le _, fun x h => nomatch h⟩
  | some j => exact (X.w1 (h j rfl)).1
theorem WOk.app {b : Bk} {x y : List Str} (hx : WOk b x) (hy : WOk b y) : WOk b (x ++ y) := fun z hz => (List.mem_append.mp hz).elim (hx z) (hy z)
def unnS (b : Bk) (ws : List Wr) : Option (Option Nat × Nat × List Str) :=
  ((none :: (List.range ws.length).map some).findSome? fun o => (List.range ws.length).findSome? fun i => if some i = o then none else (underS b ws i o).map fun t => (o, i, t))
end SF
set_option Elab.async false
set_option linter.all false
set_option maxRecDepth 100000
namespace SF
open PySem PySem.Spec L2 TL
open PyProof.Rows hiding St
def P0 (b : Bk) : List Str := b.asp.map fun _ => plS
def aftS (b : Bk) (t xs : List Str) : List Str := leftS b t (P0 b) xs
theorem aft_same (b : Bk) (t xs : List Str) : Same5 b t (fun _ => plS) (aftS b t xs) (chainF b f0 xs) := same5_left (same5_c b t plS)
theorem aft_eq {b : Bk} (W : GW b) (t xs : List Str) : aftS b t xs = b.asp.map fun a => wp t (chainF b f0 xs a) := by
  obtain ⟨h1, h2⟩ := aft_same b t xs
  rw [← getS_self h1 W.and]
  exact List.map_congr_left h2
def evenP (b : Bk) (x y : List Str) : Prop := ∀ t : List Str, t.Sublist (kindsG b) → aftS b t (x ++ y) = aftS b t x
theorem least_none_iff {c d : Ch} (hc : (c.map (·.1)).Nodup) (hd : (d.map (·.1)).Nodup) : leastU c d = none ↔ ∀ t, worthS t c = worthS t d := by
  rw [least_form hc hd]
  exact ⟨fun h t => form_worth h t, fun h => form_of_worth hc hd fun k l _ _ => h _⟩
theorem apart_iff {b : Bk} (G : GC b) (x y : List Str) : apartS b x y = none ↔ evenP b x y := by
  have W := G.w
  unfold apartS evenP
  rw [List.findSome?_eq_none_iff]
  have key : ∀ a, (leastU (withP (kindsG b) (chainF b f0 x a)) (withP (kindsG b) (chainF b f0 (x ++ y) a)) = none ↔ ∀ t : List Str, t.Sublist (kindsG b) → wp t (chainF b f0 (x ++ y) a) = wp t (chainF b f0 x a)) := fun a => by
    have k1 := G.ks x a
    have k2 := G.ks (x ++ y) a
    rw [least_none_iff (withP_nd (kindsG_nd b) (G.gh x a).nd) (withP_nd (kindsG_nd b) (G.gh (x ++ y) a).nd)]
    constructor
    · intro h t ht
      have q := h t
      rw [worth_withP k1, worth_withP k2] at q
      by_cases g : ∃ k ∈ kindsG b, k ∈ t
      · rw [if_pos g, if_pos g, Option.some.injEq] at q
        exact q.symm
      · have g' : ∀ k ∈ t, k ∉ kindsG b := fun k h1 h2 => g ⟨k, h2, h1⟩
        have n : t = [] := List.eq_nil_iff_forall_not_mem.mpr fun k hk => g' k hk (ht.subset hk)
        subst n
        unfold wp
        rw [worth_nil, worth_nil]
    · intro h t
      rw [worth_withP k1, worth_withP k2]
      by_cases g : ∃ k ∈ kindsG b, k ∈ t
      · rw [if_pos g, if_pos g, Option.some.injEq]
        have q := h ((kindsG b).filter fun k => decide (k ∈ t)) List.filter_sublist
        have cong : ∀ {c : Ch}, (∀ p ∈ c, p.1 ∈ kindsG b) → wp ((kindsG b).filter fun k => decide (k ∈ t)) c = wp t c := fun {c} hc => by
          unfold wp
          rw [worth_congr fun k hk => ?_]
          obtain ⟨p, hp, rfl⟩ := List.mem_map.mp hk
          rw [List.mem_filter, decide_eq_true_eq]
          exact ⟨fun h => h.2, fun h => ⟨hc p hp, h⟩⟩
        rw [cong k1, cong k2] at q
        exact q.symm
      · rw [if_neg g, if_neg g]
  constructor
  · intro h t ht
    rw [aft_eq W, aft_eq W]
    exact List.map_congr_left fun a ha => (key a).mp (h a ha) t ht
  · intro h a ha
    refine (key a).mpr fun t ht => ?_
    have q := h t ht
    rw [aft_eq W, aft_eq W] at q
    exact List.map_inj_left.mp q a ha
end SF
set_option Elab.async false
set_option linter.all false
set_option maxRecDepth 100000
namespace SF
open PySem PySem.Spec L2 TL
open PyProof.Rows hiding St
end SF
set_option Elab.async false
set_option linter.all false
set_option maxRecDepth 100000
namespace SF
open PySem PySem.Spec L2 TL
open PyProof.Rows hiding St
end SF
set_option Elab.async false
set_option linter.all false
set_option maxRecDepth 100000
namespace SF
open PySem PySem.Spec L2 TL
open PyProof.Rows hiding St
theorem NiceT.up {n m n' m' : Nat} {t : T} (h : NiceT n m t) (hn : n ≤ n') (hm : m ≤ m') : ∃ d, toD t = some d ∧ Nice n' m' d := by
  obtain ⟨d, e, g, _⟩ := h
  exact ⟨d, e, g.mono hn hm⟩
theorem unn_none {b : Bk} {ws : List Wr} : unnS b ws = none ↔ ∀ o ∈ (none :: (List.range ws.length).map some : List (Option Nat)), ∀ i, i < ws.length → some i = o ∨ underS b ws i o = none := by
  unfold unnS
  rw [List.findSome?_eq_none_iff]
  refine forall_congr' fun o => forall_congr' fun ho => ?_
  rw [List.findSome?_eq_none_iff]
  constructor
  · intro h i hi
    have q := h i (List.mem_range.mpr hi)
    by_cases e : some i = o
    · exact .inl e
    · rw [if_neg e, Option.map_eq_none_iff] at q
      exact .inr q
  · intro h i hi
    rcases h i (List.mem_range.mp hi) with e | e
    · rw [if_pos e]
    · rw [e]; split <;> rfl
def rpB (k : Bool) : Str := if k then "True" else "False"
theorem repr_b (k : Bool) (S : Sto) : reprBT S [.bl k] = some (.str (rpB k)) := by cases k <;> rfl
theorem ne_bb (k : Bool) (S : Sto) : TL.neT S (.bl k) (.bl k) = some (.bl false) := by cases k <;> kernel_rfl
end SF
set_option Elab.async false
set_option linter.all false
set_option maxRecDepth 100000
namespace SF
open PySem PySem.Spec L2 TL
open PyProof.Rows hiding St
def okP (b : Bk) (ws : List Wr) (i : Nat) (o : Option Nat) : Bool := (underS b ws i o).isNone || decide (o = some i)
def allP (b : Bk) (ws : List Wr) (OL : List (Option Nat)) (i : Nat) : Bool := (List.range i).all fun j => OL.all (okP b ws j)
theorem allP_iff {b : Bk} {ws : List Wr} : allP b ws (none :: (List.range ws.length).map some) ws.length = (unnS b ws).isNone := by
  rw [Bool.eq_iff_iff, Option.isNone_iff_eq_none, unn_none]
  unfold allP okP
  rw [List.all_eq_true]
  constructor
  · intro h o ho i hi
    have q := h i (List.mem_range.mpr hi)
    rw [List.all_eq_true] at q
    have q2 := q o ho
    simp only [Bool.or_eq_true, Option.isNone_iff_eq_none, decide_eq_true_eq] at q2
    exact q2.elim .inr fun e => .inl e.symm
  · intro h i hi
    rw [List.all_eq_true]
    intro o ho
    simp only [Bool.or_eq_true, Option.isNone_iff_eq_none, decide_eq_true_eq]
    exact (h o ho i (List.mem_range.mp hi)).elim (fun e => .inr e.symm) .inl
end SF
set_option Elab.async false
set_option linter.all false
set_option maxRecDepth 100000
namespace SF
open PySem PySem.Spec L2 TL
open PyProof.Rows hiding St
end SF
set_option Elab.async false
set_option linter.all false
set_option maxRecDepth 100000
namespace SF
open PySem PySem.Spec L2 TL
open PyProof.Rows hiding St
theorem RO.mono {b : Bk} {n m : Nat} {xs : List Str} (X : RO b n xs) (h : n ≤ m) : RO b m xs := ⟨Nat.le_trans X.len h, X.it⟩
end SF
set_option Elab.async false
set_option linter.all false
set_option maxRecDepth 100000
namespace SF
open PySem PySem.Spec L2 TL
open PyProof.Rows hiding St
def b32 : Bk := ⟨["ink", "weight"], ["ink"], [⟨"1", "basic", [("weight", "bold")]⟩, ⟨"2", "basic", [("weight", "faint")]⟩, ⟨"22", "basic", [("weight", "plain")]⟩, ⟨"33", "basic", [("ink", "yellow")]⟩,
  ⟨"38;5;208", "many", [("ink", "orange")]⟩, ⟨"39", "basic", [("ink", "plain")]⟩, ⟨"0", "basic", [("ink", "plain"), ("weight", "plain")]⟩, ⟨"49", "many", [("ink", "plain")]⟩]⟩
theorem all_in32 {α : Type} {P : α → Prop} {L : List α} (h : List.foldr (fun x q => P x ∧ q) True L) : ∀ x ∈ L, P x := by
  induction L with
  | nil => exact fun x hx => nomatch hx
  | cons y L ih =>
    intro x hx
    rcases List.mem_cons.mp hx with rfl | hx
    · exact h.1
    · exact ih h.2 x hx
theorem gw32 : GW b32 where
  gb := ⟨fun _ => by kernel_rfl, by decide, fun _ => by kernel_rfl, by decide +kernel, by decide, by decide, all_in32 ⟨fun _ => by kernel_rfl, fun _ => by kernel_rfl, fun _ => by kernel_rfl, fun _ => by kernel_rfl, fun _ => by kernel_rfl, fun _ => by kernel_rfl, fun _ => by kernel_rfl, fun _ => by kernel_rfl, trivial⟩, by decide +kernel,
    ⟨["basic", "many"], by decide, by decide +kernel⟩⟩
  sg := all_in32 ⟨fun _ => by kernel_rfl, fun _ => by kernel_rfl, fun _ => by kernel_rfl, fun _ => by kernel_rfl, fun _ => by kernel_rfl, fun _ => by kernel_rfl, fun _ => by kernel_rfl, fun _ => by kernel_rfl, trivial⟩
  gin := by decide +kernel
  and := by decide +kernel
  gz := by decide +kernel
  asz := by decide
theorem gc32 : GC b32 := ⟨gw32, by decide +kernel, by decide +kernel, ⟨["basic", "many"], by decide, by decide +kernel⟩⟩
end SF
set_option Elab.async false
set_option linter.all false
set_option maxRecDepth 100000
namespace SF
open PySem PySem.Spec L2 TL
open PyProof.Rows hiding St
abbrev Wi := List (Str × Ch)
def wiP (p : Str × Ch) : T := .tup [.str p.1, chT p.2]
def wiT (w : Wi) : T := .tup (w.map wiP)
def wishF (w : Wi) (a : Str) : Ch := ((w.find? fun p => decide (p.1 = a)).map (·.2)).getD []
end SF
set_option Elab.async false
set_option linter.all false
set_option maxRecDepth 100000
namespace SF
open PySem PySem.Spec L2 TL
open PyProof.Rows hiding St
end SF
set_option Elab.async false
set_option linter.all false
set_option maxRecDepth 100000
namespace SF
open PySem PySem.Spec L2 TL
open PyProof.Rows hiding St
end SF
set_option Elab.async false
set_option linter.all false
set_option maxRecDepth 100000
namespace SF
open PySem PySem.Spec L2 TL
open PyProof.Rows hiding St
end SF
set_option Elab.async false
set_option linter.all false
set_option maxRecDepth 100000
namespace SF
open PySem PySem.Spec L2 TL
open PyProof.Rows hiding St
end SF
set_option Elab.async false
set_option linter.all false
set_option maxRecDepth 100000
namespace SF
open PySem PySem.Spec L2 TL
open PyProof.Rows hiding St
end SF
set_option Elab.async false
set_option linter.all false
set_option maxRecDepth 100000
namespace SW
open PySem PySem.Spec L2 TL SF
open PyProof.Rows hiding St
abbrev Pr := Str × Str
def prT (p : Pr) : T := .etp [.str p.1, .str p.2]
def prK (p : Pr) : List Key := [.inr p.1, .inr p.2]
def prsT (l : List Pr) : T := .lst (l.map prT)
def setS (l : List Pr) : T := .kdc (l.map prK) (l.map fun _ => .bl true)
def ahT : Option (List Pr) → T
  | none => .non
  | some l => prsT l
abbrev Need := List (Pr × Option (List Pr))
def ndP (q : Pr × Option (List Pr)) : T := .tup [prT q.1, ahT q.2]
def ndT (n : Need) : T := .lst (n.map ndP)
abbrev Nds := List (Str × Need)
def ndK (N : Nds) : List Key := N.map fun q => .inr q.1
def ndsT (N : Nds) : T := .fdc (ndK N) (N.map fun q => ndT q.2)
def getN (N : Nds) (w : Str) : Need := ((N.find? fun q => decide (q.1 = w)).map (·.2)).getD []
structure NE (N : Nds) : Prop where
  nd : (N.map (·.1)).Nodup
  len : N.length ≤ 16
  ln : ∀ q ∈ N, q.2.length ≤ 6
  ah : ∀ q ∈ N, ∀ r ∈ q.2, ∀ l, r.2 = some l → l.length ≤ 100
  so : ∀ q ∈ N, So q.1
  wl : ∀ q ∈ N, q.1.length ≤ 200
def inP (s : List Pr) (p : Pr) : Bool := decide (p ∈ s)
def allP (s l : List Pr) : Bool := l.all (inP s)
def freeP (s : List Pr) (q : Pr × Option (List Pr)) : Bool := inP s q.1 || match q.2 with
  | none => false
  | some l => allP s l
def canF (s : List Pr) (n : Need) : Bool := n.all (freeP s)
def putP (s : List Pr) (p : Pr) : List Pr := if inP s p then s else s ++ [p]
def settleF (s : List Pr) (n : Need) : List Pr := n.foldl (fun s q => putP s q.1) s
theorem prK_inj {p q : Pr} (h : prK p = prK q) : p = q := by
  obtain ⟨a, b⟩ := p
  obtain ⟨c, d⟩ := q
  simp only [prK, List.cons.injEq, Sum.inr.injEq, and_true] at h
  obtain ⟨rfl, rfl⟩ := h
  rfl
theorem any_prK (l : List Pr) (p : Pr) : ((l.map prK).any fun a => decide (a = prK p)) = inP l p := by
  rw [List.any_map, inP, Bool.eq_iff_iff, List.any_eq_true, decide_eq_true_eq]
  constructor
  · rintro ⟨x, hx, e⟩
    have := prK_inj (of_decide_eq_true e)
    rw [← this]
    exact hx
  · exact fun h => ⟨p, h, decide_eq_true rfl⟩
theorem in_set {S : Sto} {t : T} {l : List Pr} {ts : List T} (h : kdcL S t = some (l.map prK, ts)) (p : Pr) : inCT S (prT p) t = some (.bl (inP l p)) := by
  unfold inCT inCB
  rw [h]
  show some (T.bl ((l.map prK).any fun a => decide (a = prK p))) = _
  rw [any_prK]
theorem nin_set {S : Sto} {t : T} {l : List Pr} {ts : List T} (h : kdcL S t = some (l.map prK, ts)) (p : Pr) : ninCT S (prT p) t = some (.bl !(inP l p)) := by
  unfold ninCT inCB
  rw [h]
  show some (T.bl !((l.map prK).any fun a => decide (a = prK p))) = _
  rw [any_prK]
theorem zip_true (k : List Key) : ∀ l : List Pr, List.zipWith (fun a u => if a = k then T.bl true else u) (l.map prK) (l.map fun _ => T.bl true) = l.map fun _ => T.bl true
  | [] => rfl
  | p :: l => by
    rw [List.map_cons, List.map_cons, List.zipWith_cons_cons, zip_true k l]
    split <;> rfl
theorem put_set (l : List Pr) (p : Pr) : putKK (l.map prK) (l.map fun _ => T.bl true) (prK p) (.bl true) = ((putP l p).map prK, (putP l p).map fun _ => T.bl true) := by
  unfold putKK putP
  rw [any_prK]
  cases inP l p with
  | true => rw [if_pos rfl, if_pos rfl, zip_true]
  | false =>
    rw [if_neg (by simp), if_neg (by simp), List.map_append, List.map_append]
    rfl
theorem set_set {S : Sto} {n : Nat} {l : List Pr} (h : S[n]? = some (setS l)) (hz : l.length < sizeLine) (p : Pr) : setCT S (.ref n) (prT p) (.bl true) = some (S.set n (setS (putP l p))) := by
  unfold setCT prT
  simp only [h, setS]
  show (if (l.map prK).length < sizeLine then some (S.set n (.kdc (putKK (l.map prK) (l.map fun _ => T.bl true) (prK p) (.bl true)).1 (putKK (l.map prK) (l.map fun _ => T.bl true) (prK p) (.bl true)).2)) else none) = _
  rw [List.length_map, if_pos hz, put_set]
theorem kdc_ref {S : Sto} {n : Nat} {l : List Pr} (h : S[n]? = some (setS l)) : kdcL S (.ref n) = some (l.map prK, l.map fun _ => T.bl true) := by
  unfold kdcL
  simp only [h, setS]
theorem kdc_pure (S : Sto) (l : List Pr) : kdcL S (setS l) = some (l.map prK, l.map fun _ => T.bl true) := rfl
theorem are_settled_ok {S : Sto} {t : T} {l : List Pr} {ts : List T} (h : kdcL S t = some (l.map prK, ts)) {ps : List Pr} (hz : ps.length ≤ 200) : m_are_settled [t, prsT ps] S = .ok (.bl (allP l ps)) S := by
  unfold m_are_settled b_are_settled prsT
  have lc : lcF (sName 2) fYes (fBin inCT (fVar 2) (fVar 0)) [2] [some t, some (.lst (ps.map prT)), none] (ps.map prT) S = .ok (ps.map fun p => T.bl (inP l p)) S := lc_each1 fun p hp => ⟨_, rfl, slots1 _ _, rfl, by simp_arith [in_set h p]⟩
  have al := all_img (inP l) ps S
  generalize hq : ps.map prT = qs at lc ⊢
  have ql : qs.length = ps.length := by rw [← hq, List.length_map]
  simp_arith [ql, small16 hz, lc, al]
  rfl
theorem not_free {s : List Pr} {q : Pr × Option (List Pr)} : freeP s q = (inP s q.1 || match q.2 with | none => false | some l => allP s l) := rfl
theorem can_take_ok {S : Sto} {t : T} {l : List Pr} {ts : List T} (h : kdcL S t = some (l.map prK, ts)) {n : Need} (ha : ∀ r ∈ n, ∀ l, r.2 = some l → l.length ≤ 100) : m_can_take [ndT n, t] S = .ok (.bl (canF l n)) S := by
  have as := fun (ps : List Pr) (hz : ps.length ≤ 200) => are_settled_ok h hz
  unfold m_can_take b_can_take ndT
  generalize m_are_settled = f1 at as ⊢
  have key := first_at (F := ndP) (g := sTup 2 (sCons (sName 2) (sCons (sName 3) sNil))) (S := S) (l := n) (τ := [some (.lst (n.map ndP)), some t, none, none]) (fun τ => ∃ x1 x2, τ = [some (.lst (n.map ndP)), some t, x1, x2]) (fun q => if freeP l q then none else some (T.bl false))
    (B := bIf (fAndT (fTest (fBin ninCT (fVar 2) (fVar 1))) (fOrT (fTest (fBin isNT (fVar 3) (fC .non))) (fNotT (fTru (fCall f1 (fCons (fVar 1) (fCons (fVar 3) fNil))))))) (bRet (fC (.bl false))) bNext)
    ⟨none, none, rfl⟩ (by
    rintro ⟨p, o⟩ hq τ ⟨x1, x2, rfl⟩
    refine ⟨[(2, prT p), (3, ahT o)], rfl, ?_⟩
    rw [not_free]
    have n1 := nin_set h p
    cases hp : inP l p with
    | true =>
      rw [hp] at n1
      simp_arith [n1, hp, Bool.true_or]
      exact ⟨_, rfl, _, _, rfl⟩
    | false =>
      rw [hp] at n1
      cases o with
      | none =>
        have i1 : isNT S (ahT none) .non = some (.bl true) := rfl
        simp_arith [n1, hp, i1]
      | some ps =>
        have i1 : isNT S (ahT (some ps)) .non = some (.bl false) := rfl
        have a1 : f1 [t, ahT (some ps)] S = .ok (.bl (allP l ps)) S := as ps (by have := ha _ hq ps rfl; omega)
        cases hl : allP l ps with
        | true =>
          rw [hl] at a1
          simp_arith [n1, hp, i1, a1, hl]
          exact ⟨_, rfl, _, _, rfl⟩
        | false =>
          rw [hl] at a1
          simp_arith [n1, hp, i1, a1, hl])
  have e : (n.findSome? fun q => if freeP l q then none else some (T.bl false)) = if canF l n then none else some (.bl false) := by
    unfold canF
    clear key ha
    induction n with
    | nil => rfl
    | cons q n ih =>
      rw [List.findSome?_cons, List.all_cons]
      cases freeP l q with
      | true =>
        rw [Bool.true_and]
        exact ih
      | false => rfl
  rw [e] at key
  cases hc : canF l n with
  | true =>
    rw [hc] at key
    obtain ⟨τ2, k1, x1, x2, rfl⟩ := key
    simp_arith [k1]
  | false =>
    rw [hc] at key
    simp only [Bool.false_eq_true, if_false] at key
    simp_arith [key]
theorem ix_need {N : Nds} (w : Str) (hw : w ∈ N.map (·.1)) (S : Sto) : ixFT S (ndsT N) (.str w) = some (ndT (getN N w)) := by
  unfold ixFT ndsT getN
  show (getK (ndK N) (N.map fun q => ndT q.2) (.inr w)) = _
  unfold ndK
  clear S
  induction N with
  | nil => cases hw
  | cons q N ih =>
    rw [List.map_cons, List.map_cons, List.find?_cons]
    unfold getK
    by_cases e : q.1 = w
    · rw [if_pos (by rw [e]), decide_eq_true e]
      rfl
    · rw [if_neg (fun z => e (Sum.inr.inj z)), decide_eq_false e]
      refine ih ?_
      rw [List.map_cons] at hw
      exact (List.mem_cons.mp hw).resolve_left fun z => e z.symm
theorem putP_len (s : List Pr) (p : Pr) : (putP s p).length ≤ s.length + 1 := by
  unfold putP
  split
  · omega
  · simp
theorem settleF_len (n : Need) : ∀ s : List Pr, (settleF s n).length ≤ s.length + n.length := by
  unfold settleF
  induction n with
  | nil => intro s; simp
  | cons q n ih =>
    intro s
    rw [List.foldl_cons, List.length_cons]
    have := ih (putP s q.1)
    have := putP_len s q.1
    omega
theorem settle_ok {N : Nds} (E : NE N) {S : Sto} {n : Nat} {l : List Pr} (h : S[n]? = some (setS l)) (hz : l.length ≤ 1000) {w : Str} (hw : w ∈ N.map (·.1)) : m_settle [.ref n, ndsT N, .str w] S = .ok .non (S.set n (setS (settleF l (getN N w)))) := by
  have hn : n < S.length := (List.getElem?_eq_some_iff.mp h).1
  have ln : (getN N w).length ≤ 6 := by
    unfold getN
    cases e : N.find? fun q => decide (q.1 = w) with
    | none => exact Nat.zero_le _
    | some q => exact E.ln q (List.mem_of_find?_eq_some e)
  have run : ∀ (nd : Need) (l : List Pr) (S : Sto) (x1 x2 : Option T), S[n]? = some (setS l) → l.length + nd.length ≤ 2000 → ∃ y1 y2,
      forF (sTup 2 (sCons (sName 3) (sCons (sName 4) sNil))) (bStoreC (fVar 0) (fVar 3) (fC (.bl true))) (nd.map ndP) [some (.ref n), some (ndsT N), some (.str w), x1, x2] S = .nx [some (.ref n), some (ndsT N), some (.str w), y1, y2] (S.set n (setS (settleF l nd))) := by
    intro nd
    induction nd with
    | nil =>
      intro l S x1 x2 h hz
      refine ⟨x1, x2, ?_⟩
      rw [List.map_nil]
      unfold forF
      rw [show settleF l [] = l from rfl]
      obtain ⟨hl, e⟩ := List.getElem?_eq_some_iff.mp h
      rw [← e, List.set_getElem_self]
    | cons q nd ih =>
      intro l S x1 x2 h hz
      rw [List.length_cons] at hz
      have hl : n < S.length := (List.getElem?_eq_some_iff.mp h).1
      have z1 : l.length < sizeLine := Nat.lt_of_lt_of_le (show l.length < 4000 by omega) (by decide)
      have s1 := set_set h z1 q.1
      obtain ⟨y1, y2, e⟩ := ih (putP l q.1) (S.set n (setS (putP l q.1))) (some (prT q.1)) (some (ahT q.2)) (List.getElem?_set_self hl) (by have := putP_len l q.1; omega)
      refine ⟨y1, y2, ?_⟩
      rw [List.map_cons]
      unfold forF
      have g1 : sTup 2 (sCons (sName 3) (sCons (sName 4) sNil)) (ndP q) = some [(3, prT q.1), (4, ahT q.2)] := rfl
      have b1 : bStoreC (fVar 0) (fVar 3) (fC (.bl true)) (setsT [some (.ref n), some (ndsT N), some (.str w), x1, x2] [(3, prT q.1), (4, ahT q.2)]) S = .nx [some (.ref n), some (ndsT N), some (.str w), some (prT q.1), some (ahT q.2)] (S.set n (setS (putP l q.1))) := by
        simp_arith [bStoreC, s1]
      simp only [g1, b1, e]
      rw [List.set_set]
      rfl
  obtain ⟨y1, y2, e⟩ := run (getN N w) l S none none h (by omega)
  have ix := ix_need w hw S
  unfold ndT at ix
  unfold m_settle b_settle
  simp_arith [ix, e]
end SW
set_option Elab.async false
set_option linter.all false
set_option maxRecDepth 100000
namespace SW
open PySem PySem.Spec L2 TL SF
open PyProof.Rows hiding St
def stepT (st : List Str × List Pr × Bool) (q : Str × Need) : List Str × List Pr × Bool :=
  if !decide (q.1 ∈ st.1) && canF st.2.1 q.2 then (st.1 ++ [q.1], settleF st.2.1 q.2, true) else st
def passT (N : Nds) (ws : List Str) (s : List Pr) : List Str × List Pr × Bool := N.foldl stepT (ws, s, false)
def takeLoop (N : Nds) : Nat → List Str → List Pr → List Str
  | 0, ws, _ => ws
  | k + 1, ws, s => if (passT N ws s).2.2 then takeLoop N k (passT N ws s).1 (passT N ws s).2.1 else (passT N ws s).1
def takeAll (N : Nds) : List Str := takeLoop N 17 [] []
def settledByF (N : Nds) (ws : List Str) : List Pr := ws.foldl (fun s w => settleF s (getN N w)) []
def reachL (N : Nds) : List Pr → List Str → Option (List Pr)
  | s, [] => some s
  | s, w :: ws => if canF s (getN N w) then reachL N (settleF s (getN N w)) ws else none
def reachF (N : Nds) (goal : List Pr) (ws : List Str) : Bool := match reachL N [] ws with
  | none => false
  | some s => allP s goal
def idleF (N : Nds) (goal : List Pr) (ws : List Str) : List Str := ws.reverse.foldl (fun kept w => if reachF N goal (kept.filter fun x => !decide (x = w)) then kept.filter (fun x => !decide (x = w)) else kept) ws
def rowOrBar (N : Nds) (goal : List Pr) : Bool × List Str :=
  if allP (settledByF N (takeAll N)) goal then (true, (idleF N goal (takeAll N)).reverse) else (false, sortS (takeAll N))
def barsF (N : Nds) (goal : List Pr) (ws : List Str) : Bool := !allP (settledByF N ws) goal && !((N.filter fun q => !decide (q.1 ∈ ws)).any fun q => canF (settledByF N ws) q.2)
theorem getN_ln {N : Nds} (E : NE N) (w : Str) : (getN N w).length ≤ 6 := by
  unfold getN
  cases e : N.find? fun q => decide (q.1 = w) with
  | none => exact Nat.zero_le _
  | some q => exact E.ln q (List.mem_of_find?_eq_some e)
theorem getN_ah {N : Nds} (E : NE N) (w : Str) : ∀ r ∈ getN N w, ∀ l, r.2 = some l → l.length ≤ 100 := by
  unfold getN
  cases e : N.find? fun q => decide (q.1 = w) with
  | none => exact fun r hr => nomatch hr
  | some q => exact E.ah q (List.mem_of_find?_eq_some e)
theorem getN_at {N : Nds} (E : NE N) {q : Str × Need} (h : q ∈ N) : getN N q.1 = q.2 := by
  have nd := E.nd
  unfold getN
  clear E
  induction N with
  | nil => cases h
  | cons p N ih =>
    rw [List.find?_cons]
    by_cases e : p.1 = q.1
    · rw [decide_eq_true e]
      rcases List.mem_cons.mp h with rfl | h
      · rfl
      · rw [List.map_cons, List.nodup_cons] at nd
        exact absurd (e ▸ List.mem_map_of_mem h) nd.1
    · rw [decide_eq_false e]
      rcases List.mem_cons.mp h with rfl | h
      · exact absurd rfl e
      · rw [List.map_cons, List.nodup_cons] at nd
        exact ih h nd.2
theorem nrs_true (l : List Pr) : nrs (l.map fun _ => T.bl true) = true := nrs_map fun _ _ => rfl
theorem gc_kref {F : FF} {ts us : List T} {ks : List (List Key)} {S J : Sto} {m : Nat} (h : F ts S = .ok (.ref m) (S ++ J)) (hm : S.length ≤ m) (e : (S ++ J)[m]? = some (.kdc ks us)) (hn : nrs us = true) : gc F ts S = .ok (.kdc ks us) S := gc_eq h (by
  unfold TL.sub frzR
  rw [if_neg (by omega), e]
  simp only [subs_nr _ hn, Option.map_some])
theorem settled_by_ok {N : Nds} (E : NE N) {ws : List Str} (hw : ∀ w ∈ ws, w ∈ N.map (·.1)) (hz : ws.length ≤ 100) {t : T} (ht : t = SF.tS ws ∨ t = .lst (ws.map T.str)) : Pu m_settled_by [ndsT N, t] (setS (settledByF N ws)) := by
  intro S
  have se := fun {S : Sto} {n : Nat} {l : List Pr} (h : S[n]? = some (setS l)) (hz : l.length ≤ 1000) {w : Str} (hw : w ∈ N.map (·.1)) => settle_ok E h hz hw
  unfold m_settled_by
  have run : ∀ (vs : List Str) (s : List Pr) (x1 : Option T), (∀ w ∈ vs, w ∈ N.map (·.1)) → s.length + 6 * vs.length ≤ 1000 → ∃ y1,
      forF (sName 3) (bExpr (fCall m_settle (fCons (fVar 2) (fCons (fVar 0) (fCons (fVar 3) fNil))))) (vs.map T.str) [some (ndsT N), some t, some (.ref S.length), x1] (S ++ [setS s]) = .nx [some (ndsT N), some t, some (.ref S.length), y1] (S ++ [setS (vs.foldl (fun s w => settleF s (getN N w)) s)]) := by
    generalize m_settle = f1 at se ⊢
    intro vs
    induction vs with
    | nil => exact fun s x1 _ _ => ⟨x1, rfl⟩
    | cons w vs ih =>
      intro s x1 hv hz
      rw [List.length_cons] at hz
      have l1 := settleF_len (getN N w) s
      have l2 := getN_ln E w
      obtain ⟨y1, e⟩ := ih (settleF s (getN N w)) (some (.str w)) (fun x hx => hv x (List.mem_cons_of_mem _ hx)) (by omega)
      refine ⟨y1, ?_⟩
      have s1 := se (S := S ++ [setS s]) (n := S.length) (l := s) (by simp) (by omega) (hv w List.mem_cons_self)
      rw [show (S ++ [setS s]).set S.length (setS (settleF s (getN N w))) = S ++ [setS (settleF s (getN N w))] by simp] at s1
      rw [List.map_cons]
      unfold forF
      have b1 : bExpr (fCall f1 (fCons (fVar 2) (fCons (fVar 0) (fCons (fVar 3) fNil)))) (setsT [some (ndsT N), some t, some (.ref S.length), x1] [(3, .str w)]) (S ++ [setS s]) = .nx [some (ndsT N), some t, some (.ref S.length), some (.str w)] (S ++ [setS (settleF s (getN N w))]) := by simp_arith [s1]
      have g1 : sName 3 (T.str w) = some [(3, .str w)] := rfl
      simp only [g1, b1, e]
      rfl
  obtain ⟨y1, e⟩ := run ws [] none hw (by simp; omega)
  refine gc_kref (J := [setS (settledByF N ws)]) (m := S.length) ?_ (Nat.le_refl _) (by simp [setS]) (nrs_true _)
  unfold b_settled_by
  have e0 : setS [] = .kdc [] [] := rfl
  rw [e0] at e
  rcases ht with rfl | rfl
  · unfold SF.tS at e ⊢
    simp_arith [e]
    rfl
  · simp_arith [e]
    rfl
theorem reach_ok {N : Nds} (E : NE N) {goal : List Pr} (hg : goal.length ≤ 200) {ws : List Str} (hw : ∀ w ∈ ws, w ∈ N.map (·.1)) (hz : ws.length ≤ 100) : Pu m_reach [ndsT N, prsT goal, .lst (ws.map T.str)] (.bl (reachF N goal ws)) := by
  intro S
  have se := fun {S : Sto} {n : Nat} {l : List Pr} (h : S[n]? = some (setS l)) (hz : l.length ≤ 1000) {w : Str} (hw : w ∈ N.map (·.1)) => settle_ok E h hz hw
  have ct := fun {S : Sto} {t : T} {l : List Pr} {ts : List T} (h : kdcL S t = some (l.map prK, ts)) {n : Need} (ha : ∀ r ∈ n, ∀ l, r.2 = some l → l.length ≤ 100) => can_take_ok h ha
  have as := fun {S : Sto} {t : T} {l : List Pr} {ts : List T} (h : kdcL S t = some (l.map prK, ts)) => are_settled_ok h hg
  unfold m_reach
  suffices h : ∃ J, body ["needs", "goal", "words", "settled", "word"] 3 b_reach [ndsT N, prsT goal, .lst (ws.map T.str)] S = .ok (.bl (reachF N goal ws)) (S ++ J) from gc_pure h rfl
  unfold b_reach reachF
  have run : ∀ (vs : List Str) (s : List Pr) (x1 : Option T), (∀ w ∈ vs, w ∈ N.map (·.1)) → s.length + 6 * vs.length ≤ 1000 → match reachL N s vs with
      | none => ∃ J, forF (sName 4) (bSeq (bIf (fNotT (fTru (fCall m_can_take (fCons (fBin ixFT (fVar 0) (fVar 4)) (fCons (fVar 3) fNil))))) (bRet (fC (.bl false))) bNext) (bExpr (fCall m_settle (fCons (fVar 3) (fCons (fVar 0) (fCons (fVar 4) fNil)))))) (vs.map T.str) [some (ndsT N), some (prsT goal), some (.lst (ws.map T.str)), some (.ref S.length), x1] (S ++ [setS s]) = .rt (.bl false) (S ++ J)
      | some s2 => ∃ y1, forF (sName 4) (bSeq (bIf (fNotT (fTru (fCall m_can_take (fCons (fBin ixFT (fVar 0) (fVar 4)) (fCons (fVar 3) fNil))))) (bRet (fC (.bl false))) bNext) (bExpr (fCall m_settle (fCons (fVar 3) (fCons (fVar 0) (fCons (fVar 4) fNil)))))) (vs.map T.str) [some (ndsT N), some (prsT goal), some (.lst (ws.map T.str)), some (.ref S.length), x1] (S ++ [setS s]) = .nx [some (ndsT N), some (prsT goal), some (.lst (ws.map T.str)), some (.ref S.length), y1] (S ++ [setS s2]) := by
    generalize m_settle = f1 at se ⊢
    generalize m_can_take = f2 at ct ⊢
    generalize ws.map T.str = wl
    intro vs
    induction vs with
    | nil => exact fun s x1 _ _ => ⟨x1, rfl⟩
    | cons w vs ih =>
      intro s x1 hv hz
      rw [List.length_cons] at hz
      have l1 := settleF_len (getN N w) s
      have l2 := getN_ln E w
      have s1 := se (S := S ++ [setS s]) (n := S.length) (l := s) (by simp) (by omega) (hv w List.mem_cons_self)
      rw [show (S ++ [setS s]).set S.length (setS (settleF s (getN N w))) = S ++ [setS (settleF s (getN N w))] by simp] at s1
      have c1 := ct (S := S ++ [setS s]) (t := .ref S.length) (kdc_ref (l := s) (by simp)) (getN_ah E w)
      have i1 := ix_need w (hv w List.mem_cons_self) (S ++ [setS s])
      have g1 : sName 4 (T.str w) = some [(4, .str w)] := rfl
      rw [List.map_cons]
      unfold forF reachL
      cases hc : canF s (getN N w) with
      | true =>
        rw [hc] at c1
        have ihw := ih (settleF s (getN N w)) (some (.str w)) (fun x hx => hv x (List.mem_cons_of_mem _ hx)) (by omega)
        have b1 : bSeq (bIf (fNotT (fTru (fCall f2 (fCons (fBin ixFT (fVar 0) (fVar 4)) (fCons (fVar 3) fNil))))) (bRet (fC (.bl false))) bNext) (bExpr (fCall f1 (fCons (fVar 3) (fCons (fVar 0) (fCons (fVar 4) fNil))))) (setsT [some (ndsT N), some (prsT goal), some (.lst wl), some (.ref S.length), x1] [(4, .str w)]) (S ++ [setS s]) = .nx [some (ndsT N), some (prsT goal), some (.lst wl), some (.ref S.length), some (.str w)] (S ++ [setS (settleF s (getN N w))]) := by simp_arith [i1, c1, s1]
        simp only [g1, b1, if_true]
        exact ihw
      | false =>
        rw [hc] at c1
        have b1 : bSeq (bIf (fNotT (fTru (fCall f2 (fCons (fBin ixFT (fVar 0) (fVar 4)) (fCons (fVar 3) fNil))))) (bRet (fC (.bl false))) bNext) (bExpr (fCall f1 (fCons (fVar 3) (fCons (fVar 0) (fCons (fVar 4) fNil))))) (setsT [some (ndsT N), some (prsT goal), some (.lst wl), some (.ref S.length), x1] [(4, .str w)]) (S ++ [setS s]) = .rt (.bl false) (S ++ [setS s]) := by simp_arith [i1, c1]
        simp only [g1, b1, Bool.false_eq_true, if_false]
        exact ⟨_, rfl⟩
  have r := run ws [] none hw (by simp; omega)
  have e0 : setS [] = .kdc [] [] := rfl
  rw [e0] at r
  cases hr : reachL N [] ws with
  | none =>
    rw [hr] at r
    obtain ⟨J, r⟩ := r
    simp_arith [r]
    exact ⟨J, rfl⟩
  | some s2 =>
    rw [hr] at r
    obtain ⟨y1, r⟩ := r
    have a1 := as (S := S ++ [setS s2]) (t := .ref S.length) (kdc_ref (l := s2) (by simp))
    simp_arith [r, a1]
    exact ⟨_, rfl⟩
end SW
set_option Elab.async false
set_option linter.all false
set_option maxRecDepth 100000
namespace SW
open PySem PySem.Spec L2 TL SF
open PyProof.Rows hiding St
structure TI (N : Nds) (ws : List Str) (s : List Pr) : Prop where
  nd : ws.Nodup
  sub : ∀ w ∈ ws, w ∈ N.map (·.1)
  len : s.length ≤ 6 * ws.length
theorem TI.le {N : Nds} (E : NE N) {ws : List Str} {s : List Pr} (I : TI N ws s) : ws.length ≤ 16 := by
  have := nodup_len I.nd I.sub
  rw [List.length_map] at this
  exact Nat.le_trans this E.len
theorem TI.step {N : Nds} (E : NE N) {st : List Str × List Pr × Bool} (I : TI N st.1 st.2.1) {q : Str × Need} (hq : q ∈ N) : TI N (stepT st q).1 (stepT st q).2.1 ∧ st.1.length ≤ (stepT st q).1.length ∧ ((stepT st q).2.2 = true → st.2.2 = true ∨ st.1.length < (stepT st q).1.length) := by
  unfold stepT
  split
  · rename_i h
    simp only [Bool.and_eq_true, Bool.not_eq_true', decide_eq_false_iff_not] at h
    refine ⟨⟨?_, ?_, ?_⟩, by simp, fun _ => .inr (by simp)⟩
    · exact List.nodup_append.mpr ⟨I.nd, by simp, fun x hx y hy => by
        rw [List.mem_singleton] at hy
        rw [hy]
        exact fun z => h.1 (z ▸ hx)⟩
    · intro w hw
      rcases List.mem_append.mp hw with hw | hw
      · exact I.sub w hw
      · rw [List.mem_singleton.mp hw]
        exact List.mem_map_of_mem hq
    · have := settleF_len q.2 st.2.1
      have := E.ln q hq
      have := I.len
      show (settleF st.2.1 q.2).length ≤ 6 * (st.1 ++ [q.1]).length
      rw [List.length_append, List.length_singleton]
      omega
  · exact ⟨I, Nat.le_refl _, fun h => .inl h⟩
theorem TI.fold {N : Nds} (E : NE N) : ∀ (M : Nds), (∀ q ∈ M, q ∈ N) → ∀ st : List Str × List Pr × Bool, TI N st.1 st.2.1 → TI N (M.foldl stepT st).1 (M.foldl stepT st).2.1 ∧ st.1.length ≤ (M.foldl stepT st).1.length ∧ ((M.foldl stepT st).2.2 = true → st.2.2 = true ∨ st.1.length < (M.foldl stepT st).1.length) := by
  intro M
  induction M with
  | nil => exact fun _ st I => ⟨I, Nat.le_refl _, fun h => .inl h⟩
  | cons q M ih =>
    intro hM st I
    obtain ⟨a, b, c⟩ := I.step E (hM q List.mem_cons_self)
    obtain ⟨d, e, f⟩ := ih (fun x hx => hM x (List.mem_cons_of_mem _ hx)) (stepT st q) a
    rw [List.foldl_cons]
    refine ⟨d, Nat.le_trans b e, fun h => ?_⟩
    rcases f h with z | z
    · rcases c z with y | y
      · exact .inl y
      · exact .inr (Nat.lt_of_lt_of_le y e)
    · exact .inr (Nat.lt_of_le_of_lt b z)
theorem noD_ah (o : Option (List Pr)) : noD (ahT o) = true := by
  cases o with
  | none => rfl
  | some l =>
    show noDs (l.map prT) = true
    induction l with
    | nil => rfl
    | cons p l ih => rw [List.map_cons]; simp only [noDs, ih, Bool.and_true]; rfl
theorem noD_nd (n : Need) : noD (ndT n) = true := by
  show noDs (n.map ndP) = true
  induction n with
  | nil => rfl
  | cons q n ih =>
    rw [List.map_cons]
    simp only [noDs, ih, Bool.and_true, ndP, noD, noD_ah]
    rfl
theorem noD_nds (N : Nds) : noD (ndsT N) = true := by
  show noDs (N.map fun q => ndT q.2) = true
  induction N with
  | nil => rfl
  | cons q n ih => rw [List.map_cons]; simp only [noDs, ih, noD_nd, Bool.and_true]
theorem noD_prs (l : List Pr) : noD (prsT l) = true := noD_ah (some l)
theorem noD_set (l : List Pr) : noDc (setS l) = true := by
  show noDs (l.map fun _ => T.bl true) = true
  induction l with
  | nil => rfl
  | cons p l ih => rw [List.map_cons]; simp only [noDs, ih, noD, Bool.and_true]
theorem keys_nds (N : Nds) : (ndK N).map tKey = (N.map (·.1)).map T.str := by
  unfold ndK
  rw [List.map_map, List.map_map]
  rfl
theorem cl_take {S : Sto} (C : Cl S) (ws : List Str) (s : List Pr) : (S ++ [.lst (ws.map T.str), setS s]).all noDc = true := by
  refine Cl.app C (Cl.cons ?_ (Cl.cons (noD_set s) Cl.nil))
  exact noDs_str ws
def takeB (f2 f1 : FF) : BS := bIf (fAndT (fTest (fBin ninT (fVar 4) (fVar 1))) (fTru (fCall f2 (fCons (fBin ixFT (fVar 0) (fVar 4)) (fCons (fVar 2) fNil))))) (bSeq (bExpr (fApp (fVar 1) (fCons (fVar 4) fNil))) (bSeq (bExpr (fCall f1 (fCons (fVar 2) (fCons (fVar 0) (fCons (fVar 4) fNil))))) (bSet 3 (fC (.bl true))))) bNext
theorem nin_ws {S : Sto} {n : Nat} {ws : List Str} (h : S[n]? = some (.lst (ws.map T.str))) (w : Str) : ninT S (.str w) (.ref n) = some (.bl !(decide (w ∈ ws))) := by
  have e : ninT S (.str w) (.ref n) = ninT S (.str w) (.lst (ws.map T.str)) := by
    unfold ninT inB
    simp only [dctT, seqL, h]
  rw [e]
  exact nin_of (in_lst w ws S)
theorem take_step {N : Nds} (E : NE N) {S : Sto} {st : List Str × List Pr × Bool} (I : TI N st.1 st.2.1) {q : Str × Need} (hq : q ∈ N) (x : Option Str) :
    takeB m_can_take m_settle [some (ndsT N), some (.ref S.length), some (.ref (S.length + 1)), some (.bl st.2.2), some (.str q.1)] (S ++ [.lst (st.1.map T.str), setS st.2.1]) = .nx [some (ndsT N), some (.ref S.length), some (.ref (S.length + 1)), some (.bl (stepT st q).2.2), some (.str q.1)] (S ++ [.lst ((stepT st q).1.map T.str), setS (stepT st q).2.1]) := by
  obtain ⟨ws, s, f⟩ := st
  simp only at I ⊢
  have wl := I.le E
  have sl := I.len
  have hw : q.1 ∈ N.map (·.1) := List.mem_map_of_mem hq
  have gq := getN_at E hq
  have s0 : (S ++ [T.lst (ws.map T.str), setS s])[S.length + 1]? = some (setS s) := by simp
  have a0 : (S ++ [T.lst (ws.map T.str), setS s])[S.length]? = some (T.lst (ws.map T.str)) := by simp
  have n1 := nin_ws a0 q.1
  have c1 := can_take_ok (S := S ++ [T.lst (ws.map T.str), setS s]) (t := .ref (S.length + 1)) (kdc_ref (l := s) s0) (n := q.2) (E.ah q hq)
  have i1 := ix_need q.1 hw (S ++ [T.lst (ws.map T.str), setS s])
  rw [gq] at i1
  have s1 := settle_ok E (S := S ++ [T.lst ((ws ++ [q.1]).map T.str), setS s]) (n := S.length + 1) (l := s) (by simp) (by omega) hw
  rw [gq, show (S ++ [T.lst ((ws ++ [q.1]).map T.str), setS s]).set (S.length + 1) (setS (settleF s q.2)) = S ++ [T.lst ((ws ++ [q.1]).map T.str), setS (settleF s q.2)] by simp] at s1
  have l0 : lstAt (S ++ [T.lst (ws.map T.str), setS s]) S.length = some (ws.map T.str) := by unfold lstAt; rw [a0]
  have z1 : (ws.map T.str).length < sizeLine := by rw [List.length_map]; exact small16' (by omega)
  have e1 : (S ++ [T.lst (ws.map T.str), setS s]).set S.length (.lst (ws.map T.str ++ [T.str q.1])) = S ++ [T.lst ((ws ++ [q.1]).map T.str), setS s] := by simp
  have st : stepT (ws, s, f) q = if (!decide (q.1 ∈ ws) && canF s q.2) = true then (ws ++ [q.1], settleF s q.2, true) else (ws, s, f) := rfl
  rw [st]
  clear st
  unfold takeB
  generalize m_can_take = f2 at c1 ⊢
  generalize m_settle = f1 at s1 ⊢
  cases hm : decide (q.1 ∈ ws) with
  | true =>
    rw [hm] at n1
    rw [Bool.not_true, Bool.false_and, if_neg (by simp)]
    generalize ndsT N = nt at *
    generalize ws.map T.str = wt at *
    simp_arith [n1]
  | false =>
    rw [hm] at n1
    rw [Bool.not_false, Bool.true_and]
    cases hc : canF s q.2 with
    | false =>
      rw [hc] at c1
      rw [if_neg (by simp)]
      generalize ndsT N = nt at *
      generalize ws.map T.str = wt at *
      simp_arith [n1, i1, c1]
    | true =>
      rw [hc] at c1
      rw [if_pos rfl]
      generalize ndsT N = nt at *
      generalize ws.map T.str = wt at *
      generalize (ws ++ [q.1]).map T.str = wt2 at *
      simp_arith [n1, i1, c1, l0, z1, e1, s1]
end SW
set_option Elab.async false
set_option linter.all false
set_option maxRecDepth 100000
namespace SW
open PySem PySem.Spec L2 TL SF
open PyProof.Rows hiding St
theorem take_pass {N : Nds} (E : NE N) {S : Sto} : ∀ (M : Nds), (∀ q ∈ M, q ∈ N) → ∀ (st : List Str × List Pr × Bool) (x : Option Str), TI N st.1 st.2.1 → ∃ y : Option Str,
    forF (sName 4) (takeB m_can_take m_settle) ((M.map (·.1)).map T.str) [some (ndsT N), some (.ref S.length), some (.ref (S.length + 1)), some (.bl st.2.2), x.map T.str] (S ++ [.lst (st.1.map T.str), setS st.2.1]) = .nx [some (ndsT N), some (.ref S.length), some (.ref (S.length + 1)), some (.bl (M.foldl stepT st).2.2), y.map T.str] (S ++ [.lst ((M.foldl stepT st).1.map T.str), setS (M.foldl stepT st).2.1]) := by
  intro M
  induction M with
  | nil => exact fun _ st x _ => ⟨x, rfl⟩
  | cons q M ih =>
    intro hM st x I
    have b := take_step E (S := S) I (hM q List.mem_cons_self) x
    obtain ⟨y, e⟩ := ih (fun z hz => hM z (List.mem_cons_of_mem _ hz)) (stepT st q) (some q.1) (I.step E (hM q List.mem_cons_self)).1
    refine ⟨y, ?_⟩
    rw [List.map_cons, List.map_cons, List.foldl_cons]
    unfold forF
    have g1 : sName 4 (T.str q.1) = some [(4, .str q.1)] := rfl
    have t1 : setsT [some (ndsT N), some (.ref S.length), some (.ref (S.length + 1)), some (.bl st.2.2), x.map T.str] [(4, T.str q.1)] = [some (ndsT N), some (.ref S.length), some (.ref (S.length + 1)), some (.bl st.2.2), some (.str q.1)] := rfl
    simp only [g1, t1, b]
    exact e
theorem mask_take (N : Nds) (a b : Nat) (f : Bool) (x : Option Str) : maskT [some (ndsT N), some (.ref a), some (.ref b), some (.bl f), x.map T.str] = [some (ndsT N), some (.ref a), some (.ref b), some (.bl f), x.map T.str] := by
  have h := noD_nds N
  unfold maskT
  generalize ndsT N = nt at *
  cases x <;> simp [h, noD]
theorem take_loop {N : Nds} (E : NE N) {S : Sto} (C : Cl S) : ∀ (k m : Nat) (ws : List Str) (s : List Pr) (x : Option Str), TI N ws s → 17 ≤ ws.length + k → k + 1 ≤ m → ∃ (s2 : List Pr) (y : Option Str),
    whF (fTru (fVar 3)) (bSeq (bSet 3 (fC (.bl false))) (bForK 0 (sName 4) (takeB m_can_take m_settle))) m [some (ndsT N), some (.ref S.length), some (.ref (S.length + 1)), some (.bl true), x.map T.str] (S ++ [.lst (ws.map T.str), setS s]) = .nx [some (ndsT N), some (.ref S.length), some (.ref (S.length + 1)), some (.bl false), y.map T.str] (S ++ [.lst ((takeLoop N k ws s).map T.str), setS s2]) := by
  intro k
  induction k with
  | zero =>
    intro m ws s x I h
    have := I.le E
    omega
  | succ k ih =>
    intro m ws s x I h hm
    obtain ⟨m, rfl⟩ : ∃ j, m = j + 1 := ⟨m - 1, by omega⟩
    obtain ⟨y, e⟩ := take_pass E (S := S) N (fun _ h => h) (ws, s, false) x I
    obtain ⟨I2, le, gr⟩ := TI.fold E N (fun _ h => h) (ws, s, false) I
    have b1 : bSeq (bSet 3 (fC (.bl false))) (bForK 0 (sName 4) (takeB m_can_take m_settle)) [some (ndsT N), some (.ref S.length), some (.ref (S.length + 1)), some (.bl true), x.map T.str] (S ++ [.lst (ws.map T.str), setS s]) = .nx [some (ndsT N), some (.ref S.length), some (.ref (S.length + 1)), some (.bl (passT N ws s).2.2), y.map T.str] (S ++ [.lst ((passT N ws s).1.map T.str), setS (passT N ws s).2.1]) := by
      have s1 : ∀ τ S1, bSeq (bSet 3 (fC (.bl false))) (bForK 0 (sName 4) (takeB m_can_take m_settle)) τ S1 = bForK 0 (sName 4) (takeB m_can_take m_settle) (τ.set 3 (some (.bl false))) S1 := fun _ _ => rfl
      rw [s1]
      have m1 := mask_take N S.length (S.length + 1) false x
      unfold bForK
      show (if (S ++ [T.lst (ws.map T.str), setS s]).all noDc = true then forF (sName 4) (takeB m_can_take m_settle) ((ndK N).map tKey) (maskT [some (ndsT N), some (.ref S.length), some (.ref (S.length + 1)), some (.bl false), x.map T.str]) (S ++ [T.lst (ws.map T.str), setS s]) else .stuck) = _
      rw [if_pos (cl_take C ws s), m1, keys_nds]
      exact e
    have t1 : ∀ (f : Bool) (y : Option Str) S1, fTru (fVar 3) [some (ndsT N), some (.ref S.length), some (.ref (S.length + 1)), some (.bl f), y.map T.str] S1 = .ok f S1 := fun _ _ _ => rfl
    rw [whF]
    simp only [t1, b1, Res.bindS]
    unfold takeLoop
    cases hf : (passT N ws s).2.2 with
    | true =>
      have g : ws.length < (passT N ws s).1.length := (gr hf).resolve_left fun z => nomatch z
      obtain ⟨s2, y2, e2⟩ := ih m (passT N ws s).1 (passT N ws s).2.1 y I2 (by omega) (by omega)
      refine ⟨s2, y2, ?_⟩
      rw [if_pos rfl]
      exact e2
    | false =>
      obtain ⟨m, rfl⟩ : ∃ j, m = j + 1 := ⟨m - 1, by omega⟩
      refine ⟨(passT N ws s).2.1, y, ?_⟩
      rw [if_neg (by simp), whF]
      simp only [t1, Res.bindS]
theorem takeLoop_in {N : Nds} (E : NE N) : ∀ (k : Nat) (ws : List Str) (s : List Pr), TI N ws s → ∃ s2, TI N (takeLoop N k ws s) s2 := by
  intro k
  induction k with
  | zero => exact fun ws s I => ⟨s, I⟩
  | succ k ih =>
    intro ws s I
    obtain ⟨I2, _, _⟩ := TI.fold E N (fun _ h => h) (ws, s, false) I
    unfold takeLoop
    split
    · exact ih _ _ I2
    · exact ⟨_, I2⟩
theorem takeAll_in {N : Nds} (E : NE N) : ∃ s, TI N (takeAll N) s := takeLoop_in E _ _ _ ⟨List.nodup_nil, fun _ h => (List.not_mem_nil h).elim, Nat.zero_le _⟩
theorem take_all_ok {N : Nds} (E : NE N) {S : Sto} (C : Cl S) : m_take_all [ndsT N] S = .ok (.lst ((takeAll N).map T.str)) S := by
  obtain ⟨s2, y, e⟩ := take_loop E C 17 1000 [] [] none ⟨List.nodup_nil, fun _ h => (List.not_mem_nil h).elim, Nat.zero_le _⟩ (by simp) (by omega)
  unfold m_take_all
  refine gc_ref (J := [.lst ((takeAll N).map T.str), setS s2]) (m := S.length) ?_ (Nat.le_refl _) (by simp) (nrs_str _)
  have e0 : setS [] = .kdc [] [] := rfl
  rw [e0] at e
  unfold b_take_all
  have tb : (bIf (fAndT (fTest (fBin ninT (fVar 4) (fVar 1))) (fTru (fCall m_can_take (fCons (fBin ixFT (fVar 0) (fVar 4)) (fCons (fVar 2) fNil))))) (bSeq (bExpr (fApp (fVar 1) (fCons (fVar 4) fNil))) (bSeq (bExpr (fCall m_settle (fCons (fVar 2) (fCons (fVar 0) (fCons (fVar 4) fNil))))) (bSet 3 (fC (.bl true))))) bNext) = takeB m_can_take m_settle := rfl
  rw [tb]
  generalize bForK 0 (sName 4) (takeB m_can_take m_settle) = fk at e ⊢
  have w1 : ∀ τ S1, bWhile (fTru (fVar 3)) (bSeq (bSet 3 (fC (.bl false))) fk) τ S1 = whF (fTru (fVar 3)) (bSeq (bSet 3 (fC (.bl false))) fk) 1000 τ S1 := fun _ _ => rfl
  generalize bWhile (fTru (fVar 3)) (bSeq (bSet 3 (fC (.bl false))) fk) = wh at w1 ⊢
  have w2 := w1 [some (ndsT N), some (.ref S.length), some (.ref (S.length + 1)), some (.bl true), none] (S ++ [.lst [], .kdc [] []])
  have e' : whF (fTru (fVar 3)) (bSeq (bSet 3 (fC (.bl false))) fk) 1000 [some (ndsT N), some (.ref S.length), some (.ref (S.length + 1)), some (.bl true), none] (S ++ [.lst [], .kdc [] []]) = .nx [some (ndsT N), some (.ref S.length), some (.ref (S.length + 1)), some (.bl false), y.map T.str] (S ++ [.lst ((takeAll N).map T.str), setS s2]) := e
  rw [e'] at w2
  generalize y.map T.str = yt at w2
  generalize ndsT N = nt at w2 ⊢
  have l1 : (S ++ [T.lst []]).length = S.length + 1 := by simp
  have l2 : S ++ [T.lst []] ++ [T.kdc [] []] = S ++ [T.lst [], T.kdc [] []] := by simp
  simp_arith [l1, l2, w2, small16 (show 0 ≤ 200 by omega)]
theorem idle_sub (N : Nds) (goal : List Pr) : ∀ (vs kept : List Str), (vs.foldl (fun kept w => if reachF N goal (kept.filter fun x => !decide (x = w)) then kept.filter (fun x => !decide (x = w)) else kept) kept).Sublist kept := by
  intro vs
  induction vs with
  | nil => exact fun kept => List.Sublist.refl _
  | cons w vs ih =>
    intro kept
    rw [List.foldl_cons]
    refine (ih _).trans ?_
    split
    · exact List.filter_sublist
    · exact List.Sublist.refl _
theorem without_idle_ok {N : Nds} (E : NE N) {goal : List Pr} (hg : goal.length ≤ 200) {ws : List Str} (hw : ∀ w ∈ ws, w ∈ N.map (·.1)) (hz : ws.length ≤ 100) : Pu m_without_idle [ndsT N, prsT goal, .lst (ws.map T.str)] (.lst ((idleF N goal ws).map T.str)) := by
  intro S
  have rc := fun {vs : List Str} (hs : vs.Sublist ws) => reach_ok E hg (ws := vs) (fun w h => hw w (hs.subset h)) (Nat.le_trans hs.length_le hz) S
  have sw : ∀ x ∈ ws, So x := fun x hx => by
    obtain ⟨q, hq, rfl⟩ := List.mem_map.mp (hw x hx)
    exact E.so q hq
  have rv : fRev (fVar 2) (fUn negT (fC (.int 1))) [some (ndsT N), some (prsT goal), some (.lst (ws.map T.str)), some (.lst (ws.map T.str)), none, none, none] S = .ok (.lst (ws.reverse.map T.str)) S := by
    rw [List.map_reverse]
    rfl
  unfold m_without_idle b_without_idle idleF
  generalize m_reach = f1 at rc ⊢
  generalize hB : bSeq (bSet 5 (fPure (fLc (fiA (fVar 3)) (sName 6) (fTest (fBin neT (fVar 6) (fVar 4))) (fVar 6) [6]))) (bIf (fTru (fCall f1 (fCons (fVar 0) (fCons (fVar 1) (fCons (fVar 5) fNil))))) (bSet 3 (fVar 5)) bNext) = B
  have run : ∀ (vs kept : List Str) (x1 x2 : Option T), (∀ w ∈ vs, w ∈ ws) → kept.Sublist ws → ∃ y1 y2, forF (sName 4) B (vs.map T.str) [some (ndsT N), some (prsT goal), some (.lst (ws.map T.str)), some (.lst (kept.map T.str)), x1, x2, none] S =
      .nx [some (ndsT N), some (prsT goal), some (.lst (ws.map T.str)), some (.lst ((vs.foldl (fun kept w => if reachF N goal (kept.filter fun x => !decide (x = w)) then kept.filter (fun x => !decide (x = w)) else kept) kept).map T.str)), y1, y2, none] S := by
    intro vs
    induction vs with
    | nil => exact fun kept x1 x2 _ _ => ⟨x1, x2, rfl⟩
    | cons w vs ih =>
      intro kept x1 x2 hv hk
      have sow := sw w (hv w List.mem_cons_self)
      have hv' : ∀ x ∈ vs, x ∈ ws := fun x hx => hv x (List.mem_cons_of_mem _ hx)
      have hs : (kept.filter fun x => !decide (x = w)).Sublist kept := List.filter_sublist
      have r1 := rc (hs.trans hk)
      have kl : kept.length ≤ 200 := by have := hk.length_le; omega
      have lc : lcF (sName 6) (fTest (fBin neT (fVar 6) (fVar 4))) (fVar 6) [6] [some (ndsT N), some (prsT goal), some (.lst (ws.map T.str)), some (.lst (kept.map T.str)), some (.str w), x2, none] (kept.map T.str) S = .ok ((kept.filter fun x => !decide (x = w)).map T.str) S := lc_img (F := T.str) (P := fun x => !decide (x = w)) (r := T.str) fun x hx => ⟨_, rfl, slots1 _ _, by simp_arith [SF.ne_str (sw x (hk.subset hx)) sow], fun _ => by simp_arith []⟩
      have g1 : sName 4 (T.str w) = some [(4, .str w)] := rfl
      rw [List.map_cons, List.foldl_cons]
      unfold forF
      generalize hf : (kept.filter fun x => !decide (x = w)) = fw at *
      have kt : (kept.map T.str).length ≤ sizeLine := by rw [List.length_map]; exact small16 kl
      cases hr : reachF N goal fw with
      | true =>
        rw [hr] at r1
        obtain ⟨y1, y2, e⟩ := ih fw (some (.str w)) (some (.lst (fw.map T.str))) hv' (hs.trans hk)
        refine ⟨y1, y2, ?_⟩
        have b1 : B (setsT [some (ndsT N), some (prsT goal), some (.lst (ws.map T.str)), some (.lst (kept.map T.str)), x1, x2, none] [(4, T.str w)]) S = .nx [some (ndsT N), some (prsT goal), some (.lst (ws.map T.str)), some (.lst (fw.map T.str)), some (.str w), some (.lst (fw.map T.str)), none] S := by
          rw [← hB]
          generalize kept.map T.str = kt' at *
          generalize ndsT N = nt at *
          generalize prsT goal = gt at *
          generalize ws.map T.str = wt at *
          generalize fw.map T.str = ft at *
          simp_arith [kt, lc, r1]
        simp only [g1, b1, e, if_true]
      | false =>
        rw [hr] at r1
        obtain ⟨y1, y2, e⟩ := ih kept (some (.str w)) (some (.lst (fw.map T.str))) hv' hk
        refine ⟨y1, y2, ?_⟩
        have b1 : B (setsT [some (ndsT N), some (prsT goal), some (.lst (ws.map T.str)), some (.lst (kept.map T.str)), x1, x2, none] [(4, T.str w)]) S = .nx [some (ndsT N), some (prsT goal), some (.lst (ws.map T.str)), some (.lst (kept.map T.str)), some (.str w), some (.lst (fw.map T.str)), none] S := by
          rw [← hB]
          generalize kept.map T.str = kt' at *
          generalize ndsT N = nt at *
          generalize prsT goal = gt at *
          generalize ws.map T.str = wt at *
          generalize fw.map T.str = ft at *
          simp_arith [kt, lc, r1]
        simp only [g1, b1, e, Bool.false_eq_true, if_false]
  obtain ⟨y1, y2, e⟩ := run ws.reverse ws none none (fun w hw => List.mem_reverse.mp hw) (List.Sublist.refl _)
  generalize ws.reverse.map T.str = rt at *
  generalize ndsT N = nt at *
  generalize prsT goal = gt at *
  generalize ws.map T.str = wt at *
  simp_arith [rv, e]
end SW
set_option Elab.async false
set_option linter.all false
set_option maxRecDepth 100000
namespace SW
open PySem PySem.Spec L2 TL SF
open PyProof.Rows hiding St
def rbT (r : Bool × List Str) : T := .tup [.str (if r.1 then "row" else "bar"), SF.tS r.2]
theorem sort_lst (l : List Str) (h : l.length < 64) (S : Sto) : sortT S [.lst (l.map T.str)] = some (.lst ((sortS l).map T.str)) := by
  have e : sortT S [.lst (l.map T.str)] = (strsT (l.map T.str)).bind fun xs => if xs.length < 64 then some (.lst ((sortS xs).map T.str)) else none := rfl
  rw [e, SF.strsT_map]
  exact if_pos h
theorem row_or_bar_ok {N : Nds} (E : NE N) {goal : List Pr} (hg : goal.length ≤ 200) {S : Sto} (C : Cl S) : m_row_or_bar [ndsT N, prsT goal] S = .ok (rbT (rowOrBar N goal)) S := by
  obtain ⟨s0, I⟩ := takeAll_in E
  have wl := I.le E
  have ta := take_all_ok E C
  have sb := settled_by_ok E (ws := takeAll N) I.sub (by omega) (.inr rfl) S
  have as := are_settled_ok (kdc_pure S (settledByF N (takeAll N))) hg
  have wi := without_idle_ok E hg (ws := takeAll N) I.sub (by omega) S
  have st := sort_lst (takeAll N) (by omega) S
  have rv : fRev (fCall m_without_idle (fCons (fVar 0) (fCons (fVar 1) (fCons (fVar 2) fNil)))) (fUn negT (fC (.int 1))) [some (ndsT N), some (prsT goal), some (.lst ((takeAll N).map T.str))] S = .ok (.lst ((idleF N goal (takeAll N)).reverse.map T.str)) S := by
    rw [List.map_reverse]
    generalize m_without_idle = f at wi ⊢
    simp_arith [fRev, wi]
    rfl
  unfold m_row_or_bar b_row_or_bar
  generalize fRev (fCall m_without_idle (fCons (fVar 0) (fCons (fVar 1) (fCons (fVar 2) fNil)))) (fUn negT (fC (.int 1))) = fr at rv ⊢
  generalize m_take_all = f1 at ta ⊢
  generalize m_settled_by = f2 at sb ⊢
  generalize m_are_settled = f3 at as ⊢
  unfold rowOrBar rbT SF.tS
  cases ha : allP (settledByF N (takeAll N)) goal with
  | true =>
    rw [ha] at as
    simp only [if_true]
    generalize (idleF N goal (takeAll N)).reverse.map T.str = rt at *
    generalize ndsT N = nt at *
    generalize prsT goal = gt at *
    generalize (takeAll N).map T.str = wt at *
    simp_arith [ta, sb, as, rv, small16 (show 2 ≤ 200 by omega)]
  | false =>
    rw [ha] at as
    simp only [Bool.false_eq_true, if_false]
    generalize (sortS (takeAll N)).map T.str = rt at *
    generalize ndsT N = nt at *
    generalize prsT goal = gt at *
    generalize (takeAll N).map T.str = wt at *
    simp_arith [ta, sb, as, st, small16 (show 2 ≤ 200 by omega)]
theorem bars_ok {N : Nds} (E : NE N) {goal : List Pr} (hg : goal.length ≤ 200) {ws : List Str} (hw : ∀ w ∈ ws, w ∈ N.map (·.1)) (hz : ws.length ≤ 100) {S : Sto} (C : Cl S) : m_bars [ndsT N, prsT goal, SF.tS ws] S = .ok (.bl (barsF N goal ws)) S := by
  have sb := settled_by_ok E hw hz (t := SF.tS ws) (.inl rfl) S
  have as := are_settled_ok (kdc_pure S (settledByF N ws)) hg
  have ct := fun (q : Str × Need) (hq : q ∈ N) => can_take_ok (kdc_pure S (settledByF N ws)) (E.ah q hq)
  unfold m_bars b_bars barsF
  generalize m_settled_by = f2 at sb ⊢
  generalize m_are_settled = f3 at as ⊢
  generalize m_can_take = f4 at ct ⊢
  have lc : fLcK 0 (sName 4) (fTest (fBin ninT (fVar 4) (fVar 2))) (fCall f4 (fCons (fBin ixFT (fVar 0) (fVar 4)) (fCons (fVar 3) fNil))) [4] [some (ndsT N), some (prsT goal), some (SF.tS ws), some (setS (settledByF N ws)), none] S = .ok (.lst ((N.filter fun q => !decide (q.1 ∈ ws)).map fun q => T.bl (canF (settledByF N ws) q.2))) S := by
    have mk : maskT [some (ndsT N), some (prsT goal), some (SF.tS ws), some (setS (settledByF N ws)), none] = [some (ndsT N), some (prsT goal), some (SF.tS ws), some (setS (settledByF N ws)), none] := by
      have h1 := noD_nds N
      have h2 := noD_prs goal
      have h3 : noD (SF.tS ws) = true := noDs_str ws
      have h4 : noD (setS (settledByF N ws)) = true := noD_set _
      unfold maskT
      generalize ndsT N = nt at *
      generalize prsT goal = gt at *
      generalize SF.tS ws = wt at *
      generalize setS (settledByF N ws) = st at *
      simp [h1, h2, h3, h4]
    unfold fLcK
    show (if S.all noDc = true then fLc (fiK 0) (sName 4) (fTest (fBin ninT (fVar 4) (fVar 2))) (fCall f4 (fCons (fBin ixFT (fVar 0) (fVar 4)) (fCons (fVar 3) fNil))) [4] (maskT [some (ndsT N), some (prsT goal), some (SF.tS ws), some (setS (settledByF N ws)), none]) S else .stuck) = _
    rw [if_pos (show S.all noDc = true from C), mk]
    unfold fLc
    have fk : fiK 0 [some (ndsT N), some (prsT goal), some (SF.tS ws), some (setS (settledByF N ws)), none] S = .ok (N.map fun q => T.str q.1) S := by
      show Res.ok ((ndK N).map tKey) S = _
      rw [keys_nds, List.map_map]
      rfl
    rw [fk]
    have l1 : lcF (sName 4) (fTest (fBin ninT (fVar 4) (fVar 2))) (fCall f4 (fCons (fBin ixFT (fVar 0) (fVar 4)) (fCons (fVar 3) fNil))) [4] (wipeT [some (ndsT N), some (prsT goal), some (SF.tS ws), some (setS (settledByF N ws)), none] [4]) (N.map fun q => T.str q.1) S = .ok ((N.filter fun q => !decide (q.1 ∈ ws)).map fun q => T.bl (canF (settledByF N ws) q.2)) S := by
      refine lc_img (F := fun q : Str × Need => T.str q.1) (P := fun q => !decide (q.1 ∈ ws)) (r := fun q => T.bl (canF (settledByF N ws) q.2)) fun q hq => ⟨_, rfl, slots1 _ _, ?_, fun _ => ?_⟩
      · have n1 : ninT S (.str q.1) (SF.tS ws) = some (.bl !(decide (q.1 ∈ ws))) := nin_of (in_tup q.1 ws S)
        generalize SF.tS ws = wt at n1 ⊢
        simp_arith [n1]
      · have i1 := ix_need q.1 (List.mem_map_of_mem hq) S
        rw [getN_at E hq] at i1
        have c1 := ct q hq
        simp_arith [i1, c1]
    have nl : (N.map fun q => T.str q.1).length ≤ sizeLine := by rw [List.length_map]; exact small16 (by have := E.len; omega)
    rw [bind_ok, if_pos nl, l1]
    rfl
  have an := any_img (fun q : Str × Need => canF (settledByF N ws) q.2) (N.filter fun q => !decide (q.1 ∈ ws)) S
  generalize fLcK 0 (sName 4) (fTest (fBin ninT (fVar 4) (fVar 2))) (fCall f4 (fCons (fBin ixFT (fVar 0) (fVar 4)) (fCons (fVar 3) fNil))) [4] = lk at lc ⊢
  cases ha : allP (settledByF N ws) goal with
  | true =>
    rw [ha] at as
    generalize SF.tS ws = wt at *
    simp_arith [sb, as]
  | false =>
    rw [ha] at as
    generalize SF.tS ws = wt at *
    generalize ((N.filter fun q => !decide (q.1 ∈ ws)).map fun q => T.bl (canF (settledByF N ws) q.2)) = lt at *
    simp_arith [sb, as, lc, an]
end SW
set_option Elab.async false
set_option linter.all false
set_option maxRecDepth 100000
namespace SW
open PySem PySem.Spec L2 TL SF
open PyProof.Rows hiding St
abbrev Rows := List (Int × List Str)
def getR (rs : Rows) (c : Int) : Option (List Str) := (rs.find? fun p => decide (p.1 = c)).map (·.2)
def putR (rs : Rows) (c : Int) (row : List Str) : Rows := if rs.any (fun p => decide (p.1 = c)) then rs.map (fun p => if p.1 = c then (p.1, row) else p) else rs ++ [(c, row)]
def rowsT (rs : Rows) : T := .dct (rs.map fun p => .inl p.1) (rs.map fun p => SF.tS p.2)
def leT : Option (List Str) → T
  | none => .non
  | some l => SF.tS l
def growB (row : List Str) (s : List Pr) (q : Str × Need) : Bool := !decide (q.1 ∈ row) && canF s q.2
def growF (c : Int) (row : List Str) (s : List Pr) : Rows → Nat → Nds → Rows
  | rs, _, [] => rs
  | rs, i, q :: M => growF c row s (if growB row s q then putR rs (Builtin.bitOr c (1 * 2 ^ i)) (q.1 :: row) else rs) (i + 1) M
def lessF (least : Option (List Str)) (row : List Str) : Bool := match least with
  | none => true
  | some l => decide (sizeS row < sizeS l)
def betterF (goal s : List Pr) (least : Option (List Str)) (row : List Str) : Option (List Str) := if allP s goal && lessF least row then some row else least
def leastStep (N : Nds) (goal : List Pr) (st : Option (List Str) × Rows) (c : Int) : Option (List Str) × Rows := match getR st.2 c with
  | none => st
  | some row => (betterF goal (settledByF N row) st.1 row, growF c row (settledByF N row) st.2 0 N)
def leastF (N : Nds) (goal : List Pr) : Option (List Str) := ((List.range (2 ^ N.length)).foldl (fun st (c : Nat) => leastStep N goal st c) (none, [(0, [])])).1
section
variable {S : Sto} {n : Nat} {rs : Rows}
theorem getK_rows (c : Int) : ∀ rs : Rows, getK (rs.map fun p => Sum.inl p.1) (rs.map fun p => SF.tS p.2) (.inl c) = (getR rs c).map SF.tS
  | [] => rfl
  | p :: rs => by
    rw [List.map_cons, List.map_cons, getR, List.find?_cons]
    unfold getK
    by_cases e : p.1 = c
    · rw [if_pos (by rw [e]), decide_eq_true e]
      rfl
    · rw [if_neg (fun z => e (Sum.inl.inj z)), decide_eq_false e]
      exact getK_rows c rs
theorem in_rows (h : S[n]? = some (rowsT rs)) (c : Int) : inT S (.int c) (.ref n) = some (.bl (getR rs c).isSome) := by
  unfold inT inB
  have d : dctT S (.ref n) = some (rs.map fun p => .inl p.1, rs.map fun p => SF.tS p.2) := by
    unfold dctT
    simp only [h, rowsT]
  rw [d]
  show some (T.bl (getK (rs.map fun p => Sum.inl p.1) (rs.map fun p => SF.tS p.2) (.inl c)).isSome) = _
  rw [getK_rows, Option.isSome_map]
theorem ix_rows (h : S[n]? = some (rowsT rs)) {c : Int} {row : List Str} (hr : getR rs c = some row) : ixT S (.ref n) (.int c) = some (SF.tS row) := by
  unfold ixT
  have d : dctT S (.ref n) = some (rs.map fun p => .inl p.1, rs.map fun p => SF.tS p.2) := by
    unfold dctT
    simp only [h, rowsT]
  rw [d]
  show getK (rs.map fun p => Sum.inl p.1) (rs.map fun p => SF.tS p.2) (.inl c) = _
  rw [getK_rows, hr]
  rfl
theorem put_rows (c : Int) (row : List Str) (rs : Rows) : putK' (rs.map fun p => Sum.inl p.1) (rs.map fun p => SF.tS p.2) (.inl c) (SF.tS row) = ((putR rs c row).map fun p => .inl p.1, (putR rs c row).map fun p => SF.tS p.2) := by
  have ea : ((rs.map fun p => (Sum.inl p.1 : Key)).any fun k' => decide (k' = .inl c)) = rs.any fun p => decide (p.1 = c) := by
    rw [List.any_map]
    congr 1
    funext p
    show decide ((Sum.inl p.1 : Key) = .inl c) = decide (p.1 = c)
    by_cases e : p.1 = c
    · rw [decide_eq_true e, decide_eq_true (by rw [e])]
    · rw [decide_eq_false e, decide_eq_false (fun z => e (Sum.inl.inj z))]
  unfold putK' putR
  rw [ea]
  split
  · rename_i hany
    clear hany
    have h1 : ((rs.map fun p => if p.1 = c then (p.1, row) else p).map fun p => (Sum.inl p.1 : Key)) = rs.map fun p => Sum.inl p.1 := by
      rw [List.map_map]
      refine List.map_congr_left fun p _ => ?_
      show (Sum.inl (if p.1 = c then (p.1, row) else p).1 : Key) = _
      split <;> rfl
    have h2 : List.zipWith (fun k' u => if k' = (Sum.inl c : Key) then SF.tS row else u) (rs.map fun p => Sum.inl p.1) (rs.map fun p => SF.tS p.2) = (rs.map fun p => if p.1 = c then (p.1, row) else p).map fun p => SF.tS p.2 := by
      clear h1 ea
      induction rs with
      | nil => rfl
      | cons p rs ih =>
        rw [List.map_cons, List.map_cons, List.map_cons, List.map_cons, List.zipWith_cons_cons, ih]
        congr 1
        by_cases e : p.1 = c
        · rw [if_pos (by rw [e]), if_pos e]
        · rw [if_neg (fun z => e (Sum.inl.inj z)), if_neg e]
    rw [h1, h2]
  · rw [List.map_append, List.map_append]
    rfl
theorem set_rows (h : S[n]? = some (rowsT rs)) (hz : rs.length < sizeLine) (c : Int) (row : List Str) : setT S (.ref n) (.int c) (SF.tS row) = some (S.set n (rowsT (putR rs c row))) := by
  unfold setT
  simp only [h, rowsT]
  show (if (rs.map fun p => (Sum.inl p.1 : Key)).length < sizeLine then some (S.set n (.dct (putK' (rs.map fun p => Sum.inl p.1) (rs.map fun p => SF.tS p.2) (.inl c) (SF.tS row)).1 (putK' (rs.map fun p => Sum.inl p.1) (rs.map fun p => SF.tS p.2) (.inl c) (SF.tS row)).2)) else none) = _
  rw [List.length_map, if_pos hz, put_rows]
end
theorem putR_len (rs : Rows) (c : Int) (row : List Str) : (putR rs c row).length ≤ rs.length + 1 := by
  unfold putR
  split
  · rw [List.length_map]; omega
  · simp
structure RI (N : Nds) (rs : Rows) : Prop where
  ok : ∀ p ∈ rs, p.2.Nodup ∧ ∀ w ∈ p.2, w ∈ N.map (·.1)
theorem RI.get {N : Nds} {rs : Rows} (I : RI N rs) {c : Int} {row : List Str} (h : getR rs c = some row) : row.Nodup ∧ ∀ w ∈ row, w ∈ N.map (·.1) := by
  unfold getR at h
  cases e : rs.find? fun p => decide (p.1 = c) with
  | none => rw [e] at h; cases h
  | some p =>
    rw [e] at h
    cases h
    exact I.ok p (List.mem_of_find?_eq_some e)
theorem RI.put {N : Nds} {rs : Rows} (I : RI N rs) (c : Int) {row : List Str} (h : row.Nodup ∧ ∀ w ∈ row, w ∈ N.map (·.1)) : RI N (putR rs c row) := by
  unfold putR
  refine ⟨fun p hp => ?_⟩
  split at hp
  · obtain ⟨x, hx, rfl⟩ := List.mem_map.mp hp
    split
    · exact h
    · exact I.ok x hx
  · rcases List.mem_append.mp hp with hp | hp
    · exact I.ok p hp
    · rw [List.mem_singleton.mp hp]; exact h
theorem row_len {N : Nds} (E : NE N) {row : List Str} (h : row.Nodup ∧ ∀ w ∈ row, w ∈ N.map (·.1)) : row.length ≤ 16 := by
  have := nodup_len h.1 h.2
  rw [List.length_map] at this
  exact Nat.le_trans this E.len
theorem grow_row {N : Nds} {row : List Str} (h : row.Nodup ∧ ∀ w ∈ row, w ∈ N.map (·.1)) {s : List Pr} {q : Str × Need} (hq : q ∈ N) (hb : growB row s q = true) : (q.1 :: row).Nodup ∧ ∀ w ∈ q.1 :: row, w ∈ N.map (·.1) := by
  unfold growB at hb
  simp only [Bool.and_eq_true, Bool.not_eq_true', decide_eq_false_iff_not] at hb
  refine ⟨List.nodup_cons.mpr ⟨hb.1, h.1⟩, fun w hw => ?_⟩
  rcases List.mem_cons.mp hw with rfl | hw
  · exact List.mem_map_of_mem hq
  · exact h.2 w hw
theorem growF_ri {N : Nds} {c : Int} {row : List Str} (h : row.Nodup ∧ ∀ w ∈ row, w ∈ N.map (·.1)) {s : List Pr} : ∀ (M : Nds), (∀ q ∈ M, q ∈ N) → ∀ (rs : Rows) (i : Nat), RI N rs → RI N (growF c row s rs i M) ∧ (growF c row s rs i M).length ≤ rs.length + M.length := by
  intro M
  induction M with
  | nil => exact fun _ rs i I => ⟨I, Nat.le_refl _⟩
  | cons q M ih =>
    intro hM rs i I
    unfold growF
    cases hb : growB row s q with
    | true =>
      rw [if_pos rfl]
      obtain ⟨a, b⟩ := ih (fun x hx => hM x (List.mem_cons_of_mem _ hx)) (putR rs (Builtin.bitOr c (1 * 2 ^ i)) (q.1 :: row)) (i + 1) (I.put _ (grow_row h (hM q List.mem_cons_self) hb))
      exact ⟨a, by have := putR_len rs (Builtin.bitOr c (1 * 2 ^ i)) (q.1 :: row); rw [List.length_cons]; omega⟩
    | false =>
      rw [if_neg (by simp)]
      obtain ⟨a, b⟩ := ih (fun x hx => hM x (List.mem_cons_of_mem _ hx)) rs (i + 1) I
      exact ⟨a, by rw [List.length_cons]; omega⟩
def growS (f4 : FF) : BS := bIf (fAndT (fTest (fBin ninT (fVar 8) (fVar 5))) (fTru (fCall f4 (fCons (fBin ixFT (fVar 0) (fVar 8)) (fCons (fVar 6) fNil))))) (bStore (fVar 3) (fBin borT (fVar 4) (fBin shlT (fC (.int 1)) (fVar 7))) (fBin addT (fTup (fCons (fVar 8) fNil)) (fVar 5))) bNext
theorem shl_ok {i : Nat} (h : i ≤ 60) (S : Sto) : shlT S (.int 1) (.int (i : Nat)) = some (.int (1 * 2 ^ i)) := by
  unfold shlT
  simp only
  rw [if_pos ⟨by omega, by omega, by omega, by omega⟩, Int.toNat_natCast]
theorem grow_step {N : Nds} (E : NE N) {S : Sto} {rs : Rows} (hz : rs.length ≤ 100000) {c : Int} {row : List Str} (h : row.Nodup ∧ ∀ w ∈ row, w ∈ N.map (·.1)) {s : List Pr} {q : Str × Need} (hq : q ∈ N) {i : Nat} (hi : i ≤ 60) (gt lt : Option T) :
    growS m_can_take [some (ndsT N), gt, lt, some (.ref S.length), some (.int c), some (SF.tS row), some (setS s), some (.int (i : Nat)), some (.str q.1)] (S ++ [rowsT rs]) = .nx [some (ndsT N), gt, lt, some (.ref S.length), some (.int c), some (SF.tS row), some (setS s), some (.int (i : Nat)), some (.str q.1)] (S ++ [rowsT (if growB row s q then putR rs (Builtin.bitOr c (1 * 2 ^ i)) (q.1 :: row) else rs)]) := by
  have rl := row_len E h
  have n1 : ∀ S, ninT S (.str q.1) (SF.tS row) = some (.bl !(decide (q.1 ∈ row))) := fun S => nin_of (in_tup q.1 row S)
  have i1 := ix_need q.1 (List.mem_map_of_mem hq) (S ++ [rowsT rs])
  rw [getN_at E hq] at i1
  have c1 := can_take_ok (kdc_pure (S ++ [rowsT rs]) s) (E.ah q hq)
  have s1 := shl_ok hi (S ++ [rowsT rs])
  have b1 : borT (S ++ [rowsT rs]) (.int c) (.int (1 * 2 ^ i)) = some (.int (Builtin.bitOr c (1 * 2 ^ i))) := rfl
  have a1 : addT (S ++ [rowsT rs]) (.tup [.str q.1]) (SF.tS row) = some (SF.tS (q.1 :: row)) := by
    have := add_tup (a := [.str q.1]) (b := row.map T.str) (by rw [List.length_map]; exact small16 (by simp; omega)) (S ++ [rowsT rs])
    exact this
  have st := set_rows (S := S ++ [rowsT rs]) (n := S.length) (rs := rs) (by simp) (Nat.lt_of_le_of_lt hz (by decide)) (Builtin.bitOr c (1 * 2 ^ i)) (q.1 :: row)
  rw [show (S ++ [rowsT rs]).set S.length (rowsT (putR rs (Builtin.bitOr c (1 * 2 ^ i)) (q.1 :: row))) = S ++ [rowsT (putR rs (Builtin.bitOr c (1 * 2 ^ i)) (q.1 :: row))] by simp] at st
  unfold growS
  generalize m_can_take = f4 at c1 ⊢
  unfold growB
  cases hm : decide (q.1 ∈ row) with
  | true =>
    rw [Bool.not_true, Bool.false_and, if_neg (by simp)]
    have n2 := n1 (S ++ [rowsT rs])
    rw [hm] at n2
    generalize rowsT rs = rt at *
    generalize SF.tS row = wt at *
    simp_arith [n2]
  | false =>
    rw [Bool.not_false, Bool.true_and]
    have n2 := n1 (S ++ [rowsT rs])
    rw [hm] at n2
    cases hc : canF s q.2 with
    | false =>
      rw [hc] at c1
      rw [if_neg (by simp)]
      generalize rowsT rs = rt at *
      generalize SF.tS row = wt at *
      simp_arith [n2, i1, c1]
    | true =>
      rw [hc] at c1
      rw [if_pos rfl]
      generalize rowsT (putR rs (Builtin.bitOr c (1 * 2 ^ i)) (q.1 :: row)) = rp at *
      generalize rowsT rs = rt at *
      generalize SF.tS (q.1 :: row) = rq at *
      generalize SF.tS row = wt at *
      simp_arith [n2, i1, c1, bStore, s1, b1, a1, st, small16 (show 1 ≤ 200 by omega)]
end SW
set_option Elab.async false
set_option linter.all false
set_option maxRecDepth 100000
namespace SW
open PySem PySem.Spec L2 TL SF
open PyProof.Rows hiding St
theorem mask_id {τ : Fr} (h : ∀ o ∈ τ, ∀ t, o = some t → noD t = true) : maskT τ = τ := by
  unfold maskT
  conv => rhs; rw [← List.map_id τ]
  refine List.map_congr_left fun o ho => ?_
  cases o with
  | none => rfl
  | some t =>
    show (if noD t = true then some t else none) = some t
    rw [if_pos (h _ ho t rfl)]
theorem numb_nds (N : Nds) : numbT ((ndK N).map tKey) = (N.zipIdx 0).map fun p => T.tup [.int (p.2 : Nat), .str p.1.1] := by
  rw [keys_nds]
  unfold numbT
  refine List.ext_getElem? fun i => ?_
  have r1 : ((N.zipIdx 0).map fun p => T.tup [.int (p.2 : Nat), .str p.1.1])[i]? = (N[i]?).map fun q => T.tup [.int (i : Nat), .str q.1] := by
    rw [List.getElem?_map, List.getElem?_zipIdx, Option.map_map, Nat.zero_add]
    rfl
  rw [r1, List.getElem?_zipWith]
  cases e : N[i]? with
  | none =>
    have e2 : ((N.map (·.1)).map T.str)[i]? = none := by rw [List.getElem?_map, List.getElem?_map, e]; rfl
    rw [e2]
    split <;> simp_all
  | some q =>
    have hi : i < ((N.map (·.1)).map T.str).length := by rw [List.length_map, List.length_map]; exact (List.getElem?_eq_some_iff.mp e).1
    have e2 : ((N.map (·.1)).map T.str)[i]? = some (.str q.1) := by rw [List.getElem?_map, List.getElem?_map, e]; rfl
    rw [List.getElem?_range hi, e2]
    rfl
abbrev FL (N : Nds) (goal : List Pr) (S : Sto) (le : Option (List Str)) (c : Option Int) (row : Option (List Str)) (s : Option (List Pr)) (a : Option Int) (w : Option Str) : Fr := [some (ndsT N), some (prsT goal), some (leT le), some (.ref S.length), c.map T.int, row.map SF.tS, s.map setS, a.map T.int, w.map T.str]
theorem noD_tS (l : List Str) : noD (SF.tS l) = true := noDs_str l
theorem noD_le (l : Option (List Str)) : noD (leT l) = true := by
  cases l with
  | none => rfl
  | some l => exact noD_tS l
theorem noD_setP (l : List Pr) : noD (setS l) = true := noD_set l
theorem fl_mask (N : Nds) (goal : List Pr) (S : Sto) (le : Option (List Str)) (c : Option Int) (row : Option (List Str)) (s : Option (List Pr)) (a : Option Int) (w : Option Str) : maskT (FL N goal S le c row s a w) = FL N goal S le c row s a w := by
  refine mask_id fun o ho t e => ?_
  subst e
  have h1 := noD_nds N
  have h2 := noD_prs goal
  have h3 := noD_le le
  unfold FL at ho
  simp only [List.mem_cons, List.not_mem_nil, or_false] at ho
  rcases ho with h | h | h | h | h | h | h | h | h
  · cases h; exact h1
  · cases h; exact h2
  · cases h; exact h3
  · cases h; rfl
  · cases c <;> cases h; rfl
  · cases row <;> cases h; exact noD_tS _
  · cases s <;> cases h; exact noD_setP _
  · cases a <;> cases h; rfl
  · cases w <;> cases h; rfl
theorem grow_run {N : Nds} (E : NE N) {goal : List Pr} {S : Sto} {le : Option (List Str)} {c : Int} {row : List Str} (h : row.Nodup ∧ ∀ w ∈ row, w ∈ N.map (·.1)) {s : List Pr} : ∀ (M : Nds), (∀ q ∈ M, q ∈ N) → ∀ (rs : Rows) (i : Nat) (a : Option Int) (w : Option Str), rs.length + M.length ≤ 100000 → i + M.length ≤ 60 → ∃ a2 w2,
    forF (sTup 2 (sCons (sName 7) (sCons (sName 8) sNil))) (growS m_can_take) ((M.zipIdx i).map fun p => T.tup [.int (p.2 : Nat), .str p.1.1]) (FL N goal S le (some c) (some row) (some s) a w) (S ++ [rowsT rs]) = .nx (FL N goal S le (some c) (some row) (some s) a2 w2) (S ++ [rowsT (growF c row s rs i M)]) := by
  intro M
  induction M with
  | nil => exact fun _ rs i a w _ _ => ⟨a, w, rfl⟩
  | cons q M ih =>
    intro hM rs i a w hz hi
    rw [List.length_cons] at hz hi
    have b := grow_step E (S := S) (rs := rs) (by omega) (c := c) h (s := s) (hM q List.mem_cons_self) (i := i) (by omega) (some (prsT goal)) (some (leT le))
    obtain ⟨a2, w2, e⟩ := ih (fun x hx => hM x (List.mem_cons_of_mem _ hx)) (if growB row s q then putR rs (Builtin.bitOr c (1 * 2 ^ i)) (q.1 :: row) else rs) (i + 1) (some (i : Nat)) (some q.1) (by
      have := putR_len rs (Builtin.bitOr c (1 * 2 ^ i)) (q.1 :: row)
      split <;> omega) (by omega)
    refine ⟨a2, w2, ?_⟩
    rw [List.zipIdx_cons, List.map_cons]
    unfold forF
    have g1 : sTup 2 (sCons (sName 7) (sCons (sName 8) sNil)) (T.tup [.int (((q, i).2 : Nat) : Int), .str (q, i).1.1]) = some [(7, .int (i : Nat)), (8, .str q.1)] := rfl
    have t1 : setsT (FL N goal S le (some c) (some row) (some s) a w) [(7, T.int (i : Nat)), (8, .str q.1)] = FL N goal S le (some c) (some row) (some s) (some (i : Nat)) (some q.1) := rfl
    simp only [g1, t1]
    rw [show FL N goal S le (some c) (some row) (some s) (some ((i : Nat) : Int)) (some q.1) = [some (ndsT N), some (prsT goal), some (leT le), some (.ref S.length), some (.int c), some (SF.tS row), some (setS s), some (.int (i : Nat)), some (.str q.1)] from rfl, b]
    exact e
structure LI (N : Nds) (st : Option (List Str) × Rows) : Prop where
  ri : RI N st.2
  le : ∀ l, st.1 = some l → l.Nodup ∧ ∀ w ∈ l, w ∈ N.map (·.1)
theorem LI.step {N : Nds} {goal : List Pr} {st : Option (List Str) × Rows} (I : LI N st) (c : Int) : LI N (leastStep N goal st c) ∧ (leastStep N goal st c).2.length ≤ st.2.length + N.length := by
  unfold leastStep
  cases e : getR st.2 c with
  | none => exact ⟨I, by simp⟩
  | some row =>
    have h := I.ri.get e
    obtain ⟨a, b⟩ := growF_ri (c := c) h (s := settledByF N row) N (fun _ h => h) st.2 0 I.ri
    refine ⟨⟨a, fun l hl => ?_⟩, b⟩
    simp only [betterF] at hl
    split at hl
    · cases hl; exact h
    · exact I.le l hl
def leastB (f1 f2 f3 f4 : FF) : BS := bIf (fTest (fBin inT (fVar 4) (fVar 3))) (bSeq (bSet 5 (fBin ixT (fVar 3) (fVar 4))) (bSeq (bSet 6 (fCall f1 (fCons (fVar 0) (fCons (fVar 5) fNil)))) (bSeq (bIf (fAndT (fTru (fCall f2 (fCons (fVar 6) (fCons (fVar 1) fNil)))) (fOrT (fTest (fBin isNT (fVar 2) (fC .non))) (fTest (fBin ltT (fCall f3 (fCons (fVar 5) fNil)) (fCall f3 (fCons (fVar 2) fNil)))))) (bSet 2 (fVar 5)) bNext) (bForEK 0 (sTup 2 (sCons (sName 7) (sCons (sName 8) sNil))) (growS f4))))) bNext
theorem cl_rows {S : Sto} (C : Cl S) (rs : Rows) : (S ++ [rowsT rs]).all noDc = true := by
  refine Cl.app C (Cl.cons ?_ Cl.nil)
  show noDs (rs.map fun p => SF.tS p.2) = true
  induction rs with
  | nil => rfl
  | cons p rs ih => rw [List.map_cons]; simp only [noDs, ih, noD_tS, Bool.and_true]
abbrev betB (f2 f3 : FF) : BS := bIf (fAndT (fTru (fCall f2 (fCons (fVar 6) (fCons (fVar 1) fNil)))) (fOrT (fTest (fBin isNT (fVar 2) (fC .non))) (fTest (fBin ltT (fCall f3 (fCons (fVar 5) fNil)) (fCall f3 (fCons (fVar 2) fNil)))))) (bSet 2 (fVar 5)) bNext
theorem better_at {f2 f3 : FF} {nt gt lt rowt st rf : T} {x4 x7 x8 : Option T} {U : Sto} {p lf : Bool} (as : f2 [st, gt] U = .ok (.bl p) U)
    (hl : (isNT U lt .non = some (.bl true) ∧ lf = true) ∨ (isNT U lt .non = some (.bl false) ∧ ∃ i j : Int, f3 [rowt] U = .ok (.int i) U ∧ f3 [lt] U = .ok (.int j) U ∧ lf = decide (i < j))) :
    betB f2 f3 [some nt, some gt, some lt, some rf, x4, some rowt, some st, x7, x8] U = .nx [some nt, some gt, some (if p && lf then rowt else lt), some rf, x4, some rowt, some st, x7, x8] U := by
  cases p with
  | false =>
    rw [Bool.false_and, if_neg (by simp)]
    simp_arith [as]
  | true =>
    rw [Bool.true_and]
    rcases hl with ⟨h, rfl⟩ | ⟨h, i, j, h1, h2, rfl⟩
    · rw [if_pos rfl]
      simp_arith [as, h]
    · have lt1 : ltT U (.int i) (.int j) = some (.bl (decide (i < j))) := rfl
      cases hd : decide (i < j) with
      | true =>
        rw [hd] at lt1
        rw [if_pos rfl]
        simp_arith [as, h, h1, h2, lt1, hd]
      | false =>
        rw [hd] at lt1
        rw [if_neg (by simp)]
        simp_arith [as, h, h1, h2, lt1, hd]
theorem leastB_no {f1 f2 f3 f4 : FF} {nt gt lt rf ct : T} {x5 x6 x7 x8 : Option T} {U : Sto} (ir : inT U ct rf = some (.bl false)) : leastB f1 f2 f3 f4 [some nt, some gt, some lt, some rf, some ct, x5, x6, x7, x8] U = .nx [some nt, some gt, some lt, some rf, some ct, x5, x6, x7, x8] U := by
  unfold leastB
  generalize bForEK 0 (sTup 2 (sCons (sName 7) (sCons (sName 8) sNil))) (growS f4) = fk
  simp_arith [ir]
theorem leastB_at {f1 f2 f3 f4 : FF} {nt gt lt lt2 rowt st rf ct : T} {x5 x6 x7 x8 : Option T} {U U2 : Sto} {τ2 : Fr} (ir : inT U ct rf = some (.bl true)) (ix : ixT U rf ct = some rowt) (sb : f1 [nt, rowt] U = .ok st U)
    (bt : betB f2 f3 [some nt, some gt, some lt, some rf, some ct, some rowt, some st, x7, x8] U = .nx [some nt, some gt, some lt2, some rf, some ct, some rowt, some st, x7, x8] U)
    (fk : bForEK 0 (sTup 2 (sCons (sName 7) (sCons (sName 8) sNil))) (growS f4) [some nt, some gt, some lt2, some rf, some ct, some rowt, some st, x7, x8] U = .nx τ2 U2) :
    leastB f1 f2 f3 f4 [some nt, some gt, some lt, some rf, some ct, x5, x6, x7, x8] U = .nx τ2 U2 := by
  unfold leastB
  generalize bForEK 0 (sTup 2 (sCons (sName 7) (sCons (sName 8) sNil))) (growS f4) = fk' at fk ⊢
  unfold betB at bt
  generalize bIf (fAndT (fTru (fCall f2 (fCons (fVar 6) (fCons (fVar 1) fNil)))) (fOrT (fTest (fBin isNT (fVar 2) (fC .non))) (fTest (fBin ltT (fCall f3 (fCons (fVar 5) fNil)) (fCall f3 (fCons (fVar 2) fNil)))))) (bSet 2 (fVar 5)) bNext = bb at bt ⊢
  simp_arith [ir, ix, sb, bt, fk]
theorem least_step {N : Nds} (E : NE N) {goal : List Pr} (hg : goal.length ≤ 200) {S : Sto} (C : Cl S) {st : Option (List Str) × Rows} (I : LI N st) (hz : st.2.length ≤ 90000) (c : Int) (row : Option (List Str)) (s : Option (List Pr)) (a : Option Int) (w : Option Str) : ∃ row2 s2 a2 w2,
    leastB m_settled_by m_are_settled m_size_among m_can_take (FL N goal S st.1 (some c) row s a w) (S ++ [rowsT st.2]) = .nx (FL N goal S (leastStep N goal st c).1 (some c) row2 s2 a2 w2) (S ++ [rowsT (leastStep N goal st c).2]) := by
  have ir := in_rows (S := S ++ [rowsT st.2]) (n := S.length) (rs := st.2) (by simp) c
  unfold leastStep
  cases e : getR st.2 c with
  | none =>
    rw [e] at ir
    exact ⟨row, s, a, w, leastB_no ir⟩
  | some r =>
    rw [e] at ir
    have h := I.ri.get e
    have rl := row_len E h
    have ix := ix_rows (S := S ++ [rowsT st.2]) (n := S.length) (rs := st.2) (by simp) e
    have sb := settled_by_ok E h.2 (by omega) (t := SF.tS r) (.inl rfl) (S ++ [rowsT st.2])
    have as := are_settled_ok (kdc_pure (S ++ [rowsT st.2]) (settledByF N r)) hg
    have wz : ∀ {l : List Str}, (∀ w ∈ l, w ∈ N.map (·.1)) → ∀ x ∈ l, x.length ≤ 200 := fun hl x hx => by
      obtain ⟨q, hq, rfl⟩ := List.mem_map.mp (hl x hx)
      exact E.wl q hq
    have z1 := size_among_ok (xs := r) (by omega) (wz h.2) (S ++ [rowsT st.2])
    obtain ⟨a2, w2, g⟩ := grow_run E (goal := goal) (S := S) (le := betterF goal (settledByF N r) st.1 r) (c := c) h (s := settledByF N r) N (fun _ h => h) st.2 0 a w (by have := E.len; omega) (by have := E.len; omega)
    have fk : bForEK 0 (sTup 2 (sCons (sName 7) (sCons (sName 8) sNil))) (growS m_can_take) (FL N goal S (betterF goal (settledByF N r) st.1 r) (some c) (some r) (some (settledByF N r)) a w) (S ++ [rowsT st.2]) = .nx (FL N goal S (betterF goal (settledByF N r) st.1 r) (some c) (some r) (some (settledByF N r)) a2 w2) (S ++ [rowsT (growF c r (settledByF N r) st.2 0 N)]) := by
      unfold bForEK
      show (if (S ++ [rowsT st.2]).all noDc = true then forF _ _ (numbT ((ndK N).map tKey)) (maskT (FL N goal S (betterF goal (settledByF N r) st.1 r) (some c) (some r) (some (settledByF N r)) a w)) _ else .stuck) = _
      rw [if_pos (cl_rows C st.2), fl_mask, numb_nds]
      exact g
    have bt := better_at (f2 := m_are_settled) (f3 := m_size_among) (nt := ndsT N) (gt := prsT goal) (lt := leT st.1) (rowt := SF.tS r) (rf := .ref S.length) (x4 := some (.int c)) (x7 := a.map T.int) (x8 := w.map T.str) (lf := lessF st.1 r) as (by
      cases el : st.1 with
      | none => exact .inl ⟨rfl, rfl⟩
      | some l =>
        have hl := I.le l el
        have ll := row_len E hl
        exact .inr ⟨rfl, sizeS r, sizeS l, z1, size_among_ok (xs := l) (by omega) (wz hl.2) (S ++ [rowsT st.2]), rfl⟩)
    have e2 : (if (allP (settledByF N r) goal && lessF st.1 r) = true then SF.tS r else leT st.1) = leT (betterF goal (settledByF N r) st.1 r) := by
      unfold betterF
      split <;> rfl
    rw [e2] at bt
    exact ⟨some r, some (settledByF N r), a2, w2, leastB_at ir ix sb bt fk⟩
theorem least_run {N : Nds} (E : NE N) {goal : List Pr} (hg : goal.length ≤ 200) {S : Sto} (C : Cl S) : ∀ (cs : List Nat) (st : Option (List Str) × Rows) (c : Option Int) (row : Option (List Str)) (s : Option (List Pr)) (a : Option Int) (w : Option Str), LI N st → st.2.length + 16 * cs.length ≤ 90000 → ∃ c2 row2 s2 a2 w2,
    forF (sName 4) (leastB m_settled_by m_are_settled m_size_among m_can_take) (cs.map fun i : Nat => T.int i) (FL N goal S st.1 c row s a w) (S ++ [rowsT st.2]) = .nx (FL N goal S (cs.foldl (fun st (c : Nat) => leastStep N goal st c) st).1 c2 row2 s2 a2 w2) (S ++ [rowsT (cs.foldl (fun st (c : Nat) => leastStep N goal st c) st).2]) := by
  intro cs
  induction cs with
  | nil => exact fun st c row s a w _ _ => ⟨c, row, s, a, w, rfl⟩
  | cons i cs ih =>
    intro st c row s a w I hz
    rw [List.length_cons] at hz
    obtain ⟨I2, l2⟩ := I.step (goal := goal) (i : Int)
    have := E.len
    obtain ⟨row2, s2, a2, w2, b⟩ := least_step E hg C I (by omega) (i : Int) row s a w
    obtain ⟨c3, row3, s3, a3, w3, e⟩ := ih (leastStep N goal st i) (some i) row2 s2 a2 w2 I2 (by omega)
    refine ⟨c3, row3, s3, a3, w3, ?_⟩
    rw [List.map_cons, List.foldl_cons]
    unfold forF
    have g1 : sName 4 (T.int ((i : Nat) : Int)) = some [(4, .int (i : Nat))] := rfl
    have t1 : setsT (FL N goal S st.1 c row s a w) [(4, T.int ((i : Nat) : Int))] = FL N goal S st.1 (some (i : Int)) row s a w := rfl
    simp only [g1, t1, b]
    exact e
theorem nr_le (l : Option (List Str)) : nr (leT l) = true := by
  cases l with
  | none => rfl
  | some l => exact nr_tS l
theorem least_row_ok {N : Nds} (E : NE N) (h9 : N.length ≤ 9) {goal : List Pr} (hg : goal.length ≤ 200) {S : Sto} (C : Cl S) : m_least_row [ndsT N, prsT goal] S = .ok (leT (leastF N goal)) S := by
  have p9 : 2 ^ N.length ≤ 512 := Nat.le_trans (Nat.pow_le_pow_right (by omega) h9) (by decide)
  obtain ⟨c2, row2, s2, a2, w2, e⟩ := least_run E hg C (List.range (2 ^ N.length)) (none, [(0, [])]) none none none none none ⟨⟨fun p hp => by
    rw [List.mem_singleton.mp hp]
    exact ⟨List.nodup_nil, fun _ h => (List.not_mem_nil h).elim⟩⟩, fun l h => nomatch h⟩ (by rw [List.length_range]; simp; omega)
  unfold m_least_row
  suffices h : ∃ J, body ["needs", "goal", "least", "rows", "choice", "row", "settled", "at", "word"] 2 b_least_row [ndsT N, prsT goal] S = .ok (leT (leastF N goal)) (S ++ J) from gc_pure h (nr_le _)
  refine ⟨[rowsT ((List.range (2 ^ N.length)).foldl (fun st (c : Nat) => leastStep N goal st c) (none, [(0, [])])).2], ?_⟩
  have fi : fiR1 (fCons (fBin shlT (fC (.int 1)) (fBlt lenFT (fCons (fVar 0) fNil))) fNil) [some (ndsT N), some (prsT goal), some .non, some (.ref S.length), none, none, none, none, none] (S ++ [rowsT [(0, [])]]) = .ok ((List.range (2 ^ N.length)).map fun i : Nat => T.int i) (S ++ [rowsT [(0, [])]]) := by
    rw [← rng_nat]
    refine fiR1_ok (by omega) ?_
    have l1 : lenFT (S ++ [rowsT [(0, [])]]) [ndsT N] = some (.int N.length) := by
      show some (T.int ((ndK N).length : Nat)) = _
      unfold ndK
      rw [List.length_map]
    have s1 := shl_ok (i := N.length) (by omega) (S ++ [rowsT [(0, [])]])
    have pe : ((2 ^ N.length : Nat) : Int) = 1 * 2 ^ N.length := by rw [Int.one_mul]; exact Int.natCast_pow 2 N.length
    rw [pe]
    generalize ndsT N = nt at *
    generalize prsT goal = gt at *
    simp_arith [l1, s1]
  have e0 : b_least_row = bSeq (bSet 2 (fC .non)) (bSeq (bSet 3 (fCell (fDisp [(fC (.int 0), fTup fNil)]))) (bSeq (bFor (fiR1 (fCons (fBin shlT (fC (.int 1)) (fBlt lenFT (fCons (fVar 0) fNil))) fNil)) (sName 4) (leastB m_settled_by m_are_settled m_size_among m_can_take)) (bRet (fVar 2)))) := rfl
  rw [e0]
  generalize leastB m_settled_by m_are_settled m_size_among m_can_take = lb at e ⊢
  have d1 : ∀ τ, fCell (fDisp [(fC (.int 0), fTup fNil)]) τ S = .ok (.ref S.length) (S ++ [rowsT [(0, [])]]) := fun τ => by
    unfold fCell fDisp prF prF
    simp_arith [small16 (show 0 ≤ 200 by omega), keyed]
    rfl
  generalize fCell (fDisp [(fC (.int 0), fTup fNil)]) = fd at d1 ⊢
  generalize fiR1 (fCons (fBin shlT (fC (.int 1)) (fBlt lenFT (fCons (fVar 0) fNil))) fNil) = fr at fi ⊢
  have e' : forF (sName 4) lb ((List.range (2 ^ N.length)).map fun i : Nat => T.int i) [some (ndsT N), some (prsT goal), some .non, some (.ref S.length), none, none, none, none, none] (S ++ [rowsT [(0, [])]]) = _ := e
  have l0 : leT (leastF N goal) = leT ((List.range (2 ^ N.length)).foldl (fun st (c : Nat) => leastStep N goal st c) (none, [(0, [])])).1 := rfl
  rw [l0]
  generalize (List.range (2 ^ N.length)).foldl (fun st (c : Nat) => leastStep N goal st c) (none, [(0, [])]) = fin at e' ⊢
  generalize (List.range (2 ^ N.length)).map (fun i : Nat => T.int i) = rl at e' fi
  unfold FL at e'
  generalize c2.map T.int = y4 at e'
  generalize row2.map SF.tS = y5 at e'
  generalize s2.map setS = y6 at e'
  generalize a2.map T.int = y7 at e'
  generalize w2.map T.str = y8 at e'
  generalize rowsT [(0, [])] = r0 at *
  generalize rowsT fin.2 = r2 at *
  generalize leT fin.1 = lf at *
  generalize ndsT N = nt at *
  generalize prsT goal = gt at *
  simp_arith [d1, fi, e']
end SW
set_option Elab.async false
set_option linter.all false
set_option maxRecDepth 100000
namespace SW
open PySem PySem.Spec L2 TL SF
open PyProof.Rows hiding St
theorem nrs_pr (l : List Pr) : nrs (l.map prT) = true := nrs_map fun _ _ => rfl
structure WG (w : Wi) : Prop where
  nd : (w.map (·.1)).Nodup
  so : ∀ p ∈ w, ∀ q ∈ p.2, So q.1 ∧ So q.2
  ln : ∀ p ∈ w, p.2.length ≤ 20
  len : w.length ≤ 6
theorem WG.f {w : Wi} (W : WG w) (a : Str) : (∀ p ∈ wishF w a, So p.1 ∧ So p.2) ∧ (wishF w a).length ≤ 20 := by
  unfold wishF
  cases e : w.find? fun p => decide (p.1 = a) with
  | none => exact ⟨fun _ h => (List.not_mem_nil h).elim, Nat.zero_le _⟩
  | some p => exact ⟨W.so p (List.mem_of_find?_eq_some e), W.ln p (List.mem_of_find?_eq_some e)⟩
end SW
set_option Elab.async false
set_option linter.all false
set_option maxRecDepth 100000
namespace SW
open PySem PySem.Spec L2 TL SF
open PyProof.Rows hiding St
end SW
set_option Elab.async false
set_option linter.all false
set_option maxRecDepth 100000
namespace SW
open PySem PySem.Spec L2 TL SF
open PyProof.Rows hiding St
structure HW (b : Bk) (w : Wi) (l : List Str) : Prop where
  wg : WG w
  sub : ∀ p ∈ w, p.1 ∈ b.asp
  le : w.length ≤ b.asp.length
  nm : ∀ p ∈ w, Nm p.1
  cn : ∀ p ∈ w, CN p.2
  ne : ∀ p ∈ w, p.2 ≠ []
  asc : ∀ S, m_ascend [.lst ((w.map (·.1)).map T.str)] S = .ok (.bl true) S
  fsub : ∀ a ∈ l, a ∈ b.asp
  fno : ∀ a ∈ l, a ∉ w.map (·.1)
  fnm : ∀ S, m_are_names [SF.tS l, .int b.asp.length] S = .ok (.bl true) S
  fl : l.length ≤ 6
def SZ (b : Bk) : Prop := ∀ c ∈ b.cs, So c.w ∧ c.w.length ≤ 200
section
variable {b : Bk} (G : GC b) (Z : SZ b) {w : Wi} {l : List Str} (W : HW b w l) {S : Sto} (C : Cl S)
include G Z W C
end
end SW
set_option Elab.async false
set_option linter.all false
set_option maxRecDepth 100000
namespace SW
open PySem PySem.Spec L2 TL SF
open PyProof.Rows hiding St
theorem inP_iff {s : List Pr} {p : Pr} : inP s p = true ↔ p ∈ s := by unfold inP; exact decide_eq_true_iff
theorem allP_iff {s l : List Pr} : allP s l = true ↔ ∀ p ∈ l, p ∈ s := by
  unfold allP
  rw [List.all_eq_true]
  exact ⟨fun h p hp => inP_iff.mp (h p hp), fun h p hp => inP_iff.mpr (h p hp)⟩
theorem mem_putP {s : List Pr} {p q : Pr} : q ∈ putP s p ↔ q ∈ s ∨ q = p := by
  unfold putP
  split
  · rename_i h
    exact ⟨.inl, fun z => z.elim id fun e => e ▸ inP_iff.mp h⟩
  · rw [List.mem_append, List.mem_singleton]
theorem mem_settleF {n : Need} : ∀ {s : List Pr} {q : Pr}, q ∈ settleF s n ↔ q ∈ s ∨ ∃ r ∈ n, r.1 = q := by
  induction n with
  | nil => intro s q; simp [settleF]
  | cons r n ih =>
    intro s q
    show q ∈ settleF (putP s r.1) n ↔ _
    rw [ih, mem_putP]
    constructor
    · rintro ((h | h) | ⟨x, hx, h⟩)
      · exact .inl h
      · exact .inr ⟨r, List.mem_cons_self, h.symm⟩
      · exact .inr ⟨x, List.mem_cons_of_mem _ hx, h⟩
    · rintro (h | ⟨x, hx, h⟩)
      · exact .inl (.inl h)
      · rcases List.mem_cons.mp hx with rfl | hx
        · exact .inl (.inr h.symm)
        · exact .inr ⟨x, hx, h⟩
theorem mem_settled (N : Nds) : ∀ {ws : List Str} {s : List Pr} {q : Pr}, q ∈ ws.foldl (fun s w => settleF s (getN N w)) s ↔ q ∈ s ∨ ∃ w ∈ ws, ∃ r ∈ getN N w, r.1 = q := by
  intro ws
  induction ws with
  | nil => intro s q; simp
  | cons w ws ih =>
    intro s q
    rw [List.foldl_cons, ih, mem_settleF]
    constructor
    · rintro ((h | ⟨r, hr, h⟩) | ⟨x, hx, h⟩)
      · exact .inl h
      · exact .inr ⟨w, List.mem_cons_self, r, hr, h⟩
      · exact .inr ⟨x, List.mem_cons_of_mem _ hx, h⟩
    · rintro (h | ⟨x, hx, h⟩)
      · exact .inl (.inl h)
      · rcases List.mem_cons.mp hx with rfl | hx
        · exact .inl (.inr h)
        · exact .inr ⟨x, hx, h⟩
theorem mem_settledBy {N : Nds} {ws : List Str} {q : Pr} : q ∈ settledByF N ws ↔ ∃ w ∈ ws, ∃ r ∈ getN N w, r.1 = q := by
  unfold settledByF
  rw [mem_settled]
  exact ⟨fun z => z.elim (fun h => (List.not_mem_nil h).elim) id, .inr⟩
theorem freeP_mono {s t : List Pr} (h : ∀ p ∈ s, p ∈ t) {q : Pr × Option (List Pr)} (f : freeP s q = true) : freeP t q = true := by
  unfold freeP at f ⊢
  rw [Bool.or_eq_true] at f ⊢
  rcases f with f | f
  · exact .inl (inP_iff.mpr (h _ (inP_iff.mp f)))
  · refine .inr ?_
    cases e : q.2 with
    | none => rw [e] at f; cases f
    | some l =>
      rw [e] at f
      exact allP_iff.mpr fun p hp => h p (allP_iff.mp f p hp)
theorem canF_mono {s t : List Pr} (h : ∀ p ∈ s, p ∈ t) {n : Need} (c : canF s n = true) : canF t n = true := by
  unfold canF at c ⊢
  rw [List.all_eq_true] at c ⊢
  exact fun q hq => freeP_mono h (c q hq)
theorem allP_mono {s t : List Pr} (h : ∀ p ∈ s, p ∈ t) {l : List Pr} (c : allP s l = true) : allP t l = true := allP_iff.mpr fun p hp => h p (allP_iff.mp c p hp)
theorem reachL_some {N : Nds} : ∀ {ws : List Str} {s t : List Pr}, reachL N s ws = some t → t = ws.foldl (fun s w => settleF s (getN N w)) s := by
  intro ws
  induction ws with
  | nil => intro s t h; cases h; rfl
  | cons w ws ih =>
    intro s t h
    unfold reachL at h
    split at h
    · rw [List.foldl_cons]; exact ih h
    · cases h
theorem reachL_cons (N : Nds) (s : List Pr) (w : Str) (ws : List Str) : reachL N s (w :: ws) = if canF s (getN N w) then reachL N (settleF s (getN N w)) ws else none := rfl
theorem reachL_app {N : Nds} : ∀ {ws vs : List Str} {s : List Pr}, reachL N s (ws ++ vs) = (reachL N s ws).bind fun t => reachL N t vs := by
  intro ws
  induction ws with
  | nil => intro vs s; rfl
  | cons w ws ih =>
    intro vs s
    rw [List.cons_append, reachL_cons, reachL_cons]
    split
    · exact ih
    · rfl
theorem pass_legal {N : Nds} (E : NE N) : ∀ (M : Nds), (∀ q ∈ M, q ∈ N) → ∀ st : List Str × List Pr × Bool, reachL N [] st.1 = some st.2.1 → reachL N [] (M.foldl stepT st).1 = some (M.foldl stepT st).2.1 := by
  intro M
  induction M with
  | nil => exact fun _ _ h => h
  | cons q M ih =>
    intro hM st h
    rw [List.foldl_cons]
    refine ih (fun x hx => hM x (List.mem_cons_of_mem _ hx)) _ ?_
    unfold stepT
    split
    · rename_i c
      simp only [Bool.and_eq_true] at c
      show reachL N [] (st.1 ++ [q.1]) = some (settleF st.2.1 q.2)
      rw [reachL_app, h]
      show reachL N st.2.1 [q.1] = _
      unfold reachL
      rw [getN_at E (hM q List.mem_cons_self), if_pos c.2]
      rfl
    · exact h
theorem pass_still : ∀ (M : Nds) (st : List Str × List Pr × Bool), (M.foldl stepT st).2.2 = false → M.foldl stepT st = st ∧ ∀ q ∈ M, q.1 ∈ st.1 ∨ canF st.2.1 q.2 = false := by
  intro M
  induction M with
  | nil => exact fun st _ => ⟨rfl, fun _ h => (List.not_mem_nil h).elim⟩
  | cons q M ih =>
    intro st h
    rw [List.foldl_cons] at h ⊢
    obtain ⟨e, a⟩ := ih _ h
    rw [e] at h
    by_cases c : (!decide (q.1 ∈ st.1) && canF st.2.1 q.2) = true
    · exfalso
      unfold stepT at h
      rw [if_pos c] at h
      cases h
    · have e2 : stepT st q = st := by unfold stepT; rw [if_neg c]
      rw [e2] at e a ⊢
      refine ⟨e, fun x hx => ?_⟩
      rcases List.mem_cons.mp hx with rfl | hx
      · simp only [Bool.and_eq_true, Bool.not_eq_true', decide_eq_false_iff_not, not_and, Bool.not_eq_true] at c
        by_cases m : x.1 ∈ st.1
        · exact .inl m
        · exact .inr (c m)
      · exact a x hx
structure TK (N : Nds) (ws : List Str) : Prop where
  nd : ws.Nodup
  sub : ∀ w ∈ ws, w ∈ N.map (·.1)
  leg : reachL N [] ws = some (settledByF N ws)
  top : ∀ q ∈ N, q.1 ∈ ws ∨ canF (settledByF N ws) q.2 = false
theorem takeLoop_tk {N : Nds} (E : NE N) : ∀ (k : Nat) (ws : List Str) (s : List Pr), TI N ws s → reachL N [] ws = some s → 17 ≤ ws.length + k → TK N (takeLoop N k ws s) := by
  intro k
  induction k with
  | zero =>
    intro ws s I _ h
    have := I.le E
    omega
  | succ k ih =>
    intro ws s I l h
    obtain ⟨I2, le, gr⟩ := TI.fold E N (fun _ h => h) (ws, s, false) I
    have l2 := pass_legal E N (fun _ h => h) (ws, s, false) l
    unfold takeLoop
    split
    · rename_i hf
      have g : ws.length < (passT N ws s).1.length := (gr hf).resolve_left fun z => nomatch z
      exact ih _ _ I2 l2 (by omega)
    · rename_i hf
      obtain ⟨e, a⟩ := pass_still N (ws, s, false) (by simpa [passT] using hf)
      have e1 : (passT N ws s).1 = ws := congrArg (fun z => z.1) e
      rw [e1]
      have es : s = settledByF N ws := reachL_some l
      exact ⟨I.nd, I.sub, by rw [← es]; exact l, fun q hq => by rw [← es]; exact a q hq⟩
theorem takeAll_tk {N : Nds} (E : NE N) : TK N (takeAll N) := takeLoop_tk E 17 [] [] ⟨List.nodup_nil, fun _ h => (List.not_mem_nil h).elim, Nat.zero_le _⟩ rfl (by simp)
theorem TK.all {N : Nds} (E : NE N) {ws : List Str} (K : TK N ws) : ∀ {vs : List Str} {s t : List Pr}, (∀ w ∈ vs, w ∈ N.map (·.1)) → (∀ p ∈ s, p ∈ settledByF N ws) → reachL N s vs = some t → (∀ w ∈ vs, w ∈ ws) ∧ ∀ p ∈ t, p ∈ settledByF N ws := by
  intro vs
  induction vs with
  | nil => intro s t _ hs h; cases h; exact ⟨fun _ h => (List.not_mem_nil h).elim, hs⟩
  | cons v vs ih =>
    intro s t hv hs h
    unfold reachL at h
    split at h
    · rename_i c
      obtain ⟨q, hq, eq⟩ := List.mem_map.mp (hv v List.mem_cons_self)
      have g : getN N v = q.2 := by rw [← eq]; exact getN_at E hq
      have mem : v ∈ ws := by
        rcases K.top q hq with m | m
        · exact eq ▸ m
        · rw [g] at c
          rw [canF_mono hs c] at m
          cases m
      obtain ⟨a, b⟩ := ih (fun x hx => hv x (List.mem_cons_of_mem _ hx)) (fun p hp => by
        rw [mem_settleF] at hp
        rcases hp with hp | ⟨r, hr, e⟩
        · exact hs p hp
        · exact mem_settledBy.mpr ⟨v, mem, r, hr, e⟩) h
      exact ⟨fun x hx => (List.mem_cons.mp hx).elim (fun e => e ▸ mem) (a x), b⟩
    · cases h
theorem idle_reach {N : Nds} {goal : List Pr} : ∀ (vs kept : List Str), reachF N goal kept = true → reachF N goal (vs.foldl (fun kept w => if reachF N goal (kept.filter fun x => !decide (x = w)) then kept.filter (fun x => !decide (x = w)) else kept) kept) = true := by
  intro vs
  induction vs with
  | nil => exact fun _ h => h
  | cons w vs ih =>
    intro kept h
    rw [List.foldl_cons]
    refine ih _ ?_
    split
    · assumption
    · exact h
theorem reachF_iff {N : Nds} {goal : List Pr} {ws : List Str} : reachF N goal ws = true ↔ ∃ s, reachL N [] ws = some s ∧ allP s goal = true := by
  unfold reachF
  split
  · rename_i e
    exact ⟨fun h => (nomatch h), fun ⟨s, h, _⟩ => by rw [e] at h; cases h⟩
  · rename_i s e
    exact ⟨fun h => ⟨s, e, h⟩, fun ⟨t, h, g⟩ => by rw [e] at h; cases h; exact g⟩
theorem row_or_bar_row {N : Nds} (E : NE N) {goal : List Pr} (h : (rowOrBar N goal).1 = true) : reachF N goal (rowOrBar N goal).2.reverse = true ∧ (rowOrBar N goal).2.Nodup ∧ ∀ w ∈ (rowOrBar N goal).2, w ∈ N.map (·.1) := by
  have K := takeAll_tk E
  unfold rowOrBar at h ⊢
  split at h
  · rename_i ha
    rw [if_pos ha]
    have r0 : reachF N goal (takeAll N) = true := reachF_iff.mpr ⟨_, K.leg, ha⟩
    have sub := idle_sub N goal (takeAll N).reverse (takeAll N)
    refine ⟨?_, ?_, fun w hw => ?_⟩
    · show reachF N goal (idleF N goal (takeAll N)).reverse.reverse = true
      rw [List.reverse_reverse]
      exact idle_reach _ _ r0
    · show (idleF N goal (takeAll N)).reverse.Nodup
      exact (List.reverse_perm _).nodup_iff.mpr (K.nd.sublist sub)
    · exact K.sub w (sub.subset (List.mem_reverse.mp hw))
  · cases h
theorem row_or_bar_any {N : Nds} (E : NE N) {goal : List Pr} : (rowOrBar N goal).1 = true ↔ ∃ ws, (∀ w ∈ ws, w ∈ N.map (·.1)) ∧ reachF N goal ws = true := by
  constructor
  · intro h
    obtain ⟨a, b, c⟩ := row_or_bar_row E h
    exact ⟨_, fun w hw => c w (List.mem_reverse.mp hw), a⟩
  · rintro ⟨ws, hw, h⟩
    obtain ⟨s, e, g⟩ := reachF_iff.mp h
    obtain ⟨_, b⟩ := (takeAll_tk E).all E hw (fun p hp => (List.not_mem_nil hp).elim) e
    unfold rowOrBar
    rw [if_pos (allP_mono b g)]
end SW
set_option Elab.async false
set_option linter.all false
set_option maxRecDepth 100000
namespace SW
open PySem PySem.Spec L2 TL SF
open PyProof.Rows hiding St
theorem bor_nat (a b : Nat) : Builtin.bitOr (a : Int) (b : Int) = ((a ||| b : Nat) : Int) := by
  unfold Builtin.bitOr Builtin.bitAnd
  have h1 : ¬ (0 ≤ Builtin.bitNot (a : Int)) := by unfold Builtin.bitNot; omega
  have h2 : ¬ (0 ≤ Builtin.bitNot (b : Int)) := by unfold Builtin.bitNot; omega
  rw [decide_eq_false h1, decide_eq_false h2]
  have e : ∀ x : Nat, (Builtin.bitNot (Builtin.bitNot (x : Int))).toNat = x := fun x => by unfold Builtin.bitNot; omega
  simp only [e]
  unfold Builtin.bitNot
  omega
theorem bor_pow (m i : Nat) : Builtin.bitOr (m : Int) (1 * 2 ^ i) = ((m ||| 2 ^ i : Nat) : Int) := by
  rw [← bor_nat, Int.one_mul]
  congr 1
structure MK (N : Nds) (m : Nat) (ws : List Str) : Prop where
  lt : m < 2 ^ N.length
  bit : ∀ i q, N[i]? = some q → (m.testBit i = true ↔ q.1 ∈ ws)
structure LG (N : Nds) (row : List Str) : Prop where
  nd : row.Nodup
  sub : ∀ w ∈ row, w ∈ N.map (·.1)
  leg : ∃ s, reachL N [] row.reverse = some s
theorem nd_ix {N : Nds} (E : NE N) {i j : Nat} {p q : Str × Need} (h1 : N[i]? = some p) (h2 : N[j]? = some q) (e : p.1 = q.1) : i = j := by
  have nd := E.nd
  have a : (N.map (·.1))[i]? = some p.1 := by rw [List.getElem?_map, h1]; rfl
  have b : (N.map (·.1))[j]? = some p.1 := by rw [List.getElem?_map, h2, e]; rfl
  obtain ⟨hi, ei⟩ := List.getElem?_eq_some_iff.mp a
  obtain ⟨hj, ej⟩ := List.getElem?_eq_some_iff.mp b
  exact (List.getElem_inj nd).mp (ei.trans ej.symm)
theorem MK.add {N : Nds} (E : NE N) {m : Nat} {row : List Str} (K : MK N m row) {i : Nat} {q : Str × Need} (hi : N[i]? = some q) : MK N (m ||| 2 ^ i) (q.1 :: row) where
  lt := by
    have hl : i < N.length := (List.getElem?_eq_some_iff.mp hi).1
    exact Nat.or_lt_two_pow K.lt (Nat.pow_lt_pow_right (by omega) hl)
  bit := fun j p hj => by
    rw [Nat.testBit_or, Bool.or_eq_true, K.bit j p hj, Nat.testBit_two_pow, decide_eq_true_eq, List.mem_cons]
    constructor
    · rintro (h | rfl)
      · exact .inr h
      · rw [hi] at hj; cases hj; exact .inl rfl
    · rintro (h | h)
      · exact .inr (nd_ix E hj hi h).symm
      · exact .inl h
theorem settled_same {N : Nds} {ws vs : List Str} (h : ∀ w ∈ ws, w ∈ vs) : ∀ p ∈ settledByF N ws, p ∈ settledByF N vs := fun p hp => by
  obtain ⟨w, hw, r⟩ := mem_settledBy.mp hp
  exact mem_settledBy.mpr ⟨w, h w hw, r⟩
theorem LG.add {N : Nds} (E : NE N) {row : List Str} (L : LG N row) {q : Str × Need} (hq : q ∈ N) (g : growB row (settledByF N row) q = true) : LG N (q.1 :: row) where
  nd := (grow_row ⟨L.nd, L.sub⟩ hq g).1
  sub := (grow_row ⟨L.nd, L.sub⟩ hq g).2
  leg := by
    obtain ⟨s, e⟩ := L.leg
    have es := reachL_some e
    rw [List.reverse_cons, reachL_app, e]
    show ∃ t, reachL N s [q.1] = some t
    rw [reachL_cons, getN_at E hq]
    unfold growB at g
    simp only [Bool.and_eq_true] at g
    have c : canF s q.2 = true := canF_mono (fun p hp => by
      rw [es]
      exact settled_same (ws := row) (vs := row.reverse) (fun w hw => List.mem_reverse.mpr hw) p hp) g.2
    rw [if_pos c]
    exact ⟨_, rfl⟩
structure RK (N : Nds) (rs : Rows) : Prop where
  ok : ∀ c row, getR rs c = some row → ∃ m : Nat, c = (m : Int) ∧ MK N m row ∧ LG N row
theorem getR_put (rs : Rows) (c d : Int) (row : List Str) : getR (putR rs c row) d = if d = c then some row else getR rs d := by
  unfold getR putR
  split
  · rename_i ha
    induction rs with
    | nil => simp at ha
    | cons p rs ih =>
      rw [List.map_cons, List.find?_cons, List.find?_cons]
      by_cases e : p.1 = c
      · rw [if_pos e]
        by_cases ed : d = c
        · subst ed
          rw [if_pos rfl]
          simp [e]
        · rw [if_neg ed]
          have n1 : ¬ p.1 = d := fun z => ed (z.symm.trans e)
          simp only [n1, decide_false]
          by_cases h2 : rs.any (fun p => decide (p.1 = c)) = true
          · have := ih h2
            rw [if_neg ed] at this
            exact this
          · have : (rs.map fun p => if p.1 = c then (p.1, row) else p) = rs := by
              conv => rhs; rw [← List.map_id rs]
              refine List.map_congr_left fun x hx => ?_
              have : ¬ x.1 = c := fun z => h2 (List.any_eq_true.mpr ⟨x, hx, decide_eq_true z⟩)
              rw [if_neg this]
              rfl
            rw [this]
      · rw [if_neg e]
        have h2 : rs.any (fun p => decide (p.1 = c)) = true := by simpa [e] using ha
        by_cases n1 : p.1 = d
        · simp only [n1, decide_true]
          rw [if_neg (fun z => e (n1.trans z))]
        · simp only [n1, decide_false]
          exact ih h2
  · rename_i ha
    rw [List.find?_append]
    by_cases ed : d = c
    · subst ed
      rw [if_pos rfl]
      have : (rs.find? fun p => decide (p.1 = d)) = none := List.find?_eq_none.mpr fun x hx z => ha (List.any_eq_true.mpr ⟨x, hx, z⟩)
      rw [this]
      simp
    · rw [if_neg ed]
      have : ([(c, row)].find? fun p => decide (p.1 = d)) = none := by
        have : ¬ c = d := fun z => ed z.symm
        simp [this]
      rw [this]
      simp
theorem grow_all {N : Nds} (E : NE N) {m : Nat} {row : List Str} (K : MK N m row) (L : LG N row) : ∀ (M : Nds) (i : Nat) (rs : Rows), (∀ j q, M[j]? = some q → N[i + j]? = some q) → RK N rs →
    RK N (growF (m : Int) row (settledByF N row) rs i M) ∧ (∀ d, (getR rs d).isSome = true → (getR (growF (m : Int) row (settledByF N row) rs i M) d).isSome = true) ∧
    ∀ j q, M[j]? = some q → growB row (settledByF N row) q = true → (getR (growF (m : Int) row (settledByF N row) rs i M) ((m ||| 2 ^ (i + j) : Nat) : Int)).isSome = true := by
  intro M
  induction M with
  | nil => exact fun i rs _ R => ⟨R, fun _ h => h, fun j q h => by simp at h⟩
  | cons q M ih =>
    intro i rs hM R
    have hq : N[i]? = some q := by have := hM 0 q rfl; simpa using this
    have hqm : q ∈ N := List.mem_of_getElem? hq
    have nxt : ∀ j p, M[j]? = some p → N[i + 1 + j]? = some p := fun j p h => by
      have := hM (j + 1) p (by simpa using h)
      rwa [show i + (j + 1) = i + 1 + j by omega] at this
    unfold growF
    by_cases g : growB row (settledByF N row) q = true
    · rw [if_pos g, bor_pow]
      have R2 : RK N (putR rs ((m ||| 2 ^ i : Nat) : Int) (q.1 :: row)) := ⟨fun c r hr => by
        rw [getR_put] at hr
        split at hr
        · rename_i e
          cases hr
          exact ⟨_, e, K.add E hq, L.add E hqm g⟩
        · exact R.ok c r hr⟩
      obtain ⟨a, b, c⟩ := ih (i + 1) _ nxt R2
      have mono : ∀ d, (getR rs d).isSome = true → (getR (putR rs ((m ||| 2 ^ i : Nat) : Int) (q.1 :: row)) d).isSome = true := fun d h => by
        rw [getR_put]
        split
        · rfl
        · exact h
      refine ⟨a, fun d h => b d (mono d h), fun j p hj gp => ?_⟩
      cases j with
      | zero =>
        refine b _ ?_
        rw [getR_put]
        exact (congrArg Option.isSome (if_pos rfl)).trans rfl
      | succ j =>
        have := c j p (by simpa using hj) gp
        rwa [show i + (j + 1) = i + 1 + j by omega]
    · rw [if_neg g]
      obtain ⟨a, b, c⟩ := ih (i + 1) rs nxt R
      refine ⟨a, b, fun j p hj gp => ?_⟩
      cases j with
      | zero => simp at hj; subst hj; exact absurd gp g
      | succ j =>
        have := c j p (by simpa using hj) gp
        rwa [show i + (j + 1) = i + 1 + j by omega]
def stA (N : Nds) (goal : List Pr) (k : Nat) : Option (List Str) × Rows := (List.range k).foldl (fun st (c : Nat) => leastStep N goal st c) (none, [(0, [])])
theorem stA_succ (N : Nds) (goal : List Pr) (k : Nat) : stA N goal (k + 1) = leastStep N goal (stA N goal k) k := by
  unfold stA
  rw [List.range_succ, List.foldl_append]
  rfl
theorem step_rows {N : Nds} (E : NE N) {goal : List Pr} {st : Option (List Str) × Rows} (R : RK N st.2) (k : Nat) : RK N (leastStep N goal st k).2 ∧ ∀ d, (getR st.2 d).isSome = true → (getR (leastStep N goal st k).2 d).isSome = true := by
  unfold leastStep
  cases e : getR st.2 (k : Int) with
  | none => exact ⟨R, fun _ h => h⟩
  | some row =>
    obtain ⟨m, em, K, L⟩ := R.ok _ _ e
    have : k = m := Int.natCast_inj.mp em
    subst this
    obtain ⟨a, b, _⟩ := grow_all E K L N 0 st.2 (fun j q h => by rwa [Nat.zero_add]) R
    exact ⟨a, b⟩
theorem stA_rk {N : Nds} (E : NE N) (goal : List Pr) : ∀ k, RK N (stA N goal k).2 := by
  intro k
  induction k with
  | zero =>
    refine ⟨fun c row h => ?_⟩
    have h' : getR [(0, [])] c = some row := h
    unfold getR at h'
    by_cases e : (0 : Int) = c
    · subst e
      simp at h'
      subst h'
      exact ⟨0, rfl, ⟨Nat.two_pow_pos _, fun i q _ => by simp⟩, ⟨List.nodup_nil, fun _ h => (List.not_mem_nil h).elim, [], rfl⟩⟩
    · simp [e] at h'
  | succ k ih => rw [stA_succ]; exact (step_rows E ih k).1
theorem stA_keep {N : Nds} (E : NE N) (goal : List Pr) {d : Int} {k : Nat} : ∀ j, (getR (stA N goal k).2 d).isSome = true → (getR (stA N goal (k + j)).2 d).isSome = true := by
  intro j
  induction j with
  | zero => exact id
  | succ j ih =>
    intro h
    rw [← Nat.add_assoc, stA_succ]
    exact (step_rows E (stA_rk E goal (k + j)) (k + j)).2 d (ih h)
theorem MK.zero {N : Nds} {m : Nat} (K : MK N m []) : m = 0 := by
  refine Nat.eq_of_testBit_eq fun i => ?_
  rw [Nat.zero_testBit]
  by_cases hi : i < N.length
  · have := K.bit i N[i] (List.getElem?_eq_getElem hi)
    rw [Bool.eq_false_iff]
    exact fun h => (List.not_mem_nil (this.mp h)).elim
  · exact Nat.testBit_lt_two_pow (Nat.lt_of_lt_of_le K.lt (Nat.pow_le_pow_right (by omega) (by omega)))
theorem MK.same {N : Nds} {m : Nat} {ws vs : List Str} (K : MK N m ws) (K' : MK N m vs) (hs : ∀ w ∈ ws, w ∈ N.map (·.1)) : ∀ w ∈ ws, w ∈ vs := fun w hw => by
  obtain ⟨q, hq, rfl⟩ := List.mem_map.mp (hs w hw)
  obtain ⟨i, hi, e⟩ := List.mem_iff_getElem.mp hq
  have h1 := K.bit i q (by rw [List.getElem?_eq_getElem hi, e])
  have h2 := K'.bit i q (by rw [List.getElem?_eq_getElem hi, e])
  exact h2.mp (h1.mpr hw)
theorem present {N : Nds} (E : NE N) (goal : List Pr) : ∀ (n : Nat) (ws : List Str), ws.length = n → ws.Nodup → (∀ w ∈ ws, w ∈ N.map (·.1)) → (∃ s, reachL N [] ws = some s) → ∀ m, MK N m ws → (getR (stA N goal m).2 (m : Int)).isSome = true := by
  intro n
  induction n with
  | zero =>
    intro ws hl _ _ _ m K
    rw [List.length_eq_zero_iff.mp hl] at K
    rw [K.zero]
    rfl
  | succ n ih =>
    intro ws hl nd hs ⟨s, leg⟩ m K
    obtain ⟨vs, w, rfl⟩ : ∃ vs w, ws = vs ++ [w] := ⟨ws.dropLast, ws.getLast (by intro z; rw [z] at hl; cases hl), (List.dropLast_concat_getLast _).symm⟩
    have hlv : vs.length = n := by simpa using hl
    obtain ⟨ndv, _, dis⟩ := List.nodup_append.mp nd
    have wv : w ∉ vs := fun z => dis w z w (by simp) rfl
    rw [reachL_app] at leg
    cases evq : reachL N [] vs with
    | none => rw [evq] at leg; cases leg
    | some t =>
      rw [evq] at leg
      have leg' : reachL N t [w] = some s := leg
      rw [reachL_cons] at leg'
      have cw : canF t (getN N w) = true := by
        by_cases c : canF t (getN N w) = true
        · exact c
        · rw [if_neg c] at leg'; cases leg'
      obtain ⟨q, hq, rfl⟩ := List.mem_map.mp (hs w (by simp))
      rw [getN_at E hq] at cw
      obtain ⟨i, hi, eq⟩ := List.mem_iff_getElem.mp hq
      have hqi : N[i]? = some q := by rw [List.getElem?_eq_getElem hi, eq]
      have bi : m.testBit i = true := (K.bit i q hqi).mpr (by simp)
      obtain ⟨m', em⟩ : ∃ m', m' = m ^^^ 2 ^ i := ⟨_, rfl⟩
      have tb : ∀ j, m'.testBit j = if j = i then false else m.testBit j := fun j => by
        rw [em, Nat.testBit_xor, Nat.testBit_two_pow]
        by_cases h : j = i
        · subst h; simp [bi]
        · have : ¬ i = j := fun z => h z.symm
          simp [h, this]
      have lt : m' < m := by
        have e1 : m &&& m' = m' := Nat.eq_of_testBit_eq fun j => by
          rw [Nat.testBit_and, tb]
          split
          · simp
          · simp
        have e2 : m' ≤ m := by rw [← e1]; exact Nat.and_le_left
        have e3 : m' ≠ m := fun z => by
          have := tb i
          rw [z, bi, if_pos rfl] at this
          cases this
        omega
      have Kv : MK N m' vs := ⟨?_, fun j p hj => ?_⟩
      · have mo : m' ||| 2 ^ i = m := Nat.eq_of_testBit_eq fun j => by
          rw [Nat.testBit_or, tb, Nat.testBit_two_pow]
          by_cases h : j = i
          · subst h; simp [bi]
          · have : ¬ i = j := fun z => h z.symm
            simp [h, this]
        have pv := ih vs hlv ndv (fun x hx => hs x (by simp [hx])) ⟨t, evq⟩ m' Kv
        obtain ⟨row, er⟩ := Option.isSome_iff_exists.mp pv
        have R := stA_rk E goal m'
        obtain ⟨m2, e2, Kr, Lr⟩ := R.ok _ _ er
        have : m' = m2 := Int.natCast_inj.mp e2
        subst this
        obtain ⟨_, _, c⟩ := grow_all E Kr Lr N 0 (stA N goal m').2 (fun j q h => by rwa [Nat.zero_add]) R
        have rv := Kr.same Kv Lr.sub
        have vr := Kv.same Kr (fun x hx => hs x (by simp [hx]))
        have g : growB row (settledByF N row) q = true := by
          unfold growB
          rw [Bool.and_eq_true, Bool.not_eq_true', decide_eq_false_iff_not]
          refine ⟨fun z => wv (rv _ z), canF_mono (fun p hp => ?_) cw⟩
          rw [reachL_some evq] at hp
          exact settled_same vr p hp
        have k1 := c i q hqi g
        rw [Nat.zero_add, mo] at k1
        have k2 : (getR (stA N goal (m' + 1)).2 (m : Int)).isSome = true := by
          rw [stA_succ]
          unfold leastStep
          rw [er]
          exact k1
        obtain ⟨d, ed⟩ : ∃ d, m = m' + 1 + d := ⟨m - (m' + 1), by omega⟩
        have k3 := stA_keep E goal d k2
        rw [← ed] at k3
        exact k3
      · exact Nat.lt_of_le_of_lt (Nat.le_of_lt lt) K.lt
      · rw [tb]
        by_cases h : j = i
        · subst h
          rw [hqi] at hj
          cases hj
          rw [if_pos rfl]
          exact ⟨fun z => (nomatch z), fun z => absurd z wv⟩
        · rw [if_neg h, K.bit j p hj, List.mem_append, List.mem_singleton]
          exact ⟨fun z => z.resolve_right fun y => h (nd_ix E hj hqi y), .inl⟩
theorem mask_of {N : Nds} (E : NE N) : ∀ ws : List Str, (∀ w ∈ ws, w ∈ N.map (·.1)) → ∃ m, MK N m ws := by
  intro ws
  induction ws with
  | nil => exact fun _ => ⟨0, Nat.two_pow_pos _, fun i q _ => by simp⟩
  | cons w ws ih =>
    intro h
    obtain ⟨m, K⟩ := ih fun x hx => h x (List.mem_cons_of_mem _ hx)
    obtain ⟨q, hq, rfl⟩ := List.mem_map.mp (h w List.mem_cons_self)
    obtain ⟨i, hi, e⟩ := List.mem_iff_getElem.mp hq
    exact ⟨_, K.add E (by rw [List.getElem?_eq_getElem hi, e])⟩
def leR (o : Option (List Str)) (x : Int) : Prop := ∃ l, o = some l ∧ sizeS l ≤ x
theorem better_le {goal s : List Pr} {o : Option (List Str)} {row : List Str} {x : Int} (h : leR o x) : leR (betterF goal s o row) x := by
  obtain ⟨l, rfl, hl⟩ := h
  have e : betterF goal s (some l) row = if (allP s goal && decide (sizeS row < sizeS l)) = true then some row else some l := rfl
  rw [e]
  by_cases c : (allP s goal && decide (sizeS row < sizeS l)) = true
  · rw [if_pos c]
    simp only [Bool.and_eq_true, decide_eq_true_eq] at c
    exact ⟨row, rfl, by omega⟩
  · rw [if_neg c]
    exact ⟨l, rfl, hl⟩
theorem better_row {goal s : List Pr} {o : Option (List Str)} {row : List Str} (h : allP s goal = true) : leR (betterF goal s o row) (sizeS row) := by
  cases o with
  | none =>
    have e : betterF goal s none row = if (allP s goal && true) = true then some row else none := rfl
    rw [e, h]
    exact ⟨row, rfl, Int.le_refl _⟩
  | some l =>
    have e : betterF goal s (some l) row = if (allP s goal && decide (sizeS row < sizeS l)) = true then some row else some l := rfl
    rw [e, h, Bool.true_and]
    by_cases c : decide (sizeS row < sizeS l) = true
    · rw [if_pos c]
      exact ⟨row, rfl, Int.le_refl _⟩
    · rw [if_neg c]
      simp only [decide_eq_true_eq] at c
      exact ⟨l, rfl, by omega⟩
theorem stA_le {N : Nds} (goal : List Pr) {x : Int} {k : Nat} : ∀ j, leR (stA N goal k).1 x → leR (stA N goal (k + j)).1 x := by
  intro j
  induction j with
  | zero => exact id
  | succ j ih =>
    intro h
    rw [← Nat.add_assoc, stA_succ]
    unfold leastStep
    split
    · exact ih h
    · exact better_le (ih h)
theorem size_perm {a b : List Str} (h : a.Perm b) : sizeS a = sizeS b := by
  unfold sizeS
  induction h with
  | nil => rfl
  | cons x _ ih => simp only [List.map_cons, List.sum_cons, ih]
  | swap x y l => simp only [List.map_cons, List.sum_cons]; omega
  | trans _ _ h1 h2 => exact h1.trans h2
theorem least_min {N : Nds} (E : NE N) {goal : List Pr} {ws : List Str} (nd : ws.Nodup) (hs : ∀ w ∈ ws, w ∈ N.map (·.1)) (h : reachF N goal ws = true) : ∃ l, leastF N goal = some l ∧ sizeS l ≤ sizeS ws := by
  obtain ⟨s, leg, g⟩ := reachF_iff.mp h
  obtain ⟨m, K⟩ := mask_of E ws hs
  have p := present E goal _ ws rfl nd hs ⟨s, leg⟩ m K
  obtain ⟨row, er⟩ := Option.isSome_iff_exists.mp p
  obtain ⟨m2, e2, Kr, Lr⟩ := (stA_rk E goal m).ok _ _ er
  have : m = m2 := Int.natCast_inj.mp e2
  subst this
  have pm : row.Perm ws := (List.perm_ext_iff_of_nodup Lr.nd nd).mpr fun w => ⟨Kr.same K Lr.sub w, K.same Kr hs w⟩
  have gr : allP (settledByF N row) goal = true := allP_mono (fun p hp => by
    rw [reachL_some leg] at hp
    exact settled_same (K.same Kr hs) p hp) g
  have st : leR (stA N goal (m + 1)).1 (sizeS row) := by
    rw [stA_succ]
    unfold leastStep
    rw [er]
    exact better_row gr
  obtain ⟨d, ed⟩ : ∃ d, 2 ^ N.length = m + 1 + d := ⟨2 ^ N.length - (m + 1), by have := K.lt; omega⟩
  have fin := stA_le goal d st
  rw [← ed] at fin
  rw [← size_perm pm]
  exact fin
theorem least_sound {N : Nds} (E : NE N) {goal : List Pr} {l : List Str} (h : leastF N goal = some l) : LG N l ∧ reachF N goal l.reverse = true := by
  have run : ∀ k l, (stA N goal k).1 = some l → LG N l ∧ allP (settledByF N l) goal = true := by
    intro k
    induction k with
    | zero => exact fun l h => nomatch h
    | succ k ih =>
      intro l h
      rw [stA_succ] at h
      unfold leastStep at h
      cases e : getR (stA N goal k).2 (k : Int) with
      | none => rw [e] at h; exact ih l h
      | some row =>
        rw [e] at h
        simp only [betterF] at h
        split at h
        · rename_i c
          cases h
          obtain ⟨m, _, _, L⟩ := (stA_rk E goal k).ok _ _ e
          simp only [Bool.and_eq_true] at c
          exact ⟨L, c.1⟩
        · exact ih l h
  obtain ⟨L, g⟩ := run _ l h
  obtain ⟨s, e⟩ := L.leg
  refine ⟨L, reachF_iff.mpr ⟨s, e, allP_mono (fun p hp => ?_) g⟩⟩
  rw [reachL_some e]
  exact settled_same (ws := l) (vs := l.reverse) (fun w hw => List.mem_reverse.mpr hw) p hp
end SW
set_option Elab.async false
set_option linter.all false
set_option maxRecDepth 100000
namespace SF
open PySem PySem.Spec L2 TL
open PyProof.Rows hiding St
end SF
set_option Elab.async false
set_option linter.all false
set_option maxRecDepth 100000
namespace SF
open PySem PySem.Spec L2 TL
open PyProof.Rows hiding St
end SF
set_option Elab.async false
set_option linter.all false
set_option maxRecDepth 100000
namespace SF
open PySem PySem.Spec L2 TL
open PyProof.Rows hiding St
end SF
set_option Elab.async false
set_option linter.all false
set_option maxRecDepth 100000
namespace SW
open PySem PySem.Spec L2 TL SF
open PyProof.Rows hiding St
theorem give_one {k : Str} : ∀ {g : List (Str × Str)}, (g.map (·.1)).Nodup → ∀ (f : Str → Ch) (a : Str), giveF f k g a = match g.find? (fun p => decide (p.1 = a)) with | some p => behindS (f a) k p.2 | none => f a
  | [], _, f, a => rfl
  | p :: g, h, f, a => by
    rw [List.map_cons, List.nodup_cons] at h
    have ih := give_one (k := k) h.2 (fun a => if a = p.1 then behindS (f a) k p.2 else f a) a
    have e : giveF f k (p :: g) a = giveF (fun a => if a = p.1 then behindS (f a) k p.2 else f a) k g a := rfl
    rw [e, ih, List.find?_cons]
    by_cases hp : p.1 = a
    · have : g.find? (fun q => decide (q.1 = a)) = none := List.find?_eq_none.mpr fun q hq z => h.1 (by
        rw [decide_eq_true_eq] at z
        rw [hp, ← z]
        exact List.mem_map_of_mem hq)
      rw [this, decide_eq_true hp]
      simp only
      rw [if_pos hp.symm]
    · rw [decide_eq_false hp]
      simp only
      rw [if_neg fun z => hp z.symm]
structure BN (b : Bk) : Prop where
  gn : ∀ c ∈ b.cs, (c.g.map (·.1)).Nodup
  wn : (b.cs.map (·.w)).Nodup
def addC (c : SF.Code) (f : Ch) (a : Str) : Ch := match c.g.find? (fun p => decide (p.1 = a)) with
  | some p => if c.k ∈ f.map (·.1) then [] else [(c.k, p.2)]
  | none => []
theorem findC_in {cs : List SF.Code} {x : Str} {c : SF.Code} (h : findC cs x = some c) : c ∈ cs ∧ c.w = x := ⟨List.mem_of_find?_eq_some h, by simpa using List.find?_some h⟩
theorem chain_cons {b : Bk} (N : BN b) {x : Str} {c : SF.Code} (hc : findC b.cs x = some c) (row : List Str) (a : Str) : chainF b f0 (x :: row) a = chainF b f0 row a ++ addC c (chainF b f0 row a) a := by
  have e := chain_rest b [x] row a
  rw [List.singleton_append] at e
  rw [e]
  congr 1
  have e2 : chainF b f0 [x] = giveF f0 c.k c.g := by
    unfold chainF
    rw [hc]
    rfl
  rw [e2, give_one (N.gn c (findC_in hc).1)]
  unfold addC
  cases c.g.find? (fun p => decide (p.1 = a)) with
  | none => rfl
  | some p =>
    show restS _ [(c.k, p.2)] = _
    unfold restS
    rw [List.filter_cons, List.filter_nil]
    by_cases h : c.k ∈ (chainF b f0 row a).map (·.1)
    · rw [if_neg (by simpa using h)]
      exact (if_pos h).symm
    · rw [if_pos (by simpa using h)]
      exact (if_neg h).symm
theorem find_code {b : Bk} {x : Str} (h : x ∈ b.cs.map (·.w)) : ∃ c, findC b.cs x = some c := by
  obtain ⟨c, hc, rfl⟩ := List.mem_map.mp h
  cases e : findC b.cs c.w with
  | some d => exact ⟨d, rfl⟩
  | none => exact absurd (List.find?_eq_none.mp e c hc) (by simp)
theorem chain_kind {b : Bk} (N : BN b) {a k : Str} : ∀ {row : List Str}, (∀ x ∈ row, x ∈ b.cs.map (·.w)) → (k ∈ (chainF b f0 row a).map (·.1) ↔ ∃ x ∈ row, ∃ c, findC b.cs x = some c ∧ c.k = k ∧ a ∈ c.g.map (·.1))
  | [], _ => ⟨(fun h => nomatch h), (fun ⟨x, h, _⟩ => nomatch h)⟩
  | x :: row, hr => by
    have ih := chain_kind N (a := a) (k := k) (row := row) fun y hy => hr y (List.mem_cons_of_mem _ hy)
    obtain ⟨c, hc⟩ := find_code (hr x List.mem_cons_self)
    rw [chain_cons N hc, List.map_append, List.mem_append, ih]
    constructor
    · rintro (⟨y, hy, z⟩ | h)
      · exact ⟨y, List.mem_cons_of_mem _ hy, z⟩
      · unfold addC at h
        cases e : c.g.find? (fun p => decide (p.1 = a)) with
        | none => rw [e] at h; exact nomatch h
        | some p =>
          rw [e] at h
          simp only at h
          split at h
          · exact nomatch h
          · have hp : p.1 = a := by simpa using List.find?_some e
            rw [List.map_cons, List.map_nil, List.mem_singleton] at h
            exact ⟨x, List.mem_cons_self, c, hc, h.symm, by rw [← hp]; exact List.mem_map_of_mem (List.mem_of_find?_eq_some e)⟩
    · rintro ⟨y, hy, d, hd, hk, ha⟩
      rcases List.mem_cons.mp hy with rfl | hy
      · rw [hc] at hd
        cases hd
        by_cases z : c.k ∈ (chainF b f0 row a).map (·.1)
        · rw [hk] at z
          exact .inl (ih.mp z)
        · refine .inr ?_
          obtain ⟨p, hp, e⟩ := List.mem_map.mp ha
          cases e2 : c.g.find? (fun p => decide (p.1 = a)) with
          | none => exact absurd (List.find?_eq_none.mp e2 p hp) (by simp [e])
          | some q =>
            unfold addC
            rw [e2]
            simp only
            rw [if_neg z]
            simp [hk]
      · exact .inl ⟨y, hy, d, hd, hk, ha⟩
section
variable {b : Bk} (N : BN b) {wf : Str → Ch} (gn : ∀ a, ((wf a).map (·.1)).Nodup) {free : List Str}
include N
include gn
end
end SW
set_option Elab.async false
set_option linter.all false
set_option maxRecDepth 100000
namespace SW
open PySem PySem.Spec L2 TL SF
open PyProof.Rows hiding St
theorem worth_some {t : List Str} {v : Str} : ∀ {f : Ch}, worthS t f = some v → ∃ pre k post, f = pre ++ (k, v) :: post ∧ k ∈ t ∧ ∀ q ∈ pre, q.1 ∉ t
  | [], h => by cases h
  | p :: f, h => by
    rw [worthS] at h
    by_cases hp : p.1 ∈ t
    · rw [if_pos hp] at h
      cases h
      exact ⟨[], p.1, f, rfl, hp, fun q hq => nomatch hq⟩
    · rw [if_neg hp] at h
      obtain ⟨pre, k, post, rfl, h1, h2⟩ := worth_some h
      refine ⟨p :: pre, k, post, rfl, h1, fun q hq => ?_⟩
      rcases List.mem_cons.mp hq with rfl | hq
      · exact hp
      · exact h2 q hq
theorem worth_pre {t : List Str} {k v : Str} {post : Ch} (hk : k ∈ t) : ∀ {pre : Ch}, (∀ q ∈ pre, q.1 ∈ t → q.2 = v) → worthS t (pre ++ (k, v) :: post) = some v
  | [], _ => by rw [List.nil_append, worthS, if_pos hk]
  | q :: pre, h => by
    rw [List.cons_append, worthS]
    by_cases hq : q.1 ∈ t
    · rw [if_pos hq, h q List.mem_cons_self hq]
    · rw [if_neg hq, worth_pre hk fun r hr => h r (List.mem_cons_of_mem _ hr)]
theorem nodup_split {pre post : Ch} {p : Str × Str} (h : ((pre ++ p :: post).map (·.1)).Nodup) : ∀ q ∈ pre, q.1 ≠ p.1 := fun q hq e => by
  rw [List.map_append, List.map_cons, List.nodup_append] at h
  exact h.2.2 q.1 (List.mem_map_of_mem hq) p.1 List.mem_cons_self e
end SW
set_option Elab.async false
set_option linter.all false
set_option maxRecDepth 100000
namespace SF
open PySem PySem.Spec L2 TL
open PyProof.Rows hiding St
def extR (ws r : List Str) : List (List Str) := (ws.filter fun o => !decide (o ∈ r)).map fun o => r ++ [o]
def rowsK (ws : List Str) : Nat → List (List Str)
  | 0 => [[]]
  | k + 1 => (rowsK ws k).flatMap (extR ws)
def allRows (ws : List Str) : Nat → List (List Str)
  | 0 => [[]]
  | k + 1 => allRows ws k ++ rowsK ws (k + 1)
theorem mem_ext {ws r q : List Str} : q ∈ extR ws r ↔ ∃ o ∈ ws, o ∉ r ∧ q = r ++ [o] := by
  unfold extR
  simp only [List.mem_map, List.mem_filter, Bool.not_eq_true', decide_eq_false_iff_not]
  exact ⟨fun ⟨o, ⟨h1, h2⟩, e⟩ => ⟨o, h1, h2, e.symm⟩, fun ⟨o, h1, h2, e⟩ => ⟨o, ⟨h1, h2⟩, e.symm⟩⟩
theorem mem_rowsK {ws : List Str} : ∀ {k : Nat} {r : List Str}, r ∈ rowsK ws k ↔ r.length = k ∧ r.Nodup ∧ ∀ x ∈ r, x ∈ ws
  | 0, r => by
    rw [rowsK, List.mem_singleton]
    exact ⟨fun e => by subst e; exact ⟨rfl, List.nodup_nil, fun x h => nomatch h⟩, fun h => List.length_eq_zero_iff.mp h.1⟩
  | k + 1, r => by
    rw [rowsK, List.mem_flatMap]
    constructor
    · rintro ⟨p, hp, h⟩
      obtain ⟨o, ho, hn, rfl⟩ := mem_ext.mp h
      obtain ⟨h1, h2, h3⟩ := mem_rowsK.mp hp
      refine ⟨by rw [List.length_append, h1]; rfl, ?_, fun x hx => ?_⟩
      · rw [List.nodup_append]
        refine ⟨h2, by simp, fun a ha b hb e => ?_⟩
        rw [List.mem_singleton] at hb
        exact hn (by rw [← hb, ← e]; exact ha)
      · rcases List.mem_append.mp hx with hx | hx
        · exact h3 x hx
        · rw [List.mem_singleton.mp hx]; exact ho
    · rintro ⟨h1, h2, h3⟩
      have hne : r ≠ [] := fun z => by rw [z] at h1; cases h1
      have e := List.dropLast_concat_getLast hne
      refine ⟨r.dropLast, mem_rowsK.mpr ⟨by rw [List.length_dropLast, h1]; rfl, h2.sublist (List.dropLast_sublist r), fun x hx => h3 x (List.dropLast_subset r hx)⟩, mem_ext.mpr ⟨r.getLast hne, h3 _ (List.getLast_mem hne), fun z => ?_, e.symm⟩⟩
      rw [← e, List.nodup_append] at h2
      exact h2.2.2 _ z _ (List.mem_singleton.mpr rfl) rfl
theorem mem_allRows {ws : List Str} : ∀ {k : Nat} {r : List Str}, r ∈ allRows ws k ↔ r.length ≤ k ∧ r.Nodup ∧ ∀ x ∈ r, x ∈ ws
  | 0, r => by
    rw [allRows, List.mem_singleton]
    exact ⟨fun e => by subst e; exact ⟨Nat.le_refl _, List.nodup_nil, fun x h => nomatch h⟩, fun h => List.length_eq_zero_iff.mp (Nat.le_zero.mp h.1)⟩
  | k + 1, r => by
    rw [allRows, List.mem_append, mem_allRows, mem_rowsK]
    constructor
    · rintro (⟨h1, h2⟩ | ⟨h1, h2⟩)
      · exact ⟨by omega, h2⟩
      · exact ⟨by omega, h2⟩
    · rintro ⟨h1, h2⟩
      by_cases h : r.length = k + 1
      · exact .inr ⟨h, h2⟩
      · exact .inl ⟨by omega, h2⟩
end SF
set_option Elab.async false
set_option linter.all false
set_option maxRecDepth 100000
set_option maxHeartbeats 2000000
namespace SW
open PySem PySem.Spec L2 TL SF
open PyProof.Rows hiding St
theorem close_iff {b : Bk} (G : GC b) (y : List Str) : apartS b [] y = none ↔ ∀ a ∈ b.asp, ∀ p ∈ chainF b f0 y a, p.2 = plS := by
  rw [apart_iff G]
  have e0 : ∀ t, aftS b t [] = b.asp.map fun _ => plS := fun t => by
    rw [aft_eq G.w]
    refine List.map_congr_left fun a _ => ?_
    rfl
  constructor
  · intro h a ha p hp
    obtain ⟨k, v⟩ := p
    have hk := G.ks y a (k, v) hp
    have z := h [k] (List.singleton_sublist.mpr hk)
    rw [List.nil_append, e0, aft_eq G.w] at z
    obtain ⟨i, hi, ei⟩ := List.mem_iff_getElem.mp ha
    have z2 := congrArg (fun l => l[i]?) z
    simp only [List.getElem?_map, List.getElem?_eq_getElem hi, Option.map_some, Option.some.injEq] at z2
    rw [ei] at z2
    obtain ⟨pre, post, e⟩ := List.append_of_mem hp
    have nd := (G.gh y a).nd
    rw [e] at nd
    have w1 : worthS [k] (chainF b f0 y a) = some v := by
      rw [e]
      exact worth_pre List.mem_cons_self fun q hq hq2 => absurd (List.mem_singleton.mp hq2) (nodup_split nd q hq)
    unfold wp at z2
    rw [w1] at z2
    exact z2
  · intro h t _
    rw [List.nil_append, e0, aft_eq G.w]
    refine List.map_congr_left fun a ha => ?_
    unfold wp
    cases e : worthS t (chainF b f0 y a) with
    | none => rfl
    | some v =>
      obtain ⟨pre, k, post, e2, _⟩ := worth_some e
      exact h a ha (k, v) (by rw [e2]; simp)
theorem closes_ok {b : Bk} (G : GC b) {row other : List Str} (X : RO b 60 row) (Y : RO b 60 other) : Pu m_closes [bT b, SF.tS row, SF.tS other] (.bl (apartS b [] (row ++ other)).isNone) := by
  intro S
  have W := G.w
  have h1 := need_row_ok W X S
  have h2 := need_row_ok W Y S
  have xl := X.len
  have yl := Y.len
  have h3 := apart_behind_ok G (x := []) (y := row ++ other) (fun x h => (List.not_mem_nil h).elim) (WOk.app (X.wok W) (Y.wok W)) (by rw [List.length_append]; simp; omega) S
  unfold m_closes b_closes
  generalize m_need_row = f1 at h1 h2 ⊢
  generalize m_apart_behind = f2 at h3 ⊢
  have t0 : SF.tS [] = T.tup [] := rfl
  rw [t0] at h3
  have ad : ∀ U, addT U (SF.tS row) (SF.tS other) = some (SF.tS (row ++ other)) := fun U => add_tS (by omega) U
  generalize bT b = bt at *
  simp_arith [h1, h2, small16 (show 0 ≤ 200 by omega), ad, h3, isn_opt]
def needC (c : SF.Code) : Need := c.g.map fun p => ((p.1, c.k), if p.2 = plS then some [] else none)
def needsC (b : Bk) : Nds := b.cs.map fun c => (c.w, needC c)
def goalC (b : Bk) (row : List Str) : List Pr := (b.asp.map fun a => ((chainF b f0 row a).filter fun p => !decide (p.2 = plS)).map fun p => (a, p.1)).flatten
def ndD' (N : Nds) : T := .dct (ndK N) (N.map fun q => ndT q.2)
theorem nrs_nd' (n : Need) : nrs (n.map ndP) = true := nrs_map fun q _ => by
  unfold ndP
  cases q.2 with
  | none => rfl
  | some l =>
    show nrs [prT q.1, prsT l] = true
    simp only [nrs, prsT, nr, nrs_pr, Bool.and_true]
    rfl
theorem nr_nd' (n : Need) : nr (ndT n) = true := nrs_nd' n
theorem set_needC {S : Sto} {D : Nds} {x : Str} (hx : x ∉ D.map (·.1)) (hz : D.length ≤ 100) (n : Need) : setT (S ++ [ndD' D]) (.ref S.length) (.str x) (ndT n) = some (S ++ [ndD' (D ++ [(x, n)])]) := by
  have at' : (S ++ [ndD' D])[S.length]? = some (.dct (ndK D) (D.map fun q => ndT q.2)) := sto_end S _ []
  unfold setT
  simp only [at']
  have kl : (ndK D).length < sizeLine := by unfold ndK; rw [List.length_map]; exact small16' (by omega)
  have nk : (ndK D).any (fun k' => decide (k' = (Sum.inr x : Key))) = false := by
    rw [Bool.eq_false_iff]
    intro h
    obtain ⟨k, hk, e⟩ := List.any_eq_true.mp h
    unfold ndK at hk
    obtain ⟨q, hq, rfl⟩ := List.mem_map.mp hk
    have e2 : q.1 = x := Sum.inr.inj (of_decide_eq_true e)
    exact hx (e2 ▸ List.mem_map_of_mem hq)
  show (if (ndK D).length < sizeLine then some ((S ++ [ndD' D]).set S.length (.dct (putK' (ndK D) (D.map fun q => ndT q.2) (.inr x) (ndT n)).1 (putK' (ndK D) (D.map fun q => ndT q.2) (.inr x) (ndT n)).2)) else none) = _
  rw [if_pos kl]
  unfold putK'
  rw [nk, if_neg (by simp)]
  have e1 : ndK (D ++ [(x, n)]) = ndK D ++ [.inr x] := by unfold ndK; rw [List.map_append]; rfl
  unfold ndD'
  rw [e1, List.map_append]
  simp
theorem needs_of_close_ok {b : Bk} (G : GC b) (S : Sto) : m_needs_of_close [bT b] S = .ok (ndD' (needsC b)) S := by
  have nz := G.w.gb.len
  have wn := G.w.gb.nd
  suffices H : ∃ J, body ["book", "needs", "word", "kind", "gives", "aspect", "value"] 1 b_needs_of_close [bT b] S = .ok (.ref S.length) (S ++ ndD' (needsC b) :: J) by
    obtain ⟨J, H⟩ := H
    unfold m_needs_of_close
    exact gc_dref H (Nat.le_refl _) (sto_end S _ J) (nrs_map fun q _ => nr_nd' q.2)
  have i2 : ∀ S, ixT S (bT b) (.int 2) = some (.tup (b.cs.map cT)) := fun _ => rfl
  unfold b_needs_of_close
  simp_arith [i2, List.length_map, small16 (show b.cs.length ≤ 200 by omega)]
  generalize hF : forF _ _ _ _ _ = R
  obtain ⟨τ2, S2, e, x2, x3, x4, h1, h2⟩ := for_at hF (fun i τ T1 => ∃ x2 x3 x4, τ = [some (bT b), some (.ref S.length), x2, x3, x4, none, none] ∧ T1 = S ++ [ndD' ((b.cs.take i).map fun c => (c.w, needC c))])
    ⟨none, none, none, rfl, rfl⟩ (by
    intro i c τ T1 ex hI
    obtain ⟨x2, x3, x4, rfl, rfl⟩ := hI
    have hcm := List.mem_of_getElem? ex
    have gz := G.w.gz c hcm
    have vo := G.vo c hcm
    have hi := (List.getElem?_eq_some_iff.mp ex).1
    have et : (b.cs.take (i + 1)).map (fun c => (c.w, needC c)) = (b.cs.take i).map (fun c => (c.w, needC c)) ++ [(c.w, needC c)] := by
      rw [List.take_add_one, ex, List.map_append]
      rfl
    have st := set_needC (S := S) (D := (b.cs.take i).map fun c => (c.w, needC c)) (x := c.w) (by
      rw [List.map_map]
      intro z
      have nd2 := wn
      obtain ⟨d, hd, ed⟩ := List.mem_map.mp z
      have ed : d.w = c.w := ed
      obtain ⟨j, hj, ej⟩ := List.mem_iff_getElem.mp hd
      rw [List.length_take] at hj
      rw [List.getElem_take] at ej
      obtain ⟨_, ec⟩ := List.getElem?_eq_some_iff.mp ex
      have : j = i := (List.getElem_inj (h₀ := by rw [List.length_map]; omega) (h₁ := by rw [List.length_map]; exact hi) nd2).mp (by rw [List.getElem_map, List.getElem_map, ej, ec]; exact ed)
      omega) (by rw [List.length_map, List.length_take]; omega) (needC c)
    rw [et]
    generalize (b.cs.take i).map (fun c => (c.w, needC c)) = D at st ⊢
    have en : (c.g.map fun p => T.tup [prT (p.1, c.k), ahT (if p.2 = plS then some [] else none)]) = (needC c).map ndP := by
      unfold needC
      rw [List.map_map]
      rfl
    have nT : ndT (needC c) = .lst ((needC c).map ndP) := rfl
    rw [nT] at st
    refine ⟨[(2, .str c.w), (3, .str c.k), (4, .tup (c.g.map pT))], rfl, ?_⟩
    simp_arith [bStore, List.length_map, small16 (show c.g.length ≤ 200 by omega)]
    rw [lc_each1 (F := pT) (r := fun p => T.tup [prT (p.1, c.k), ahT (if p.2 = plS then some [] else none)]) fun p hp => ⟨[(5, .str p.1), (6, .str p.2)], rfl, rfl, rfl, by
      have q := SF.eq_str (vo p hp) pl_so (S ++ [ndD' D])
      have q2 : TL.eqT (S ++ [ndD' D]) (.str p.2) (.str "plain") = some (.bl (decide (p.2 = plS))) := q
      by_cases z : p.2 = plS
      · rw [decide_eq_true z] at q2
        simp_arith [fTupE, small16 (show 2 ≤ 200 by omega), small16 (show 0 ≤ 200 by omega), q2, fIf, if_pos z]
        rfl
      · rw [decide_eq_false z] at q2
        simp_arith [fTupE, small16 (show 2 ≤ 200 by omega), small16 (show 0 ≤ 200 by omega), q2, fIf, if_neg z]
        rfl⟩]
    simp_arith [en, bStore, st]
    exact goes_nx ⟨_, _, _, rfl, rfl⟩)
  rw [List.take_length] at h2
  subst e h1 h2
  simp_arith []
  exact ⟨[], rfl⟩
theorem goal_of_close_ok {b : Bk} (G : GC b) {row : List Str} (X : RO b 60 row) (S : Sto) : m_goal_of_close [bT b, SF.tS row] S = .ok (prsT (goalC b row)) S := by
  have za : b.asp.length ≤ 6 := G.w.asz
  have hc := chains_behind_ok G (xs := row) (fun x hx => .inl (X.wok G.w x hx)) S
  have i0 : ∀ S, ixT S (bT b) (.int 0) = some (SF.tS b.asp) := fun _ => rfl
  unfold m_goal_of_close b_goal_of_close
  generalize m_chains_behind = f1 at hc ⊢
  simp_arith [hc, i0, fLc2, List.length_map, show b.asp.length ≤ 1000 by omega]
  rw [lc2_img (F := T.str) (r := fun a => ((chainF b f0 row a).filter fun p => !decide (p.2 = plS)).map fun p => prT (a, p.1)) fun a ha => ⟨[(3, .str a)], (chainF b f0 row a).map pT, rfl, rfl, rfl, by simp_arith [ix_chp ha, chT], by rw [List.length_map]; have := (G.gh row a).len; omega, by
    rw [lc_img (F := pT) (P := fun p => !decide (p.2 = plS)) (r := fun p => prT (a, p.1)) fun p hp => ⟨[(4, .str p.1), (5, .str p.2)], rfl, rfl, by
      have q : TL.neT S (.str p.2) (.str "plain") = some (.bl (!decide (p.2 = plS))) := SF.ne_str ((G.gh row a).so p hp).2 pl_so S
      simp_arith [q], fun _ => by simp_arith [fTupE, small16 (show 2 ≤ 200 by omega)]; rfl⟩]⟩]
  simp_arith []
  rw [List.flatMap_def]
  unfold prsT goalC
  rw [List.map_flatten, List.map_map]
  congr 3
  refine List.map_congr_left fun a _ => ?_
  show _ = (((chainF b f0 row a).filter fun p => !decide (p.2 = plS)).map fun p => (a, p.1)).map prT
  rw [List.map_map]
  rfl
end SW
set_option Elab.async false
set_option linter.all false
set_option maxRecDepth 100000
set_option maxHeartbeats 2000000
namespace SW
open PySem PySem.Spec L2 TL SF
open PyProof.Rows hiding St
theorem needsC_ne {b : Bk} (G : GC b) (Z : SZ b) : NE (needsC b) where
  nd := by
    unfold needsC
    rw [List.map_map]
    exact G.w.gb.nd
  len := by
    unfold needsC
    rw [List.length_map]
    exact G.w.gb.len
  ln := fun q hq => by
    obtain ⟨c, hc, rfl⟩ := List.mem_map.mp hq
    show (needC c).length ≤ 6
    unfold needC
    rw [List.length_map]
    exact G.w.gz c hc
  ah := fun q hq r hr l e => by
    obtain ⟨c, hc, rfl⟩ := List.mem_map.mp hq
    obtain ⟨p, hp, rfl⟩ := List.mem_map.mp (show r ∈ c.g.map fun p => ((p.1, c.k), if p.2 = plS then some [] else none) from hr)
    by_cases z : p.2 = plS
    · simp only [if_pos z, Option.some.injEq] at e
      rw [← e]
      exact Nat.zero_le _
    · simp only [if_neg z] at e
      cases e
  so := fun q hq => by
    obtain ⟨c, hc, rfl⟩ := List.mem_map.mp hq
    exact (Z c hc).1
  wl := fun q hq => by
    obtain ⟨c, hc, rfl⟩ := List.mem_map.mp hq
    exact (Z c hc).2
theorem flat_le {α : Type} {n : Nat} : ∀ {ls : List (List α)}, (∀ l ∈ ls, l.length ≤ n) → ls.flatten.length ≤ n * ls.length
  | [], _ => by simp
  | l :: ls, h => by
    have ih := flat_le fun x hx => h x (List.mem_cons_of_mem _ hx)
    have := h l List.mem_cons_self
    rw [List.flatten_cons, List.length_append, List.length_cons, Nat.mul_add]
    omega
theorem goalC_len {b : Bk} (G : GC b) (row : List Str) : (goalC b row).length ≤ 200 := by
  have za := G.w.asz
  have h := flat_le (n := 6) (ls := b.asp.map fun a => ((chainF b f0 row a).filter fun p => !decide (p.2 = plS)).map fun p => (a, p.1)) fun l hl => by
    obtain ⟨a, _, rfl⟩ := List.mem_map.mp hl
    rw [List.length_map]
    exact Nat.le_trans (List.length_filter_le _ _) (G.gh row a).len
  rw [List.length_map] at h
  unfold goalC
  omega
theorem fd_nd' (N : Nds) (F : FE) (τ : Fr) (S : Sto) (h : F τ S = .ok (ndD' N) S) : fFd F τ S = .ok (ndsT N) S := by
  unfold fFd
  rw [h]
  rfl
section
variable {b : Bk} (G : GC b) (Z : SZ b) {row : List Str} (X : RO b 60 row) {S : Sto} (C : Cl S)
include G Z X C
theorem close_for_ok : m_close_for [bT b, SF.tS row] S = .ok (rbT (rowOrBar (needsC b) (goalC b row))) S := by
  have hn := need_row_ok G.w X S
  have nw := needs_of_close_ok G S
  have gw := goal_of_close_ok G X S
  have rb := row_or_bar_ok (needsC_ne G Z) (goalC_len G row) C
  have fd := fd_nd' (needsC b) (fCall m_needs_of_close (fCons (fVar 0) fNil)) [some (bT b), some (SF.tS row)] S (by
    generalize m_needs_of_close = f at nw ⊢
    generalize bT b = bt at *
    generalize SF.tS row = lt at *
    simp_arith [nw])
  unfold m_close_for b_close_for
  generalize fFd (fCall m_needs_of_close (fCons (fVar 0) fNil)) = ff at fd ⊢
  generalize m_need_row = f1 at hn ⊢
  generalize m_goal_of_close = f2 at gw ⊢
  generalize m_row_or_bar = f3 at rb ⊢
  generalize bT b = bt at *
  generalize SF.tS row = lt at *
  generalize ndsT (needsC b) = nt at *
  simp_arith [hn, fd, gw, rb]
theorem is_barred_ok {ws : List Str} (hs : m_are_some_words [bT b, SF.tS ws] S = .ok (.bl true) S) (hw : ∀ x ∈ ws, x ∈ b.cs.map (·.w)) (hz : ws.length ≤ 100) : m_is_barred [bT b, SF.tS row, SF.tS ws] S = .ok (.bl (barsF (needsC b) (goalC b row) ws)) S := by
  have hn := need_row_ok G.w X S
  have nw := needs_of_close_ok G S
  have gw := goal_of_close_ok G X S
  have rb := bars_ok (needsC_ne G Z) (goalC_len G row) (ws := ws) (fun x hx => by
    have := hw x hx
    unfold needsC
    rw [List.map_map]
    exact this) hz C
  have fd := fd_nd' (needsC b) (fCall m_needs_of_close (fCons (fVar 0) fNil)) [some (bT b), some (SF.tS row), some (SF.tS ws)] S (by
    generalize m_needs_of_close = f at nw ⊢
    generalize bT b = bt at *
    generalize SF.tS row = lt at *
    generalize SF.tS ws = st at *
    simp_arith [nw])
  unfold m_is_barred b_is_barred
  generalize fFd (fCall m_needs_of_close (fCons (fVar 0) fNil)) = ff at fd ⊢
  generalize m_need_row = f1 at hn ⊢
  generalize m_goal_of_close = f2 at gw ⊢
  generalize m_bars = f3 at rb ⊢
  generalize m_are_some_words = f4 at hs ⊢
  generalize bT b = bt at *
  generalize SF.tS row = lt at *
  generalize SF.tS ws = st at *
  generalize ndsT (needsC b) = nt at *
  simp_arith [hn, hs, fd, gw, rb]
theorem shortest_close_ok (h9 : b.cs.length ≤ 9) : m_shortest_close [bT b, SF.tS row] S = .ok (leT (leastF (needsC b) (goalC b row))) S := by
  have hn := need_row_ok G.w X S
  have nw := needs_of_close_ok G S
  have gw := goal_of_close_ok G X S
  have rb := least_row_ok (needsC_ne G Z) (by unfold needsC; rw [List.length_map]; exact h9) (goalC_len G row) C
  have fd := fd_nd' (needsC b) (fCall m_needs_of_close (fCons (fVar 0) fNil)) [some (bT b), some (SF.tS row)] S (by
    generalize m_needs_of_close = f at nw ⊢
    generalize bT b = bt at *
    generalize SF.tS row = lt at *
    simp_arith [nw])
  have fw : m_need_few_codes [bT b] S = .ok .non S := by
    have i2 : ∀ S, ixT S (bT b) (.int 2) = some (.tup (b.cs.map cT)) := fun _ => rfl
    have gt : ¬ (10 : Int) < b.cs.length := by omega
    unfold m_need_few_codes b_need_few_codes
    generalize bT b = bt at *
    simp_arith [i2, List.length_map, gt]
  unfold m_shortest_close b_shortest_close
  generalize fFd (fCall m_needs_of_close (fCons (fVar 0) fNil)) = ff at fd ⊢
  generalize m_need_row = f1 at hn ⊢
  generalize m_goal_of_close = f2 at gw ⊢
  generalize m_least_row = f3 at rb ⊢
  generalize m_need_few_codes = f4 at fw ⊢
  generalize bT b = bt at *
  generalize SF.tS row = lt at *
  generalize ndsT (needsC b) = nt at *
  simp_arith [hn, fw, fd, gw, rb]
end
theorem barred_no {b : Bk} (G : GC b) {row : List Str} (X : RO b 60 row) {x : T} {S : Sto} (h : m_are_some_words [bT b, x] S = .ok (.bl false) S) : m_is_barred [bT b, SF.tS row, x] S = .ok (.bl false) S := by
  have hn := need_row_ok G.w X S
  unfold m_is_barred b_is_barred
  generalize m_need_row = f1 at hn ⊢
  generalize m_are_some_words = f2 at h ⊢
  generalize m_bars = f3
  generalize m_needs_of_close = f4
  generalize m_goal_of_close = f5
  generalize bT b = bt at *
  generalize SF.tS row = lt at *
  simp_arith [hn, h]
theorem needC_mem {c : SF.Code} {r : Pr × Option (List Pr)} : r ∈ needC c ↔ ∃ p ∈ c.g, r = ((p.1, c.k), if p.2 = plS then some [] else none) := by
  unfold needC
  simp only [List.mem_map]
  exact ⟨fun ⟨p, h, e⟩ => ⟨p, h, e.symm⟩, fun ⟨p, h, e⟩ => ⟨p, h, e.symm⟩⟩
theorem getN_C {b : Bk} {x : Str} {c : SF.Code} (h : findC b.cs x = some c) : getN (needsC b) x = needC c := by
  unfold getN needsC
  rw [List.find?_map]
  have : (b.cs.find? ((fun q : Str × Need => decide (q.1 = x)) ∘ fun c => (c.w, needC c))) = some c := h
  rw [this]
  rfl
section
variable {b : Bk} (N : BN b)
include N
theorem settled_C {row : List Str} (hr : ∀ x ∈ row, x ∈ b.cs.map (·.w)) {a k : Str} : (a, k) ∈ settledByF (needsC b) row.reverse ↔ k ∈ (chainF b f0 row a).map (·.1) := by
  rw [mem_settledBy, chain_kind N hr]
  constructor
  · rintro ⟨x, hx, r, h1, e⟩
    rw [List.mem_reverse] at hx
    obtain ⟨c, hc⟩ := find_code (hr x hx)
    rw [getN_C hc, needC_mem] at h1
    obtain ⟨p, hp, rfl⟩ := h1
    simp only [Prod.mk.injEq] at e
    obtain ⟨rfl, rfl⟩ := e
    exact ⟨x, hx, c, hc, rfl, List.mem_map_of_mem hp⟩
  · rintro ⟨x, hx, c, hc, rfl, ha⟩
    obtain ⟨p, hp, rfl⟩ := List.mem_map.mp ha
    exact ⟨x, List.mem_reverse.mpr hx, _, by rw [getN_C hc, needC_mem]; exact ⟨p, hp, rfl⟩, rfl⟩
theorem legal_plain : ∀ {row : List Str}, (∀ x ∈ row, x ∈ b.cs.map (·.w)) → (∃ s, reachL (needsC b) [] row.reverse = some s) → ∀ a, ∀ p ∈ chainF b f0 row a, p.2 = plS
  | [], _, _, a, p, hp => (List.not_mem_nil hp).elim
  | x :: row, hr, ⟨s, hs⟩, a, p, hp => by
    have hr2 : ∀ y ∈ row, y ∈ b.cs.map (·.w) := fun y hy => hr y (List.mem_cons_of_mem _ hy)
    obtain ⟨c, hc⟩ := find_code (hr x List.mem_cons_self)
    rw [List.reverse_cons, reachL_app] at hs
    obtain ⟨t, h1, h2⟩ := Option.bind_eq_some_iff.mp hs
    rw [reachL_cons, getN_C hc] at h2
    have et : t = settledByF (needsC b) row.reverse := reachL_some h1
    split at h2
    · rename_i can
      rw [chain_cons N hc] at hp
      rcases List.mem_append.mp hp with hp | hp
      · exact legal_plain hr2 ⟨t, h1⟩ a p hp
      · unfold addC at hp
        cases e : c.g.find? (fun q => decide (q.1 = a)) with
        | none => rw [e] at hp; exact (List.not_mem_nil hp).elim
        | some q =>
          rw [e] at hp
          simp only at hp
          split at hp
          · exact (List.not_mem_nil hp).elim
          · rename_i hk
            rw [List.mem_singleton] at hp
            subst hp
            have hq : q.1 = a := by simpa using List.find?_some e
            have fr := List.all_eq_true.mp can _ (needC_mem.mpr ⟨q, List.mem_of_find?_eq_some e, rfl⟩)
            unfold freeP at fr
            rw [Bool.or_eq_true, inP_iff, et] at fr
            rcases fr with z | z
            · exact absurd ((settled_C N hr2).mp z) (by rw [hq]; exact hk)
            · by_cases w : q.2 = plS
              · exact w
              · simp [if_neg w] at z
    · cases h2
theorem reach_closes (G : GC b) {row ws : List Str} (hw : ∀ x ∈ ws, x ∈ b.cs.map (·.w)) (h : reachF (needsC b) (goalC b row) ws.reverse = true) : apartS b [] (row ++ ws) = none := by
  obtain ⟨s, h1, h2⟩ := reachF_iff.mp h
  have es : s = settledByF (needsC b) ws.reverse := reachL_some h1
  refine (close_iff G _).mpr fun a ha p hp => ?_
  rw [chain_rest] at hp
  rcases List.mem_append.mp hp with hp | hp
  · exact legal_plain N hw ⟨s, h1⟩ a p hp
  · unfold restS at hp
    obtain ⟨m1, m2⟩ := List.mem_filter.mp hp
    simp only [Bool.not_eq_true', decide_eq_false_iff_not] at m2
    refine Classical.byContradiction fun z => m2 ?_
    have g : (a, p.1) ∈ goalC b row := List.mem_flatten.mpr ⟨_, List.mem_map_of_mem ha, List.mem_map.mpr ⟨p, List.mem_filter.mpr ⟨m1, by simp [z]⟩, rfl⟩⟩
    have := allP_iff.mp h2 _ g
    rw [es] at this
    exact (settled_C N hw).mp this
end
end SW
set_option Elab.async false
set_option linter.all false
set_option maxRecDepth 100000
set_option maxHeartbeats 2000000
namespace SW
open PySem PySem.Spec L2 TL SF
open PyProof.Rows hiding St
structure SB (b d : Bk) : Prop where
  asp : d.asp = b.asp
  sh : d.sh = b.sh
  pm : d.cs.Perm b.cs
theorem gw_sb {b d : Bk} (W : GW b) (P : SB b d) : GW d where
  gb := ⟨by rw [P.asp]; exact W.gb.asp, by rw [P.asp]; exact W.gb.asp0, by rw [P.sh]; exact W.gb.sh, by rw [P.asp, P.sh]; exact W.gb.sub, by rw [P.sh]; exact W.gb.shz, by rw [P.pm.length_eq]; exact W.gb.len,
    fun c hc => by rw [P.asp]; exact W.gb.code c (P.pm.mem_iff.mp hc), ((P.pm.map _).nodup_iff).mpr W.gb.nd, by
      obtain ⟨K, h1, h2⟩ := W.gb.kin
      exact ⟨K, h1, fun c hc => h2 c (P.pm.mem_iff.mp hc)⟩⟩
  sg := fun c hc => W.sg c (P.pm.mem_iff.mp hc)
  gin := fun c hc => by rw [P.asp]; exact W.gin c (P.pm.mem_iff.mp hc)
  and := by rw [P.asp]; exact W.and
  gz := fun c hc => W.gz c (P.pm.mem_iff.mp hc)
  asz := by rw [P.asp]; exact W.asz
theorem gc_sb {b d : Bk} (G : GC b) (P : SB b d) : GC d := ⟨gw_sb G.w P, fun c hc => G.ko c (P.pm.mem_iff.mp hc), fun c hc => G.vo c (P.pm.mem_iff.mp hc), by
  obtain ⟨K, h1, h2⟩ := G.kin
  exact ⟨K, h1, fun c hc => h2 c (P.pm.mem_iff.mp hc)⟩⟩
theorem bn_sb {b d : Bk} (N : BN b) (P : SB b d) : BN d := ⟨fun c hc => N.gn c (P.pm.mem_iff.mp hc), ((P.pm.map _).nodup_iff).mpr N.wn⟩
theorem sz_sb {b d : Bk} (Z : SZ b) (P : SB b d) : SZ d := fun c hc => Z c (P.pm.mem_iff.mp hc)
theorem words_sb {b d : Bk} (P : SB b d) (x : Str) : x ∈ d.cs.map (·.w) ↔ x ∈ b.cs.map (·.w) := (P.pm.map _).mem_iff
theorem find_self' {b : Bk} (N : BN b) {c : SF.Code} (hc : c ∈ b.cs) : findC b.cs c.w = some c := by
  obtain ⟨d, hd⟩ := find_code (List.mem_map_of_mem (f := SF.Code.w) hc)
  obtain ⟨hdm, e⟩ := findC_in hd
  obtain ⟨i, hi, ei⟩ := List.mem_iff_getElem.mp hdm
  obtain ⟨j, hj, ej⟩ := List.mem_iff_getElem.mp hc
  have : i = j := (List.getElem_inj (h₀ := by rw [List.length_map]; exact hi) (h₁ := by rw [List.length_map]; exact hj) N.wn).mp (by rw [List.getElem_map, List.getElem_map, ei, ej]; exact e)
  subst this
  rw [hd, ← ei, ej]
theorem find_sb {b d : Bk} (N : BN b) (P : SB b d) (x : Str) : findC d.cs x = findC b.cs x := by
  cases e : findC d.cs x with
  | some c =>
    obtain ⟨h1, rfl⟩ := findC_in e
    exact (find_self' N (P.pm.mem_iff.mp h1)).symm
  | none =>
    cases e2 : findC b.cs x with
    | none => rfl
    | some c =>
      obtain ⟨h1, rfl⟩ := findC_in e2
      exact absurd (List.find?_eq_none.mp e c (P.pm.mem_iff.mpr h1)) (by simp)
theorem chain_sb {b d : Bk} (N : BN b) (P : SB b d) : ∀ (xs : List Str) (f : Str → Ch), chainF d f xs = chainF b f xs
  | [], f => rfl
  | x :: xs, f => by
    unfold chainF
    rw [find_sb N P x]
    cases findC b.cs x with
    | some c => exact chain_sb N P xs _
    | none => exact chain_sb N P xs _
theorem goal_sb {b d : Bk} (N : BN b) (P : SB b d) (row : List Str) : goalC d row = goalC b row := by
  unfold goalC
  rw [P.asp, chain_sb N P]
theorem getN_sb {b d : Bk} (N : BN b) (P : SB b d) (x : Str) : getN (needsC d) x = getN (needsC b) x := by
  cases e : findC b.cs x with
  | some c => rw [getN_C e, getN_C (by rw [find_sb N P]; exact e)]
  | none =>
    have none_of : ∀ q : Bk, findC q.cs x = none → getN (needsC q) x = [] := fun q h => by
      unfold getN needsC
      rw [List.find?_map]
      have : (q.cs.find? ((fun q : Str × Need => decide (q.1 = x)) ∘ fun c => (c.w, needC c))) = none := h
      rw [this]
      rfl
    rw [none_of b e, none_of d (by rw [find_sb N P]; exact e)]
theorem reachL_eq {M N : Nds} (h : ∀ x, getN M x = getN N x) : ∀ (ws : List Str) (s : List Pr), reachL M s ws = reachL N s ws
  | [], s => rfl
  | w :: ws, s => by rw [reachL_cons, reachL_cons, h w, reachL_eq h ws]
theorem reachF_eq {M N : Nds} (h : ∀ x, getN M x = getN N x) (goal : List Pr) (ws : List Str) : reachF M goal ws = reachF N goal ws := by
  unfold reachF
  rw [reachL_eq h]
theorem needsC_words (b : Bk) : (needsC b).map (·.1) = b.cs.map (·.w) := by
  unfold needsC
  rw [List.map_map]
  rfl
theorem bar_top {N : Nds} {goal : List Pr} {ws : List Str} (h : barsF N goal ws = true) : allP (settledByF N ws) goal = false ∧ ∀ q ∈ N, canF (settledByF N ws) q.2 = true → q.1 ∈ ws := by
  unfold barsF at h
  rw [Bool.and_eq_true, Bool.not_eq_true', Bool.not_eq_true', ← Bool.not_eq_true (b := (N.filter _).any _), List.any_eq_true] at h
  obtain ⟨h1, h2⟩ := h
  exact ⟨h1, fun q hq hc => Classical.byContradiction fun z => h2 ⟨q, List.mem_filter.mpr ⟨hq, by simpa using z⟩, hc⟩⟩
theorem getN_mem {N : Nds} (nd : (N.map (·.1)).Nodup) {q : Str × Need} (hq : q ∈ N) : getN N q.1 = q.2 := by
  unfold getN
  cases e : N.find? fun r => decide (r.1 = q.1) with
  | none => exact absurd (List.find?_eq_none.mp e q hq) (by simp)
  | some r =>
    have hr : r.1 = q.1 := by simpa using List.find?_some e
    obtain ⟨i, hi, ei⟩ := List.mem_iff_getElem.mp (List.mem_of_find?_eq_some e)
    obtain ⟨j, hj, ej⟩ := List.mem_iff_getElem.mp hq
    have : i = j := (List.getElem_inj (h₀ := by rw [List.length_map]; exact hi) (h₁ := by rw [List.length_map]; exact hj) nd).mp (by rw [List.getElem_map, List.getElem_map, ei, ej]; exact hr)
    subst this
    show r.2 = q.2
    rw [← ei, ej]
theorem bar_keeps {N : Nds} {goal : List Pr} {ws : List Str} (h : barsF N goal ws = true) (nd : (N.map (·.1)).Nodup) : ∀ (vs : List Str) (s t : List Pr), (∀ x ∈ vs, x ∈ N.map (·.1)) → (∀ p ∈ s, p ∈ settledByF N ws) → reachL N s vs = some t → (∀ p ∈ t, p ∈ settledByF N ws) ∧ ∀ x ∈ vs, x ∈ ws := by
  obtain ⟨h1, top⟩ := bar_top h
  intro vs
  induction vs with
  | nil => intro s t _ hs e; cases e; exact ⟨hs, fun x hx => (List.not_mem_nil hx).elim⟩
  | cons x vs ih =>
    intro s t hv hs e
    rw [reachL_cons] at e
    split at e
    · rename_i hc
      obtain ⟨q, hq, eq⟩ := List.mem_map.mp (hv x List.mem_cons_self)
      subst eq
      have hq2 := getN_mem nd hq
      rw [hq2] at hc e
      have hx := top q hq (canF_mono hs hc)
      obtain ⟨z1, z2⟩ := ih _ t (fun y hy => hv y (List.mem_cons_of_mem _ hy)) (fun p hp => by
        rcases mem_settleF.mp hp with hp | hp
        · exact hs p hp
        · exact mem_settledBy.mpr ⟨q.1, hx, by rw [hq2]; exact hp⟩) e
      refine ⟨z1, fun y hy => ?_⟩
      rcases List.mem_cons.mp hy with rfl | hy
      · exact hx
      · exact z2 y hy
    · cases e
theorem bar_none {N : Nds} {goal : List Pr} {ws : List Str} (h : barsF N goal ws = true) (nd : (N.map (·.1)).Nodup) {vs : List Str} (hv : ∀ x ∈ vs, x ∈ N.map (·.1)) : reachF N goal vs = false := by
  cases e : reachF N goal vs with
  | false => rfl
  | true =>
    obtain ⟨t, e1, e2⟩ := reachF_iff.mp e
    have := allP_mono (bar_keeps h nd vs [] t hv (fun p hp => (List.not_mem_nil hp).elim) e1).1 e2
    rw [(bar_top h).1] at this
    cases this
section
variable {b d : Bk} (G : GC b) (Z : SZ b) (N : BN b) (P : SB b d) {row : List Str}
include G Z N P
theorem size_told {ws : List Str} {z : Int} (wn : ws.Nodup) (ww : ∀ x ∈ ws, x ∈ b.cs.map (·.w)) (hr : reachF (needsC b) (goalC b row) ws = true) (hs : sizeS ws = z)
    (least : ∀ vs : List Str, vs.Nodup → (∀ x ∈ vs, x ∈ b.cs.map (·.w)) → reachF (needsC b) (goalC b row) vs = true → z ≤ sizeS vs) :
    (∃ l, leastF (needsC d) (goalC d row) = some l ∧ sizeS l = z ∧ (∀ x ∈ l, x ∈ d.cs.map (·.w)) ∧ l.Nodup ∧ apartS d [] (row ++ l) = none) ∧
    (rowOrBar (needsC d) (goalC d row)).1 = true ∧ (rowOrBar (needsC d) (goalC d row)).2.Nodup ∧ (∀ x ∈ (rowOrBar (needsC d) (goalC d row)).2, x ∈ d.cs.map (·.w)) ∧ apartS d [] (row ++ (rowOrBar (needsC d) (goalC d row)).2) = none := by
  have Gd := gc_sb G P
  have Nd := bn_sb N P
  have E := needsC_ne Gd (sz_sb Z P)
  have ge := getN_sb N P
  have eg := goal_sb N P row
  have rd : ∀ vs, reachF (needsC d) (goalC d row) vs = reachF (needsC b) (goalC b row) vs := fun vs => by rw [eg]; exact reachF_eq ge _ vs
  have wd : ∀ x ∈ ws, x ∈ (needsC d).map (·.1) := fun x hx => by rw [needsC_words]; exact (words_sb P x).mpr (ww x hx)
  constructor
  · obtain ⟨l, e1, e2⟩ := least_min E (goal := goalC d row) wn wd (by rw [rd]; exact hr)
    obtain ⟨L, e3⟩ := least_sound E e1
    have lw : ∀ x ∈ l, x ∈ d.cs.map (·.w) := fun x hx => by rw [← needsC_words]; exact L.sub x hx
    refine ⟨l, e1, ?_, lw, L.nd, reach_closes Nd Gd lw e3⟩
    have := least l.reverse ((List.reverse_perm l).nodup_iff.mpr L.nd) (fun x hx => (words_sb P x).mp (lw x (List.mem_reverse.mp hx))) (by rw [← rd]; exact e3)
    rw [size_perm (List.reverse_perm l)] at this
    rw [hs] at e2
    omega
  · have h1 : (rowOrBar (needsC d) (goalC d row)).1 = true := (row_or_bar_any E).mpr ⟨ws, wd, by rw [rd]; exact hr⟩
    obtain ⟨r1, r2, r3⟩ := row_or_bar_row E h1
    have lw : ∀ x ∈ (rowOrBar (needsC d) (goalC d row)).2, x ∈ d.cs.map (·.w) := fun x hx => by rw [← needsC_words]; exact r3 x hx
    exact ⟨h1, r2, lw, reach_closes Nd Gd lw r1⟩
theorem bar_size {bar ws : List Str} (hb : barsF (needsC b) (goalC b row) bar = true) (bs : bar.Pairwise fun x y => leS x y = true) (bn : bar.Nodup) (hl : ∃ s, reachL (needsC b) [] ws = some s) (hw : ∀ x, x ∈ ws ↔ x ∈ bar) (bw : ∀ x ∈ bar, x ∈ b.cs.map (·.w)) :
    leastF (needsC d) (goalC d row) = none ∧ rowOrBar (needsC d) (goalC d row) = (false, bar) := by
  have Gd := gc_sb G P
  have E := needsC_ne Gd (sz_sb Z P)
  have ge := getN_sb N P
  have eg := goal_sb N P row
  have nb : ((needsC b).map (·.1)).Nodup := by rw [needsC_words]; exact N.wn
  have rd : ∀ vs, reachF (needsC d) (goalC d row) vs = reachF (needsC b) (goalC b row) vs := fun vs => by rw [eg]; exact reachF_eq ge _ vs
  have no : ∀ vs : List Str, (∀ x ∈ vs, x ∈ (needsC d).map (·.1)) → reachF (needsC d) (goalC d row) vs = false := fun vs hv => by
    rw [rd]
    exact bar_none hb nb fun x hx => by
      have := hv x hx
      rw [needsC_words] at this ⊢
      exact (words_sb P x).mp this
  constructor
  · cases e : leastF (needsC d) (goalC d row) with
    | none => rfl
    | some l =>
      obtain ⟨L, e3⟩ := least_sound E e
      rw [no l.reverse fun x hx => L.sub x (List.mem_reverse.mp hx)] at e3
      cases e3
  · have h1 : (rowOrBar (needsC d) (goalC d row)).1 = false := by
      cases e : (rowOrBar (needsC d) (goalC d row)).1 with
      | false => rfl
      | true =>
        obtain ⟨r1, r2, r3⟩ := row_or_bar_row E e
        rw [no _ fun x hx => r3 x (List.mem_reverse.mp hx)] at r1
        cases r1
    have K := takeAll_tk E
    have h2 : (rowOrBar (needsC d) (goalC d row)).2 = sortS (takeAll (needsC d)) := by
      unfold rowOrBar at h1 ⊢
      by_cases z : allP (settledByF (needsC d) (takeAll (needsC d))) (goalC d row) = true
      · rw [if_pos z] at h1; cases h1
      · rw [if_neg z]
    have mem : ∀ x, x ∈ takeAll (needsC d) ↔ x ∈ bar := fun x => by
      constructor
      · intro hx
        have leg := K.leg
        rw [reachL_eq ge] at leg
        exact (bar_keeps hb nb _ _ _ (fun y hy => by
          have := K.sub y hy
          rw [needsC_words] at this ⊢
          exact (words_sb P y).mp this) (fun p hp => (List.not_mem_nil hp).elim) leg).2 x hx
      · intro hx
        obtain ⟨s, hs⟩ := hl
        rw [← reachL_eq ge] at hs
        exact (K.all E (vs := ws) (fun y hy => by
          rw [needsC_words]
          exact (words_sb P y).mpr (bw y ((hw y).mp hy))) (fun p hp => (List.not_mem_nil hp).elim) hs).1 x ((hw x).mpr hx)
    have hs : sortS (takeAll (needsC d)) = bar := sorted_eq bs bn (sortS_pw _) ((sortS_perm _).nodup_iff.mpr K.nd) fun x => ((sortS_perm _).mem_iff).trans (mem x)
    exact Prod.ext h1 (h2.trans hs)
theorem close_sb {y : List Str} : (apartS d [] y).isNone = b.asp.all fun a => (chainF b f0 y a).all fun p => decide (p.2 = plS) := by
  rw [Bool.eq_iff_iff, Option.isNone_iff_eq_none, close_iff (gc_sb G P), P.asp, chain_sb N P]
  simp only [List.all_eq_true, decide_eq_true_eq]
end
end SW
set_option Elab.async false
set_option linter.all false
set_option maxRecDepth 100000
set_option maxHeartbeats 2000000
namespace SW
open PySem PySem.Spec L2 TL SF
open PyProof.Rows hiding St
def b29 : Bk := ⟨["ink", "weight"], ["ink"], b32.cs.take 7⟩
theorem in29 {c : SF.Code} (h : c ∈ b29.cs) : c ∈ b32.cs := List.mem_of_mem_take h
theorem gw29 : GW b29 where
  gb := ⟨gw32.gb.asp, gw32.gb.asp0, gw32.gb.sh, gw32.gb.sub, gw32.gb.shz, by decide, fun c hc => gw32.gb.code c (in29 hc), by decide +kernel, by
    obtain ⟨K, h1, h2⟩ := gw32.gb.kin
    exact ⟨K, h1, fun c hc => h2 c (in29 hc)⟩⟩
  sg := fun c hc => gw32.sg c (in29 hc)
  gin := fun c hc => gw32.gin c (in29 hc)
  and := gw32.and
  gz := fun c hc => gw32.gz c (in29 hc)
  asz := gw32.asz
theorem gc29 : GC b29 := ⟨gw29, fun c hc => gc32.ko c (in29 hc), fun c hc => gc32.vo c (in29 hc), by
  obtain ⟨K, h1, h2⟩ := gc32.kin
  exact ⟨K, h1, fun c hc => h2 c (in29 hc)⟩⟩
def bm (m : Bool) : Bk := if m then b32 else b29
theorem gcm (m : Bool) : GC (bm m) := by
  cases m
  · exact gc29
  · exact gc32
theorem szm (m : Bool) : SZ (bm m) := by
  have h : ∀ c ∈ b32.cs, So c.w ∧ c.w.length ≤ 200 := by decide +kernel
  cases m
  · exact fun c hc => h c (in29 hc)
  · exact h
theorem bnm (m : Bool) : BN (bm m) := by
  cases m
  · exact ⟨by decide +kernel, by decide +kernel⟩
  · exact ⟨by decide +kernel, by decide +kernel⟩
def closeB (b : Bk) (y : List Str) : Bool := b.asp.all fun a => (chainF b f0 y a).all fun p => decide (p.2 = plS)
abbrev CR := List Str × List Str × Bool
def crows : List CR := [(["33"], ["39"], true), (["33"], ["0"], true), (["33"], ["22"], false), (["33"], [], false), (["33"], ["33"], false), (["33"], ["39", "33"], false), (["33"], ["33", "39"], true),
  ([], [], true), ([], ["1"], false), ([], ["22"], true), (["39"], [], true), (["33", "39"], [], true), (["38;5;208"], ["39"], false), (["38;5;208"], ["0", "0"], false),
  (["1", "33"], ["39"], false), (["1", "33"], ["22", "39"], true), (["1", "33"], ["0"], true), (["1", "2"], ["22"], true), (["33", "1", "22"], ["39"], true), (["38;5;208", "39"], [], false)]
def mrows : List CR := [(["38;5;208"], ["49"], true), (["38;5;208"], ["39"], false), (["38;5;208"], ["39", "49"], true), (["33", "38;5;208"], ["49"], false), (["33", "38;5;208"], ["39", "49"], true),
  (["38;5;208", "33"], ["49", "0"], true), (["38;5;208", "49"], [], true), (["49", "33"], ["39"], true)]
def crT (r : CR) : T := .tup [SF.tS r.1, SF.tS r.2.1, .bl r.2.2]
def allCR (m : Bool) : List CR := crows ++ if m then mrows else []
theorem cr_true (m : Bool) : ∀ r ∈ allCR m, closeB (bm m) (r.1 ++ r.2.1) = r.2.2 := by
  cases m
  · exact (show ∀ r ∈ allCR false, closeB (bm false) (r.1 ++ r.2.1) = r.2.2 by decide +kernel)
  · exact (show ∀ r ∈ allCR true, closeB (bm true) (r.1 ++ r.2.1) = r.2.2 by decide +kernel)
theorem cr_words (m : Bool) : ∀ r ∈ allCR m, (∀ x ∈ r.1, x ∈ (bm m).cs.map (·.w)) ∧ (∀ x ∈ r.2.1, x ∈ (bm m).cs.map (·.w)) ∧ r.1.length ≤ 3 ∧ r.2.1.length ≤ 3 := by
  cases m
  · exact (show ∀ r ∈ allCR false, (∀ x ∈ r.1, x ∈ (bm false).cs.map (·.w)) ∧ (∀ x ∈ r.2.1, x ∈ (bm false).cs.map (·.w)) ∧ r.1.length ≤ 3 ∧ r.2.1.length ≤ 3 by decide +kernel)
  · exact (show ∀ r ∈ allCR true, (∀ x ∈ r.1, x ∈ (bm true).cs.map (·.w)) ∧ (∀ x ∈ r.2.1, x ∈ (bm true).cs.map (·.w)) ∧ r.1.length ≤ 3 ∧ r.2.1.length ≤ 3 by decide +kernel)
theorem crows_ok (S : Sto) : m__law_closing_rows [] S = .ok (.lst (crows.map crT)) S := by kernel_rfl
theorem mrows_ok (S : Sto) : m__law_more_rows [] S = .ok (.lst (mrows.map crT)) S := by kernel_rfl
abbrev SR := List Str × Option Int
def dueT' (o : Option Int) : T := match o with
  | none => .non
  | some z => .int z
def srT (r : SR) : T := .tup [SF.tS r.1, dueT' r.2]
def srows (m : Bool) : List SR := [([], some 0), (["33"], some 3), (["1", "33"], some 3), (["2"], some 3), (["39"], some 0), (["33", "39"], some 0), (["38;5;208"], if m then some 4 else none), (["33", "38;5;208"], if m then some 7 else none),
  (["38;5;208", "1"], if m then some 7 else none), (["38;5;208", "39"], if m then some 4 else none)]
theorem srows_ok (m : Bool) (S : Sto) : m__law_sizes [.bl m] S = .ok (.lst ((srows m).map srT)) S := by cases m <;> kernel_rfl
def sizeB (b : Bk) (row ws : List Str) (z : Int) : Bool := reachF (needsC b) (goalC b row) ws && decide (sizeS ws = z) && (allRows (b.cs.map (·.w)) 2).all (fun vs => decide (z ≤ sizeS vs) || !reachF (needsC b) (goalC b row) vs) && decide (z ≤ 9) && decide ws.Nodup && decide (∀ x ∈ ws, x ∈ b.cs.map (·.w))
def wit (row : List Str) : List Str := if row = (["38;5;208"] : List Str) then ["49"] else if row = (["38;5;208", "39"] : List Str) then ["49"] else if row = (["33", "38;5;208"] : List Str) then ["0", "49"] else if row = (["38;5;208", "1"] : List Str) then ["0", "49"] else
  if row = (["33"] : List Str) then ["0"] else if row = (["1", "33"] : List Str) then ["0"] else if row = (["2"] : List Str) then ["0"] else []
abbrev bar29 : List Str := ["0", "1", "2", "22", "33", "39"]
def rowB (b : Bk) (r : SR) : Bool := match r.2 with
  | some z => sizeB b r.1 (wit r.1) z
  | none => barsF (needsC b) (goalC b r.1) bar29
theorem sr_true (m : Bool) : ∀ r ∈ srows m, rowB (bm m) r = true := by
  cases m
  · exact (show ∀ r ∈ srows false, rowB (bm false) r = true by decide +kernel)
  · exact (show ∀ r ∈ srows true, rowB (bm true) r = true by decide +kernel)
theorem sr_words (m : Bool) : ∀ r ∈ srows m, (∀ x ∈ r.1, x ∈ (bm m).cs.map (·.w)) ∧ r.1.length ≤ 3 := by
  cases m
  · exact (show ∀ r ∈ srows false, (∀ x ∈ r.1, x ∈ (bm false).cs.map (·.w)) ∧ r.1.length ≤ 3 by decide +kernel)
  · exact (show ∀ r ∈ srows true, (∀ x ∈ r.1, x ∈ (bm true).cs.map (·.w)) ∧ r.1.length ≤ 3 by decide +kernel)
theorem wd_pos (m : Bool) : ∀ x ∈ (bm m).cs.map (·.w), 1 ≤ x.length := by
  cases m
  · exact (show ∀ x ∈ (bm false).cs.map (·.w), 1 ≤ x.length by decide +kernel)
  · exact (show ∀ x ∈ (bm true).cs.map (·.w), 1 ≤ x.length by decide +kernel)
theorem size_ge {ws : List Str} : ∀ {vs : List Str}, (∀ x ∈ ws, 1 ≤ x.length) → (∀ x ∈ vs, x ∈ ws) → (3 : Int) * vs.length ≤ sizeS vs
  | [], _, _ => by simp [sizeS]
  | v :: vs, h, g => by
    have ih := size_ge (vs := vs) h fun x hx => g x (List.mem_cons_of_mem _ hx)
    have hv := h v (g v List.mem_cons_self)
    have e : sizeS (v :: vs) = ((v.length : Int) + 2) + sizeS vs := by
      unfold sizeS
      rw [List.map_cons, List.sum_cons]
    rw [e, List.length_cons]
    have : (1 : Int) ≤ v.length := by exact_mod_cast hv
    push_cast
    omega
theorem bar_leg (m : Bool) : ∃ s, reachL (needsC (bm m)) [] ["0", "22", "39", "33", "1", "2"] = some s := by
  have h : ∀ m, (reachL (needsC (bm m)) [] ["0", "22", "39", "33", "1", "2"]).isSome = true := by decide +kernel
  exact Option.isSome_iff_exists.mp (h m)
theorem bar_ws : ∀ x : Str, x ∈ (["0", "22", "39", "33", "1", "2"] : List Str) ↔ x ∈ bar29 := fun x => by
  simp only [List.mem_cons, List.not_mem_nil, or_false]
  constructor
  · rintro (h | h | h | h | h | h) <;> simp [h]
  · rintro (h | h | h | h | h | h) <;> simp [h]
theorem bar_in (m : Bool) : ∀ x ∈ bar29, x ∈ (bm m).cs.map (·.w) := by
  cases m
  · exact (show ∀ x ∈ bar29, x ∈ (bm false).cs.map (·.w) by decide +kernel)
  · exact (show ∀ x ∈ bar29, x ∈ (bm true).cs.map (·.w) by decide +kernel)
theorem sized {m : Bool} {d : Bk} (P : SB (bm m) d) {row : List Str} {z : Int} (h : sizeB (bm m) row (wit row) z = true) :
    (∃ l, leastF (needsC d) (goalC d row) = some l ∧ sizeS l = z ∧ (∀ x ∈ l, x ∈ d.cs.map (·.w)) ∧ l.Nodup ∧ apartS d [] (row ++ l) = none) ∧
    (rowOrBar (needsC d) (goalC d row)).1 = true ∧ (rowOrBar (needsC d) (goalC d row)).2.Nodup ∧ (∀ x ∈ (rowOrBar (needsC d) (goalC d row)).2, x ∈ d.cs.map (·.w)) ∧ apartS d [] (row ++ (rowOrBar (needsC d) (goalC d row)).2) = none := by
  unfold sizeB at h
  simp only [Bool.and_eq_true, decide_eq_true_eq, List.all_eq_true, Bool.or_eq_true, Bool.not_eq_true'] at h
  obtain ⟨⟨⟨⟨⟨h1, h2⟩, h3⟩, h4⟩, h5⟩, h6⟩ := h
  refine size_told (gcm m) (szm m) (bnm m) P h5 h6 h1 h2 fun vs vn vw vr => ?_
  by_cases hl : vs.length ≤ 2
  · rcases h3 vs (mem_allRows.mpr ⟨hl, vn, vw⟩) with q | q
    · exact q
    · rw [vr] at q; cases q
  · have := size_ge (wd_pos m) vw
    omega
theorem barred29 {m : Bool} {d : Bk} (P : SB (bm m) d) {row : List Str} (h : barsF (needsC (bm m)) (goalC (bm m) row) bar29 = true) : leastF (needsC d) (goalC d row) = none ∧ rowOrBar (needsC d) (goalC d row) = (false, bar29) :=
  bar_size (gcm m) (szm m) (bnm m) P h (by decide +kernel) (by decide +kernel) (bar_leg m) bar_ws (bar_in m)
end SW
set_option Elab.async false
set_option linter.all false
set_option maxRecDepth 100000
set_option maxHeartbeats 2000000
namespace SW
open PySem PySem.Spec L2 TL SF
open PyProof.Rows hiding St
abbrev FR9 (d : Bk) (m : Bool) (x2 x3 x4 x5 x6 x7 : Option T) : Fr := [some (bT d), some (.bl m), x2, x3, x4, x5, x6, x7]
theorem adds_len9 : ∀ {ks l : List Str}, ks.Nodup → (∀ k ∈ ks, k ∉ l) → (ks.foldl addS l).length = l.length + ks.length
  | [], l, _, _ => rfl
  | k :: ks, l, h, g => by
    obtain ⟨h1, h2⟩ := List.nodup_cons.mp h
    have e : addS l k = k :: l := by
      unfold addS
      rw [if_neg (g k List.mem_cons_self)]
    rw [List.foldl_cons, e, adds_len9 h2 (fun x hx z => by
      rcases List.mem_cons.mp z with z | z
      · exact h1 (z ▸ hx)
      · exact g x (List.mem_cons_of_mem _ hx) z), List.length_cons, List.length_cons]
    omega
noncomputable abbrev y1B : BS := bIf (fTest (fBin TL.neT (fBlt reprBT (fCons (fCall m_closes (fCons (fVar 0) (fCons (fVar 2) (fCons (fVar 3) fNil)))) fNil)) (fBlt reprBT (fCons (fVar 4) fNil)))) (bRet (fC (.bl false))) bNext
theorem rpB_ne (k : Bool) (S : Sto) : TL.neT S (.str (rpB k)) (.str (rpB k)) = some (.bl false) := by cases k <;> kernel_rfl
section
variable {m : Bool} {d : Bk} (P : SB (bm m) d)
include P
theorem y1_at {r : CR} (hr : r ∈ allCR m) (x5 x6 x7 : Option T) (S : Sto) : y1B (FR9 d m (some (SF.tS r.1)) (some (SF.tS r.2.1)) (some (.bl r.2.2)) x5 x6 x7) S = .nx (FR9 d m (some (SF.tS r.1)) (some (SF.tS r.2.1)) (some (.bl r.2.2)) x5 x6 x7) S := by
  obtain ⟨w1, w2, l1, l2⟩ := cr_words m r hr
  have c := closes_ok (gc_sb (gcm m) P) (row := r.1) (other := r.2.1) ⟨by omega, fun x hx => (words_sb P x).mpr (w1 x hx)⟩ ⟨by omega, fun x hx => (words_sb P x).mpr (w2 x hx)⟩ S
  have e : (apartS d [] (r.1 ++ r.2.1)).isNone = r.2.2 := by
    rw [close_sb (gcm m) (szm m) (bnm m) P]
    exact cr_true m r hr
  rw [e] at c
  have rp := repr_b r.2.2 S
  have ne := rpB_ne r.2.2 S
  generalize SF.tS r.1 = t1 at *
  generalize SF.tS r.2.1 = t2 at *
  generalize r.2.2 = k at *
  unfold y1B
  generalize m_closes = f at c ⊢
  simp_arith [c, rp, ne]
theorem y1_all (l : List CR) (h : ∀ r ∈ l, r ∈ allCR m) (S : Sto) : ∃ x2 x3 x4, forF (sTup 3 (sCons (sName 2) (sCons (sName 3) (sCons (sName 4) sNil)))) y1B (l.map crT) (FR9 d m none none none none none none) S = .nx (FR9 d m x2 x3 x4 none none none) S := by
  generalize hF : forF _ _ _ _ _ = R
  obtain ⟨τ2, S2, e, x2, x3, x4, h1, h2⟩ := for_at hF (fun i τ T1 => ∃ x2 x3 x4, τ = FR9 d m x2 x3 x4 none none none ∧ T1 = S) ⟨none, none, none, rfl, rfl⟩ (by
    intro i r τ T1 ex hI
    obtain ⟨x2, x3, x4, rfl, rfl⟩ := hI
    refine ⟨[(2, SF.tS r.1), (3, SF.tS r.2.1), (4, .bl r.2.2)], rfl, ?_⟩
    show TL.Goes (y1B (FR9 d m (some (SF.tS r.1)) (some (SF.tS r.2.1)) (some (.bl r.2.2)) none none none) T1) _
    rw [y1_at P (h r (List.mem_of_getElem? ex))]
    exact goes_nx ⟨_, _, _, rfl, rfl⟩)
  subst e h1 h2
  exact ⟨x2, x3, x4, rfl⟩
end
noncomputable abbrev y2B : BS := bSeq (bAsg (sTup 2 (sCons (sName 5) (sCons (sTup 2 (sCons (sName 6) (sCons (sName 7) sNil))) sNil))) (fTup (fCons (fCall m_shortest_close (fCons (fVar 0) (fCons (fVar 2) fNil))) (fCons (fCall m_close_for (fCons (fVar 0) (fCons (fVar 2) fNil))) fNil)))) (bSeq (bIf (fOrT (fTest (fBin TL.neT (fBin isNT (fVar 5) (fC .non)) (fBin isNT (fVar 4) (fC .non)))) (fTest (fBin TL.neT (fVar 6) (fIf (fTest (fBin isNT (fVar 4) (fC .non))) (fC (.str "bar")) (fC (.str "row")))))) (bRet (fC (.bl false))) bNext) (bSeq (bIf (fAndT (fTest (fBin isNT (fVar 4) (fC .non))) (fTest (fBin TL.neT (fVar 7) (fTup (fCons (fC (.str "0")) (fCons (fC (.str "1")) (fCons (fC (.str "2")) (fCons (fC (.str "22")) (fCons (fC (.str "33")) (fCons (fC (.str "39")) fNil)))))))))) (bRet (fC (.bl false))) bNext) (bSeq (bIf (fTest (fBin isNT (fVar 4) (fC .non))) (fun τ S => .ct τ S) bNext) (bSeq (bIf (fOrT (fTest (fBin TL.neT (fCall m_size_of (fCons (fVar 0) (fCons (fVar 5) fNil))) (fVar 4))) (fOrT (fNotT (fTru (fCall m_closes (fCons (fVar 0) (fCons (fVar 2) (fCons (fVar 5) fNil)))))) (fNotT (fTru (fCall m_closes (fCons (fVar 0) (fCons (fVar 2) (fCons (fVar 7) fNil)))))))) (bRet (fC (.bl false))) bNext) (bIf (fTest (fBin ltT (fLenX (fSetT (fCons (fVar 7) fNil))) (fBlt lenT (fCons (fVar 7) fNil)))) (bRet (fC (.bl false))) bNext)))))
theorem y2_some {bt rt lt : T} {z : Int} {ws : List Str} {x5 x6 x7 x3 : Option T} {mt : T} {S : Sto} (h1 : m_shortest_close [bt, rt] S = .ok lt S) (h2 : m_close_for [bt, rt] S = .ok (.tup [.str "row", SF.tS ws]) S) (h3 : isNT S lt .non = some (.bl false)) (h4 : m_size_of [bt, lt] S = .ok (.int z) S)
    (h5 : m_closes [bt, rt, lt] S = .ok (.bl true) S) (h6 : m_closes [bt, rt, SF.tS ws] S = .ok (.bl true) S) (hn : ws.Nodup) (hz : ws.length ≤ 60) : ∃ y5 y6 y7, y2B [some bt, some mt, some rt, x3, some (.int z), x5, x6, x7] S = .nx [some bt, some mt, some rt, x3, some (.int z), y5, y6, y7] S := by
  have i1 : isNT S (.int z) .non = some (.bl false) := rfl
  have e1 : TL.neT S (.str "row") (.str "row") = some (.bl false) := by kernel_rfl
  have tl : tupL (SF.tS ws) = some (ws.map T.str) := rfl
  have st := SF.strsT_map ws
  have sb : ws.length + 1 < scanBound := Nat.lt_of_le_of_lt (Nat.succ_le_succ hz) (by decide)
  have ad : (ws.foldl addS []).length = ws.length := by
    rw [adds_len9 hn fun k _ h => List.not_mem_nil h]
    simp
  have lw : lenT S [SF.tS ws] = some (.int ws.length) := by
    show some (T.int (ws.map T.str).length) = _
    rw [List.length_map]
  unfold y2B
  generalize m_shortest_close = f1 at h1 ⊢
  generalize m_close_for = f2 at h2 ⊢
  generalize m_size_of = f3 at h4 ⊢
  generalize m_closes = f4 at h5 h6 ⊢
  generalize SF.tS ws = wt at *
  simp_arith [h1, h2, h3, i1, ne_bb, e1, fIf, small16 (show 2 ≤ 200 by omega), h4, TL.ne_int, h5, h6, fLenX, fSetT, tl, st, sb, ad, lw, TL.lt_int, decide_eq_false (Int.lt_irrefl (ws.length : Int))]
  exact ⟨_, _, _, rfl⟩
theorem ne_bar (S : Sto) : TL.neT S (SF.tS bar29) (.tup [.str "0", .str "1", .str "2", .str "22", .str "33", .str "39"]) = some (.bl false) := by kernel_rfl
theorem y2_none {bt rt : T} {x5 x6 x7 x3 : Option T} {mt : T} {S : Sto} (h1 : m_shortest_close [bt, rt] S = .ok .non S) (h2 : m_close_for [bt, rt] S = .ok (.tup [.str "bar", SF.tS bar29]) S) : ∃ y5 y6 y7, y2B [some bt, some mt, some rt, x3, some .non, x5, x6, x7] S = .ct [some bt, some mt, some rt, x3, some .non, y5, y6, y7] S := by
  have i1 : isNT S .non .non = some (.bl true) := rfl
  have e1 : TL.neT S (.str "bar") (.str "bar") = some (.bl false) := by kernel_rfl
  have nb := ne_bar S
  unfold y2B
  generalize m_shortest_close = f1 at h1 ⊢
  generalize m_close_for = f2 at h2 ⊢
  generalize m_size_of = f3
  generalize m_closes = f4
  generalize SF.tS bar29 = wt at *
  simp_arith [h1, h2, i1, ne_bb, e1, fIf, small16 (show 2 ≤ 200 by omega), small16 (show 6 ≤ 200 by omega), nb]
  exact ⟨_, _, _, rfl⟩
end SW
set_option Elab.async false
set_option linter.all false
set_option maxRecDepth 100000
set_option maxHeartbeats 2000000
namespace SW
open PySem PySem.Spec L2 TL SF
open PyProof.Rows hiding St
theorem rb_row {rb : Bool × List Str} (h : rb.1 = true) : rbT rb = .tup [.str "row", SF.tS rb.2] := by
  unfold rbT
  rw [h]
  rfl
section
variable {m : Bool} {d : Bk} (P : SB (bm m) d)
include P
theorem len_d : d.cs.length ≤ 8 := by
  rw [P.pm.length_eq]
  cases m
  · exact (show (bm false).cs.length ≤ 8 by decide)
  · exact (show (bm true).cs.length ≤ 8 by decide)
theorem ro_d {l : List Str} (nd : l.Nodup) (hl : ∀ x ∈ l, x ∈ d.cs.map (·.w)) : RO d 60 l := ⟨by
  have := nodup_len nd hl
  rw [List.length_map] at this
  have := len_d P
  omega, hl⟩
theorem closes_at {row l : List Str} (X : RO d 60 row) (L : RO d 60 l) (h : apartS d [] (row ++ l) = none) (S : Sto) : m_closes [bT d, SF.tS row, SF.tS l] S = .ok (.bl true) S := by
  have c := closes_ok (gc_sb (gcm m) P) X L S
  rw [h] at c
  exact c
theorem y2_all {S : Sto} (C : Cl S) (x2 x3 x4 : Option T) : ∃ y2 y4 y5 y6 y7, forF (sTup 2 (sCons (sName 2) (sCons (sName 4) sNil))) y2B ((srows m).map srT) (FR9 d m x2 x3 x4 none none none) S = .nx (FR9 d m y2 x3 y4 y5 y6 y7) S := by
  generalize hF : forF _ _ _ _ _ = R
  obtain ⟨τ2, S2, e, y2, y4, y5, y6, y7, h1, h2⟩ := for_at hF (fun i τ T1 => ∃ y2 y4 y5 y6 y7, τ = FR9 d m y2 x3 y4 y5 y6 y7 ∧ T1 = S) ⟨x2, x4, none, none, none, rfl, rfl⟩ (by
    intro i r τ T1 ex hI
    obtain ⟨y2, y4, y5, y6, y7, rfl, rfl⟩ := hI
    have hr := List.mem_of_getElem? ex
    obtain ⟨w1, l1⟩ := sr_words m r hr
    have tr := sr_true m r hr
    obtain ⟨row, due⟩ := r
    have Gd := gc_sb (gcm m) P
    have Zd := sz_sb (szm m) P
    have l8 := len_d P
    have X : RO d 60 row := ⟨by show row.length ≤ 60; exact Nat.le_trans l1 (by decide), fun x hx => (words_sb P x).mpr (w1 x hx)⟩
    have s1 := shortest_close_ok Gd Zd X C (by omega)
    have c1 := close_for_ok Gd Zd X C
    refine ⟨[(2, SF.tS row), (4, dueT' due)], rfl, ?_⟩
    show TL.Goes (y2B [some (bT d), some (.bl m), some (SF.tS row), x3, some (dueT' due), y5, y6, y7] T1) _
    cases due with
    | some z =>
      obtain ⟨⟨l, e1, e2, e3, e4, e5⟩, r1, r2, r3, r4⟩ := sized P (show sizeB (bm m) row (wit row) z = true from tr)
      rw [e1] at s1
      rw [rb_row r1] at c1
      have L := ro_d P e4 e3
      have M := ro_d P r2 r3
      have so := size_of_ok Gd.w L (fun x hx => by
        obtain ⟨c, hc, rfl⟩ := List.mem_map.mp (e3 x hx)
        exact (Zd c hc).2) T1
      rw [e2] at so
      obtain ⟨z5, z6, z7, q⟩ := y2_some (mt := .bl m) (x3 := x3) (x5 := y5) (x6 := y6) (x7 := y7) s1 c1 rfl so (closes_at P X L e5 T1) (closes_at P X M r4 T1) r2 M.len
      have dz : dueT' (some z) = .int z := rfl
      rw [dz, q]
      exact goes_nx ⟨_, _, _, _, _, rfl, rfl⟩
    | none =>
      obtain ⟨e1, e2⟩ := barred29 P (show barsF (needsC (bm m)) (goalC (bm m) row) bar29 = true from tr)
      rw [e1] at s1
      rw [e2] at c1
      obtain ⟨z5, z6, z7, q⟩ := y2_none (mt := .bl m) (x3 := x3) (x5 := y5) (x6 := y6) (x7 := y7) s1 c1
      have dz : dueT' none = .non := rfl
      rw [dz, q]
      exact show TL.Goes (.ct _ T1) _ from ⟨_, _, _, _, _, rfl, rfl⟩)
  subst e h1 h2
  exact ⟨y2, y4, y5, y6, y7, rfl⟩
theorem right29 {S : Sto} (C : Cl S) : m__law_right_k29 [bT d, .bl m] S = .ok (.bl true) S := by
  suffices H : ∃ J, body ["book", "is_more", "row", "other", "due", "found", "way", "words"] 2 b__law_right_k29 [bT d, .bl m] S = .ok (.bl true) (S ++ J) by
    obtain ⟨J, h⟩ := H
    unfold m__law_right_k29
    exact gc_pure ⟨J, h⟩ rfl
  have e0 : b__law_right_k29 = bSeq (bFor (fiA (fBin addT (fCall m__law_closing_rows fNil) (fIf (fTru (fVar 1)) (fCall m__law_more_rows fNil) (fCell (fLstN fNil))))) (sTup 3 (sCons (sName 2) (sCons (sName 3) (sCons (sName 4) sNil)))) y1B) (bSeq (bFor (fiA (fCall m__law_sizes (fCons (fVar 1) fNil))) (sTup 2 (sCons (sName 2) (sCons (sName 4) sNil))) y2B) (bRet (fC (.bl true)))) := rfl
  rw [e0]
  have c1 := crows_ok
  have c2 := mrows_ok
  have c3 := srows_ok m
  have y1 := fun (l : List CR) h S => y1_all P l h S
  have y2 := fun {S : Sto} (C : Cl S) x2 x3 x4 => y2_all P C x2 x3 x4
  generalize y1B = B1 at y1 ⊢
  generalize y2B = B2 at y2 ⊢
  generalize m__law_closing_rows = f1 at c1 ⊢
  generalize m__law_more_rows = f2 at c2 ⊢
  generalize m__law_sizes = f3 at c3 ⊢
  have lc : crows.length = 20 := rfl
  have lm : mrows.length = 8 := rfl
  have ls : (srows m).length = 10 := rfl
  cases m with
  | true =>
    have ad : addT S (.lst (crows.map crT)) (.lst (mrows.map crT)) = some (.lst ((crows ++ mrows).map crT)) := by
      rw [add_lst (small16 (by rw [List.length_map, List.length_map, lc, lm]; decide)), List.map_append]
    obtain ⟨x2, x3, x4, q1⟩ := y1 (crows ++ mrows) (fun r hr => hr) S
    obtain ⟨z2, z4, z5, z6, z7, q2⟩ := y2 C x2 x3 x4
    simp_arith [c1, c2, fIf, ad, List.length_map, List.length_append, lc, lm, small16 (show 20 + 8 ≤ 200 by omega)]
    rw [q1]
    simp_arith [c3, List.length_map, ls]
    rw [q2]
    simp_arith []
    exact ⟨[], by simp⟩
  | false =>
    have C2 : Cl (S ++ [.lst []]) := Cl.app C (Cl.cons rfl Cl.nil)
    have pl : plnL (S ++ [T.lst []]) (.ref S.length) = some [] := by simp only [plnL, sto_end]
    have ad : addT (S ++ [T.lst []]) (.lst (crows.map crT)) (.ref S.length) = some (.lst (crows.map crT)) := by
      have z : (crows.map crT).length + ([] : List T).length ≤ sizeLine := small16 (by rw [List.length_map, lc]; decide)
      have q : addT (S ++ [T.lst []]) (.lst (crows.map crT)) (.ref S.length) = (match plnL (S ++ [T.lst []]) (.lst (crows.map crT)), plnL (S ++ [T.lst []]) (.ref S.length) with | some a, some b => if a.length + b.length ≤ sizeLine then some (T.lst (a ++ b)) else none | _, _ => none) := rfl
      rw [q, pl]
      show (if (crows.map crT).length + ([] : List T).length ≤ sizeLine then some (T.lst (crows.map crT ++ [])) else none) = _
      rw [if_pos z, List.append_nil]
    obtain ⟨x2, x3, x4, q1⟩ := y1 crows (fun r hr => by show r ∈ crows ++ []; rw [List.append_nil]; exact hr) (S ++ [.lst []])
    obtain ⟨z2, z4, z5, z6, z7, q2⟩ := y2 C2 x2 x3 x4
    simp_arith [c1, fIf, small16 (show 0 ≤ 200 by omega), ad, List.length_map, lc, small16 (show 20 ≤ 200 by omega)]
    rw [q1]
    simp_arith [c3, List.length_map, ls]
    rw [q2]
    simp_arith []
    exact ⟨_, rfl⟩
end
end SW
set_option Elab.async false
set_option linter.all false
set_option maxRecDepth 100000
set_option maxHeartbeats 2000000
namespace SW
open PySem PySem.Spec L2 TL SF
open PyProof.Rows hiding St
abbrev FM9 (st x2 x3 x4 x5 x6 x7 x8 x9 x10 : Option T) : Fr := [st, some (.ref 1), x2, x3, x4, x5, x6, x7, x8, x9, x10]
section
variable {cs : List Int} {R : Sto}
theorem l8 (ls : List Int) (a : Nat) (x : List T) (y : T) : lstAt (S2 ls cs a (R ++ [.lst x, y])) (R.length + 2) = some x := lst_S2 ls cs a R [y] x
theorem at9 (ls : List Int) (a : Nat) (x y : T) : (S2 ls cs a (R ++ [x, y]))[R.length + 3]? = some y := by
  show (R ++ [x, y])[R.length + 1]? = _
  rw [List.getElem?_append_right (by omega), Nat.add_sub_cancel_left]
  rfl
theorem l9 (ls : List Int) (a : Nat) (x : T) (y : List T) : lstAt (S2 ls cs a (R ++ [x, .lst y])) (R.length + 3) = some y := by
  unfold lstAt
  rw [at9]
theorem s8 (ls : List Int) (a : Nat) (x y z : T) : (S2 ls cs a (R ++ [x, y])).set (R.length + 2) z = S2 ls cs a (R ++ [z, y]) := set_S2 ls cs a R [y] x z
theorem s9 (ls : List Int) (a : Nat) (x y z : T) : (S2 ls cs a (R ++ [x, y])).set (R.length + 3) z = S2 ls cs a (R ++ [x, z]) := by
  simp [S2]
theorem len8 (ls : List Int) (a : Nat) (x : List T) (y : T) : lenT (S2 ls cs a (R ++ [.lst x, y])) [.ref (R.length + 2)] = some (.int x.length) := len_tup0 _ _ _ (at_S2 ls cs a R [y] (.lst x))
end
theorem erase_map {α β : Type} (f : α → β) : ∀ (l : List α) (i : Nat), (l.map f).eraseIdx i = (l.eraseIdx i).map f
  | [], _ => rfl
  | x :: l, 0 => rfl
  | x :: l, i + 1 => by simp only [List.map_cons, List.eraseIdx_cons_succ, erase_map f l i]
theorem erase_perm {α : Type} : ∀ {l : List α} {i : Nat} {c : α}, l[i]? = some c → (c :: l.eraseIdx i).Perm l
  | [], i, c, h => by simp at h
  | x :: l, 0, c, h => by
    simp only [List.getElem?_cons_zero, Option.some.injEq] at h
    subst h
    exact List.Perm.refl _
  | x :: l, i + 1, c, h => by
    simp only [List.getElem?_cons_succ] at h
    rw [List.eraseIdx_cons_succ]
    exact (List.Perm.swap x c _).trans ((erase_perm h).cons x)
noncomputable abbrev y3B : BS := bExpr (fApp (fVar 9) (fCons (fCM opPop (fVar 8) (fCons (fCall m__law_draw (fCons (fVar 1) (fCons (fBlt lenT (fCons (fVar 8) fNil)) fNil))) fNil)) fNil))
theorem pop_step {cs : List Int} (hc : cs ≠ []) {R : Sto} {rest got : List SF.Code} (h0 : rest ≠ []) (hz : rest.length ≤ 100 ∧ got.length ≤ 100) (st x2 x3 x4 x5 x6 x7 x10 : Option T) (ls : List Int) (a : Nat) (hl : ls.length = cs.length) (ha : a + 1 ≤ 2 ^ 60) :
    ∃ (ls' : List Int) (a' r : Nat) (c : SF.Code), rest[r]? = some c ∧ ls'.length = cs.length ∧ a' ≤ a + 1 ∧ y3B (FM9 st x2 x3 x4 x5 x6 x7 (some (.ref (R.length + 2))) (some (.ref (R.length + 3))) x10) (S2 ls cs a (R ++ [.lst (rest.map cT), .lst (got.map cT)])) =
      .nx (FM9 st x2 x3 x4 x5 x6 x7 (some (.ref (R.length + 2))) (some (.ref (R.length + 3))) x10) (S2 ls' cs a' (R ++ [.lst ((rest.eraseIdx r).map cT), .lst ((got ++ [c]).map cT)])) := by
  have hp : 0 < rest.length := List.length_pos_iff.mpr h0
  obtain ⟨_, ls1, a1, d1, ⟨r, rfl, hr⟩, l1, b1⟩ := draw_dq (R := R ++ [.lst (rest.map cT), .lst (got.map cT)]) hc (m := (rest.length : Nat)) (by omega) ls a hl ha
  have hr2 : r < rest.length := by omega
  obtain ⟨c, hcx⟩ : ∃ c, rest[r]? = some c := ⟨_, List.getElem?_eq_getElem hr2⟩
  refine ⟨ls1, a1, r, c, hcx, l1, b1, ?_⟩
  have popA : ∀ S, opPop S (rest.map cT) [.int (r : Nat)] = some (cT c, (rest.map cT).eraseIdx r) := fun S => pop_at (by rw [List.getElem?_map, hcx]; rfl) S (by rw [List.length_map]; omega)
  have em : (rest.map cT).eraseIdx r = (rest.eraseIdx r).map cT := erase_map cT rest r
  rw [em] at popA
  have dl : (got.map cT).length < sizeLine := small16' (by rw [List.length_map]; omega)
  have ln := len8 (cs := cs) (R := R) ls a (rest.map cT) (.lst (got.map cT))
  rw [List.length_map] at ln
  have dm : got.map cT ++ [cT c] = (got ++ [c]).map cT := by rw [List.map_append]; rfl
  unfold y3B
  generalize m__law_draw = f at d1 ⊢
  generalize opPop = oP at popA ⊢
  simp_arith [fCM, refD_ref, l8, l9, lstD_some, ln, d1, popA, cmEnd_some, s8, dl, s9, dm]
theorem pop_loop {cs : List Int} (hc : cs ≠ []) {R : Sto} {base : List SF.Code} (hn : base.length ≤ 100) (st x2 x3 x4 x5 x6 x7 x10 : Option T) (ls : List Int) (a : Nat) (hl : ls.length = cs.length) (ha : a + base.length ≤ 2 ^ 60) :
    ∃ (ls' : List Int) (a' : Nat) (y7 : Option T) (got : List SF.Code), got.Perm base ∧ ls'.length = cs.length ∧ a' ≤ a + base.length ∧ forF (sName 7) y3B (rng 0 (base.length : Nat)) (FM9 st x2 x3 x4 x5 x6 x7 (some (.ref (R.length + 2))) (some (.ref (R.length + 3))) x10) (S2 ls cs a (R ++ [.lst (base.map cT), .lst []])) =
      .nx (FM9 st x2 x3 x4 x5 x6 y7 (some (.ref (R.length + 2))) (some (.ref (R.length + 3))) x10) (S2 ls' cs a' (R ++ [.lst [], .lst (got.map cT)])) := by
  generalize hF : forF _ _ _ _ _ = R2
  obtain ⟨τ2, S3, e, ls', a', y7, rest, got, h1, h2, h3, h4, h5, h6⟩ := for_go hF (fun i τ T1 => ∃ (ls' : List Int) (a' : Nat) (y7 : Option T) (rest got : List SF.Code), τ = FM9 st x2 x3 x4 x5 x6 y7 (some (.ref (R.length + 2))) (some (.ref (R.length + 3))) x10 ∧ T1 = S2 ls' cs a' (R ++ [.lst (rest.map cT), .lst (got.map cT)]) ∧ (got ++ rest).Perm base ∧ got.length = i ∧ ls'.length = cs.length ∧ a' ≤ a + i)
    ⟨ls, a, x7, base, [], rfl, rfl, List.Perm.refl _, rfl, hl, Nat.le_refl _⟩ (by
    intro i y τ T1 hx hI
    obtain ⟨ls', a', y7, rest, got, rfl, rfl, p, dl, hl', ha'⟩ := hI
    obtain ⟨hi, rfl⟩ := rng_at hx
    have hi : i < base.length := by omega
    have pl := p.length_eq
    rw [List.length_append, dl] at pl
    obtain ⟨ls2, a2, r, c, hcx, l2, b2, q⟩ := pop_step hc (R := R) (rest := rest) (got := got) (fun z => by rw [z] at pl; simp at pl; omega) (by omega) st x2 x3 x4 x5 x6 (some (.int i)) x10 ls' a' hl' (by omega)
    refine ⟨_, rfl, ?_⟩
    show TL.Goes (y3B (FM9 st x2 x3 x4 x5 x6 (some (.int i)) (some (.ref (R.length + 2))) (some (.ref (R.length + 3))) x10) _) _
    rw [q]
    refine goes_nx ⟨ls2, a2, _, rest.eraseIdx r, got ++ [c], rfl, rfl, ?_, by rw [List.length_append, dl]; rfl, l2, by omega⟩
    refine List.Perm.trans ?_ p
    rw [List.append_assoc]
    refine List.Perm.append_left got ?_
    exact erase_perm hcx)
  have rl : (rng 0 ((base.length : Nat) : Int)).length = base.length := by rw [rng_nat]; simp
  rw [rl] at h4 h6
  have pl := h3.length_eq
  rw [List.length_append, h4] at pl
  have er : rest = [] := List.length_eq_zero_iff.mp (by omega)
  subst er
  rw [List.append_nil] at h3
  subst e h1 h2
  exact ⟨ls', a', y7, got, h3, h5, h6, rfl⟩
end SW
set_option Elab.async false
set_option linter.all false
set_option maxRecDepth 100000
set_option maxHeartbeats 4000000
namespace SW
open PySem PySem.Spec L2 TL SF
open PyProof.Rows hiding St
def mT (m : Bool) : T := if m then .tup [.tup [.str "49", .str "many", .tup [.tup [.str "ink", .str "plain"]]]] else .tup []
theorem hand29 (m : Bool) (S : Sto) : m__law_hand_book_k32 [mT m] S = .ok (bT (bm m)) S := by cases m <;> kernel_rfl
theorem more_ne (m : Bool) (S : Sto) : TL.neT S (mT m) (.tup []) = some (.bl m) := by cases m <;> kernel_rfl
theorem cl_S2R {ls cs : List Int} {a : Nat} {R : Sto} (h : Cl R) : Cl (S2 ls cs a R) := by
  have hi : ∀ l : List Int, noDs (l.map T.int) = true := fun l => by
    induction l with
    | nil => rfl
    | cons x l ih => rw [List.map_cons]; simp only [noDs, ih, noD, Bool.and_true]
  have h2 : noD (.lst (cs.map T.int)) = true := hi cs
  have h3 : R.all noDc = true := h
  show (noDs (ls.map T.int) && (noDs [.lst (cs.map T.int), .ref 0, .int a, .int 0] && R.all noDc)) = true
  simp only [hi, noDs, h2, noD, h3, Bool.and_true]
theorem noD_cTs (l : List SF.Code) : noDs (l.map cT) = true := by
  have hp : ∀ g : List (Str × Str), noDs (g.map pT) = true := fun g => by
    induction g with
    | nil => rfl
    | cons p g ih => rw [List.map_cons]; simp only [noDs, ih, Bool.and_true]; rfl
  induction l with
  | nil => rfl
  | cons c l ih =>
    rw [List.map_cons]
    have h : noD (cT c) = true := by
      show noDs [.str c.w, .str c.k, .tup (c.g.map pT)] = true
      have := hp c.g
      simp only [noDs, noD, this, Bool.and_true]
    simp only [noDs, ih, h, Bool.and_true]
noncomputable abbrev y4B : BS := bSeq (bSet 5 (fCall m__law_hand_book_k32 (fCons (fVar 4) fNil))) (bSeq (bPar 8 9 (fCons (fCell (fBlt listT (fCons (fBin ixT (fVar 5) (fC (.int 2))) fNil))) (fCons (fCell (fLstN fNil)) fNil))) (bSeq (bFor (fiR1 (fCons (fBlt lenT (fCons (fVar 8) fNil)) fNil)) (sName 7) y3B) (bIf (fNotT (fTru (fCall m__law_right_k29 (fCons (fBin addT (fSl (fVar 5) foN (foS (fC (.int 2)))) (fTup (fCons (fBlt tupT (fCons (fVar 9) fNil)) fNil))) (fCons (fBin TL.neT (fVar 4) (fTup fNil)) fNil))))) (bRet (fC (.bl false))) bNext)))
theorem turn29 {cs : List Int} (hc : cs ≠ []) (m : Bool) {R : Sto} (C : Cl R) (st x2 x3 x5 x6 x7 x8 x9 x10 : Option T) (ls : List Int) (a : Nat) (hl : ls.length = cs.length) (ha : a + 100 ≤ 2 ^ 60) :
    ∃ (ls' : List Int) (a' : Nat) (R' : Sto) (y5 y7 y8 y9 : Option T), ls'.length = cs.length ∧ a' ≤ a + 8 ∧ Cl R' ∧ y4B (FM9 st x2 x3 (some (mT m)) x5 x6 x7 x8 x9 x10) (S2 ls cs a R) = .nx (FM9 st x2 x3 (some (mT m)) y5 x6 y7 y8 y9 x10) (S2 ls' cs a' R') := by
  have n8 : (bm m).cs.length ≤ 8 := by
    cases m
    · exact (show (bm false).cs.length ≤ 8 by decide)
    · exact (show (bm true).cs.length ≤ 8 by decide)
  obtain ⟨ls', a', y7, got, p, l1, b1, q⟩ := pop_loop hc (R := R) (base := (bm m).cs) (by omega) st x2 x3 (some (mT m)) (some (bT (bm m))) x6 x7 x10 ls a hl (by omega)
  have P : SB (bm m) ⟨(bm m).asp, (bm m).sh, got⟩ := ⟨rfl, rfl, p⟩
  have CR : Cl (R ++ [.lst [], .lst (got.map cT)]) := Cl.app C (Cl.cons rfl (Cl.cons (noD_cTs got) Cl.nil))
  have rt := right29 P (S := S2 ls' cs a' (R ++ [.lst [], .lst (got.map cT)])) (cl_S2R CR)
  have hb := hand29 m
  have mn := more_ne m
  have i2 : ∀ S, ixT S (bT (bm m)) (.int 2) = some (.tup ((bm m).cs.map cT)) := fun _ => rfl
  have sl : ∀ S, slT S (bT (bm m)) none (some 2) = some (.tup [SF.tS (bm m).asp, SF.tS (bm m).sh]) := fun _ => rfl
  have tp : tupT (S2 ls' cs a' (R ++ [.lst [], .lst (got.map cT)])) [.ref (R.length + 3)] = some (.tup (got.map cT)) := by
    have e : (S2 ls' cs a' (R ++ [.lst [], .lst (got.map cT)]))[R.length + 3]? = some (.lst (got.map cT)) := at9 ls' a' (.lst []) (.lst (got.map cT))
    show (seqL (S2 ls' cs a' (R ++ [.lst [], .lst (got.map cT)])) (.ref (R.length + 3))).map T.tup = some (.tup (got.map cT))
    simp only [seqL, e, Option.map_some]
  have ad : ∀ S, addT S (.tup [SF.tS (bm m).asp, SF.tS (bm m).sh]) (.tup [.tup (got.map cT)]) = some (bT ⟨(bm m).asp, (bm m).sh, got⟩) := fun S => by
    exact add_tup (small16 (by show 2 + 1 ≤ 200; decide)) S
  have ln : lenT (S2 ls cs a (R ++ [.lst ((bm m).cs.map cT), .lst []])) [.ref (R.length + 2)] = some (.int (bm m).cs.length) := by
    rw [len8, List.length_map]
  have ir : TL.inR 0 (((bm m).cs.length : Nat) : Int) = true := inR_small (by omega) (by omega)
  have lt : ∀ S, listT S [.tup ((bm m).cs.map cT)] = some (.lst ((bm m).cs.map cT)) := fun _ => rfl
  have e3 : (R ++ [T.lst ((bm m).cs.map cT)]).length + 2 = R.length + 3 := by simp
  have ea : (R ++ [T.lst ((bm m).cs.map cT)]) ++ [T.lst []] = R ++ [.lst ((bm m).cs.map cT), .lst []] := by simp
  refine ⟨ls', a', _, some (bT (bm m)), y7, some (.ref (R.length + 2)), some (.ref (R.length + 3)), l1, by omega, CR, ?_⟩
  unfold y4B
  generalize y3B = B3 at q ⊢
  generalize m__law_hand_book_k32 = f1 at hb ⊢
  generalize m__law_right_k29 = f2 at rt ⊢
  generalize mT m = mt at *
  generalize bT (bm m) = bt at *
  simp_arith [hb, i2, lt, S2_app, S2_len, small16 (show 0 ≤ 200 by omega), e3, ea, ln, ir]
  rw [q]
  simp_arith [sl, tp, small16 (show 1 ≤ 200 by omega), ad, mn, rt]
theorem lcC_two {n i : Nat} {c : T} {Ft : FT} {τ : Fr} {S : Sto} (hc : S[n]? = some c) : ∀ {xs : List (T × Bool)}, (∀ x ∈ xs, Ft (setsT τ [(i, x.1)]) S = .ok x.2 S ∧ (fVar i) (setsT τ [(i, x.1)]) S = .ok x.1 S) → lcC n c (sName i) Ft (fVar i) [i] τ (xs.map (·.1)) S = .ok ((xs.filter (·.2)).map (·.1)) S
  | [], _ => by
    unfold lcC
    simp only [List.map_nil]
    rw [if_pos hc]
    rfl
  | x :: xs, h => by
    obtain ⟨h1, h2⟩ := h x List.mem_cons_self
    have ih := lcC_two hc (xs := xs) fun y hy => h y (List.mem_cons_of_mem _ hy)
    rw [List.map_cons]
    unfold lcC
    rw [if_pos hc]
    simp only [sName]
    rw [if_pos (slots1 _ _), h1, List.filter_cons]
    cases hx : x.2 with
    | true =>
      simp only [nox_ok, bind_ok, h2, ih, if_true, List.map_cons]
    | false =>
      simp only [nox_ok, bind_ok, ih]
      rfl
end SW
set_option Elab.async false
set_option linter.all false
set_option maxRecDepth 100000
set_option maxHeartbeats 4000000
namespace SW
open PySem PySem.Spec L2 TL SF
open PyProof.Rows hiding St
theorem refl29 : SB (bm false) b29 := ⟨rfl, rfl, List.Perm.refl _⟩
abbrev r33 : List Str := List.replicate 60 "33"
abbrev r39 : List Str := List.replicate 60 "39"
theorem ro60 {x : Str} (h : x ∈ b29.cs.map (·.w)) : RO b29 60 (List.replicate 60 x) := ⟨by rw [List.length_replicate]; exact Nat.le_refl _, fun y hy => by rw [(List.mem_replicate.mp hy).2]; exact h⟩
theorem cl_a (S : Sto) : m_closes [bT b29, SF.tS r33, SF.tS r39] S = .ok (.bl true) S := by
  have c := closes_ok gc29 (ro60 (x := "33") (by decide +kernel)) (ro60 (x := "39") (by decide +kernel)) S
  have e : (apartS b29 [] (r33 ++ r39)).isNone = true := by
    rw [close_sb (gcm false) (szm false) (bnm false) refl29]
    decide +kernel
  rw [e] at c
  exact c
theorem cl_b (S : Sto) : m_closes [bT b29, SF.tS r39, SF.tS r33] S = .ok (.bl false) S := by
  have c := closes_ok gc29 (ro60 (x := "39") (by decide +kernel)) (ro60 (x := "33") (by decide +kernel)) S
  have e : (apartS b29 [] (r39 ++ r33)).isNone = false := by
    rw [close_sb (gcm false) (szm false) (bnm false) refl29]
    decide +kernel
  rw [e] at c
  exact c
theorem mul33 (S : Sto) : mulTT S (.tup [.str "33"]) (.int 60) = some (SF.tS r33) := by kernel_rfl
theorem mul39 (S : Sto) : mulTT S (.tup [.str "39"]) (.int 60) = some (SF.tS r39) := by kernel_rfl
abbrev sev : List Str := ["0", "1", "2", "22", "33", "38;5;208", "39"]
abbrev L29 : List (T × Bool) := [(.tup [], false), (SF.tS bar29, true), (SF.tS ["0", "1", "2", "22", "33"], false), (SF.tS ["1", "2", "22", "33", "39", "0"], false), (.lst (bar29.map T.str), false), (.non, false), (SF.tS ["0", "22", "39"], false), (SF.tS ["0", "0"], false), (SF.tS ["7"], false), (.int 5, false), (.str "bar", false)]
abbrev M29 : List (T × Bool) := L29 ++ [(SF.tS sev, false)]
theorem ro1 {l : List Str} (h : l.length ≤ 60) (g : ∀ x ∈ l, x ∈ b29.cs.map (·.w)) : RO b29 60 l := ⟨h, g⟩
section
variable {row ws : List Str} {k : Bool} (X : RO b29 60 row)
include X
theorem bd_w (hs : ∀ S, m_are_some_words [bT b29, SF.tS ws] S = .ok (.bl true) S) (hk : barsF (needsC b29) (goalC b29 row) ws = k) (hw : ∀ x ∈ ws, x ∈ b29.cs.map (·.w)) (hz : ws.length ≤ 100) {S : Sto} (C : Cl S) : m_is_barred [bT b29, SF.tS row, SF.tS ws] S = .ok (.bl k) S := by
  have q := is_barred_ok gc29 (szm false) X C (hs S) hw hz
  rw [hk] at q
  exact q
theorem bd_n {x : T} (hs : ∀ S, m_are_some_words [bT b29, x] S = .ok (.bl false) S) (S : Sto) : m_is_barred [bT b29, SF.tS row, x] S = .ok (.bl false) S := barred_no gc29 X (hs S)
end
theorem x208 : RO b29 60 ["38;5;208"] := ro1 (by decide) (by decide +kernel)
theorem bd_all {S : Sto} (C : Cl S) : ∀ x ∈ M29, m_is_barred [bT b29, SF.tS ["38;5;208"], x.1] S = .ok (.bl x.2) S := by
  intro x hx
  simp only [M29, L29, List.mem_append, List.mem_cons, List.not_mem_nil, or_false] at hx
  rcases hx with (rfl | rfl | rfl | rfl | rfl | rfl | rfl | rfl | rfl | rfl | rfl) | rfl
  · exact bd_w (ws := []) x208 (fun _ => by kernel_rfl) (by decide +kernel) (by decide +kernel) (by decide) C
  · exact bd_w x208 (fun _ => by kernel_rfl) (by decide +kernel) (by decide +kernel) (by decide) C
  · exact bd_w x208 (fun _ => by kernel_rfl) (by decide +kernel) (by decide +kernel) (by decide) C
  · exact bd_n x208 (fun _ => by kernel_rfl) S
  · exact bd_n x208 (fun _ => by kernel_rfl) S
  · exact bd_n x208 (fun _ => by kernel_rfl) S
  · exact bd_w x208 (fun _ => by kernel_rfl) (by decide +kernel) (by decide +kernel) (by decide) C
  · exact bd_n x208 (fun _ => by kernel_rfl) S
  · exact bd_n x208 (fun _ => by kernel_rfl) S
  · exact bd_n x208 (fun _ => by kernel_rfl) S
  · exact bd_n x208 (fun _ => by kernel_rfl) S
  · exact bd_w x208 (fun _ => by kernel_rfl) (by decide +kernel) (by decide +kernel) (by decide) C
theorem bd_33 {S : Sto} (C : Cl S) : m_is_barred [bT b29, SF.tS ["33"], SF.tS bar29] S = .ok (.bl false) S := bd_w (ro1 (by decide) (by decide +kernel)) (fun _ => by kernel_rfl) (by decide +kernel) (by decide +kernel) (by decide) C
theorem bd_0 {S : Sto} (C : Cl S) : m_is_barred [bT b29, .tup [], SF.tS bar29] S = .ok (.bl false) S := bd_w (row := []) (ro1 (by decide) (by decide +kernel)) (fun _ => by kernel_rfl) (by decide +kernel) (by decide +kernel) (by decide) C
end SW
set_option Elab.async false
set_option linter.all false
set_option maxRecDepth 100000
set_option maxHeartbeats 4000000
namespace SW
open PySem PySem.Spec L2 TL SF
open PyProof.Rows hiding St
noncomputable abbrev z0 : BS := bAsg (sTup 2 (sCons (sName 5) (sCons (sName 6) sNil))) (fTup (fCons (fCall m__law_hand_book_k32 (fCons (fTup fNil) fNil)) (fCons (fTup (fCons (fC (.str "0")) (fCons (fC (.str "1")) (fCons (fC (.str "2")) (fCons (fC (.str "22")) (fCons (fC (.str "33")) (fCons (fC (.str "39")) fNil))))))) fNil)))
noncomputable abbrev z1 : BS := bIf (fTest (fBin TL.neT (fPure (fLstN (fCons (fCall m_closes (fCons (fVar 5) (fCons (fBin mulTT (fTup (fCons (fC (.str "33")) fNil)) (fC (.int 60))) (fCons (fBin mulTT (fTup (fCons (fC (.str "39")) fNil)) (fC (.int 60))) fNil)))) (fCons (fCall m_closes (fCons (fVar 5) (fCons (fBin mulTT (fTup (fCons (fC (.str "39")) fNil)) (fC (.int 60))) (fCons (fBin mulTT (fTup (fCons (fC (.str "33")) fNil)) (fC (.int 60))) fNil)))) fNil)))) (fPure (fLstN (fCons (fC (.bl true)) (fCons (fC (.bl false)) fNil)))))) (bRet (fC (.bl false))) bNext
noncomputable abbrev z2 : BS := bSet 3 (fCell (fLstN (fCons (fTup fNil) (fCons (fVar 6) (fCons (fSl (fVar 6) foN (foS (fC (.int 5)))) (fCons (fBin addT (fSl (fVar 6) (foS (fC (.int 1))) foN) (fSl (fVar 6) foN (foS (fC (.int 1))))) (fCons (fPure (fBlt listT (fCons (fVar 6) fNil))) (fCons (fC .non) (fCons (fTup (fCons (fC (.str "0")) (fCons (fC (.str "22")) (fCons (fC (.str "39")) fNil)))) (fCons (fTup (fCons (fC (.str "0")) (fCons (fC (.str "0")) fNil))) (fCons (fTup (fCons (fC (.str "7")) fNil)) (fCons (fC (.int 5)) (fCons (fC (.str "bar")) fNil)))))))))))))
noncomputable abbrev z3 : BS := bExpr (fApp (fVar 3) (fCons (fTup (fCons (fC (.str "0")) (fCons (fC (.str "1")) (fCons (fC (.str "2")) (fCons (fC (.str "22")) (fCons (fC (.str "33")) (fCons (fC (.str "38;5;208")) (fCons (fC (.str "39")) fNil)))))))) fNil))
noncomputable abbrev z4 : BS := bIf (fOrT (fTru (fCall m_is_barred (fCons (fVar 5) (fCons (fTup (fCons (fC (.str "33")) fNil)) (fCons (fVar 6) fNil))))) (fTru (fCall m_is_barred (fCons (fVar 5) (fCons (fTup fNil) (fCons (fVar 6) fNil)))))) (bRet (fC (.bl false))) bNext
noncomputable abbrev z5 : BS := bRet (fBin TL.eqT (fPure (fLcC (fiAC (fVar 3)) (sName 10) (fTru (fCall m_is_barred (fCons (fVar 5) (fCons (fTup (fCons (fC (.str "38;5;208")) fNil)) (fCons (fVar 10) fNil))))) (fVar 10) [10])) (fPure (fLstN (fCons (fVar 6) fNil))))
section
variable (st x2 x3 x4 x5 x6 x7 x8 x9 x10 : Option T) (S : Sto)
theorem z0_ok : z0 (FM9 st x2 x3 x4 x5 x6 x7 x8 x9 x10) S = .nx (FM9 st x2 x3 x4 (some (bT b29)) (some (SF.tS bar29)) x7 x8 x9 x10) S := by
  have h := hand29 false S
  have e : mT false = .tup [] := rfl
  have e2 : bm false = b29 := rfl
  rw [e, e2] at h
  have eb : T.tup [.str "0", .str "1", .str "2", .str "22", .str "33", .str "39"] = SF.tS bar29 := rfl
  unfold z0
  generalize m__law_hand_book_k32 = f at h ⊢
  generalize bT b29 = bt at *
  simp_arith [small16 (show 0 ≤ 200 by omega), h, small16 (show 6 ≤ 200 by omega), small16 (show 2 ≤ 200 by omega), eb]
theorem ne_tf (S : Sto) : TL.neT S (.lst [.bl true, .bl false]) (.lst [.bl true, .bl false]) = some (.bl false) := by kernel_rfl
theorem z1_ok (bar : Option T) : z1 (FM9 st x2 x3 x4 (some (bT b29)) bar x7 x8 x9 x10) S = .nx (FM9 st x2 x3 x4 (some (bT b29)) bar x7 x8 x9 x10) S := by
  have h1 := cl_a S
  have h2 := cl_b S
  have m1 := mul33 S
  have m2 := mul39 S
  have ne := ne_tf S
  unfold z1
  generalize m_closes = f at h1 h2 ⊢
  generalize SF.tS r33 = t33 at *
  generalize SF.tS r39 = t39 at *
  generalize bT b29 = bt at *
  simp_arith [small16 (show 1 ≤ 200 by omega), small16 (show 2 ≤ 200 by omega), m1, m2, h1, h2, ne]
theorem z2_ok (bk : Option T) : z2 (FM9 st x2 x3 x4 bk (some (SF.tS bar29)) x7 x8 x9 x10) S = .nx (FM9 st x2 (some (.ref S.length)) x4 bk (some (SF.tS bar29)) x7 x8 x9 x10) (S ++ [.lst (L29.map (·.1))]) := by
  have s1 : ∀ U, slT U (SF.tS bar29) none (some 5) = some (SF.tS ["0", "1", "2", "22", "33"]) := fun _ => by kernel_rfl
  have s2 : ∀ U, slT U (SF.tS bar29) (some 1) none = some (SF.tS ["1", "2", "22", "33", "39"]) := fun _ => by kernel_rfl
  have s3 : ∀ U, slT U (SF.tS bar29) none (some 1) = some (SF.tS ["0"]) := fun _ => by kernel_rfl
  have ad : ∀ U, addT U (SF.tS ["1", "2", "22", "33", "39"]) (SF.tS ["0"]) = some (SF.tS ["1", "2", "22", "33", "39", "0"]) := fun _ => by kernel_rfl
  have lt : ∀ U, listT U [SF.tS bar29] = some (.lst (bar29.map T.str)) := fun _ => rfl
  have eL : [T.tup [], SF.tS bar29, SF.tS ["0", "1", "2", "22", "33"], SF.tS ["1", "2", "22", "33", "39", "0"], .lst (bar29.map T.str), .non, .tup [.str "0", .str "22", .str "39"], .tup [.str "0", .str "0"], .tup [.str "7"], .int 5, .str "bar"] = L29.map (·.1) := rfl
  have zl : (L29.map (·.1)).length ≤ sizeLine := small16 (by decide)
  unfold z2
  generalize SF.tS bar29 = bt at *
  generalize SF.tS ["0", "1", "2", "22", "33"] = t5 at *
  generalize SF.tS ["1", "2", "22", "33", "39"] = t6 at *
  generalize SF.tS ["0"] = t7 at *
  generalize SF.tS ["1", "2", "22", "33", "39", "0"] = t8 at *
  generalize bar29.map T.str = tl at *
  generalize L29.map (·.1) = LL at *
  simp_arith [small16 (show 0 ≤ 200 by omega), s1, s2, s3, ad, lt, small16 (show 3 ≤ 200 by omega), small16 (show 2 ≤ 200 by omega), small16 (show 1 ≤ 200 by omega), small16 (show 11 ≤ 200 by omega), eL, zl]
theorem z3_ok (bk bar : Option T) : z3 (FM9 st x2 (some (.ref S.length)) x4 bk bar x7 x8 x9 x10) (S ++ [.lst (L29.map (·.1))]) = .nx (FM9 st x2 (some (.ref S.length)) x4 bk bar x7 x8 x9 x10) (S ++ [.lst (M29.map (·.1))]) := by
  have ll : (L29.map (·.1)).length < sizeLine := small16' (by decide)
  have es : T.tup [.str "0", .str "1", .str "2", .str "22", .str "33", .str "38;5;208", .str "39"] = SF.tS sev := rfl
  have eM : L29.map (·.1) ++ [SF.tS sev] = M29.map (·.1) := by
    show L29.map (·.1) ++ [SF.tS sev] = (L29 ++ [(SF.tS sev, false)]).map (·.1)
    rw [List.map_append]
    rfl
  unfold z3
  generalize SF.tS sev = t5 at *
  generalize L29.map (·.1) = LL at *
  generalize M29.map (·.1) = MM at *
  simp_arith [lstAt_end, small16 (show 7 ≤ 200 by omega), es, ll, sto_set, eM]
theorem noD_M : noDs (M29.map (·.1)) = true := by kernel_rfl
theorem z4_ok (C : Cl S) : z4 (FM9 st x2 x3 x4 (some (bT b29)) (some (SF.tS bar29)) x7 x8 x9 x10) S = .nx (FM9 st x2 x3 x4 (some (bT b29)) (some (SF.tS bar29)) x7 x8 x9 x10) S := by
  have h1 := bd_33 C
  have h2 := bd_0 C
  have e1 : SF.tS ["33"] = T.tup [.str "33"] := rfl
  rw [e1] at h1
  unfold z4
  generalize m_is_barred = f at h1 h2 ⊢
  generalize SF.tS bar29 = t5 at *
  generalize bT b29 = bt at *
  simp_arith [small16 (show 0 ≤ 200 by omega), small16 (show 1 ≤ 200 by omega), h1, h2]
theorem eq_bar (S : Sto) : TL.eqT S (.lst [SF.tS bar29]) (.lst [SF.tS bar29]) = some (.bl true) := by kernel_rfl
theorem z5_ok (C : Cl S) : z5 (FM9 st x2 (some (.ref S.length)) x4 (some (bT b29)) (some (SF.tS bar29)) x7 x8 x9 x10) (S ++ [.lst (M29.map (·.1))]) = .rt (.bl true) (S ++ [.lst (M29.map (·.1))]) := by
  have C2 : Cl (S ++ [.lst (M29.map (·.1))]) := Cl.app C (Cl.cons noD_M Cl.nil)
  have h := bd_all C2
  have e1 : SF.tS ["38;5;208"] = T.tup [.str "38;5;208"] := rfl
  rw [e1] at h
  have eq := eq_bar (S ++ [.lst (M29.map (·.1))])
  have fl : (M29.filter (·.2)).map (·.1) = [SF.tS bar29] := rfl
  have ll : (M29.map (·.1)).length ≤ sizeLine := small16 (by decide)
  unfold z5
  generalize m_is_barred = f at h ⊢
  have lc : ∀ x10 : Option T, lcC S.length (.lst (M29.map (·.1))) (sName 10) (fTru (fCall f (fCons (fVar 5) (fCons (fTup (fCons (fC (.str "38;5;208")) fNil)) (fCons (fVar 10) fNil))))) (fVar 10) [10] (FM9 st x2 (some (.ref S.length)) x4 (some (bT b29)) (some (SF.tS bar29)) x7 x8 x9 x10) (M29.map (·.1)) (S ++ [.lst (M29.map (·.1))]) = .ok ((M29.filter (·.2)).map (·.1)) (S ++ [.lst (M29.map (·.1))]) := fun x10 =>
    lcC_two (sto_end S (.lst (M29.map (·.1))) []) fun x hx => by
      have q := h x hx
      generalize M29.map (·.1) = MM at *
      refine ⟨?_, ?_⟩
      · simp_arith [small16 (show 1 ≤ 200 by omega), q]
      · simp_arith []
  rw [fl] at lc
  have cell : lstC (S ++ [T.lst (M29.map (·.1))]) (.ref S.length) = some (S.length, M29.map (·.1)) := lstC_ref (sto_end S (.lst (M29.map (·.1))) [])
  have lc := lc none
  generalize M29.map (·.1) = MM at *
  generalize SF.tS bar29 = t5 at *
  generalize bT b29 = bt at *
  simp_arith [cell, ll, lc, small16 (show 1 ≤ 200 by omega), eq]
end
end SW
namespace SF
open PySem PySem.Spec L2 TL
open PyProof.Rows hiding St
theorem min2b (n : Nat) (S : Sto) : minT S [.int 2, .int (n : Nat)] = some (.int ((min 2 n : Nat) : Int)) := by
  show some (T.int (if (n : Int) < 2 then (n : Int) else 2)) = _
  by_cases h : n < 2
  · rw [if_pos (by omega), Nat.min_eq_right (by omega)]
  · rw [if_neg (by omega), Nat.min_eq_left (by omega)]
    rfl
theorem law29_e : b_law_k29 = bSeq (bSet 1 (fCall m__law_begin (fCons (fVar 0) fNil))) (bSeq (bFor (fiR1 (fCons (fBin addT (fC (.int 2)) (fBlt minT (fCons (fC (.int 2)) (fCons (fBlt lenT (fCons (fVar 0) fNil)) fNil)))) fNil)) (sName 2) (bFor (fiA (fTup (fCons (fTup fNil) (fCons (fTup (fCons (fTup (fCons (fC (.str "49")) (fCons (fC (.str "many")) (fCons (fTup (fCons (fTup (fCons (fC (.str "ink")) (fCons (fC (.str "plain")) fNil))) fNil)) fNil)))) fNil)) fNil)))) (sName 4) SW.y4B))
    (bSeq SW.z0 (bSeq SW.z1 (bSeq SW.z2 (bSeq SW.z3 (bSeq SW.z4 SW.z5)))))) := rfl
theorem law29_true (ns : List Int) (hns : ns.length ≤ 63) : ∃ S, m_law_k29 [.sls (ns.map T.int)] [] = .ok (.bl true) S := by
  obtain ⟨ls0, cs, hb, hl0, hc⟩ := begin_ok hns
  have tn := fun (m : Bool) {R : Sto} (C : Cl R) (st x2 x3 x5 x6 x7 x8 x9 x10 : Option T) (ls : List Int) (a : Nat) (hl : ls.length = cs.length) (ha : a + 100 ≤ 2 ^ 60) => SW.turn29 hc m C st x2 x3 x5 x6 x7 x8 x9 x10 ls a hl ha
  unfold m_law_k29
  rw [law29_e]
  generalize m__law_begin = f1 at hb ⊢
  generalize SW.y4B = B4 at tn ⊢
  have ad : ∀ S, addT S (.int 2) (.int ((min 2 ns.length : Nat) : Int)) = some (.int ((2 + min 2 ns.length : Nat) : Int)) := fun S => by
    rw [add_int, Int.natCast_add]
    rfl
  have ir : TL.inR 0 ((2 + min 2 ns.length : Nat) : Int) = true := inR_small (by omega) (by omega)
  have fin : ∀ (st x2 x3 x4 x5 x6 x7 x8 x9 x10 : Option T) (S : Sto), Cl S → ∃ S', bSeq SW.z0 (bSeq SW.z1 (bSeq SW.z2 (bSeq SW.z3 (bSeq SW.z4 SW.z5)))) (SW.FM9 st x2 x3 x4 x5 x6 x7 x8 x9 x10) S = .rt (.bl true) S' := fun st x2 x3 x4 x5 x6 x7 x8 x9 x10 S C => by
    have C2 : Cl (S ++ [.lst (SW.M29.map (·.1))]) := Cl.app C (Cl.cons SW.noD_M Cl.nil)
    rw [seq_nx (SW.z0_ok st x2 x3 x4 x5 x6 x7 x8 x9 x10 S), seq_nx (SW.z1_ok st x2 x3 x4 x7 x8 x9 x10 S _), seq_nx (SW.z2_ok st x2 x3 x4 x7 x8 x9 x10 S _), seq_nx (SW.z3_ok st x2 x4 x7 x8 x9 x10 S _ _), seq_nx (SW.z4_ok st x2 _ x4 x7 x8 x9 x10 _ C2), SW.z5_ok st x2 x4 x7 x8 x9 x10 S C]
    exact ⟨_, rfl⟩
  generalize bSeq SW.z0 (bSeq SW.z1 (bSeq SW.z2 (bSeq SW.z3 (bSeq SW.z4 SW.z5)))) = ZZ9 at fin ⊢
  simp_arith [hb, List.length_map, min2b, ad, ir]
  generalize hF : forF _ _ _ _ _ = R2
  obtain ⟨τ2, S3, e, ls1, a1, R, x2, x3, x4, x5, x6, x7, x8, x9, x10, h1, h2, h3, h4, h5⟩ := for_go hF (fun i τ T1 => ∃ ls a R x2 x3 x4 x5 x6 x7 x8 x9 x10, T1 = S2 ls cs a R ∧ ls.length = cs.length ∧ a ≤ 1000 * i ∧ Cl R ∧ τ = SW.FM9 (some (.sls (ns.map T.int))) x2 x3 x4 x5 x6 x7 x8 x9 x10)
    ⟨ls0, 0, [], none, none, none, none, none, none, none, none, none, rfl, hl0, Nat.le_refl _, Cl.nil, rfl⟩ (by
    intro i y τ T1 hx hI
    obtain ⟨ls, a, R, x2, x3, x4, x5, x6, x7, x8, x9, x10, rfl, hl, ha, C, rfl⟩ := hI
    obtain ⟨hi, rfl⟩ := rng_at hx
    have hi : i < 100 := by omega
    refine ⟨_, rfl, ?_⟩
    obtain ⟨ls1, a1, R1, y5, y7, y8, y9, l1, b1, C1, q1⟩ := tn false C (some (.sls (ns.map T.int))) (some (.int i)) x3 x5 x6 x7 x8 x9 x10 ls a hl (by omega)
    obtain ⟨ls2, a2, R2, w5, w7, w8, w9, l2, b2, C2, q2⟩ := tn true C1 (some (.sls (ns.map T.int))) (some (.int i)) x3 y5 x6 y7 y8 y9 x10 ls1 a1 l1 (by omega)
    have m0 : SW.mT false = .tup [] := rfl
    have m1 : SW.mT true = .tup [.tup [.str "49", .str "many", .tup [.tup [.str "ink", .str "plain"]]]] := rfl
    rw [m0] at q1
    rw [m1] at q2
    have st1 : ∀ (x4 x5 x7 x8 x9 : Option T) (t : T), setsT (SW.FM9 (some (.sls (ns.map T.int))) (some (.int i)) x3 x4 x5 x6 x7 x8 x9 x10) [(4, t)] = SW.FM9 (some (.sls (ns.map T.int))) (some (.int i)) x3 (some t) x5 x6 x7 x8 x9 x10 := fun _ _ _ _ _ _ => rfl
    have inner : forF (sName 4) B4 [.tup [], .tup [.tup [.str "49", .str "many", .tup [.tup [.str "ink", .str "plain"]]]]] (SW.FM9 (some (.sls (ns.map T.int))) (some (.int i)) x3 x4 x5 x6 x7 x8 x9 x10) (S2 ls cs a R) = .nx (SW.FM9 (some (.sls (ns.map T.int))) (some (.int i)) x3 (some (.tup [.tup [.str "49", .str "many", .tup [.tup [.str "ink", .str "plain"]]]])) w5 x6 w7 w8 w9 x10) (S2 ls2 cs a2 R2) := by
      unfold forF
      simp only [sName, st1, q1]
      unfold forF
      simp only [sName, st1, q2]
      unfold forF
      rfl
    simp_arith [small16 (show 0 ≤ 200 by omega), small16 (show 1 ≤ 200 by omega), small16 (show 2 ≤ 200 by omega), small16 (show 3 ≤ 200 by omega)]
    show TL.Goes (forF (sName 4) B4 [.tup [], .tup [.tup [.str "49", .str "many", .tup [.tup [.str "ink", .str "plain"]]]]] (SW.FM9 (some (.sls (ns.map T.int))) (some (.int i)) x3 x4 x5 x6 x7 x8 x9 x10) (S2 ls cs a R)) _
    rw [inner]
    exact goes_nx ⟨ls2, a2, R2, _, _, _, _, _, _, _, _, _, rfl, l2, by omega, C2, rfl⟩)
  subst e h1 h5
  obtain ⟨S', f⟩ := fin (some (.sls (ns.map T.int))) x2 x3 x4 x5 x6 x7 x8 x9 x10 (S2 ls1 cs a1 R) (SW.cl_S2R h4)
  simp only [f]
  exact ⟨_, rfl⟩
end SF
set_option Elab.async false
set_option linter.all false
set_option maxRecDepth 100000
set_option maxHeartbeats 2000000
namespace Dk29
open PySem PySem.Spec L2 TL
open PyProof.Rows hiding St
def top (i : Nat) : Stmt := PySem.Challenge.pw_stylefall_k29_closing_by_hand.main.body.getD i (.Pass ⟨0, 0, 0, 0⟩)
section
variable {P : Program} {w : World} {K : PySem.W.Frag} {mg : Str → Option Value} {base : Heap}
theorem sc__law_begin : FnScope ["script", "cells", "cell"] ["script"] (defScope (top 66)) := ⟨rfl, rfl, rfl, by decide +kernel, rfl, by decide +kernel, by decide +kernel⟩
theorem d__law_begin {f : Addr} {fd : FuncData} (Fd : Fun K "_law_begin" "_law_begin" (top 66) f fd) (h_list : mg "list" = none) : Df P w K mg base 1 f fd ["script"] SF.m__law_begin := by
  refine df_mk (N := ["script", "cells", "cell"]) (ps := ["script"]) Fd sc__law_begin fun cdv A fs s H hr hgd => ?_
  have hu := hr.units
  exact (pfss_cons (pfs_set (i := 1) sc__law_begin.nd (pf_if (pft_cmp (o_ne hu) (pf_var 0) (pf_pure (pfn_lst pfa_nil))) (pf_pure (pfn_bltTy (c_list rfl) h_list rfl (pfa_cons (pf_var 0) pfa_nil))) (pf_pure (pfn_lst (pfa_cons pf_int pfa_nil))))) (pfss_one (pfs_ret (pf_cell (pfn_disp (pfps_cons pf_str (pf_var 1) (pfps_cons pf_str (pf_cell (pfn_lc (own := [("cell", 2)]) rfl sc__law_begin.nd (pfi_any (pf_var 1)) (blkOk_by (N := ["script", "cells", "cell"]) (sc := defScope (top 66)) (by decide +kernel)) (fun _ _ _ _ _ => (pfg_name sc__law_begin.nd)) (fun _ _ _ _ _ => pfts_nil) (fun _ _ _ _ _ => (pf_if (pft_cmp o_ge (pf_var 2) (pf_bin o_pow pf_int pf_int)) (pf_var 2) pf_int)))) (pfps_cons pf_str pf_int (pfps_cons pf_str pf_int pfps_nil)))))))))
theorem sc__law_hand_book : FnScope ["more", "codes"] ["more"] (defScope (top 68)) := ⟨rfl, rfl, rfl, by decide +kernel, rfl, by decide +kernel, by decide +kernel⟩
theorem d__law_hand_book {f : Addr} {fd : FuncData} (Fd : Fun K "_law_hand_book" "_law_hand_book" (top 68) f fd) : Df P w K mg base 1 f fd ["more"] SF.m__law_hand_book_k32 := by
  refine df_mk (N := ["more", "codes"]) (ps := ["more"]) Fd sc__law_hand_book fun cdv A fs s H hr hgd => ?_
  have hu := hr.units
  exact (pfss_cons (pfs_set (i := 1) sc__law_hand_book.nd (pf_tup (pfa_cons (pf_tup (pfa_cons pf_str (pfa_cons pf_str (pfa_cons (pf_tup (pfa_cons (pf_tup (pfa_cons pf_str (pfa_cons pf_str pfa_nil))) pfa_nil)) pfa_nil)))) (pfa_cons (pf_tup (pfa_cons pf_str (pfa_cons pf_str (pfa_cons (pf_tup (pfa_cons (pf_tup (pfa_cons pf_str (pfa_cons pf_str pfa_nil))) pfa_nil)) pfa_nil)))) pfa_nil)))) (pfss_cons (pfs_set (i := 1) sc__law_hand_book.nd (pf_bin o_add (pf_var 1) (pf_tup (pfa_cons (pf_tup (pfa_cons pf_str (pfa_cons pf_str (pfa_cons (pf_tup (pfa_cons (pf_tup (pfa_cons pf_str (pfa_cons pf_str pfa_nil))) pfa_nil)) pfa_nil)))) (pfa_cons (pf_tup (pfa_cons pf_str (pfa_cons pf_str (pfa_cons (pf_tup (pfa_cons (pf_tup (pfa_cons pf_str (pfa_cons pf_str pfa_nil))) pfa_nil)) pfa_nil)))) pfa_nil))))) (pfss_cons (pfs_set (i := 1) sc__law_hand_book.nd (pf_bin o_add (pf_var 1) (pf_tup (pfa_cons (pf_tup (pfa_cons pf_str (pfa_cons pf_str (pfa_cons (pf_tup (pfa_cons (pf_tup (pfa_cons pf_str (pfa_cons pf_str pfa_nil))) pfa_nil)) pfa_nil)))) (pfa_cons (pf_tup (pfa_cons pf_str (pfa_cons pf_str (pfa_cons (pf_tup (pfa_cons (pf_tup (pfa_cons pf_str (pfa_cons pf_str pfa_nil))) pfa_nil)) pfa_nil)))) pfa_nil))))) (pfss_one (pfs_ret (pf_tup (pfa_cons (pf_tup (pfa_cons pf_str (pfa_cons pf_str pfa_nil))) (pfa_cons (pf_tup (pfa_cons pf_str pfa_nil)) (pfa_cons (pf_bin o_add (pf_bin o_add (pf_var 1) (pf_tup (pfa_cons (pf_tup (pfa_cons pf_str (pfa_cons pf_str (pfa_cons (pf_tup (pfa_cons (pf_tup (pfa_cons pf_str (pfa_cons pf_str pfa_nil))) (pfa_cons (pf_tup (pfa_cons pf_str (pfa_cons pf_str pfa_nil))) pfa_nil))) pfa_nil)))) pfa_nil))) (pf_var 0)) pfa_nil)))))))))
theorem sc_is_short : FnScope ["thing"] ["thing"] (defScope (top 12)) := ⟨rfl, rfl, rfl, by decide +kernel, rfl, by decide +kernel, by decide +kernel⟩
theorem d_is_short {f : Addr} {fd : FuncData} (Fd : Fun K "is_short" "is_short" (top 12) f fd) (h_LONGEST : ∃ t, mg "LONGEST" = some (.int 8 t)) (h_isinstance : mg "isinstance" = none) (h_str : mg "str" = none) (h_len : mg "len" = none) : Df P w K mg base 1 f fd ["thing"] SF.m_is_short := by
  obtain ⟨_, h_LONGEST⟩ := h_LONGEST
  refine df_mk (N := ["thing"]) (ps := ["thing"]) Fd sc_is_short fun cdv A fs s H hr hgd => ?_
  have hu := hr.units
  exact (pfss_one (pfs_ret (pf_and (pf_blt c_isi h_isinstance rfl (pfa_cons (pf_var 0) (pfa_cons (pf_ty h_str rfl) pfa_nil))) (pf_one (pf_chain o_le o_le pf_int (pf_blt c_len h_len rfl (pfa_cons (pf_var 0) pfa_nil)) (pf_globI h_LONGEST))))))
theorem sc_is_word : FnScope ["thing", "sign"] ["thing"] (defScope (top 14)) := ⟨rfl, rfl, rfl, by decide +kernel, rfl, by decide +kernel, by decide +kernel⟩
theorem d_is_word {f : Addr} {fd : FuncData} (Fd : Fun K "is_word" "is_word" (top 14) f fd) (h_FIGURES : ∃ t, mg "FIGURES" = some (.str "0123456789" t)) (h_all : mg "all" = none) {f_is_short : Addr} {fd_is_short : FuncData} (G_is_short : Gd K mg "is_short" (top 12) ["thing"] f_is_short fd_is_short) (D_is_short : Df P w K mg base 1 f_is_short fd_is_short ["thing"] SF.m_is_short) : Df P w K mg base 2 f fd ["thing"] SF.m_is_word := by
  obtain ⟨_, h_FIGURES⟩ := h_FIGURES
  refine df_mk (N := ["thing", "sign"]) (ps := ["thing"]) Fd sc_is_word fun cdv A fs s H hr hgd => ?_
  have hu := hr.units
  exact (pfss_cons (pfs_if (pfw_pt (pfw_or (pft_not (pft_val (pf_call D_is_short (hr.mono (by decide)) hgd G_is_short.m G_is_short.kp G_is_short.b (pfa_cons (pf_var 0) pfa_nil)))) (pfw_or (pft_cmp (o_eq hu) (pf_ix hu (pf_var 0) pf_int) pf_str) (pfw_or1 (pft_cmp (o_eq hu) (pf_ix hu (pf_var 0) (pf_un o_neg pf_int)) pf_str))))) (pfss_one (pfs_ret pf_bl)) pfss_nil) (pfss_one (pfs_ret (pf_blt (c_all rfl) h_all rfl (pfa_cons (pf_pure (pfn_lc (own := [("sign", 1)]) rfl sc_is_word.nd (pfi_any (pf_var 0)) (blkOk_by (N := ["thing", "sign"]) (sc := defScope (top 14)) (by decide +kernel)) (fun _ _ _ _ _ => (pfg_name sc_is_word.nd)) (fun _ _ _ _ _ => pfts_nil) (fun _ _ _ _ _ => (pf_or (pf_cmp (o_in hu) (pf_var 1) (pf_globS h_FIGURES)) (pf_one (pf_cmp (o_eq hu) (pf_var 1) pf_str)))))) pfa_nil)))))
theorem sc_is_name : FnScope ["thing", "sign"] ["thing"] (defScope (top 13)) := ⟨rfl, rfl, rfl, by decide +kernel, rfl, by decide +kernel, by decide +kernel⟩
theorem d_is_name {f : Addr} {fd : FuncData} (Fd : Fun K "is_name" "is_name" (top 13) f fd) (h_LETTERS : ∃ t, mg "LETTERS" = some (.str "abcdefghijklmnopqrstuvwxyz" t)) (h_all : mg "all" = none) {f_is_short : Addr} {fd_is_short : FuncData} (G_is_short : Gd K mg "is_short" (top 12) ["thing"] f_is_short fd_is_short) (D_is_short : Df P w K mg base 1 f_is_short fd_is_short ["thing"] SF.m_is_short) : Df P w K mg base 2 f fd ["thing"] SF.m_is_name := by
  obtain ⟨_, h_LETTERS⟩ := h_LETTERS
  refine df_mk (N := ["thing", "sign"]) (ps := ["thing"]) Fd sc_is_name fun cdv A fs s H hr hgd => ?_
  have hu := hr.units
  exact (pfss_one (pfs_ret (pf_and (pf_call D_is_short (hr.mono (by decide)) hgd G_is_short.m G_is_short.kp G_is_short.b (pfa_cons (pf_var 0) pfa_nil)) (pf_one (pf_blt (c_all rfl) h_all rfl (pfa_cons (pf_pure (pfn_lc (own := [("sign", 1)]) rfl sc_is_name.nd (pfi_any (pf_var 0)) (blkOk_by (N := ["thing", "sign"]) (sc := defScope (top 13)) (by decide +kernel)) (fun _ _ _ _ _ => (pfg_name sc_is_name.nd)) (fun _ _ _ _ _ => pfts_nil) (fun _ _ _ _ _ => (pf_cmp (o_in hu) (pf_var 1) (pf_globS h_LETTERS))))) pfa_nil))))))
theorem sc_ascend : FnScope ["names", "at"] ["names"] (defScope (top 15)) := ⟨rfl, rfl, rfl, by decide +kernel, rfl, by decide +kernel, by decide +kernel⟩
theorem d_ascend {f : Addr} {fd : FuncData} (Fd : Fun K "ascend" "ascend" (top 15) f fd) (h_all : mg "all" = none) (h_range : mg "range" = none) (h_len : mg "len" = none) : Df P w K mg base 1 f fd ["names"] SF.m_ascend := by
  refine df_mk (N := ["names", "at"]) (ps := ["names"]) Fd sc_ascend fun cdv A fs s H hr hgd => ?_
  have hu := hr.units
  exact (pfss_one (pfs_ret (pf_blt (c_all rfl) h_all rfl (pfa_cons (pf_pure (pfn_lc (own := [("at", 1)]) rfl sc_ascend.nd (pfi_range2 h_range (pfa_cons pf_int (pfa_cons (pf_blt c_len h_len rfl (pfa_cons (pf_var 0) pfa_nil)) pfa_nil))) (blkOk_by (N := ["names", "at"]) (sc := defScope (top 15)) (by decide +kernel)) (fun _ _ _ _ _ => (pfg_name sc_ascend.nd)) (fun _ _ _ _ _ => pfts_nil) (fun _ _ _ _ _ => (pf_cmp o_lt (pf_ix hu (pf_var 0) (pf_bin o_sub (pf_var 1) pf_int)) (pf_ix hu (pf_var 0) (pf_var 1)))))) pfa_nil))))
theorem sc_is_name_pair : FnScope ["thing"] ["thing"] (defScope (top 17)) := ⟨rfl, rfl, rfl, by decide +kernel, rfl, by decide +kernel, by decide +kernel⟩
theorem d_is_name_pair {f : Addr} {fd : FuncData} (Fd : Fun K "is_name_pair" "is_name_pair" (top 17) f fd) (h_isinstance : mg "isinstance" = none) (h_tuple : mg "tuple" = none) (h_len : mg "len" = none) {f_is_name : Addr} {fd_is_name : FuncData} (G_is_name : Gd K mg "is_name" (top 13) ["thing"] f_is_name fd_is_name) (D_is_name : Df P w K mg base 2 f_is_name fd_is_name ["thing"] SF.m_is_name) : Df P w K mg base 3 f fd ["thing"] SF.m_is_name_pair := by
  refine df_mk (N := ["thing"]) (ps := ["thing"]) Fd sc_is_name_pair fun cdv A fs s H hr hgd => ?_
  have hu := hr.units
  exact (pfss_one (pfs_ret (pf_and (pf_blt c_isi h_isinstance rfl (pfa_cons (pf_var 0) (pfa_cons (pf_ty h_tuple rfl) pfa_nil))) (pf_and (pf_cmp (o_eq hu) (pf_blt c_len h_len rfl (pfa_cons (pf_var 0) pfa_nil)) pf_int) (pf_and (pf_call D_is_name (hr.mono (by decide)) hgd G_is_name.m G_is_name.kp G_is_name.b (pfa_cons (pf_ix hu (pf_var 0) pf_int) pfa_nil)) (pf_one (pf_call D_is_name (hr.mono (by decide)) hgd G_is_name.m G_is_name.kp G_is_name.b (pfa_cons (pf_ix hu (pf_var 0) pf_int) pfa_nil))))))))
theorem sc_are_gifts : FnScope ["thing", "pair"] ["thing"] (defScope (top 18)) := ⟨rfl, rfl, rfl, by decide +kernel, rfl, by decide +kernel, by decide +kernel⟩
theorem d_are_gifts {f : Addr} {fd : FuncData} (Fd : Fun K "are_gifts" "are_gifts" (top 18) f fd) (h_isinstance : mg "isinstance" = none) (h_tuple : mg "tuple" = none) (h_len : mg "len" = none) (h_all : mg "all" = none) {f_is_name_pair : Addr} {fd_is_name_pair : FuncData} (G_is_name_pair : Gd K mg "is_name_pair" (top 17) ["thing"] f_is_name_pair fd_is_name_pair) (D_is_name_pair : Df P w K mg base 3 f_is_name_pair fd_is_name_pair ["thing"] SF.m_is_name_pair) {f_ascend : Addr} {fd_ascend : FuncData} (G_ascend : Gd K mg "ascend" (top 15) ["names"] f_ascend fd_ascend) (D_ascend : Df P w K mg base 1 f_ascend fd_ascend ["names"] SF.m_ascend) : Df P w K mg base 4 f fd ["thing"] SF.m_are_gifts := by
  refine df_mk (N := ["thing", "pair"]) (ps := ["thing"]) Fd sc_are_gifts fun cdv A fs s H hr hgd => ?_
  have hu := hr.units
  exact (pfss_cons (pfs_if (pfw_pt (pfw_or (pft_not (pft_val (pf_blt c_isi h_isinstance rfl (pfa_cons (pf_var 0) (pfa_cons (pf_ty h_tuple rfl) pfa_nil))))) (pfw_or1 (pft_cmp (o_eq hu) (pf_blt c_len h_len rfl (pfa_cons (pf_var 0) pfa_nil)) pf_int)))) (pfss_one (pfs_ret pf_bl)) pfss_nil) (pfss_one (pfs_ret (pf_and (pf_blt (c_all rfl) h_all rfl (pfa_cons (pf_pure (pfn_lc (own := [("pair", 1)]) rfl sc_are_gifts.nd (pfi_any (pf_var 0)) (blkOk_by (N := ["thing", "pair"]) (sc := defScope (top 18)) (by decide +kernel)) (fun _ _ _ _ _ => (pfg_name sc_are_gifts.nd)) (fun _ _ _ _ _ => pfts_nil) (fun _ _ _ _ _ => (pf_call D_is_name_pair (hr.mono (by decide)) hgd G_is_name_pair.m G_is_name_pair.kp G_is_name_pair.b (pfa_cons (pf_var 1) pfa_nil))))) pfa_nil)) (pf_one (pf_call D_ascend (hr.mono (by decide)) hgd G_ascend.m G_ascend.kp G_ascend.b (pfa_cons (pf_pure (pfn_lc (own := [("pair", 1)]) rfl sc_are_gifts.nd (pfi_any (pf_var 0)) (blkOk_by (N := ["thing", "pair"]) (sc := defScope (top 18)) (by decide +kernel)) (fun _ _ _ _ _ => (pfg_name sc_are_gifts.nd)) (fun _ _ _ _ _ => pfts_nil) (fun _ _ _ _ _ => (pf_ix hu (pf_var 1) pf_int)))) pfa_nil)))))))
theorem sc_is_code : FnScope ["thing", "aspects", "word", "kind", "gives", "pair"] ["thing", "aspects"] (defScope (top 19)) := ⟨rfl, rfl, rfl, by decide +kernel, rfl, by decide +kernel, by decide +kernel⟩
theorem d_is_code {f : Addr} {fd : FuncData} (Fd : Fun K "is_code" "is_code" (top 19) f fd) (h_isinstance : mg "isinstance" = none) (h_tuple : mg "tuple" = none) (h_len : mg "len" = none) (h_all : mg "all" = none) {f_is_word : Addr} {fd_is_word : FuncData} (G_is_word : Gd K mg "is_word" (top 14) ["thing"] f_is_word fd_is_word) (D_is_word : Df P w K mg base 2 f_is_word fd_is_word ["thing"] SF.m_is_word) {f_is_name : Addr} {fd_is_name : FuncData} (G_is_name : Gd K mg "is_name" (top 13) ["thing"] f_is_name fd_is_name) (D_is_name : Df P w K mg base 2 f_is_name fd_is_name ["thing"] SF.m_is_name) {f_are_gifts : Addr} {fd_are_gifts : FuncData} (G_are_gifts : Gd K mg "are_gifts" (top 18) ["thing"] f_are_gifts fd_are_gifts) (D_are_gifts : Df P w K mg base 4 f_are_gifts fd_are_gifts ["thing"] SF.m_are_gifts) : Df P w K mg base 5 f fd ["thing", "aspects"] SF.m_is_code := by
  refine df_mk (N := ["thing", "aspects", "word", "kind", "gives", "pair"]) (ps := ["thing", "aspects"]) Fd sc_is_code fun cdv A fs s H hr hgd => ?_
  have hu := hr.units
  exact (pfss_cons (pfs_if (pfw_pt (pfw_or (pft_not (pft_val (pf_blt c_isi h_isinstance rfl (pfa_cons (pf_var 0) (pfa_cons (pf_ty h_tuple rfl) pfa_nil))))) (pfw_or1 (pft_cmp (o_ne hu) (pf_blt c_len h_len rfl (pfa_cons (pf_var 0) pfa_nil)) pf_int)))) (pfss_one (pfs_ret pf_bl)) pfss_nil) (pfss_cons (pfs_asg (pf_var 0) (pfg_tup rfl (pfgs_cons (pfg_name sc_is_code.nd) (pfgs_cons (pfg_name sc_is_code.nd) (pfgs_cons (pfg_name sc_is_code.nd) pfgs_nil))))) (pfss_cons (pfs_if (pfw_pt (pfw_or (pft_not (pft_val (pf_call D_is_word (hr.mono (by decide)) hgd G_is_word.m G_is_word.kp G_is_word.b (pfa_cons (pf_var 2) pfa_nil)))) (pfw_or (pft_not (pft_val (pf_call D_is_name (hr.mono (by decide)) hgd G_is_name.m G_is_name.kp G_is_name.b (pfa_cons (pf_var 3) pfa_nil)))) (pfw_or1 (pft_not (pft_val (pf_call D_are_gifts (hr.mono (by decide)) hgd G_are_gifts.m G_are_gifts.kp G_are_gifts.b (pfa_cons (pf_var 4) pfa_nil)))))))) (pfss_one (pfs_ret pf_bl)) pfss_nil) (pfss_one (pfs_ret (pf_blt (c_all rfl) h_all rfl (pfa_cons (pf_pure (pfn_lc (own := [("pair", 5)]) rfl sc_is_code.nd (pfi_any (pf_var 4)) (blkOk_by (N := ["thing", "aspects", "word", "kind", "gives", "pair"]) (sc := defScope (top 19)) (by decide +kernel)) (fun _ _ _ _ _ => (pfg_name sc_is_code.nd)) (fun _ _ _ _ _ => pfts_nil) (fun _ _ _ _ _ => (pf_cmp (o_in hu) (pf_ix hu (pf_var 5) pf_int) (pf_var 1))))) pfa_nil)))))))
theorem sc_need_codes : FnScope ["aspects", "codes", "words", "kinds", "number", "code"] ["aspects", "codes"] (defScope (top 20)) := ⟨rfl, rfl, rfl, by decide +kernel, rfl, by decide +kernel, by decide +kernel⟩
theorem d_need_codes {f : Addr} {fd : FuncData} (Fd : Fun K "need_codes" "need_codes" (top 20) f fd) (h_MOST_KINDS : ∃ t, mg "MOST_KINDS" = some (.int 6 t)) (h_enumerate : mg "enumerate" = none) (h_len : mg "len" = none) {f_is_code : Addr} {fd_is_code : FuncData} (G_is_code : Gd K mg "is_code" (top 19) ["thing", "aspects"] f_is_code fd_is_code) (D_is_code : Df P w K mg base 5 f_is_code fd_is_code ["thing", "aspects"] SF.m_is_code) : Df P w K mg base 6 f fd ["aspects", "codes"] SF.m_need_codes := by
  obtain ⟨_, h_MOST_KINDS⟩ := h_MOST_KINDS
  refine df_gc ?_
  refine df_mk (N := ["aspects", "codes", "words", "kinds", "number", "code"]) (ps := ["aspects", "codes"]) Fd sc_need_codes fun cdv A fs s H hr hgd => ?_
  have hu := hr.units
  exact (pfss_cons (pfs_set (i := 2) sc_need_codes.nd (pf_cell (pfn_lst pfa_nil))) (pfss_cons (pfs_set (i := 3) sc_need_codes.nd (pf_cell (pfn_lst pfa_nil))) (pfss_one (pfs_for PassesOwn.never rfl (pfi_enumA (pfa_cons (pf_var 1) pfa_nil) h_enumerate) (pfg_tup rfl (pfgs_cons (pfg_name sc_need_codes.nd) (pfgs_cons (pfg_name sc_need_codes.nd) pfgs_nil))) (pfss_cons (pfs_if (pfw_pt (pfw_or (pft_not (pft_val (pf_call D_is_code (hr.mono (by decide)) hgd G_is_code.m G_is_code.kp G_is_code.b (pfa_cons (pf_var 5) (pfa_cons (pf_var 0) pfa_nil))))) (pfw_or1 (pft_cmp (o_in hu) (pf_ix hu (pf_var 5) pf_int) (pf_var 2))))) (pfss_one pfs_never) pfss_nil) (pfss_cons (pfs_expr (pf_append (pf_var 2) (pfa_cons (pf_ix hu (pf_var 5) pf_int) pfa_nil))) (pfss_cons (pfs_if (pft_cmp (o_nin hu) (pf_ix hu (pf_var 5) pf_int) (pf_var 3)) (pfss_one (pfs_expr (pf_append (pf_var 3) (pfa_cons (pf_ix hu (pf_var 5) pf_int) pfa_nil)))) pfss_nil) (pfss_one (pfs_if (pft_cmp o_gt (pf_blt c_len h_len rfl (pfa_cons (pf_var 3) pfa_nil)) (pf_globI h_MOST_KINDS)) (pfss_one pfs_never) pfss_nil)))))))))
theorem sc_are_names : FnScope ["thing", "most", "part"] ["thing", "most"] (defScope (top 16)) := ⟨rfl, rfl, rfl, by decide +kernel, rfl, by decide +kernel, by decide +kernel⟩
theorem d_are_names {f : Addr} {fd : FuncData} (Fd : Fun K "are_names" "are_names" (top 16) f fd) (h_isinstance : mg "isinstance" = none) (h_tuple : mg "tuple" = none) (h_len : mg "len" = none) (h_all : mg "all" = none) {f_is_name : Addr} {fd_is_name : FuncData} (G_is_name : Gd K mg "is_name" (top 13) ["thing"] f_is_name fd_is_name) (D_is_name : Df P w K mg base 2 f_is_name fd_is_name ["thing"] SF.m_is_name) {f_ascend : Addr} {fd_ascend : FuncData} (G_ascend : Gd K mg "ascend" (top 15) ["names"] f_ascend fd_ascend) (D_ascend : Df P w K mg base 1 f_ascend fd_ascend ["names"] SF.m_ascend) : Df P w K mg base 3 f fd ["thing", "most"] SF.m_are_names := by
  refine df_mk (N := ["thing", "most", "part"]) (ps := ["thing", "most"]) Fd sc_are_names fun cdv A fs s H hr hgd => ?_
  have hu := hr.units
  exact (pfss_cons (pfs_if (pfw_pt (pfw_or (pft_not (pft_val (pf_blt c_isi h_isinstance rfl (pfa_cons (pf_var 0) (pfa_cons (pf_ty h_tuple rfl) pfa_nil))))) (pfw_or1 (pft_cmp o_gt (pf_blt c_len h_len rfl (pfa_cons (pf_var 0) pfa_nil)) (pf_var 1))))) (pfss_one (pfs_ret pf_bl)) pfss_nil) (pfss_one (pfs_ret (pf_and (pf_blt (c_all rfl) h_all rfl (pfa_cons (pf_pure (pfn_lc (own := [("part", 2)]) rfl sc_are_names.nd (pfi_any (pf_var 0)) (blkOk_by (N := ["thing", "most", "part"]) (sc := defScope (top 16)) (by decide +kernel)) (fun _ _ _ _ _ => (pfg_name sc_are_names.nd)) (fun _ _ _ _ _ => pfts_nil) (fun _ _ _ _ _ => (pf_call D_is_name (hr.mono (by decide)) hgd G_is_name.m G_is_name.kp G_is_name.b (pfa_cons (pf_var 2) pfa_nil))))) pfa_nil)) (pf_one (pf_call D_ascend (hr.mono (by decide)) hgd G_ascend.m G_ascend.kp G_ascend.b (pfa_cons (pf_var 0) pfa_nil)))))))
theorem sc_need_book : FnScope ["thing", "aspects", "shown", "codes", "name"] ["thing"] (defScope (top 21)) := ⟨rfl, rfl, rfl, by decide +kernel, rfl, by decide +kernel, by decide +kernel⟩
theorem d_need_book {f : Addr} {fd : FuncData} (Fd : Fun K "need_book" "need_book" (top 21) f fd) (h_MOST_ASPECTS : ∃ t, mg "MOST_ASPECTS" = some (.int 6 t)) (h_MOST_CODES : ∃ t, mg "MOST_CODES" = some (.int 16 t)) (h_isinstance : mg "isinstance" = none) (h_tuple : mg "tuple" = none) (h_len : mg "len" = none) (h_all : mg "all" = none) {f_are_names : Addr} {fd_are_names : FuncData} (G_are_names : Gd K mg "are_names" (top 16) ["thing", "most"] f_are_names fd_are_names) (D_are_names : Df P w K mg base 3 f_are_names fd_are_names ["thing", "most"] SF.m_are_names) {f_need_codes : Addr} {fd_need_codes : FuncData} (G_need_codes : Gd K mg "need_codes" (top 20) ["aspects", "codes"] f_need_codes fd_need_codes) (D_need_codes : Df P w K mg base 6 f_need_codes fd_need_codes ["aspects", "codes"] SF.m_need_codes) : Df P w K mg base 7 f fd ["thing"] SF.m_need_book := by
  obtain ⟨_, h_MOST_ASPECTS⟩ := h_MOST_ASPECTS
  obtain ⟨_, h_MOST_CODES⟩ := h_MOST_CODES
  refine df_mk (N := ["thing", "aspects", "shown", "codes", "name"]) (ps := ["thing"]) Fd sc_need_book fun cdv A fs s H hr hgd => ?_
  have hu := hr.units
  exact (pfss_cons (pfs_if (pfw_pt (pfw_or (pft_not (pft_val (pf_blt c_isi h_isinstance rfl (pfa_cons (pf_var 0) (pfa_cons (pf_ty h_tuple rfl) pfa_nil))))) (pfw_or1 (pft_cmp (o_ne hu) (pf_blt c_len h_len rfl (pfa_cons (pf_var 0) pfa_nil)) pf_int)))) (pfss_one pfs_never) pfss_nil) (pfss_cons (pfs_asg (pf_var 0) (pfg_tup rfl (pfgs_cons (pfg_name sc_need_book.nd) (pfgs_cons (pfg_name sc_need_book.nd) (pfgs_cons (pfg_name sc_need_book.nd) pfgs_nil))))) (pfss_cons (pfs_if (pfw_pt (pfw_or (pft_not (pft_val (pf_call D_are_names (hr.mono (by decide)) hgd G_are_names.m G_are_names.kp G_are_names.b (pfa_cons (pf_var 1) (pfa_cons (pf_globI h_MOST_ASPECTS) pfa_nil))))) (pfw_or1 (pft_cmp (o_eq hu) (pf_blt c_len h_len rfl (pfa_cons (pf_var 1) pfa_nil)) pf_int)))) (pfss_one pfs_never) pfss_nil) (pfss_cons (pfs_if (pfw_pt (pfw_or (pft_not (pft_val (pf_call D_are_names (hr.mono (by decide)) hgd G_are_names.m G_are_names.kp G_are_names.b (pfa_cons (pf_var 2) (pfa_cons (pf_globI h_MOST_ASPECTS) pfa_nil))))) (pfw_or1 (pft_not (pft_val (pf_blt (c_all rfl) h_all rfl (pfa_cons (pf_pure (pfn_lc (own := [("name", 4)]) rfl sc_need_book.nd (pfi_any (pf_var 2)) (blkOk_by (N := ["thing", "aspects", "shown", "codes", "name"]) (sc := defScope (top 21)) (by decide +kernel)) (fun _ _ _ _ _ => (pfg_name sc_need_book.nd)) (fun _ _ _ _ _ => pfts_nil) (fun _ _ _ _ _ => (pf_cmp (o_in hu) (pf_var 4) (pf_var 1))))) pfa_nil))))))) (pfss_one pfs_never) pfss_nil) (pfss_cons (pfs_if (pfw_pt (pfw_or (pft_not (pft_val (pf_blt c_isi h_isinstance rfl (pfa_cons (pf_var 3) (pfa_cons (pf_ty h_tuple rfl) pfa_nil))))) (pfw_or1 (pft_cmp o_gt (pf_blt c_len h_len rfl (pfa_cons (pf_var 3) pfa_nil)) (pf_globI h_MOST_CODES))))) (pfss_one pfs_never) pfss_nil) (pfss_cons (pfs_expr (pf_call D_need_codes (hr.mono (by decide)) hgd G_need_codes.m G_need_codes.kp G_need_codes.b (pfa_cons (pf_var 1) (pfa_cons (pf_var 3) pfa_nil)))) (pfss_one (pfs_ret (pf_var 0)))))))))
theorem sc_words_of : FnScope ["book", "code"] ["book"] (defScope (top 23)) := ⟨rfl, rfl, rfl, by decide +kernel, rfl, by decide +kernel, by decide +kernel⟩
theorem d_words_of {f : Addr} {fd : FuncData} (Fd : Fun K "words_of" "words_of" (top 23) f fd) : Df P w K mg base 1 f fd ["book"] SF.m_words_of := by
  refine df_mk (N := ["book", "code"]) (ps := ["book"]) Fd sc_words_of fun cdv A fs s H hr hgd => ?_
  have hu := hr.units
  exact (pfss_one (pfs_ret (pf_pure (pfn_lc (own := [("code", 1)]) rfl sc_words_of.nd (pfi_any (pf_ix hu (pf_var 0) pf_int)) (blkOk_by (N := ["book", "code"]) (sc := defScope (top 23)) (by decide +kernel)) (fun _ _ _ _ _ => (pfg_name sc_words_of.nd)) (fun _ _ _ _ _ => pfts_nil) (fun _ _ _ _ _ => (pf_ix hu (pf_var 1) pf_int))))))
theorem sc_is_row : FnScope ["book", "thing", "most", "words", "word"] ["book", "thing", "most"] (defScope (top 49)) := ⟨rfl, rfl, rfl, by decide +kernel, rfl, by decide +kernel, by decide +kernel⟩
theorem d_is_row {f : Addr} {fd : FuncData} (Fd : Fun K "is_row" "is_row" (top 49) f fd) (h_isinstance : mg "isinstance" = none) (h_tuple : mg "tuple" = none) (h_len : mg "len" = none) (h_all : mg "all" = none) (h_str : mg "str" = none) {f_words_of : Addr} {fd_words_of : FuncData} (G_words_of : Gd K mg "words_of" (top 23) ["book"] f_words_of fd_words_of) (D_words_of : Df P w K mg base 1 f_words_of fd_words_of ["book"] SF.m_words_of) : Df P w K mg base 2 f fd ["book", "thing", "most"] SF.m_is_row := by
  refine df_mk (N := ["book", "thing", "most", "words", "word"]) (ps := ["book", "thing", "most"]) Fd sc_is_row fun cdv A fs s H hr hgd => ?_
  have hu := hr.units
  exact (pfss_cons (pfs_if (pfw_pt (pfw_or (pft_not (pft_val (pf_blt c_isi h_isinstance rfl (pfa_cons (pf_var 1) (pfa_cons (pf_ty h_tuple rfl) pfa_nil))))) (pfw_or1 (pft_cmp o_gt (pf_blt c_len h_len rfl (pfa_cons (pf_var 1) pfa_nil)) (pf_var 2))))) (pfss_one (pfs_ret pf_bl)) pfss_nil) (pfss_cons (pfs_set (i := 3) sc_is_row.nd (pf_call D_words_of (hr.mono (by decide)) hgd G_words_of.m G_words_of.kp G_words_of.b (pfa_cons (pf_var 0) pfa_nil))) (pfss_one (pfs_ret (pf_blt (c_all rfl) h_all rfl (pfa_cons (pf_pure (pfn_lc (own := [("word", 4)]) rfl sc_is_row.nd (pfi_any (pf_var 1)) (blkOk_by (N := ["book", "thing", "most", "words", "word"]) (sc := defScope (top 49)) (by decide +kernel)) (fun _ _ _ _ _ => (pfg_name sc_is_row.nd)) (fun _ _ _ _ _ => pfts_nil) (fun _ _ _ _ _ => (pf_and (pf_blt c_isi h_isinstance rfl (pfa_cons (pf_var 4) (pfa_cons (pf_ty h_str rfl) pfa_nil))) (pf_one (pf_cmp (o_in hu) (pf_var 4) (pf_var 3))))))) pfa_nil))))))
theorem sc_need_row : FnScope ["book", "thing"] ["book", "thing"] (defScope (top 50)) := ⟨rfl, rfl, rfl, by decide +kernel, rfl, by decide +kernel, by decide +kernel⟩
theorem d_need_row {f : Addr} {fd : FuncData} (Fd : Fun K "need_row" "need_row" (top 50) f fd) (h_MOST_WORDS : ∃ t, mg "MOST_WORDS" = some (.int 60 t)) {f_need_book : Addr} {fd_need_book : FuncData} (G_need_book : Gd K mg "need_book" (top 21) ["thing"] f_need_book fd_need_book) (D_need_book : Df P w K mg base 7 f_need_book fd_need_book ["thing"] SF.m_need_book) {f_is_row : Addr} {fd_is_row : FuncData} (G_is_row : Gd K mg "is_row" (top 49) ["book", "thing", "most"] f_is_row fd_is_row) (D_is_row : Df P w K mg base 2 f_is_row fd_is_row ["book", "thing", "most"] SF.m_is_row) : Df P w K mg base 8 f fd ["book", "thing"] SF.m_need_row := by
  obtain ⟨_, h_MOST_WORDS⟩ := h_MOST_WORDS
  refine df_mk (N := ["book", "thing"]) (ps := ["book", "thing"]) Fd sc_need_row fun cdv A fs s H hr hgd => ?_
  have hu := hr.units
  exact (pfss_cons (pfs_expr (pf_call D_need_book (hr.mono (by decide)) hgd G_need_book.m G_need_book.kp G_need_book.b (pfa_cons (pf_var 0) pfa_nil))) (pfss_cons (pfs_if (pft_not (pft_val (pf_call D_is_row (hr.mono (by decide)) hgd G_is_row.m G_is_row.kp G_is_row.b (pfa_cons (pf_var 0) (pfa_cons (pf_var 1) (pfa_cons (pf_globI h_MOST_WORDS) pfa_nil)))))) (pfss_one pfs_never) pfss_nil) (pfss_one (pfs_ret (pf_var 1)))))
theorem sc_settle : FnScope ["settled", "needs", "word", "pair", "_"] ["settled", "needs", "word"] (defScope (top 36)) := ⟨rfl, rfl, rfl, by decide +kernel, rfl, by decide +kernel, by decide +kernel⟩
theorem d_settle {f : Addr} {fd : FuncData} (Fd : Fun K "settle" "settle" (top 36) f fd) : Df P w K mg base 1 f fd ["settled", "needs", "word"] SF.m_settle := by
  refine df_mk (N := ["settled", "needs", "word", "pair", "_"]) (ps := ["settled", "needs", "word"]) Fd sc_settle fun cdv A fs s H hr hgd => ?_
  have hu := hr.units
  exact (pfss_one (pfs_for PassesOwn.never rfl (pfi_any (pf_ixF hu (pf_var 1) (pf_var 2))) (pfg_tup rfl (pfgs_cons (pfg_name sc_settle.nd) (pfgs_cons (pfg_name sc_settle.nd) pfgs_nil))) (pfss_one (pfs_storeC hu pf_bl (pf_var 0) (pf_var 3)))))
theorem sc_settled_by : FnScope ["needs", "words", "settled", "word"] ["needs", "words"] (defScope (top 37)) := ⟨rfl, rfl, rfl, by decide +kernel, rfl, by decide +kernel, by decide +kernel⟩
theorem d_settled_by {f : Addr} {fd : FuncData} (Fd : Fun K "settled_by" "settled_by" (top 37) f fd) {f_settle : Addr} {fd_settle : FuncData} (G_settle : Gd K mg "settle" (top 36) ["settled", "needs", "word"] f_settle fd_settle) (D_settle : Df P w K mg base 1 f_settle fd_settle ["settled", "needs", "word"] SF.m_settle) : Df P w K mg base 2 f fd ["needs", "words"] SF.m_settled_by := by
  refine df_gc ?_
  refine df_mk (N := ["needs", "words", "settled", "word"]) (ps := ["needs", "words"]) Fd sc_settled_by fun cdv A fs s H hr hgd => ?_
  have hu := hr.units
  exact (pfss_cons (pfs_set (i := 2) sc_settled_by.nd (pf_cell pfn_kdc0)) (pfss_cons (pfs_for PassesOwn.never rfl (pfi_any (pf_var 1)) (pfg_name sc_settled_by.nd) (pfss_one (pfs_expr (pf_call D_settle (hr.mono (by decide)) hgd G_settle.m G_settle.kp G_settle.b (pfa_cons (pf_var 2) (pfa_cons (pf_var 0) (pfa_cons (pf_var 3) pfa_nil))))))) (pfss_one (pfs_ret (pf_var 2)))))
theorem sc_are_settled : FnScope ["settled", "pairs", "pair"] ["settled", "pairs"] (defScope (top 38)) := ⟨rfl, rfl, rfl, by decide +kernel, rfl, by decide +kernel, by decide +kernel⟩
theorem d_are_settled {f : Addr} {fd : FuncData} (Fd : Fun K "are_settled" "are_settled" (top 38) f fd) (h_all : mg "all" = none) : Df P w K mg base 1 f fd ["settled", "pairs"] SF.m_are_settled := by
  refine df_mk (N := ["settled", "pairs", "pair"]) (ps := ["settled", "pairs"]) Fd sc_are_settled fun cdv A fs s H hr hgd => ?_
  have hu := hr.units
  exact (pfss_one (pfs_ret (pf_blt (c_all rfl) h_all rfl (pfa_cons (pf_pure (pfn_lc (own := [("pair", 2)]) rfl sc_are_settled.nd (pfi_any (pf_var 1)) (blkOk_by (N := ["settled", "pairs", "pair"]) (sc := defScope (top 38)) (by decide +kernel)) (fun _ _ _ _ _ => (pfg_name sc_are_settled.nd)) (fun _ _ _ _ _ => pfts_nil) (fun _ _ _ _ _ => (pf_cmp (o_inC hu) (pf_var 2) (pf_var 0))))) pfa_nil))))
theorem sc_can_take : FnScope ["need", "settled", "pair", "ahead"] ["need", "settled"] (defScope (top 39)) := ⟨rfl, rfl, rfl, by decide +kernel, rfl, by decide +kernel, by decide +kernel⟩
theorem d_can_take {f : Addr} {fd : FuncData} (Fd : Fun K "can_take" "can_take" (top 39) f fd) {f_are_settled : Addr} {fd_are_settled : FuncData} (G_are_settled : Gd K mg "are_settled" (top 38) ["settled", "pairs"] f_are_settled fd_are_settled) (D_are_settled : Df P w K mg base 1 f_are_settled fd_are_settled ["settled", "pairs"] SF.m_are_settled) : Df P w K mg base 2 f fd ["need", "settled"] SF.m_can_take := by
  refine df_mk (N := ["need", "settled", "pair", "ahead"]) (ps := ["need", "settled"]) Fd sc_can_take fun cdv A fs s H hr hgd => ?_
  have hu := hr.units
  exact (pfss_cons (pfs_for PassesOwn.never rfl (pfi_any (pf_var 0)) (pfg_tup rfl (pfgs_cons (pfg_name sc_can_take.nd) (pfgs_cons (pfg_name sc_can_take.nd) pfgs_nil))) (pfss_one (pfs_if (pfw_pt (pfw_and (pft_cmp (o_ninC hu) (pf_var 2) (pf_var 1)) (pfw_and1 (pfw_pt (pfw_or (pft_cmp o_is (pf_var 3) pf_non) (pfw_or1 (pft_not (pft_val (pf_call D_are_settled (hr.mono (by decide)) hgd G_are_settled.m G_are_settled.kp G_are_settled.b (pfa_cons (pf_var 1) (pfa_cons (pf_var 3) pfa_nil))))))))))) (pfss_one (pfs_ret pf_bl)) pfss_nil))) (pfss_one (pfs_ret pf_bl)))
theorem sc_bars : FnScope ["needs", "goal", "words", "settled", "word"] ["needs", "goal", "words"] (defScope (top 44)) := ⟨rfl, rfl, rfl, by decide +kernel, rfl, by decide +kernel, by decide +kernel⟩
theorem d_bars {f : Addr} {fd : FuncData} (Fd : Fun K "bars" "bars" (top 44) f fd) (h_any : mg "any" = none) {f_settled_by : Addr} {fd_settled_by : FuncData} (G_settled_by : Gd K mg "settled_by" (top 37) ["needs", "words"] f_settled_by fd_settled_by) (D_settled_by : Df P w K mg base 2 f_settled_by fd_settled_by ["needs", "words"] SF.m_settled_by) {f_are_settled : Addr} {fd_are_settled : FuncData} (G_are_settled : Gd K mg "are_settled" (top 38) ["settled", "pairs"] f_are_settled fd_are_settled) (D_are_settled : Df P w K mg base 1 f_are_settled fd_are_settled ["settled", "pairs"] SF.m_are_settled) {f_can_take : Addr} {fd_can_take : FuncData} (G_can_take : Gd K mg "can_take" (top 39) ["need", "settled"] f_can_take fd_can_take) (D_can_take : Df P w K mg base 2 f_can_take fd_can_take ["need", "settled"] SF.m_can_take) : Df P w K mg base 3 f fd ["needs", "goal", "words"] SF.m_bars := by
  refine df_mk (N := ["needs", "goal", "words", "settled", "word"]) (ps := ["needs", "goal", "words"]) Fd sc_bars fun cdv A fs s H hr hgd => ?_
  have hu := hr.units
  exact (pfss_cons (pfs_set (i := 3) sc_bars.nd (pf_call D_settled_by (hr.mono (by decide)) hgd G_settled_by.m G_settled_by.kp G_settled_by.b (pfa_cons (pf_var 0) (pfa_cons (pf_var 2) pfa_nil)))) (pfss_cons (pfs_if (pft_val (pf_call D_are_settled (hr.mono (by decide)) hgd G_are_settled.m G_are_settled.kp G_are_settled.b (pfa_cons (pf_var 3) (pfa_cons (pf_var 1) pfa_nil)))) (pfss_one (pfs_ret pf_bl)) pfss_nil) (pfss_one (pfs_ret (pf_not (pf_blt (c_any rfl) h_any rfl (pfa_cons (pf_pure (pfn_lcK (j := 0) (own := [("word", 4)]) rfl sc_bars.nd (blkOk_by (N := ["needs", "goal", "words", "settled", "word"]) (sc := defScope (top 44)) (by decide +kernel)) (fun _ _ _ _ _ => (pfg_name sc_bars.nd)) (fun _ _ _ _ _ => (pfts_one (pft_cmp (o_nin hu) (pf_var 4) (pf_var 2)))) (fun _ _ _ _ _ => (pf_call D_can_take (hr.mono (by decide)) hgd G_can_take.m G_can_take.kp G_can_take.b (pfa_cons (pf_ixF hu (pf_var 0) (pf_var 4)) (pfa_cons (pf_var 3) pfa_nil)))))) pfa_nil)))))))
theorem sc_are_some_words : FnScope ["book", "thing"] ["book", "thing"] (defScope (top 52)) := ⟨rfl, rfl, rfl, by decide +kernel, rfl, by decide +kernel, by decide +kernel⟩
theorem d_are_some_words {f : Addr} {fd : FuncData} (Fd : Fun K "are_some_words" "are_some_words" (top 52) f fd) (h_len : mg "len" = none) {f_is_row : Addr} {fd_is_row : FuncData} (G_is_row : Gd K mg "is_row" (top 49) ["book", "thing", "most"] f_is_row fd_is_row) (D_is_row : Df P w K mg base 2 f_is_row fd_is_row ["book", "thing", "most"] SF.m_is_row) {f_ascend : Addr} {fd_ascend : FuncData} (G_ascend : Gd K mg "ascend" (top 15) ["names"] f_ascend fd_ascend) (D_ascend : Df P w K mg base 1 f_ascend fd_ascend ["names"] SF.m_ascend) : Df P w K mg base 3 f fd ["book", "thing"] SF.m_are_some_words := by
  refine df_mk (N := ["book", "thing"]) (ps := ["book", "thing"]) Fd sc_are_some_words fun cdv A fs s H hr hgd => ?_
  have hu := hr.units
  exact (pfss_one (pfs_ret (pf_and (pf_call D_is_row (hr.mono (by decide)) hgd G_is_row.m G_is_row.kp G_is_row.b (pfa_cons (pf_var 0) (pfa_cons (pf_var 1) (pfa_cons (pf_blt c_len h_len rfl (pfa_cons (pf_ix hu (pf_var 0) pf_int) pfa_nil)) pfa_nil)))) (pf_one (pf_call D_ascend (hr.mono (by decide)) hgd G_ascend.m G_ascend.kp G_ascend.b (pfa_cons (pf_var 1) pfa_nil))))))
theorem sc_needs_of_close : FnScope ["book", "needs", "word", "kind", "gives", "aspect", "value"] ["book"] (defScope (top 59)) := ⟨rfl, rfl, rfl, by decide +kernel, rfl, by decide +kernel, by decide +kernel⟩
theorem d_needs_of_close {f : Addr} {fd : FuncData} (Fd : Fun K "needs_of_close" "needs_of_close" (top 59) f fd) : Df P w K mg base 1 f fd ["book"] SF.m_needs_of_close := by
  refine df_gc ?_
  refine df_mk (N := ["book", "needs", "word", "kind", "gives", "aspect", "value"]) (ps := ["book"]) Fd sc_needs_of_close fun cdv A fs s H hr hgd => ?_
  have hu := hr.units
  exact (pfss_cons (pfs_set (i := 1) sc_needs_of_close.nd (pf_cell pfn_dict0)) (pfss_cons (pfs_for PassesOwn.never rfl (pfi_any (pf_ix hu (pf_var 0) pf_int)) (pfg_tup rfl (pfgs_cons (pfg_name sc_needs_of_close.nd) (pfgs_cons (pfg_name sc_needs_of_close.nd) (pfgs_cons (pfg_name sc_needs_of_close.nd) pfgs_nil)))) (pfss_one (pfs_store hu (pf_pure (pfn_lc (own := [("aspect", 5), ("value", 6)]) rfl sc_needs_of_close.nd (pfi_any (pf_var 4)) (blkOk_by (N := ["book", "needs", "word", "kind", "gives", "aspect", "value"]) (sc := defScope (top 59)) (by decide +kernel)) (fun _ _ _ _ _ => (pfg_tup rfl (pfgs_cons (pfg_name sc_needs_of_close.nd) (pfgs_cons (pfg_name sc_needs_of_close.nd) pfgs_nil)))) (fun _ _ _ _ _ => pfts_nil) (fun _ _ _ _ _ => (pf_tup (pfa_cons (pf_tupE (pfa_cons (pf_var 5) (pfa_cons (pf_var 3) pfa_nil))) (pfa_cons (pf_if (pft_cmp (o_eq hu) (pf_var 6) pf_str) (pf_pure (pfn_lst pfa_nil)) pf_non) pfa_nil)))))) (pf_var 1) (pf_var 2)))) (pfss_one (pfs_ret (pf_var 1)))))
theorem sc_codes_by_word : FnScope ["book", "code"] ["book"] (defScope (top 24)) := ⟨rfl, rfl, rfl, by decide +kernel, rfl, by decide +kernel, by decide +kernel⟩
theorem d_codes_by_word {f : Addr} {fd : FuncData} (Fd : Fun K "codes_by_word" "codes_by_word" (top 24) f fd) : Df P w K mg base 1 f fd ["book"] SF.m_codes_by_word := by
  refine df_mk (N := ["book", "code"]) (ps := ["book"]) Fd sc_codes_by_word fun cdv A fs s H hr hgd => ?_
  have hu := hr.units
  exact (pfss_one (pfs_ret (pf_pure (pfn_dc (own := [("code", 1)]) rfl sc_codes_by_word.nd (pfi_any (pf_ix hu (pf_var 0) pf_int)) (blkOk_by (N := ["book", "code"]) (sc := defScope (top 24)) (by decide +kernel)) (fun _ _ _ _ _ => (pfg_name sc_codes_by_word.nd)) (fun _ _ _ _ _ => pfts_nil) (fun _ _ _ _ _ => (pf_ix hu (pf_var 1) pf_int)) (fun _ _ _ _ _ => (pf_var 1))))))
theorem sc_no_chains : FnScope ["book", "aspect"] ["book"] (defScope (top 31)) := ⟨rfl, rfl, rfl, by decide +kernel, rfl, by decide +kernel, by decide +kernel⟩
theorem d_no_chains {f : Addr} {fd : FuncData} (Fd : Fun K "no_chains" "no_chains" (top 31) f fd) : Df P w K mg base 1 f fd ["book"] SF.m_no_chains := by
  refine df_mk (N := ["book", "aspect"]) (ps := ["book"]) Fd sc_no_chains fun cdv A fs s H hr hgd => ?_
  have hu := hr.units
  exact (pfss_one (pfs_ret (pf_cell (pfn_dc (own := [("aspect", 1)]) rfl sc_no_chains.nd (pfi_any (pf_ix hu (pf_var 0) pf_int)) (blkOk_by (N := ["book", "aspect"]) (sc := defScope (top 31)) (by decide +kernel)) (fun _ _ _ _ _ => (pfg_name sc_no_chains.nd)) (fun _ _ _ _ _ => pfts_nil) (fun _ _ _ _ _ => (pf_var 1)) (fun _ _ _ _ _ => (pf_tup pfa_nil))))))
theorem sc_is_letter : FnScope ["item"] ["item"] (defScope (top 25)) := ⟨rfl, rfl, rfl, by decide +kernel, rfl, by decide +kernel, by decide +kernel⟩
theorem d_is_letter {f : Addr} {fd : FuncData} (Fd : Fun K "is_letter" "is_letter" (top 25) f fd) (h_LETTERS : ∃ t, mg "LETTERS" = some (.str "abcdefghijklmnopqrstuvwxyz" t)) (h_len : mg "len" = none) : Df P w K mg base 1 f fd ["item"] SF.m_is_letter := by
  obtain ⟨_, h_LETTERS⟩ := h_LETTERS
  refine df_mk (N := ["item"]) (ps := ["item"]) Fd sc_is_letter fun cdv A fs s H hr hgd => ?_
  have hu := hr.units
  exact (pfss_one (pfs_ret (pf_and (pf_cmp (o_eq hu) (pf_blt c_len h_len rfl (pfa_cons (pf_var 0) pfa_nil)) pf_int) (pf_one (pf_cmp (o_in hu) (pf_var 0) (pf_globS h_LETTERS))))))
theorem sc_is_sign : FnScope ["item"] ["item"] (defScope (top 26)) := ⟨rfl, rfl, rfl, by decide +kernel, rfl, by decide +kernel, by decide +kernel⟩
theorem d_is_sign {f : Addr} {fd : FuncData} (Fd : Fun K "is_sign" "is_sign" (top 26) f fd) {f_is_letter : Addr} {fd_is_letter : FuncData} (G_is_letter : Gd K mg "is_letter" (top 25) ["item"] f_is_letter fd_is_letter) (D_is_letter : Df P w K mg base 1 f_is_letter fd_is_letter ["item"] SF.m_is_letter) : Df P w K mg base 2 f fd ["item"] SF.m_is_sign := by
  refine df_mk (N := ["item"]) (ps := ["item"]) Fd sc_is_sign fun cdv A fs s H hr hgd => ?_
  have hu := hr.units
  exact (pfss_one (pfs_ret (pf_or (pf_call D_is_letter (hr.mono (by decide)) hgd G_is_letter.m G_is_letter.kp G_is_letter.b (pfa_cons (pf_var 0) pfa_nil)) (pf_or (pf_cmp (o_eq hu) (pf_var 0) pf_str) (pf_one (pf_cmp (o_eq hu) (pf_var 0) pf_str))))))
theorem sc_behind : FnScope ["chain", "kind", "value", "pair"] ["chain", "kind", "value"] (defScope (top 30)) := ⟨rfl, rfl, rfl, by decide +kernel, rfl, by decide +kernel, by decide +kernel⟩
theorem d_behind {f : Addr} {fd : FuncData} (Fd : Fun K "behind" "behind" (top 30) f fd) (h_tuple : mg "tuple" = none) : Df P w K mg base 1 f fd ["chain", "kind", "value"] SF.m_behind := by
  refine df_mk (N := ["chain", "kind", "value", "pair"]) (ps := ["chain", "kind", "value"]) Fd sc_behind fun cdv A fs s H hr hgd => ?_
  have hu := hr.units
  exact (pfss_one (pfs_ret (pf_bin o_add (pf_tup (pfa_cons (pf_tup (pfa_cons (pf_var 1) (pfa_cons (pf_var 2) pfa_nil))) pfa_nil)) (pf_bltTy c_tup h_tuple rfl (pfa_cons (pf_pure (pfn_lc (own := [("pair", 3)]) rfl sc_behind.nd (pfi_any (pf_var 0)) (blkOk_by (N := ["chain", "kind", "value", "pair"]) (sc := defScope (top 30)) (by decide +kernel)) (fun _ _ _ _ _ => (pfg_name sc_behind.nd)) (fun _ _ _ _ _ => (pfts_one (pft_cmp (o_ne hu) (pf_ix hu (pf_var 3) pf_int) (pf_var 1)))) (fun _ _ _ _ _ => (pf_var 3)))) pfa_nil)))))
theorem sc_pass_code : FnScope ["chains", "code", "_", "kind", "gives", "aspect", "value"] ["chains", "code"] (defScope (top 32)) := ⟨rfl, rfl, rfl, by decide +kernel, rfl, by decide +kernel, by decide +kernel⟩
theorem d_pass_code {f : Addr} {fd : FuncData} (Fd : Fun K "pass_code" "pass_code" (top 32) f fd) {f_behind : Addr} {fd_behind : FuncData} (G_behind : Gd K mg "behind" (top 30) ["chain", "kind", "value"] f_behind fd_behind) (D_behind : Df P w K mg base 1 f_behind fd_behind ["chain", "kind", "value"] SF.m_behind) : Df P w K mg base 2 f fd ["chains", "code"] SF.m_pass_code := by
  refine df_mk (N := ["chains", "code", "_", "kind", "gives", "aspect", "value"]) (ps := ["chains", "code"]) Fd sc_pass_code fun cdv A fs s H hr hgd => ?_
  have hu := hr.units
  exact (pfss_cons (pfs_asg (pf_var 1) (pfg_tup rfl (pfgs_cons (pfg_name sc_pass_code.nd) (pfgs_cons (pfg_name sc_pass_code.nd) (pfgs_cons (pfg_name sc_pass_code.nd) pfgs_nil))))) (pfss_one (pfs_for PassesOwn.never rfl (pfi_any (pf_var 4)) (pfg_tup rfl (pfgs_cons (pfg_name sc_pass_code.nd) (pfgs_cons (pfg_name sc_pass_code.nd) pfgs_nil))) (pfss_one (pfs_store hu (pf_call D_behind (hr.mono (by decide)) hgd G_behind.m G_behind.kp G_behind.b (pfa_cons (pf_ix hu (pf_var 0) (pf_var 5)) (pfa_cons (pf_var 3) (pfa_cons (pf_var 6) pfa_nil)))) (pf_var 0) (pf_var 5))))))
theorem sc_chains_behind : FnScope ["book", "items", "codes", "chains", "item"] ["book", "items"] (defScope (top 33)) := ⟨rfl, rfl, rfl, by decide +kernel, rfl, by decide +kernel, by decide +kernel⟩
theorem d_chains_behind {f : Addr} {fd : FuncData} (Fd : Fun K "chains_behind" "chains_behind" (top 33) f fd) {f_codes_by_word : Addr} {fd_codes_by_word : FuncData} (G_codes_by_word : Gd K mg "codes_by_word" (top 24) ["book"] f_codes_by_word fd_codes_by_word) (D_codes_by_word : Df P w K mg base 1 f_codes_by_word fd_codes_by_word ["book"] SF.m_codes_by_word) {f_no_chains : Addr} {fd_no_chains : FuncData} (G_no_chains : Gd K mg "no_chains" (top 31) ["book"] f_no_chains fd_no_chains) (D_no_chains : Df P w K mg base 1 f_no_chains fd_no_chains ["book"] SF.m_no_chains) {f_is_sign : Addr} {fd_is_sign : FuncData} (G_is_sign : Gd K mg "is_sign" (top 26) ["item"] f_is_sign fd_is_sign) (D_is_sign : Df P w K mg base 2 f_is_sign fd_is_sign ["item"] SF.m_is_sign) {f_pass_code : Addr} {fd_pass_code : FuncData} (G_pass_code : Gd K mg "pass_code" (top 32) ["chains", "code"] f_pass_code fd_pass_code) (D_pass_code : Df P w K mg base 2 f_pass_code fd_pass_code ["chains", "code"] SF.m_pass_code) : Df P w K mg base 3 f fd ["book", "items"] SF.m_chains_behind := by
  refine df_gc ?_
  refine df_mk (N := ["book", "items", "codes", "chains", "item"]) (ps := ["book", "items"]) Fd sc_chains_behind fun cdv A fs s H hr hgd => ?_
  have hu := hr.units
  exact (pfss_cons (pfs_set (i := 2) sc_chains_behind.nd (pf_call D_codes_by_word (hr.mono (by decide)) hgd G_codes_by_word.m G_codes_by_word.kp G_codes_by_word.b (pfa_cons (pf_var 0) pfa_nil))) (pfss_cons (pfs_set (i := 3) sc_chains_behind.nd (pf_call D_no_chains (hr.mono (by decide)) hgd G_no_chains.m G_no_chains.kp G_no_chains.b (pfa_cons (pf_var 0) pfa_nil))) (pfss_cons (pfs_for PassesOwn.never rfl (pfi_any (pf_var 1)) (pfg_name sc_chains_behind.nd) (pfss_one (pfs_if (pft_not (pft_val (pf_call D_is_sign (hr.mono (by decide)) hgd G_is_sign.m G_is_sign.kp G_is_sign.b (pfa_cons (pf_var 4) pfa_nil)))) (pfss_one (pfs_expr (pf_call D_pass_code (hr.mono (by decide)) hgd G_pass_code.m G_pass_code.kp G_pass_code.b (pfa_cons (pf_var 3) (pfa_cons (pf_ix hu (pf_var 2) (pf_var 4)) pfa_nil))))) pfss_nil))) (pfss_one (pfs_ret (pf_var 3))))))
theorem sc_goal_of_close : FnScope ["book", "row", "chains", "aspect", "kind", "value"] ["book", "row"] (defScope (top 60)) := ⟨rfl, rfl, rfl, by decide +kernel, rfl, by decide +kernel, by decide +kernel⟩
theorem d_goal_of_close {f : Addr} {fd : FuncData} (Fd : Fun K "goal_of_close" "goal_of_close" (top 60) f fd) {f_chains_behind : Addr} {fd_chains_behind : FuncData} (G_chains_behind : Gd K mg "chains_behind" (top 33) ["book", "items"] f_chains_behind fd_chains_behind) (D_chains_behind : Df P w K mg base 3 f_chains_behind fd_chains_behind ["book", "items"] SF.m_chains_behind) : Df P w K mg base 4 f fd ["book", "row"] SF.m_goal_of_close := by
  refine df_mk (N := ["book", "row", "chains", "aspect", "kind", "value"]) (ps := ["book", "row"]) Fd sc_goal_of_close fun cdv A fs s H hr hgd => ?_
  have hu := hr.units
  exact (pfss_cons (pfs_set (i := 2) sc_goal_of_close.nd (pf_call D_chains_behind (hr.mono (by decide)) hgd G_chains_behind.m G_chains_behind.kp G_chains_behind.b (pfa_cons (pf_var 0) (pfa_cons (pf_var 1) pfa_nil)))) (pfss_one (pfs_ret (pf_pure (pfn_lc2 (own := [("aspect", 3), ("kind", 4), ("value", 5)]) (vs1 := [4, 5]) rfl sc_goal_of_close.nd (pfi_any (pf_ix hu (pf_var 0) pf_int)) (blkOk_by (N := ["book", "row", "chains", "aspect", "kind", "value"]) (sc := defScope (top 60)) (by decide +kernel)) (by decide) (fun _ _ _ _ _ => (pfg_name sc_goal_of_close.nd)) (fun _ _ _ _ _ => pfts_nil) (fun _ _ _ _ _ => (pfi2_tup (pf_ix hu (pf_var 2) (pf_var 3)))) (fun _ _ _ _ _ => (pfg_tup rfl (pfgs_cons (pfg_name sc_goal_of_close.nd) (pfgs_cons (pfg_name sc_goal_of_close.nd) pfgs_nil)))) (fun _ _ _ _ _ => (pfts_one (pft_cmp (o_ne hu) (pf_var 5) pf_str))) (fun _ _ _ _ _ => (pf_tupE (pfa_cons (pf_var 3) (pfa_cons (pf_var 4) pfa_nil)))))))))
theorem sc_is_barred : FnScope ["book", "row", "thing"] ["book", "row", "thing"] (defScope (top 62)) := ⟨rfl, rfl, rfl, by decide +kernel, rfl, by decide +kernel, by decide +kernel⟩
theorem d_is_barred {f : Addr} {fd : FuncData} (Fd : Fun K "is_barred" "is_barred" (top 62) f fd) {f_need_row : Addr} {fd_need_row : FuncData} (G_need_row : Gd K mg "need_row" (top 50) ["book", "thing"] f_need_row fd_need_row) (D_need_row : Df P w K mg base 8 f_need_row fd_need_row ["book", "thing"] SF.m_need_row) {f_are_some_words : Addr} {fd_are_some_words : FuncData} (G_are_some_words : Gd K mg "are_some_words" (top 52) ["book", "thing"] f_are_some_words fd_are_some_words) (D_are_some_words : Df P w K mg base 3 f_are_some_words fd_are_some_words ["book", "thing"] SF.m_are_some_words) {f_bars : Addr} {fd_bars : FuncData} (G_bars : Gd K mg "bars" (top 44) ["needs", "goal", "words"] f_bars fd_bars) (D_bars : Df P w K mg base 3 f_bars fd_bars ["needs", "goal", "words"] SF.m_bars) {f_goal_of_close : Addr} {fd_goal_of_close : FuncData} (G_goal_of_close : Gd K mg "goal_of_close" (top 60) ["book", "row"] f_goal_of_close fd_goal_of_close) (D_goal_of_close : Df P w K mg base 4 f_goal_of_close fd_goal_of_close ["book", "row"] SF.m_goal_of_close) {f_needs_of_close : Addr} {fd_needs_of_close : FuncData} (G_needs_of_close : Gd K mg "needs_of_close" (top 59) ["book"] f_needs_of_close fd_needs_of_close) (D_needs_of_close : Df P w K mg base 1 f_needs_of_close fd_needs_of_close ["book"] SF.m_needs_of_close) : Df P w K mg base 9 f fd ["book", "row", "thing"] SF.m_is_barred := by
  refine df_mk (N := ["book", "row", "thing"]) (ps := ["book", "row", "thing"]) Fd sc_is_barred fun cdv A fs s H hr hgd => ?_
  have hu := hr.units
  exact (pfss_cons (pfs_expr (pf_call D_need_row (hr.mono (by decide)) hgd G_need_row.m G_need_row.kp G_need_row.b (pfa_cons (pf_var 0) (pfa_cons (pf_var 1) pfa_nil)))) (pfss_cons (pfs_if (pft_not (pft_val (pf_call D_are_some_words (hr.mono (by decide)) hgd G_are_some_words.m G_are_some_words.kp G_are_some_words.b (pfa_cons (pf_var 0) (pfa_cons (pf_var 2) pfa_nil))))) (pfss_one (pfs_ret pf_bl)) pfss_nil) (pfss_one (pfs_ret (pf_call D_bars (hr.mono (by decide)) hgd G_bars.m G_bars.kp G_bars.b (pfa_cons (pf_fd (pf_call D_needs_of_close (hr.mono (by decide)) hgd G_needs_of_close.m G_needs_of_close.kp G_needs_of_close.b (pfa_cons (pf_var 0) pfa_nil))) (pfa_cons (pf_call D_goal_of_close (hr.mono (by decide)) hgd G_goal_of_close.m G_goal_of_close.kp G_goal_of_close.b (pfa_cons (pf_var 0) (pfa_cons (pf_var 1) pfa_nil))) (pfa_cons (pf_var 2) pfa_nil))))))))
theorem sc_kinds_of : FnScope ["book", "codes", "code"] ["book"] (defScope (top 22)) := ⟨rfl, rfl, rfl, by decide +kernel, rfl, by decide +kernel, by decide +kernel⟩
theorem d_kinds_of {f : Addr} {fd : FuncData} (Fd : Fun K "kinds_of" "kinds_of" (top 22) f fd) (h_tuple : mg "tuple" = none) (h_sorted : mg "sorted" = none) {f_need_book : Addr} {fd_need_book : FuncData} (G_need_book : Gd K mg "need_book" (top 21) ["thing"] f_need_book fd_need_book) (D_need_book : Df P w K mg base 7 f_need_book fd_need_book ["thing"] SF.m_need_book) : Df P w K mg base 8 f fd ["book"] SF.m_kinds_of := by
  refine df_mk (N := ["book", "codes", "code"]) (ps := ["book"]) Fd sc_kinds_of fun cdv A fs s H hr hgd => ?_
  have hu := hr.units
  exact (pfss_cons (pfs_set (i := 1) sc_kinds_of.nd (pf_ix hu (pf_call D_need_book (hr.mono (by decide)) hgd G_need_book.m G_need_book.kp G_need_book.b (pfa_cons (pf_var 0) pfa_nil)) pf_int)) (pfss_one (pfs_ret (pf_bltTy c_tup h_tuple rfl (pfa_cons (pf_pure (pfn_sortX rfl h_sorted rfl (pfx_st (own := [("code", 2)]) rfl sc_kinds_of.nd (pfi_any (pf_var 1)) (blkOk_by (N := ["book", "codes", "code"]) (sc := defScope (top 22)) (by decide +kernel)) (fun _ _ _ _ _ => (pfg_name sc_kinds_of.nd)) (fun _ _ _ _ _ => pfts_nil) (fun _ _ _ _ _ => (pf_ix hu (pf_var 2) pf_int))))) pfa_nil)))))
theorem sc_worth_among : FnScope ["chain", "kinds", "kind", "value"] ["chain", "kinds"] (defScope (top 28)) := ⟨rfl, rfl, rfl, by decide +kernel, rfl, by decide +kernel, by decide +kernel⟩
theorem d_worth_among {f : Addr} {fd : FuncData} (Fd : Fun K "worth_among" "worth_among" (top 28) f fd) : Df P w K mg base 1 f fd ["chain", "kinds"] SF.m_worth_among := by
  refine df_mk (N := ["chain", "kinds", "kind", "value"]) (ps := ["chain", "kinds"]) Fd sc_worth_among fun cdv A fs s H hr hgd => ?_
  have hu := hr.units
  exact (pfss_cons (pfs_for PassesOwn.never rfl (pfi_any (pf_var 0)) (pfg_tup rfl (pfgs_cons (pfg_name sc_worth_among.nd) (pfgs_cons (pfg_name sc_worth_among.nd) pfgs_nil))) (pfss_one (pfs_if (pft_cmp (o_in hu) (pf_var 2) (pf_var 1)) (pfss_one (pfs_ret (pf_var 3))) pfss_nil))) (pfss_one (pfs_ret pf_non)))
theorem sc_least_apart : FnScope ["one", "other", "kinds", "singles", "twos", "terminal", "kind", "more", "pair"] ["one", "other"] (defScope (top 29)) := ⟨rfl, rfl, rfl, by decide +kernel, rfl, by decide +kernel, by decide +kernel⟩
theorem d_least_apart {f : Addr} {fd : FuncData} (Fd : Fun K "least_apart" "least_apart" (top 29) f fd) (h_sorted : mg "sorted" = none) {f_worth_among : Addr} {fd_worth_among : FuncData} (G_worth_among : Gd K mg "worth_among" (top 28) ["chain", "kinds"] f_worth_among fd_worth_among) (D_worth_among : Df P w K mg base 1 f_worth_among fd_worth_among ["chain", "kinds"] SF.m_worth_among) : Df P w K mg base 2 f fd ["one", "other"] SF.m_least_apart := by
  refine df_mk (N := ["one", "other", "kinds", "singles", "twos", "terminal", "kind", "more", "pair"]) (ps := ["one", "other"]) Fd sc_least_apart fun cdv A fs s H hr hgd => ?_
  have hu := hr.units
  exact (pfss_cons (pfs_set (i := 2) sc_least_apart.nd (pf_pure (pfn_sortX rfl h_sorted rfl (pfx_st (own := [("pair", 8)]) rfl sc_least_apart.nd (pfi_any (pf_bin o_add (pf_var 0) (pf_var 1))) (blkOk_by (N := ["one", "other", "kinds", "singles", "twos", "terminal", "kind", "more", "pair"]) (sc := defScope (top 29)) (by decide +kernel)) (fun _ _ _ _ _ => (pfg_name sc_least_apart.nd)) (fun _ _ _ _ _ => pfts_nil) (fun _ _ _ _ _ => (pf_ix hu (pf_var 8) pf_int)))))) (pfss_cons (pfs_setLc (own := [("kind", 6)]) rfl sc_least_apart.nd rfl rfl (sw_true rfl rfl rfl (by decide +kernel)) (pfi_any (pf_var 2)) (blkOk_by (N := ["one", "other", "kinds", "singles", "twos", "terminal", "kind", "more", "pair"]) (sc := defScope (top 29)) (by decide +kernel)) (fun _ _ _ _ _ => (pfg_name sc_least_apart.nd)) (fun _ _ _ _ _ => pfts_nil) (fun _ _ _ _ _ => (pf_tup (pfa_cons (pf_var 6) pfa_nil)))) (pfss_cons (pfs_setLc2 (own := [("kind", 6), ("more", 7)]) (vs1 := [7]) rfl sc_least_apart.nd rfl rfl (sw_true rfl rfl rfl (by decide +kernel)) (pfi_any (pf_var 2)) (blkOk_by (N := ["one", "other", "kinds", "singles", "twos", "terminal", "kind", "more", "pair"]) (sc := defScope (top 29)) (by decide +kernel)) (by decide) (fun _ _ _ _ _ => (pfg_name sc_least_apart.nd)) (fun _ _ _ _ _ => pfts_nil) (fun _ _ _ _ _ => (pfi2_list (pf_var 2))) (fun _ _ _ _ _ => (pfg_name sc_least_apart.nd)) (fun _ _ _ _ _ => (pfts_one (pft_cmp o_lt (pf_var 6) (pf_var 7)))) (fun _ _ _ _ _ => (pf_tup (pfa_cons (pf_var 6) (pfa_cons (pf_var 7) pfa_nil))))) (pfss_cons (pfs_for PassesOwn.never rfl (pfi_any (pf_bin o_add (pf_var 3) (pf_var 4))) (pfg_name sc_least_apart.nd) (pfss_one (pfs_if (pft_cmp (o_ne hu) (pf_call D_worth_among (hr.mono (by decide)) hgd G_worth_among.m G_worth_among.kp G_worth_among.b (pfa_cons (pf_var 0) (pfa_cons (pf_var 5) pfa_nil))) (pf_call D_worth_among (hr.mono (by decide)) hgd G_worth_among.m G_worth_among.kp G_worth_among.b (pfa_cons (pf_var 1) (pfa_cons (pf_var 5) pfa_nil)))) (pfss_one (pfs_ret (pf_var 5))) pfss_nil))) (pfss_one (pfs_ret pf_non))))))
theorem sc_with_plain : FnScope ["chain", "kinds", "known", "kind", "_"] ["chain", "kinds"] (defScope (top 55)) := ⟨rfl, rfl, rfl, by decide +kernel, rfl, by decide +kernel, by decide +kernel⟩
theorem d_with_plain {f : Addr} {fd : FuncData} (Fd : Fun K "with_plain" "with_plain" (top 55) f fd) (h_tuple : mg "tuple" = none) : Df P w K mg base 1 f fd ["chain", "kinds"] SF.m_with_plain := by
  refine df_mk (N := ["chain", "kinds", "known", "kind", "_"]) (ps := ["chain", "kinds"]) Fd sc_with_plain fun cdv A fs s H hr hgd => ?_
  have hu := hr.units
  exact (pfss_cons (pfs_set (i := 2) sc_with_plain.nd (pf_pure (pfn_lc (own := [("kind", 3), ("_", 4)]) rfl sc_with_plain.nd (pfi_any (pf_var 0)) (blkOk_by (N := ["chain", "kinds", "known", "kind", "_"]) (sc := defScope (top 55)) (by decide +kernel)) (fun _ _ _ _ _ => (pfg_tup rfl (pfgs_cons (pfg_name sc_with_plain.nd) (pfgs_cons (pfg_name sc_with_plain.nd) pfgs_nil)))) (fun _ _ _ _ _ => pfts_nil) (fun _ _ _ _ _ => (pf_var 3))))) (pfss_one (pfs_ret (pf_bin o_add (pf_var 0) (pf_bltTy c_tup h_tuple rfl (pfa_cons (pf_pure (pfn_lc (own := [("kind", 3)]) rfl sc_with_plain.nd (pfi_any (pf_var 1)) (blkOk_by (N := ["chain", "kinds", "known", "kind", "_"]) (sc := defScope (top 55)) (by decide +kernel)) (fun _ _ _ _ _ => (pfg_name sc_with_plain.nd)) (fun _ _ _ _ _ => (pfts_one (pft_cmp (o_nin hu) (pf_var 3) (pf_var 2)))) (fun _ _ _ _ _ => (pf_tup (pfa_cons (pf_var 3) (pfa_cons pf_str pfa_nil)))))) pfa_nil))))))
theorem sc_apart_behind : FnScope ["book", "ahead", "behind", "kinds", "chains", "others", "aspect", "terminal"] ["book", "ahead", "behind"] (defScope (top 56)) := ⟨rfl, rfl, rfl, by decide +kernel, rfl, by decide +kernel, by decide +kernel⟩
theorem d_apart_behind {f : Addr} {fd : FuncData} (Fd : Fun K "apart_behind" "apart_behind" (top 56) f fd) {f_kinds_of : Addr} {fd_kinds_of : FuncData} (G_kinds_of : Gd K mg "kinds_of" (top 22) ["book"] f_kinds_of fd_kinds_of) (D_kinds_of : Df P w K mg base 8 f_kinds_of fd_kinds_of ["book"] SF.m_kinds_of) {f_chains_behind : Addr} {fd_chains_behind : FuncData} (G_chains_behind : Gd K mg "chains_behind" (top 33) ["book", "items"] f_chains_behind fd_chains_behind) (D_chains_behind : Df P w K mg base 3 f_chains_behind fd_chains_behind ["book", "items"] SF.m_chains_behind) {f_least_apart : Addr} {fd_least_apart : FuncData} (G_least_apart : Gd K mg "least_apart" (top 29) ["one", "other"] f_least_apart fd_least_apart) (D_least_apart : Df P w K mg base 2 f_least_apart fd_least_apart ["one", "other"] SF.m_least_apart) {f_with_plain : Addr} {fd_with_plain : FuncData} (G_with_plain : Gd K mg "with_plain" (top 55) ["chain", "kinds"] f_with_plain fd_with_plain) (D_with_plain : Df P w K mg base 1 f_with_plain fd_with_plain ["chain", "kinds"] SF.m_with_plain) : Df P w K mg base 9 f fd ["book", "ahead", "behind"] SF.m_apart_behind := by
  refine df_mk (N := ["book", "ahead", "behind", "kinds", "chains", "others", "aspect", "terminal"]) (ps := ["book", "ahead", "behind"]) Fd sc_apart_behind fun cdv A fs s H hr hgd => ?_
  have hu := hr.units
  exact (pfss_cons (pfs_set (i := 3) sc_apart_behind.nd (pf_call D_kinds_of (hr.mono (by decide)) hgd G_kinds_of.m G_kinds_of.kp G_kinds_of.b (pfa_cons (pf_var 0) pfa_nil))) (pfss_cons (pfs_set (i := 4) sc_apart_behind.nd (pf_call D_chains_behind (hr.mono (by decide)) hgd G_chains_behind.m G_chains_behind.kp G_chains_behind.b (pfa_cons (pf_var 0) (pfa_cons (pf_var 1) pfa_nil)))) (pfss_cons (pfs_set (i := 5) sc_apart_behind.nd (pf_call D_chains_behind (hr.mono (by decide)) hgd G_chains_behind.m G_chains_behind.kp G_chains_behind.b (pfa_cons (pf_var 0) (pfa_cons (pf_bin o_add (pf_var 1) (pf_var 2)) pfa_nil)))) (pfss_cons (pfs_for PassesOwn.never rfl (pfi_any (pf_ix hu (pf_var 0) pf_int)) (pfg_name sc_apart_behind.nd) (pfss_cons (pfs_set (i := 7) sc_apart_behind.nd (pf_call D_least_apart (hr.mono (by decide)) hgd G_least_apart.m G_least_apart.kp G_least_apart.b (pfa_cons (pf_call D_with_plain (hr.mono (by decide)) hgd G_with_plain.m G_with_plain.kp G_with_plain.b (pfa_cons (pf_ix hu (pf_var 4) (pf_var 6)) (pfa_cons (pf_var 3) pfa_nil))) (pfa_cons (pf_call D_with_plain (hr.mono (by decide)) hgd G_with_plain.m G_with_plain.kp G_with_plain.b (pfa_cons (pf_ix hu (pf_var 5) (pf_var 6)) (pfa_cons (pf_var 3) pfa_nil))) pfa_nil)))) (pfss_one (pfs_if (pft_cmp o_isnot (pf_var 7) pf_non) (pfss_one (pfs_ret (pf_var 7))) pfss_nil)))) (pfss_one (pfs_ret pf_non))))))
theorem sc_closes : FnScope ["book", "row", "other"] ["book", "row", "other"] (defScope (top 58)) := ⟨rfl, rfl, rfl, by decide +kernel, rfl, by decide +kernel, by decide +kernel⟩
theorem d_closes {f : Addr} {fd : FuncData} (Fd : Fun K "closes" "closes" (top 58) f fd) {f_need_row : Addr} {fd_need_row : FuncData} (G_need_row : Gd K mg "need_row" (top 50) ["book", "thing"] f_need_row fd_need_row) (D_need_row : Df P w K mg base 8 f_need_row fd_need_row ["book", "thing"] SF.m_need_row) {f_apart_behind : Addr} {fd_apart_behind : FuncData} (G_apart_behind : Gd K mg "apart_behind" (top 56) ["book", "ahead", "behind"] f_apart_behind fd_apart_behind) (D_apart_behind : Df P w K mg base 9 f_apart_behind fd_apart_behind ["book", "ahead", "behind"] SF.m_apart_behind) : Df P w K mg base 10 f fd ["book", "row", "other"] SF.m_closes := by
  refine df_mk (N := ["book", "row", "other"]) (ps := ["book", "row", "other"]) Fd sc_closes fun cdv A fs s H hr hgd => ?_
  have hu := hr.units
  exact (pfss_cons (pfs_expr (pf_call D_need_row (hr.mono (by decide)) hgd G_need_row.m G_need_row.kp G_need_row.b (pfa_cons (pf_var 0) (pfa_cons (pf_var 1) pfa_nil)))) (pfss_cons (pfs_expr (pf_call D_need_row (hr.mono (by decide)) hgd G_need_row.m G_need_row.kp G_need_row.b (pfa_cons (pf_var 0) (pfa_cons (pf_var 2) pfa_nil)))) (pfss_one (pfs_ret (pf_cmp o_is (pf_call D_apart_behind (hr.mono (by decide)) hgd G_apart_behind.m G_apart_behind.kp G_apart_behind.b (pfa_cons (pf_var 0) (pfa_cons (pf_tup pfa_nil) (pfa_cons (pf_bin o_add (pf_var 1) (pf_var 2)) pfa_nil)))) pf_non)))))
theorem sc__law_sizes : FnScope ["is_more", "rows"] ["is_more"] (defScope (top 71)) := ⟨rfl, rfl, rfl, by decide +kernel, rfl, by decide +kernel, by decide +kernel⟩
theorem d__law_sizes {f : Addr} {fd : FuncData} (Fd : Fun K "_law_sizes" "_law_sizes" (top 71) f fd) : Df P w K mg base 1 f fd ["is_more"] SF.m__law_sizes := by
  refine df_mk (N := ["is_more", "rows"]) (ps := ["is_more"]) Fd sc__law_sizes fun cdv A fs s H hr hgd => ?_
  have hu := hr.units
  exact (pfss_cons (pfs_set (i := 1) sc__law_sizes.nd (pf_pure (pfn_lst (pfa_cons (pf_tup (pfa_cons (pf_tup pfa_nil) (pfa_cons pf_int pfa_nil))) (pfa_cons (pf_tup (pfa_cons (pf_tup (pfa_cons pf_str pfa_nil)) (pfa_cons pf_int pfa_nil))) (pfa_cons (pf_tup (pfa_cons (pf_tup (pfa_cons pf_str (pfa_cons pf_str pfa_nil))) (pfa_cons pf_int pfa_nil))) (pfa_cons (pf_tup (pfa_cons (pf_tup (pfa_cons pf_str pfa_nil)) (pfa_cons pf_int pfa_nil))) (pfa_cons (pf_tup (pfa_cons (pf_tup (pfa_cons pf_str pfa_nil)) (pfa_cons pf_int pfa_nil))) (pfa_cons (pf_tup (pfa_cons (pf_tup (pfa_cons pf_str (pfa_cons pf_str pfa_nil))) (pfa_cons pf_int pfa_nil))) pfa_nil))))))))) (pfss_cons (pfs_set (i := 1) sc__law_sizes.nd (pf_bin o_add (pf_var 1) (pf_pure (pfn_lst (pfa_cons (pf_tup (pfa_cons (pf_tup (pfa_cons pf_str pfa_nil)) (pfa_cons (pf_if (pft_val (pf_var 0)) pf_int pf_non) pfa_nil))) (pfa_cons (pf_tup (pfa_cons (pf_tup (pfa_cons pf_str (pfa_cons pf_str pfa_nil))) (pfa_cons (pf_if (pft_val (pf_var 0)) pf_int pf_non) pfa_nil))) pfa_nil)))))) (pfss_one (pfs_ret (pf_bin o_add (pf_var 1) (pf_pure (pfn_lst (pfa_cons (pf_tup (pfa_cons (pf_tup (pfa_cons pf_str (pfa_cons pf_str pfa_nil))) (pfa_cons (pf_if (pft_val (pf_var 0)) pf_int pf_non) pfa_nil))) (pfa_cons (pf_tup (pfa_cons (pf_tup (pfa_cons pf_str (pfa_cons pf_str pfa_nil))) (pfa_cons (pf_if (pft_val (pf_var 0)) pf_int pf_non) pfa_nil))) pfa_nil)))))))))
theorem sc__law_closing_rows : FnScope ["rows"] [] (defScope (top 69)) := ⟨rfl, rfl, rfl, by decide +kernel, rfl, by decide +kernel, by decide +kernel⟩
theorem d__law_closing_rows {f : Addr} {fd : FuncData} (Fd : Fun K "_law_closing_rows" "_law_closing_rows" (top 69) f fd) : Df P w K mg base 1 f fd [] SF.m__law_closing_rows := by
  refine df_mk (N := ["rows"]) (ps := []) Fd sc__law_closing_rows fun cdv A fs s H hr hgd => ?_
  have hu := hr.units
  exact (pfss_cons (pfs_set (i := 0) sc__law_closing_rows.nd (pf_pure (pfn_lst (pfa_cons (pf_tup (pfa_cons (pf_tup (pfa_cons pf_str pfa_nil)) (pfa_cons (pf_tup (pfa_cons pf_str pfa_nil)) (pfa_cons pf_bl pfa_nil)))) (pfa_cons (pf_tup (pfa_cons (pf_tup (pfa_cons pf_str pfa_nil)) (pfa_cons (pf_tup (pfa_cons pf_str pfa_nil)) (pfa_cons pf_bl pfa_nil)))) (pfa_cons (pf_tup (pfa_cons (pf_tup (pfa_cons pf_str pfa_nil)) (pfa_cons (pf_tup (pfa_cons pf_str pfa_nil)) (pfa_cons pf_bl pfa_nil)))) (pfa_cons (pf_tup (pfa_cons (pf_tup (pfa_cons pf_str pfa_nil)) (pfa_cons (pf_tup pfa_nil) (pfa_cons pf_bl pfa_nil)))) pfa_nil))))))) (pfss_cons (pfs_set (i := 0) sc__law_closing_rows.nd (pf_bin o_add (pf_var 0) (pf_pure (pfn_lst (pfa_cons (pf_tup (pfa_cons (pf_tup (pfa_cons pf_str pfa_nil)) (pfa_cons (pf_tup (pfa_cons pf_str pfa_nil)) (pfa_cons pf_bl pfa_nil)))) (pfa_cons (pf_tup (pfa_cons (pf_tup (pfa_cons pf_str pfa_nil)) (pfa_cons (pf_tup (pfa_cons pf_str (pfa_cons pf_str pfa_nil))) (pfa_cons pf_bl pfa_nil)))) (pfa_cons (pf_tup (pfa_cons (pf_tup (pfa_cons pf_str pfa_nil)) (pfa_cons (pf_tup (pfa_cons pf_str (pfa_cons pf_str pfa_nil))) (pfa_cons pf_bl pfa_nil)))) pfa_nil))))))) (pfss_cons (pfs_set (i := 0) sc__law_closing_rows.nd (pf_bin o_add (pf_var 0) (pf_pure (pfn_lst (pfa_cons (pf_tup (pfa_cons (pf_tup pfa_nil) (pfa_cons (pf_tup pfa_nil) (pfa_cons pf_bl pfa_nil)))) (pfa_cons (pf_tup (pfa_cons (pf_tup pfa_nil) (pfa_cons (pf_tup (pfa_cons pf_str pfa_nil)) (pfa_cons pf_bl pfa_nil)))) (pfa_cons (pf_tup (pfa_cons (pf_tup pfa_nil) (pfa_cons (pf_tup (pfa_cons pf_str pfa_nil)) (pfa_cons pf_bl pfa_nil)))) (pfa_cons (pf_tup (pfa_cons (pf_tup (pfa_cons pf_str pfa_nil)) (pfa_cons (pf_tup pfa_nil) (pfa_cons pf_bl pfa_nil)))) pfa_nil)))))))) (pfss_cons (pfs_set (i := 0) sc__law_closing_rows.nd (pf_bin o_add (pf_var 0) (pf_pure (pfn_lst (pfa_cons (pf_tup (pfa_cons (pf_tup (pfa_cons pf_str (pfa_cons pf_str pfa_nil))) (pfa_cons (pf_tup pfa_nil) (pfa_cons pf_bl pfa_nil)))) (pfa_cons (pf_tup (pfa_cons (pf_tup (pfa_cons pf_str pfa_nil)) (pfa_cons (pf_tup (pfa_cons pf_str pfa_nil)) (pfa_cons pf_bl pfa_nil)))) (pfa_cons (pf_tup (pfa_cons (pf_tup (pfa_cons pf_str pfa_nil)) (pfa_cons (pf_tup (pfa_cons pf_str (pfa_cons pf_str pfa_nil))) (pfa_cons pf_bl pfa_nil)))) pfa_nil))))))) (pfss_cons (pfs_set (i := 0) sc__law_closing_rows.nd (pf_bin o_add (pf_var 0) (pf_pure (pfn_lst (pfa_cons (pf_tup (pfa_cons (pf_tup (pfa_cons pf_str (pfa_cons pf_str pfa_nil))) (pfa_cons (pf_tup (pfa_cons pf_str pfa_nil)) (pfa_cons pf_bl pfa_nil)))) (pfa_cons (pf_tup (pfa_cons (pf_tup (pfa_cons pf_str (pfa_cons pf_str pfa_nil))) (pfa_cons (pf_tup (pfa_cons pf_str (pfa_cons pf_str pfa_nil))) (pfa_cons pf_bl pfa_nil)))) (pfa_cons (pf_tup (pfa_cons (pf_tup (pfa_cons pf_str (pfa_cons pf_str pfa_nil))) (pfa_cons (pf_tup (pfa_cons pf_str pfa_nil)) (pfa_cons pf_bl pfa_nil)))) pfa_nil))))))) (pfss_one (pfs_ret (pf_bin o_add (pf_var 0) (pf_pure (pfn_lst (pfa_cons (pf_tup (pfa_cons (pf_tup (pfa_cons pf_str (pfa_cons pf_str pfa_nil))) (pfa_cons (pf_tup (pfa_cons pf_str pfa_nil)) (pfa_cons pf_bl pfa_nil)))) (pfa_cons (pf_tup (pfa_cons (pf_tup (pfa_cons pf_str (pfa_cons pf_str (pfa_cons pf_str pfa_nil)))) (pfa_cons (pf_tup (pfa_cons pf_str pfa_nil)) (pfa_cons pf_bl pfa_nil)))) (pfa_cons (pf_tup (pfa_cons (pf_tup (pfa_cons pf_str (pfa_cons pf_str pfa_nil))) (pfa_cons (pf_tup pfa_nil) (pfa_cons pf_bl pfa_nil)))) pfa_nil)))))))))))))
theorem sc__law_more_rows : FnScope ["rows"] [] (defScope (top 70)) := ⟨rfl, rfl, rfl, by decide +kernel, rfl, by decide +kernel, by decide +kernel⟩
theorem d__law_more_rows {f : Addr} {fd : FuncData} (Fd : Fun K "_law_more_rows" "_law_more_rows" (top 70) f fd) : Df P w K mg base 1 f fd [] SF.m__law_more_rows := by
  refine df_mk (N := ["rows"]) (ps := []) Fd sc__law_more_rows fun cdv A fs s H hr hgd => ?_
  have hu := hr.units
  exact (pfss_cons (pfs_set (i := 0) sc__law_more_rows.nd (pf_pure (pfn_lst (pfa_cons (pf_tup (pfa_cons (pf_tup (pfa_cons pf_str pfa_nil)) (pfa_cons (pf_tup (pfa_cons pf_str pfa_nil)) (pfa_cons pf_bl pfa_nil)))) (pfa_cons (pf_tup (pfa_cons (pf_tup (pfa_cons pf_str pfa_nil)) (pfa_cons (pf_tup (pfa_cons pf_str pfa_nil)) (pfa_cons pf_bl pfa_nil)))) (pfa_cons (pf_tup (pfa_cons (pf_tup (pfa_cons pf_str pfa_nil)) (pfa_cons (pf_tup (pfa_cons pf_str (pfa_cons pf_str pfa_nil))) (pfa_cons pf_bl pfa_nil)))) pfa_nil)))))) (pfss_cons (pfs_set (i := 0) sc__law_more_rows.nd (pf_bin o_add (pf_var 0) (pf_pure (pfn_lst (pfa_cons (pf_tup (pfa_cons (pf_tup (pfa_cons pf_str (pfa_cons pf_str pfa_nil))) (pfa_cons (pf_tup (pfa_cons pf_str pfa_nil)) (pfa_cons pf_bl pfa_nil)))) (pfa_cons (pf_tup (pfa_cons (pf_tup (pfa_cons pf_str (pfa_cons pf_str pfa_nil))) (pfa_cons (pf_tup (pfa_cons pf_str (pfa_cons pf_str pfa_nil))) (pfa_cons pf_bl pfa_nil)))) pfa_nil)))))) (pfss_cons (pfs_set (i := 0) sc__law_more_rows.nd (pf_bin o_add (pf_var 0) (pf_pure (pfn_lst (pfa_cons (pf_tup (pfa_cons (pf_tup (pfa_cons pf_str (pfa_cons pf_str pfa_nil))) (pfa_cons (pf_tup (pfa_cons pf_str (pfa_cons pf_str pfa_nil))) (pfa_cons pf_bl pfa_nil)))) (pfa_cons (pf_tup (pfa_cons (pf_tup (pfa_cons pf_str (pfa_cons pf_str pfa_nil))) (pfa_cons (pf_tup pfa_nil) (pfa_cons pf_bl pfa_nil)))) pfa_nil)))))) (pfss_one (pfs_ret (pf_bin o_add (pf_var 0) (pf_pure (pfn_lst (pfa_cons (pf_tup (pfa_cons (pf_tup (pfa_cons pf_str (pfa_cons pf_str pfa_nil))) (pfa_cons (pf_tup (pfa_cons pf_str pfa_nil)) (pfa_cons pf_bl pfa_nil)))) pfa_nil)))))))))
theorem sc_need_few_codes : FnScope ["book"] ["book"] (defScope (top 53)) := ⟨rfl, rfl, rfl, by decide +kernel, rfl, by decide +kernel, by decide +kernel⟩
theorem d_need_few_codes {f : Addr} {fd : FuncData} (Fd : Fun K "need_few_codes" "need_few_codes" (top 53) f fd) (h_MOST_SOUGHT : ∃ t, mg "MOST_SOUGHT" = some (.int 10 t)) (h_len : mg "len" = none) : Df P w K mg base 1 f fd ["book"] SF.m_need_few_codes := by
  obtain ⟨_, h_MOST_SOUGHT⟩ := h_MOST_SOUGHT
  refine df_mk (N := ["book"]) (ps := ["book"]) Fd sc_need_few_codes fun cdv A fs s H hr hgd => ?_
  have hu := hr.units
  exact (pfss_one (pfs_if (pft_cmp o_gt (pf_blt c_len h_len rfl (pfa_cons (pf_ix hu (pf_var 0) pf_int) pfa_nil)) (pf_globI h_MOST_SOUGHT)) (pfss_one pfs_never) pfss_nil))
theorem sc_size_among : FnScope ["words", "word"] ["words"] (defScope (top 35)) := ⟨rfl, rfl, rfl, by decide +kernel, rfl, by decide +kernel, by decide +kernel⟩
theorem d_size_among {f : Addr} {fd : FuncData} (Fd : Fun K "size_among" "size_among" (top 35) f fd) (h_sum : mg "sum" = none) (h_len : mg "len" = none) : Df P w K mg base 1 f fd ["words"] SF.m_size_among := by
  refine df_mk (N := ["words", "word"]) (ps := ["words"]) Fd sc_size_among fun cdv A fs s H hr hgd => ?_
  have hu := hr.units
  exact (pfss_one (pfs_ret (pf_blt (c_sum rfl) h_sum rfl (pfa_cons (pf_pure (pfn_lc (own := [("word", 1)]) rfl sc_size_among.nd (pfi_any (pf_var 0)) (blkOk_by (N := ["words", "word"]) (sc := defScope (top 35)) (by decide +kernel)) (fun _ _ _ _ _ => (pfg_name sc_size_among.nd)) (fun _ _ _ _ _ => pfts_nil) (fun _ _ _ _ _ => (pf_bin o_add (pf_blt c_len h_len rfl (pfa_cons (pf_var 1) pfa_nil)) pf_int)))) pfa_nil))))
theorem sc_least_row : FnScope ["needs", "goal", "least", "rows", "choice", "row", "settled", "at", "word"] ["needs", "goal"] (defScope (top 45)) := ⟨rfl, rfl, rfl, by decide +kernel, rfl, by decide +kernel, by decide +kernel⟩
theorem d_least_row {f : Addr} {fd : FuncData} (Fd : Fun K "least_row" "least_row" (top 45) f fd) (h_range : mg "range" = none) (h_len : mg "len" = none) (h_enumerate : mg "enumerate" = none) {f_settled_by : Addr} {fd_settled_by : FuncData} (G_settled_by : Gd K mg "settled_by" (top 37) ["needs", "words"] f_settled_by fd_settled_by) (D_settled_by : Df P w K mg base 2 f_settled_by fd_settled_by ["needs", "words"] SF.m_settled_by) {f_are_settled : Addr} {fd_are_settled : FuncData} (G_are_settled : Gd K mg "are_settled" (top 38) ["settled", "pairs"] f_are_settled fd_are_settled) (D_are_settled : Df P w K mg base 1 f_are_settled fd_are_settled ["settled", "pairs"] SF.m_are_settled) {f_size_among : Addr} {fd_size_among : FuncData} (G_size_among : Gd K mg "size_among" (top 35) ["words"] f_size_among fd_size_among) (D_size_among : Df P w K mg base 1 f_size_among fd_size_among ["words"] SF.m_size_among) {f_can_take : Addr} {fd_can_take : FuncData} (G_can_take : Gd K mg "can_take" (top 39) ["need", "settled"] f_can_take fd_can_take) (D_can_take : Df P w K mg base 2 f_can_take fd_can_take ["need", "settled"] SF.m_can_take) : Df P w K mg base 3 f fd ["needs", "goal"] SF.m_least_row := by
  refine df_gc ?_
  refine df_mk (N := ["needs", "goal", "least", "rows", "choice", "row", "settled", "at", "word"]) (ps := ["needs", "goal"]) Fd sc_least_row fun cdv A fs s H hr hgd => ?_
  have hu := hr.units
  exact (pfss_cons (pfs_set (i := 2) sc_least_row.nd pf_non) (pfss_cons (pfs_set (i := 3) sc_least_row.nd (pf_cell (pfn_disp (pfps_cons pf_int (pf_tup pfa_nil) pfps_nil)))) (pfss_cons (pfs_for PassesOwn.never rfl (pfi_range1 h_range (pfa_cons (pf_bin o_shl pf_int (pf_blt c_lenF h_len rfl (pfa_cons (pf_var 0) pfa_nil))) pfa_nil)) (pfg_name sc_least_row.nd) (pfss_one (pfs_if (pft_cmp (o_in hu) (pf_var 4) (pf_var 3)) (pfss_cons (pfs_set (i := 5) sc_least_row.nd (pf_ix hu (pf_var 3) (pf_var 4))) (pfss_cons (pfs_set (i := 6) sc_least_row.nd (pf_call D_settled_by (hr.mono (by decide)) hgd G_settled_by.m G_settled_by.kp G_settled_by.b (pfa_cons (pf_var 0) (pfa_cons (pf_var 5) pfa_nil)))) (pfss_cons (pfs_if (pfw_pt (pfw_and (pft_val (pf_call D_are_settled (hr.mono (by decide)) hgd G_are_settled.m G_are_settled.kp G_are_settled.b (pfa_cons (pf_var 6) (pfa_cons (pf_var 1) pfa_nil)))) (pfw_and1 (pfw_pt (pfw_or (pft_cmp o_is (pf_var 2) pf_non) (pfw_or1 (pft_cmp o_lt (pf_call D_size_among (hr.mono (by decide)) hgd G_size_among.m G_size_among.kp G_size_among.b (pfa_cons (pf_var 5) pfa_nil)) (pf_call D_size_among (hr.mono (by decide)) hgd G_size_among.m G_size_among.kp G_size_among.b (pfa_cons (pf_var 2) pfa_nil))))))))) (pfss_one (pfs_set (i := 2) sc_least_row.nd (pf_var 5))) pfss_nil) (pfss_one (pfs_forEK (j := 0) PassesOwn.never rfl h_enumerate (pfg_tup rfl (pfgs_cons (pfg_name sc_least_row.nd) (pfgs_cons (pfg_name sc_least_row.nd) pfgs_nil))) (pfss_one (pfs_if (pfw_pt (pfw_and (pft_cmp (o_nin hu) (pf_var 8) (pf_var 5)) (pfw_and1 (pft_val (pf_call D_can_take (hr.mono (by decide)) hgd G_can_take.m G_can_take.kp G_can_take.b (pfa_cons (pf_ixF hu (pf_var 0) (pf_var 8)) (pfa_cons (pf_var 6) pfa_nil))))))) (pfss_one (pfs_store hu (pf_bin o_add (pf_tup (pfa_cons (pf_var 8) pfa_nil)) (pf_var 5)) (pf_var 3) (pf_bin o_bor (pf_var 4) (pf_bin o_shl pf_int (pf_var 7))))) pfss_nil))))))) pfss_nil))) (pfss_one (pfs_ret (pf_var 2))))))
theorem sc_shortest_close : FnScope ["book", "row"] ["book", "row"] (defScope (top 63)) := ⟨rfl, rfl, rfl, by decide +kernel, rfl, by decide +kernel, by decide +kernel⟩
theorem d_shortest_close {f : Addr} {fd : FuncData} (Fd : Fun K "shortest_close" "shortest_close" (top 63) f fd) {f_need_row : Addr} {fd_need_row : FuncData} (G_need_row : Gd K mg "need_row" (top 50) ["book", "thing"] f_need_row fd_need_row) (D_need_row : Df P w K mg base 8 f_need_row fd_need_row ["book", "thing"] SF.m_need_row) {f_need_few_codes : Addr} {fd_need_few_codes : FuncData} (G_need_few_codes : Gd K mg "need_few_codes" (top 53) ["book"] f_need_few_codes fd_need_few_codes) (D_need_few_codes : Df P w K mg base 1 f_need_few_codes fd_need_few_codes ["book"] SF.m_need_few_codes) {f_least_row : Addr} {fd_least_row : FuncData} (G_least_row : Gd K mg "least_row" (top 45) ["needs", "goal"] f_least_row fd_least_row) (D_least_row : Df P w K mg base 3 f_least_row fd_least_row ["needs", "goal"] SF.m_least_row) {f_goal_of_close : Addr} {fd_goal_of_close : FuncData} (G_goal_of_close : Gd K mg "goal_of_close" (top 60) ["book", "row"] f_goal_of_close fd_goal_of_close) (D_goal_of_close : Df P w K mg base 4 f_goal_of_close fd_goal_of_close ["book", "row"] SF.m_goal_of_close) {f_needs_of_close : Addr} {fd_needs_of_close : FuncData} (G_needs_of_close : Gd K mg "needs_of_close" (top 59) ["book"] f_needs_of_close fd_needs_of_close) (D_needs_of_close : Df P w K mg base 1 f_needs_of_close fd_needs_of_close ["book"] SF.m_needs_of_close) : Df P w K mg base 9 f fd ["book", "row"] SF.m_shortest_close := by
  refine df_mk (N := ["book", "row"]) (ps := ["book", "row"]) Fd sc_shortest_close fun cdv A fs s H hr hgd => ?_
  have hu := hr.units
  exact (pfss_cons (pfs_expr (pf_call D_need_row (hr.mono (by decide)) hgd G_need_row.m G_need_row.kp G_need_row.b (pfa_cons (pf_var 0) (pfa_cons (pf_var 1) pfa_nil)))) (pfss_cons (pfs_expr (pf_call D_need_few_codes (hr.mono (by decide)) hgd G_need_few_codes.m G_need_few_codes.kp G_need_few_codes.b (pfa_cons (pf_var 0) pfa_nil))) (pfss_one (pfs_ret (pf_call D_least_row (hr.mono (by decide)) hgd G_least_row.m G_least_row.kp G_least_row.b (pfa_cons (pf_fd (pf_call D_needs_of_close (hr.mono (by decide)) hgd G_needs_of_close.m G_needs_of_close.kp G_needs_of_close.b (pfa_cons (pf_var 0) pfa_nil))) (pfa_cons (pf_call D_goal_of_close (hr.mono (by decide)) hgd G_goal_of_close.m G_goal_of_close.kp G_goal_of_close.b (pfa_cons (pf_var 0) (pfa_cons (pf_var 1) pfa_nil))) pfa_nil)))))))
theorem sc_take_all : FnScope ["needs", "words", "settled", "found", "word"] ["needs"] (defScope (top 40)) := ⟨rfl, rfl, rfl, by decide +kernel, rfl, by decide +kernel, by decide +kernel⟩
theorem d_take_all {f : Addr} {fd : FuncData} (Fd : Fun K "take_all" "take_all" (top 40) f fd) {f_can_take : Addr} {fd_can_take : FuncData} (G_can_take : Gd K mg "can_take" (top 39) ["need", "settled"] f_can_take fd_can_take) (D_can_take : Df P w K mg base 2 f_can_take fd_can_take ["need", "settled"] SF.m_can_take) {f_settle : Addr} {fd_settle : FuncData} (G_settle : Gd K mg "settle" (top 36) ["settled", "needs", "word"] f_settle fd_settle) (D_settle : Df P w K mg base 1 f_settle fd_settle ["settled", "needs", "word"] SF.m_settle) : Df P w K mg base 3 f fd ["needs"] SF.m_take_all := by
  refine df_gc ?_
  refine df_mk (N := ["needs", "words", "settled", "found", "word"]) (ps := ["needs"]) Fd sc_take_all fun cdv A fs s H hr hgd => ?_
  have hu := hr.units
  exact (pfss_cons (pfs_set (i := 1) sc_take_all.nd (pf_cell (pfn_lst pfa_nil))) (pfss_cons (pfs_set (i := 2) sc_take_all.nd (pf_cell pfn_kdc0)) (pfss_cons (pfs_set (i := 3) sc_take_all.nd pf_bl) (pfss_cons (pfs_while PassesOwn.never (pft_val (pf_var 3)) (pfss_cons (pfs_set (i := 3) sc_take_all.nd pf_bl) (pfss_one (pfs_forK (j := 0) PassesOwn.never rfl (pfg_name sc_take_all.nd) (pfss_one (pfs_if (pfw_pt (pfw_and (pft_cmp (o_nin hu) (pf_var 4) (pf_var 1)) (pfw_and1 (pft_val (pf_call D_can_take (hr.mono (by decide)) hgd G_can_take.m G_can_take.kp G_can_take.b (pfa_cons (pf_ixF hu (pf_var 0) (pf_var 4)) (pfa_cons (pf_var 2) pfa_nil))))))) (pfss_cons (pfs_expr (pf_append (pf_var 1) (pfa_cons (pf_var 4) pfa_nil))) (pfss_cons (pfs_expr (pf_call D_settle (hr.mono (by decide)) hgd G_settle.m G_settle.kp G_settle.b (pfa_cons (pf_var 2) (pfa_cons (pf_var 0) (pfa_cons (pf_var 4) pfa_nil))))) (pfss_one (pfs_set (i := 3) sc_take_all.nd pf_bl)))) pfss_nil)))))) (pfss_one (pfs_ret (pf_var 1)))))))
theorem sc_reach : FnScope ["needs", "goal", "words", "settled", "word"] ["needs", "goal", "words"] (defScope (top 41)) := ⟨rfl, rfl, rfl, by decide +kernel, rfl, by decide +kernel, by decide +kernel⟩
theorem d_reach {f : Addr} {fd : FuncData} (Fd : Fun K "reach" "reach" (top 41) f fd) {f_can_take : Addr} {fd_can_take : FuncData} (G_can_take : Gd K mg "can_take" (top 39) ["need", "settled"] f_can_take fd_can_take) (D_can_take : Df P w K mg base 2 f_can_take fd_can_take ["need", "settled"] SF.m_can_take) {f_settle : Addr} {fd_settle : FuncData} (G_settle : Gd K mg "settle" (top 36) ["settled", "needs", "word"] f_settle fd_settle) (D_settle : Df P w K mg base 1 f_settle fd_settle ["settled", "needs", "word"] SF.m_settle) {f_are_settled : Addr} {fd_are_settled : FuncData} (G_are_settled : Gd K mg "are_settled" (top 38) ["settled", "pairs"] f_are_settled fd_are_settled) (D_are_settled : Df P w K mg base 1 f_are_settled fd_are_settled ["settled", "pairs"] SF.m_are_settled) : Df P w K mg base 3 f fd ["needs", "goal", "words"] SF.m_reach := by
  refine df_gc ?_
  refine df_mk (N := ["needs", "goal", "words", "settled", "word"]) (ps := ["needs", "goal", "words"]) Fd sc_reach fun cdv A fs s H hr hgd => ?_
  have hu := hr.units
  exact (pfss_cons (pfs_set (i := 3) sc_reach.nd (pf_cell pfn_kdc0)) (pfss_cons (pfs_for PassesOwn.never rfl (pfi_any (pf_var 2)) (pfg_name sc_reach.nd) (pfss_cons (pfs_if (pft_not (pft_val (pf_call D_can_take (hr.mono (by decide)) hgd G_can_take.m G_can_take.kp G_can_take.b (pfa_cons (pf_ixF hu (pf_var 0) (pf_var 4)) (pfa_cons (pf_var 3) pfa_nil))))) (pfss_one (pfs_ret pf_bl)) pfss_nil) (pfss_one (pfs_expr (pf_call D_settle (hr.mono (by decide)) hgd G_settle.m G_settle.kp G_settle.b (pfa_cons (pf_var 3) (pfa_cons (pf_var 0) (pfa_cons (pf_var 4) pfa_nil)))))))) (pfss_one (pfs_ret (pf_call D_are_settled (hr.mono (by decide)) hgd G_are_settled.m G_are_settled.kp G_are_settled.b (pfa_cons (pf_var 3) (pfa_cons (pf_var 1) pfa_nil)))))))
theorem sc_without_idle : FnScope ["needs", "goal", "words", "kept", "word", "fewer", "other"] ["needs", "goal", "words"] (defScope (top 42)) := ⟨rfl, rfl, rfl, by decide +kernel, rfl, by decide +kernel, by decide +kernel⟩
theorem d_without_idle {f : Addr} {fd : FuncData} (Fd : Fun K "without_idle" "without_idle" (top 42) f fd) {f_reach : Addr} {fd_reach : FuncData} (G_reach : Gd K mg "reach" (top 41) ["needs", "goal", "words"] f_reach fd_reach) (D_reach : Df P w K mg base 3 f_reach fd_reach ["needs", "goal", "words"] SF.m_reach) : Df P w K mg base 4 f fd ["needs", "goal", "words"] SF.m_without_idle := by
  refine df_mk (N := ["needs", "goal", "words", "kept", "word", "fewer", "other"]) (ps := ["needs", "goal", "words"]) Fd sc_without_idle fun cdv A fs s H hr hgd => ?_
  have hu := hr.units
  exact (pfss_cons (pfs_set (i := 3) sc_without_idle.nd (pf_var 2)) (pfss_cons (pfs_for PassesOwn.never rfl (pfi_any (pf_rev (pf_var 2) (pf_un o_neg pf_int))) (pfg_name sc_without_idle.nd) (pfss_cons (pfs_setLc (own := [("other", 6)]) rfl sc_without_idle.nd rfl rfl (sw_true rfl rfl rfl (by decide +kernel)) (pfi_any (pf_var 3)) (blkOk_by (N := ["needs", "goal", "words", "kept", "word", "fewer", "other"]) (sc := defScope (top 42)) (by decide +kernel)) (fun _ _ _ _ _ => (pfg_name sc_without_idle.nd)) (fun _ _ _ _ _ => (pfts_one (pft_cmp (o_ne hu) (pf_var 6) (pf_var 4)))) (fun _ _ _ _ _ => (pf_var 6))) (pfss_one (pfs_if (pft_val (pf_call D_reach (hr.mono (by decide)) hgd G_reach.m G_reach.kp G_reach.b (pfa_cons (pf_var 0) (pfa_cons (pf_var 1) (pfa_cons (pf_var 5) pfa_nil))))) (pfss_one (pfs_set (i := 3) sc_without_idle.nd (pf_var 5))) pfss_nil)))) (pfss_one (pfs_ret (pf_var 3)))))
theorem sc_row_or_bar : FnScope ["needs", "goal", "words"] ["needs", "goal"] (defScope (top 43)) := ⟨rfl, rfl, rfl, by decide +kernel, rfl, by decide +kernel, by decide +kernel⟩
theorem d_row_or_bar {f : Addr} {fd : FuncData} (Fd : Fun K "row_or_bar" "row_or_bar" (top 43) f fd) (h_tuple : mg "tuple" = none) (h_sorted : mg "sorted" = none) {f_take_all : Addr} {fd_take_all : FuncData} (G_take_all : Gd K mg "take_all" (top 40) ["needs"] f_take_all fd_take_all) (D_take_all : Df P w K mg base 3 f_take_all fd_take_all ["needs"] SF.m_take_all) {f_are_settled : Addr} {fd_are_settled : FuncData} (G_are_settled : Gd K mg "are_settled" (top 38) ["settled", "pairs"] f_are_settled fd_are_settled) (D_are_settled : Df P w K mg base 1 f_are_settled fd_are_settled ["settled", "pairs"] SF.m_are_settled) {f_settled_by : Addr} {fd_settled_by : FuncData} (G_settled_by : Gd K mg "settled_by" (top 37) ["needs", "words"] f_settled_by fd_settled_by) (D_settled_by : Df P w K mg base 2 f_settled_by fd_settled_by ["needs", "words"] SF.m_settled_by) {f_without_idle : Addr} {fd_without_idle : FuncData} (G_without_idle : Gd K mg "without_idle" (top 42) ["needs", "goal", "words"] f_without_idle fd_without_idle) (D_without_idle : Df P w K mg base 4 f_without_idle fd_without_idle ["needs", "goal", "words"] SF.m_without_idle) : Df P w K mg base 5 f fd ["needs", "goal"] SF.m_row_or_bar := by
  refine df_mk (N := ["needs", "goal", "words"]) (ps := ["needs", "goal"]) Fd sc_row_or_bar fun cdv A fs s H hr hgd => ?_
  have hu := hr.units
  exact (pfss_cons (pfs_set (i := 2) sc_row_or_bar.nd (pf_call D_take_all (hr.mono (by decide)) hgd G_take_all.m G_take_all.kp G_take_all.b (pfa_cons (pf_var 0) pfa_nil))) (pfss_cons (pfs_if (pft_not (pft_val (pf_call D_are_settled (hr.mono (by decide)) hgd G_are_settled.m G_are_settled.kp G_are_settled.b (pfa_cons (pf_call D_settled_by (hr.mono (by decide)) hgd G_settled_by.m G_settled_by.kp G_settled_by.b (pfa_cons (pf_var 0) (pfa_cons (pf_var 2) pfa_nil))) (pfa_cons (pf_var 1) pfa_nil))))) (pfss_one (pfs_ret (pf_tup (pfa_cons pf_str (pfa_cons (pf_bltTy c_tup h_tuple rfl (pfa_cons (pf_pure (pfn_blt (c_sorted rfl) h_sorted rfl (pfa_cons (pf_var 2) pfa_nil))) pfa_nil)) pfa_nil))))) pfss_nil) (pfss_one (pfs_ret (pf_tup (pfa_cons pf_str (pfa_cons (pf_bltTy c_tup h_tuple rfl (pfa_cons (pf_rev (pf_call D_without_idle (hr.mono (by decide)) hgd G_without_idle.m G_without_idle.kp G_without_idle.b (pfa_cons (pf_var 0) (pfa_cons (pf_var 1) (pfa_cons (pf_var 2) pfa_nil)))) (pf_un o_neg pf_int)) pfa_nil)) pfa_nil)))))))
theorem sc_close_for : FnScope ["book", "row"] ["book", "row"] (defScope (top 61)) := ⟨rfl, rfl, rfl, by decide +kernel, rfl, by decide +kernel, by decide +kernel⟩
theorem d_close_for {f : Addr} {fd : FuncData} (Fd : Fun K "close_for" "close_for" (top 61) f fd) {f_need_row : Addr} {fd_need_row : FuncData} (G_need_row : Gd K mg "need_row" (top 50) ["book", "thing"] f_need_row fd_need_row) (D_need_row : Df P w K mg base 8 f_need_row fd_need_row ["book", "thing"] SF.m_need_row) {f_row_or_bar : Addr} {fd_row_or_bar : FuncData} (G_row_or_bar : Gd K mg "row_or_bar" (top 43) ["needs", "goal"] f_row_or_bar fd_row_or_bar) (D_row_or_bar : Df P w K mg base 5 f_row_or_bar fd_row_or_bar ["needs", "goal"] SF.m_row_or_bar) {f_goal_of_close : Addr} {fd_goal_of_close : FuncData} (G_goal_of_close : Gd K mg "goal_of_close" (top 60) ["book", "row"] f_goal_of_close fd_goal_of_close) (D_goal_of_close : Df P w K mg base 4 f_goal_of_close fd_goal_of_close ["book", "row"] SF.m_goal_of_close) {f_needs_of_close : Addr} {fd_needs_of_close : FuncData} (G_needs_of_close : Gd K mg "needs_of_close" (top 59) ["book"] f_needs_of_close fd_needs_of_close) (D_needs_of_close : Df P w K mg base 1 f_needs_of_close fd_needs_of_close ["book"] SF.m_needs_of_close) : Df P w K mg base 9 f fd ["book", "row"] SF.m_close_for := by
  refine df_mk (N := ["book", "row"]) (ps := ["book", "row"]) Fd sc_close_for fun cdv A fs s H hr hgd => ?_
  have hu := hr.units
  exact (pfss_cons (pfs_expr (pf_call D_need_row (hr.mono (by decide)) hgd G_need_row.m G_need_row.kp G_need_row.b (pfa_cons (pf_var 0) (pfa_cons (pf_var 1) pfa_nil)))) (pfss_one (pfs_ret (pf_call D_row_or_bar (hr.mono (by decide)) hgd G_row_or_bar.m G_row_or_bar.kp G_row_or_bar.b (pfa_cons (pf_fd (pf_call D_needs_of_close (hr.mono (by decide)) hgd G_needs_of_close.m G_needs_of_close.kp G_needs_of_close.b (pfa_cons (pf_var 0) pfa_nil))) (pfa_cons (pf_call D_goal_of_close (hr.mono (by decide)) hgd G_goal_of_close.m G_goal_of_close.kp G_goal_of_close.b (pfa_cons (pf_var 0) (pfa_cons (pf_var 1) pfa_nil))) pfa_nil))))))
theorem sc_size_of : FnScope ["book", "row"] ["book", "row"] (defScope (top 51)) := ⟨rfl, rfl, rfl, by decide +kernel, rfl, by decide +kernel, by decide +kernel⟩
theorem d_size_of {f : Addr} {fd : FuncData} (Fd : Fun K "size_of" "size_of" (top 51) f fd) {f_size_among : Addr} {fd_size_among : FuncData} (G_size_among : Gd K mg "size_among" (top 35) ["words"] f_size_among fd_size_among) (D_size_among : Df P w K mg base 1 f_size_among fd_size_among ["words"] SF.m_size_among) {f_need_row : Addr} {fd_need_row : FuncData} (G_need_row : Gd K mg "need_row" (top 50) ["book", "thing"] f_need_row fd_need_row) (D_need_row : Df P w K mg base 8 f_need_row fd_need_row ["book", "thing"] SF.m_need_row) : Df P w K mg base 9 f fd ["book", "row"] SF.m_size_of := by
  refine df_mk (N := ["book", "row"]) (ps := ["book", "row"]) Fd sc_size_of fun cdv A fs s H hr hgd => ?_
  have hu := hr.units
  exact (pfss_one (pfs_ret (pf_call D_size_among (hr.mono (by decide)) hgd G_size_among.m G_size_among.kp G_size_among.b (pfa_cons (pf_call D_need_row (hr.mono (by decide)) hgd G_need_row.m G_need_row.kp G_need_row.b (pfa_cons (pf_var 0) (pfa_cons (pf_var 1) pfa_nil))) pfa_nil))))
theorem sc__law_right : FnScope ["book", "is_more", "row", "other", "due", "found", "way", "words"] ["book", "is_more"] (defScope (top 72)) := ⟨rfl, rfl, rfl, by decide +kernel, rfl, by decide +kernel, by decide +kernel⟩
theorem d__law_right {f : Addr} {fd : FuncData} (Fd : Fun K "_law_right" "_law_right" (top 72) f fd) (h_repr : mg "repr" = none) (h_len : mg "len" = none) (h_set : mg "set" = none) {f__law_closing_rows : Addr} {fd__law_closing_rows : FuncData} (G__law_closing_rows : Gd K mg "_law_closing_rows" (top 69) [] f__law_closing_rows fd__law_closing_rows) (D__law_closing_rows : Df P w K mg base 1 f__law_closing_rows fd__law_closing_rows [] SF.m__law_closing_rows) {f__law_more_rows : Addr} {fd__law_more_rows : FuncData} (G__law_more_rows : Gd K mg "_law_more_rows" (top 70) [] f__law_more_rows fd__law_more_rows) (D__law_more_rows : Df P w K mg base 1 f__law_more_rows fd__law_more_rows [] SF.m__law_more_rows) {f_closes : Addr} {fd_closes : FuncData} (G_closes : Gd K mg "closes" (top 58) ["book", "row", "other"] f_closes fd_closes) (D_closes : Df P w K mg base 10 f_closes fd_closes ["book", "row", "other"] SF.m_closes) {f__law_sizes : Addr} {fd__law_sizes : FuncData} (G__law_sizes : Gd K mg "_law_sizes" (top 71) ["is_more"] f__law_sizes fd__law_sizes) (D__law_sizes : Df P w K mg base 1 f__law_sizes fd__law_sizes ["is_more"] SF.m__law_sizes) {f_close_for : Addr} {fd_close_for : FuncData} (G_close_for : Gd K mg "close_for" (top 61) ["book", "row"] f_close_for fd_close_for) (D_close_for : Df P w K mg base 9 f_close_for fd_close_for ["book", "row"] SF.m_close_for) {f_shortest_close : Addr} {fd_shortest_close : FuncData} (G_shortest_close : Gd K mg "shortest_close" (top 63) ["book", "row"] f_shortest_close fd_shortest_close) (D_shortest_close : Df P w K mg base 9 f_shortest_close fd_shortest_close ["book", "row"] SF.m_shortest_close) {f_size_of : Addr} {fd_size_of : FuncData} (G_size_of : Gd K mg "size_of" (top 51) ["book", "row"] f_size_of fd_size_of) (D_size_of : Df P w K mg base 9 f_size_of fd_size_of ["book", "row"] SF.m_size_of) : Df P w K mg base 11 f fd ["book", "is_more"] SF.m__law_right_k29 := by
  refine df_gc ?_
  refine df_mk (N := ["book", "is_more", "row", "other", "due", "found", "way", "words"]) (ps := ["book", "is_more"]) Fd sc__law_right fun cdv A fs s H hr hgd => ?_
  have hu := hr.units
  exact (pfss_cons (pfs_for PassesOwn.never rfl (pfi_any (pf_bin o_add (pf_call0 D__law_closing_rows (hr.mono (by decide)) hgd G__law_closing_rows.m G__law_closing_rows.kp G__law_closing_rows.b) (pf_if (pft_val (pf_var 1)) (pf_call0 D__law_more_rows (hr.mono (by decide)) hgd G__law_more_rows.m G__law_more_rows.kp G__law_more_rows.b) (pf_cell (pfn_lst pfa_nil))))) (pfg_tup rfl (pfgs_cons (pfg_name sc__law_right.nd) (pfgs_cons (pfg_name sc__law_right.nd) (pfgs_cons (pfg_name sc__law_right.nd) pfgs_nil)))) (pfss_one (pfs_if (pft_cmp (o_ne hu) (pf_blt (c_reprB hgd hu) h_repr rfl (pfa_cons (pf_call D_closes (hr.mono (by decide)) hgd G_closes.m G_closes.kp G_closes.b (pfa_cons (pf_var 0) (pfa_cons (pf_var 2) (pfa_cons (pf_var 3) pfa_nil)))) pfa_nil)) (pf_blt (c_reprB hgd hu) h_repr rfl (pfa_cons (pf_var 4) pfa_nil))) (pfss_one (pfs_ret pf_bl)) pfss_nil))) (pfss_cons (pfs_for PassesOwn.never rfl (pfi_any (pf_call D__law_sizes (hr.mono (by decide)) hgd G__law_sizes.m G__law_sizes.kp G__law_sizes.b (pfa_cons (pf_var 1) pfa_nil))) (pfg_tup rfl (pfgs_cons (pfg_name sc__law_right.nd) (pfgs_cons (pfg_name sc__law_right.nd) pfgs_nil))) (pfss_cons (pfs_asg (pf_tup (pfa_cons (pf_call D_shortest_close (hr.mono (by decide)) hgd G_shortest_close.m G_shortest_close.kp G_shortest_close.b (pfa_cons (pf_var 0) (pfa_cons (pf_var 2) pfa_nil))) (pfa_cons (pf_call D_close_for (hr.mono (by decide)) hgd G_close_for.m G_close_for.kp G_close_for.b (pfa_cons (pf_var 0) (pfa_cons (pf_var 2) pfa_nil))) pfa_nil))) (pfg_tup rfl (pfgs_cons (pfg_name sc__law_right.nd) (pfgs_cons (pfg_tup rfl (pfgs_cons (pfg_name sc__law_right.nd) (pfgs_cons (pfg_name sc__law_right.nd) pfgs_nil))) pfgs_nil)))) (pfss_cons (pfs_if (pfw_pt (pfw_or (pft_cmp (o_ne hu) (pf_cmp o_is (pf_var 5) pf_non) (pf_cmp o_is (pf_var 4) pf_non)) (pfw_or1 (pft_cmp (o_ne hu) (pf_var 6) (pf_if (pft_cmp o_is (pf_var 4) pf_non) pf_str pf_str))))) (pfss_one (pfs_ret pf_bl)) pfss_nil) (pfss_cons (pfs_if (pfw_pt (pfw_and (pft_cmp o_is (pf_var 4) pf_non) (pfw_and1 (pft_cmp (o_ne hu) (pf_var 7) (pf_tup (pfa_cons pf_str (pfa_cons pf_str (pfa_cons pf_str (pfa_cons pf_str (pfa_cons pf_str (pfa_cons pf_str pfa_nil))))))))))) (pfss_one (pfs_ret pf_bl)) pfss_nil) (pfss_cons (pfs_if (pft_cmp o_is (pf_var 4) pf_non) (pfss_one pfs_cont) pfss_nil) (pfss_cons (pfs_if (pfw_pt (pfw_or (pft_cmp (o_ne hu) (pf_call D_size_of (hr.mono (by decide)) hgd G_size_of.m G_size_of.kp G_size_of.b (pfa_cons (pf_var 0) (pfa_cons (pf_var 5) pfa_nil))) (pf_var 4)) (pfw_or (pft_not (pft_val (pf_call D_closes (hr.mono (by decide)) hgd G_closes.m G_closes.kp G_closes.b (pfa_cons (pf_var 0) (pfa_cons (pf_var 2) (pfa_cons (pf_var 5) pfa_nil)))))) (pfw_or1 (pft_not (pft_val (pf_call D_closes (hr.mono (by decide)) hgd G_closes.m G_closes.kp G_closes.b (pfa_cons (pf_var 0) (pfa_cons (pf_var 2) (pfa_cons (pf_var 7) pfa_nil)))))))))) (pfss_one (pfs_ret pf_bl)) pfss_nil) (pfss_one (pfs_if (pft_cmp o_lt (pf_lenX h_len rfl (pfx_set rfl h_set rfl (pfa_cons (pf_var 7) pfa_nil))) (pf_blt c_len h_len rfl (pfa_cons (pf_var 7) pfa_nil))) (pfss_one (pfs_ret pf_bl)) pfss_nil)))))))) (pfss_one (pfs_ret pf_bl))))
theorem sc__law_mixed : FnScope ["cell", "k"] ["cell", "k"] (defScope (top 65)) := ⟨rfl, rfl, rfl, by decide +kernel, rfl, by decide +kernel, by decide +kernel⟩
theorem d__law_mixed {f : Addr} {fd : FuncData} (Fd : Fun K "_law_mixed" "_law_mixed" (top 65) f fd) (h_int : mg "int" = none) : Df P w K mg base 1 f fd ["cell", "k"] SF.m__law_mixed := by
  refine df_mk (N := ["cell", "k"]) (ps := ["cell", "k"]) Fd sc__law_mixed fun cdv A fs s H hr hgd => ?_
  have hu := hr.units
  exact (pfss_cons (pfs_set (i := 0) sc__law_mixed.nd (pf_bin o_mod (pf_bltTy c_int h_int rfl (pfa_cons (pf_var 0) pfa_nil)) pf_int)) (pfss_one (pfs_ret (pf_bin o_mod (pf_bin o_mul (pf_bin o_mod (pf_bin o_add (pf_bin o_add (pf_bin o_mul (pf_var 0) (pf_bin o_add pf_int (pf_bin o_mul (pf_bin o_mul pf_int (pf_var 1)) (pf_var 1)))) (pf_bin o_mul pf_int (pf_var 1))) pf_int) pf_int) pf_int) pf_int))))
theorem sc__law_draw : FnScope ["state", "many", "at", "place", "left", "number"] ["state", "many"] (defScope (top 67)) := ⟨rfl, rfl, rfl, by decide +kernel, rfl, by decide +kernel, by decide +kernel⟩
theorem d__law_draw {f : Addr} {fd : FuncData} (Fd : Fun K "_law_draw" "_law_draw" (top 67) f fd) (h_int : mg "int" = none) (h_len : mg "len" = none) {f__law_mixed : Addr} {fd__law_mixed : FuncData} (G__law_mixed : Gd K mg "_law_mixed" (top 65) ["cell", "k"] f__law_mixed fd__law_mixed) (D__law_mixed : Df P w K mg base 1 f__law_mixed fd__law_mixed ["cell", "k"] SF.m__law_mixed) : Df P w K mg base 2 f fd ["state", "many"] SF.m__law_draw := by
  refine df_mk (N := ["state", "many", "at", "place", "left", "number"]) (ps := ["state", "many"]) Fd sc__law_draw fun cdv A fs s H hr hgd => ?_
  have hu := hr.units
  exact (pfss_cons (pfs_set (i := 2) sc__law_draw.nd (pf_ix hu (pf_var 0) pf_str)) (pfss_cons (pfs_store hu (pf_bin o_add (pf_var 2) pf_int) (pf_var 0) pf_str) (pfss_cons (pfs_set (i := 3) sc__law_draw.nd (pf_bin o_mod (pf_bltTy c_int h_int rfl (pfa_cons (pf_var 2) pfa_nil)) (pf_blt c_len h_len rfl (pfa_cons (pf_ix hu (pf_var 0) pf_str) pfa_nil)))) (pfss_cons (pfs_set (i := 4) sc__law_draw.nd (pf_ix hu (pf_ix hu (pf_var 0) pf_str) (pf_var 3))) (pfss_cons (pfs_if (pft_cmp o_gt (pf_var 4) pf_int) (pfss_cons (pfs_store hu (pf_bin o_fdiv (pf_var 4) (pf_var 1)) (pf_ix hu (pf_var 0) pf_str) (pf_var 3)) (pfss_one (pfs_ret (pf_bin o_mod (pf_bltTy c_int h_int rfl (pfa_cons (pf_var 4) pfa_nil)) (pf_var 1))))) pfss_nil) (pfss_cons (pfs_set (i := 5) sc__law_draw.nd (pf_call D__law_mixed (hr.mono (by decide)) hgd G__law_mixed.m G__law_mixed.kp G__law_mixed.b (pfa_cons (pf_call D__law_mixed (hr.mono (by decide)) hgd G__law_mixed.m G__law_mixed.kp G__law_mixed.b (pfa_cons (pf_ix hu (pf_ix hu (pf_var 0) pf_str) (pf_var 3)) (pfa_cons (pf_var 2) pfa_nil))) (pfa_cons (pf_bin o_add pf_int (pf_var 2)) pfa_nil)))) (pfss_one (pfs_ret (pf_bin o_mod (pf_bin o_fdiv (pf_bltTy c_int h_int rfl (pfa_cons (pf_bin o_add (pf_bin o_mul (pf_var 5) pf_int) (pf_call D__law_mixed (hr.mono (by decide)) hgd G__law_mixed.m G__law_mixed.kp G__law_mixed.b (pfa_cons (pf_var 5) (pfa_cons (pf_bin o_add pf_int (pf_var 2)) pfa_nil)))) pfa_nil)) pf_int) (pf_var 1))))))))))
theorem sc_law : FnScope ["script", "state", "turn", "things", "more", "book", "bar", "k", "codes", "found", "thing"] ["script"] (defScope (top 73)) := ⟨rfl, rfl, rfl, by decide +kernel, rfl, by decide +kernel, by decide +kernel⟩
theorem d_law {f : Addr} {fd : FuncData} (Fd : Fun K "law" "law" (top 73) f fd) (h_range : mg "range" = none) (h_min : mg "min" = none) (h_len : mg "len" = none) (h_list : mg "list" = none) (h_tuple : mg "tuple" = none) {f__law_begin : Addr} {fd__law_begin : FuncData} (G__law_begin : Gd K mg "_law_begin" (top 66) ["script"] f__law_begin fd__law_begin) (D__law_begin : Df P w K mg base 1 f__law_begin fd__law_begin ["script"] SF.m__law_begin) {f__law_hand_book : Addr} {fd__law_hand_book : FuncData} (G__law_hand_book : Gd K mg "_law_hand_book" (top 68) ["more"] f__law_hand_book fd__law_hand_book) (D__law_hand_book : Df P w K mg base 1 f__law_hand_book fd__law_hand_book ["more"] SF.m__law_hand_book_k32) {f__law_draw : Addr} {fd__law_draw : FuncData} (G__law_draw : Gd K mg "_law_draw" (top 67) ["state", "many"] f__law_draw fd__law_draw) (D__law_draw : Df P w K mg base 2 f__law_draw fd__law_draw ["state", "many"] SF.m__law_draw) {f__law_right : Addr} {fd__law_right : FuncData} (G__law_right : Gd K mg "_law_right" (top 72) ["book", "is_more"] f__law_right fd__law_right) (D__law_right : Df P w K mg base 11 f__law_right fd__law_right ["book", "is_more"] SF.m__law_right_k29) {f_closes : Addr} {fd_closes : FuncData} (G_closes : Gd K mg "closes" (top 58) ["book", "row", "other"] f_closes fd_closes) (D_closes : Df P w K mg base 10 f_closes fd_closes ["book", "row", "other"] SF.m_closes) {f_is_barred : Addr} {fd_is_barred : FuncData} (G_is_barred : Gd K mg "is_barred" (top 62) ["book", "row", "thing"] f_is_barred fd_is_barred) (D_is_barred : Df P w K mg base 9 f_is_barred fd_is_barred ["book", "row", "thing"] SF.m_is_barred) : Df P w K mg base 12 f fd ["script"] SF.m_law_k29 := by
  refine df_mk (N := ["script", "state", "turn", "things", "more", "book", "bar", "k", "codes", "found", "thing"]) (ps := ["script"]) Fd sc_law fun cdv A fs s H hr hgd => ?_
  have hu := hr.units
  exact (pfss_cons (pfs_set (i := 1) sc_law.nd (pf_call D__law_begin (hr.mono (by decide)) hgd G__law_begin.m G__law_begin.kp G__law_begin.b (pfa_cons (pf_var 0) pfa_nil))) (pfss_cons (pfs_for PassesOwn.never rfl (pfi_range1 h_range (pfa_cons (pf_bin o_add pf_int (pf_blt (c_min rfl) h_min rfl (pfa_cons pf_int (pfa_cons (pf_blt c_len h_len rfl (pfa_cons (pf_var 0) pfa_nil)) pfa_nil)))) pfa_nil)) (pfg_name sc_law.nd) (pfss_one (pfs_for PassesOwn.never rfl (pfi_any (pf_tup (pfa_cons (pf_tup pfa_nil) (pfa_cons (pf_tup (pfa_cons (pf_tup (pfa_cons pf_str (pfa_cons pf_str (pfa_cons (pf_tup (pfa_cons (pf_tup (pfa_cons pf_str (pfa_cons pf_str pfa_nil))) pfa_nil)) pfa_nil)))) pfa_nil)) pfa_nil)))) (pfg_name sc_law.nd) (pfss_cons (pfs_set (i := 5) sc_law.nd (pf_call D__law_hand_book (hr.mono (by decide)) hgd G__law_hand_book.m G__law_hand_book.kp G__law_hand_book.b (pfa_cons (pf_var 4) pfa_nil))) (pfss_cons (pfs_par (i := 8) (j := 9) rfl sc_law.nd (pfa_cons (pf_cell (pfn_bltTy (c_list rfl) h_list rfl (pfa_cons (pf_ix hu (pf_var 5) pf_int) pfa_nil))) (pfa_cons (pf_cell (pfn_lst pfa_nil)) pfa_nil))) (pfss_cons (pfs_for PassesOwn.never rfl (pfi_range1 h_range (pfa_cons (pf_blt c_len h_len rfl (pfa_cons (pf_var 8) pfa_nil)) pfa_nil)) (pfg_name sc_law.nd) (pfss_one (pfs_expr (pf_append (pf_var 9) (pfa_cons (pf_pop (pf_var 8) (pfa_cons (pf_call D__law_draw (hr.mono (by decide)) hgd G__law_draw.m G__law_draw.kp G__law_draw.b (pfa_cons (pf_var 1) (pfa_cons (pf_blt c_len h_len rfl (pfa_cons (pf_var 8) pfa_nil)) pfa_nil))) pfa_nil)) pfa_nil))))) (pfss_one (pfs_if (pft_not (pft_val (pf_call D__law_right (hr.mono (by decide)) hgd G__law_right.m G__law_right.kp G__law_right.b (pfa_cons (pf_bin o_add (pf_slice (pf_var 5) pfo_none (pfo_some pf_int)) (pf_tup (pfa_cons (pf_bltTy c_tup h_tuple rfl (pfa_cons (pf_var 9) pfa_nil)) pfa_nil))) (pfa_cons (pf_cmp (o_ne hu) (pf_var 4) (pf_tup pfa_nil)) pfa_nil))))) (pfss_one (pfs_ret pf_bl)) pfss_nil)))))))) (pfss_cons (pfs_asg (pf_tup (pfa_cons (pf_call D__law_hand_book (hr.mono (by decide)) hgd G__law_hand_book.m G__law_hand_book.kp G__law_hand_book.b (pfa_cons (pf_tup pfa_nil) pfa_nil)) (pfa_cons (pf_tup (pfa_cons pf_str (pfa_cons pf_str (pfa_cons pf_str (pfa_cons pf_str (pfa_cons pf_str (pfa_cons pf_str pfa_nil))))))) pfa_nil))) (pfg_tup rfl (pfgs_cons (pfg_name sc_law.nd) (pfgs_cons (pfg_name sc_law.nd) pfgs_nil)))) (pfss_cons (pfs_if (pft_cmp (o_ne hu) (pf_pure (pfn_lst (pfa_cons (pf_call D_closes (hr.mono (by decide)) hgd G_closes.m G_closes.kp G_closes.b (pfa_cons (pf_var 5) (pfa_cons (pf_bin o_mulT (pf_tup (pfa_cons pf_str pfa_nil)) pf_int) (pfa_cons (pf_bin o_mulT (pf_tup (pfa_cons pf_str pfa_nil)) pf_int) pfa_nil)))) (pfa_cons (pf_call D_closes (hr.mono (by decide)) hgd G_closes.m G_closes.kp G_closes.b (pfa_cons (pf_var 5) (pfa_cons (pf_bin o_mulT (pf_tup (pfa_cons pf_str pfa_nil)) pf_int) (pfa_cons (pf_bin o_mulT (pf_tup (pfa_cons pf_str pfa_nil)) pf_int) pfa_nil)))) pfa_nil)))) (pf_pure (pfn_lst (pfa_cons pf_bl (pfa_cons pf_bl pfa_nil))))) (pfss_one (pfs_ret pf_bl)) pfss_nil) (pfss_cons (pfs_set (i := 3) sc_law.nd (pf_cell (pfn_lst (pfa_cons (pf_tup pfa_nil) (pfa_cons (pf_var 6) (pfa_cons (pf_slice (pf_var 6) pfo_none (pfo_some pf_int)) (pfa_cons (pf_bin o_add (pf_slice (pf_var 6) (pfo_some pf_int) pfo_none) (pf_slice (pf_var 6) pfo_none (pfo_some pf_int))) (pfa_cons (pf_pure (pfn_bltTy (c_list rfl) h_list rfl (pfa_cons (pf_var 6) pfa_nil))) (pfa_cons pf_non (pfa_cons (pf_tup (pfa_cons pf_str (pfa_cons pf_str (pfa_cons pf_str pfa_nil)))) (pfa_cons (pf_tup (pfa_cons pf_str (pfa_cons pf_str pfa_nil))) (pfa_cons (pf_tup (pfa_cons pf_str pfa_nil)) (pfa_cons pf_int (pfa_cons pf_str pfa_nil)))))))))))))) (pfss_cons (pfs_expr (pf_append (pf_var 3) (pfa_cons (pf_tup (pfa_cons pf_str (pfa_cons pf_str (pfa_cons pf_str (pfa_cons pf_str (pfa_cons pf_str (pfa_cons pf_str (pfa_cons pf_str pfa_nil)))))))) pfa_nil))) (pfss_cons (pfs_if (pfw_pt (pfw_or (pft_val (pf_call D_is_barred (hr.mono (by decide)) hgd G_is_barred.m G_is_barred.kp G_is_barred.b (pfa_cons (pf_var 5) (pfa_cons (pf_tup (pfa_cons pf_str pfa_nil)) (pfa_cons (pf_var 6) pfa_nil))))) (pfw_or1 (pft_val (pf_call D_is_barred (hr.mono (by decide)) hgd G_is_barred.m G_is_barred.kp G_is_barred.b (pfa_cons (pf_var 5) (pfa_cons (pf_tup pfa_nil) (pfa_cons (pf_var 6) pfa_nil)))))))) (pfss_one (pfs_ret pf_bl)) pfss_nil) (pfss_one (pfs_ret (pf_cmp (o_eq hu) (pf_pure (pfn_lcC (own := [("thing", 10)]) rfl sc_law.nd (pfi_cell (pf_var 3)) (blkOk_by (N := ["script", "state", "turn", "things", "more", "book", "bar", "k", "codes", "found", "thing"]) (sc := defScope (top 73)) (by decide +kernel)) (fun _ _ _ _ _ => (pfg_name sc_law.nd)) (fun _ _ _ _ _ => (pfts_one (pft_val (pf_call D_is_barred (hr.mono (by decide)) hgd G_is_barred.m G_is_barred.kp G_is_barred.b (pfa_cons (pf_var 5) (pfa_cons (pf_tup (pfa_cons pf_str pfa_nil)) (pfa_cons (pf_var 10) pfa_nil))))))) (fun _ _ _ _ _ => (pf_var 10)))) (pf_pure (pfn_lst (pfa_cons (pf_var 6) pfa_nil)))))))))))))
theorem all_mk {w : World} {K : PySem.W.Frag} {h : Heap} {mg : Str → Option Value} {fa : Addr} (X : K.In h) (G : h.Ns mainGlobals mg) (hfa : mg "law" = some (.ref fa))
  (e__law_begin : FnIn K "_law_begin" (top 66))
  (e__law_hand_book : FnIn K "_law_hand_book" (top 68))
  (e_is_short : FnIn K "is_short" (top 12))
  (e_is_word : FnIn K "is_word" (top 14))
  (e_is_name : FnIn K "is_name" (top 13))
  (e_ascend : FnIn K "ascend" (top 15))
  (e_is_name_pair : FnIn K "is_name_pair" (top 17))
  (e_are_gifts : FnIn K "are_gifts" (top 18))
  (e_is_code : FnIn K "is_code" (top 19))
  (e_need_codes : FnIn K "need_codes" (top 20))
  (e_are_names : FnIn K "are_names" (top 16))
  (e_need_book : FnIn K "need_book" (top 21))
  (e_words_of : FnIn K "words_of" (top 23))
  (e_is_row : FnIn K "is_row" (top 49))
  (e_need_row : FnIn K "need_row" (top 50))
  (e_settle : FnIn K "settle" (top 36))
  (e_settled_by : FnIn K "settled_by" (top 37))
  (e_are_settled : FnIn K "are_settled" (top 38))
  (e_can_take : FnIn K "can_take" (top 39))
  (e_bars : FnIn K "bars" (top 44))
  (e_are_some_words : FnIn K "are_some_words" (top 52))
  (e_needs_of_close : FnIn K "needs_of_close" (top 59))
  (e_codes_by_word : FnIn K "codes_by_word" (top 24))
  (e_no_chains : FnIn K "no_chains" (top 31))
  (e_is_letter : FnIn K "is_letter" (top 25))
  (e_is_sign : FnIn K "is_sign" (top 26))
  (e_behind : FnIn K "behind" (top 30))
  (e_pass_code : FnIn K "pass_code" (top 32))
  (e_chains_behind : FnIn K "chains_behind" (top 33))
  (e_goal_of_close : FnIn K "goal_of_close" (top 60))
  (e_is_barred : FnIn K "is_barred" (top 62))
  (e_kinds_of : FnIn K "kinds_of" (top 22))
  (e_worth_among : FnIn K "worth_among" (top 28))
  (e_least_apart : FnIn K "least_apart" (top 29))
  (e_with_plain : FnIn K "with_plain" (top 55))
  (e_apart_behind : FnIn K "apart_behind" (top 56))
  (e_closes : FnIn K "closes" (top 58))
  (e__law_sizes : FnIn K "_law_sizes" (top 71))
  (e__law_closing_rows : FnIn K "_law_closing_rows" (top 69))
  (e__law_more_rows : FnIn K "_law_more_rows" (top 70))
  (e_need_few_codes : FnIn K "need_few_codes" (top 53))
  (e_size_among : FnIn K "size_among" (top 35))
  (e_least_row : FnIn K "least_row" (top 45))
  (e_shortest_close : FnIn K "shortest_close" (top 63))
  (e_take_all : FnIn K "take_all" (top 40))
  (e_reach : FnIn K "reach" (top 41))
  (e_without_idle : FnIn K "without_idle" (top 42))
  (e_row_or_bar : FnIn K "row_or_bar" (top 43))
  (e_close_for : FnIn K "close_for" (top 61))
  (e_size_of : FnIn K "size_of" (top 51))
  (e__law_right : FnIn K "_law_right" (top 72))
  (e__law_mixed : FnIn K "_law_mixed" (top 65))
  (e__law_draw : FnIn K "_law_draw" (top 67))
  (e_law : FnIn K "law" (top 73))
  (g_LONGEST : ∃ t, PySem.W.nsIn K mainGlobals "LONGEST" = some (some (.int 8 t)))
  (g_FIGURES : ∃ t, PySem.W.nsIn K mainGlobals "FIGURES" = some (some (.str "0123456789" t)))
  (g_LETTERS : ∃ t, PySem.W.nsIn K mainGlobals "LETTERS" = some (some (.str "abcdefghijklmnopqrstuvwxyz" t)))
  (g_MOST_KINDS : ∃ t, PySem.W.nsIn K mainGlobals "MOST_KINDS" = some (some (.int 6 t)))
  (g_MOST_ASPECTS : ∃ t, PySem.W.nsIn K mainGlobals "MOST_ASPECTS" = some (some (.int 6 t)))
  (g_MOST_CODES : ∃ t, PySem.W.nsIn K mainGlobals "MOST_CODES" = some (some (.int 16 t)))
  (g_MOST_WORDS : ∃ t, PySem.W.nsIn K mainGlobals "MOST_WORDS" = some (some (.int 60 t)))
  (g_MOST_SOUGHT : ∃ t, PySem.W.nsIn K mainGlobals "MOST_SOUGHT" = some (some (.int 10 t)))
  (z_list : PySem.W.nsIn K mainGlobals "list" = some none)
  (z_isinstance : PySem.W.nsIn K mainGlobals "isinstance" = some none)
  (z_str : PySem.W.nsIn K mainGlobals "str" = some none)
  (z_len : PySem.W.nsIn K mainGlobals "len" = some none)
  (z_all : PySem.W.nsIn K mainGlobals "all" = some none)
  (z_range : PySem.W.nsIn K mainGlobals "range" = some none)
  (z_tuple : PySem.W.nsIn K mainGlobals "tuple" = some none)
  (z_enumerate : PySem.W.nsIn K mainGlobals "enumerate" = some none)
  (z_any : PySem.W.nsIn K mainGlobals "any" = some none)
  (z_sorted : PySem.W.nsIn K mainGlobals "sorted" = some none)
  (z_sum : PySem.W.nsIn K mainGlobals "sum" = some none)
  (z_repr : PySem.W.nsIn K mainGlobals "repr" = some none)
  (z_set : PySem.W.nsIn K mainGlobals "set" = some none)
  (z_int : PySem.W.nsIn K mainGlobals "int" = some none)
  (z_min : PySem.W.nsIn K mainGlobals "min" = some none) :
    ∃ fd : FuncData, (∀ (s : Shared) (v : Value), BindsTo s fd ⟨[v], []⟩ [("script", v)]) ∧ ∀ base : Heap, K.In base → base.Ns mainGlobals mg → Df PySem.Challenge.pw_stylefall_k29_closing_by_hand w K mg base 12 fa fd ["script"] SF.m_law_k29 := by
  have h_LONGEST := g_LONGEST.imp fun _ z => PySem.W.mg_of X G z
  have h_FIGURES := g_FIGURES.imp fun _ z => PySem.W.mg_of X G z
  have h_LETTERS := g_LETTERS.imp fun _ z => PySem.W.mg_of X G z
  have h_MOST_KINDS := g_MOST_KINDS.imp fun _ z => PySem.W.mg_of X G z
  have h_MOST_ASPECTS := g_MOST_ASPECTS.imp fun _ z => PySem.W.mg_of X G z
  have h_MOST_CODES := g_MOST_CODES.imp fun _ z => PySem.W.mg_of X G z
  have h_MOST_WORDS := g_MOST_WORDS.imp fun _ z => PySem.W.mg_of X G z
  have h_MOST_SOUGHT := g_MOST_SOUGHT.imp fun _ z => PySem.W.mg_of X G z
  have h_list := PySem.W.mg_none_of X G z_list
  have h_isinstance := PySem.W.mg_none_of X G z_isinstance
  have h_str := PySem.W.mg_none_of X G z_str
  have h_len := PySem.W.mg_none_of X G z_len
  have h_all := PySem.W.mg_none_of X G z_all
  have h_range := PySem.W.mg_none_of X G z_range
  have h_tuple := PySem.W.mg_none_of X G z_tuple
  have h_enumerate := PySem.W.mg_none_of X G z_enumerate
  have h_any := PySem.W.mg_none_of X G z_any
  have h_sorted := PySem.W.mg_none_of X G z_sorted
  have h_sum := PySem.W.mg_none_of X G z_sum
  have h_repr := PySem.W.mg_none_of X G z_repr
  have h_set := PySem.W.mg_none_of X G z_set
  have h_int := PySem.W.mg_none_of X G z_int
  have h_min := PySem.W.mg_none_of X G z_min
  obtain ⟨f__law_begin, fd__law_begin, G__law_begin⟩ := e__law_begin.gd (ps := ["script"]) X G fun F => F.binds (ps := ["script"]) fun _ _ _ _ _ _ us hl => match us, hl with | [_], _ => rfl
  obtain ⟨f__law_hand_book, fd__law_hand_book, G__law_hand_book⟩ := e__law_hand_book.gd (ps := ["more"]) X G fun F => F.binds (ps := ["more"]) fun _ _ _ _ _ _ us hl => match us, hl with | [_], _ => rfl
  obtain ⟨f_is_short, fd_is_short, G_is_short⟩ := e_is_short.gd (ps := ["thing"]) X G fun F => F.binds (ps := ["thing"]) fun _ _ _ _ _ _ us hl => match us, hl with | [_], _ => rfl
  obtain ⟨f_is_word, fd_is_word, G_is_word⟩ := e_is_word.gd (ps := ["thing"]) X G fun F => F.binds (ps := ["thing"]) fun _ _ _ _ _ _ us hl => match us, hl with | [_], _ => rfl
  obtain ⟨f_is_name, fd_is_name, G_is_name⟩ := e_is_name.gd (ps := ["thing"]) X G fun F => F.binds (ps := ["thing"]) fun _ _ _ _ _ _ us hl => match us, hl with | [_], _ => rfl
  obtain ⟨f_ascend, fd_ascend, G_ascend⟩ := e_ascend.gd (ps := ["names"]) X G fun F => F.binds (ps := ["names"]) fun _ _ _ _ _ _ us hl => match us, hl with | [_], _ => rfl
  obtain ⟨f_is_name_pair, fd_is_name_pair, G_is_name_pair⟩ := e_is_name_pair.gd (ps := ["thing"]) X G fun F => F.binds (ps := ["thing"]) fun _ _ _ _ _ _ us hl => match us, hl with | [_], _ => rfl
  obtain ⟨f_are_gifts, fd_are_gifts, G_are_gifts⟩ := e_are_gifts.gd (ps := ["thing"]) X G fun F => F.binds (ps := ["thing"]) fun _ _ _ _ _ _ us hl => match us, hl with | [_], _ => rfl
  obtain ⟨f_is_code, fd_is_code, G_is_code⟩ := e_is_code.gd (ps := ["thing", "aspects"]) X G fun F => F.binds (ps := ["thing", "aspects"]) fun _ _ _ _ _ _ us hl => match us, hl with | [_, _], _ => rfl
  obtain ⟨f_need_codes, fd_need_codes, G_need_codes⟩ := e_need_codes.gd (ps := ["aspects", "codes"]) X G fun F => F.binds (ps := ["aspects", "codes"]) fun _ _ _ _ _ _ us hl => match us, hl with | [_, _], _ => rfl
  obtain ⟨f_are_names, fd_are_names, G_are_names⟩ := e_are_names.gd (ps := ["thing", "most"]) X G fun F => F.binds (ps := ["thing", "most"]) fun _ _ _ _ _ _ us hl => match us, hl with | [_, _], _ => rfl
  obtain ⟨f_need_book, fd_need_book, G_need_book⟩ := e_need_book.gd (ps := ["thing"]) X G fun F => F.binds (ps := ["thing"]) fun _ _ _ _ _ _ us hl => match us, hl with | [_], _ => rfl
  obtain ⟨f_words_of, fd_words_of, G_words_of⟩ := e_words_of.gd (ps := ["book"]) X G fun F => F.binds (ps := ["book"]) fun _ _ _ _ _ _ us hl => match us, hl with | [_], _ => rfl
  obtain ⟨f_is_row, fd_is_row, G_is_row⟩ := e_is_row.gd (ps := ["book", "thing", "most"]) X G fun F => F.binds (ps := ["book", "thing", "most"]) fun _ _ _ _ _ _ us hl => match us, hl with | [_, _, _], _ => rfl
  obtain ⟨f_need_row, fd_need_row, G_need_row⟩ := e_need_row.gd (ps := ["book", "thing"]) X G fun F => F.binds (ps := ["book", "thing"]) fun _ _ _ _ _ _ us hl => match us, hl with | [_, _], _ => rfl
  obtain ⟨f_settle, fd_settle, G_settle⟩ := e_settle.gd (ps := ["settled", "needs", "word"]) X G fun F => F.binds (ps := ["settled", "needs", "word"]) fun _ _ _ _ _ _ us hl => match us, hl with | [_, _, _], _ => rfl
  obtain ⟨f_settled_by, fd_settled_by, G_settled_by⟩ := e_settled_by.gd (ps := ["needs", "words"]) X G fun F => F.binds (ps := ["needs", "words"]) fun _ _ _ _ _ _ us hl => match us, hl with | [_, _], _ => rfl
  obtain ⟨f_are_settled, fd_are_settled, G_are_settled⟩ := e_are_settled.gd (ps := ["settled", "pairs"]) X G fun F => F.binds (ps := ["settled", "pairs"]) fun _ _ _ _ _ _ us hl => match us, hl with | [_, _], _ => rfl
  obtain ⟨f_can_take, fd_can_take, G_can_take⟩ := e_can_take.gd (ps := ["need", "settled"]) X G fun F => F.binds (ps := ["need", "settled"]) fun _ _ _ _ _ _ us hl => match us, hl with | [_, _], _ => rfl
  obtain ⟨f_bars, fd_bars, G_bars⟩ := e_bars.gd (ps := ["needs", "goal", "words"]) X G fun F => F.binds (ps := ["needs", "goal", "words"]) fun _ _ _ _ _ _ us hl => match us, hl with | [_, _, _], _ => rfl
  obtain ⟨f_are_some_words, fd_are_some_words, G_are_some_words⟩ := e_are_some_words.gd (ps := ["book", "thing"]) X G fun F => F.binds (ps := ["book", "thing"]) fun _ _ _ _ _ _ us hl => match us, hl with | [_, _], _ => rfl
  obtain ⟨f_needs_of_close, fd_needs_of_close, G_needs_of_close⟩ := e_needs_of_close.gd (ps := ["book"]) X G fun F => F.binds (ps := ["book"]) fun _ _ _ _ _ _ us hl => match us, hl with | [_], _ => rfl
  obtain ⟨f_codes_by_word, fd_codes_by_word, G_codes_by_word⟩ := e_codes_by_word.gd (ps := ["book"]) X G fun F => F.binds (ps := ["book"]) fun _ _ _ _ _ _ us hl => match us, hl with | [_], _ => rfl
  obtain ⟨f_no_chains, fd_no_chains, G_no_chains⟩ := e_no_chains.gd (ps := ["book"]) X G fun F => F.binds (ps := ["book"]) fun _ _ _ _ _ _ us hl => match us, hl with | [_], _ => rfl
  obtain ⟨f_is_letter, fd_is_letter, G_is_letter⟩ := e_is_letter.gd (ps := ["item"]) X G fun F => F.binds (ps := ["item"]) fun _ _ _ _ _ _ us hl => match us, hl with | [_], _ => rfl
  obtain ⟨f_is_sign, fd_is_sign, G_is_sign⟩ := e_is_sign.gd (ps := ["item"]) X G fun F => F.binds (ps := ["item"]) fun _ _ _ _ _ _ us hl => match us, hl with | [_], _ => rfl
  obtain ⟨f_behind, fd_behind, G_behind⟩ := e_behind.gd (ps := ["chain", "kind", "value"]) X G fun F => F.binds (ps := ["chain", "kind", "value"]) fun _ _ _ _ _ _ us hl => match us, hl with | [_, _, _], _ => rfl
  obtain ⟨f_pass_code, fd_pass_code, G_pass_code⟩ := e_pass_code.gd (ps := ["chains", "code"]) X G fun F => F.binds (ps := ["chains", "code"]) fun _ _ _ _ _ _ us hl => match us, hl with | [_, _], _ => rfl
  obtain ⟨f_chains_behind, fd_chains_behind, G_chains_behind⟩ := e_chains_behind.gd (ps := ["book", "items"]) X G fun F => F.binds (ps := ["book", "items"]) fun _ _ _ _ _ _ us hl => match us, hl with | [_, _], _ => rfl
  obtain ⟨f_goal_of_close, fd_goal_of_close, G_goal_of_close⟩ := e_goal_of_close.gd (ps := ["book", "row"]) X G fun F => F.binds (ps := ["book", "row"]) fun _ _ _ _ _ _ us hl => match us, hl with | [_, _], _ => rfl
  obtain ⟨f_is_barred, fd_is_barred, G_is_barred⟩ := e_is_barred.gd (ps := ["book", "row", "thing"]) X G fun F => F.binds (ps := ["book", "row", "thing"]) fun _ _ _ _ _ _ us hl => match us, hl with | [_, _, _], _ => rfl
  obtain ⟨f_kinds_of, fd_kinds_of, G_kinds_of⟩ := e_kinds_of.gd (ps := ["book"]) X G fun F => F.binds (ps := ["book"]) fun _ _ _ _ _ _ us hl => match us, hl with | [_], _ => rfl
  obtain ⟨f_worth_among, fd_worth_among, G_worth_among⟩ := e_worth_among.gd (ps := ["chain", "kinds"]) X G fun F => F.binds (ps := ["chain", "kinds"]) fun _ _ _ _ _ _ us hl => match us, hl with | [_, _], _ => rfl
  obtain ⟨f_least_apart, fd_least_apart, G_least_apart⟩ := e_least_apart.gd (ps := ["one", "other"]) X G fun F => F.binds (ps := ["one", "other"]) fun _ _ _ _ _ _ us hl => match us, hl with | [_, _], _ => rfl
  obtain ⟨f_with_plain, fd_with_plain, G_with_plain⟩ := e_with_plain.gd (ps := ["chain", "kinds"]) X G fun F => F.binds (ps := ["chain", "kinds"]) fun _ _ _ _ _ _ us hl => match us, hl with | [_, _], _ => rfl
  obtain ⟨f_apart_behind, fd_apart_behind, G_apart_behind⟩ := e_apart_behind.gd (ps := ["book", "ahead", "behind"]) X G fun F => F.binds (ps := ["book", "ahead", "behind"]) fun _ _ _ _ _ _ us hl => match us, hl with | [_, _, _], _ => rfl
  obtain ⟨f_closes, fd_closes, G_closes⟩ := e_closes.gd (ps := ["book", "row", "other"]) X G fun F => F.binds (ps := ["book", "row", "other"]) fun _ _ _ _ _ _ us hl => match us, hl with | [_, _, _], _ => rfl
  obtain ⟨f__law_sizes, fd__law_sizes, G__law_sizes⟩ := e__law_sizes.gd (ps := ["is_more"]) X G fun F => F.binds (ps := ["is_more"]) fun _ _ _ _ _ _ us hl => match us, hl with | [_], _ => rfl
  obtain ⟨f__law_closing_rows, fd__law_closing_rows, G__law_closing_rows⟩ := e__law_closing_rows.gd (ps := []) X G fun F => F.binds (ps := []) fun _ _ _ _ _ _ us hl => match us, hl with | [], _ => rfl
  obtain ⟨f__law_more_rows, fd__law_more_rows, G__law_more_rows⟩ := e__law_more_rows.gd (ps := []) X G fun F => F.binds (ps := []) fun _ _ _ _ _ _ us hl => match us, hl with | [], _ => rfl
  obtain ⟨f_need_few_codes, fd_need_few_codes, G_need_few_codes⟩ := e_need_few_codes.gd (ps := ["book"]) X G fun F => F.binds (ps := ["book"]) fun _ _ _ _ _ _ us hl => match us, hl with | [_], _ => rfl
  obtain ⟨f_size_among, fd_size_among, G_size_among⟩ := e_size_among.gd (ps := ["words"]) X G fun F => F.binds (ps := ["words"]) fun _ _ _ _ _ _ us hl => match us, hl with | [_], _ => rfl
  obtain ⟨f_least_row, fd_least_row, G_least_row⟩ := e_least_row.gd (ps := ["needs", "goal"]) X G fun F => F.binds (ps := ["needs", "goal"]) fun _ _ _ _ _ _ us hl => match us, hl with | [_, _], _ => rfl
  obtain ⟨f_shortest_close, fd_shortest_close, G_shortest_close⟩ := e_shortest_close.gd (ps := ["book", "row"]) X G fun F => F.binds (ps := ["book", "row"]) fun _ _ _ _ _ _ us hl => match us, hl with | [_, _], _ => rfl
  obtain ⟨f_take_all, fd_take_all, G_take_all⟩ := e_take_all.gd (ps := ["needs"]) X G fun F => F.binds (ps := ["needs"]) fun _ _ _ _ _ _ us hl => match us, hl with | [_], _ => rfl
  obtain ⟨f_reach, fd_reach, G_reach⟩ := e_reach.gd (ps := ["needs", "goal", "words"]) X G fun F => F.binds (ps := ["needs", "goal", "words"]) fun _ _ _ _ _ _ us hl => match us, hl with | [_, _, _], _ => rfl
  obtain ⟨f_without_idle, fd_without_idle, G_without_idle⟩ := e_without_idle.gd (ps := ["needs", "goal", "words"]) X G fun F => F.binds (ps := ["needs", "goal", "words"]) fun _ _ _ _ _ _ us hl => match us, hl with | [_, _, _], _ => rfl
  obtain ⟨f_row_or_bar, fd_row_or_bar, G_row_or_bar⟩ := e_row_or_bar.gd (ps := ["needs", "goal"]) X G fun F => F.binds (ps := ["needs", "goal"]) fun _ _ _ _ _ _ us hl => match us, hl with | [_, _], _ => rfl
  obtain ⟨f_close_for, fd_close_for, G_close_for⟩ := e_close_for.gd (ps := ["book", "row"]) X G fun F => F.binds (ps := ["book", "row"]) fun _ _ _ _ _ _ us hl => match us, hl with | [_, _], _ => rfl
  obtain ⟨f_size_of, fd_size_of, G_size_of⟩ := e_size_of.gd (ps := ["book", "row"]) X G fun F => F.binds (ps := ["book", "row"]) fun _ _ _ _ _ _ us hl => match us, hl with | [_, _], _ => rfl
  obtain ⟨f__law_right, fd__law_right, G__law_right⟩ := e__law_right.gd (ps := ["book", "is_more"]) X G fun F => F.binds (ps := ["book", "is_more"]) fun _ _ _ _ _ _ us hl => match us, hl with | [_, _], _ => rfl
  obtain ⟨f__law_mixed, fd__law_mixed, G__law_mixed⟩ := e__law_mixed.gd (ps := ["cell", "k"]) X G fun F => F.binds (ps := ["cell", "k"]) fun _ _ _ _ _ _ us hl => match us, hl with | [_, _], _ => rfl
  obtain ⟨f__law_draw, fd__law_draw, G__law_draw⟩ := e__law_draw.gd (ps := ["state", "many"]) X G fun F => F.binds (ps := ["state", "many"]) fun _ _ _ _ _ _ us hl => match us, hl with | [_, _], _ => rfl
  obtain ⟨fd, F, bd⟩ := e_law.law (y := "script") X G hfa fun _ _ _ _ _ _ _ => rfl
  refine ⟨fd, bd, fun base _ _ => ?_⟩
  have D__law_begin := d__law_begin (P := PySem.Challenge.pw_stylefall_k29_closing_by_hand) (w := w) (base := base) (mg := mg) G__law_begin.F h_list
  have D__law_hand_book := d__law_hand_book (P := PySem.Challenge.pw_stylefall_k29_closing_by_hand) (w := w) (base := base) (mg := mg) G__law_hand_book.F
  have D_is_short := d_is_short (P := PySem.Challenge.pw_stylefall_k29_closing_by_hand) (w := w) (base := base) (mg := mg) G_is_short.F h_LONGEST h_isinstance h_str h_len
  have D_is_word := d_is_word (P := PySem.Challenge.pw_stylefall_k29_closing_by_hand) (w := w) (base := base) (mg := mg) G_is_word.F h_FIGURES h_all G_is_short D_is_short
  have D_is_name := d_is_name (P := PySem.Challenge.pw_stylefall_k29_closing_by_hand) (w := w) (base := base) (mg := mg) G_is_name.F h_LETTERS h_all G_is_short D_is_short
  have D_ascend := d_ascend (P := PySem.Challenge.pw_stylefall_k29_closing_by_hand) (w := w) (base := base) (mg := mg) G_ascend.F h_all h_range h_len
  have D_is_name_pair := d_is_name_pair (P := PySem.Challenge.pw_stylefall_k29_closing_by_hand) (w := w) (base := base) (mg := mg) G_is_name_pair.F h_isinstance h_tuple h_len G_is_name D_is_name
  have D_are_gifts := d_are_gifts (P := PySem.Challenge.pw_stylefall_k29_closing_by_hand) (w := w) (base := base) (mg := mg) G_are_gifts.F h_isinstance h_tuple h_len h_all G_is_name_pair D_is_name_pair G_ascend D_ascend
  have D_is_code := d_is_code (P := PySem.Challenge.pw_stylefall_k29_closing_by_hand) (w := w) (base := base) (mg := mg) G_is_code.F h_isinstance h_tuple h_len h_all G_is_word D_is_word G_is_name D_is_name G_are_gifts D_are_gifts
  have D_need_codes := d_need_codes (P := PySem.Challenge.pw_stylefall_k29_closing_by_hand) (w := w) (base := base) (mg := mg) G_need_codes.F h_MOST_KINDS h_enumerate h_len G_is_code D_is_code
  have D_are_names := d_are_names (P := PySem.Challenge.pw_stylefall_k29_closing_by_hand) (w := w) (base := base) (mg := mg) G_are_names.F h_isinstance h_tuple h_len h_all G_is_name D_is_name G_ascend D_ascend
  have D_need_book := d_need_book (P := PySem.Challenge.pw_stylefall_k29_closing_by_hand) (w := w) (base := base) (mg := mg) G_need_book.F h_MOST_ASPECTS h_MOST_CODES h_isinstance h_tuple h_len h_all G_are_names D_are_names G_need_codes D_need_codes
  have D_words_of := d_words_of (P := PySem.Challenge.pw_stylefall_k29_closing_by_hand) (w := w) (base := base) (mg := mg) G_words_of.F
  have D_is_row := d_is_row (P := PySem.Challenge.pw_stylefall_k29_closing_by_hand) (w := w) (base := base) (mg := mg) G_is_row.F h_isinstance h_tuple h_len h_all h_str G_words_of D_words_of
  have D_need_row := d_need_row (P := PySem.Challenge.pw_stylefall_k29_closing_by_hand) (w := w) (base := base) (mg := mg) G_need_row.F h_MOST_WORDS G_need_book D_need_book G_is_row D_is_row
  have D_settle := d_settle (P := PySem.Challenge.pw_stylefall_k29_closing_by_hand) (w := w) (base := base) (mg := mg) G_settle.F
  have D_settled_by := d_settled_by (P := PySem.Challenge.pw_stylefall_k29_closing_by_hand) (w := w) (base := base) (mg := mg) G_settled_by.F G_settle D_settle
  have D_are_settled := d_are_settled (P := PySem.Challenge.pw_stylefall_k29_closing_by_hand) (w := w) (base := base) (mg := mg) G_are_settled.F h_all
  have D_can_take := d_can_take (P := PySem.Challenge.pw_stylefall_k29_closing_by_hand) (w := w) (base := base) (mg := mg) G_can_take.F G_are_settled D_are_settled
  have D_bars := d_bars (P := PySem.Challenge.pw_stylefall_k29_closing_by_hand) (w := w) (base := base) (mg := mg) G_bars.F h_any G_settled_by D_settled_by G_are_settled D_are_settled G_can_take D_can_take
  have D_are_some_words := d_are_some_words (P := PySem.Challenge.pw_stylefall_k29_closing_by_hand) (w := w) (base := base) (mg := mg) G_are_some_words.F h_len G_is_row D_is_row G_ascend D_ascend
  have D_needs_of_close := d_needs_of_close (P := PySem.Challenge.pw_stylefall_k29_closing_by_hand) (w := w) (base := base) (mg := mg) G_needs_of_close.F
  have D_codes_by_word := d_codes_by_word (P := PySem.Challenge.pw_stylefall_k29_closing_by_hand) (w := w) (base := base) (mg := mg) G_codes_by_word.F
  have D_no_chains := d_no_chains (P := PySem.Challenge.pw_stylefall_k29_closing_by_hand) (w := w) (base := base) (mg := mg) G_no_chains.F
  have D_is_letter := d_is_letter (P := PySem.Challenge.pw_stylefall_k29_closing_by_hand) (w := w) (base := base) (mg := mg) G_is_letter.F h_LETTERS h_len
  have D_is_sign := d_is_sign (P := PySem.Challenge.pw_stylefall_k29_closing_by_hand) (w := w) (base := base) (mg := mg) G_is_sign.F G_is_letter D_is_letter
  have D_behind := d_behind (P := PySem.Challenge.pw_stylefall_k29_closing_by_hand) (w := w) (base := base) (mg := mg) G_behind.F h_tuple
  have D_pass_code := d_pass_code (P := PySem.Challenge.pw_stylefall_k29_closing_by_hand) (w := w) (base := base) (mg := mg) G_pass_code.F G_behind D_behind
  have D_chains_behind := d_chains_behind (P := PySem.Challenge.pw_stylefall_k29_closing_by_hand) (w := w) (base := base) (mg := mg) G_chains_behind.F G_codes_by_word D_codes_by_word G_no_chains D_no_chains G_is_sign D_is_sign G_pass_code D_pass_code
  have D_goal_of_close := d_goal_of_close (P := PySem.Challenge.pw_stylefall_k29_closing_by_hand) (w := w) (base := base) (mg := mg) G_goal_of_close.F G_chains_behind D_chains_behind
  have D_is_barred := d_is_barred (P := PySem.Challenge.pw_stylefall_k29_closing_by_hand) (w := w) (base := base) (mg := mg) G_is_barred.F G_need_row D_need_row G_are_some_words D_are_some_words G_bars D_bars G_goal_of_close D_goal_of_close G_needs_of_close D_needs_of_close
  have D_kinds_of := d_kinds_of (P := PySem.Challenge.pw_stylefall_k29_closing_by_hand) (w := w) (base := base) (mg := mg) G_kinds_of.F h_tuple h_sorted G_need_book D_need_book
  have D_worth_among := d_worth_among (P := PySem.Challenge.pw_stylefall_k29_closing_by_hand) (w := w) (base := base) (mg := mg) G_worth_among.F
  have D_least_apart := d_least_apart (P := PySem.Challenge.pw_stylefall_k29_closing_by_hand) (w := w) (base := base) (mg := mg) G_least_apart.F h_sorted G_worth_among D_worth_among
  have D_with_plain := d_with_plain (P := PySem.Challenge.pw_stylefall_k29_closing_by_hand) (w := w) (base := base) (mg := mg) G_with_plain.F h_tuple
  have D_apart_behind := d_apart_behind (P := PySem.Challenge.pw_stylefall_k29_closing_by_hand) (w := w) (base := base) (mg := mg) G_apart_behind.F G_kinds_of D_kinds_of G_chains_behind D_chains_behind G_least_apart D_least_apart G_with_plain D_with_plain
  have D_closes := d_closes (P := PySem.Challenge.pw_stylefall_k29_closing_by_hand) (w := w) (base := base) (mg := mg) G_closes.F G_need_row D_need_row G_apart_behind D_apart_behind
  have D__law_sizes := d__law_sizes (P := PySem.Challenge.pw_stylefall_k29_closing_by_hand) (w := w) (base := base) (mg := mg) G__law_sizes.F
  have D__law_closing_rows := d__law_closing_rows (P := PySem.Challenge.pw_stylefall_k29_closing_by_hand) (w := w) (base := base) (mg := mg) G__law_closing_rows.F
  have D__law_more_rows := d__law_more_rows (P := PySem.Challenge.pw_stylefall_k29_closing_by_hand) (w := w) (base := base) (mg := mg) G__law_more_rows.F
  have D_need_few_codes := d_need_few_codes (P := PySem.Challenge.pw_stylefall_k29_closing_by_hand) (w := w) (base := base) (mg := mg) G_need_few_codes.F h_MOST_SOUGHT h_len
  have D_size_among := d_size_among (P := PySem.Challenge.pw_stylefall_k29_closing_by_hand) (w := w) (base := base) (mg := mg) G_size_among.F h_sum h_len
  have D_least_row := d_least_row (P := PySem.Challenge.pw_stylefall_k29_closing_by_hand) (w := w) (base := base) (mg := mg) G_least_row.F h_range h_len h_enumerate G_settled_by D_settled_by G_are_settled D_are_settled G_size_among D_size_among G_can_take D_can_take
  have D_shortest_close := d_shortest_close (P := PySem.Challenge.pw_stylefall_k29_closing_by_hand) (w := w) (base := base) (mg := mg) G_shortest_close.F G_need_row D_need_row G_need_few_codes D_need_few_codes G_least_row D_least_row G_goal_of_close D_goal_of_close G_needs_of_close D_needs_of_close
  have D_take_all := d_take_all (P := PySem.Challenge.pw_stylefall_k29_closing_by_hand) (w := w) (base := base) (mg := mg) G_take_all.F G_can_take D_can_take G_settle D_settle
  have D_reach := d_reach (P := PySem.Challenge.pw_stylefall_k29_closing_by_hand) (w := w) (base := base) (mg := mg) G_reach.F G_can_take D_can_take G_settle D_settle G_are_settled D_are_settled
  have D_without_idle := d_without_idle (P := PySem.Challenge.pw_stylefall_k29_closing_by_hand) (w := w) (base := base) (mg := mg) G_without_idle.F G_reach D_reach
  have D_row_or_bar := d_row_or_bar (P := PySem.Challenge.pw_stylefall_k29_closing_by_hand) (w := w) (base := base) (mg := mg) G_row_or_bar.F h_tuple h_sorted G_take_all D_take_all G_are_settled D_are_settled G_settled_by D_settled_by G_without_idle D_without_idle
  have D_close_for := d_close_for (P := PySem.Challenge.pw_stylefall_k29_closing_by_hand) (w := w) (base := base) (mg := mg) G_close_for.F G_need_row D_need_row G_row_or_bar D_row_or_bar G_goal_of_close D_goal_of_close G_needs_of_close D_needs_of_close
  have D_size_of := d_size_of (P := PySem.Challenge.pw_stylefall_k29_closing_by_hand) (w := w) (base := base) (mg := mg) G_size_of.F G_size_among D_size_among G_need_row D_need_row
  have D__law_right := d__law_right (P := PySem.Challenge.pw_stylefall_k29_closing_by_hand) (w := w) (base := base) (mg := mg) G__law_right.F h_repr h_len h_set G__law_closing_rows D__law_closing_rows G__law_more_rows D__law_more_rows G_closes D_closes G__law_sizes D__law_sizes G_close_for D_close_for G_shortest_close D_shortest_close G_size_of D_size_of
  have D__law_mixed := d__law_mixed (P := PySem.Challenge.pw_stylefall_k29_closing_by_hand) (w := w) (base := base) (mg := mg) G__law_mixed.F h_int
  have D__law_draw := d__law_draw (P := PySem.Challenge.pw_stylefall_k29_closing_by_hand) (w := w) (base := base) (mg := mg) G__law_draw.F h_int h_len G__law_mixed D__law_mixed
  exact d_law F h_range h_min h_len h_list h_tuple G__law_begin D__law_begin G__law_hand_book D__law_hand_book G__law_draw D__law_draw G__law_right D__law_right G_closes D_closes G_is_barred D_is_barred
end
end Dk29
end
set_option Elab.async false
set_option linter.all false
set_option maxRecDepth 100000
open PySem PySem.W PyProof.Rows
set_option maxHeartbeats 0 in
theorem PySem.Challenge.cw_stylefall_k29_closing_by_hand_holds : PySem.Challenge.rw_stylefall_k29_closing_by_hand.Holds := by
  w_on; o_law; k_head; (case hw => w_witness2)
  k_fill
  refine TL.walk_T (l := PySem.Challenge.rw_stylefall_k29_closing_by_hand) (n := 63) (k := 12) (x := "script") (F := SF.m_law_k29) rfl (by decide) rfl ⟨rfl, by decide, by decide⟩ (fun w h Y => PySem.W.kIn_of Y) ?F SF.law29_true
  case F =>
    intro w mg fa h KX G hmg
    refine' Dk29.all_mk KX G hmg ?e__law_begin ?e__law_hand_book ?e_is_short ?e_is_word ?e_is_name ?e_ascend ?e_is_name_pair ?e_are_gifts ?e_is_code ?e_need_codes ?e_are_names ?e_need_book ?e_words_of ?e_is_row ?e_need_row ?e_settle ?e_settled_by ?e_are_settled ?e_can_take ?e_bars ?e_are_some_words ?e_needs_of_close ?e_codes_by_word ?e_no_chains ?e_is_letter ?e_is_sign ?e_behind ?e_pass_code ?e_chains_behind ?e_goal_of_close ?e_is_barred ?e_kinds_of ?e_worth_among ?e_least_apart ?e_with_plain ?e_apart_behind ?e_closes ?e__law_sizes ?e__law_closing_rows ?e__law_more_rows ?e_need_few_codes ?e_size_among ?e_least_row ?e_shortest_close ?e_take_all ?e_reach ?e_without_idle ?e_row_or_bar ?e_close_for ?e_size_of ?e__law_right ?e__law_mixed ?e__law_draw ?e_law ?g_LONGEST ?g_FIGURES ?g_LETTERS ?g_MOST_KINDS ?g_MOST_ASPECTS ?g_MOST_CODES ?g_MOST_WORDS ?g_MOST_SOUGHT ?z_list ?z_isinstance ?z_str ?z_len ?z_all ?z_range ?z_tuple ?z_enumerate ?z_any ?z_sorted ?z_sum ?z_repr ?z_set ?z_int ?z_min
    (case e__law_begin => (refine' TL.fnIn_mk ?a ?l ?c ?k; (case a => k_is); (case l => k_is); (case c => k_is); (case k => k_is)))
    (case e__law_hand_book => (refine' TL.fnIn_mk ?a ?l ?c ?k; (case a => k_is); (case l => k_is); (case c => k_is); (case k => k_is)))
    (case e_is_short => (refine' TL.fnIn_mk ?a ?l ?c ?k; (case a => k_is); (case l => k_is); (case c => k_is); (case k => k_is)))
    (case e_is_word => (refine' TL.fnIn_mk ?a ?l ?c ?k; (case a => k_is); (case l => k_is); (case c => k_is); (case k => k_is)))
    (case e_is_name => (refine' TL.fnIn_mk ?a ?l ?c ?k; (case a => k_is); (case l => k_is); (case c => k_is); (case k => k_is)))
    (case e_ascend => (refine' TL.fnIn_mk ?a ?l ?c ?k; (case a => k_is); (case l => k_is); (case c => k_is); (case k => k_is)))
    (case e_is_name_pair => (refine' TL.fnIn_mk ?a ?l ?c ?k; (case a => k_is); (case l => k_is); (case c => k_is); (case k => k_is)))
    (case e_are_gifts => (refine' TL.fnIn_mk ?a ?l ?c ?k; (case a => k_is); (case l => k_is); (case c => k_is); (case k => k_is)))
    (case e_is_code => (refine' TL.fnIn_mk ?a ?l ?c ?k; (case a => k_is); (case l => k_is); (case c => k_is); (case k => k_is)))
    (case e_need_codes => (refine' TL.fnIn_mk ?a ?l ?c ?k; (case a => k_is); (case l => k_is); (case c => k_is); (case k => k_is)))
    (case e_are_names => (refine' TL.fnIn_mk ?a ?l ?c ?k; (case a => k_is); (case l => k_is); (case c => k_is); (case k => k_is)))
    (case e_need_book => (refine' TL.fnIn_mk ?a ?l ?c ?k; (case a => k_is); (case l => k_is); (case c => k_is); (case k => k_is)))
    (case e_words_of => (refine' TL.fnIn_mk ?a ?l ?c ?k; (case a => k_is); (case l => k_is); (case c => k_is); (case k => k_is)))
    (case e_is_row => (refine' TL.fnIn_mk ?a ?l ?c ?k; (case a => k_is); (case l => k_is); (case c => k_is); (case k => k_is)))
    (case e_need_row => (refine' TL.fnIn_mk ?a ?l ?c ?k; (case a => k_is); (case l => k_is); (case c => k_is); (case k => k_is)))
    (case e_settle => (refine' TL.fnIn_mk ?a ?l ?c ?k; (case a => k_is); (case l => k_is); (case c => k_is); (case k => k_is)))
    (case e_settled_by => (refine' TL.fnIn_mk ?a ?l ?c ?k; (case a => k_is); (case l => k_is); (case c => k_is); (case k => k_is)))
    (case e_are_settled => (refine' TL.fnIn_mk ?a ?l ?c ?k; (case a => k_is); (case l => k_is); (case c => k_is); (case k => k_is)))
    (case e_can_take => (refine' TL.fnIn_mk ?a ?l ?c ?k; (case a => k_is); (case l => k_is); (case c => k_is); (case k => k_is)))
    (case e_bars => (refine' TL.fnIn_mk ?a ?l ?c ?k; (case a => k_is); (case l => k_is); (case c => k_is); (case k => k_is)))
    (case e_are_some_words => (refine' TL.fnIn_mk ?a ?l ?c ?k; (case a => k_is); (case l => k_is); (case c => k_is); (case k => k_is)))
    (case e_needs_of_close => (refine' TL.fnIn_mk ?a ?l ?c ?k; (case a => k_is); (case l => k_is); (case c => k_is); (case k => k_is)))
    (case e_codes_by_word => (refine' TL.fnIn_mk ?a ?l ?c ?k; (case a => k_is); (case l => k_is); (case c => k_is); (case k => k_is)))
    (case e_no_chains => (refine' TL.fnIn_mk ?a ?l ?c ?k; (case a => k_is); (case l => k_is); (case c => k_is); (case k => k_is)))
    (case e_is_letter => (refine' TL.fnIn_mk ?a ?l ?c ?k; (case a => k_is); (case l => k_is); (case c => k_is); (case k => k_is)))
    (case e_is_sign => (refine' TL.fnIn_mk ?a ?l ?c ?k; (case a => k_is); (case l => k_is); (case c => k_is); (case k => k_is)))
    (case e_behind => (refine' TL.fnIn_mk ?a ?l ?c ?k; (case a => k_is); (case l => k_is); (case c => k_is); (case k => k_is)))
    (case e_pass_code => (refine' TL.fnIn_mk ?a ?l ?c ?k; (case a => k_is); (case l => k_is); (case c => k_is); (case k => k_is)))
    (case e_chains_behind => (refine' TL.fnIn_mk ?a ?l ?c ?k; (case a => k_is); (case l => k_is); (case c => k_is); (case k => k_is)))
    (case e_goal_of_close => (refine' TL.fnIn_mk ?a ?l ?c ?k; (case a => k_is); (case l => k_is); (case c => k_is); (case k => k_is)))
    (case e_is_barred => (refine' TL.fnIn_mk ?a ?l ?c ?k; (case a => k_is); (case l => k_is); (case c => k_is); (case k => k_is)))
    (case e_kinds_of => (refine' TL.fnIn_mk ?a ?l ?c ?k; (case a => k_is); (case l => k_is); (case c => k_is); (case k => k_is)))
    (case e_worth_among => (refine' TL.fnIn_mk ?a ?l ?c ?k; (case a => k_is); (case l => k_is); (case c => k_is); (case k => k_is)))
    (case e_least_apart => (refine' TL.fnIn_mk ?a ?l ?c ?k; (case a => k_is); (case l => k_is); (case c => k_is); (case k => k_is)))
    (case e_with_plain => (refine' TL.fnIn_mk ?a ?l ?c ?k; (case a => k_is); (case l => k_is); (case c => k_is); (case k => k_is)))
    (case e_apart_behind => (refine' TL.fnIn_mk ?a ?l ?c ?k; (case a => k_is); (case l => k_is); (case c => k_is); (case k => k_is)))
    (case e_closes => (refine' TL.fnIn_mk ?a ?l ?c ?k; (case a => k_is); (case l => k_is); (case c => k_is); (case k => k_is)))
    (case e__law_sizes => (refine' TL.fnIn_mk ?a ?l ?c ?k; (case a => k_is); (case l => k_is); (case c => k_is); (case k => k_is)))
    (case e__law_closing_rows => (refine' TL.fnIn_mk ?a ?l ?c ?k; (case a => k_is); (case l => k_is); (case c => k_is); (case k => k_is)))
    (case e__law_more_rows => (refine' TL.fnIn_mk ?a ?l ?c ?k; (case a => k_is); (case l => k_is); (case c => k_is); (case k => k_is)))
    (case e_need_few_codes => (refine' TL.fnIn_mk ?a ?l ?c ?k; (case a => k_is); (case l => k_is); (case c => k_is); (case k => k_is)))
    (case e_size_among => (refine' TL.fnIn_mk ?a ?l ?c ?k; (case a => k_is); (case l => k_is); (case c => k_is); (case k => k_is)))
    (case e_least_row => (refine' TL.fnIn_mk ?a ?l ?c ?k; (case a => k_is); (case l => k_is); (case c => k_is); (case k => k_is)))
    (case e_shortest_close => (refine' TL.fnIn_mk ?a ?l ?c ?k; (case a => k_is); (case l => k_is); (case c => k_is); (case k => k_is)))
    (case e_take_all => (refine' TL.fnIn_mk ?a ?l ?c ?k; (case a => k_is); (case l => k_is); (case c => k_is); (case k => k_is)))
    (case e_reach => (refine' TL.fnIn_mk ?a ?l ?c ?k; (case a => k_is); (case l => k_is); (case c => k_is); (case k => k_is)))
    (case e_without_idle => (refine' TL.fnIn_mk ?a ?l ?c ?k; (case a => k_is); (case l => k_is); (case c => k_is); (case k => k_is)))
    (case e_row_or_bar => (refine' TL.fnIn_mk ?a ?l ?c ?k; (case a => k_is); (case l => k_is); (case c => k_is); (case k => k_is)))
    (case e_close_for => (refine' TL.fnIn_mk ?a ?l ?c ?k; (case a => k_is); (case l => k_is); (case c => k_is); (case k => k_is)))
    (case e_size_of => (refine' TL.fnIn_mk ?a ?l ?c ?k; (case a => k_is); (case l => k_is); (case c => k_is); (case k => k_is)))
    (case e__law_right => (refine' TL.fnIn_mk ?a ?l ?c ?k; (case a => k_is); (case l => k_is); (case c => k_is); (case k => k_is)))
    (case e__law_mixed => (refine' TL.fnIn_mk ?a ?l ?c ?k; (case a => k_is); (case l => k_is); (case c => k_is); (case k => k_is)))
    (case e__law_draw => (refine' TL.fnIn_mk ?a ?l ?c ?k; (case a => k_is); (case l => k_is); (case c => k_is); (case k => k_is)))
    (case e_law => (refine' TL.fnIn_mk ?a ?l ?c ?k; (case a => k_is); (case l => k_is); (case c => k_is); (case k => k_is)))
    (case g_LONGEST => (refine' TL.some_mk ?a; (case a => k_is)))
    (case g_FIGURES => (refine' TL.some_mk ?a; (case a => k_is)))
    (case g_LETTERS => (refine' TL.some_mk ?a; (case a => k_is)))
    (case g_MOST_KINDS => (refine' TL.some_mk ?a; (case a => k_is)))
    (case g_MOST_ASPECTS => (refine' TL.some_mk ?a; (case a => k_is)))
    (case g_MOST_CODES => (refine' TL.some_mk ?a; (case a => k_is)))
    (case g_MOST_WORDS => (refine' TL.some_mk ?a; (case a => k_is)))
    (case g_MOST_SOUGHT => (refine' TL.some_mk ?a; (case a => k_is)))
    (case z_list => k_is)
    (case z_isinstance => k_is)
    (case z_str => k_is)
    (case z_len => k_is)
    (case z_all => k_is)
    (case z_range => k_is)
    (case z_tuple => k_is)
    (case z_enumerate => k_is)
    (case z_any => k_is)
    (case z_sorted => k_is)
    (case z_sum => k_is)
    (case z_repr => k_is)
    (case z_set => k_is)
    (case z_int => k_is)
    (case z_min => k_is)
