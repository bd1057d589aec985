import PyProof.Rows.All
import Wide.All
import OpenK.AllK
import Wide.FinOn
import HandS.ForMost
import HandS.Flow
import HandS.Conv
import HandS.TupAny
import HandS.DictComp
import HandS.Lambda
import HandS.IsInst
import HandS.ListItems
import KE.GoesEnum
import HandS.Style
import KE.SortKeyHeap
import KE.SortUse
import HandS.Ends
import HandS.Iter
import HandS.Zip
import HandS.SetBool
import HandS.SetTxt0
import PyProof.SetRoads
import HandS.More
import HandS.SortOrd
import HandS.SortRule
import KE.KSortTup
import HandS.Strs
import HandS.Text
import HandS.Deep
import HandS.Defaults
import KE.KRevSl
import KE.LtSeq
import PyProof.ListStr
import KE.KDictPairs
import PyProof.SeqIndex
import HandS.Exc
import KE.KExcSuper
import KE.KSuper
import HandS.ExcInit
import HandS.ExcOwn
import HandS.TryMany
import HandS.ExcField
import HandS.ExcValue
import HandS.RaiseMore
import HandS.ExcIs
import KE.RegKSuper
import KE.KDflt
import HandS.EndTab
import KE.KNestM
import KE.KExcIs
import KE.KIsAll
import HandS.SetFor
import HandS.TupMul
import PyProof.TupleOfStr
import KE.KDictZip
import PySem.Challenge.RW_stylefall_k13_whole_under_other_names
set_option Elab.async false
set_option linter.all false
set_option maxRecDepth 100000
namespace TL
open PySem PySem.Spec L2
open PyProof.Rows hiding St
inductive T where
  | non | bl (b : Bool) | int (i : Int) | str (x : Str)
  | tup (ts : List T) | lst (ts : List T) | sls (ts : List T) | dct (ks : List Key) (ts : List T)
  | ref (n : Nat) | val (v : V)
  | ktp (ts : List T) | etp (ts : List T) | kdc (ks : List (List Key)) (ts : List T)
  /-- a dict that may be read, walked or not -/
  | fdc (ks : List Key) (ts : List T)
  /-- an error object that is held: its class by its name, its fields -/
  | err (x : Str) (fs : List Str) (ts : List T)
  /-- a lambda that is handed on: where it stands, its code object and its name, the values it has caught -/
  | clo (p : Addr × Addr × Str) (us : List V) (ts : List T)
abbrev Sto := List T
abbrev Fr := List (Option T)
def TupK (K : PySem.W.Frag) (a : Addr) (xs : List V) : Prop :=
  ∃ (o : Obj) (its : Array Value) (n : Nat), K.lookup a = some o ∧ o.cls = .type "tuple" ∧ o.data = .seq its n ∧ its.size ≤ sizeLine ∧ Vals xs its.toList
def LstK (K : PySem.W.Frag) (a : Addr) (xs : List V) : Prop :=
  ∃ (o : Obj) (its : Array Value) (n : Nat), K.lookup a = some o ∧ o.cls = .type "list" ∧ o.dict = none ∧ o.data = .seq its n ∧ its.size ≤ sizeLine ∧ Vals xs its.toList
structure Mu where
  c : List Addr
  r : List Addr
  /-- the tables of code objects of the defs that make lambdas -/
  t : List (Addr × Str)
def Mu.out (μ : Mu) (a : Addr) : Prop := a ∉ μ.c ∧ a ∉ μ.r
def Mu.hide (μ : Mu) (a : Addr) : Mu := ⟨μ.c, a :: μ.r, μ.t⟩
def Mu.unh (μ : Mu) (a : Addr) : Mu := ⟨μ.c, μ.r.filter (· ≠ a), μ.t⟩
def Mu.more (μ : Mu) (a : Addr) : Mu := ⟨μ.c ++ [a], μ.r, μ.t⟩
def Fix (H : Hp) (μ : Mu) (a : Addr) (u : HO) : Prop := Rd H a u ∧ μ.out a
def OT (K : PySem.W.Frag) (H : Hp) (μ : Mu) (a : Addr) (xs : List V) : Prop := Fix H μ a (.tup xs) ∨ TupK K a xs
def OL (K : PySem.W.Frag) (H : Hp) (μ : Mu) (a : Addr) (xs : List V) : Prop := Fix H μ a (.lst xs) ∨ LstK K a xs
def Fx (H : Hp) (μ : Mu) (a : Addr) (u : HO) : Prop := H a = some u ∧ μ.out a
def OK0 (K : PySem.W.Frag) (H : Hp) (μ : Mu) (a : Addr) (xs : List V) : Prop := ∃ o : Obj, H a = some (.frz o (.tup xs)) ∧ μ.out a ∧ o.dict = none
def exh (a : Addr) (o : Obj) : HO := .ext fun h => h.get? a = some o
def ErO (K : PySem.W.Frag) (x : Str) (C : Addr) (o : Obj) : Prop := o.cls = .ref C ∧ PySem.W.nsIn K mainGlobals x = some (some (.ref C)) ∧ ∃ vs, o.data = .fields vs
def ErF (H : Hp) (μ : Mu) (d : Option Addr) (fs : List Str) (vs : List V) : Prop := (fs = [] ∧ vs = [] ∧ d = none) ∨ ∃ dd, d = some dd ∧ Fx H μ dd (.xd (fs.zip vs))
theorem ErF.to {H H' : Hp} {μ μ' : Mu} {d : Option Addr} {fs : List Str} {vs : List V} (h : ErF H μ d fs vs) (hk : ∀ a l, Fx H μ a (.xd l) → Fx H' μ' a (.xd l)) : ErF H' μ' d fs vs := h.imp id fun ⟨dd, e, q⟩ => ⟨dd, e, hk dd _ q⟩
mutual
def Rel (K : PySem.W.Frag) (H : Hp) (μ : Mu) : T → V → Prop
  | .non, v => v = .non
  | .bl b, v => v = .bl b
  | .int i, v => v = .int i
  | .str x, v => v = .str x
  | .tup ts, v => ∃ a xs, v = .ref a ∧ OT K H μ a xs ∧ Rels K H μ ts xs
  | .lst ts, v => ∃ a xs, v = .ref a ∧ Fx H μ a (.lst xs) ∧ Rels K H μ ts xs
  | .sls ts, v => ∃ a xs, v = .ref a ∧ OL K H μ a xs ∧ Rels K H μ ts xs
  | .dct ks ts, v => ∃ a kvs, v = .ref a ∧ Fx H μ a (.dK kvs) ∧ kvs.map (·.1) = ks ∧ Rels K H μ ts (kvs.map (·.2))
  | .ref n, v => ∃ a, μ.c[n]? = some a ∧ v = .ref a
  | .val u, v => v = u
  | .ktp ts, v => ∃ a xs, v = .ref a ∧ OK0 K H μ a xs ∧ Rels K H μ ts xs
  | .etp ts, v => ∃ a xs, v = .ref a ∧ Fx H μ a (.tup xs) ∧ Rels K H μ ts xs
  | .kdc ks ts, v => ∃ a kvs, v = .ref a ∧ Fx H μ a (.dT kvs) ∧ kvs.map (·.1) = ks ∧ Rels K H μ ts (kvs.map (·.2))
  | .fdc ks ts, v => ∃ a kvs, v = .ref a ∧ Fix H μ a (.dK kvs) ∧ kvs.map (·.1) = ks ∧ Rels K H μ ts (kvs.map (·.2))
  | .err x fs ts, v => ∃ (a : Addr) (p : Addr × Obj × List V), v = .ref a ∧ Fx H μ a (exh a p.2.1) ∧ ErO K x p.1 p.2.1 ∧ ErF H μ p.2.1.dict fs p.2.2 ∧ Rels K H μ ts p.2.2
  | .clo p us ts, v => v = .ref p.1 ∧ Fx H μ p.2.1 (LamX.CodeO p.2.1 p.2.2) ∧ Rels K H μ ts us
def Rels (K : PySem.W.Frag) (H : Hp) (μ : Mu) : List T → List V → Prop
  | [], vs => vs = []
  | t :: ts, vs => ∃ v r, vs = v :: r ∧ Rel K H μ t v ∧ Rels K H μ ts r
end
def NT (o : HO) : Prop := ∀ ps, o ≠ .tbl ps
structure Ext (H : Hp) (μ : Mu) (H' : Hp) (μ' : Mu) : Prop where
  pre : ∃ ν, μ'.c = μ.c ++ ν ∧ ∀ p ∈ ν, H p = none
  res : (∀ p ∈ μ.r, p ∈ μ'.r) ∧ ∀ p ∈ μ'.r, p ∈ μ.r ∨ H p = none
  keep : ∀ a o, H a = some o → a ∉ μ.c → NT o → H' a = some o
  live : ∀ a, H a ≠ none → H' a ≠ none
  tt : μ'.t = μ.t
theorem Ext.refl (H : Hp) (μ : Mu) : Ext H μ H μ := ⟨⟨[], by simp, fun _ h => nomatch h⟩, ⟨fun _ h => h, fun _ h => .inl h⟩, fun _ _ h _ _ => h, fun _ h => h, rfl⟩
theorem Ext.trans {H H1 H2 : Hp} {μ μ1 μ2 : Mu} (a : Ext H μ H1 μ1) (b : Ext H1 μ1 H2 μ2) : Ext H μ H2 μ2 := by
  obtain ⟨ν, eν, hν⟩ := a.pre
  obtain ⟨ξ, eξ, hξ⟩ := b.pre
  have hξ' : ∀ p ∈ ξ, H p = none := fun p hp => by
    cases q : H p with
    | none => rfl
    | some o => exact absurd (hξ p hp) (a.live p (by rw [q]; simp))
  have back : ∀ p, H1 p = none → H p = none := fun p hp => by
    cases q : H p with
    | none => rfl
    | some o => exact absurd hp (a.live p (by rw [q]; simp))
  refine ⟨⟨ν ++ ξ, by rw [eξ, eν]; simp, fun p hp => (List.mem_append.mp hp).elim (hν p) (hξ' p)⟩, ⟨fun p hp => b.res.1 p (a.res.1 p hp), fun p hp => (b.res.2 p hp).elim (a.res.2 p) fun z => .inr (back p z)⟩, fun c o e n nt => ?_, fun c h => b.live c (a.live c h), b.tt.trans a.tt⟩
  refine b.keep c o (a.keep c o e n nt) (fun h => ?_) nt
  rw [eν] at h
  rcases List.mem_append.mp h with h | h
  · exact n h
  · rw [hν c h] at e; cases e
theorem Ext.out {H H' : Hp} {μ μ' : Mu} {a : Addr} {o : HO} (x : Ext H μ H' μ') (r : H a = some o) (n : μ.out a) : μ'.out a := by
  obtain ⟨ν, eν, hν⟩ := x.pre
  refine ⟨fun h => ?_, fun h => (x.res.2 a h).elim n.2 fun z => by rw [z] at r; cases r⟩
  rw [eν] at h
  exact (List.mem_append.mp h).elim n.1 fun h => by rw [hν a h] at r; cases r
theorem Ext.kp {H H' : Hp} {μ μ' : Mu} (x : Ext H μ H' μ') (a : Addr) (o : HO) (h : H a = some o) (n : a ∉ μ.c) (nt : NT o := by intro _ z; cases z) : H' a = some o := x.keep a o h n nt
theorem Ext.fix {H H' : Hp} {μ μ' : Mu} {a : Addr} {u : HO} (x : Ext H μ H' μ') (f : Fix H μ a u) (nt : NT u := by intro _ z; cases z) : Fix H' μ' a u := by
  obtain ⟨r, n⟩ := f
  rcases r with r | ⟨o, r⟩
  · exact ⟨.inl (x.keep _ _ r n.1 nt), x.out r n⟩
  · exact ⟨.inr ⟨o, x.kp _ _ r n.1⟩, x.out r n⟩
theorem Ext.fx {H H' : Hp} {μ μ' : Mu} {a : Addr} {u : HO} (x : Ext H μ H' μ') (f : Fx H μ a u) (nt : NT u := by intro _ z; cases z) : Fx H' μ' a u := ⟨x.keep _ _ f.1 f.2.1 nt, x.out f.1 f.2⟩
theorem Ext.ok0 {K : PySem.W.Frag} {H H' : Hp} {μ μ' : Mu} {a : Addr} {xs : List V} (x : Ext H μ H' μ') (f : OK0 K H μ a xs) : OK0 K H' μ' a xs := by
  obtain ⟨o, h, n, d⟩ := f
  exact ⟨o, x.kp _ _ h n.1, x.out h n, d⟩
theorem Ext.of_same {H H' : Hp} {μ : Mu} (s : Same H H') : Ext H μ H' μ := ⟨⟨[], by simp, fun _ h => nomatch h⟩, ⟨fun _ h => h, fun _ h => .inl h⟩, fun a o e _ _ => s a o e, (fun a h z => by
  cases q : H a with
  | none => exact h q
  | some o => rw [s a o q] at z; cases z), rfl⟩
mutual
theorem Rel.mono {K : PySem.W.Frag} {H H' : Hp} {μ μ' : Mu} (x : Ext H μ H' μ') : ∀ (t : T) {v : V}, Rel K H μ t v → Rel K H' μ' t v
  | .non, _, h => by simpa only [Rel] using h
  | .bl _, _, h => by simpa only [Rel] using h
  | .int _, _, h => by simpa only [Rel] using h
  | .str _, _, h => by simpa only [Rel] using h
  | .val _, _, h => by simpa only [Rel] using h
  | .ref n, _, h => by
    simp only [Rel] at h ⊢
    obtain ⟨a, e, rfl⟩ := h
    obtain ⟨ν, eν, _⟩ := x.pre
    exact ⟨a, by rw [eν, List.getElem?_append_left (List.getElem?_eq_some_iff.mp e).1]; exact e, rfl⟩
  | .tup ts, _, h => by
    simp only [Rel] at h ⊢
    obtain ⟨a, xs, rfl, o, r⟩ := h
    exact ⟨a, xs, rfl, o.imp (fun z => x.fix z) id, Rels.mono x ts r⟩
  | .lst ts, _, h => by
    simp only [Rel] at h ⊢
    obtain ⟨a, xs, rfl, o, r⟩ := h
    exact ⟨a, xs, rfl, x.fx o, Rels.mono x ts r⟩
  | .sls ts, _, h => by
    simp only [Rel] at h ⊢
    obtain ⟨a, xs, rfl, o, r⟩ := h
    exact ⟨a, xs, rfl, o.imp (fun z => x.fix z) id, Rels.mono x ts r⟩
  | .dct ks ts, _, h => by
    simp only [Rel] at h ⊢
    obtain ⟨a, kvs, rfl, o, e, r⟩ := h
    exact ⟨a, kvs, rfl, x.fx o, e, Rels.mono x ts r⟩
  | .fdc ks ts, _, h => by
    simp only [Rel] at h ⊢
    obtain ⟨a, kvs, rfl, o, e, r⟩ := h
    exact ⟨a, kvs, rfl, x.fix o, e, Rels.mono x ts r⟩
  | .clo f us ts, _, h => by
    simp only [Rel] at h ⊢
    exact ⟨h.1, x.fx h.2.1 (fun _ y => by unfold LamX.CodeO at y; cases y), Rels.mono x ts h.2.2⟩
  | .err n fs ts, _, h => by
    simp only [Rel] at h ⊢
    obtain ⟨a, p, rfl, z, o, e, r⟩ := h
    exact ⟨a, p, rfl, x.fx z (fun _ y => by unfold exh at y; cases y), o, e.to fun _ _ q => x.fx q, Rels.mono x ts r⟩
  | .ktp ts, _, h => by
    simp only [Rel] at h ⊢
    obtain ⟨a, xs, rfl, o, r⟩ := h
    exact ⟨a, xs, rfl, x.ok0 o, Rels.mono x ts r⟩
  | .etp ts, _, h => by
    simp only [Rel] at h ⊢
    obtain ⟨a, xs, rfl, o, r⟩ := h
    exact ⟨a, xs, rfl, x.fx o, Rels.mono x ts r⟩
  | .kdc ks ts, _, h => by
    simp only [Rel] at h ⊢
    obtain ⟨a, kvs, rfl, o, e, r⟩ := h
    exact ⟨a, kvs, rfl, x.fx o, e, Rels.mono x ts r⟩
theorem Rels.mono {K : PySem.W.Frag} {H H' : Hp} {μ μ' : Mu} (x : Ext H μ H' μ') : ∀ (ts : List T) {vs : List V}, Rels K H μ ts vs → Rels K H' μ' ts vs
  | [], _, h => by simpa only [Rels] using h
  | t :: ts, _, h => by
    simp only [Rels] at h ⊢
    obtain ⟨v, r, rfl, h1, h2⟩ := h
    exact ⟨v, r, rfl, Rel.mono x t h1, Rels.mono x ts h2⟩
end
def CellR (K : PySem.W.Frag) (H : Hp) (μ : Mu) (a : Addr) : T → Prop
  | .lst ts => ∃ vs, H a = some (.lst vs) ∧ Rels K H μ ts vs
  | .dct ks ts => ∃ kvs, H a = some (.dK kvs) ∧ kvs.map (·.1) = ks ∧ Rels K H μ ts (kvs.map (·.2))
  | .kdc ks ts => ∃ kvs, H a = some (.dT kvs) ∧ kvs.map (·.1) = ks ∧ Rels K H μ ts (kvs.map (·.2))
  | _ => False
def TabM (H : Hp) (μ : Mu) (P : Addr) (q : Str) : Prop := μ.out P ∧ ∃ ps : Array Value, H P = some (.tbl ps) ∧ TriplesOk ps.toList ∧ ∀ (pos : Pos) (cv : Value), codeAmong pos ps.toList = some cv → ∃ c, cv = .ref c ∧ H c = some (LamX.CodeO c q) ∧ μ.out c
theorem TabM.to {H H' : Hp} {μ μ' : Mu} {P : Addr} {q : Str} (hk : ∀ a o, H a = some o → μ.out a → H' a = some o ∧ μ'.out a) (h : TabM H μ P q) : TabM H' μ' P q := by
  obtain ⟨n, ps, e, t, h⟩ := h
  obtain ⟨e1, n1⟩ := hk _ _ e n
  refine ⟨n1, ps, e1, t, fun pos cv hc => ?_⟩
  obtain ⟨c, ec, e2, n2⟩ := h pos cv hc
  exact ⟨c, ec, (hk _ _ e2 n2).1, (hk _ _ e2 n2).2⟩
theorem TabM.upd {H : Hp} {μ : Mu} {P d : Addr} {q : Str} {o u : HO} (hd : H d = some o) (n1 : NT o) (n2 : ∀ c q, o ≠ LamX.CodeO c q) (h : TabM H μ P q) : TabM (L2.upd H d u) μ P q := by
  obtain ⟨n, ps, e, t, h⟩ := h
  refine ⟨n, ps, by rw [upd_ne (fun z : P = d => by rw [z, hd] at e; exact n1 ps (Option.some.inj e))]; exact e, t, fun pos cv hc => ?_⟩
  obtain ⟨c, ec, e2, n3⟩ := h pos cv hc
  exact ⟨c, ec, by rw [upd_ne (fun z : c = d => by rw [z, hd] at e2; exact n2 d q (Option.some.inj e2))]; exact e2, n3⟩
def tabsK (K : PySem.W.Frag) : List (Addr × Str) := K.filterMap fun p => match p.2 with
  | ⟨.str _ _, _, .fields vs, _⟩ => (match vs.toList with
    | [.ref P, .str q _] => some (P, q)
    | _ => none)
  | _ => none
structure RelS (K : PySem.W.Frag) (H : Hp) (μ : Mu) (S : Sto) : Prop where
  len : μ.c.length = S.length
  nd : μ.c.Nodup
  cell : ∀ (n : Nat) (c : T) (a : Addr), S[n]? = some c → μ.c[n]? = some a → CellR K H μ a c
  live : ∀ p ∈ μ.r, H p ≠ none
  dis : ∀ p ∈ μ.r, p ∉ μ.c
  tab : ∀ p ∈ tabsK K, TabM H μ p.1 p.2
theorem RelS.same {K : PySem.W.Frag} {H H' : Hp} {μ : Mu} {S : Sto} (r : RelS K H μ S) (s : Same H H') : RelS K H' μ S := by
  refine ⟨r.len, r.nd, fun n c a e1 e2 => ?_, fun p hp z => ?_, r.dis, fun p hp => (r.tab p hp).to fun a o e n => ⟨s a o e, n⟩⟩
  rotate_left
  · cases q : H p with
    | none => exact r.live p hp q
    | some o => rw [s p o q] at z; cases z
  have q := r.cell n c a e1 e2
  cases c <;> first
    | exact q.elim
    | (obtain ⟨vs, h, q⟩ := q; exact ⟨vs, s _ _ h, Rels.mono (Ext.of_same s) _ q⟩)
    | (obtain ⟨vs, h, e, q⟩ := q; exact ⟨vs, s _ _ h, e, Rels.mono (Ext.of_same s) _ q⟩)
def RelF (K : PySem.W.Frag) (H : Hp) (μ : Mu) (τ : Fr) (σ : St) : Prop := τ.length = σ.length ∧ ∀ (i : Nat) (t : T), τ[i]? = some (some t) → ∃ v, σ[i]? = some (some v) ∧ Rel K H μ t v
theorem RelF.mono {K : PySem.W.Frag} {H H' : Hp} {μ μ' : Mu} {τ : Fr} {σ : St} (x : Ext H μ H' μ') (h : RelF K H μ τ σ) : RelF K H' μ' τ σ :=
  ⟨h.1, fun i t e => let ⟨v, a, b⟩ := h.2 i t e; ⟨v, a, Rel.mono x t b⟩⟩
theorem RelF.set {K : PySem.W.Frag} {H : Hp} {μ : Mu} {τ : Fr} {σ : St} {i : Nat} {t : T} {v : V} (h : RelF K H μ τ σ) (r : Rel K H μ t v) : RelF K H μ (τ.set i (some t)) (σ.set i (some v)) := by
  refine ⟨by rw [List.length_set, List.length_set]; exact h.1, fun j u e => ?_⟩
  by_cases hj : i = j
  · subst hj
    by_cases hl : i < τ.length
    · rw [List.getElem?_set_self hl] at e
      have e' : t = u := by simpa using e
      subst e'
      exact ⟨v, by rw [List.getElem?_set_self (h.1 ▸ hl)], r⟩
    · rw [List.getElem?_eq_none (by rw [List.length_set]; omega)] at e
      cases e
  · rw [List.getElem?_set_ne hj] at e ⊢
    exact h.2 j u e
abbrev XT := Str × List (Str × T)
inductive Res (α : Type) where
  | ok (a : α) (S : Sto) | exc (x : XT) (S : Sto) | stuck
def Res.bind {α β : Type} (r : Res α) (k : α → Sto → Res β) : Res β := match r with
  | .ok a S => k a S
  | .exc x S => .exc x S
  | .stuck => .stuck
abbrev WT := XT → Mu → Fr → Sto → St → Hp → Prop
abbrev XW := XT → Mu → Sto → Hp → Prop
abbrev WT.fr (wx : WT) (τ : Fr) (σ : St) : XW := fun x μ S H => wx x μ τ S σ H
abbrev RL (α β : Type) := Hp → Mu → α → β → Prop
def post {α β : Type} (K : PySem.W.Frag) (wx : XW) (rel : RL α β) (μ : Mu) (H : Hp) (r : Res α) (Q : β → Hp → Prop) : Prop := match r with
  | .ok t S' => ∀ μ' v H', Ext H μ H' μ' → RelS K H' μ' S' → rel H' μ' t v → Q v H'
  | .exc x S' => ∀ μ' H', Ext H μ H' μ' → RelS K H' μ' S' → wx x μ' S' H'
  | .stuck => False
theorem post.shift {α β : Type} {K : PySem.W.Frag} {wx : XW} {rel : RL α β} {μ μ1 : Mu} {H H1 : Hp} {r : Res α} {Q : β → Hp → Prop} (x : Ext H μ H1 μ1) (h : post K wx rel μ H r Q) : post K wx rel μ1 H1 r Q := by
  cases r with
  | ok t S' => exact fun μ' v H' y => h μ' v H' (x.trans y)
  | exc e S' => exact fun μ' H' y => h μ' H' (x.trans y)
  | stuck => exact h
def tG {α β : Type} (K : PySem.W.Frag) (wx : WT) (rel : RL α β) (F : Fr → Sto → Res α) : St → Hp → (β → Hp → Prop) → Prop := fun σ H Q =>
  ∃ μ τ S, RelS K H μ S ∧ RelF K H μ τ σ ∧ post K (wx.fr τ σ) rel μ H (F τ S) Q
structure At {α β : Type} (K : PySem.W.Frag) (μ : Mu) (H : Hp) (τ : Fr) (σ : St) (rel : RL α β) (μ1 : Mu) (H1 : Hp) (t : α) (v : β) (S1 : Sto) : Prop where
  ext : Ext H μ H1 μ1
  st : RelS K H1 μ1 S1
  fr : RelF K H1 μ1 τ σ
  rel : rel H1 μ1 t v
theorem tG.seq {α β γ δ : Type} {K : PySem.W.Frag} {wx : WT} {rel : RL α β} {rel2 : RL γ δ} {F : Fr → Sto → Res α} {k : α → Sto → Res γ} {μ : Mu} {H : Hp} {τ : Fr} {σ : St} {S : Sto} {Q : δ → Hp → Prop} {R : β → Hp → Prop}
    (s : RelS K H μ S) (f : RelF K H μ τ σ) (h : post K (wx.fr τ σ) rel2 μ H ((F τ S).bind k) Q)
    (hR : ∀ μ1 H1 t v S1, At K μ H τ σ rel μ1 H1 t v S1 → post K (wx.fr τ σ) rel2 μ1 H1 (k t S1) Q → R v H1) : tG K wx rel F σ H R := by
  refine ⟨μ, τ, S, s, f, ?_⟩
  cases e : F τ S with
  | stuck => rw [e] at h; exact h
  | exc x S1 => rw [e] at h; exact h
  | ok t S1 =>
    rw [e] at h
    exact fun μ1 v H1 x st r => hR μ1 H1 t v S1 ⟨x, st, f.mono x, r⟩ (h.shift x)
theorem post.here {α β : Type} {K : PySem.W.Frag} {wx : XW} {rel : RL α β} {μ : Mu} {H : Hp} {t : α} {v : β} {S : Sto} {Q : β → Hp → Prop} (h : post K wx rel μ H (.ok t S) Q) (st : RelS K H μ S) (r : rel H μ t v) : Q v H := h μ v H (Ext.refl _ _) st r
abbrev rV (K : PySem.W.Frag) : RL T V := fun H μ t v => Rel K H μ t v
abbrev rVs (K : PySem.W.Frag) : RL (List T) (List V) := fun H μ t v => Rels K H μ t v
abbrev rB : RL Bool Bool := fun _ _ b c => b = c
abbrev FE := Fr → Sto → Res T
abbrev FT := Fr → Sto → Res Bool
abbrev FA := Fr → Sto → Res (List T)
def PF (X : Cx) (wx : WT) (e : Expr) (F : FE) : Prop := PE X e (tG X.K wx (rV X.K) F)
def PFT (X : Cx) (wx : WT) (e : Expr) (F : FT) : Prop := PT X e (tG X.K wx rB F)
def PFA (X : Cx) (wx : WT) (es : List Expr) (F : FA) : Prop := PA X es (tG X.K wx (rVs X.K) F)
theorem PE.imp {X : Cx} {e : Expr} {t t' : TE} (h : PE X e t) (i : ∀ σ H Q, t' σ H Q → t σ H Q) : PE X e t' := ⟨fun pins s σ H Q I q => h.run pins s σ H Q I (i σ H Q q)⟩
theorem PT.imp {X : Cx} {e : Expr} {t t' : TT} (h : PT X e t) (i : ∀ σ H Q, t' σ H Q → t σ H Q) : PT X e t' := ⟨fun pins s σ H Q I q => h.run pins s σ H Q I (i σ H Q q)⟩
theorem PA.imp {X : Cx} {e : List Expr} {t t' : TA} (h : PA X e t) (i : ∀ σ H Q, t' σ H Q → t σ H Q) : PA X e t' := ⟨fun pos pins s σ H Q I q => h.run pos pins s σ H Q I (i σ H Q q)⟩
end TL
set_option Elab.async false
set_option linter.all false
set_option maxRecDepth 100000
namespace TL
open PySem PySem.Spec L2
open PyProof.Rows hiding St
def seqL (S : Sto) : T → Option (List T)
  | .lst ts => some ts
  | .sls ts => some ts
  | .ref n => match S[n]? with
    | some (.lst ts) => some ts
    | _ => none
  | _ => none
def plnL (S : Sto) : T → Option (List T)
  | .lst ts => some ts
  | .ref n => match S[n]? with
    | some (.lst ts) => some ts
    | _ => none
  | _ => none
def dctT (S : Sto) : T → Option (List Key × List T)
  | .dct ks ts => some (ks, ts)
  | .ref n => match S[n]? with
    | some (.dct ks ts) => some (ks, ts)
    | _ => none
  | _ => none
section
variable {K : PySem.W.Frag} {H H' : Hp} {μ : Mu} {S : Sto} {t : T} {v : V} {ts : List T} {ks : List Key}
theorem cell_at (s : RelS K H μ S) {n : Nat} {c : T} (e : S[n]? = some c) : ∃ a, μ.c[n]? = some a ∧ CellR K H μ a c := by
  have hn := (List.getElem?_eq_some_iff.mp e).1
  have hm : n < μ.c.length := by rw [s.len]; exact hn
  exact ⟨μ.c[n], List.getElem?_eq_getElem hm, s.cell n c _ e (List.getElem?_eq_getElem hm)⟩
theorem plnL_ok (e : plnL S t = some ts) (s : RelS K H μ S) (r : Rel K H μ t v) : ∃ a vs, v = .ref a ∧ H a = some (.lst vs) ∧ Rels K H μ ts vs := by
  unfold plnL at e
  split at e
  · cases e
    simp only [Rel] at r
    obtain ⟨a, xs, rfl, o, r⟩ := r
    exact ⟨a, xs, rfl, o.1, r⟩
  · split at e
    · rename_i n ts' e'
      cases e
      simp only [Rel] at r
      obtain ⟨a, ha, rfl⟩ := r
      obtain ⟨b, hb, q⟩ := cell_at s e'
      rw [ha] at hb
      cases hb
      obtain ⟨vs, h, q⟩ := q
      exact ⟨a, vs, rfl, h, q⟩
    · cases e
  · cases e
theorem seqL_ok (e : seqL S t = some ts) (s : RelS K H μ S) (r : Rel K H μ t v) : ∃ a vs, v = .ref a ∧ SqL K H a vs ∧ Rels K H μ ts vs := by
  cases t with
  | sls us =>
    simp only [seqL] at e
    cases e
    simp only [Rel] at r
    obtain ⟨a, xs, rfl, o, r⟩ := r
    exact ⟨a, xs, rfl, o.imp (fun z => z.1) id, r⟩
  | lst us =>
    obtain ⟨a, vs, e1, e2, e3⟩ := plnL_ok (t := .lst us) (ts := ts) e s r
    exact ⟨a, vs, e1, .inl (.inl e2), e3⟩
  | ref n =>
    obtain ⟨a, vs, e1, e2, e3⟩ := plnL_ok (t := .ref n) (ts := ts) e s r
    exact ⟨a, vs, e1, .inl (.inl e2), e3⟩
  | _ => cases e
theorem tup_ok (r : Rel K H μ (.tup ts) v) : ∃ a vs, v = .ref a ∧ SqT K H a vs ∧ Rels K H μ ts vs := by
  simp only [Rel] at r
  obtain ⟨a, xs, rfl, o, r⟩ := r
  exact ⟨a, xs, rfl, o.imp (fun z => z.1) id, r⟩
theorem ktp_ok (r : Rel K H μ (.ktp ts) v) : ∃ a vs, v = .ref a ∧ SqT K H a vs ∧ Rels K H μ ts vs := by
  simp only [Rel] at r
  obtain ⟨a, xs, rfl, ⟨o, h, _⟩, r⟩ := r
  exact ⟨a, xs, rfl, .inl (.inr ⟨o, h⟩), r⟩
theorem etp_ok (r : Rel K H μ (.etp ts) v) : ∃ a vs, v = .ref a ∧ SqT K H a vs ∧ Rels K H μ ts vs := by
  simp only [Rel] at r
  obtain ⟨a, xs, rfl, h, r⟩ := r
  exact ⟨a, xs, rfl, .inl (.inl h.1), r⟩
theorem dctT_ok (e : dctT S t = some (ks, ts)) (s : RelS K H μ S) (r : Rel K H μ t v) : ∃ a kvs, v = .ref a ∧ H a = some (.dK kvs) ∧ kvs.map (·.1) = ks ∧ Rels K H μ ts (kvs.map (·.2)) := by
  unfold dctT at e
  split at e
  · cases e
    simp only [Rel] at r
    obtain ⟨a, xs, rfl, o, e, r⟩ := r
    exact ⟨a, xs, rfl, o.1, e, r⟩
  · split at e
    · rename_i n ks' ts' e'
      cases e
      simp only [Rel] at r
      obtain ⟨a, ha, rfl⟩ := r
      obtain ⟨b, hb, q⟩ := cell_at s e'
      rw [ha] at hb
      cases hb
      obtain ⟨vs, h, e, q⟩ := q
      exact ⟨a, vs, rfl, h, e, q⟩
    · cases e
  · cases e
theorem Rels.length : ∀ {ts : List T} {vs : List V}, Rels K H μ ts vs → ts.length = vs.length
  | [], _, h => by simp only [Rels] at h; subst h; rfl
  | t :: ts, _, h => by
    simp only [Rels] at h
    obtain ⟨v, r, rfl, _, h⟩ := h
    simp [Rels.length h]
theorem Rels.get : ∀ {ts : List T} {vs : List V} {i : Nat} {t : T}, Rels K H μ ts vs → ts[i]? = some t → ∃ v, vs[i]? = some v ∧ Rel K H μ t v
  | [], _, _, _, _, e => by simp at e
  | t :: ts, _, 0, u, h, e => by
    simp only [Rels] at h
    obtain ⟨v, r, rfl, h1, _⟩ := h
    simp at e
    subst e
    exact ⟨v, rfl, h1⟩
  | t :: ts, _, i + 1, u, h, e => by
    simp only [Rels] at h
    obtain ⟨v, r, rfl, _, h⟩ := h
    obtain ⟨w, e1, e2⟩ := Rels.get (i := i) h (by simpa using e)
    exact ⟨w, by simpa using e1, e2⟩
theorem Rels.getV : ∀ {ts : List T} {vs : List V} {i : Nat} {v : V}, Rels K H μ ts vs → vs[i]? = some v → ∃ t, ts[i]? = some t ∧ Rel K H μ t v
  | [], _, _, _, h, e => by simp only [Rels] at h; subst h; simp at e
  | t :: ts, _, 0, u, h, e => by
    simp only [Rels] at h
    obtain ⟨v, r, rfl, h1, _⟩ := h
    simp at e
    subst e
    exact ⟨t, rfl, h1⟩
  | t :: ts, _, i + 1, u, h, e => by
    simp only [Rels] at h
    obtain ⟨v, r, rfl, _, h⟩ := h
    obtain ⟨w, e1, e2⟩ := Rels.getV (i := i) h (by simpa using e)
    exact ⟨w, by simpa using e1, e2⟩
theorem Rels.append : ∀ {ts us : List T} {vs ws : List V}, Rels K H μ ts vs → Rels K H μ us ws → Rels K H μ (ts ++ us) (vs ++ ws)
  | [], _, _, _, h, g => by simp only [Rels] at h; subst h; exact g
  | t :: ts, _, _, _, h, g => by
    simp only [Rels] at h
    obtain ⟨v, r, rfl, h1, h2⟩ := h
    simp only [List.cons_append, Rels]
    exact ⟨v, _, rfl, h1, Rels.append h2 g⟩
theorem Rels.take : ∀ {ts : List T} {vs : List V} (n : Nat), Rels K H μ ts vs → Rels K H μ (ts.take n) (vs.take n)
  | _, _, 0, _ => by simp only [List.take_zero, Rels]
  | [], _, n + 1, h => by simp only [Rels] at h; subst h; simp only [List.take_nil, Rels]
  | t :: ts, _, n + 1, h => by
    simp only [Rels] at h
    obtain ⟨v, r, rfl, h1, h2⟩ := h
    simp only [List.take_succ_cons, Rels]
    exact ⟨v, _, rfl, h1, Rels.take n h2⟩
theorem Rels.drop : ∀ {ts : List T} {vs : List V} (n : Nat), Rels K H μ ts vs → Rels K H μ (ts.drop n) (vs.drop n)
  | _, _, 0, h => by simpa using h
  | [], _, n + 1, h => by simp only [Rels] at h; subst h; simp only [List.drop_nil, Rels]
  | t :: ts, _, n + 1, h => by
    simp only [Rels] at h
    obtain ⟨v, r, rfl, h1, h2⟩ := h
    simp only [List.drop_succ_cons]
    exact Rels.drop n h2
theorem Rels.set : ∀ {ts : List T} {vs : List V} {t : T} {v : V} (n : Nat), Rels K H μ ts vs → Rel K H μ t v → Rels K H μ (ts.set n t) (vs.set n v)
  | [], _, _, _, n, h, _ => by simp only [Rels] at h; subst h; simp only [List.set_nil, Rels]
  | t :: ts, _, u, w, 0, h, g => by
    simp only [Rels] at h
    obtain ⟨v, r, rfl, h1, h2⟩ := h
    simp only [List.set_cons_zero, Rels]
    exact ⟨w, r, rfl, g, h2⟩
  | t :: ts, _, u, w, n + 1, h, g => by
    simp only [Rels] at h
    obtain ⟨v, r, rfl, h1, h2⟩ := h
    simp only [List.set_cons_succ, Rels]
    exact ⟨v, _, rfl, h1, Rels.set n h2 g⟩
end
def fVar (i : Nat) : FE := fun τ S => match τ[i]? with
  | some (some t) => .ok t S
  | _ => .stuck
def fC (t : T) : FE := fun _ S => .ok t S
section
variable {X : Cx} {wx : WT} {pos : Pos}
theorem pf_var (i : Nat) {x : Str} (hN : X.N[i]? = some x := by rfl) (hv : Vis X.env.scope x := by first | exact Or.inl rfl | exact Or.inr (Or.inl rfl) | exact Or.inr (Or.inr rfl)) (hd : (x == ("__debug__" : Str)) = false := by decide)
    (hcd : (x == ("__classdict__" : Str)) = false := by decide) : PF X wx (.Name x pos) (fVar i) := by
  refine PE.imp (pe_var (i := i) hN hv hd hcd) fun σ H Q h => ?_
  obtain ⟨μ, τ, S, s, f, h⟩ := h
  unfold fVar at h
  split at h
  · rename_i t e
    obtain ⟨v, e1, r⟩ := f.2 i t e
    exact ⟨v, e1, h.here s r⟩
  · exact h.elim
theorem pf_c {e : Expr} {v : V} {t : T} (h : PE X e (tC v)) (r : ∀ H μ, Rel X.K H μ t v) : PF X wx e (fC t) := PE.imp h fun σ H Q ⟨μ, τ, S, s, f, q⟩ => q.here s (r H μ)
theorem pf_int {i j} : PF X wx (.Constant (.int i) j pos) (fC (.int i)) := pf_c pe_int fun _ _ => by simp only [Rel]
theorem pf_bl {i j} : PF X wx (.Constant (.bool i) j pos) (fC (.bl i)) := pf_c pe_bl fun _ _ => by simp only [Rel]
theorem pf_non {j} : PF X wx (.Constant .none j pos) (fC .non) := pf_c pe_non fun _ _ => by simp only [Rel]
theorem pf_str {x j} : PF X wx (.Constant (.str x) j pos) (fC (.str x)) := pf_c pe_str fun _ _ => by simp only [Rel]
theorem pf_globI {x : Str} {i : Int} {t : Tok} (hm : X.mg x = some (.int i t)) (hg : Gl X x := by rfl) (hd : (x == ("__debug__" : Str)) = false := by decide) : PF X wx (.Name x pos) (fC (.int i)) := pf_c (pe_glob hg hm (v := .int i) ⟨t, rfl⟩ hd) fun _ _ => by simp only [Rel]
theorem pf_globS {x y : Str} {t : Tok} (hm : X.mg x = some (.str y t)) (hg : Gl X x := by rfl) (hd : (x == ("__debug__" : Str)) = false := by decide) : PF X wx (.Name x pos) (fC (.str y)) := pf_c (pe_glob hg hm (v := .str y) ⟨t, rfl⟩ hd) fun _ _ => by simp only [Rel]
theorem pf_ty {x : Str} {n : String} (hm : X.mg x = none) (hv : bootBuiltins x = some (.type n)) (hg : Gl X x := by rfl) (hn : x ≠ "__name__" := by decide) (hd : (x == ("__debug__" : Str)) = false := by decide) : PF X wx (.Name x pos) (fC (.val (.ty n))) := pf_c (pe_bltn hg hm hv (v := .ty n) rfl hn hd) fun _ _ => by simp only [Rel]
def ofO {α : Type} (o : Option α) (S : Sto) : Res α := match o with
  | some t => .ok t S
  | none => .stuck
theorem post_ofO {α β : Type} {K : PySem.W.Frag} {wx : XW} {rel : RL α β} {μ : Mu} {H : Hp} {o : Option α} {S : Sto} {Q : β → Hp → Prop} (h : post K wx rel μ H (ofO o S) Q) (s : RelS K H μ S) :
    ∃ t, o = some t ∧ ∀ v H', Same H H' → rel H' μ t v → Q v H' := by
  cases o with
  | none => exact h.elim
  | some t => exact ⟨t, rfl, fun v H' sm r => h μ v H' (Ext.of_same sm) (s.same sm) r⟩
def rP (K : PySem.W.Frag) (g : Sto → T → T → Option T) : R2 := fun x y H Q => ∃ μ S tx ty t, RelS K H μ S ∧ Rel K H μ tx x ∧ Rel K H μ ty y ∧ g S tx ty = some t ∧ ∀ v H', Same H H' → Rel K H' μ t v → Q v H'
def rU1 (K : PySem.W.Frag) (g : Sto → T → Option T) : V → Hp → VK → Prop := fun x H Q => ∃ μ S tx t, RelS K H μ S ∧ Rel K H μ tx x ∧ g S tx = some t ∧ ∀ v H', Same H H' → Rel K H' μ t v → Q v H'
def rN (K : PySem.W.Frag) (g : Sto → List T → Option T) : List V → Hp → VK → Prop := fun xs H Q => ∃ μ S ts t, RelS K H μ S ∧ Rels K H μ ts xs ∧ g S ts = some t ∧ ∀ v H', Same H H' → Rel K H' μ t v → Q v H'
def fBin (g : Sto → T → T → Option T) (Fa Fb : FE) : FE := fun τ S => (Fa τ S).bind fun x S1 => (Fb τ S1).bind fun y S2 => ofO (g S2 x y) S2
def fUn (g : Sto → T → Option T) (Fa : FE) : FE := fun τ S => (Fa τ S).bind fun x S1 => ofO (g S1 x) S1
def fTest (F : FE) : FT := fun τ S => (F τ S).bind fun x S1 => match x with
  | .bl b => .ok b S1
  | _ => .stuck
variable {a b c : Expr} {Fa Fb Fc : FE} {g : Sto → T → T → Option T}
theorem bin_imp {σ : St} {H : Hp} {Q : VK} (h : tG X.K wx (rV X.K) (fBin g Fa Fb) σ H Q) : tOp (rP X.K g) (tG X.K wx (rV X.K) Fa) (tG X.K wx (rV X.K) Fb) σ H Q := by
  obtain ⟨μ, τ, S, s, f, h⟩ := h
  refine tG.seq s f h fun μ1 H1 x v S1 A1 h1 => tG.seq A1.st A1.fr h1 fun μ2 H2 y u S2 A2 h2 => ?_
  obtain ⟨t, e, q⟩ := post_ofO h2 A2.st
  exact ⟨μ2, S2, x, y, t, A2.st, Rel.mono A2.ext x A1.rel, A2.rel, e, q⟩
theorem test_imp {F : FE} {σ : St} {H : Hp} {Q : Bool → Hp → Prop} (h : tG X.K wx rB (fTest F) σ H Q) : tTest (tG X.K wx (rV X.K) F) σ H Q := by
  obtain ⟨μ, τ, S, s, f, h⟩ := h
  refine tG.seq s f h fun μ1 H1 x v S1 A1 h1 => ?_
  cases x with
  | bl k =>
    have r := A1.rel
    simp only [Rel] at r
    exact ⟨k, r, h1.here A1.st rfl⟩
  | _ => exact h1.elim
theorem pf_bin {op : Operator} (ho : OpR X (binaryOp op) (rP X.K g)) (ha : PF X wx a Fa) (hb : PF X wx b Fb) : PF X wx (.BinOp a op b pos) (fBin g Fa Fb) := PE.imp (pe_op ho ha hb) fun _ _ _ h => bin_imp h
theorem pf_cmp {op : CmpOp} (ho : OpR X (compareOp op) (rP X.K g)) (ha : PF X wx a Fa) (hb : PF X wx b Fb) (hm : behindInMarks op b = false := by with_unfolding_all rfl) : PF X wx (.Compare a [op] [b] pos) (fBin g Fa Fb) := PE.imp (pe_cmpR ho ha hb hm) fun _ _ _ h => bin_imp h
theorem pft_cmp {op : CmpOp} (ho : OpR X (compareOp op) (rP X.K g)) (ha : PF X wx a Fa) (hb : PF X wx b Fb) (hm : behindInMarks op b = false := by with_unfolding_all rfl) : PFT X wx (.Compare a [op] [b] pos) (fTest (fBin g Fa Fb)) :=
  PT.imp (pt_cmpR ho ha hb hm) fun σ H Q h => by
    have h1 := test_imp h
    exact bin_imp h1
theorem pf_un {op : UnaryOp} {g : Sto → T → Option T} (ho : UnR X (unaryOp op) (rU1 X.K g)) (ha : PF X wx a Fa) : PF X wx (.UnaryOp op a pos) (fUn g Fa) := PE.imp (pe_un ho ha) fun σ H Q h => by
  obtain ⟨μ, τ, S, s, f, h⟩ := h
  refine tG.seq s f h fun μ1 H1 x v S1 A1 h1 => ?_
  obtain ⟨t, e, q⟩ := post_ofO h1 A1.st
  exact ⟨μ1, S1, x, t, A1.st, A1.rel, e, q⟩
def fChain (g g' : Sto → T → T → Option T) (Fa Fb Fc : FE) : FE := fun τ S => (Fa τ S).bind fun x S1 => (Fb τ S1).bind fun y S2 => match g S2 x y with
  | some (.bl true) => (Fc τ S2).bind fun z S3 => ofO (g' S3 y z) S3
  | some (.bl false) => .ok (.bl false) S2
  | _ => .stuck
theorem chain_imp {g' : Sto → T → T → Option T} {σ : St} {H : Hp} {Q : VK} (h : tG X.K wx (rV X.K) (fChain g g' Fa Fb Fc) σ H Q) : tChain (rP X.K g) (rP X.K g') (tG X.K wx (rV X.K) Fa) (tG X.K wx (rV X.K) Fb) (tG X.K wx (rV X.K) Fc) σ H Q := by
  obtain ⟨μ, τ, S, s, f, h⟩ := h
  refine tG.seq s f h fun μ1 H1 x v S1 A1 h1 => tG.seq A1.st A1.fr h1 fun μ2 H2 y u S2 A2 h2 => ?_
  cases e : g S2 x y with
  | none => simp only [e] at h2; exact h2.elim
  | some t =>
    cases t with
    | bl k =>
      refine ⟨μ2, S2, x, y, .bl k, A2.st, Rel.mono A2.ext x A1.rel, A2.rel, e, fun v' H' sm r => ?_⟩
      simp only [Rel] at r
      refine ⟨k, r, ?_⟩
      have E := Ext.of_same (μ := μ2) sm
      cases k with
      | false =>
        simp only [e] at h2
        exact iteF (h2 μ2 _ H' E (A2.st.same sm) (by simp only [Rel]))
      | true =>
        simp only [e] at h2
        refine iteT (tG.seq (A2.st.same sm) (A2.fr.mono E) (h2.shift E) fun μ3 H3 z w' S3 A3 h3 => ?_)
        obtain ⟨t, e3, q⟩ := post_ofO h3 A3.st
        exact ⟨μ3, S3, y, z, t, A3.st, Rel.mono A3.ext y (Rel.mono E y A2.rel), A3.rel, e3, q⟩
    | _ => simp only [e] at h2; exact h2.elim
theorem pf_chain {op op' : CmpOp} {g' : Sto → T → T → Option T} (ho : OpR X (compareOp op) (rP X.K g)) (ho' : OpR X (compareOp op') (rP X.K g')) (ha : PF X wx a Fa) (hb : PF X wx b Fb) (hc : PF X wx c Fc) (hm : lastMarks [op, op'] [b, c] = false := by with_unfolding_all rfl) :
    PF X wx (.Compare a [op, op'] [b, c] pos) (fChain g g' Fa Fb Fc) := PE.imp (pe_chain ho ho' ha hb hc hm) fun _ _ _ h => chain_imp h
end
def truT (S : Sto) : T → Option Bool
  | .non => some false
  | .bl b => some b
  | .int i => some (i != 0)
  | .str x => if x.length ≤ sizeLine then some ((x.length : Int) != 0) else none
  | .tup ts => some !ts.isEmpty
  | .lst ts => some !ts.isEmpty
  | .sls ts => some !ts.isEmpty
  | .dct ks _ => some !ks.isEmpty
  | .ref n => match S[n]? with
    | some (.lst ts) => some !ts.isEmpty
    | some (.dct ks _) => some !ks.isEmpty
    | _ => none
  | .val _ => none
  | .ktp ts => some !ts.isEmpty
  | .etp ts => some !ts.isEmpty
  | .kdc _ _ => none
  | .fdc _ _ => none
  | .err _ _ _ => none
  | .clo _ _ _ => none
theorem isEmpty_of_length {α β : Type} {xs : List α} {ys : List β} (h : xs.length = ys.length) : xs.isEmpty = ys.isEmpty := by
  cases xs <;> cases ys <;> simp_all
section
variable {X : Cx} {wx : WT} {pos : Pos}
theorem truT_ok {K : PySem.W.Frag} {H : Hp} {μ : Mu} {S : Sto} {t : T} {v : V} {k : Bool} (e : truT S t = some k) (s : RelS K H μ S) (r : Rel K H μ t v) : TruV K v H k := by
  have lst : ∀ {ts : List T}, seqL S t = some ts → k = !ts.isEmpty → TruV K v H k := fun {ts} e1 e2 => by
    obtain ⟨a, vs, rfl, h, q⟩ := seqL_ok e1 s r
    exact .inl ⟨vs, h, by rw [e2, isEmpty_of_length q.length]⟩
  have dct : ∀ {ks : List Key} {ts : List T}, dctT S t = some (ks, ts) → k = !ks.isEmpty → TruV K v H k := fun {ks ts} e1 e2 => by
    obtain ⟨a, kvs, rfl, h, q, _⟩ := dctT_ok e1 s r
    exact .inr (.inr ⟨kvs, h, by rw [e2, ← q, isEmpty_of_length (List.length_map _)]⟩)
  cases t with
  | non => simp only [Rel] at r; simp only [truT] at e; cases e; subst r; rfl
  | bl b => simp only [Rel] at r; simp only [truT] at e; cases e; subst r; rfl
  | int i => simp only [Rel] at r; simp only [truT] at e; cases e; subst r; rfl
  | str x =>
    simp only [Rel] at r; simp only [truT] at e
    split at e
    · rename_i h
      cases e; subst r; exact ⟨h, rfl⟩
    · cases e
  | tup ts =>
    simp only [truT] at e
    cases e
    obtain ⟨a, vs, rfl, h, q⟩ := tup_ok r
    exact .inr (.inl ⟨vs, h, by rw [isEmpty_of_length q.length]⟩)
  | lst ts => simp only [truT] at e; cases e; exact lst rfl rfl
  | sls ts => simp only [truT] at e; cases e; exact lst rfl rfl
  | dct ks ts => simp only [truT] at e; cases e; exact dct rfl rfl
  | ref n =>
    simp only [truT] at e
    split at e
    · rename_i ts e1
      cases e; exact lst (by simp only [seqL, e1]) rfl
    · rename_i ks ts e1
      cases e; exact dct (ts := ts) (by simp only [dctT, e1]) rfl
    · cases e
  | val u => simp only [truT] at e; cases e
  | ktp ts =>
    simp only [truT] at e
    cases e
    obtain ⟨a, vs, rfl, h, q⟩ := ktp_ok r
    exact .inr (.inl ⟨vs, h, by rw [isEmpty_of_length q.length]⟩)
  | etp ts =>
    simp only [truT] at e
    cases e
    obtain ⟨a, vs, rfl, h, q⟩ := etp_ok r
    exact .inr (.inl ⟨vs, h, by rw [isEmpty_of_length q.length]⟩)
  | fdc ks ts => simp only [truT] at e; cases e
  | err x fs ts => simp only [truT] at e; cases e
  | clo x fs ts => simp only [truT] at e; cases e
  | kdc ks ts => simp only [truT] at e; cases e
variable {a b c : Expr} {Fa Fb Fc : FE}
def fTru (F : FE) : FT := fun τ S => (F τ S).bind fun x S1 => ofO (truT S1 x) S1
theorem pft_val (ha : PF X wx a Fa) (he : ∀ whole, isTrue a X.env whole = (do let v ← whole; standAt a.pos; holding [v] (truthy v)) := by intro _; rfl) : PFT X wx a (fTru Fa) := PT.imp (pt_truth ha he) fun σ H Q h => by
  obtain ⟨μ, τ, S, s, f, h⟩ := h
  refine tG.seq s f h fun μ1 H1 x v S1 A1 h1 => ?_
  obtain ⟨k, e, q⟩ := post_ofO h1 A1.st
  exact ⟨k, truT_ok e A1.st A1.rel, q k H1 (Same.refl _) rfl⟩
def fNotT (F : FT) : FT := fun τ S => (F τ S).bind fun b S1 => .ok (!b) S1
theorem pft_not {F : FT} (ha : PFT X wx a F) : PFT X wx (.UnaryOp .Not a pos) (fNotT F) := PT.imp (pt_not ha) fun σ H Q h => by
  obtain ⟨μ, τ, S, s, f, h⟩ := h
  refine tG.seq s f h fun μ1 H1 x v S1 A1 h1 => ?_
  have r : x = v := A1.rel
  subst r
  exact h1.here A1.st rfl
def fAndT (F G : FT) : FT := fun τ S => (F τ S).bind fun b S1 => match b with
  | true => G τ S1
  | false => .ok false S1
def fOrT (F G : FT) : FT := fun τ S => (F τ S).bind fun b S1 => match b with
  | false => G τ S1
  | true => .ok true S1
def PFW (X : Cx) (wx : WT) (e : Expr) (F : FT) : Prop := PW X e (tG X.K wx rB F)
theorem PW.imp {X : Cx} {e : Expr} {t t' : TT} (h : PW X e t) (i : ∀ σ H Q, t' σ H Q → t σ H Q) : PW X e t' := ⟨fun w pins s σ H Q I q => h.run w pins s σ H Q I (i σ H Q q)⟩
variable {F G : FT} {rest : List Expr}
theorem pfw_pt (h : PFW X wx a F) : PFT X wx a F := L2.PW.pt h
theorem pfw_and1 (ha : PFT X wx a F) : PFW X wx (.BoolOp .And [a] pos) F := pw_and1 ha
theorem pfw_or1 (ha : PFT X wx a F) : PFW X wx (.BoolOp .Or [a] pos) F := pw_or1 ha
theorem pfw_and (ha : PFT X wx a F) (hb : PFW X wx (.BoolOp .And (b :: rest) pos) G) : PFW X wx (.BoolOp .And (a :: b :: rest) pos) (fAndT F G) := PW.imp (pw_and ha hb) fun σ H Q h => by
  obtain ⟨μ, τ, S, s, f, h⟩ := h
  refine tG.seq s f h fun μ1 H1 x v S1 A1 h1 => ?_
  have r : x = v := A1.rel
  subst r
  cases x with
  | true => exact iteT ⟨μ1, τ, S1, A1.st, A1.fr, h1⟩
  | false => exact iteF (h1.here A1.st rfl)
theorem pfw_or (ha : PFT X wx a F) (hb : PFW X wx (.BoolOp .Or (b :: rest) pos) G) : PFW X wx (.BoolOp .Or (a :: b :: rest) pos) (fOrT F G) := PW.imp (pw_or ha hb) fun σ H Q h => by
  obtain ⟨μ, τ, S, s, f, h⟩ := h
  refine tG.seq s f h fun μ1 H1 x v S1 A1 h1 => ?_
  have r : x = v := A1.rel
  subst r
  cases x with
  | false => exact iteF ⟨μ1, τ, S1, A1.st, A1.fr, h1⟩
  | true => exact iteT (h1.here A1.st rfl)
def fAnd (Fa Fb : FE) : FE := fun τ S => (Fa τ S).bind fun x S1 => match truT S1 x with
  | some true => Fb τ S1
  | some false => .ok x S1
  | none => .stuck
def fOr (Fa Fb : FE) : FE := fun τ S => (Fa τ S).bind fun x S1 => match truT S1 x with
  | some false => Fb τ S1
  | some true => .ok x S1
  | none => .stuck
def fNot (Fa : FE) : FE := fun τ S => (Fa τ S).bind fun x S1 => match truT S1 x with
  | some k => .ok (.bl !k) S1
  | none => .stuck
theorem pf_one {op} (h : PF X wx a Fa) : PF X wx (.BoolOp op [a] pos) Fa := pe_one h
theorem pf_and (ha : PF X wx a Fa) (hb : PF X wx (.BoolOp .And (b :: rest) pos) Fb) : PF X wx (.BoolOp .And (a :: b :: rest) pos) (fAnd Fa Fb) := PE.imp (pe_andT ha hb) fun σ H Q h => by
  obtain ⟨μ, τ, S, s, f, h⟩ := h
  refine tG.seq s f h fun μ1 H1 x v S1 A1 h1 => ?_
  cases e : truT S1 x with
  | none => simp only [e] at h1; exact h1.elim
  | some k =>
    refine ⟨k, truT_ok e A1.st A1.rel, ?_⟩
    cases k with
    | true => simp only [e] at h1; exact iteT ⟨μ1, τ, S1, A1.st, A1.fr, h1⟩
    | false => simp only [e] at h1; exact iteF (h1.here A1.st A1.rel)
theorem pf_or (ha : PF X wx a Fa) (hb : PF X wx (.BoolOp .Or (b :: rest) pos) Fb) : PF X wx (.BoolOp .Or (a :: b :: rest) pos) (fOr Fa Fb) := PE.imp (pe_orT ha hb) fun σ H Q h => by
  obtain ⟨μ, τ, S, s, f, h⟩ := h
  refine tG.seq s f h fun μ1 H1 x v S1 A1 h1 => ?_
  cases e : truT S1 x with
  | none => simp only [e] at h1; exact h1.elim
  | some k =>
    refine ⟨k, truT_ok e A1.st A1.rel, ?_⟩
    cases k with
    | false => simp only [e] at h1; exact iteF ⟨μ1, τ, S1, A1.st, A1.fr, h1⟩
    | true => simp only [e] at h1; exact iteT (h1.here A1.st A1.rel)
def fIf (F : FT) (Fa Fb : FE) : FE := fun τ S => (F τ S).bind fun k S1 => match k with
  | true => Fa τ S1
  | false => Fb τ S1
theorem pf_if (hc : PFT X wx c F) (ha : PF X wx a Fa) (hb : PF X wx b Fb) : PF X wx (.IfExp c a b pos) (fIf F Fa Fb) := PE.imp (pe_ifExp hc ha hb) fun σ H Q h => by
  obtain ⟨μ, τ, S, s, f, h⟩ := h
  refine tG.seq s f h fun μ1 H1 x v S1 A1 h1 => ?_
  have r : x = v := A1.rel
  subst r
  cases x with
  | true => exact iteT ⟨μ1, τ, S1, A1.st, A1.fr, h1⟩
  | false => exact iteF ⟨μ1, τ, S1, A1.st, A1.fr, h1⟩
def fNil : FA := fun _ S => .ok [] S
def fCons (F : FE) (Fs : FA) : FA := fun τ S => (F τ S).bind fun x S1 => (Fs τ S1).bind fun xs S2 => .ok (x :: xs) S2
theorem pfa_nil : PFA X wx [] fNil := PA.imp pa_nil fun σ H Q ⟨μ, τ, S, s, f, h⟩ => h.here s (by simp only [Rels])
theorem pfa_cons {es : List Expr} {Fs : FA} (ha : PF X wx a Fa) (hr : PFA X wx es Fs) (hs : starEach (a :: es) X.env = (false, eval a X.env) :: starEach es X.env := by rfl) : PFA X wx (a :: es) (fCons Fa Fs) := PA.imp (pa_cons ha hr hs) fun σ H Q h => by
  obtain ⟨μ, τ, S, s, f, h⟩ := h
  refine tG.seq s f h fun μ1 H1 x v S1 A1 h1 => tG.seq A1.st A1.fr h1 fun μ2 H2 y u S2 A2 h2 => ?_
  refine h2.here A2.st ?_
  simp only [Rels]
  exact ⟨v, u, rfl, Rel.mono A2.ext x A1.rel, A2.rel⟩
theorem fresh_same {H : Hp} {p : Addr} {o : HO} (h : H p = none) : Same H (upd H p o) := fun b x e => by
  rw [upd_ne (ne_of_none e h)]
  exact e
theorem RelS.free {K : PySem.W.Frag} {H : Hp} {μ : Mu} {S : Sto} (s : RelS K H μ S) {p : Addr} (h : H p = none) : μ.out p := ⟨fun hp => by
  obtain ⟨n, hn, e⟩ := List.mem_iff_getElem.mp hp
  have e1 : μ.c[n]? = some p := by rw [List.getElem?_eq_getElem hn, e]
  have hn' : n < S.length := by rw [← s.len]; exact hn
  have q := s.cell n S[n] p (List.getElem?_eq_getElem hn') e1
  cases ec : S[n] with
  | lst ts => rw [ec] at q; obtain ⟨vs, e, _⟩ := q; rw [h] at e; cases e
  | dct ks ts => rw [ec] at q; obtain ⟨vs, e, _⟩ := q; rw [h] at e; cases e
  | kdc ks ts => rw [ec] at q; obtain ⟨vs, e, _⟩ := q; rw [h] at e; cases e
  | _ => rw [ec] at q; exact q, fun hp => s.live p hp h⟩
theorem Fx.new {K : PySem.W.Frag} {H : Hp} {μ : Mu} {S : Sto} (s : RelS K H μ S) {p : Addr} {o : HO} (h : H p = none) : Fx (upd H p o) μ p o := ⟨upd_same, s.free h⟩
theorem rel_tup {K : PySem.W.Frag} {H : Hp} {μ : Mu} {S : Sto} {ts : List T} {vs : List V} (s : RelS K H μ S) {p : Addr} (h : H p = none) (r : Rels K H μ ts vs) : Rel K (upd H p (.tup vs)) μ (.tup ts) (.ref p) := by
  simp only [Rel]
  exact ⟨p, vs, rfl, .inl ⟨.inl upd_same, s.free h⟩, Rels.mono (Ext.of_same (fresh_same h)) ts r⟩
theorem rel_lst {K : PySem.W.Frag} {H : Hp} {μ : Mu} {S : Sto} {ts : List T} {vs : List V} (s : RelS K H μ S) {p : Addr} (h : H p = none) (r : Rels K H μ ts vs) : Rel K (upd H p (.lst vs)) μ (.lst ts) (.ref p) := by
  simp only [Rel]
  exact ⟨p, vs, rfl, Fx.new s h, Rels.mono (Ext.of_same (fresh_same h)) ts r⟩
def fTup (Fs : FA) : FE := fun τ S => (Fs τ S).bind fun ts S1 => if ts.length ≤ sizeLine then .ok (.tup ts) S1 else .stuck
def fLst (Fs : FA) : FE := fun τ S => (Fs τ S).bind fun ts S1 => if ts.length ≤ sizeLine then .ok (.lst ts) S1 else .stuck
variable {es : List Expr} {Fs : FA}
theorem pf_tup {k} (h : PFA X wx es Fs) : PF X wx (.Tuple es k pos) (fTup Fs) := PE.imp (pe_tup h) fun σ H Q h => by
  obtain ⟨μ, τ, S, s, f, h⟩ := h
  refine tG.seq s f h fun μ1 H1 x v S1 A1 h1 => ?_
  have r := A1.rel
  by_cases hl : x.length ≤ sizeLine
  · rw [if_pos hl] at h1
    exact ⟨by rw [← Rels.length r]; exact hl, fun p hp => h1 μ1 _ _ (Ext.of_same (fresh_same hp)) (A1.st.same (fresh_same hp)) (rel_tup A1.st hp r)⟩
  · rw [if_neg hl] at h1; exact h1.elim
end
end TL
set_option Elab.async false
set_option linter.all false
set_option maxRecDepth 100000
namespace TL
open PySem PySem.Spec L2
open PyProof.Rows hiding St
def Res.nox {α : Type} : Res α → Res α
  | .exc _ _ => .stuck
  | .ok a S => .ok a S
  | .stuck => .stuck
def xF : XW := fun _ _ _ _ => False
abbrev FF := List T → Sto → Res T
theorem post.nox {α β : Type} {K : PySem.W.Frag} {wx wx' : XW} {rel : RL α β} {μ : Mu} {H : Hp} {r : Res α} {Q : β → Hp → Prop} (h : post K wx rel μ H r.nox Q) : post K wx' rel μ H r Q := by
  cases r with
  | ok t S => exact h
  | exc x S => exact h.elim
  | stuck => exact h
def spT (K : PySem.W.Frag) (F : FF) : Sp := fun vs H Q _ => ∃ μ S ts, RelS K H μ S ∧ Rels K H μ ts vs ∧ post K xF (rV K) μ H (F ts S) Q
structure Df (P : Program) (w : World) (K : PySem.W.Frag) (mg : Str → Option Value) (base : Heap) (k : Nat) (f : Addr) (fd : FuncData) (ps : List Str) (F : FF) : Prop where
  arity : ∀ ts S, ts.length ≠ ps.length → F ts S = .stuck
  go : ∀ (A : Around) (fs : List Env) (s : Shared) (H : Hp) (given : Args) (us : List Value) (vs : List V) (Q : VK), Room k A → A.guards = some [] → Env0 P w K mg base A fs s H →
    BindsTo s fd given (ps.zip us) → Vals vs us → spT K F vs H Q E0 → codeAny (model P w) A (.call (.ref f) given) (CR CX0 fs P w H s Q E0) s
theorem Df.mono {P : Program} {w : World} {K : PySem.W.Frag} {mg : Str → Option Value} {base : Heap} {j k : Nat} {f : Addr} {fd : FuncData} {ps : List Str} {F : FF} (D : Df P w K mg base j f fd ps F) (h : j ≤ k) : Df P w K mg base k f fd ps F :=
  ⟨D.arity, fun A fs s H given us vs Q r => D.go A fs s H given us vs Q (r.mono h)⟩
theorem Df.eq {P : Program} {w : World} {K : PySem.W.Frag} {mg : Str → Option Value} {base : Heap} {k : Nat} {f : Addr} {fd : FuncData} {ps : List Str} {F G : FF} (D : Df P w K mg base k f fd ps F) (h : ∀ ts S, F ts S = G ts S) : Df P w K mg base k f fd ps G := by
  have e : F = G := funext fun ts => funext fun S => h ts S
  rw [← e]; exact D
theorem spT_len {P : Program} {w : World} {K : PySem.W.Frag} {mg : Str → Option Value} {base : Heap} {k : Nat} {f : Addr} {fd : FuncData} {ps : List Str} {F : FF} (D : Df P w K mg base k f fd ps F) {vs : List V} {H : Hp} {Q : VK} {E : XK} (h : spT K F vs H Q E) : vs.length = ps.length := by
  obtain ⟨μ, S, ts, _, r, h⟩ := h
  rw [← r.length]
  by_cases e : ts.length = ps.length
  · exact e
  · rw [D.arity ts S e] at h
    exact h.elim
theorem Df.call {X : Cx} {k : Nat} {f : Addr} {fd : FuncData} {ps : List Str} {F : FF} (D : Df X.prog X.w X.K X.mg X.base k f fd ps F) (hr : Room k X.A) (hgd : X.A.guards = some []) (hb : L2.Binds X.K fd ps []) {pins : List (Addr × Obj)} {σ : L2.St} {H : Hp} {s : Shared} {Q : VK} {us : List Value} {vs : List V}
    (I : L2.Inv X pins σ H s) (r : Vals vs us) (h : spT X.K F vs H Q E0) : wpAny (model X.prog X.w) X.A (call (.ref f) us) (EP X pins σ Q) X.xe s := by
  have n : (us ++ []).length = ps.length := by
    rw [List.append_nil, ← r.length]
    exact spT_len D h
  have bd := hb s us I.kIn n
  rw [List.append_nil] at bd
  refine wpAny_call (codeAny_mono (D.go X.A X.stack s H _ us vs Q hr hgd I.env0 bd r h) fun out s' hq => ?_)
  match out, hq with
  | .ok (.ret u), hq => exact I.after hq
def fCall (F : FF) (Fs : FA) : FE := fun τ S => (Fs τ S).bind fun ts S1 => (F ts S1).nox
section
variable {X : Cx} {wx : WT} {pos : Pos} {k : Nat} {f : Addr} {fd : FuncData} {ps : List Str} {F : FF} {x : Str} {p : Pos} {e : Expr} {es : List Expr} {Fs : FA}
theorem pf_call (D : Df X.prog X.w X.K X.mg X.base k f fd ps F) (hr : Room k X.A) (hgd : X.A.guards = some []) (hm : X.mg x = some (.ref f)) (hk : PySem.W.keepIn X.K (.ref f) = true) (hb : L2.Binds X.K fd ps []) (ha : PFA X wx (e :: es) Fs)
    (hg : Gl X x := by rfl) (hdb : (x == ("__debug__" : Str)) = false := by decide) (he : starEach (e :: es) X.env = (false, eval e X.env) :: starEach es X.env := by rfl) (hpl : (backTo pos (starEach es X.env)).any (·.1) = false := by rfl) :
    PF X wx (.Call (.Name x p) (e :: es) [] pos) (fCall F Fs) := by
  have go : PE X (.Call (.Name x p) (e :: es) [] pos) (fun σ H Q => tG X.K wx (rVs X.K) Fs σ H fun vs H1 => spT X.K F vs H1 Q E0) := ⟨fun pins s σ H Q I h => by
    refine wpAny_Call_Name_kw (ld_glob I hg hm ?_ hdb)
    refine PySem.W.callWith_K (h₀ := X.base) I.ok.mod.kin hk (thn (ha.run pos pins s σ H _ I h) fun us s1 h1 => ?_) he hpl
    obtain ⟨vs, H1, I1, r, q⟩ := h1
    exact ⟨I1.kIn, D.call hr hgd hb I1 r q⟩⟩
  refine PE.imp go fun σ H Q h => ?_
  obtain ⟨μ, τ, S, s, fr, h⟩ := h
  exact tG.seq s fr h fun μ1 H1 ts vs S1 A1 h1 => ⟨μ1, S1, ts, A1.st, A1.rel, h1.nox⟩
def fBlt (g : Sto → List T → Option T) (Fs : FA) : FE := fun τ S => (Fs τ S).bind fun ts S1 => ofO (g S1 ts) S1
variable {g : Sto → List T → Option T} {id : String}
theorem blt_imp {σ : St} {H : Hp} {Q : VK} (h : tG X.K wx (rV X.K) (fBlt g Fs) σ H Q) : tCB (rN X.K g) (tG X.K wx (rVs X.K) Fs) σ H Q := by
  obtain ⟨μ, τ, S, s, fr, h⟩ := h
  refine tG.seq s fr h fun μ1 H1 ts vs S1 A1 h1 => ?_
  obtain ⟨t, e, q⟩ := post_ofO h1 A1.st
  exact ⟨μ1, S1, ts, t, A1.st, A1.rel, e, q⟩
theorem pf_blt (hc : CallR X (.builtin id) (rN X.K g)) (hm : X.mg x = none) (hv : bootBuiltins x = some (.builtin id)) (ha : PFA X wx (e :: es) Fs) (hg : Gl X x := by rfl) (hn : x ≠ "__name__" := by decide) (hdb : (x == ("__debug__" : Str)) = false := by decide)
    (he : starEach (e :: es) X.env = (false, eval e X.env) :: starEach es X.env := by rfl) (hpl : (backTo pos (starEach es X.env)).any (·.1) = false := by rfl) : PF X wx (.Call (.Name x p) (e :: es) [] pos) (fBlt g Fs) :=
  PE.imp (pe_callB hc hg hm hv ha hn hdb he hpl) fun _ _ _ h => blt_imp h
theorem pf_bltTy (hc : CallR X (.type id) (rN X.K g)) (hm : X.mg x = none) (hv : bootBuiltins x = some (.type id)) (ha : PFA X wx (e :: es) Fs) (hg : Gl X x := by rfl) (hn : x ≠ "__name__" := by decide) (hdb : (x == ("__debug__" : Str)) = false := by decide)
    (he : starEach (e :: es) X.env = (false, eval e X.env) :: starEach es X.env := by rfl) (hpl : (backTo pos (starEach es X.env)).any (·.1) = false := by rfl) : PF X wx (.Call (.Name x p) (e :: es) [] pos) (fBlt g Fs) :=
  PE.imp (pe_callTy hc hg hm hv ha hn hdb he hpl) fun _ _ _ h => blt_imp h
end
def Src (K : PySem.W.Frag) (J : It) (xs : List T) (μ : Mu) (H : Hp) : Prop := ∀ μ2 H2, Ext H μ H2 μ2 →
  (∀ i x, xs[i]? = some x → J.go i H2 ∧ ∀ v H3, J.yld i H2 v H3 → Same H2 H3 ∧ ∀ S, RelS K H2 μ2 S → Rel K H3 μ2 x v) ∧ ∀ i, xs.length ≤ i → J.stop i H2
abbrev FI := Fr → Sto → Res (List T)
def rI (K : PySem.W.Frag) : RL (List T) It := fun H μ xs J => Src K J xs μ H
def wiT (K : PySem.W.Frag) (wx : WT) (Fi : FI) : TI := tG K wx (rI K) Fi
def PFI (X : Cx) (wx : WT) (tg e : Expr) (Fi : FI) : Prop := PI X tg e (wiT X.K wx Fi)
theorem PI.imp {X : Cx} {tg e : Expr} {t t' : TI} (h : PI X tg e t) (i : ∀ σ H Q, t' σ H Q → t σ H Q) : PI X tg e t' := ⟨fun pins s σ H Q I q => h.run pins s σ H Q I (i σ H Q q)⟩
theorem Src.list {K : PySem.W.Frag} {H : Hp} {μ : Mu} {a : Addr} {xs : List V} {ts : List T} (f : OL K H μ a xs) (r : Rels K H μ ts xs) : Src K (Itl K a) ts μ H := fun μ2 H2 E => by
  have f2 : OL K H2 μ2 a xs := f.imp E.fix id
  have q : SqL K H2 a xs := f2.imp (fun z => z.1) id
  have r2 := Rels.mono E ts r
  refine ⟨fun i x e => ?_, fun i h => ⟨xs, q, by rw [← r2.length]; exact h⟩⟩
  obtain ⟨v, e1, e2⟩ := r2.get e
  refine ⟨⟨xs, v, q, e1⟩, fun u H3 y => ?_⟩
  obtain ⟨rfl, y⟩ := y
  have e3 := y xs q
  rw [e1] at e3
  cases e3
  exact ⟨Same.refl _, fun S s => e2⟩
theorem Src.tup {K : PySem.W.Frag} {H : Hp} {μ : Mu} {a : Addr} {xs : List V} {ts : List T} (f : OT K H μ a xs) (r : Rels K H μ ts xs) : Src K (Itt K a) ts μ H := fun μ2 H2 E => by
  have f2 : OT K H2 μ2 a xs := f.imp E.fix id
  have q : SqT K H2 a xs := f2.imp (fun z => z.1) id
  have r2 := Rels.mono E ts r
  refine ⟨fun i x e => ?_, fun i h => ⟨xs, q, by rw [← r2.length]; exact h⟩⟩
  obtain ⟨v, e1, e2⟩ := r2.get e
  refine ⟨⟨xs, v, q, e1⟩, fun u H3 y => ?_⟩
  obtain ⟨rfl, y⟩ := y
  have e3 := y xs q
  rw [e1] at e3
  cases e3
  exact ⟨Same.refl _, fun S s => e2⟩
theorem Src.ints {K : PySem.W.Frag} {H : Hp} {μ : Mu} (lo : Int) (n : Nat) : Src K (Itr lo n) ((List.range n).map fun i => T.int (lo + (i : Nat))) μ H := fun μ2 H2 E => by
  refine ⟨fun i x e => ?_, fun i h => by
    show n ≤ i
    simpa using h⟩
  have hi : i < n := by
    have := (List.getElem?_eq_some_iff.mp e).1
    simpa using this
  have ex : x = T.int (lo + (i : Nat)) := by
    rw [List.getElem?_map, List.getElem?_range hi] at e
    exact (Option.some.inj e).symm
  subst ex
  refine ⟨hi, fun u H3 y => ?_⟩
  obtain ⟨rfl, rfl⟩ := y
  exact ⟨Same.refl _, fun S s => by simp only [Rel]⟩
def chars (x : Str) : List T := x.cps.toList.map fun c => T.str ⟨#[c]⟩
theorem Src.str {K : PySem.W.Frag} {H : Hp} {μ : Mu} (x : Str) : Src K (Its x) (chars x) μ H := fun μ2 H2 E => by
  unfold chars
  refine ⟨fun i t e => ?_, fun i h => by
    show x.cps.size ≤ i
    simpa using h⟩
  have hi : i < x.cps.size := by
    have := (List.getElem?_eq_some_iff.mp e).1
    simpa using this
  have ec : x.cps[i]? = some x.cps[i] := Array.getElem?_eq_getElem hi
  have et : t = T.str ⟨#[x.cps[i]]⟩ := by
    rw [List.getElem?_map, Array.getElem?_toList, ec] at e
    exact (Option.some.inj e).symm
  subst et
  refine ⟨hi, fun u H3 y => ?_⟩
  obtain ⟨rfl, c, e1, rfl⟩ := y
  rw [ec] at e1
  cases e1
  exact ⟨Same.refl _, fun S s => by simp only [Rel]⟩
section
variable {X : Cx} {wx : WT} {pos p : Pos} {tg a b : Expr} {Fa Fb : FE} {Fs : FA}
def fiL (Fa : FE) : FI := fun τ S => (Fa τ S).bind fun t S1 => match t with
  | .lst ts => .ok ts S1
  | .sls ts => .ok ts S1
  | _ => .stuck
def fiT (Fa : FE) : FI := fun τ S => (Fa τ S).bind fun t S1 => match t with
  | .tup ts => .ok ts S1
  | .ktp ts => .ok ts S1
  | .etp ts => .ok ts S1
  | _ => .stuck
def fiS (Fa : FE) : FI := fun τ S => (Fa τ S).bind fun t S1 => match t with
  | .str x => if x.length < sizeLine then .ok (chars x) S1 else .stuck
  | _ => .stuck
theorem pfi_list (ha : PF X wx a Fa) : PFI X wx tg a (fiL Fa) := PI.imp (pi_list ha) fun σ H Q h => by
  obtain ⟨μ, τ, S, s, f, h⟩ := h
  refine tG.seq s f h fun μ1 H1 t v S1 A1 h1 => ?_
  have r := A1.rel
  cases t with
  | lst ts =>
    simp only [Rel] at r
    obtain ⟨a, xs, rfl, o, r⟩ := r
    have o' : OL X.K H1 μ1 a xs := .inl ⟨.inl o.1, o.2⟩
    exact ⟨a, rfl, ⟨xs, .inl (.inl o.1)⟩, h1.here A1.st (Src.list o' r)⟩
  | sls ts =>
    simp only [Rel] at r
    obtain ⟨a, xs, rfl, o, r⟩ := r
    exact ⟨a, rfl, ⟨xs, o.imp (fun z => z.1) fun z => z⟩, h1.here A1.st (Src.list o r)⟩
  | _ => exact h1.elim
theorem pfi_tup (ha : PF X wx a Fa) : PFI X wx tg a (fiT Fa) := PI.imp (pi_tup ha) fun σ H Q h => by
  obtain ⟨μ, τ, S, s, f, h⟩ := h
  refine tG.seq s f h fun μ1 H1 t v S1 A1 h1 => ?_
  have r := A1.rel
  cases t with
  | tup ts =>
    simp only [Rel] at r
    obtain ⟨a, xs, rfl, o, r⟩ := r
    exact ⟨a, rfl, ⟨xs, o.imp (fun z => z.1) fun z => z⟩, h1.here A1.st (Src.tup o r)⟩
  | ktp ts =>
    simp only [Rel] at r
    obtain ⟨a, xs, rfl, ⟨ob, oh, oo, _⟩, r⟩ := r
    have o : OT X.K H1 μ1 a xs := .inl ⟨.inr ⟨ob, oh⟩, oo⟩
    exact ⟨a, rfl, ⟨xs, o.imp (fun z => z.1) fun z => z⟩, h1.here A1.st (Src.tup o r)⟩
  | etp ts =>
    simp only [Rel] at r
    obtain ⟨a, xs, rfl, ⟨oh, oo⟩, r⟩ := r
    have o : OT X.K H1 μ1 a xs := .inl ⟨.inl oh, oo⟩
    exact ⟨a, rfl, ⟨xs, o.imp (fun z => z.1) fun z => z⟩, h1.here A1.st (Src.tup o r)⟩
  | _ => exact h1.elim
theorem pfi_str (ha : PF X wx a Fa) : PFI X wx tg a (fiS Fa) := PI.imp (pi_str ha) fun σ H Q h => by
  obtain ⟨μ, τ, S, s, f, h⟩ := h
  refine tG.seq s f h fun μ1 H1 t v S1 A1 h1 => ?_
  have r := A1.rel
  cases t with
  | str x =>
    simp only [Rel] at r
    subst r
    by_cases hl : x.length < sizeLine
    · simp only [if_pos hl] at h1
      exact ⟨x, rfl, h1.here A1.st (Src.str x)⟩
    · simp only [if_neg hl] at h1; exact h1.elim
  | _ => exact h1.elim
def inR (i j : Int) : Bool := decide (-(2 ^ 62) ≤ i ∧ i < 2 ^ 62 ∧ -(2 ^ 62) ≤ j ∧ j < 2 ^ 62)
def rng (i j : Int) : List T := (List.range (j - i).toNat).map fun n => T.int (i + (n : Nat))
def fiR1 (Fs : FA) : FI := fun τ S => (Fs τ S).bind fun ts S1 => match ts with
  | [.int j] => if inR 0 j then .ok (rng 0 j) S1 else .stuck
  | _ => .stuck
def fiR2 (Fs : FA) : FI := fun τ S => (Fs τ S).bind fun ts S1 => match ts with
  | [.int i, .int j] => if inR i j then .ok (rng i j) S1 else .stuck
  | _ => .stuck
theorem pfi_range1 (hm : X.mg "range" = none) (ha : PFA X wx [a] Fs) (hg : Gl X "range" := by rfl) (hs : starEach [a] X.env = [(false, eval a X.env)] := by rfl) : PFI X wx tg (.Call (.Name "range" p) [a] [] pos) (fiR1 Fs) := PI.imp (pi_range1 hg hm ha hs) fun σ H Q h => by
  obtain ⟨μ, τ, S, s, f, h⟩ := h
  refine tG.seq s f h fun μ1 H1 ts vs S1 A1 h1 => ?_
  have r := A1.rel
  match ts, h1 with
  | [.int j], h1 =>
    simp only [Rels, Rel] at r
    obtain ⟨v, r', rfl, rfl, rfl⟩ := r
    by_cases hl : inR 0 j
    · simp only [if_pos hl] at h1
      have hl' := of_decide_eq_true hl
      refine ⟨j, rfl, hl'.2.2.1, hl'.2.2.2, h1.here A1.st ?_⟩
      have q := Src.ints (K := X.K) (H := H1) (μ := μ1) 0 j.toNat
      unfold rng
      rw [show (j - 0).toNat = j.toNat by simp]
      exact q
    · simp only [if_neg hl] at h1; exact h1.elim
theorem pfi_range2 (hm : X.mg "range" = none) (ha : PFA X wx [a, b] Fs) (hg : Gl X "range" := by rfl) (hs : starEach [a, b] X.env = [(false, eval a X.env), (false, eval b X.env)] := by rfl) (hs2 : starEach [b] X.env = [(false, eval b X.env)] := by rfl) :
    PFI X wx tg (.Call (.Name "range" p) [a, b] [] pos) (fiR2 Fs) := PI.imp (pi_range2 hg hm ha hs hs2) fun σ H Q h => by
  obtain ⟨μ, τ, S, s, f, h⟩ := h
  refine tG.seq s f h fun μ1 H1 ts vs S1 A1 h1 => ?_
  have r := A1.rel
  match ts, h1 with
  | [.int i, .int j], h1 =>
    simp only [Rels, Rel] at r
    obtain ⟨v, r', rfl, rfl, v2, r2, rfl, rfl, rfl⟩ := r
    by_cases hl : inR i j
    · simp only [if_pos hl] at h1
      have hl' := of_decide_eq_true hl
      exact ⟨i, j, rfl, hl', h1.here A1.st (Src.ints i _)⟩
    · simp only [if_neg hl] at h1; exact h1.elim
end
section
variable {X : Cx} {wx : WT} {tg a : Expr} {Fa : FE}
def fiA (Fa : FE) : FI := fun τ S => (Fa τ S).bind fun t S1 => match t with
  | .lst ts => .ok ts S1
  | .sls ts => .ok ts S1
  | .tup ts => .ok ts S1
  | .ktp ts => .ok ts S1
  | .etp ts => .ok ts S1
  | .str x => if x.length < sizeLine then .ok (chars x) S1 else .stuck
  | _ => .stuck
theorem pfi_any (ha : PF X wx a Fa) : PFI X wx tg a (fiA Fa) := ⟨fun pins s σ H R I h => by
  obtain ⟨μ, τ, S, st, f, h⟩ := h
  have lists : ∀ {q : Res (List T)}, fiL Fa τ S = q → post X.K (wx.fr τ σ) (rI X.K) μ H q R → _ := fun {q} e z => (pfi_list (tg := tg) ha).run pins s σ H R I ⟨μ, τ, S, st, f, by rw [e]; exact z⟩
  have tups : ∀ {q : Res (List T)}, fiT Fa τ S = q → post X.K (wx.fr τ σ) (rI X.K) μ H q R → _ := fun {q} e z => (pfi_tup (tg := tg) ha).run pins s σ H R I ⟨μ, τ, S, st, f, by rw [e]; exact z⟩
  have txts : ∀ {q : Res (List T)}, fiS Fa τ S = q → post X.K (wx.fr τ σ) (rI X.K) μ H q R → _ := fun {q} e z => (pfi_str (tg := tg) ha).run pins s σ H R I ⟨μ, τ, S, st, f, by rw [e]; exact z⟩
  cases e : Fa τ S with
  | stuck => simp only [fiA, e, Res.bind] at h; exact h.elim
  | exc x S1 =>
    simp only [fiA, e, Res.bind] at h
    exact lists (by simp only [fiL, e, Res.bind]) h
  | ok t S1 =>
    simp only [fiA, e, Res.bind] at h
    cases t with
    | lst ts => exact lists (by simp only [fiL, e, Res.bind]) h
    | sls ts => exact lists (by simp only [fiL, e, Res.bind]) h
    | tup ts => exact tups (by simp only [fiT, e, Res.bind]) h
    | ktp ts => exact tups (by simp only [fiT, e, Res.bind]) h
    | etp ts => exact tups (by simp only [fiT, e, Res.bind]) h
    | str x => exact txts (by simp only [fiS, e, Res.bind]) h
    | _ => exact h.elim⟩
end
abbrev Asg := List (Nat × T)
abbrev GT := T → Option Asg
abbrev GTs := List T → Option Asg
def setsT (τ : Fr) (l : Asg) : Fr := l.foldl (fun τ p => τ.set p.1 (some p.2)) τ
def setsV (σ : St) (l : List (Nat × V)) : St := l.foldl (fun σ p => σ.set p.1 (some p.2)) σ
inductive AsgR (K : PySem.W.Frag) (H : Hp) (μ : Mu) : Asg → List (Nat × V) → Prop
  | nil : AsgR K H μ [] []
  | cons {i : Nat} {t : T} {v : V} {l : Asg} {l' : List (Nat × V)} : Rel K H μ t v → AsgR K H μ l l' → AsgR K H μ ((i, t) :: l) ((i, v) :: l')
theorem AsgR.append {K : PySem.W.Frag} {H : Hp} {μ : Mu} {a b : Asg} {a' b' : List (Nat × V)} (h : AsgR K H μ a a') (g : AsgR K H μ b b') : AsgR K H μ (a ++ b) (a' ++ b') := by
  induction h with
  | nil => exact g
  | cons r _ ih => exact .cons r ih
theorem RelF.sets {K : PySem.W.Frag} {H : Hp} {μ : Mu} {l : Asg} {l' : List (Nat × V)} (h : AsgR K H μ l l') : ∀ {τ : Fr} {σ : St}, RelF K H μ τ σ → RelF K H μ (setsT τ l) (setsV σ l') := by
  induction h with
  | nil => exact fun f => f
  | cons r _ ih => exact fun f => ih (f.set r)
theorem AsgR.slots {K : PySem.W.Frag} {H : Hp} {μ : Mu} {a : Asg} {a' : List (Nat × V)} (h : AsgR K H μ a a') : a'.map (·.1) = a.map (·.1) := by
  induction h with
  | nil => rfl
  | cons r _ ih => simp [ih]
def gT (K : PySem.W.Frag) (g : GT) : TG := fun v σ H Q => ∃ μ t l, Rel K H μ t v ∧ g t = some l ∧ ∀ l', AsgR K H μ l l' → Q (setsV σ l') H
def gTs (K : PySem.W.Frag) (g : GTs) : TGs := fun vs σ H Q => ∃ μ ts l, Rels K H μ ts vs ∧ g ts = some l ∧ ∀ l', AsgR K H μ l l' → Q (setsV σ l') H
def PFG (X : Cx) (tg : Expr) (g : GT) : Prop := PG X tg (gT X.K g)
def PFGs (X : Cx) (tgs : List Expr) (g : GTs) : Prop := PGs X tgs (gTs X.K g)
theorem PG.imp {X : Cx} {e : Expr} {t t' : TG} (h : PG X e t) (i : ∀ v σ H Q, t' v σ H Q → t v σ H Q) : PG X e t' := ⟨fun pins s σ H v u Q I r q => h.run pins s σ H v u Q I r (i v σ H Q q)⟩
theorem PGs.imp {X : Cx} {e : List Expr} {t t' : TGs} (h : PGs X e t) (i : ∀ v σ H Q, t' v σ H Q → t v σ H Q) : PGs X e t' := ⟨fun pins s σ H v u Q I r q => h.run pins s σ H v u Q I r (i v σ H Q q)⟩
def sName (i : Nat) : GT := fun t => some [(i, t)]
def sNil : GTs := fun ts => match ts with
  | [] => some []
  | _ => none
def sCons (g : GT) (gs : GTs) : GTs := fun ts => match ts with
  | t :: r => (g t).bind fun a => (gs r).bind fun b => some (a ++ b)
  | [] => none
def sTup (n : Nat) (gs : GTs) : GT := fun t => match t with
  | .tup ts => if ts.length = n then gs ts else none
  | _ => none
section
variable {X : Cx} {pos : Pos}
theorem pfg_name {i : Nat} {x : Str} (hN : X.N.Nodup) (hi : X.N[i]? = some x := by rfl) (hx : Loc X.env.scope x := by first | exact Or.inl rfl | exact Or.inr rfl) (hf : X.fn x = true ∨ X.env.scope.names.lookup x = some .local := by first | exact .inl rfl | exact .inr rfl | assumption) : PFG X (.Name x pos) (sName i) :=
  PG.imp (pg_name hN hi hx hf) fun v σ H Q h => by
    obtain ⟨μ, t, l, r, e, q⟩ := h
    cases e
    exact q [(i, v)] (.cons r .nil)
theorem pfgs_nil : PFGs X [] sNil := PGs.imp pgs_nil fun v σ H Q h => by
  obtain ⟨μ, ts, l, r, e, q⟩ := h
  cases ts with
  | nil =>
    cases e
    simp only [Rels] at r
    exact ⟨r, q [] .nil⟩
  | cons t ts => cases e
theorem pfgs_cons {e : Expr} {es : List Expr} {g : GT} {gs : GTs} (h1 : PFG X e g) (h2 : PFGs X es gs) (hs : (assignEach (e :: es) X.env).map (·.2) = assign e X.env :: (assignEach es X.env).map (·.2) := by rfl) : PFGs X (e :: es) (sCons g gs) :=
  PGs.imp (pgs_cons h1 h2 hs) fun v σ H Q h => by
    obtain ⟨μ, ts, l, r, e, q⟩ := h
    cases ts with
    | nil => cases e
    | cons t ts =>
      simp only [Rels] at r
      obtain ⟨u, us, rfl, r1, r2⟩ := r
      simp only [sCons] at e
      cases e1 : g t with
      | none => rw [e1] at e; cases e
      | some a =>
        cases e2 : gs ts with
        | none => rw [e1, e2] at e; cases e
        | some b =>
          rw [e1, e2] at e
          cases e
          refine ⟨u, us, rfl, μ, t, a, r1, e1, fun a' ha => ⟨μ, ts, b, r2, e2, fun b' hb => ?_⟩⟩
          have z := q (a' ++ b') (ha.append hb)
          unfold setsV at z ⊢
          rw [List.foldl_append] at z
          exact z
theorem pfg_tup {es : List Expr} {k : Nat} {gs : GTs} {n : Nat} (hc : X.calm = true) (h : PFGs X es gs) (hn : (assignEach es X.env).length = n := by rfl) (hst : (assignEach es X.env).findIdx? (·.1) = none := by rfl) : PFG X (.Tuple es k pos) (sTup n gs) :=
  PG.imp (pg_tup hc h hn hst) fun v σ H Q h => by
    obtain ⟨μ, t, l, r, e, q⟩ := h
    cases t with
    | tup ts =>
      simp only [sTup] at e
      split at e
      · rename_i hl
        obtain ⟨a, vs, rfl, o, r⟩ := tup_ok r
        exact ⟨a, vs, rfl, o, by rw [← r.length]; exact hl, μ, ts, l, r, e, q⟩
      · cases e
    | _ => cases e
end
inductive RS where
  | nx (τ : Fr) (S : Sto) | rt (t : T) (S : Sto) | bk (τ : Fr) (S : Sto) | ct (τ : Fr) (S : Sto) | exc (x : XT) (τ : Fr) (S : Sto) | stuck
def postS (K : PySem.W.Frag) (wx : WT) (μ : Mu) (H : Hp) (r : RS) (D : Ends) : Prop := match r with
  | .nx τ S' => ∀ μ' σ' H', Ext H μ H' μ' → RelS K H' μ' S' → RelF K H' μ' τ σ' → D.nx σ' H'
  | .rt t S' => ∀ μ' v H', Ext H μ H' μ' → RelS K H' μ' S' → Rel K H' μ' t v → D.rt v H'
  | .bk τ S' => ∀ μ' σ' H', Ext H μ H' μ' → RelS K H' μ' S' → RelF K H' μ' τ σ' → D.bk σ' H'
  | .ct τ S' => ∀ μ' σ' H', Ext H μ H' μ' → RelS K H' μ' S' → RelF K H' μ' τ σ' → D.ct σ' H'
  | .exc x τ S' => ∀ μ' σ' H', Ext H μ H' μ' → RelS K H' μ' S' → RelF K H' μ' τ σ' → wx x μ' τ S' σ' H'
  | .stuck => False
theorem postS.shift {K : PySem.W.Frag} {wx : WT} {μ μ1 : Mu} {H H1 : Hp} {r : RS} {D : Ends} (x : Ext H μ H1 μ1) (h : postS K wx μ H r D) : postS K wx μ1 H1 r D := by
  cases r with
  | stuck => exact h
  | _ => exact fun μ' v H' y => h μ' v H' (x.trans y)
abbrev BS := Fr → Sto → RS
def tS (K : PySem.W.Frag) (wx : WT) (B : BS) : TS := fun D σ H => ∃ μ τ S, RelS K H μ S ∧ RelF K H μ τ σ ∧ postS K wx μ H (B τ S) D
def Res.bindS {α : Type} (r : Res α) (τ : Fr) (k : α → Sto → RS) : RS := match r with
  | .ok a S => k a S
  | .exc x S => .exc x τ S
  | .stuck => .stuck
theorem tG.seqS {α β : Type} {K : PySem.W.Frag} {wx : WT} {rel : RL α β} {F : Fr → Sto → Res α} {k : α → Sto → RS} {μ : Mu} {H : Hp} {τ : Fr} {σ : St} {S : Sto} {D : Ends} {R : β → Hp → Prop}
    (s : RelS K H μ S) (f : RelF K H μ τ σ) (h : postS K wx μ H ((F τ S).bindS τ k) D)
    (hR : ∀ μ1 H1 t v S1, At K μ H τ σ rel μ1 H1 t v S1 → postS K wx μ1 H1 (k t S1) D → R v H1) : tG K wx rel F σ H R := by
  refine ⟨μ, τ, S, s, f, ?_⟩
  cases e : F τ S with
  | stuck => rw [e] at h; exact h
  | exc x S1 => rw [e] at h; exact fun μ' H' E st => h μ' σ H' E st (f.mono E)
  | ok t S1 =>
    rw [e] at h
    exact fun μ1 v H1 x st r => hR μ1 H1 t v S1 ⟨x, st, f.mono x, r⟩ (h.shift x)
def PFS (X : Cx) (wx : WT) (st : Stmt) (B : BS) : Prop := PS X st (tS X.K wx B)
def PFSs (X : Cx) (wx : WT) (st : List Stmt) (B : BS) : Prop := PSs X st (tS X.K wx B)
theorem PS.imp {X : Cx} {e : Stmt} {t t' : TS} (h : PS X e t) (i : ∀ D σ H, t' D σ H → t D σ H) : PS X e t' := ⟨fun pins s σ H D I q => h.run pins s σ H D I (i D σ H q)⟩
theorem PSs.imp {X : Cx} {e : List Stmt} {t t' : TS} (h : PSs X e t) (i : ∀ D σ H, t' D σ H → t D σ H) : PSs X e t' := ⟨fun pins s σ H D I q => h.run pins s σ H D I (i D σ H q)⟩
def bNext : BS := fun τ S => .nx τ S
def bSeq (B C : BS) : BS := fun τ S => match B τ S with
  | .nx τ1 S1 => C τ1 S1
  | r => r
def bSet (i : Nat) (F : FE) : BS := fun τ S => (F τ S).bindS τ fun t S1 => .nx (τ.set i (some t)) S1
def bAsg (g : GT) (F : FE) : BS := fun τ S => (F τ S).bindS τ fun t S1 => match g t with
  | some l => .nx (setsT τ l) S1
  | none => .stuck
def bRet (F : FE) : BS := fun τ S => (F τ S).bindS τ fun t S1 => .rt t S1
def bRetN : BS := fun τ S => .rt .non S
def bExpr (F : FE) : BS := fun τ S => (F τ S).bindS τ fun _ S1 => .nx τ S1
def bIf (F : FT) (B C : BS) : BS := fun τ S => (F τ S).bindS τ fun k S1 => match k with
  | true => B τ S1
  | false => C τ S1
def bStuck : BS := fun _ _ => .stuck
section
variable {X : Cx} {wx : WT} {pos : Pos} {st : Stmt} {sts : List Stmt} {B C : BS} {e : Expr} {F : FE}
theorem pfss_nil : PFSs X wx [] bNext := PSs.imp pss_nil fun D σ H h => by
  obtain ⟨μ, τ, S, s, f, h⟩ := h
  exact h μ σ H (Ext.refl _ _) s f
theorem pfss_one (h : PFS X wx st B) : PFSs X wx [st] B := pss_one h
theorem pfss_cons (h1 : PFS X wx st B) (h2 : PFSs X wx sts C) : PFSs X wx (st :: sts) (bSeq B C) := PSs.imp (pss_cons h1 h2) fun D σ H h => by
  obtain ⟨μ, τ, S, s, f, h⟩ := h
  refine ⟨μ, τ, S, s, f, ?_⟩
  unfold bSeq at h
  cases e : B τ S with
  | nx τ1 S1 =>
    rw [e] at h
    exact fun μ' σ' H' E st' fr => ⟨μ', τ1, S1, st', fr, h.shift E⟩
  | _ => rw [e] at h; exact h
theorem pfs_never : PFS X wx st bStuck := PS.imp ps_never fun D σ H h => by
  obtain ⟨μ, τ, S, s, f, h⟩ := h
  exact h
theorem pfs_set {i : Nat} {x : Str} {pos' : Pos} (hN : X.N.Nodup) (he : PF X wx e F) (hi : X.N[i]? = some x := by rfl) (hx : Loc X.env.scope x := by first | exact Or.inl rfl | exact Or.inr rfl) (hs : swapsWith e (some (.Name x pos')) pos.line X.env = pure false := by rfl) (hf : X.fn x = true ∨ X.env.scope.names.lookup x = some .local := by first | exact .inl rfl | exact .inr rfl | assumption) :
    PFS X wx (.Assign [.Name x pos'] e pos) (bSet i F) := PS.imp (ps_set hN hi hx he hs hf) fun D σ H h => by
  obtain ⟨μ, τ, S, s, f, h⟩ := h
  exact tG.seqS s f h fun μ1 H1 t v S1 A1 h1 => h1 μ1 _ H1 (Ext.refl _ _) A1.st (A1.fr.set A1.rel)
theorem pfs_asg {tg : Expr} {g : GT} (he : PF X wx e F) (hg : PFG X tg g) (hs : swapsWithSole [tg] e pos.line X.env = pure false := by rfl) (hw : swappedStores [tg] e X.env = pure none := by rfl)
    (h1 : (assignEach [tg] X.env).map (·.2) = [assign tg X.env] := by rfl) : PFS X wx (.Assign [tg] e pos) (bAsg g F) := PS.imp (ps_asg he hg hs hw h1) fun D σ H h => by
  obtain ⟨μ, τ, S, s, f, h⟩ := h
  refine tG.seqS s f h fun μ1 H1 t v S1 A1 h1 => ?_
  cases e1 : g t with
  | none => simp only [e1] at h1; exact h1.elim
  | some l =>
    simp only [e1] at h1
    exact ⟨μ1, t, l, A1.rel, e1, fun l' f' => h1 μ1 _ H1 (Ext.refl _ _) A1.st (RelF.sets f' A1.fr)⟩
theorem pfs_ret (he : PF X wx e F) : PFS X wx (.Return (some e) pos) (bRet F) := PS.imp (ps_ret he) fun D σ H h => by
  obtain ⟨μ, τ, S, s, f, h⟩ := h
  exact tG.seqS s f h fun μ1 H1 t v S1 A1 h1 => h1 μ1 v H1 (Ext.refl _ _) A1.st A1.rel
theorem pfs_expr (he : PF X wx e F) (hs : swapsWith e none pos.line X.env = pure false := by rfl) : PFS X wx (.Expr e pos) (bExpr F) := PS.imp (ps_expr he hs) fun D σ H h => by
  obtain ⟨μ, τ, S, s, f, h⟩ := h
  exact tG.seqS s f h fun μ1 H1 t v S1 A1 h1 => h1 μ1 σ H1 (Ext.refl _ _) A1.st A1.fr
theorem pfs_if {c : Expr} {a b : List Stmt} {Fc : FT} (hc : PFT X wx c Fc) (ha : PFSs X wx a B) (hb : PFSs X wx b C) : PFS X wx (.If c a b pos) (bIf Fc B C) := PS.imp (ps_if hc ha hb) fun D σ H h => by
  obtain ⟨μ, τ, S, s, f, h⟩ := h
  refine tG.seqS s f h fun μ1 H1 t v S1 A1 h1 => ?_
  have r : t = v := A1.rel
  subst r
  cases t with
  | true => exact iteT ⟨μ1, τ, S1, A1.st, A1.fr, h1⟩
  | false => exact iteF ⟨μ1, τ, S1, A1.st, A1.fr, h1⟩
def forF (g : GT) (B : BS) : List T → BS
  | [], τ, S => .nx τ S
  | x :: xs, τ, S => match g x with
    | none => .stuck
    | some l => match B (setsT τ l) S with
      | .nx τ2 S2 => forF g B xs τ2 S2
      | .ct τ2 S2 => forF g B xs τ2 S2
      | .bk τ2 S2 => .nx τ2 S2
      | r => r
def bFor (Fi : FI) (g : GT) (B : BS) : BS := fun τ S => (Fi τ S).bindS τ fun xs S1 => forF g B xs τ S1
theorem drop_cons {xs : List T} {i : Nat} (h : i < xs.length) : xs.drop i = xs[i] :: xs.drop (i + 1) := List.drop_eq_getElem_cons h
theorem pfs_for {tg iter : Expr} {body : List Stmt} {Fi : FI} {g : GT} (hp : PassesOwn (model X.prog X.w) X.A X.env X.xe) (hc : X.calm = true) (hi : PFI X wx tg iter Fi) (hg : PFG X tg g) (hb : PFSs X wx body B)
    (hs : ∀ x, foldedSetIterable iter X.env x = pure x := by intro _; rfl) : PFS X wx (.For tg iter body [] pos) (bFor Fi g B) := PS.imp (ps_for hp hc hi hg hb hs) fun D σ H h => by
  obtain ⟨μ, τ, S, s, f, h⟩ := h
  refine tG.seqS s f h fun μ1 H1 xs J S1 A1 h1 => ?_
  refine ⟨fun i m σ2 H2 => ∃ μ2 τ2 S2, Ext H1 μ1 H2 μ2 ∧ RelS X.K H2 μ2 S2 ∧ RelF X.K H2 μ2 τ2 σ2 ∧ m = xs.length - i ∧ i ≤ xs.length ∧ postS X.K wx μ2 H2 (forF g B (xs.drop i) τ2 S2) D,
    ⟨xs.length, μ1, τ, S1, Ext.refl _ _, A1.st, A1.fr, rfl, Nat.zero_le _, by simpa using h1⟩, fun i m σ2 H2 hW => ?_⟩
  obtain ⟨μ2, τ2, S2, E2, s2, f2, rfl, hi, h2⟩ := hW
  obtain ⟨go, stop⟩ := A1.rel μ2 H2 E2
  by_cases hlt : i < xs.length
  · rw [drop_cons hlt] at h2
    obtain ⟨hgo, hy⟩ := go i xs[i] (List.getElem?_eq_getElem hlt)
    refine .inr ⟨hgo, fun σ' H' => ∃ μ2 τ2 S2, Ext H1 μ1 H' μ2 ∧ RelS X.K H' μ2 S2 ∧ RelF X.K H' μ2 τ2 σ' ∧ postS X.K wx μ2 H' (forF g B (xs.drop (i + 1)) τ2 S2) D, fun σ' H' hN => ?_, fun v H3 yl => ?_⟩
    · obtain ⟨μ3, τ3, S3, a, b, c, d⟩ := hN
      exact ⟨xs.length - (i + 1), by omega, μ3, τ3, S3, a, b, c, rfl, hlt, d⟩
    · obtain ⟨sm, hr⟩ := hy v H3 yl
      have E3 : Ext H2 μ2 H3 μ2 := Ext.of_same sm
      simp only [forF] at h2
      cases eg : g xs[i] with
      | none => simp only [eg] at h2; exact h2.elim
      | some l =>
        simp only [eg] at h2
        refine ⟨μ2, xs[i], l, hr S2 s2, eg, fun l' f' => ⟨μ2, setsT τ2 l, S2, s2.same sm, RelF.sets f' (f2.mono E3), ?_⟩⟩
        cases eb : B (setsT τ2 l) S2 with
        | stuck => simp only [eb] at h2; exact h2.elim
        | nx τ4 S4 =>
          simp only [eb] at h2
          exact fun μ4 σ4 H4 E4 s4 f4 => ⟨μ4, τ4, S4, (E2.trans E3).trans E4, s4, f4, h2.shift (E3.trans E4)⟩
        | ct τ4 S4 =>
          simp only [eb] at h2
          exact fun μ4 σ4 H4 E4 s4 f4 => ⟨μ4, τ4, S4, (E2.trans E3).trans E4, s4, f4, h2.shift (E3.trans E4)⟩
        | bk τ4 S4 =>
          simp only [eb] at h2
          exact fun μ4 σ4 H4 E4 s4 f4 => h2 μ4 σ4 H4 (E3.trans E4) s4 f4
        | rt t S4 =>
          simp only [eb] at h2
          exact fun μ4 v4 H4 E4 s4 f4 => h2 μ4 v4 H4 (E3.trans E4) s4 f4
        | exc x τ4 S4 =>
          simp only [eb] at h2
          exact fun μ4 v4 H4 E4 s4 f4 => h2 μ4 v4 H4 (E3.trans E4) s4 f4
  · have e : i = xs.length := by omega
    subst e
    rw [List.drop_length] at h2
    exact .inl ⟨stop _ (Nat.le_refl _), h2 μ2 σ2 H2 (Ext.refl _ _) s2 f2⟩
end
def startT (N : List Str) (ts : List T) : Fr := ts.map some ++ List.replicate (N.length - ts.length) none
def RS.fin : RS → Res T
  | .nx _ S => .ok .non S
  | .rt t S => .ok t S
  | .exc x _ S => .exc x S
  | _ => .stuck
def body (N : List Str) (n : Nat) (B : BS) : FF := fun ts S => if ts.length = n then (B (startT N ts) S).fin else .stuck
theorem relF_start {K : PySem.W.Frag} {H : Hp} {μ : Mu} {N : List Str} {ts : List T} {vs : List V} (r : Rels K H μ ts vs) : RelF K H μ (startT N ts) (L2.start N vs) := by
  have hl := r.length
  unfold startT L2.start
  refine ⟨by simp [hl], fun i t e => ?_⟩
  by_cases hi : i < ts.length
  · rw [List.getElem?_append_left (by simpa using hi), List.getElem?_map] at e
    cases e1 : ts[i]? with
    | none => rw [e1] at e; cases e
    | some u =>
      rw [e1] at e
      have e2 : u = t := by simpa using e
      subst e2
      obtain ⟨v, e3, r3⟩ := r.get e1
      exact ⟨v, by rw [List.getElem?_append_left (by simpa [← hl] using hi), List.getElem?_map, e3]; rfl, r3⟩
  · rw [List.getElem?_append_right (by simpa using hi)] at e
    have := (List.mem_of_getElem? e)
    simp at this
def wF : WT := fun _ _ _ _ _ _ => False
section
variable {P : Program} {w : World} {K : PySem.W.Frag} {mg : Str → Option Value} {base : Heap}
theorem df_mk {x qual : Str} {st : Stmt} {f : Addr} {fd : FuncData} {N ps : List Str} {k : Nat} {B : BS} (F : Fun K x qual st f fd) (sc : FnScope N ps (defScope st))
    (hB : ∀ (cdv : Value) (A : Around) (fs : List Env) (s : Shared) (H : Hp), Room k (A.deeper (envOfC qual (defScope st) s.heap.objs.size f cdv)) → A.guards = some [] → PFSs (cxOf CX0 P w K mg base N qual (defScope st) f cdv A fs s H E0).nox wF (defBody st) B) :
    Df P w K mg base (k + 1) f fd ps (body N ps.length B) := by
  obtain ⟨oc, od, kV, doc, pm, an, cdv, ct, osl, rfl, lk, hcd⟩ := F.ex
  refine ⟨fun ts S h => if_neg h, fun A fs s H given us vs Q r hgd e0 hb rv h => ?_⟩
  obtain ⟨μ, S, ts, st', rt, h⟩ := h
  unfold body at h
  by_cases hl : ts.length = ps.length
  rotate_left
  · rw [if_neg hl] at h; exact h.elim
  rw [if_pos hl] at h
  have lv : vs.length = ps.length := by rw [← rt.length]; exact hl
  have kx : K.In s.heap := e0.mod.kin.keeps fun b o q => (e0.bs b o q).1
  have nl : s.heap.NoLimit := e0.mod.nolimit.keeps fun b o q => (e0.bs b o q).1
  have seen : ∀ y ∈ ps.zip us, (defScope st).names.lookup y.1 = some .local ∨ ((defScope st).names.lookup y.1 = some .cell ∧ ((cellsFrom (s.heap.objs.size + 1) (defScope st).names []).lookup y.1).isSome = true) := by
    rintro ⟨n, v⟩ hy
    exact (sc.par n (List.of_mem_zip hy).1).imp id fun q => ⟨q, PySem.W.cellsFrom_some _ _ _ (.inl q)⟩
  refine codeAny_call_function r.depth (kx _ _ lk) rfl sc.co sc.gen rfl (PySem.W.codeRec_of kx hcd) (hb _ _ _ _ ?_)
  refine wpAny_newFunctionEnv_cells sc.kind seen fun env he s1 z => ?_
  subst he
  refine ⟨nl.keeps z.toInCall.keep, codeAny_func ?_⟩
  have I := inv_start (CX := CX0) (E := E0) sc r.hd e0 lv rv z
  have bd : PFSs (cxOf CX0 P w K mg base N qual (defScope st) f cdv A fs s H E0).nox wF (defBody st) B := hB cdv A fs s H (r.deeper _) hgd
  have asked : tS K wF B { nx := fun _ H' => Q .non H', rt := Q } (L2.start N vs) H := by
    refine ⟨μ, startT N ts, S, st', relF_start rt, ?_⟩
    cases e : B (startT N ts) S with
    | nx τ1 S1 =>
      simp only [e, RS.fin] at h
      exact fun μ' σ' H' E sr fr => h μ' .non H' E sr (by simp only [Rel])
    | rt t S1 =>
      simp only [e, RS.fin] at h
      exact h
    | exc x τ S1 =>
      simp only [e, RS.fin] at h
      exact fun μ' σ' H' E sr fr => h μ' H' E sr
    | _ => simp only [e, RS.fin] at h; exact h.elim
  refine wpAny_mono (bd.run [] s1 (L2.start N vs) H _ (I.wish _) asked) (fun fl s' hs => ?_) fun e s' hs => hs.elim
  match fl, hs with
  | .ret u, hs =>
    obtain ⟨v, σ', H', J, rv', q⟩ := hs
    exact ⟨v, H', J.os, J.bare, J.base, J.hok, rv', q⟩
  | .next, hs =>
    obtain ⟨σ', H', J, q⟩ := hs
    exact ⟨.non, H', J.os, J.bare, J.base, J.hok, rfl, q⟩
  | .brk, hs =>
    obtain ⟨_, _, _, q⟩ := hs
    exact q.elim
  | .cont, hs =>
    obtain ⟨_, _, _, q⟩ := hs
    exact q.elim
end
end TL
set_option Elab.async false
set_option linter.all false
set_option maxRecDepth 100000
namespace TL
open PySem PySem.Spec L2
open PyProof.Rows hiding St
mutual
/-- the trees stay where the heap keeps what they name, and they name nothing that is taken -/
theorem Rel.toN {K : PySem.W.Frag} {H H' : Hp} {μ μ' : Mu} (hc : ∀ (n : Nat) (a : Addr), μ.c[n]? = some a → μ'.c[n]? = some a) (hk : ∀ a o, H a = some o → μ.out a → NT o → H' a = some o ∧ μ'.out a) : ∀ (t : T) {v : V}, Rel K H μ t v → Rel K H' μ' t v
  | .non, _, h => by simpa only [Rel] using h
  | .bl _, _, h => by simpa only [Rel] using h
  | .int _, _, h => by simpa only [Rel] using h
  | .str _, _, h => by simpa only [Rel] using h
  | .val _, _, h => by simpa only [Rel] using h
  | .ref n, _, h => by
    simp only [Rel] at h ⊢
    obtain ⟨a, e, rfl⟩ := h
    exact ⟨a, hc n a e, rfl⟩
  | .tup ts, _, h => by
    simp only [Rel] at h ⊢
    obtain ⟨a, xs, rfl, o, r⟩ := h
    refine ⟨a, xs, rfl, o.imp (fun z => ?_) id, Rels.toN hc hk ts r⟩
    obtain ⟨z | ⟨o, z⟩, n⟩ := z
    · exact ⟨.inl (hk _ _ z n (by intro _ y; cases y)).1, (hk _ _ z n (by intro _ y; cases y)).2⟩
    · exact ⟨.inr ⟨o, (hk _ _ z n (by intro _ y; cases y)).1⟩, (hk _ _ z n (by intro _ y; cases y)).2⟩
  | .lst ts, _, h => by
    simp only [Rel] at h ⊢
    obtain ⟨a, xs, rfl, ⟨z, n⟩, r⟩ := h
    exact ⟨a, xs, rfl, hk _ _ z n (by intro _ y; cases y), Rels.toN hc hk ts r⟩
  | .sls ts, _, h => by
    simp only [Rel] at h ⊢
    obtain ⟨a, xs, rfl, o, r⟩ := h
    refine ⟨a, xs, rfl, o.imp (fun z => ?_) id, Rels.toN hc hk ts r⟩
    obtain ⟨z | ⟨o, z⟩, n⟩ := z
    · exact ⟨.inl (hk _ _ z n (by intro _ y; cases y)).1, (hk _ _ z n (by intro _ y; cases y)).2⟩
    · exact ⟨.inr ⟨o, (hk _ _ z n (by intro _ y; cases y)).1⟩, (hk _ _ z n (by intro _ y; cases y)).2⟩
  | .dct ks ts, _, h => by
    simp only [Rel] at h ⊢
    obtain ⟨a, kvs, rfl, ⟨z, n⟩, e, r⟩ := h
    exact ⟨a, kvs, rfl, hk _ _ z n (by intro _ y; cases y), e, Rels.toN hc hk ts r⟩
  | .fdc ks ts, _, h => by
    simp only [Rel] at h ⊢
    obtain ⟨a, kvs, rfl, ⟨z, n⟩, e, r⟩ := h
    refine ⟨a, kvs, rfl, ?_, e, Rels.toN hc hk ts r⟩
    rcases z with z | ⟨o, z⟩
    · exact ⟨.inl (hk _ _ z n (by intro _ y; cases y)).1, (hk _ _ z n (by intro _ y; cases y)).2⟩
    · exact ⟨.inr ⟨o, (hk _ _ z n (by intro _ y; cases y)).1⟩, (hk _ _ z n (by intro _ y; cases y)).2⟩
  | .clo f us ts, _, h => by
    simp only [Rel] at h ⊢
    exact ⟨h.1, hk _ _ h.2.1.1 h.2.1.2 (fun _ y => by unfold LamX.CodeO at y; cases y), Rels.toN hc hk ts h.2.2⟩
  | .err n fs ts, _, h => by
    simp only [Rel] at h ⊢
    obtain ⟨a, p, rfl, z, o, e, r⟩ := h
    exact ⟨a, p, rfl, hk _ _ z.1 z.2 (fun _ y => by unfold exh at y; cases y), o, e.to fun _ _ q => hk _ _ q.1 q.2 (by intro _ y; cases y), Rels.toN hc hk ts r⟩
  | .ktp ts, _, h => by
    simp only [Rel] at h ⊢
    obtain ⟨a, xs, rfl, ⟨ob, z, n, d⟩, r⟩ := h
    exact ⟨a, xs, rfl, ⟨ob, (hk _ _ z n (by intro _ y; cases y)).1, (hk _ _ z n (by intro _ y; cases y)).2, d⟩, Rels.toN hc hk ts r⟩
  | .etp ts, _, h => by
    simp only [Rel] at h ⊢
    obtain ⟨a, xs, rfl, ⟨z, n⟩, r⟩ := h
    exact ⟨a, xs, rfl, hk _ _ z n (by intro _ y; cases y), Rels.toN hc hk ts r⟩
  | .kdc ks ts, _, h => by
    simp only [Rel] at h ⊢
    obtain ⟨a, kvs, rfl, ⟨z, n⟩, e, r⟩ := h
    exact ⟨a, kvs, rfl, hk _ _ z n (by intro _ y; cases y), e, Rels.toN hc hk ts r⟩
theorem Rels.toN {K : PySem.W.Frag} {H H' : Hp} {μ μ' : Mu} (hc : ∀ (n : Nat) (a : Addr), μ.c[n]? = some a → μ'.c[n]? = some a) (hk : ∀ a o, H a = some o → μ.out a → NT o → H' a = some o ∧ μ'.out a) : ∀ (ts : List T) {vs : List V}, Rels K H μ ts vs → Rels K H' μ' ts vs
  | [], _, h => by simpa only [Rels] using h
  | t :: ts, _, h => by
    simp only [Rels] at h ⊢
    obtain ⟨v, r, rfl, h1, h2⟩ := h
    exact ⟨v, r, rfl, Rel.toN hc hk t h1, Rels.toN hc hk ts h2⟩
end
theorem Rel.to {K : PySem.W.Frag} {H H' : Hp} {μ μ' : Mu} (hc : ∀ (n : Nat) (a : Addr), μ.c[n]? = some a → μ'.c[n]? = some a) (hk : ∀ a o, H a = some o → μ.out a → H' a = some o ∧ μ'.out a) (t : T) {v : V} (h : Rel K H μ t v) : Rel K H' μ' t v := Rel.toN hc (fun a o e n _ => hk a o e n) t h
theorem Rels.to {K : PySem.W.Frag} {H H' : Hp} {μ μ' : Mu} (hc : ∀ (n : Nat) (a : Addr), μ.c[n]? = some a → μ'.c[n]? = some a) (hk : ∀ a o, H a = some o → μ.out a → H' a = some o ∧ μ'.out a) (ts : List T) {vs : List V} (h : Rels K H μ ts vs) : Rels K H' μ' ts vs := Rels.toN hc (fun a o e n _ => hk a o e n) ts h
section
variable {K : PySem.W.Frag} {H H' : Hp} {μ μ' : Mu} {S : Sto} {D : Addr} {o : HO}
theorem CellR.to {a : Addr} {c : T} (hc : ∀ (n : Nat) (a : Addr), μ.c[n]? = some a → μ'.c[n]? = some a) (hk : ∀ a o, H a = some o → μ.out a → H' a = some o ∧ μ'.out a) (ha : ∀ o, H a = some o → H' a = some o) (q : CellR K H μ a c) : CellR K H' μ' a c := by
  cases c <;> first
    | exact q.elim
    | (obtain ⟨vs, h, q⟩ := q; exact ⟨vs, ha _ h, Rels.to hc hk _ q⟩)
    | (obtain ⟨vs, h, e, q⟩ := q; exact ⟨vs, ha _ h, e, Rels.to hc hk _ q⟩)
theorem RelF.to {τ : Fr} {σ : L2.St} (hc : ∀ (n : Nat) (a : Addr), μ.c[n]? = some a → μ'.c[n]? = some a) (hk : ∀ a o, H a = some o → μ.out a → H' a = some o ∧ μ'.out a) (f : RelF K H μ τ σ) : RelF K H' μ' τ σ :=
  ⟨f.1, fun i t e => let ⟨v, a, b⟩ := f.2 i t e; ⟨v, a, Rel.to hc hk t b⟩⟩
theorem hide_keep (h : H D = none) : ∀ a u, H a = some u → μ.out a → upd H D o a = some u ∧ (μ.hide D).out a := fun a u e n =>
  ⟨by rw [upd_ne (ne_of_none e h)]; exact e, n.1, fun z => (List.mem_cons.mp z).elim (ne_of_none e h) n.2⟩
theorem RelS.hide (h : H D = none) (s : RelS K H μ S) : RelS K (upd H D o) (μ.hide D) S := by
  refine ⟨s.len, s.nd, fun n c a e1 e2 => CellR.to (μ := μ) (fun _ _ e => e) (hide_keep h) (q := s.cell n c a e1 e2) fun u e => by rw [upd_ne (ne_of_none e h)]; exact e, fun p hp => ?_, fun p hp => ?_, fun p hp => (s.tab p hp).to (hide_keep h)⟩
  · by_cases hp' : p = D
    · subst hp'; rw [upd_same]; simp
    · rw [upd_ne hp']; exact s.live p ((List.mem_cons.mp hp).elim (fun z => absurd z hp') id)
  · rcases List.mem_cons.mp hp with z | z
    · rw [z]; exact (s.free h).1
    · exact s.dis p z
theorem Ext.hide (h : H D = none) : Ext H μ (upd H D o) (μ.hide D) :=
  ⟨⟨[], by simp [Mu.hide], fun _ z => nomatch z⟩, ⟨fun p hp => List.mem_cons_of_mem _ hp, fun p hp => (List.mem_cons.mp hp).elim (fun z => .inr (by rw [z]; exact h)) .inl⟩, fun a u e _ _ => by rw [upd_ne (ne_of_none e h)]; exact e, fun a n => by
    by_cases z : a = D
    · subst z; rw [upd_same]; simp
    · rw [upd_ne z]; exact n, rfl⟩
theorem hid_keep (h : D ∈ μ.r) : ∀ a u, H a = some u → μ.out a → upd H D o a = some u ∧ μ.out a := fun a u e n => ⟨by rw [upd_ne (fun z : a = D => n.2 (by rw [z]; exact h))]; exact e, n⟩
theorem RelS.hid (h : D ∈ μ.r) (s : RelS K H μ S) : RelS K (upd H D o) μ S := by
  refine ⟨s.len, s.nd, fun n c a e1 e2 => CellR.to (μ := μ) (fun _ _ e => e) (hid_keep h) (q := s.cell n c a e1 e2) fun u e => ?_, fun p hp => ?_, s.dis, fun p hp => (s.tab p hp).to (hid_keep h)⟩
  · rw [upd_ne (fun z : a = D => s.dis D h (by rw [← z]; exact List.mem_of_getElem? e2))]; exact e
  · by_cases z : p = D
    · subst z; rw [upd_same]; simp
    · rw [upd_ne z]; exact s.live p hp
theorem Ext.hid {H0 : Hp} {μ0 : Mu} (h : H0 D = none) (x : Ext H0 μ0 H μ) : Ext H0 μ0 (upd H D o) μ :=
  ⟨x.pre, x.res, fun a u e n nt => by rw [upd_ne (ne_of_none e h)]; exact x.keep a u e n nt, fun a n => by
    by_cases z : a = D
    · subst z; rw [upd_same]; simp
    · rw [upd_ne z]; exact x.live a n, x.tt⟩
theorem unh_keep : ∀ a u, H a = some u → μ.out a → H a = some u ∧ (μ.unh D).out a := fun a u e n => ⟨e, n.1, fun z => n.2 ((List.mem_filter.mp z).1)⟩
theorem RelS.unh (s : RelS K H μ S) : RelS K H (μ.unh D) S :=
  ⟨s.len, s.nd, fun n c a e1 e2 => CellR.to (μ := μ) (fun _ _ e => e) unh_keep (q := s.cell n c a e1 e2) fun _ e => e, fun p hp => s.live p ((List.mem_filter.mp hp).1), fun p hp => s.dis p ((List.mem_filter.mp hp).1), fun p hp => (s.tab p hp).to unh_keep⟩
theorem Ext.unh {H0 : Hp} {μ0 : Mu} (h : H0 D = none) (s : RelS K H0 μ0 S) (x : Ext H0 μ0 H μ) : Ext H0 μ0 H (μ.unh D) :=
  ⟨x.pre, ⟨fun p hp => List.mem_filter.mpr ⟨x.res.1 p hp, by
    have : p ≠ D := fun z => s.live p hp (z ▸ h)
    simpa using this⟩, fun p hp => x.res.2 p ((List.mem_filter.mp hp).1)⟩, x.keep, x.live, x.tt⟩
theorem unh_not : D ∉ (μ.unh D).r := fun z => by
  have := (List.mem_filter.mp z).2
  simp at this
theorem more_keep (h : D ∈ μ.r) : ∀ a u, H a = some u → μ.out a → H a = some u ∧ ((μ.unh D).more D).out a := fun a u e n =>
  ⟨e, fun z => (List.mem_append.mp z).elim n.1 fun q => n.2 (by rw [List.mem_singleton.mp q]; exact h), fun z => n.2 ((List.mem_filter.mp z).1)⟩
theorem more_get (n : Nat) (a : Addr) (e : μ.c[n]? = some a) : ((μ.unh D).more D).c[n]? = some a := (List.getElem?_append_left (List.getElem?_eq_some_iff.mp e).1).trans e
theorem RelS.more {c : T} (h : D ∈ μ.r) (s : RelS K H μ S) (q : CellR K H μ D c) : RelS K H ((μ.unh D).more D) (S ++ [c]) := by
  have dn : D ∉ μ.c := s.dis D h
  have hl : μ.c.length = S.length := s.len
  refine ⟨?_, ?_, fun n c' a e1 e2 => ?_, fun p hp => s.live p ((List.mem_filter.mp hp).1), fun p hp z => ?_, fun p hp => (s.tab p hp).to (more_keep h)⟩
  · show (μ.c ++ [D]).length = _
    rw [List.length_append, List.length_append, hl]; rfl
  · show (μ.c ++ [D]).Nodup
    rw [List.nodup_append]
    exact ⟨s.nd, by simp, fun a ha b hb => by rw [List.mem_singleton.mp hb]; exact fun z => dn (z ▸ ha)⟩
  · have e2' : (μ.c ++ [D])[n]? = some a := e2
    by_cases hn : n < S.length
    · rw [List.getElem?_append_left hn] at e1
      rw [List.getElem?_append_left (by omega)] at e2'
      exact (s.cell n c' a e1 e2').to more_get (more_keep h) fun _ e => e
    · rw [List.getElem?_append_right (by omega)] at e1
      rw [List.getElem?_append_right (by omega)] at e2'
      have h0 : n - S.length = 0 := by
        have := (List.getElem?_eq_some_iff.mp e1).1
        simp at this
        omega
      rw [h0] at e1
      rw [show n - μ.c.length = 0 by omega] at e2'
      simp at e1 e2'
      subst e1 e2'
      exact q.to more_get (more_keep h) fun _ e => e
  · rcases List.mem_append.mp z with z | z
    · exact s.dis p ((List.mem_filter.mp hp).1) z
    · rw [List.mem_singleton.mp z] at hp
      exact unh_not hp
end
def postN (K : PySem.W.Frag) (wx : XW) (μ : Mu) (H : Hp) (r : Res T) (Q : VK) : Prop := match r with
  | .ok c S' => ∀ μ' H' D, Ext H μ H' μ' → H D = none → D ∈ μ'.r → RelS K H' μ' S' → CellR K H' μ' D c → Q (.ref D) H'
  | .exc x S' => ∀ μ' H', Ext H μ H' μ' → RelS K H' μ' S' → wx x μ' S' H'
  | .stuck => False
def tN (K : PySem.W.Frag) (wx : WT) (F : FE) : TE := fun σ H Q => ∃ μ τ S, RelS K H μ S ∧ RelF K H μ τ σ ∧ postN K (wx.fr τ σ) μ H (F τ S) Q
def PFN (X : Cx) (wx : WT) (e : Expr) (F : FE) : Prop := PE X e (tN X.K wx F)
def isCell : T → Bool
  | .lst _ => true
  | .dct _ _ => true
  | .kdc _ _ => true
  | _ => false
def fPure (F : FE) : FE := fun τ S => (F τ S).bind fun c S1 => if isCell c then .ok c S1 else .stuck
def fCell (F : FE) : FE := fun τ S => (F τ S).bind fun c S1 => if isCell c then .ok (.ref S1.length) (S1 ++ [c]) else .stuck
section
variable {X : Cx} {wx : WT} {e : Expr} {F : FE}
theorem pure_imp {K : PySem.W.Frag} {σ : L2.St} {H : Hp} {Q : VK} (q : tG K wx (rV K) (fPure F) σ H Q) : tN K wx F σ H Q := by
  obtain ⟨μ, τ, S, s, f, q⟩ := q
  refine ⟨μ, τ, S, s, f, ?_⟩
  unfold fPure at q
  cases e : F τ S with
  | stuck => rw [e] at q; exact q
  | exc x S1 => rw [e] at q; exact q
  | ok c S1 =>
    rw [e] at q
    intro μ' H' D E hn hD st cr
    have dn : D ∉ μ'.c := st.dis D hD
    have E' := E.unh hn s
    cases c with
    | lst ts =>
      obtain ⟨vs, h, r⟩ := cr
      exact q _ _ H' E' st.unh (by simp only [Rel]; exact ⟨D, vs, rfl, ⟨h, dn, unh_not⟩, Rels.to (μ := μ') (μ' := μ'.unh D) (fun _ _ e => e) unh_keep _ r⟩)
    | dct ks ts =>
      obtain ⟨vs, h, ek, r⟩ := cr
      exact q _ _ H' E' st.unh (by simp only [Rel]; exact ⟨D, vs, rfl, ⟨h, dn, unh_not⟩, ek, Rels.to (μ := μ') (μ' := μ'.unh D) (fun _ _ e => e) unh_keep _ r⟩)
    | kdc ks ts =>
      obtain ⟨vs, h, ek, r⟩ := cr
      exact q _ _ H' E' st.unh (by simp only [Rel]; exact ⟨D, vs, rfl, ⟨h, dn, unh_not⟩, ek, Rels.to (μ := μ') (μ' := μ'.unh D) (fun _ _ e => e) unh_keep _ r⟩)
    | _ => exact q.elim
theorem pf_pure (h : PFN X wx e F) : PF X wx e (fPure F) := PE.imp h fun _ _ _ q => pure_imp q
theorem cell_imp {K : PySem.W.Frag} {σ : L2.St} {H : Hp} {Q : VK} (q : tG K wx (rV K) (fCell F) σ H Q) : tN K wx F σ H Q := by
  obtain ⟨μ, τ, S, s, f, q⟩ := q
  refine ⟨μ, τ, S, s, f, ?_⟩
  unfold fCell at q
  cases e : F τ S with
  | stuck => rw [e] at q; exact q
  | exc x S1 => rw [e] at q; exact q
  | ok c S1 =>
    rw [e] at q
    intro μ' H' D E hn hD st cr
    have fin : isCell c = true → Q (.ref D) H' := fun hc => by
      simp only [Res.bind, hc, if_true] at q
      have E1 := E.unh hn s
      obtain ⟨ν, eν, hν⟩ := E1.pre
      have E2 : Ext H μ H' ((μ'.unh D).more D) := ⟨⟨ν ++ [D], by show (μ'.unh D).c ++ [D] = _; rw [eν, List.append_assoc], fun p hp => (List.mem_append.mp hp).elim (hν p) fun z => by rw [List.mem_singleton.mp z]; exact hn⟩, E1.res, E1.keep, E1.live, E1.tt⟩
      refine q _ _ H' E2 (st.more hD cr) ?_
      simp only [Rel]
      refine ⟨D, ?_, rfl⟩
      show (μ'.c ++ [D])[S1.length]? = some D
      rw [List.getElem?_append_right (by rw [show μ'.c.length = S1.length from st.len]; exact Nat.le_refl _), show μ'.c.length = S1.length from st.len]
      simp
    cases c <;> first | exact fin rfl | exact cr.elim
theorem pf_cell (h : PFN X wx e F) : PF X wx e (fCell F) := PE.imp h fun _ _ _ q => cell_imp q
end
section
variable {X : Cx} {wx : WT} {pos : Pos} {es : List Expr} {Fs : FA}
theorem Ext.back {H H' : Hp} {μ μ' : Mu} (E : Ext H μ H' μ') {p : Addr} (h : H' p = none) : H p = none := by
  cases z : H p with
  | none => rfl
  | some u => exact absurd h (E.live p (by rw [z]; simp))
theorem new_at {K : PySem.W.Frag} {wx : XW} {μ μ0 : Mu} {H0 H : Hp} {c : T} {S : Sto} {Q : VK} {p : Addr} {o : HO} (E : Ext H0 μ0 H μ) (q : postN K wx μ0 H0 (.ok c S) Q) (s : RelS K H μ S) (hp : H p = none) (hc : CellR K (upd H p o) (μ.hide p) p c) : Q (.ref p) (upd H p o) :=
  q (μ.hide p) (upd H p o) p (E.trans (Ext.hide hp)) (E.back hp) List.mem_cons_self (s.hide hp) hc
theorem rels_new {K : PySem.W.Frag} {μ : Mu} {H : Hp} {p : Addr} {o : HO} {ts : List T} {vs : List V} (hp : H p = none) (r : Rels K H μ ts vs) : Rels K (upd H p o) (μ.hide p) ts vs := Rels.to (μ := μ) (μ' := μ.hide p) (fun _ _ e => e) (hide_keep hp) ts r
def fLstN (Fs : FA) : FE := fun τ S => (Fs τ S).bind fun ts S1 => if ts.length ≤ sizeLine then .ok (.lst ts) S1 else .stuck
theorem tG.seqN {α β : Type} {K : PySem.W.Frag} {wx : WT} {rel : RL α β} {F : Fr → Sto → Res α} {k : α → Sto → Res T} {μ : Mu} {H : Hp} {τ : Fr} {σ : L2.St} {S : Sto} {Q : VK} {R : β → Hp → Prop}
    (s : RelS K H μ S) (f : RelF K H μ τ σ) (h : postN K (wx.fr τ σ) μ H ((F τ S).bind k) Q)
    (hR : ∀ μ1 H1 t v S1, At K μ H τ σ rel μ1 H1 t v S1 → postN K (wx.fr τ σ) μ H (k t S1) Q → R v H1) : tG K wx rel F σ H R := by
  refine ⟨μ, τ, S, s, f, ?_⟩
  cases e : F τ S with
  | stuck => rw [e] at h; exact h
  | exc x S1 => rw [e] at h; exact h
  | ok t S1 =>
    rw [e] at h
    exact fun μ1 v H1 x st r => hR μ1 H1 t v S1 ⟨x, st, f.mono x, r⟩ h
theorem pfn_lst (h : PFA X wx es Fs) : PFN X wx (.List es pos) (fLstN Fs) := PE.imp (pe_lst h) fun σ H Q h => by
  obtain ⟨μ, τ, S, s, f, h⟩ := h
  refine tG.seqN s f h fun μ1 H1 x v S1 A1 h1 => ?_
  have r : Rels X.K H1 μ1 x v := A1.rel
  by_cases hl : x.length ≤ sizeLine
  · rw [if_pos hl] at h1
    exact ⟨by rw [← Rels.length r]; exact hl, fun p hp => new_at A1.ext h1 A1.st hp ⟨v, upd_same, rels_new hp r⟩⟩
  · rw [if_neg hl] at h1; exact h1.elim
end
def wipeT (τ : Fr) : List Nat → Fr
  | [] => τ
  | v :: vs => (wipeT τ vs).set v none
theorem relF_none {K : PySem.W.Frag} {H : Hp} {μ : Mu} {τ : Fr} {σ : L2.St} (f : RelF K H μ τ σ) (i : Nat) : RelF K H μ (τ.set i none) (σ.set i none) := by
  refine ⟨by simp [f.1], fun j t e => ?_⟩
  by_cases hj : i = j
  · subst hj
    by_cases hl : i < τ.length
    · rw [List.getElem?_set_self hl] at e; cases e
    · rw [List.getElem?_eq_none (by rw [List.length_set]; omega)] at e; cases e
  · rw [List.getElem?_set_ne hj] at e ⊢
    exact f.2 j t e
theorem relF_wipe {K : PySem.W.Frag} {H : Hp} {μ : Mu} {τ : Fr} {σ : L2.St} (f : RelF K H μ τ σ) : ∀ vs : List Nat, RelF K H μ (wipeT τ vs) (wipe σ vs)
  | [] => f
  | v :: vs => relF_none (relF_wipe f vs) v
theorem wipe_get (σ : L2.St) (i : Nat) : ∀ vs : List Nat, (wipe σ vs)[i]? = if i ∈ vs ∧ i < σ.length then some none else σ[i]?
  | [] => by simp [wipe]
  | v :: vs => by
    have ih := wipe_get σ i vs
    simp only [wipe]
    by_cases hv : v = i
    · subst hv
      by_cases hl : v < σ.length
      · rw [List.getElem?_set_self (by rw [wipe_length]; exact hl), if_pos ⟨List.mem_cons_self, hl⟩]
      · rw [List.getElem?_eq_none (by rw [List.length_set, wipe_length]; omega), if_neg (fun z => hl z.2), List.getElem?_eq_none (by omega)]
    · rw [List.getElem?_set_ne hv, ih]
      have : (i ∈ v :: vs) ↔ i ∈ vs := ⟨fun z => (List.mem_cons.mp z).elim (fun q => absurd q.symm hv) id, List.mem_cons_of_mem _⟩
      simp only [this]
theorem setsV_get (i : Nat) : ∀ (l : List (Nat × V)) (σ : L2.St), i ∉ l.map (·.1) → (setsV σ l)[i]? = σ[i]?
  | [], _, _ => rfl
  | p :: l, σ, h => by
    simp only [List.map_cons, List.mem_cons, not_or] at h
    have := setsV_get i l (σ.set p.1 (some p.2)) h.2
    show (setsV (σ.set p.1 (some p.2)) l)[i]? = _
    rw [this, List.getElem?_set_ne (fun z => h.1 z.symm)]
theorem setsV_length : ∀ (l : List (Nat × V)) (σ : L2.St), (setsV σ l).length = σ.length
  | [], _ => rfl
  | p :: l, σ => by
    show (setsV (σ.set p.1 (some p.2)) l).length = _
    rw [setsV_length l, List.length_set]
theorem wipe_back {σ : L2.St} {vs : List Nat} {l : List (Nat × V)} (h : ∀ i ∈ l.map (·.1), i ∈ vs) : wipe (setsV (wipe σ vs) l) vs = wipe σ vs := by
  apply List.ext_getElem?
  intro i
  rw [wipe_get, setsV_length, wipe_length]
  by_cases hi : i ∈ vs ∧ i < σ.length
  · rw [if_pos hi, wipe_get, if_pos hi]
  · rw [if_neg hi]
    by_cases hv : i ∈ l.map (·.1)
    · have h1 := h i hv
      have h2 : ¬ i < σ.length := fun z => hi ⟨h1, z⟩
      rw [List.getElem?_eq_none (by rw [setsV_length, wipe_length]; omega), List.getElem?_eq_none (by rw [wipe_length]; omega)]
    · rw [setsV_get i l _ hv]
def slotsIn (l : Asg) (vs : List Nat) : Bool := l.all fun p => vs.contains p.1
theorem slotsIn_mem {K : PySem.W.Frag} {H : Hp} {μ : Mu} {l : Asg} {l' : List (Nat × V)} {vs : List Nat} (h : slotsIn l vs = true) (r : AsgR K H μ l l') : ∀ j ∈ l'.map (·.1), j ∈ vs := fun j hj => by
  rw [AsgR.slots r] at hj
  obtain ⟨p, hp, rfl⟩ := List.mem_map.mp hj
  have := List.all_eq_true.mp h p hp
  simpa using this
def lcF (g : GT) (Ft : FT) (Fe : FE) (vs : List Nat) (τ : Fr) : List T → Sto → Res (List T)
  | [], S => .ok [] S
  | x :: xs, S => match g x with
    | none => .stuck
    | some l => if slotsIn l vs then (Ft (setsT τ l) S).nox.bind fun k S1 => match k with
        | true => (Fe (setsT τ l) S1).nox.bind fun y S2 => (lcF g Ft Fe vs τ xs S2).bind fun ys S3 => .ok (y :: ys) S3
        | false => lcF g Ft Fe vs τ xs S1
      else .stuck
def fLc (Fi : FI) (g : GT) (Ft : FT) (Fe : FE) (vs : List Nat) : FE := fun τ S => (Fi τ S).bind fun xs S1 => if xs.length ≤ sizeLine then (lcF g Ft Fe vs (wipeT τ vs) xs S1).bind fun ys S2 => .ok (.lst ys) S2 else .stuck
def fYes : FT := fun _ S => .ok true S
def PFTs (X : Cx) (wx : WT) (ifs : List Expr) (F : FT) : Prop := PTs X ifs (tG X.K wx rB F)
theorem tG.known {α β : Type} {K : PySem.W.Frag} {wx : WT} {rel : RL α β} {F : Fr → Sto → Res α} {μ : Mu} {H : Hp} {τ : Fr} {σ : L2.St} {S S1 : Sto} {t : α} {R : β → Hp → Prop} (s : RelS K H μ S) (f : RelF K H μ τ σ) (e : F τ S = .ok t S1)
    (hR : ∀ μ1 H1 v, At K μ H τ σ rel μ1 H1 t v S1 → R v H1) : tG K wx rel F σ H R := by
  refine ⟨μ, τ, S, s, f, ?_⟩
  rw [e]
  exact fun μ1 v H1 x st r => hR μ1 H1 v ⟨x, st, f.mono x, r⟩
section
variable {X : Cx} {wx : WT} {pos : Pos}
theorem pfts_nil : PFTs X wx [] fYes := ⟨fun pins s σ H Q I h => pts_nil.run pins s σ H Q I (by
  obtain ⟨μ, τ, S, st, f, q⟩ := h
  exact q.here st rfl)⟩
theorem pfts_one {c : Expr} {F : FT} (h : PFT X wx c F) : PFTs X wx [c] F := pts_one h
theorem lc_imp {Fi : FI} {g : GT} {Ft : FT} {Fe : FE} {vs : List Nat} {σ : L2.St} {H : Hp} {Q : VK} (h : tN X.K wx (fLc Fi g Ft Fe vs) σ H Q) : tLc (wiT X.K wx Fi) (gT X.K g) (tG X.K wF rB Ft) (tG X.K wF (rV X.K) Fe) vs σ H Q := by
  obtain ⟨μ, τ, S, s, f, h⟩ := h
  refine tG.seqN s f h fun μ1 H1 xs J S1 A1 h1 => ?_
  by_cases hl : xs.length ≤ sizeLine
  · rw [if_pos hl] at h1
    intro D hD
    have hD0 : H D = none := A1.ext.back hD
    -- what is kept: the list so far stands at D, which no tree names
    refine ⟨fun i m H2 => ∃ M S2 acc accT, Ext H1 μ1 H2 M ∧ D ∈ M.r ∧ RelS X.K H2 M S2 ∧ RelF X.K H2 M τ σ ∧ H2 D = some (.lst acc) ∧ Rels X.K H2 M accT acc ∧ acc.length ≤ i ∧ i ≤ xs.length ∧ m = xs.length - i ∧
        postN X.K (wx.fr τ σ) μ H ((lcF g Ft Fe vs (wipeT τ vs) (xs.drop i) S2).bind fun ys S3 => .ok (.lst (accT ++ ys)) S3) Q,
      ⟨xs.length, μ1.hide D, S1, [], [], Ext.hide hD, List.mem_cons_self, A1.st.hide hD, RelF.to (μ := μ1) (fun _ _ e => e) (hide_keep hD) A1.fr, upd_same, by simp only [Rels], Nat.zero_le _, Nat.zero_le _, rfl, by simpa using h1⟩, fun i m H2 hW => ?_⟩
    obtain ⟨M, S2, acc, accT, E2, nr2, s2, f2, d2, a2, hai, hix, rfl, h2⟩ := hW
    obtain ⟨go, stop⟩ := A1.rel M H2 E2
    by_cases hlt : i < xs.length
    · rw [drop_cons hlt] at h2
      obtain ⟨hgo, hy⟩ := go i xs[i] (List.getElem?_eq_getElem hlt)
      refine .inr ⟨hgo, fun H' => ∃ M S2 acc accT, Ext H1 μ1 H' M ∧ D ∈ M.r ∧ RelS X.K H' M S2 ∧ RelF X.K H' M τ σ ∧ H' D = some (.lst acc) ∧ Rels X.K H' M accT acc ∧ acc.length ≤ i + 1 ∧
        postN X.K (wx.fr τ σ) μ H ((lcF g Ft Fe vs (wipeT τ vs) (xs.drop (i + 1)) S2).bind fun ys S3 => .ok (.lst (accT ++ ys)) S3) Q, fun H' hN' => ?_, fun v H3 yl => ?_⟩
      · obtain ⟨M3, S3, acc3, accT3, q1, q2, q3, q4, q5, q6, q7, q8⟩ := hN'
        exact ⟨xs.length - (i + 1), by omega, M3, S3, acc3, accT3, q1, q2, q3, q4, q5, q6, q7, hlt, rfl, q8⟩
      · -- a turn
        obtain ⟨sm, hr⟩ := hy v H3 yl
        have E3 : Ext H2 M H3 M := Ext.of_same sm
        have s3 := s2.same sm
        have f3 := f2.mono E3
        simp only [lcF] at h2
        cases eg : g xs[i] with
        | none => simp only [eg] at h2; exact h2.elim
        | some l =>
          simp only [eg] at h2
          by_cases ha : slotsIn l vs = true
          · rw [if_pos ha] at h2
            refine ⟨M, xs[i], l, hr S2 s2, eg, fun l' fl => ⟨wipe_back (slotsIn_mem ha fl), ?_⟩⟩
            have fb : RelF X.K H3 M (setsT (wipeT τ vs) l) (setsV (wipe σ vs) l') := RelF.sets fl (relF_wipe f3 vs)
            cases et : Ft (setsT (wipeT τ vs) l) S2 with
            | stuck => rw [et] at h2; exact h2.elim
            | exc x S4 => rw [et] at h2; exact h2.elim
            | ok k S4 =>
              rw [et] at h2
              simp only [Res.nox, Res.bind] at h2
              refine tG.known s3 fb et fun M4 H4 b A4 => ?_
              have e : k = b := A4.rel
              subst e
              have E4 : Ext H2 M H4 M4 := E3.trans A4.ext
              cases k with
              | false =>
                simp only at h2
                refine iteF ⟨M4, S4, acc, accT, E2.trans E4, A4.ext.res.1 D nr2, A4.st, f2.mono E4, ?_, Rels.mono E4 _ a2, by omega, h2⟩
                exact E4.kp D _ d2 (s2.dis D nr2)
              | true =>
                simp only at h2
                refine iteT ?_
                cases ee : Fe (setsT (wipeT τ vs) l) S4 with
                | stuck => rw [ee] at h2; exact h2.elim
                | exc x S5 => rw [ee] at h2; exact h2.elim
                | ok y S5 =>
                  rw [ee] at h2
                  simp only at h2
                  refine tG.known A4.st A4.fr ee fun M5 H5 w A5 => ?_
                  have E5 : Ext H2 M H5 M5 := E4.trans A5.ext
                  have nr5 : D ∈ M5.r := A5.ext.res.1 D (A4.ext.res.1 D nr2)
                  have d5 : H5 D = some (.lst acc) := E5.kp D _ d2 (s2.dis D nr2)
                  refine ⟨acc, d5, by omega, M5, S5, acc ++ [w], accT ++ [y], (E2.trans E5).hid hD, nr5, A5.st.hid nr5, RelF.to (μ := M5) (fun _ _ e => e) (hid_keep nr5) (f2.mono E5), upd_same, ?_, by simp; omega, ?_⟩
                  · refine Rels.to (μ := M5) (fun _ _ e => e) (hid_keep nr5) _ (Rels.append (Rels.mono E5 _ a2) ?_)
                    simp only [Rels]
                    exact ⟨w, [], rfl, A5.rel, rfl⟩
                  · cases er : lcF g Ft Fe vs (wipeT τ vs) (xs.drop (i + 1)) S5 with
                    | stuck => rw [er] at h2; exact h2.elim
                    | exc x S6 => rw [er] at h2; exact h2
                    | ok ys S6 =>
                      rw [er] at h2
                      simp only [Res.bind] at h2 ⊢
                      rw [List.append_assoc]
                      exact h2
          · rw [if_neg ha] at h2; exact h2.elim
    · have e : i = xs.length := by omega
      subst e
      rw [List.drop_length] at h2
      refine .inl ⟨stop _ (Nat.le_refl _), ?_⟩
      simp only [lcF, Res.bind, List.append_nil] at h2
      exact h2 M H2 D (A1.ext.trans E2) hD0 nr2 s2 ⟨acc, d2, a2⟩
  · rw [if_neg hl] at h1; exact h1.elim
theorem pfn_lc {elt tg iter : Expr} {ifs : List Expr} {scope : Scope} {own : List (Str × Nat)} {Fi : FI} {g : GT} {Ft : FT} {Fe : FE} (hc : X.calm = true) (hN : X.N.Nodup) (hi : PFI X wx tg iter Fi) (ok : BlkOk X.N X.env.scope scope own)
    (hg : ∀ (s : Shared) (H : Hp) (C : Addr) (cl : List (Str × Addr)) (fp : List Addr), PFG (X.blk s H scope (compEnvC scope cl C X.env) fp) tg g) (ht : ∀ (s : Shared) (H : Hp) (C : Addr) (cl : List (Str × Addr)) (fp : List Addr), PFTs (X.blk s H scope (compEnvC scope cl C X.env) fp) wF ifs Ft)
    (he : ∀ (s : Shared) (H : Hp) (C : Addr) (cl : List (Str × Addr)) (fp : List Addr), PF (X.blk s H scope (compEnvC scope cl C X.env) fp) wF elt Fe) (hs : ∀ x, foldedSetIterable iter X.env x = pure x := by intro _; rfl) :
    PFN X wx (.ListComp elt [⟨tg, iter, ifs, 0⟩] scope pos) (fLc Fi g Ft Fe (own.map (·.2))) := PE.imp (pe_lc (g := gT X.K g) (tt := tG X.K wF rB Ft) (te := tG X.K wF (rV X.K) Fe) hc hN hi ok hg ht he hs) fun _ _ _ h => lc_imp h
theorem set_imp {K : PySem.W.Frag} {i : Nat} {G : FE} {D : Ends} {σ : L2.St} {H : Hp} (h : tS K wx (bSet i G) D σ H) : tG K wx (rV K) G σ H (fun x H1 => D.nx (σ.set i (some x)) H1) := by
  obtain ⟨μ, τ, S, s, f, h⟩ := h
  exact tG.seqS s f h fun μ1 H1 t v S1 A1 h1 => h1 μ1 _ H1 (Ext.refl _ _) A1.st (A1.fr.set A1.rel)
section
variable {elt tg iter : Expr} {ifs : List Expr} {scope : Scope} {own : List (Str × Nat)} {Fi : FI} {g : GT} {Ft : FT} {Fe : FE} {i : Nat} {y : Str} {py spos : Pos} (hc : X.calm = true) (hN : X.N.Nodup) (hy : X.N[i]? = some y) (hyl : X.env.scope.names.lookup y = some .local)
  (hsw : swapsWith (.ListComp elt [⟨tg, iter, ifs, 0⟩] scope pos) (some (.Name y py)) spos.line X.env = pure true) (hi : PFI X wx tg iter Fi) (ok : BlkOk X.N X.env.scope scope own)
  (hg : ∀ (s : Shared) (H : Hp) (C : Addr) (cl : List (Str × Addr)) (fp : List Addr), PFG (X.blk s H scope (compEnvC scope cl C X.env) fp) tg g) (ht : ∀ (s : Shared) (H : Hp) (C : Addr) (cl : List (Str × Addr)) (fp : List Addr), PFTs (X.blk s H scope (compEnvC scope cl C X.env) fp) wF ifs Ft)
  (he : ∀ (s : Shared) (H : Hp) (C : Addr) (cl : List (Str × Addr)) (fp : List Addr), PF (X.blk s H scope (compEnvC scope cl C X.env) fp) wF elt Fe) (hs : ∀ x, foldedSetIterable iter X.env x = pure x := by intro _; rfl)
include hc hN hy hyl hsw hi ok hg ht he hs
theorem pfs_setLc : PFS X wx (.Assign [.Name y py] (.ListComp elt [⟨tg, iter, ifs, 0⟩] scope pos) spos) (bSet i (fPure (fLc Fi g Ft Fe (own.map (·.2))))) :=
  PS.imp (ps_setLc (g := gT X.K g) (tt := tG X.K wF rB Ft) (te := tG X.K wF (rV X.K) Fe) hc hN hy hyl hsw hi ok hg ht he hs) fun D σ H h => by
    have h1 := pure_imp (set_imp h)
    exact lc_imp h1
end
end
end TL
set_option Elab.async false
set_option linter.all false
set_option maxRecDepth 100000
namespace TL
open PySem PySem.Spec L2
open PyProof.Rows hiding St
mutual
def toD : T → Option PyData
  | .non => some .none
  | .bl b => some (.bool b)
  | .int i => some (.int i)
  | .str x => some (.str x)
  | .tup ts => (toDs ts).map .tuple
  | .lst ts => (toDs ts).map .list
  | .sls ts => (toDs ts).map .list
  | .dct _ _ => none
  | .ref _ => none
  | .val _ => none
  | .ktp ts => (toDs ts).map .tuple
  | .etp ts => (toDs ts).map .tuple
  | .kdc _ _ => none
  | .fdc _ _ => none
  | .err _ _ _ => none
  | .clo _ _ _ => none
def toDs : List T → Option (List PyData)
  | [] => some []
  | t :: ts => (toD t).bind fun d => (toDs ts).bind fun ds => some (d :: ds)
end
mutual
theorem toD_ok {K : PySem.W.Frag} {H : Hp} {μ : Mu} : ∀ (t : T) {v : V} {d : PyData}, toD t = some d → Rel K H μ t v → Dp K H v d
  | .non, _, _, e, r => by simp only [toD] at e; cases e; simp only [Rel] at r; subst r; exact .non
  | .bl _, _, _, e, r => by simp only [toD] at e; cases e; simp only [Rel] at r; subst r; exact .bl _
  | .int _, _, _, e, r => by simp only [toD] at e; cases e; simp only [Rel] at r; subst r; exact .int _
  | .str _, _, _, e, r => by simp only [toD] at e; cases e; simp only [Rel] at r; subst r; exact .str _
  | .tup ts, _, _, e, r => by
    simp only [toD, Option.map_eq_some_iff] at e
    obtain ⟨ds, e, rfl⟩ := e
    simp only [Rel] at r
    obtain ⟨a, xs, rfl, o, r⟩ := r
    exact .tup (o.imp (fun z => z.1) id) (toDs_ok ts e r)
  | .lst ts, _, _, e, r => by
    simp only [toD, Option.map_eq_some_iff] at e
    obtain ⟨ds, e, rfl⟩ := e
    simp only [Rel] at r
    obtain ⟨a, xs, rfl, o, r⟩ := r
    exact .lst (.inl (.inl o.1)) (toDs_ok ts e r)
  | .sls ts, _, _, e, r => by
    simp only [toD, Option.map_eq_some_iff] at e
    obtain ⟨ds, e, rfl⟩ := e
    simp only [Rel] at r
    obtain ⟨a, xs, rfl, o, r⟩ := r
    exact .lst (o.imp (fun z => z.1) id) (toDs_ok ts e r)
  | .dct _ _, _, _, e, _ => by simp only [toD] at e; cases e
  | .ref _, _, _, e, _ => by simp only [toD] at e; cases e
  | .val _, _, _, e, _ => by simp only [toD] at e; cases e
  | .ktp ts, _, _, e, r => by
    simp only [toD, Option.map_eq_some_iff] at e
    obtain ⟨ds, e, rfl⟩ := e
    simp only [Rel] at r
    obtain ⟨a, xs, rfl, ⟨ob, h, _⟩, r⟩ := r
    exact .tup (.inl (.inr ⟨ob, h⟩)) (toDs_ok ts e r)
  | .etp ts, _, _, e, r => by
    simp only [toD, Option.map_eq_some_iff] at e
    obtain ⟨ds, e, rfl⟩ := e
    simp only [Rel] at r
    obtain ⟨a, xs, rfl, o, r⟩ := r
    exact .tup (.inl (.inl o.1)) (toDs_ok ts e r)
  | .kdc _ _, _, _, e, _ => by simp only [toD] at e; cases e
  | .fdc _ _, _, _, e, _ => by simp only [toD] at e; cases e
  | .err _ _ _, _, _, e, _ => by simp only [toD] at e; cases e
  | .clo _ _ _, _, _, e, _ => by simp only [toD] at e; cases e
theorem toDs_ok {K : PySem.W.Frag} {H : Hp} {μ : Mu} : ∀ (ts : List T) {vs : List V} {ds : List PyData}, toDs ts = some ds → Rels K H μ ts vs → DpAll K H vs ds
  | [], _, _, e, r => by simp only [toDs] at e; cases e; simp only [Rels] at r; subst r; exact .nil
  | t :: ts, _, _, e, r => by
    simp only [toDs, Option.bind_eq_some_iff] at e
    obtain ⟨d, e1, ds, e2, e⟩ := e
    cases e
    simp only [Rels] at r
    obtain ⟨v, r', rfl, r1, r2⟩ := r
    exact .cons (toD_ok t e1 r1) (toDs_ok ts e2 r2)
end
def toD1 (S : Sto) (t : T) : Option PyData := match t with
  | .ref n => match S[n]? with
    | some (.lst ts) => (toDs ts).map .list
    | _ => none
  | t => toD t
theorem toD1_ok {K : PySem.W.Frag} {H : Hp} {μ : Mu} {S : Sto} {t : T} {v : V} {d : PyData} (e : toD1 S t = some d) (s : RelS K H μ S) (r : Rel K H μ t v) : Dp K H v d := by
  cases t with
  | ref n =>
    simp only [toD1] at e
    split at e
    · rename_i ts e1
      simp only [Option.map_eq_some_iff] at e
      obtain ⟨ds, e, rfl⟩ := e
      obtain ⟨a, vs, rfl, h, q⟩ := plnL_ok (t := .ref n) (ts := ts) (by simp only [plnL, e1]) s r
      exact .lst (.inl (.inl h)) (toDs_ok ts e q)
    · cases e
  | _ => exact toD_ok _ e r
def getK : List Key → List T → Key → Option T
  | k' :: ks, t :: ts, k => if k' = k then some t else getK ks ts k
  | _, _, _ => none
def putK' (ks : List Key) (ts : List T) (k : Key) (t : T) : List Key × List T :=
  if ks.any (fun k' => decide (k' = k)) then (ks, List.zipWith (fun k' u => if k' = k then t else u) ks ts) else (ks ++ [k], ts ++ [t])
def keyT : T → Option Key
  | .int i => some (.inl i)
  | .str x => some (.inr x)
  | _ => none
def tKey : Key → T
  | .inl i => .int i
  | .inr x => .str x
section
variable {K : PySem.W.Frag} {H : Hp} {μ : Mu} {S : Sto}
theorem keyT_ok {t : T} {k : Key} {v : V} (e : keyT t = some k) (r : Rel K H μ t v) : v = kV k := by
  cases t <;> first
    | (simp only [keyT] at e; cases e; simp only [Rel] at r; subst r; rfl)
    | (simp only [keyT] at e; cases e)
theorem tKey_rel (k : Key) : Rel K H μ (tKey k) (kV k) := by
  cases k <;> simp only [tKey, kV, Rel]
theorem getK_ok : ∀ {kvs : List (Key × V)} {ks : List Key} {ts : List T} {k : Key} {t : T}, kvs.map (·.1) = ks → Rels K H μ ts (kvs.map (·.2)) → getK ks ts k = some t → ∃ v, valV kvs k = some v ∧ Rel K H μ t v
  | [], _, _, _, _, e, _, g => by subst e; simp [getK] at g
  | (k', v) :: kvs, _, ts, k, t, e, r, g => by
    subst e
    cases ts with
    | nil => simp [Rels] at r
    | cons u ts =>
      simp only [List.map_cons, Rels] at r
      obtain ⟨w, r', e, r1, r2⟩ := r
      cases e
      simp only [List.map_cons, getK] at g
      split at g
      · rename_i h
        cases g
        exact ⟨v, valV_pos h, r1⟩
      · rename_i h
        obtain ⟨w, e1, e2⟩ := getK_ok rfl r2 g
        exact ⟨w, by rw [valV_neg h]; exact e1, e2⟩
theorem getK_none : ∀ {kvs : List (Key × V)} {ks : List Key} {ts : List T} {k : Key}, kvs.map (·.1) = ks → Rels K H μ ts (kvs.map (·.2)) → getK ks ts k = none → valV kvs k = none
  | [], _, _, _, e, _, g => rfl
  | (k', v) :: kvs, _, ts, k, e, r, g => by
    subst e
    cases ts with
    | nil => simp [Rels] at r
    | cons u ts =>
      simp only [List.map_cons, Rels] at r
      obtain ⟨w, r', e, r1, r2⟩ := r
      cases e
      simp only [List.map_cons, getK] at g
      split at g
      · cases g
      · rename_i h
        rw [valV_neg h]
        exact getK_none rfl r2 g
theorem rels_zip : ∀ {kvs : List (Key × V)} {ts : List T} {k : Key} {t : T} {v : V}, Rels K H μ ts (kvs.map (·.2)) → Rel K H μ t v →
    Rels K H μ (List.zipWith (fun k' u => if k' = k then t else u) (kvs.map (·.1)) ts) ((kvs.map fun kv => if kv.1 = k then (kv.1, v) else kv).map (·.2))
  | [], ts, k, t, v, r, g => by
    simp only [List.map_nil, List.zipWith_nil_left, Rels]
  | (k', w) :: kvs, ts, k, t, v, r, g => by
    cases ts with
    | nil => simp [Rels] at r
    | cons u ts =>
      simp only [List.map_cons, Rels] at r
      obtain ⟨w', r', e, r1, r2⟩ := r
      cases e
      simp only [List.map_cons, List.zipWith_cons_cons, Rels]
      refine ⟨_, _, rfl, ?_, rels_zip r2 g⟩
      by_cases h : k' = k
      · simp only [h, if_true]; exact g
      · simp only [h, if_false]; exact r1
theorem putK_keys (k : Key) (v : V) : ∀ kvs : List (Key × V), (kvs.map fun kv => if kv.1 = k then (kv.1, v) else kv).map (·.1) = kvs.map (·.1)
  | [] => rfl
  | (k', w) :: kvs => by
    simp only [List.map_cons, putK_keys k v kvs]
    by_cases h : k' = k <;> simp [h]
theorem putK_ok {kvs : List (Key × V)} {ks : List Key} {ts : List T} {k : Key} {t : T} {v : V} (e : kvs.map (·.1) = ks) (r : Rels K H μ ts (kvs.map (·.2))) (g : Rel K H μ t v) :
    (putK kvs k v).map (·.1) = (putK' ks ts k t).1 ∧ Rels K H μ (putK' ks ts k t).2 ((putK kvs k v).map (·.2)) := by
  subst e
  have ha : (kvs.map (·.1)).any (fun k' => decide (k' = k)) = kvs.any (fun kv => decide (kv.1 = k)) := by rw [List.any_map]; rfl
  unfold putK putK'
  rw [ha]
  by_cases h : kvs.any (fun kv => decide (kv.1 = k)) = true
  · rw [if_pos h, if_pos h]
    exact ⟨putK_keys k v kvs, rels_zip r g⟩
  · rw [if_neg h, if_neg h]
    simp only [List.map_append, List.map_cons, List.map_nil]
    exact ⟨trivial, Rels.append r (by simp only [Rels]; exact ⟨v, [], rfl, g, rfl⟩)⟩
end
def addT (S : Sto) (x y : T) : Option T := match x, y with
  | .int i, .int j => some (.int (i + j))
  | .str a, .str b => if a.length + b.length ≤ sizeLine then some (.str (a ++ b)) else none
  | .tup a, .tup b => if a.length + b.length ≤ sizeLine then some (.tup (a ++ b)) else none
  | x, y => match plnL S x, plnL S y with
    | some a, some b => if a.length + b.length ≤ sizeLine then some (.lst (a ++ b)) else none
    | _, _ => none
def intsT (g : Int → Int → Option T) (_ : Sto) (x y : T) : Option T := match x, y with
  | .int i, .int j => g i j
  | _, _ => none
def mulT : Sto → T → T → Option T := intsT fun i j => if (decide (-(2 ^ 64) < i) && decide (i < 2 ^ 64)) || (decide (-(2 ^ 64) < j) && decide (j < 2 ^ 64)) then some (.int (i * j)) else none
def fdivT : Sto → T → T → Option T := intsT fun i j => if decide (0 < j) && decide (j < 1073741824) then some (.int (i / j)) else none
def modT : Sto → T → T → Option T := intsT fun i j => if decide (0 < j) then some (.int (i % j)) else none
def powT : Sto → T → T → Option T := intsT fun i j => if decide (0 ≤ j) && (decide (j ≤ 1000000) && decide (i.natAbs < 2 ^ 64)) then some (.int (i ^ j.toNat)) else none
def subT : Sto → T → T → Option T := intsT fun i j => some (.int (i - j))
def ltT (_ : Sto) (x y : T) : Option T := match x, y with
  | .int i, .int j => some (.bl (decide (i < j)))
  | .str a, .str b => some (.bl (decide (a.cps.toList < b.cps.toList)))
  | _, _ => none
def leT : Sto → T → T → Option T := intsT fun i j => some (.bl (decide (i ≤ j)))
def gtT : Sto → T → T → Option T := intsT fun i j => some (.bl (decide (j < i)))
def geT : Sto → T → T → Option T := intsT fun i j => some (.bl (decide (j ≤ i)))
def dctSame (ks : List Key) (ts : List T) (ls : List Key) (us : List T) : Bool :=
  decide (ks.length = ls.length) && (List.zip ks ts).all fun p => match p.2, getK ls us p.1 with
    | .non, some .non => true
    | .bl a, some (.bl b) => a == b
    | .int a, some (.int b) => decide (a = b)
    | .str a, some (.str b) => decide (a = b)
    | _, _ => false
def eqB (S : Sto) (x y : T) : Option Bool := match toD1 S x, toD1 S y with
  | some d, some e => if SeqAt.shaped d && SeqAt.shaped e then some (PyData.eqv d e) else none
  | _, _ => match dctT S x, dctT S y with
    | some (ks, ts), some (ls, us) => if dctSame ks ts ls us then some true else none
    | _, _ => none
def eqT (S : Sto) (x y : T) : Option T := (eqB S x y).map .bl
def neT (S : Sto) (x y : T) : Option T := (eqB S x y).map fun b => .bl !b
def isNT (_ : Sto) (x y : T) : Option T := match x, y with
  | .non, .non => some (.bl true)
  | .ref _, .non => some (.bl false)
  | .val _, .non => none
  | _, .non => some (.bl false)
  | _, _ => none
def notNT (S : Sto) (x y : T) : Option T := match isNT S x y with
  | some (.bl b) => some (.bl !b)
  | _ => none
def flatT : T → Option V
  | .non => some .non
  | .bl b => some (.bl b)
  | .int i => some (.int i)
  | .str x => some (.str x)
  | _ => none
def flats : List T → Option (List V)
  | [] => some []
  | t :: ts => (flatT t).bind fun v => (flats ts).bind fun vs => some (v :: vs)
def inB (S : Sto) (x y : T) : Option Bool := match dctT S y with
  | some (ks, ts) => match keyT x with
    | some k => some (getK ks ts k).isSome
    | none => none
  | none => match x, y with
    | .str a, .str b => some (!(Builtin.Str.occurrences b a 0 b.length 1).isEmpty)
    | x, .tup ts => match flatT x, flats ts with
      | some v, some vs => some (inV v vs)
      | _, _ => none
    | x, y => match seqL S y with
      | some ts => match flatT x, flats ts with
        | some v, some vs => some (inV v vs)
        | _, _ => none
      | none => none
def inT (S : Sto) (x y : T) : Option T := (inB S x y).map .bl
def ninT (S : Sto) (x y : T) : Option T := (inB S x y).map fun b => .bl !b
def ixT (S : Sto) (x y : T) : Option T := match dctT S x with
  | some (ks, ts) => (keyT y).bind fun k => getK ks ts k
  | none => match x, y with
    | .tup ts, .int i => atI ts i
    | .str a, .int i => if a.length ≤ sizeLine then (atI a.cps.toList i).map fun c => .str ⟨#[c]⟩ else none
    | x, .int i => (seqL S x).bind fun ts => atI ts i
    | _, _ => none
section
variable {X : Cx} {K : PySem.W.Frag} {H : Hp} {μ : Mu} {S : Sto}
theorem rel_bl {b : Bool} : Rel K H μ (.bl b) (.bl b) := by simp only [Rel]
theorem rel_int {b : Int} : Rel K H μ (.int b) (.int b) := by simp only [Rel]
theorem rel_str {b : Str} : Rel K H μ (.str b) (.str b) := by simp only [Rel]
theorem op_ints {f : Value → Value → Sem Value} {C : Int → Int → Prop} {g' : Int → Int → V} {g : Int → Int → Option T} (h : OpR X f (L2.rI C g')) (hg : ∀ i j t, g i j = some t → C i j ∧ ∀ K H μ, Rel K H μ t (g' i j)) : OpR X f (rP X.K (intsT g)) := by
  intro pins s σ H x y v u Q I rx ry q
  obtain ⟨μ, S, tx, ty, t, st, r1, r2, e, q⟩ := q
  unfold intsT at e
  split at e
  · rename_i i j
    simp only [Rel] at r1 r2
    obtain ⟨c, r⟩ := hg i j t e
    exact h pins s σ H x y v u Q I rx ry ⟨i, j, r1, r2, c, q _ H (Same.refl _) (r _ _ _)⟩
  · cases e
theorem op_ints0 {f : Value → Value → Sem Value} {g' : Int → Int → V} {g : Int → Int → Option T} (h : OpR X f (rI0 g')) (hg : ∀ i j t, g i j = some t → ∀ K H μ, Rel K H μ t (g' i j)) : OpR X f (rP X.K (intsT g)) := by
  intro pins s σ H x y v u Q I rx ry q
  obtain ⟨μ, S, tx, ty, t, st, r1, r2, e, q⟩ := q
  unfold intsT at e
  split at e
  · rename_i i j
    simp only [Rel] at r1 r2
    exact h pins s σ H x y v u Q I rx ry ⟨i, j, r1, r2, q _ H (Same.refl _) (hg i j t e _ _ _)⟩
  · cases e
theorem o_sub : OpR X (binaryOp .Sub) (rP X.K subT) := op_ints0 op_sub fun i j t e K H μ => by cases e; exact rel_int
theorem o_mul : OpR X (binaryOp .Mult) (rP X.K mulT) := op_ints op_mul fun i j t e => by
  split at e
  · rename_i h
    cases e
    simp only [Bool.or_eq_true, Bool.and_eq_true, decide_eq_true_eq] at h
    exact ⟨h, fun _ _ _ => rel_int⟩
  · cases e
theorem o_fdiv : OpR X (binaryOp .FloorDiv) (rP X.K fdivT) := op_ints op_fdiv fun i j t e => by
  split at e
  · rename_i h
    cases e
    simp only [Bool.and_eq_true, decide_eq_true_eq] at h
    exact ⟨h, fun _ _ _ => rel_int⟩
  · cases e
theorem o_mod : OpR X (binaryOp .Mod) (rP X.K modT) := op_ints op_mod fun i j t e => by
  split at e
  · rename_i h
    cases e
    simp only [decide_eq_true_eq] at h
    exact ⟨h, fun _ _ _ => rel_int⟩
  · cases e
theorem o_pow : OpR X (binaryOp .Pow) (rP X.K powT) := op_ints op_pow fun i j t e => by
  split at e
  · rename_i h
    cases e
    simp only [Bool.and_eq_true, decide_eq_true_eq] at h
    exact ⟨h, fun _ _ _ => rel_int⟩
  · cases e
theorem o_le : OpR X (compareOp .LtE) (rP X.K leT) := op_ints0 op_le fun i j t e K H μ => by cases e; exact rel_bl
theorem o_gt : OpR X (compareOp .Gt) (rP X.K gtT) := op_ints0 op_gt fun i j t e K H μ => by cases e; exact rel_bl
theorem o_ge : OpR X (compareOp .GtE) (rP X.K geT) := op_ints0 op_ge fun i j t e K H μ => by cases e; exact rel_bl
theorem o_lt : OpR X (compareOp .Lt) (rP X.K ltT) := by
  intro pins s σ H x y v u Q I rx ry q
  obtain ⟨μ, S, tx, ty, t, st, r1, r2, e, q⟩ := q
  unfold ltT at e
  split at e
  · rename_i i j
    cases e
    simp only [Rel] at r1 r2
    exact op_lt pins s σ H x y v u Q I rx ry ⟨i, j, r1, r2, q _ H (Same.refl _) rel_bl⟩
  · rename_i i j
    cases e
    simp only [Rel] at r1 r2
    exact op_lt_str pins s σ H x y v u Q I rx ry ⟨i, j, r1, r2, q _ H (Same.refl _) rel_bl⟩
  · cases e
theorem o_add : OpR X (binaryOp .Add) (rP X.K addT) := by
  intro pins s σ H x y v u Q I rx ry q
  obtain ⟨μ, S, tx, ty, t, st, r1, r2, e, q⟩ := q
  have lists : ∀ {a b : List T}, plnL S tx = some a → plnL S ty = some b → a.length + b.length ≤ sizeLine → t = .lst (a ++ b) → wpAny (model X.prog X.w) X.A (binaryOp .Add v u) (EP X pins σ Q) X.xe s := fun {a b} h1 h2 hl ht => by
    obtain ⟨p, xs, rfl, hp, ra⟩ := plnL_ok h1 st r1
    obtain ⟨p2, ys, rfl, hp2, rb⟩ := plnL_ok h2 st r2
    subst ht
    exact op_cat pins s σ H _ _ v u Q I rx ry ⟨p, p2, xs, ys, rfl, rfl, hp, hp2, by rw [← ra.length, ← rb.length]; exact hl, fun l nl => q _ _ (fresh_same nl) (rel_lst st nl (Rels.append ra rb))⟩
  unfold addT at e
  split at e
  · rename_i i j
    cases e
    simp only [Rel] at r1 r2
    exact op_add pins s σ H x y v u Q I rx ry ⟨i, j, r1, r2, q _ H (Same.refl _) rel_int⟩
  · rename_i a b
    split at e
    · rename_i hl
      cases e
      simp only [Rel] at r1 r2
      exact op_add_str pins s σ H x y v u Q I rx ry ⟨a, b, r1, r2, hl, q _ H (Same.refl _) rel_str⟩
    · cases e
  · rename_i a b
    split at e
    · rename_i hl
      cases e
      obtain ⟨p, xs, rfl, hp, ra⟩ := tup_ok r1
      obtain ⟨p2, ys, rfl, hp2, rb⟩ := tup_ok r2
      refine op_catA pins s σ H _ _ v u Q I rx ry ⟨p, p2, xs, ys, rfl, rfl, hp, hp2, by rw [← ra.length, ← rb.length]; exact hl, fun h => ?_, fun _ h => ?_, fun _ _ l nl => q _ _ (fresh_same nl) (rel_tup st nl (Rels.append ra rb))⟩
      · have : a = [] := List.length_eq_zero_iff.mp (by rw [ra.length, h]; rfl)
        subst this
        exact q _ H (Same.refl _) r2
      · have : b = [] := List.length_eq_zero_iff.mp (by rw [rb.length, h]; rfl)
        subst this
        rw [List.append_nil] at q
        exact q _ H (Same.refl _) r1
    · cases e
  · split at e
    · rename_i a b h1 h2
      split at e
      · rename_i hl
        cases e
        exact lists h1 h2 hl rfl
      · cases e
    · cases e
theorem eqB_dct {ks ls : List Key} {ts us : List T} {x y : V} {tx ty : T} {S : Sto} (st : RelS X.K H μ S) (r1 : Rel X.K H μ tx x) (r2 : Rel X.K H μ ty y) (h1 : dctT S tx = some (ks, ts)) (h2 : dctT S ty = some (ls, us)) (h : dctSame ks ts ls us = true) :
    ∃ a b kvs lvs, x = .ref a ∧ y = .ref b ∧ H a = some (.dK kvs) ∧ H b = some (.dK lvs) ∧ kvs.length = lvs.length ∧ (∀ p ∈ kvs, valV lvs p.1 = some p.2 ∧ flatB p.2 = true) := by
  obtain ⟨a, kvs, rfl, ha, ek, rk⟩ := dctT_ok h1 st r1
  obtain ⟨b, lvs, rfl, hb, el, rl⟩ := dctT_ok h2 st r2
  unfold dctSame at h
  simp only [Bool.and_eq_true, decide_eq_true_eq, List.all_eq_true] at h
  refine ⟨a, b, kvs, lvs, rfl, rfl, ha, hb, by rw [← ek, ← el] at h; simpa using h.1, fun p hp => ?_⟩
  obtain ⟨i, hi, rfl⟩ := List.mem_iff_getElem.mp hp
  have e2 : (kvs.map (·.2))[i]? = some kvs[i].2 := by rw [List.getElem?_map, List.getElem?_eq_getElem hi]; rfl
  obtain ⟨t, et, rt⟩ := rk.getV e2
  have e1 : ks[i]? = some kvs[i].1 := by rw [← ek, List.getElem?_map, List.getElem?_eq_getElem hi]; rfl
  have hz : (kvs[i].1, t) ∈ List.zip ks ts := by
    have : (List.zip ks ts)[i]? = some (kvs[i].1, t) := by rw [List.getElem?_zip_eq_some]; exact ⟨e1, et⟩
    exact List.mem_of_getElem? this
  have q := h.2 _ hz
  simp only at q
  cases t <;> cases eg : getK ls us kvs[i].1 with
  | none => simp [eg] at q
  | some u =>
    rw [eg] at q
    obtain ⟨w, e3, rw'⟩ := getK_ok el rl eg
    cases u <;> simp only [Bool.false_eq_true] at q
    all_goals
      simp only [Rel] at rt rw'
      rw [e3, rt, rw']
      first
        | exact ⟨rfl, rfl⟩
        | (simp only [beq_iff_eq] at q; subst q; exact ⟨rfl, rfl⟩)
        | (simp only [decide_eq_true_eq] at q; subst q; exact ⟨rfl, rfl⟩)
end
end TL
set_option Elab.async false
set_option linter.all false
set_option maxRecDepth 100000
namespace TL
open PySem PySem.Spec L2
open PyProof.Rows hiding St
section
variable {X : Cx} {K : PySem.W.Frag} {H : Hp} {μ : Mu} {S : Sto}
theorem o_eq (hu : X.A.units + 64 < cLine) : OpR X (compareOp .Eq) (rP X.K eqT) := by
  intro pins s σ H x y v u Q I rx ry q
  obtain ⟨μ, S, tx, ty, t, st, r1, r2, e, q⟩ := q
  simp only [eqT, Option.map_eq_some_iff] at e
  obtain ⟨b, e, rfl⟩ := e
  unfold eqB at e
  split at e
  · rename_i d d' h1 h2
    split at e
    · rename_i hs
      cases e
      simp only [Bool.and_eq_true] at hs
      exact op_eqD hu pins s σ H x y v u Q I rx ry ⟨d, d', toD1_ok h1 st r1, toD1_ok h2 st r2, hs.1, hs.2, q _ H (Same.refl _) rel_bl⟩
    · cases e
  · split at e
    · rename_i ks ts ls us h1 h2
      split at e
      · rename_i hs
        cases e
        obtain ⟨a, b, kvs, lvs, e1, e2, ha, hb, hl, hp⟩ := eqB_dct st r1 r2 h1 h2 hs
        exact op_eq_dictA (by omega) pins s σ H x y v u Q I rx ry ⟨a, b, kvs, lvs, e1, e2, ha, hb, hl, hp, q _ H (Same.refl _) rel_bl⟩
      · cases e
    · cases e
theorem o_ne (hu : X.A.units + 64 < cLine) : OpR X (compareOp .NotEq) (rP X.K neT) := by
  intro pins s σ H x y v u Q I rx ry q
  obtain ⟨μ, S, tx, ty, t, st, r1, r2, e, q⟩ := q
  simp only [neT, Option.map_eq_some_iff] at e
  obtain ⟨b, e, rfl⟩ := e
  unfold eqB at e
  split at e
  · rename_i d d' h1 h2
    split at e
    · rename_i hs
      cases e
      simp only [Bool.and_eq_true] at hs
      exact op_neD hu pins s σ H x y v u Q I rx ry ⟨d, d', toD1_ok h1 st r1, toD1_ok h2 st r2, hs.1, hs.2, q _ H (Same.refl _) rel_bl⟩
    · cases e
  · split at e
    · rename_i ks ts ls us h1 h2
      split at e
      · rename_i hs
        cases e
        obtain ⟨a, b, kvs, lvs, e1, e2, ha, hb, hl, hp⟩ := eqB_dct st r1 r2 h1 h2 hs
        exact op_ne_dictA (by omega) pins s σ H x y v u Q I rx ry ⟨a, b, kvs, lvs, e1, e2, ha, hb, hl, hp, q _ H (Same.refl _) rel_bl⟩
      · cases e
    · cases e
theorem isNT_ok {tx ty t : T} {x y : V} (e : isNT S tx ty = some t) (r1 : Rel K H μ tx x) (r2 : Rel K H μ ty y) : y = .non ∧ t = .bl (decide (x = .non)) := by
  cases ty <;> (try (cases tx <;> simp only [isNT] at e <;> cases e; done))
  simp only [Rel] at r2
  subst r2
  cases tx <;> simp only [isNT] at e <;> (try (cases e; done)) <;> cases e <;> simp only [Rel] at r1
  · subst r1; exact ⟨rfl, rfl⟩
  · subst r1; exact ⟨rfl, rfl⟩
  · subst r1; exact ⟨rfl, rfl⟩
  · subst r1; exact ⟨rfl, rfl⟩
  all_goals
    first
      | (obtain ⟨a, _, rfl, _⟩ := r1; exact ⟨rfl, rfl⟩)
      | (obtain ⟨a, _, rfl⟩ := r1; exact ⟨rfl, rfl⟩)
      | (obtain ⟨e, -⟩ := r1; subst e; exact ⟨rfl, rfl⟩)
theorem o_is : OpR X (compareOp .Is) (rP X.K isNT) := by
  intro pins s σ H x y v u Q I rx ry q
  obtain ⟨μ, S, tx, ty, t, st, r1, r2, e, q⟩ := q
  obtain ⟨e1, rfl⟩ := isNT_ok e r1 r2
  exact op_isN pins s σ H x y v u Q I rx ry ⟨e1, q _ H (Same.refl _) rel_bl⟩
theorem o_isnot : OpR X (compareOp .IsNot) (rP X.K notNT) := by
  intro pins s σ H x y v u Q I rx ry q
  obtain ⟨μ, S, tx, ty, t, st, r1, r2, e, q⟩ := q
  unfold notNT at e
  split at e
  · rename_i b e1
    cases e
    obtain ⟨e2, e3⟩ := isNT_ok e1 r1 r2
    cases e3
    exact op_notN pins s σ H x y v u Q I rx ry ⟨e2, q _ H (Same.refl _) rel_bl⟩
  · cases e
theorem flatT_ok {t : T} {v w : V} (e : flatT t = some w) (r : Rel K H μ t v) : v = w ∧ flatV w = true := by
  cases t <;> simp only [flatT] at e <;> cases e <;> simp only [Rel] at r <;> subst r <;> exact ⟨rfl, rfl⟩
theorem flats_ok : ∀ {ts : List T} {vs ws : List V}, flats ts = some ws → Rels K H μ ts vs → vs = ws ∧ ws.all flatV = true
  | [], _, _, e, r => by simp only [flats] at e; cases e; simp only [Rels] at r; subst r; exact ⟨rfl, rfl⟩
  | t :: ts, _, _, e, r => by
    simp only [flats, Option.bind_eq_some_iff] at e
    obtain ⟨w, e1, ws, e2, e⟩ := e
    cases e
    simp only [Rels] at r
    obtain ⟨v, r', rfl, r1, r2⟩ := r
    obtain ⟨rfl, f1⟩ := flatT_ok e1 r1
    obtain ⟨rfl, f2⟩ := flats_ok e2 r2
    exact ⟨rfl, by simp [f1, f2]⟩
inductive InFact (K : PySem.W.Frag) (H : Hp) (x y : V) (b : Bool) : Prop
  | dict (a : Addr) (o : Option V) (e : y = .ref a) (g : DGet H a x o) (h : b = o.isSome)
  | str (i j : Str) (e1 : x = .str i) (e2 : y = .str j) (h : b = !(Builtin.Str.occurrences j i 0 j.length 1).isEmpty)
  | seq (p : Addr) (xs : List V) (e : y = .ref p) (hs : SqL K H p xs ∨ SqT K H p xs) (fx : flatV x = true) (fs : xs.all flatV = true) (h : b = inV x xs)
theorem inB_ok {tx ty : T} {x y : V} {b : Bool} (e : inB S tx ty = some b) (st : RelS K H μ S) (r1 : Rel K H μ tx x) (r2 : Rel K H μ ty y) : InFact K H x y b := by
  unfold inB at e
  split at e
  · rename_i ks ts h
    obtain ⟨a, kvs, rfl, ha, ek, rk⟩ := dctT_ok h st r2
    split at e
    · rename_i k hk
      cases e
      have := keyT_ok hk r1
      subst this
      refine .dict a (valV kvs k) rfl (DGet.k ha) ?_
      cases g : getK ks ts k with
      | none => rw [getK_none ek rk g]; rfl
      | some t =>
        obtain ⟨v, e1, _⟩ := getK_ok ek rk g
        rw [e1]; rfl
    · cases e
  · split at e
    · cases e
      simp only [Rel] at r1 r2
      exact .str _ _ r1 r2 rfl
    · split at e
      · rename_i v vs h1 h2
        cases e
        obtain ⟨p, xs, rfl, hp, rk⟩ := tup_ok r2
        obtain ⟨rfl, f1⟩ := flatT_ok h1 r1
        obtain ⟨rfl, f2⟩ := flats_ok h2 rk
        exact .seq p _ rfl (.inr hp) f1 f2 rfl
      · cases e
    · split at e
      · rename_i ts hs
        split at e
        · rename_i v vs h1 h2
          cases e
          obtain ⟨p, xs, rfl, hp, rk⟩ := seqL_ok hs st r2
          obtain ⟨rfl, f1⟩ := flatT_ok h1 r1
          obtain ⟨rfl, f2⟩ := flats_ok h2 rk
          exact .seq p _ rfl (.inl hp) f1 f2 rfl
        · cases e
      · cases e
theorem o_in (hu : X.A.units + 64 < cLine) : OpR X (compareOp .In) (rP X.K inT) := by
  intro pins s σ H x y v u Q I rx ry q
  obtain ⟨μ, S, tx, ty, t, st, r1, r2, e, q⟩ := q
  simp only [inT, Option.map_eq_some_iff] at e
  obtain ⟨b, e, rfl⟩ := e
  have q1 := q _ H (Same.refl _) rel_bl
  rcases inB_ok e st r1 r2 with ⟨a, o, rfl, g, rfl⟩ | ⟨i, j, rfl, rfl, rfl⟩ | ⟨p, xs, rfl, hs, fx, fs, rfl⟩
  · cases ry
    exact d_in (by omega) I g rx fun s' I' => ⟨.bl o.isSome, H, I', rfl, q1⟩
  · exact op_in_str pins s σ H _ _ v u Q I rx ry ⟨i, j, rfl, rfl, q1⟩
  · exact op_in_seq pins s σ H _ _ v u Q I rx ry ⟨p, xs, rfl, hs, fx, fs, by simpa using q1⟩
theorem o_nin (hu : X.A.units + 64 < cLine) : OpR X (compareOp .NotIn) (rP X.K ninT) := by
  intro pins s σ H x y v u Q I rx ry q
  obtain ⟨μ, S, tx, ty, t, st, r1, r2, e, q⟩ := q
  simp only [ninT, Option.map_eq_some_iff] at e
  obtain ⟨b, e, rfl⟩ := e
  have q1 := q _ H (Same.refl _) rel_bl
  rcases inB_ok e st r1 r2 with ⟨a, o, rfl, g, rfl⟩ | ⟨i, j, rfl, rfl, rfl⟩ | ⟨p, xs, rfl, hs, fx, fs, rfl⟩
  · cases ry
    exact d_notIn (by omega) I g rx fun s' I' => ⟨.bl (!o.isSome), H, I', rfl, q1⟩
  · exact op_notin_str pins s σ H _ _ v u Q I rx ry ⟨i, j, rfl, rfl, q1⟩
  · exact op_notIn_seq pins s σ H _ _ v u Q I rx ry ⟨p, xs, rfl, hs, fx, fs, by simpa using q1⟩
theorem ix_dict (hu : X.A.units + 64 < cLine) : IxR X (fun x y H Q => ∃ a v, x = .ref a ∧ DGet H a y (some v) ∧ Q v H) := by
  intro value slice pins s σ H x y v u Q I rx ry q hs
  obtain ⟨a, w, rfl, g, q⟩ := q
  cases rx
  have hT := dict_typeIs I g
  unfold subscriptTail
  refine wpAny_bind ?_
  rw [getitemInPython_of_ne hT.not_modules]
  refine wpAny_bind (wpAny_specialOf hT PySem.F.slot_dict_getitem.lookup ?_)
  have fin : wpAny (model X.prog X.w) X.A (subscripted slice false (.ref a) u) (fun r s₃ => wpAny (model X.prog X.w) X.A (letTemporaryGo value (.ref a) r >>= fun _ => pure r) (EP X pins σ Q) X.xe s₃) X.xe s := by
    rw [hs]
    exact wpAny_operating (wpAny_mono (d_getItem (by omega) I g ry fun w' s' I' rw' => (⟨w, H, I', rw', q⟩ : EP X pins σ Q w' s')) (fun r s₃ h₃ => wpAny_bind (wpAny_letTemporaryGo (wpAny_pure h₃))) fun _ _ x => x)
  first
    | exact wpAny_pure (wpAny_bind fin)
    | exact wpAny_bind (wpAny_pure (wpAny_bind fin))
    | exact wpAny_bind fin
theorem atI_rels {ts : List T} {vs : List V} {i : Int} {t : T} (r : Rels K H μ ts vs) (e : atI ts i = some t) : ∃ v, atI vs i = some v ∧ Rel K H μ t v := by
  unfold atI at e ⊢
  rw [← r.length]
  cases h : ixN ts.length i with
  | none => rw [h] at e; cases e
  | some j =>
    rw [h] at e
    obtain ⟨v, e1, e2⟩ := r.get (show ts[j]? = some t from e)
    exact ⟨v, e1, e2⟩
theorem o_ix (hu : X.A.units + 64 < cLine) : IxR X (rP X.K ixT) := by
  intro value slice pins s σ H x y v u Q I rx ry q hs
  obtain ⟨μ, S, tx, ty, t, st, r1, r2, e, q⟩ := q
  unfold ixT at e
  split at e
  · rename_i ks ts h
    simp only [Option.bind_eq_some_iff] at e
    obtain ⟨k, hk, g⟩ := e
    obtain ⟨a, kvs, rfl, ha, ek, rk⟩ := dctT_ok h st r1
    have := keyT_ok hk r2
    subst this
    obtain ⟨w, e1, rw'⟩ := getK_ok ek rk g
    refine ix_dict hu value slice pins s σ H _ _ v u Q I rx ry ⟨a, w, rfl, ?_, q w H (Same.refl _) rw'⟩ hs
    rw [← e1]
    exact DGet.k ha
  · split at e
    · rename_i ts i _
      obtain ⟨a, vs, rfl, ha, r⟩ := tup_ok r1
      simp only [Rel] at r2
      obtain ⟨w, e1, rw'⟩ := atI_rels r e
      exact ix_tup value slice pins s σ H _ _ v u Q I rx ry ⟨a, vs, i, w, rfl, r2, ha, e1, q w H (Same.refl _) rw'⟩ hs
    · rename_i a i _
      simp only [Rel] at r1 r2
      split at e
      · rename_i hl
        simp only [Option.map_eq_some_iff] at e
        obtain ⟨c, e, rfl⟩ := e
        exact ix_str value slice pins s σ H _ _ v u Q I rx ry ⟨a, i, c, r1, r2, hl, e, q _ H (Same.refl _) rel_str⟩ hs
      · cases e
    · rename_i i _ _
      simp only [Option.bind_eq_some_iff] at e
      obtain ⟨ts, h, e⟩ := e
      obtain ⟨a, vs, rfl, ha, r⟩ := seqL_ok h st r1
      simp only [Rel] at r2
      obtain ⟨w, e1, rw'⟩ := atI_rels r e
      exact ix_list value slice pins s σ H _ _ v u Q I rx ry ⟨a, vs, i, w, rfl, r2, ha, e1, q w H (Same.refl _) rw'⟩ hs
    · cases e
variable {wx : WT} {pos : Pos} {a b : Expr} {Fa Fb : FE}
theorem pf_ix (hu : X.A.units + 64 < cLine) (ha : PF X wx a Fa) (hb : PF X wx b Fb) (hs : PlainIx b := by intro _ _; rfl) : PF X wx (.Subscript a b pos) (fBin ixT Fa Fb) := PE.imp (pe_ix (o_ix hu) ha hb hs) fun _ _ _ h => bin_imp h
def cutT (ts : List T) (lo hi : Option Int) : List T := (ts.drop (HT.sIx ts.length 0 lo)).take (HT.sIx ts.length ts.length hi - HT.sIx ts.length 0 lo)
def slT (S : Sto) (x : T) (lo hi : Option Int) : Option T := match x with
  | .tup ts => some (.tup (cutT ts lo hi))
  | x => (seqL S x).map fun ts => .lst (cutT ts lo hi)
abbrev FO := Fr → Sto → Res (Option Int)
def foN : FO := fun _ S => .ok none S
def foS (F : FE) : FO := fun τ S => (F τ S).bind fun t S1 => match t with
  | .int i => .ok (some i) S1
  | _ => .stuck
theorem PO.imp {X : Cx} {e : Option Expr} {t t' : TO} (h : PO X e t) (i : ∀ σ H Q, t' σ H Q → t σ H Q) : PO X e t' := ⟨fun pins s σ H Q I q => h.run pins s σ H Q I (i σ H Q q)⟩
def fSl (F : FE) (L U : FO) : FE := fun τ S => (F τ S).bind fun x S1 => (L τ S1).bind fun l S2 => (U τ S2).bind fun u S3 => ofO (slT S3 x l u) S3
end
end TL
set_option Elab.async false
set_option linter.all false
set_option maxRecDepth 100000
namespace TL
open PySem PySem.Spec L2
open PyProof.Rows hiding St
section
variable {X : Cx} {wx : WT} {pos : Pos} {K : PySem.W.Frag} {H : Hp} {μ : Mu} {S : Sto}
def lenT (S : Sto) (ts : List T) : Option T := match ts with
  | [.str x] => if x.length ≤ sizeLine then some (.int x.length) else none
  | [.tup ts] => some (.int ts.length)
  | [t] => match dctT S t with
    | some (ks, _) => some (.int ks.length)
    | none => (seqL S t).map fun ts => .int ts.length
  | _ => none
theorem rels1 {t : T} {vs : List V} (r : Rels K H μ [t] vs) : ∃ v, vs = [v] ∧ Rel K H μ t v := by
  simp only [Rels] at r
  obtain ⟨v, _, rfl, r, rfl⟩ := r
  exact ⟨v, rfl, r⟩
theorem rels2 {t u : T} {vs : List V} (r : Rels K H μ [t, u] vs) : ∃ v w, vs = [v, w] ∧ Rel K H μ t v ∧ Rel K H μ u w := by
  simp only [Rels] at r
  obtain ⟨v, _, rfl, r, w, _, rfl, r2, rfl⟩ := r
  exact ⟨v, w, rfl, r, r2⟩
theorem c_len : CallR X (.builtin "len") (rN X.K lenT) := by
  intro pins s σ H xs us Q I rv q
  obtain ⟨μ, S, ts, t, st, r, e, q⟩ := q
  unfold lenT at e
  split at e
  · split at e
    · rename_i hl
      cases e
      obtain ⟨v, ev, rr⟩ := rels1 r
      subst ev
      replace r := rr
      simp only [Rel] at r
      subst r
      exact call_len pins s σ H _ us Q I rv ⟨_, _, rfl, ⟨hl, rfl⟩, q _ H (Same.refl _) rel_int⟩
    · cases e
  · rename_i ts
    cases e
    obtain ⟨v, ev, rr⟩ := rels1 r
    subst ev
    replace r := rr
    obtain ⟨a, vs, rfl, ha, r⟩ := tup_ok r
    exact call_len pins s σ H _ us Q I rv ⟨_, _, rfl, .inr ⟨vs, ha, r.length⟩, q _ H (Same.refl _) rel_int⟩
  · rename_i t' _ _
    obtain ⟨v, ev, rr⟩ := rels1 r
    subst ev
    replace r := rr
    split at e
    · rename_i ks ts h
      cases e
      obtain ⟨a, kvs, rfl, ha, ek, rk⟩ := dctT_ok h st r
      obtain ⟨u, rfl, rx⟩ := vals1 rv
      cases rx
      exact d_len I (.inl ha) fun t s' I' => ⟨.int kvs.length, H, I', ⟨_, rfl⟩, by
        have : ks.length = kvs.length := by rw [← ek, List.length_map]
        rw [← this]; exact q _ H (Same.refl _) rel_int⟩
    · simp only [Option.map_eq_some_iff] at e
      obtain ⟨ts, h, rfl⟩ := e
      obtain ⟨a, vs, rfl, ha, r⟩ := seqL_ok h st r
      exact call_len pins s σ H _ us Q I rv ⟨_, _, rfl, .inl ⟨vs, ha, r.length⟩, q _ H (Same.refl _) rel_int⟩
  · cases e
def intT (_ : Sto) (ts : List T) : Option T := match ts with
  | [.int i] => some (.int i)
  | [.bl k] => some (.int (if k then 1 else 0))
  | _ => none
theorem c_int : CallR X (.type "int") (rN X.K intT) := by
  intro pins s σ H xs us Q I rv q
  obtain ⟨μ, S, ts, t, st, r, e, q⟩ := q
  unfold intT at e
  split at e
  · cases e
    obtain ⟨v, ev, rr⟩ := rels1 r
    subst ev
    replace r := rr
    simp only [Rel] at r
    subst r
    exact call_int1 pins s σ H _ us Q I rv (.inl ⟨_, rfl, q _ H (Same.refl _) rel_int⟩)
  · cases e
    obtain ⟨v, ev, rr⟩ := rels1 r
    subst ev
    replace r := rr
    simp only [Rel] at r
    subst r
    exact call_int1 pins s σ H _ us Q I rv (.inr ⟨_, rfl, q _ H (Same.refl _) rel_int⟩)
  · cases e
def maxT (_ : Sto) (ts : List T) : Option T := match ts with
  | [.int i, .int j] => some (.int (if j > i then j else i))
  | _ => none
theorem c_max (hc : X.calm = true) : CallR X (.builtin "max") (rN X.K maxT) := by
  intro pins s σ H xs us Q I rv q
  obtain ⟨μ, S, ts, t, st, r, e, q⟩ := q
  unfold maxT at e
  split at e
  · cases e
    obtain ⟨v, w, ev, rr, r2⟩ := rels2 r
    subst ev
    replace r := rr
    simp only [Rel] at r r2
    subst r r2
    exact call_max2 hc pins s σ H _ us Q I rv ⟨_, _, rfl, q _ H (Same.refl _) rel_int⟩
  · cases e
def tupT (S : Sto) (ts : List T) : Option T := match ts with
  | [.tup ts] => some (.tup ts)
  | [t] => (seqL S t).map .tup
  | _ => none
theorem c_tup : CallR X (.type "tuple") (rN X.K tupT) := by
  intro pins s σ H xs us Q I rv q
  obtain ⟨μ, S, ts, t, st, r, e, q⟩ := q
  unfold tupT at e
  split at e
  · cases e
    obtain ⟨v, ev, rr⟩ := rels1 r
    subst ev
    replace r := rr
    have r0 := r
    obtain ⟨a, vs, rfl, ha, r⟩ := tup_ok r
    exact call_tuple_of pins s σ H _ us Q I rv ⟨a, vs, rfl, .inr ⟨ha, q _ H (Same.refl _) r0⟩⟩
  · obtain ⟨v, ev, rr⟩ := rels1 r
    subst ev
    replace r := rr
    simp only [Option.map_eq_some_iff] at e
    obtain ⟨ts, h, rfl⟩ := e
    obtain ⟨a, vs, rfl, ha, r⟩ := seqL_ok h st r
    exact call_tuple_of pins s σ H _ us Q I rv ⟨a, vs, rfl, .inl ⟨ha, fun l hl => q _ _ (fresh_same hl) (rel_tup st hl r)⟩⟩
  · cases e
def bools : List T → Option (List Bool)
  | [] => some []
  | .bl b :: ts => (bools ts).map (b :: ·)
  | _ => none
theorem bools_ok : ∀ {ts : List T} {vs : List V} {bs : List Bool}, bools ts = some bs → Rels K H μ ts vs → vs = bs.map V.bl
  | [], _, _, e, r => by simp only [bools] at e; cases e; simp only [Rels] at r; subst r; rfl
  | .bl b :: ts, _, _, e, r => by
    simp only [bools, Option.map_eq_some_iff] at e
    obtain ⟨bs, e, rfl⟩ := e
    simp only [Rels, Rel] at r
    obtain ⟨v, r', rfl, rfl, r⟩ := r
    rw [bools_ok e r]
    rfl
  | .non :: _, _, _, e, _ | .int _ :: _, _, _, e, _ | .str _ :: _, _, _, e, _ | .tup _ :: _, _, _, e, _ | .lst _ :: _, _, _, e, _ | .sls _ :: _, _, _, e, _ | .dct _ _ :: _, _, _, e, _ | .ref _ :: _, _, _, e, _ | .val _ :: _, _, _, e, _ => by simp only [bools] at e; cases e
def allT (S : Sto) (ts : List T) : Option T := match ts with
  | [t] => (seqL S t).bind fun ts => (bools ts).map fun bs => .bl (bs.all id)
  | _ => none
theorem c_all (hc : X.calm = true) : CallR X (.builtin "all") (rN X.K allT) := by
  intro pins s σ H xs us Q I rv q
  obtain ⟨μ, S, ts, t, st, r, e, q⟩ := q
  unfold allT at e
  split at e
  · obtain ⟨v, ev, rr⟩ := rels1 r
    subst ev
    replace r := rr
    simp only [Option.bind_eq_some_iff, Option.map_eq_some_iff] at e
    obtain ⟨ts, h, bs, hb, rfl⟩ := e
    obtain ⟨a, vs, rfl, ha, r⟩ := seqL_ok h st r
    rw [bools_ok hb r] at ha
    exact cr_all hc pins s σ H _ us Q I rv ⟨a, bs, rfl, ha, q _ H (Same.refl _) rel_bl⟩
  · cases e
def tyT (S : Sto) : T → Option String
  | .non => some "NoneType"
  | .bl _ => some "bool"
  | .int _ => some "int"
  | .str _ => some "str"
  | .tup _ => some "tuple"
  | .lst _ => some "list"
  | .sls _ => some "list"
  | .dct _ _ => some "dict"
  | .ref n => match S[n]? with
    | some (.lst _) => some "list"
    | some (.dct _ _) => some "dict"
    | _ => none
  | .val _ => none
  | .ktp _ => some "tuple"
  | .etp _ => some "tuple"
  | .kdc _ _ => none
  | .fdc _ _ => none
  | .err _ _ _ => none
  | .clo _ _ _ => none
theorem tyT_ok {t : T} {v : V} {n : String} (e : tyT S t = some n) (st : RelS K H μ S) (r : Rel K H μ t v) : TyX K H v (.type n) := by
  cases t with
  | ktp ts =>
    simp only [tyT] at e; cases e
    simp only [Rel] at r
    obtain ⟨a, xs, rfl, ⟨o, z, _⟩, r⟩ := r
    exact .fTuple z
  | etp ts =>
    simp only [tyT] at e; cases e
    simp only [Rel] at r
    obtain ⟨a, xs, rfl, o, r⟩ := r
    exact .base (.tup o.1)
  | kdc ks ts => simp only [tyT] at e; cases e
  | fdc ks ts => simp only [tyT] at e; cases e
  | err x fs ts => simp only [tyT] at e; cases e
  | clo x fs ts => simp only [tyT] at e; cases e
  | non => simp only [tyT] at e; cases e; simp only [Rel] at r; subst r; exact .base .non
  | bl b => simp only [tyT] at e; cases e; simp only [Rel] at r; subst r; exact .base (.bl _)
  | int b => simp only [tyT] at e; cases e; simp only [Rel] at r; subst r; exact .base (.int _)
  | str b => simp only [tyT] at e; cases e; simp only [Rel] at r; subst r; exact .base (.str _)
  | tup ts =>
    simp only [tyT] at e; cases e
    simp only [Rel] at r
    obtain ⟨a, xs, rfl, o, r⟩ := r
    rcases o with ⟨z | ⟨o, z⟩, _⟩ | ⟨o, its, n, z, hc, _⟩
    · exact .base (.tup z)
    · exact .fTuple z
    · exact .kTuple z hc
  | lst ts =>
    simp only [tyT] at e; cases e
    simp only [Rel] at r
    obtain ⟨a, xs, rfl, o, r⟩ := r
    exact .base (.lst o.1)
  | sls ts =>
    simp only [tyT] at e; cases e
    simp only [Rel] at r
    obtain ⟨a, xs, rfl, o, r⟩ := r
    rcases o with ⟨z | ⟨o, z⟩, _⟩ | ⟨o, its, n, z, hc, _⟩
    · exact .base (.lst z)
    · exact .base (.frz z)
    · exact .kList z hc
  | dct ks ts =>
    simp only [tyT] at e; cases e
    simp only [Rel] at r
    obtain ⟨a, xs, rfl, o, r⟩ := r
    exact .base (.dK o.1)
  | ref n =>
    simp only [tyT] at e
    split at e
    · rename_i ts e1
      cases e
      obtain ⟨a, vs, rfl, h, _⟩ := plnL_ok (t := .ref n) (ts := ts) (by simp only [plnL, e1]) st r
      exact .base (.lst h)
    · rename_i ks ts e1
      cases e
      obtain ⟨a, vs, rfl, h, _⟩ := dctT_ok (t := .ref n) (ks := ks) (ts := ts) (by simp only [dctT, e1]) st r
      exact .base (.dK h)
    · cases e
  | val u => simp only [tyT] at e; cases e
def isiT (S : Sto) (ts : List T) : Option T := match ts with
  | [t, .val (.ty n)] => (tyT S t).bind fun m => (kitB m n).map .bl
  | _ => none
theorem c_isi : CallR X (.builtin "isinstance") (rN X.K isiT) := by
  intro pins s σ H xs us Q I rv q
  obtain ⟨μ, S, ts, t, st, r, e, q⟩ := q
  unfold isiT at e
  split at e
  · obtain ⟨v, w, ev, rr, r2⟩ := rels2 r
    subst ev
    replace r := rr
    simp only [Rel] at r2
    subst r2
    simp only [Option.bind_eq_some_iff, Option.map_eq_some_iff] at e
    obtain ⟨m, hm, b, hb, rfl⟩ := e
    exact call_isi pins s σ H _ us Q I rv ⟨_, _, _, _, _, rfl, .ty _, tyT_ok hm st r, kit_ty hb, q _ H (Same.refl _) rel_bl⟩
  · cases e
def dispD : PyData → Bool
  | .list _ => true
  | .tuple _ => true
  | _ => false
def rNw (K : PySem.W.Frag) (g : Sto → List T → Option T) : List V → Hp → VK → Prop := fun xs H Q => ∃ μ S ts c, RelS K H μ S ∧ Rels K H μ ts xs ∧ g S ts = some c ∧ ∀ p o, H p = none → CellR K (upd H p o) (μ.hide p) p c → Q (.ref p) (upd H p o)
variable {x : Str} {p : Pos} {e : Expr} {es : List Expr} {Fs : FA} {g : Sto → List T → Option T} {id : String}
theorem nw_imp {σ : L2.St} {H : Hp} {Q : VK} (h : tN X.K wx (fBlt g Fs) σ H Q) : tCB (rNw X.K g) (tG X.K wx (rVs X.K) Fs) σ H Q := by
  obtain ⟨μ, τ, S, s, fr, h⟩ := h
  refine tG.seqN s fr h fun μ1 H1 ts vs S1 A1 h1 => ?_
  cases e : g S1 ts with
  | none => simp only [e, ofO] at h1; exact h1.elim
  | some c =>
    simp only [e, ofO] at h1
    exact ⟨μ1, S1, ts, c, A1.st, A1.rel, e, fun p o hp hc => new_at A1.ext h1 A1.st hp hc⟩
theorem pfn_blt (hc : CallR X (.builtin id) (rNw X.K g)) (hm : X.mg x = none) (hv : bootBuiltins x = some (.builtin id)) (ha : PFA X wx (e :: es) Fs) (hg : Gl X x := by rfl) (hn : x ≠ "__name__" := by decide) (hdb : (x == ("__debug__" : Str)) = false := by decide)
    (he : starEach (e :: es) X.env = (false, eval e X.env) :: starEach es X.env := by rfl) (hpl : (backTo pos (starEach es X.env)).any (·.1) = false := by rfl) : PFN X wx (.Call (.Name x p) (e :: es) [] pos) (fBlt g Fs) :=
  PE.imp (pe_callB hc hg hm hv ha hn hdb he hpl) fun _ _ _ h => nw_imp h
theorem pfn_bltTy (hc : CallR X (.type id) (rNw X.K g)) (hm : X.mg x = none) (hv : bootBuiltins x = some (.type id)) (ha : PFA X wx (e :: es) Fs) (hg : Gl X x := by rfl) (hn : x ≠ "__name__" := by decide) (hdb : (x == ("__debug__" : Str)) = false := by decide)
    (he : starEach (e :: es) X.env = (false, eval e X.env) :: starEach es X.env := by rfl) (hpl : (backTo pos (starEach es X.env)).any (·.1) = false := by rfl) : PFN X wx (.Call (.Name x p) (e :: es) [] pos) (fBlt g Fs) :=
  PE.imp (pe_callTy hc hg hm hv ha hn hdb he hpl) fun _ _ _ h => nw_imp h
def listT (S : Sto) (ts : List T) : Option T := match ts with
  | [.tup ts] => some (.lst ts)
  | [t] => match dctT S t with
    | some (ks, _) => some (.lst (ks.map tKey))
    | none => (seqL S t).map .lst
  | _ => none
theorem keys_rels : ∀ ks : List Key, Rels K H μ (ks.map tKey) (ks.map kV)
  | [] => by simp only [List.map_nil, Rels]
  | k :: ks => by
    simp only [List.map_cons, Rels]
    exact ⟨kV k, _, rfl, tKey_rel k, keys_rels ks⟩
theorem c_list (hc : X.calm = true) : CallR X (.type "list") (rNw X.K listT) := by
  intro pins s σ H xs us Q I rv q
  obtain ⟨μ, S, ts, t, st, r, e, q⟩ := q
  unfold listT at e
  split at e
  · cases e
    obtain ⟨v, ev, rr⟩ := rels1 r
    subst ev
    replace r := rr
    obtain ⟨a, vs, rfl, ha, r⟩ := tup_ok r
    exact call_list_of pins s σ H _ us Q I rv ⟨a, vs, rfl, .inr ha, fun l hl => q _ _ hl ⟨vs, upd_same, rels_new hl r⟩⟩
  · obtain ⟨v, ev, rr⟩ := rels1 r
    subst ev
    replace r := rr
    split at e
    · rename_i ks ts h
      cases e
      obtain ⟨a, kvs, rfl, ha, ek, rk⟩ := dctT_ok h st r
      refine call_listD hc pins s σ H _ us Q I rv ⟨a, kvs, rfl, .inl ha, fun l hl => q _ _ hl ⟨_, upd_same, ?_⟩⟩
      have := keys_rels (K := X.K) (H := upd H l (.lst (kvs.map fun kv => kV kv.1))) (μ := μ.hide l) ks
      rw [← ek, List.map_map] at this
      rw [← ek, List.map_map]
      rw [List.map_map] at this
      exact this
    · simp only [Option.map_eq_some_iff] at e
      obtain ⟨ts, h, rfl⟩ := e
      obtain ⟨a, vs, rfl, ha, r⟩ := seqL_ok h st r
      exact call_list_of pins s σ H _ us Q I rv ⟨a, vs, rfl, .inl ha, fun l hl => q _ _ hl ⟨vs, upd_same, rels_new hl r⟩⟩
  · cases e
def mergeT (kt : List Key × List T) (more : List (Key × T)) : List Key × List T := more.foldl (fun acc kv => putK' acc.1 acc.2 kv.1 kv.2) kt
theorem merge_ok : ∀ {more : List (Key × T)} {kvs m : List (Key × V)} {ks : List Key} {ts : List T}, kvs.map (·.1) = ks → Rels K H μ ts (kvs.map (·.2)) → m.map (·.1) = more.map (·.1) → Rels K H μ (more.map (·.2)) (m.map (·.2)) →
    (mergeK kvs m).map (·.1) = (mergeT (ks, ts) more).1 ∧ Rels K H μ (mergeT (ks, ts) more).2 ((mergeK kvs m).map (·.2))
  | [], kvs, m, ks, ts, e, r, em, rm => by
    have : m = [] := by simpa using em
    subst this
    exact ⟨e, r⟩
  | (k, t) :: more, kvs, m, ks, ts, e, r, em, rm => by
    cases m with
    | nil => simp at em
    | cons p m =>
      obtain ⟨k', v⟩ := p
      simp only [List.map_cons, List.cons.injEq] at em
      obtain ⟨rfl, em⟩ := em
      simp only [List.map_cons, Rels] at rm
      obtain ⟨w, r', e', r1, r2⟩ := rm
      cases e'
      obtain ⟨q1, q2⟩ := putK_ok (k := k') (t := t) (v := v) e r r1
      exact merge_ok (more := more) (m := m) q1 q2 em r2
end
end TL
set_option Elab.async false
set_option linter.all false
set_option maxRecDepth 100000
namespace TL
open PySem PySem.Spec L2
open PyProof.Rows hiding St
section
variable {K : PySem.W.Frag} {H : Hp} {μ : Mu} {S : Sto} {n : Nat} {a : Addr} {o : HO} {c : T}
theorem cell_keep (ha : μ.c[n]? = some a) : ∀ b u, H b = some u → μ.out b → upd H a o b = some u ∧ μ.out b := fun b u e z => ⟨by rw [upd_ne (fun q : b = a => z.1 (q ▸ List.mem_of_getElem? ha))]; exact e, z⟩
theorem Ext.setc (ha : μ.c[n]? = some a) : Ext H μ (upd H a o) μ :=
  ⟨⟨[], by simp, fun _ z => nomatch z⟩, ⟨fun _ z => z, fun _ z => .inl z⟩, fun b u e z _ => by rw [upd_ne (fun q : b = a => z (q ▸ List.mem_of_getElem? ha))]; exact e, fun b z => by
    by_cases q : b = a
    · subst q; rw [upd_same]; simp
    · rw [upd_ne q]; exact z, rfl⟩
theorem RelS.setc (s : RelS K H μ S) (ha : μ.c[n]? = some a) (hc : CellR K (upd H a o) μ a c) : RelS K (upd H a o) μ (S.set n c) := by
  have hn : n < S.length := by rw [← s.len]; exact (List.getElem?_eq_some_iff.mp ha).1
  refine ⟨by rw [List.length_set]; exact s.len, s.nd, fun m c' b e1 e2 => ?_, fun p hp => ?_, s.dis, fun p hp => (s.tab p hp).to (cell_keep ha)⟩
  · by_cases h : n = m
    · subst h
      rw [List.getElem?_set_self hn] at e1
      cases e1
      rw [ha] at e2
      cases e2
      exact hc
    · rw [List.getElem?_set_ne h] at e1
      have ne : b ≠ a := fun q => by
        subst q
        obtain ⟨h1, e1'⟩ := List.getElem?_eq_some_iff.mp ha
        obtain ⟨h2, e2'⟩ := List.getElem?_eq_some_iff.mp e2
        exact h ((List.getElem_inj s.nd).mp (e1'.trans e2'.symm))
      exact CellR.to (μ := μ) (fun _ _ e => e) (cell_keep ha) (q := s.cell m c' b e1 e2) fun u e => by rw [upd_ne ne]; exact e
  · by_cases q : p = a
    · subst q; rw [upd_same]; simp
    · rw [upd_ne q]; exact s.live p hp
theorem rels_setc (ha : μ.c[n]? = some a) {ts : List T} {vs : List V} (r : Rels K H μ ts vs) : Rels K (upd H a o) μ ts vs := Rels.to (μ := μ) (μ' := μ) (fun _ _ e => e) (cell_keep ha) ts r
theorem rel_setc (ha : μ.c[n]? = some a) {t : T} {v : V} (r : Rel K H μ t v) : Rel K (upd H a o) μ t v := Rel.to (μ := μ) (μ' := μ) (fun _ _ e => e) (cell_keep ha) t r
end
section
variable {X : Cx} {wx : WT} {pos : Pos}
def lstAt (S : Sto) (n : Nat) : Option (List T) := match S[n]? with
  | some (.lst ts) => some ts
  | _ => none
theorem lstAt_ok {K : PySem.W.Frag} {H : Hp} {μ : Mu} {S : Sto} {n : Nat} {ts : List T} (e : lstAt S n = some ts) (s : RelS K H μ S) : ∃ a vs, μ.c[n]? = some a ∧ H a = some (.lst vs) ∧ Rels K H μ ts vs := by
  unfold lstAt at e
  split at e
  · rename_i us h
    cases e
    obtain ⟨a, ha, vs, h1, h2⟩ := cell_at s h
    exact ⟨a, vs, ha, h1, h2⟩
  · cases e
def fApp (Fo : FE) (Fs : FA) : FE := fun τ S => (Fo τ S).bind fun o S1 => match o with
  | .ref n => match lstAt S1 n with
    | some _ => (Fs τ S1).bind fun ts S2 => match ts, lstAt S2 n with
      | [y], some xs => if xs.length < sizeLine then .ok .non (S2.set n (.lst (xs ++ [y]))) else .stuck
      | _, _ => .stuck
    | none => .stuck
  | _ => .stuck
theorem pf_append {o e : Expr} {Fo : FE} {Fs : FA} {apos cpos : Pos} (ho : PF X wx o Fo) (ha : PFA X wx [e] Fs)
    (hbase : attributeBase o "append" X.env (eval o X.env) = eval o X.env := by rfl)
    (hfew : ((backTo cpos (starEach [e] X.env)).all (fun x => !x.1) && (backToKw cpos (keywordEach [] X.env)).all (fun x => x.1.isSome)
      && decide (([e] : List Expr).length + ([] : List Keyword).length + (if ([] : List Keyword).isEmpty then 0 else 1) < 30)) = true := by rfl)
    (hline : (apos.endLine == cpos.line) = true := by rfl) (hs : starEach [e] X.env = (false, eval e X.env) :: starEach [] X.env := by rfl) (hplain : (backTo cpos (starEach [] X.env)).any (·.1) = false := by rfl) :
    PF X wx (.Call (.Attribute o "append" apos) [e] [] cpos) (fApp Fo Fs) := PE.imp (pe_bm PySem.F.plainAttrs_list PySem.F.slot_list_append PySem.F.type_list_append mt_append ho ha hbase hfew hline hs hplain) fun σ H Q h => by
  obtain ⟨μ, τ, S, s, f, h⟩ := h
  refine tG.seq s f h fun μ1 H1 x v S1 A1 h1 => ?_
  cases x with
  | ref n =>
    simp only at h1
    cases e1 : lstAt S1 n with
    | none => simp only [e1] at h1; exact h1.elim
    | some us =>
      simp only [e1] at h1
      have r := A1.rel
      simp only [Rel] at r
      obtain ⟨a, ha1, rfl⟩ := r
      obtain ⟨a', vs, ha', hl, _⟩ := lstAt_ok e1 A1.st
      rw [ha1] at ha'
      cases ha'
      refine ⟨.inl ⟨rfl, vs, .inl (.inl hl)⟩, tG.seq A1.st A1.fr h1 fun μ2 H2 ts ws S2 A2 h2 => ?_⟩
      have r2 := A2.rel
      split at h2
      · rename_i y xs e2
        obtain ⟨w, rfl, r3⟩ := rels1 r2
        split at h2
        · rename_i hz
          obtain ⟨b, us', hb, hl2, r4⟩ := lstAt_ok e2 A2.st
          obtain ⟨ν, eν, _⟩ := A2.ext.pre
          have ha2 : μ2.c[n]? = some a := by rw [eν, List.getElem?_append_left (List.getElem?_eq_some_iff.mp ha1).1]; exact ha1
          rw [ha2] at hb
          cases hb
          refine ⟨a, us', w, rfl, rfl, hl2, by rw [← r4.length]; exact hz, h2 μ2 .non _ (Ext.setc ha2) (A2.st.setc ha2 ⟨_, upd_same, ?_⟩) (by simp only [Rel])⟩
          refine Rels.append (rels_setc ha2 r4) ?_
          simp only [Rels]
          exact ⟨w, [], rfl, rel_setc ha2 r3, rfl⟩
        · exact h2.elim
      · exact h2.elim
  | _ => exact h1.elim
def setT (S : Sto) (o i v : T) : Option Sto := match o with
  | .ref n => match S[n]? with
    | some (.lst ts) => match i with
      | .int k => (ixN ts.length k).map fun j => S.set n (.lst (ts.set j v))
      | _ => none
    | some (.dct ks ts) => (keyT i).bind fun k => if ks.length < sizeLine then some (S.set n (.dct (putK' ks ts k v).1 (putK' ks ts k v).2)) else none
    | _ => none
  | _ => none
def rSet (K : PySem.W.Frag) : TSet := fun o i v H Q => ∃ μ S to ti tv S', RelS K H μ S ∧ Rel K H μ to o ∧ Rel K H μ ti i ∧ Rel K H μ tv v ∧ setT S to ti tv = some S' ∧ ∀ H', Ext H μ H' μ → RelS K H' μ S' → Q H'
theorem o_set (hu : X.A.units + 64 < cLine) : PSet X (rSet X.K) := by
  intro pins s σ H o i v ov iv u Q I ro ri rv q
  obtain ⟨μ, S, to, ti, tv, S', st, r1, r2, r3, e, q⟩ := q
  cases to with
  | ref n =>
    simp only [setT] at e
    split at e
    · rename_i ts e1
      split at e
      · rename_i k
        simp only [Option.map_eq_some_iff] at e
        obtain ⟨j, hj, rfl⟩ := e
        simp only [Rel] at r1 r2
        obtain ⟨a, ha, rfl⟩ := r1
        subst r2
        obtain ⟨a', ha', vs, hl, rl⟩ := cell_at st e1
        rw [ha] at ha'
        cases ha'
        exact set_list pins s σ H _ _ v ov iv u Q I ro ri rv ⟨a, vs, k, j, rfl, rfl, hl, by rw [← rl.length]; exact hj, q _ (Ext.setc ha) (st.setc ha ⟨_, upd_same, Rels.set j (rels_setc ha rl) (rel_setc ha r3)⟩)⟩
      · cases e
    · rename_i ks ts e1
      simp only [Option.bind_eq_some_iff] at e
      obtain ⟨k, hk, e⟩ := e
      split at e
      · rename_i hz
        cases e
        have := keyT_ok hk r2
        subst this
        simp only [Rel] at r1
        obtain ⟨a, ha, rfl⟩ := r1
        obtain ⟨a', ha', kvs, hl, ek, rk⟩ := cell_at st e1
        rw [ha] at ha'
        cases ha'
        cases ro
        obtain ⟨z1, z2⟩ := putK_ok (k := k) (t := tv) (v := v) ek rk r3
        refine d_setItem (by omega) I (DPut.k hl (by rw [← ek, List.length_map] at hz; exact hz)) ri rv fun s' I' => ⟨_, I', q _ (Ext.setc ha) (st.setc ha ⟨_, upd_same, z1, rels_setc ha z2⟩)⟩
      · cases e
    · cases e
  | _ => cases e
def bStore (Fo Fi Fv : FE) : BS := fun τ S => (Fv τ S).bindS τ fun v S1 => (Fo τ S1).bindS τ fun o S2 => (Fi τ S2).bindS τ fun i S3 => match setT S3 o i v with
  | some S4 => .nx τ S4
  | none => .stuck
theorem pfs_store {o i e : Expr} {Fo Fi Fv : FE} {tpos : Pos} (hu : X.A.units + 64 < cLine) (he : PF X wx e Fv) (ho : PF X wx o Fo) (hi : PF X wx i Fi)
    (ha : ∀ v, assign (.Subscript o i tpos) X.env v = (do
      let ov ← holding [v] (eval o X.env)
      let iv ← holding [v, ov] (eval i X.env)
      standAt tpos
      holding [v, ov, iv] (setItem ov iv v)
      release [v, ov, iv] []) := by intro _; rfl)
    (hs : swapsWithSole [.Subscript o i tpos] e pos.line X.env = pure false := by rfl) (hw : swappedStores [.Subscript o i tpos] e X.env = pure none := by rfl)
    (h1 : (assignEach [.Subscript o i tpos] X.env).map (·.2) = [assign (.Subscript o i tpos) X.env] := by rfl) : PFS X wx (.Assign [.Subscript o i tpos] e pos) (bStore Fo Fi Fv) := PS.imp (ps_asg he (pg_sub ho hi (o_set hu) ha) hs hw h1) fun D σ H h => by
  obtain ⟨μ, τ, S, s, f, h⟩ := h
  refine tG.seqS s f h fun μ1 H1 v v' S1 A1 h1 => tG.seqS A1.st A1.fr h1 fun μ2 H2 o o' S2 A2 h2 => tG.seqS A2.st A2.fr h2 fun μ3 H3 i i' S3 A3 h3 => ?_
  cases e : setT S3 o i v with
  | none => simp only [e] at h3; exact h3.elim
  | some S4 =>
    simp only [e] at h3
    exact ⟨μ3, S3, o, i, v, S4, A3.st, Rel.mono A3.ext _ A2.rel, A3.rel, Rel.mono A3.ext _ (Rel.mono A2.ext _ A1.rel), e, fun H' E st => h3 μ3 σ H' E st (A3.fr.mono E)⟩
def prF : List (FE × FE) → Fr → Sto → Res (List (T × T))
  | [], _, S => .ok [] S
  | (Fk, Fv) :: r, τ, S => (Fk τ S).bind fun k S1 => (Fv τ S1).bind fun v S2 => (prF r τ S2).bind fun ps S3 => .ok ((k, v) :: ps) S3
def PFPs (X : Cx) (wx : WT) (pos : Pos) (ks : List (Option Expr)) (vs : List Expr) (fs : List (FE × FE)) : Prop := PPs X pos ks vs (fs.map fun p => (tG X.K wx (rV X.K) p.1, tG X.K wx (rV X.K) p.2))
theorem pfps_nil : PFPs X wx pos [] [] [] := pps_nil
theorem pfps_cons {k v : Expr} {ks : List (Option Expr)} {vs : List Expr} {Fk Fv : FE} {fs : List (FE × FE)} (hk : PF X wx k Fk) (hv : PF X wx v Fv) (hr : PFPs X wx pos ks vs fs) : PFPs X wx pos (some k :: ks) (v :: vs) ((Fk, Fv) :: fs) := pps_cons hk hv hr
inductive PrR (K : PySem.W.Frag) (H : Hp) (μ : Mu) : List (T × T) → List (V × V) → Prop
  | nil : PrR K H μ [] []
  | cons {a b : T} {x y : V} {l : List (T × T)} {l' : List (V × V)} : Rel K H μ a x → Rel K H μ b y → PrR K H μ l l' → PrR K H μ ((a, b) :: l) ((x, y) :: l')
theorem prs_run {K : PySem.W.Frag} {τ : Fr} {σ : L2.St} : ∀ {fs : List (FE × FE)} {μ : Mu} {H : Hp} {S S1 : Sto} {prs : List (T × T)} {Q : List (V × V) → Hp → Prop}, RelS K H μ S → RelF K H μ τ σ → prF fs τ S = .ok prs S1 →
    (∀ μ1 H1 vps, Ext H μ H1 μ1 → RelS K H1 μ1 S1 → PrR K H1 μ1 prs vps → Q vps H1) → tPairs (fs.map fun p => (tG K wx (rV K) p.1, tG K wx (rV K) p.2)) σ H Q
  | [], μ, H, S, S1, prs, Q, s, f, e, h => by
    simp only [prF] at e
    cases e
    exact h μ H [] (Ext.refl _ _) s .nil
  | (Fk, Fv) :: r, μ, H, S, S1, prs, Q, s, f, e, h => by
    simp only [prF] at e
    cases ek : Fk τ S with
    | stuck => rw [ek] at e; cases e
    | exc x S' => rw [ek] at e; cases e
    | ok k S2 =>
      rw [ek] at e
      simp only [Res.bind] at e
      cases ev : Fv τ S2 with
      | stuck => rw [ev] at e; cases e
      | exc x S' => rw [ev] at e; cases e
      | ok v S3 =>
        rw [ev] at e
        simp only at e
        cases er : prF r τ S3 with
        | stuck => rw [er] at e; cases e
        | exc x S' => rw [er] at e; cases e
        | ok ps S4 =>
          rw [er] at e
          cases e
          refine tG.known s f ek fun μ1 H1 x A1 => tG.known A1.st A1.fr ev fun μ2 H2 y A2 => prs_run A2.st A2.fr er fun μ3 H3 vps E3 s3 r3 => ?_
          exact h μ3 H3 _ ((A1.ext.trans A2.ext).trans E3) s3 (.cons (Rel.mono E3 _ (Rel.mono A2.ext _ A1.rel)) (Rel.mono E3 _ A2.rel) r3)
def keyed : List (T × T) → Option (List (Key × T))
  | [] => some []
  | (k, v) :: r => (keyT k).bind fun k => (keyed r).map fun r => (k, v) :: r
theorem keyed_ok {K : PySem.W.Frag} {H : Hp} {μ : Mu} : ∀ {prs : List (T × T)} {m : List (Key × T)} {vps : List (V × V)}, keyed prs = some m → PrR K H μ prs vps → ∃ kvs : List (Key × V), vps = kvs.map (fun kv => (kV kv.1, kv.2)) ∧ kvs.map (·.1) = m.map (·.1) ∧ Rels K H μ (m.map (·.2)) (kvs.map (·.2))
  | [], _, _, e, r => by
    simp only [keyed] at e; cases e
    cases r
    exact ⟨[], rfl, rfl, by simp only [List.map_nil, Rels]⟩
  | (k, v) :: prs, _, _, e, r => by
    simp only [keyed, Option.bind_eq_some_iff, Option.map_eq_some_iff] at e
    obtain ⟨k', hk, m, hm, rfl⟩ := e
    cases r with
    | @cons _ _ x y _ _ r1 r2 r3 =>
      obtain ⟨kvs, rfl, q1, q2⟩ := keyed_ok hm r3
      have := keyT_ok hk r1
      subst this
      exact ⟨(k', y) :: kvs, rfl, by simp [q1], by simp only [List.map_cons, Rels]; exact ⟨y, _, rfl, r2, q2⟩⟩
def fDisp (fs : List (FE × FE)) : FE := fun τ S => (prF fs τ S).nox.bind fun prs S1 => match keyed prs with
  | some m => if m.length ≤ 15 then .ok (.dct (mergeT ([], []) m).1 (mergeT ([], []) m).2) S1 else .stuck
  | none => .stuck
theorem pfn_disp {ks : List (Option Expr)} {vs : List Expr} {fs : List (FE × FE)} (h : PFPs X wx pos ks vs fs) (hall : ks.all (·.isSome) = true := by rfl) (hl : ks.length = vs.length := by rfl) (h0 : ks ≠ [] := by exact fun z => nomatch z) (h15 : ks.length ≤ 15 := by decide) :
    PFN X wx (.Dict ks vs pos) (fDisp fs) := PE.imp (pe_disp h hall hl h0 h15) fun σ H Q q => by
  obtain ⟨μ, τ, S, s, f, q⟩ := q
  intro p hp
  unfold fDisp at q
  cases e : prF fs τ S with
  | stuck => rw [e] at q; exact q.elim
  | exc x S1 => rw [e] at q; exact q.elim
  | ok prs S1 =>
    rw [e] at q
    simp only [Res.nox, Res.bind] at q
    have f1 : RelF X.K (upd H p (.dK [])) (μ.hide p) τ σ := RelF.to (μ := μ) (fun _ _ e => e) (hide_keep hp) f
    refine prs_run (s.hide hp) f1 e fun μ1 H1 vps E1 s1 r1 => ?_
    have dn : p ∈ μ1.r := E1.res.1 p List.mem_cons_self
    have hd : H1 p = some (.dK []) := E1.kp p _ upd_same (fun z => (s.hide (o := .dK []) hp).dis p List.mem_cons_self z)
    refine ⟨hd, ?_⟩
    cases ek : keyed prs with
    | none => simp only [ek] at q; exact q.elim
    | some m =>
      simp only [ek] at q
      split at q
      · rename_i hz
        obtain ⟨kvs, e2, q1, q2⟩ := keyed_ok ek r1
        have hlen : kvs.length = m.length := by simpa using congrArg List.length q1
        refine ⟨kvs, e2, by omega, ?_⟩
        obtain ⟨z1, z2⟩ := merge_ok (more := m) (kvs := []) (m := kvs) (ks := []) (ts := []) (K := X.K) (H := H1) (μ := μ1) rfl (by simp only [List.map_nil, Rels]) q1 q2
        refine q μ1 _ p (((Ext.hide hp).trans E1).hid hp) hp dn (s1.hid dn) ⟨_, upd_same, z1, Rels.to (μ := μ1) (μ' := μ1) (fun _ _ e => e) (hid_keep dn) _ z2⟩
      · exact q.elim
theorem pfn_dict0 : PFN X wx (.Dict [] [] pos) (fun _ S => .ok (.dct [] []) S) := PE.imp pe_dnewK fun σ H Q q => by
  obtain ⟨μ, τ, S, s, f, q⟩ := q
  exact fun p hp => new_at (Ext.refl _ _) q s hp ⟨[], upd_same, rfl, by simp only [List.map_nil, Rels]⟩
def itemsT (ks : List Key) (ts : List T) : List T := List.zipWith (fun k t => .tup [tKey k, t]) ks ts
def fItems (F : FE) : FE := fun τ S => (F τ S).bind fun d S1 => match dctT S1 d with
  | some (ks, ts) => .ok (.lst (itemsT ks ts)) S1
  | none => .stuck
end
end TL
set_option Elab.async false
set_option linter.all false
set_option maxRecDepth 100000
namespace TL
open PySem PySem.Spec L2
open PyProof.Rows hiding St
open AutoSeq1 (wpAny_loadPart') in
set_option maxHeartbeats 1000000 in
theorem enum_newT (a : Addr) (items : Array Value) (n : Nat) (dd : Option Addr) (sl : Array (Option Value)) :
    Meets (Builtin.«enumerate.__new__» ⟨[.type "enumerate", .ref a], []⟩) (fun _ R s => s.heap.get? a = some { cls := .type "tuple", dict := dd, data := .seq items n, slots := sl } ∧
      R (.ok (.ret (.ref (s.heap.push { cls := .type "tuple_iterator", data := .fields #[.ref a, .int 0 0] }).objs.size)))
        { s with heap := (s.heap.push { cls := .type "tuple_iterator", data := .fields #[.ref a, .int 0 0] }).push { cls := .type "enumerate", data := .fields #[.none, .bool false, .ref s.heap.objs.size, rawInt 0, .none, .none] } }) :=
  .of_wp fun prog w A R s q => by
    obtain ⟨h0, g, d, tk, os⟩ := s
    obtain ⟨ha, q⟩ := q
    have hE := sub_enumerate
    have hT : Heap.IsTuple (Shared.heap ⟨h0, g, d, tk, os⟩) a items := ⟨_, ha, rfl, n, rfl⟩
    wp_walk using wpAny_loadPart' ha
    refine wpAny_stack_any fun st => wpAny_pure ?_
    split
    case h_1 c _ _ _ _ _ => cases (c == Value.type "enumerate") <;> (wp_walk using wpAny_loadPart' ha, wpAny_pyIter_tuple hT; exact ⟨_, rfl, q⟩)
    all_goals (wp_walk using wpAny_loadPart' ha, wpAny_pyIter_tuple hT; exact ⟨_, rfl, q⟩)
theorem call_enumT {prog : Program} {w : World} {A : Around} {E : Value → Shared → Prop} {s : Shared} {a : Addr} {items : Array Value} {Q : Value → Shared → Prop} (hT : s.heap.IsTuple a items)
    (q : ∀ h', IsEnum h' (s.heap.objs.size + 1) s.heap.objs.size 0 .none → h'.IsTupleIter s.heap.objs.size a 0 → (∀ b o, s.heap.get? b = some o → h'.get? b = some o) → Q (.ref (s.heap.objs.size + 1)) { s with heap := h' }) :
    wpAny (model prog w) A (call (.type "enumerate") [.ref a]) Q E s := by
  obtain ⟨⟨c, dd, dt, sl⟩, ha, hc, n, hd⟩ := hT
  simp only at hc hd
  subst hc hd
  refine callType_new F.called_enumerate (by decide) (F.typeCall_enumerate_1 _) (F.newCall_enumerate_1 _) (fun o => F.args_object_init_2 o _) F.entry_enumerate_new (enum_newT a items n dd sl) ⟨ha, ?_⟩
  have z : (s.heap.push { cls := .type "tuple_iterator", data := .fields #[.ref a, .int 0 0] }).objs.size = s.heap.objs.size + 1 := Heap.size_push ..
  have e1 := Heap.get?_push_size (s.heap.push { cls := .type "tuple_iterator", data := .fields #[.ref a, .int 0 0] }) (o := { cls := .type "enumerate", data := .fields #[.none, .bool false, .ref s.heap.objs.size, rawInt 0, .none, .none] }) rfl
  rw [z] at e1
  show _ ∧ _
  rw [z]
  exact ⟨⟨_, e1, rfl⟩, q _ e1 ⟨_, Heap.get?_push_of_some _ (Heap.get?_push_size _ rfl), rfl, rfl⟩ fun b o y => Heap.get?_push_of_some _ (Heap.get?_push_of_some _ y)⟩
def ItE (K : PySem.W.Frag) (a : Addr) : It :=
  ⟨fun i H => ∃ (xs : List V) (x : V), SqT K H a xs ∧ xs[i]? = some x, fun i H v H' => ∃ T x, v = .ref T ∧ H T = none ∧ H' = upd H T (.tup [.int (i : Nat), x]) ∧ ∀ xs, SqT K H a xs → xs[i]? = some x, fun i H => ∃ xs : List V, SqT K H a xs ∧ xs.length ≤ i⟩
theorem turn_enumT {P : Program} {w : World} {K : PySem.W.Frag} {elts : List Expr} {kk : Nat} {tpos : Pos} (a e it : Addr) :
    Turn P w K (.Tuple elts kk tpos) (ItE K a) [e, it] e (fun i h => (∃ old, IsEnum h e it ((i : Nat) : Int) old) ∧ h.IsTupleIter it a i ∧ e ≠ it) where
  mem := List.mem_cons_self
  obj := fun i h st b hb => by
    obtain ⟨⟨old, he⟩, ⟨o, ho, hc, hd⟩, _⟩ := st
    rcases List.mem_cons.mp hb with z | z
    · subst z; exact ⟨_, he, fun v q => nomatch q⟩
    · rw [List.mem_singleton.mp z]; exact ⟨o, ho, fun v q => by rw [hd] at q; cases q⟩
  keep := fun i h h' st k => by
    obtain ⟨⟨old, he⟩, hi, hne⟩ := st
    exact ⟨⟨old, k e List.mem_cons_self _ he⟩, hi.at fun o q => k it (List.mem_cons_of_mem _ List.mem_cons_self) o q, hne⟩
  item := by
    intro X hP hw hK hc i pins s σ H E I hf st hg
    subst hP hw hK
    obtain ⟨⟨old, he⟩, hit, hne⟩ := st
    obtain ⟨xs, x, hq, hx⟩ := hg
    obtain ⟨its, rv, p, hz⟩ := I.tuple hq
    obtain ⟨u, hu, ru⟩ := rv.get hx
    have hT : s.heap.IsTuple a its.toArray := p
    have nae : e ≠ a := fun z => by
      subst z
      obtain ⟨o, ho, hc', _⟩ := hT
      have : s.heap.get? e = some _ := he
      rw [ho] at this
      cases this
      exact absurd (show Value.type "enumerate" = Value.type "tuple" from hc') (by decide)
    have nai : a ≠ it := fun z => by
      subst z
      obtain ⟨o, ho, hc', _⟩ := hT
      obtain ⟨o2, ho2, hc2, _⟩ := hit
      rw [ho] at ho2
      cases ho2
      rw [hc'] at hc2
      exact absurd hc2 (by decide)
    have hel : e < s.heap.objs.size := Heap.lt_size he
    have hil : it < s.heap.objs.size := by obtain ⟨_, q, _⟩ := hit; exact Heap.lt_size q
    have hlt : i < its.toArray.size := by
      have := (List.getElem?_eq_some_iff.mp hu).1
      simpa using this
    refine wpAny_pyNext_enum_itemD (Draws.tuple (A := X.A.in1) (I.ok.hd hc) it a nai its.toArray) he ⟨hit, hT⟩ hlt hne (by simp [hne, nae]) fun y h' tk hP' ho hit' hTn hsz hk => ?_
    have ey : y = u := by
      have z : its.toArray[i]? = some y := hP'
      simp only [List.getElem?_toArray] at z
      rw [hu] at z
      exact (Option.some.inj z).symm
    subst ey
    refine ⟨_, rfl, wpAny_letOwnedTupleGo_enum (s := { s with heap := h', toks := tk + 1 }) ho fun h'' he' sb => ?_⟩
    have hT2 : h''.get? s.heap.objs.size = some { cls := .type "tuple", data := .seq #[.int i tk, y] } := (sb.2 _ (Nat.ne_of_gt hel)).trans hTn
    have new : ObjOk X.prog X.w (upd H s.heap.objs.size (.tup [.int (i : Nat), x])) h'' s.heap.objs.size (.tup [.int (i : Nat), x]) :=
      ⟨by show 2 ≤ sizeLine; decide, [.int i tk, y], .cons ⟨_, rfl⟩ (.cons ru .nil), ⟨_, hT2, rfl, _, rfl⟩⟩
    have I1 : L2.Inv X pins σ (upd H s.heap.objs.size (.tup [.int (i : Nat), x])) { s with heap := h'', toks := tk + 1 } := by
      refine I.turnedNew (ch := [e, it]) (fun b ob hb q => ?_) hf (Nat.le_refl _) new
      have h1 : b ≠ e := fun z => hb (by simp [z])
      have h2 : b ≠ it := fun z => hb (by simp [z])
      exact (sb.2 b h1).trans (hk b ob h1 h2 q)
    refine ⟨.ref s.heap.objs.size, _, I1, rfl, ⟨_, x, rfl, I.hok.fresh (Nat.le_refl _), rfl, fun ys hy => by rw [I.tuple_inj hy hq]; exact hx⟩, ⟨⟨y, ?_⟩, hit'.1.at fun o q => (sb.2 it (Ne.symm hne)).trans q, hne⟩, fun b hb => ?_⟩
    · rw [show ((i + 1 : Nat) : Int) = (i : Int) + 1 by omega]
      exact he'
    · have hb' : b < s.heap.objs.size := by
        rcases List.mem_cons.mp hb with z | z
        · rw [z]; exact hel
        · rw [List.mem_singleton.mp z]; exact hil
      rw [upd_ne (Nat.ne_of_lt hb')]
      exact (hf b hb).1
  done := by
    intro X hP hw hK hc i pins s σ H E I hf st hg
    subst hP hw hK
    obtain ⟨⟨old, he⟩, hit, hne⟩ := st
    obtain ⟨xs, hq, hx⟩ := hg
    obtain ⟨its, rv, p, hz⟩ := I.tuple hq
    have hT : s.heap.IsTuple a its.toArray := p
    have nai : a ≠ it := fun z => by
      subst z
      obtain ⟨o, ho, hc', _⟩ := hT
      obtain ⟨o2, ho2, hc2, _⟩ := hit
      rw [ho] at ho2
      cases ho2
      rw [hc'] at hc2
      exact absurd hc2 (by decide)
    obtain ⟨f0, f1, f2, f3, f4, f5⟩ := hf it (by simp)
    have hl := rv.length
    have hnone : its.toArray[i]? = none := by
      rw [List.getElem?_toArray]
      exact List.getElem?_eq_none (by omega)
    have D : Draws X.prog X.w X.A.in1 it [it, a] 0 (fun _ _ => False) (fun _ h => h.IsTupleIter it a i ∧ h.IsTuple a its.toArray) :=
      ⟨fun _ _ st => let ⟨o, ho, _⟩ := st.1; ⟨o, ho⟩, fun _ _ _ st hk => ⟨st.1.at fun o e => hk it (by simp) o e, st.2.at fun o e => hk a (by simp) o e⟩, fun _ _ _ _ hi _ _ => absurd hi (Nat.not_lt_zero _),
        fun s Q E st hE => wpAny_nextOf_tuple_end (show X.A.in1.handled = none from I.ok.hd hc) st.1 st.2 hnone hE⟩
    exact wpAny_pyNext_enum_endD D he ⟨hit, hT⟩ fun h' eb => ⟨rfl, I.turned (t' := s.toks) (fun b o hb q => eb b o hb q) f0 f1 f3 f4 f5⟩
  self := fun A i s Q E st h => by
    obtain ⟨⟨_, he⟩, _⟩ := st
    exact wpAny_pyIter_enum he h
def fiE (Fs : FA) : FI := fun τ S => (Fs τ S).bind fun ts S1 => match ts with
  | [.tup xs] => .ok ((List.range xs.length).zipWith (fun i x => T.tup [.int (i : Nat), x]) xs) S1
  | _ => .stuck
theorem zip_range {xs : List T} {i : Nat} {y : T} (e : ((List.range xs.length).zipWith (fun i x => T.tup [.int (i : Nat), x]) xs)[i]? = some y) : ∃ x, xs[i]? = some x ∧ y = T.tup [.int (i : Nat), x] := by
  rw [List.getElem?_zipWith] at e
  by_cases hi : i < xs.length
  · rw [List.getElem?_range hi, List.getElem?_eq_getElem hi] at e
    exact ⟨xs[i], List.getElem?_eq_getElem hi, (Option.some.inj e).symm⟩
  · rw [List.getElem?_eq_none (by omega : xs.length ≤ i)] at e
    split at e <;> simp_all
theorem pfi_enum {X : Cx} {wx : WT} {e : Expr} {Fs : FA} {p pos tpos : Pos} {elts : List Expr} {kk : Nat} (ha : PFA X wx [e] Fs) (hm : X.mg "enumerate" = none) (hg : Gl X "enumerate" := by rfl) (hs : starEach [e] X.env = [(false, eval e X.env)] := by rfl) :
    PFI X wx (.Tuple elts kk tpos) (.Call (.Name "enumerate" p) [e] [] pos) (fiE Fs) := by
  refine ⟨fun pins s σ H R I h => ?_⟩
  obtain ⟨μ, τ, S, st, f, h⟩ := h
  refine Call_ (ld_blt I hg hm boot_enumerate (PyProof.Rows.callWith_type1 (thn (ha.run pos pins s σ H (fun vs H1 => ∃ μ1 xs S1, At X.K μ H τ σ (rVs X.K) μ1 H1 [.tup xs] vs S1 ∧ ∀ J, Src X.K J ((List.range xs.length).zipWith (fun i x => T.tup [.int (i : Nat), x]) xs) μ1 H1 → R J H1) I ?_) fun us s1 q1 => ?_) hs rfl))
  · refine tG.seq st f h fun μ1 H1 ts vs S1 A1 h1 => ?_
    split at h1
    · rename_i xs
      exact ⟨μ1, xs, S1, A1, fun J hJ => h1.here A1.st hJ⟩
    · exact h1.elim
  · obtain ⟨vs, H1, I1, r1, μ1, xs, S1, A1, hR⟩ := q1
    obtain ⟨v, rfl, rt⟩ := rels1 (show Rels X.K H1 μ1 [.tup xs] vs from A1.rel)
    simp only [Rel] at rt
    obtain ⟨a, ws, rfl, ho, rw'⟩ := rt
    obtain ⟨u, rfl, ru⟩ := vals1 r1
    cases ru
    have hq : SqT X.K H1 a ws := ho.imp (fun z => z.1) id
    obtain ⟨its, rv, p', hz⟩ := I1.tuple hq
    refine call_enumT (show s1.heap.IsTuple a its.toArray from p') fun h' he hit hk => wpAny_pyIter_enum he ?_
    have I2 : L2.Inv X pins σ H1 { s1 with heap := h' } := I1.kept (t' := s1.toks) hk
    refine ⟨s1.heap.objs.size + 1, [s1.heap.objs.size + 1, s1.heap.objs.size], _, _, H1, rfl, I2, turn_enumT a (s1.heap.objs.size + 1) s1.heap.objs.size, ⟨⟨.none, he⟩, hit, Nat.succ_ne_self _⟩, fun b hb => ?_, hR _ ?_⟩
    · have hle : s1.heap.objs.size ≤ b := by
        rcases List.mem_cons.mp hb with z | z
        · rw [z]; exact Nat.le_succ _
        · rw [List.mem_singleton.mp z]; exact Nat.le_refl _
      obtain ⟨f0, f1, f2, f3, f4, f5⟩ := I1.fpOk hle (I1.hok.fresh hle)
      exact ⟨f0, f1, f2, f3, f4, f5⟩
    · intro μ2 H2 E
      have ho2 : OT X.K H2 μ2 a ws := ho.imp E.fix id
      have hq2 : SqT X.K H2 a ws := ho2.imp (fun z => z.1) id
      have r2 := Rels.mono E xs rw'
      refine ⟨fun i y e => ?_, fun i hi => ⟨ws, hq2, by rw [← r2.length]; simpa using hi⟩⟩
      obtain ⟨x, ex, rfl⟩ := zip_range e
      obtain ⟨v, ev, rv2⟩ := r2.get ex
      refine ⟨⟨ws, v, hq2, ev⟩, fun u H3 y => ?_⟩
      obtain ⟨T', x', rfl, nT, rfl, hx'⟩ := y
      have := hx' ws hq2
      rw [ev] at this
      cases this
      have sm := fresh_same (o := .tup [.int (i : Nat), v]) nT
      refine ⟨sm, fun S s => ?_⟩
      exact rel_tup s nT (by simp only [Rels, Rel]; exact ⟨_, _, rfl, rfl, v, [], rfl, rv2, rfl⟩)
end TL
set_option Elab.async false
set_option linter.all false
set_option maxRecDepth 100000
namespace TL
open PySem PySem.Spec L2
open PyProof.Rows hiding St
def negT (_ : Sto) (x : T) : Option T := match x with
  | .int i => some (.int (-i))
  | _ => none
theorem o_neg {X : Cx} : UnR X (unaryOp .USub) (rU1 X.K negT) := by
  intro pins s σ H x v Q I rx q
  obtain ⟨μ, S, tx, t, st, r1, e, q⟩ := q
  cases tx with
  | int i =>
    simp only [negT] at e
    cases e
    simp only [Rel] at r1
    exact un_neg pins s σ H x v Q I rx ⟨i, r1, q _ H (Same.refl _) rel_int⟩
  | _ => cases e
structure Gd (K : PySem.W.Frag) (mg : Str → Option Value) (x : Str) (st : Stmt) (ps : List Str) (f : Addr) (fd : FuncData) : Prop where
  F : Fun K x x st f fd
  m : mg x = some (.ref f)
  b : L2.Binds K fd ps []
  kp : PySem.W.keepIn K (.ref f) = true
end TL
set_option Elab.async false
set_option linter.all false
set_option maxRecDepth 100000
namespace TL
open PySem PySem.Spec L2
open PyProof.Rows hiding St
def dcF (g : GT) (Ft : FT) (Fk Fv : FE) (vs : List Nat) (τ : Fr) : List T → Sto → Res (List (Key × T))
  | [], S => .ok [] S
  | x :: xs, S => match g x with
    | none => .stuck
    | some l => if slotsIn l vs then (Ft (setsT τ l) S).nox.bind fun b S1 => match b with
        | true => (Fk (setsT τ l) S1).nox.bind fun k S2 => (Fv (setsT τ l) S2).nox.bind fun v S3 => match keyT k with
          | some k => (dcF g Ft Fk Fv vs τ xs S3).bind fun ys S4 => .ok ((k, v) :: ys) S4
          | none => .stuck
        | false => dcF g Ft Fk Fv vs τ xs S1
      else .stuck
def fDc (Fi : FI) (g : GT) (Ft : FT) (Fk Fv : FE) (vs : List Nat) : FE := fun τ S => (Fi τ S).bind fun xs S1 => if xs.length ≤ sizeLine then (dcF g Ft Fk Fv vs (wipeT τ vs) xs S1).bind fun ys S2 => .ok (.dct (mergeT ([], []) ys).1 (mergeT ([], []) ys).2) S2 else .stuck
theorem mergeT_snoc (kt : List Key × List T) (m : List (Key × T)) (k : Key) (t : T) : mergeT kt (m ++ [(k, t)]) = putK' (mergeT kt m).1 (mergeT kt m).2 k t := by
  unfold mergeT
  rw [List.foldl_append]
  rfl
section
variable {X : Cx} {wx : WT} {pos : Pos}
theorem dc_imp {Fi : FI} {g : GT} {Ft : FT} {Fk Fv : FE} {vs : List Nat} {σ : L2.St} {H : Hp} {Q : VK} (h : tN X.K wx (fDc Fi g Ft Fk Fv vs) σ H Q) : tDc (wiT X.K wx Fi) (gT X.K g) (tG X.K wF rB Ft) (tG X.K wF (rV X.K) Fk) (tG X.K wF (rV X.K) Fv) vs σ H Q := by
  obtain ⟨μ, τ, S, s, f, h⟩ := h
  refine tG.seqN s f h fun μ1 H1 xs J S1 A1 h1 => ?_
  by_cases hl : xs.length ≤ sizeLine
  · rw [if_pos hl] at h1
    intro D hD
    have hD0 : H D = none := A1.ext.back hD
    refine ⟨fun i m H2 => ∃ M S2 kvs prs, Ext H1 μ1 H2 M ∧ D ∈ M.r ∧ RelS X.K H2 M S2 ∧ RelF X.K H2 M τ σ ∧ H2 D = some (.dK kvs) ∧ kvs.map (·.1) = (mergeT ([], []) prs).1 ∧ Rels X.K H2 M (mergeT ([], []) prs).2 (kvs.map (·.2)) ∧ kvs.length ≤ i ∧ i ≤ xs.length ∧ m = xs.length - i ∧
        postN X.K (wx.fr τ σ) μ H ((dcF g Ft Fk Fv vs (wipeT τ vs) (xs.drop i) S2).bind fun ys S3 => .ok (.dct (mergeT ([], []) (prs ++ ys)).1 (mergeT ([], []) (prs ++ ys)).2) S3) Q,
      ⟨xs.length, μ1.hide D, S1, [], [], Ext.hide hD, List.mem_cons_self, A1.st.hide hD, RelF.to (μ := μ1) (fun _ _ e => e) (hide_keep hD) A1.fr, upd_same, rfl, by simp only [mergeT, List.foldl_nil, List.map_nil, Rels], Nat.zero_le _, Nat.zero_le _, rfl, by simpa using h1⟩, fun i m H2 hW => ?_⟩
    obtain ⟨M, S2, kvs, prs, E2, nr2, s2, f2, d2, a2, b2, hai, hix, rfl, h2⟩ := hW
    obtain ⟨go, stop⟩ := A1.rel M H2 E2
    by_cases hlt : i < xs.length
    · rw [drop_cons hlt] at h2
      obtain ⟨hgo, hy⟩ := go i xs[i] (List.getElem?_eq_getElem hlt)
      refine .inr ⟨hgo, fun H' => ∃ M S2 kvs prs, Ext H1 μ1 H' M ∧ D ∈ M.r ∧ RelS X.K H' M S2 ∧ RelF X.K H' M τ σ ∧ H' D = some (.dK kvs) ∧ kvs.map (·.1) = (mergeT ([], []) prs).1 ∧ Rels X.K H' M (mergeT ([], []) prs).2 (kvs.map (·.2)) ∧ kvs.length ≤ i + 1 ∧
        postN X.K (wx.fr τ σ) μ H ((dcF g Ft Fk Fv vs (wipeT τ vs) (xs.drop (i + 1)) S2).bind fun ys S3 => .ok (.dct (mergeT ([], []) (prs ++ ys)).1 (mergeT ([], []) (prs ++ ys)).2) S3) Q, fun H' hN' => ?_, fun v H3 yl => ?_⟩
      · obtain ⟨M3, S3, kvs3, prs3, q1, q2, q3, q4, q5, q6, q6', q7, q8⟩ := hN'
        exact ⟨xs.length - (i + 1), by omega, M3, S3, kvs3, prs3, q1, q2, q3, q4, q5, q6, q6', q7, hlt, rfl, q8⟩
      · obtain ⟨sm, hr⟩ := hy v H3 yl
        have E3 : Ext H2 M H3 M := Ext.of_same sm
        have s3 := s2.same sm
        have f3 := f2.mono E3
        simp only [dcF] at h2
        cases eg : g xs[i] with
        | none => simp only [eg] at h2; exact h2.elim
        | some l =>
          simp only [eg] at h2
          by_cases ha : slotsIn l vs = true
          · rw [if_pos ha] at h2
            refine ⟨M, xs[i], l, hr S2 s2, eg, fun l' fl => ⟨wipe_back (slotsIn_mem ha fl), ?_⟩⟩
            have fb : RelF X.K H3 M (setsT (wipeT τ vs) l) (setsV (wipe σ vs) l') := RelF.sets fl (relF_wipe f3 vs)
            cases et : Ft (setsT (wipeT τ vs) l) S2 with
            | stuck => rw [et] at h2; exact h2.elim
            | exc x S4 => rw [et] at h2; exact h2.elim
            | ok b S4 =>
              rw [et] at h2
              simp only [Res.nox, Res.bind] at h2
              refine tG.known s3 fb et fun M4 H4 b' A4 => ?_
              have e : b = b' := A4.rel
              subst e
              have E4 : Ext H2 M H4 M4 := E3.trans A4.ext
              cases b with
              | false =>
                simp only at h2
                refine iteF ⟨M4, S4, kvs, prs, E2.trans E4, A4.ext.res.1 D nr2, A4.st, f2.mono E4, ?_, a2, Rels.mono E4 _ b2, by omega, h2⟩
                exact E4.kp D _ d2 (s2.dis D nr2)
              | true =>
                simp only at h2
                refine iteT ?_
                cases ek : Fk (setsT (wipeT τ vs) l) S4 with
                | stuck => rw [ek] at h2; exact h2.elim
                | exc x S5 => rw [ek] at h2; exact h2.elim
                | ok k S5 =>
                  rw [ek] at h2
                  simp only at h2
                  refine tG.known A4.st A4.fr ek fun M5 H5 y A5 => ?_
                  cases ev : Fv (setsT (wipeT τ vs) l) S5 with
                  | stuck => rw [ev] at h2; exact h2.elim
                  | exc x S6 => rw [ev] at h2; exact h2.elim
                  | ok u S6 =>
                    rw [ev] at h2
                    simp only at h2
                    refine tG.known A5.st A5.fr ev fun M6 H6 z A6 => ?_
                    cases eq : keyT k with
                    | none => simp only [eq] at h2; exact h2.elim
                    | some key =>
                      simp only [eq] at h2
                      have E6 : Ext H2 M H6 M6 := (E4.trans A5.ext).trans A6.ext
                      have nr6 : D ∈ M6.r := E6.res.1 D nr2
                      have d6 : H6 D = some (.dK kvs) := E6.kp D _ d2 (s2.dis D nr2)
                      obtain ⟨p1, p2⟩ := putK_ok (k := key) (t := u) (v := z) a2 (Rels.mono E6 _ b2) A6.rel
                      rw [← mergeT_snoc] at p1 p2
                      have hlen := length_putK kvs key z
                      refine ⟨kvs, key, keyT_ok eq (Rel.mono A6.ext k A5.rel), d6, by omega, M6, S6, _, prs ++ [(key, u)], (E2.trans E6).hid hD, nr6, A6.st.hid nr6, RelF.to (μ := M6) (fun _ _ e => e) (hid_keep nr6) (f2.mono E6), upd_same, p1, ?_, by omega, ?_⟩
                      · exact Rels.to (μ := M6) (fun _ _ e => e) (hid_keep nr6) _ p2
                      · cases er : dcF g Ft Fk Fv vs (wipeT τ vs) (xs.drop (i + 1)) S6 with
                        | stuck => rw [er] at h2; exact h2.elim
                        | exc x S7 => rw [er] at h2; exact h2
                        | ok ys S7 =>
                          rw [er] at h2
                          simp only [Res.bind] at h2 ⊢
                          rw [List.append_assoc]
                          exact h2
          · rw [if_neg ha] at h2; exact h2.elim
    · have e : i = xs.length := by omega
      subst e
      rw [List.drop_length] at h2
      refine .inl ⟨stop _ (Nat.le_refl _), ?_⟩
      simp only [dcF, Res.bind, List.append_nil] at h2
      exact h2 M H2 D (A1.ext.trans E2) hD0 nr2 s2 ⟨kvs, d2, a2, b2⟩
  · rw [if_neg hl] at h1; exact h1.elim
theorem pfn_dc {kx vx tg iter : Expr} {ifs : List Expr} {scope : Scope} {own : List (Str × Nat)} {Fi : FI} {g : GT} {Ft : FT} {Fk Fv : FE} (hc : X.calm = true) (hN : X.N.Nodup) (hi : PFI X wx tg iter Fi) (ok : BlkOk X.N X.env.scope scope own)
    (hg : ∀ (s : Shared) (H : Hp) (C : Addr) (cl : List (Str × Addr)) (fp : List Addr), PFG (X.blk s H scope (compEnvC scope cl C X.env) fp) tg g) (ht : ∀ (s : Shared) (H : Hp) (C : Addr) (cl : List (Str × Addr)) (fp : List Addr), PFTs (X.blk s H scope (compEnvC scope cl C X.env) fp) wF ifs Ft)
    (hk : ∀ (s : Shared) (H : Hp) (C : Addr) (cl : List (Str × Addr)) (fp : List Addr), PF (X.blk s H scope (compEnvC scope cl C X.env) fp) wF kx Fk)
    (he : ∀ (s : Shared) (H : Hp) (C : Addr) (cl : List (Str × Addr)) (fp : List Addr), PF (X.blk s H scope (compEnvC scope cl C X.env) fp) wF vx Fv) (hs : ∀ x, foldedSetIterable iter X.env x = pure x := by intro _; rfl) :
    PFN X wx (.DictComp kx vx [⟨tg, iter, ifs, 0⟩] scope pos) (fDc Fi g Ft Fk Fv (own.map (·.2))) := PE.imp (pe_dc (g := gT X.K g) (tt := tG X.K wF rB Ft) (tk := tG X.K wF (rV X.K) Fk) (tv := tG X.K wF (rV X.K) Fv) hc hN hi ok hg ht hk he hs) fun _ _ _ h => dc_imp h
section
variable {kx vx tg iter : Expr} {ifs : List Expr} {scope : Scope} {own : List (Str × Nat)} {Fi : FI} {g : GT} {Ft : FT} {Fk Fv : FE} {i : Nat} {y : Str} {py spos : Pos} (hc : X.calm = true) (hN : X.N.Nodup) (hy : X.N[i]? = some y) (hyl : X.env.scope.names.lookup y = some .local)
  (hsw : swapsWith (.DictComp kx vx [⟨tg, iter, ifs, 0⟩] scope pos) (some (.Name y py)) spos.line X.env = pure true) (hi : PFI X wx tg iter Fi) (ok : BlkOk X.N X.env.scope scope own)
  (hg : ∀ (s : Shared) (H : Hp) (C : Addr) (cl : List (Str × Addr)) (fp : List Addr), PFG (X.blk s H scope (compEnvC scope cl C X.env) fp) tg g) (ht : ∀ (s : Shared) (H : Hp) (C : Addr) (cl : List (Str × Addr)) (fp : List Addr), PFTs (X.blk s H scope (compEnvC scope cl C X.env) fp) wF ifs Ft)
  (hk : ∀ (s : Shared) (H : Hp) (C : Addr) (cl : List (Str × Addr)) (fp : List Addr), PF (X.blk s H scope (compEnvC scope cl C X.env) fp) wF kx Fk)
  (he : ∀ (s : Shared) (H : Hp) (C : Addr) (cl : List (Str × Addr)) (fp : List Addr), PF (X.blk s H scope (compEnvC scope cl C X.env) fp) wF vx Fv) (hs : ∀ x, foldedSetIterable iter X.env x = pure x := by intro _; rfl)
include hc hN hy hyl hsw hi ok hg ht hk he hs
end
end
end TL
set_option Elab.async false
set_option linter.all false
set_option maxRecDepth 100000
namespace TL
open PySem PySem.Spec L2
open PyProof.Rows hiding St
def leS (a b : Str) : Bool := !ltCps b.cps.toList a.cps.toList
def insS (x : Str) : List Str → List Str
  | [] => [x]
  | y :: r => if leS x y then x :: y :: r else y :: insS x r
def sortS : List Str → List Str
  | [] => []
  | x :: r => insS x (sortS r)
theorem leS_iff {a b : Str} : leS a b = true ↔ ¬ (b.cps.toList < a.cps.toList) := by
  unfold leS
  rw [ltCps_eq]
  simp
theorem leS_total (a b : Str) : leS a b = true ∨ leS b a = true := by
  rw [leS_iff, leS_iff]
  by_cases h : b.cps.toList < a.cps.toList
  · exact .inr fun z => List.lt_irrefl _ (List.lt_trans h z)
  · exact .inl h
theorem leS_trans {a b c : Str} (h : leS a b = true) (g : leS b c = true) : leS a c = true := by
  rw [leS_iff] at h g ⊢
  exact List.le_trans (show a.cps.toList ≤ b.cps.toList from h) (show b.cps.toList ≤ c.cps.toList from g)
theorem leS_anti {a b : Str} (h : leS a b = true) (g : leS b a = true) : a = b := by
  rw [leS_iff] at h g
  have : a.cps.toList = b.cps.toList := List.le_antisymm (show a.cps.toList ≤ b.cps.toList from h) (show b.cps.toList ≤ a.cps.toList from g)
  cases a; cases b
  simp only [Str.mk.injEq] at this ⊢
  exact Array.ext' this
theorem rising_pw : ∀ {l : List Str} {p : Str}, risingS p l = true → (p :: l).Pairwise fun a b => leS a b = true
  | [], p, _ => by simp
  | x :: r, p, h => by
    have h' : (leS p x && risingS x r) = true := h
    simp only [Bool.and_eq_true] at h'
    have ih := rising_pw h'.2
    rw [List.pairwise_cons]
    refine ⟨fun y hy => ?_, ih⟩
    rcases List.mem_cons.mp hy with z | z
    · rw [z]; exact h'.1
    · exact leS_trans h'.1 ((List.pairwise_cons.mp ih).1 y z)
theorem sorted_pw : ∀ {l : List Str}, sortedS l = true → l.Pairwise fun a b => leS a b = true
  | [], _ => List.Pairwise.nil
  | x :: r, h => rising_pw h
theorem insS_perm (x : Str) : ∀ l : List Str, (insS x l).Perm (x :: l)
  | [] => List.Perm.refl _
  | y :: r => by
    unfold insS
    by_cases h : leS x y = true
    · rw [if_pos h]
    · rw [if_neg h]
      exact ((insS_perm x r).cons y).trans (List.Perm.swap x y r)
theorem sortS_perm : ∀ l : List Str, (sortS l).Perm l
  | [] => List.Perm.refl _
  | x :: r => (insS_perm x _).trans ((sortS_perm r).cons x)
theorem insS_pw (x : Str) : ∀ {l : List Str}, l.Pairwise (fun a b => leS a b = true) → (insS x l).Pairwise fun a b => leS a b = true
  | [], _ => by simp [insS]
  | y :: r, h => by
    unfold insS
    by_cases hx : leS x y = true
    · rw [if_pos hx, List.pairwise_cons]
      refine ⟨fun z hz => ?_, h⟩
      rcases List.mem_cons.mp hz with q | q
      · rw [q]; exact hx
      · exact leS_trans hx ((List.pairwise_cons.mp h).1 z q)
    · rw [if_neg hx, List.pairwise_cons]
      refine ⟨fun z hz => ?_, insS_pw x (List.pairwise_cons.mp h).2⟩
      rcases List.mem_cons.mp ((insS_perm x r).mem_iff.mp hz) with q | q
      · rw [q]; exact (leS_total x y).resolve_left hx
      · exact (List.pairwise_cons.mp h).1 z q
theorem sortS_pw : ∀ l : List Str, (sortS l).Pairwise fun a b => leS a b = true
  | [] => List.Pairwise.nil
  | x :: r => insS_pw x (sortS_pw r)
theorem sort_one {ys xs : List Str} (p : ys.Perm xs) (h : sortedS ys = true) : ys = sortS xs :=
  List.Perm.eq_of_pairwise (fun _ _ _ _ a b => leS_anti a b) (sorted_pw h) (sortS_pw xs) (p.trans (sortS_perm xs).symm)
def strsT : List T → Option (List Str)
  | [] => some []
  | .str x :: r => (strsT r).map (x :: ·)
  | _ => none
theorem strsT_ok {K : PySem.W.Frag} {H : Hp} {μ : Mu} : ∀ {ts : List T} {xs : List Str} {vs : List V}, strsT ts = some xs → Rels K H μ ts vs → vs = xs.map V.str
  | [], _, _, e, r => by simp only [strsT] at e; cases e; simp only [Rels] at r; subst r; rfl
  | t :: ts, _, _, e, r => by
    cases t with
    | str x =>
      simp only [strsT, Option.map_eq_some_iff] at e
      obtain ⟨xs, e, rfl⟩ := e
      simp only [Rels, Rel] at r
      obtain ⟨v, r', rfl, rfl, r⟩ := r
      rw [strsT_ok e r]
      rfl
    | _ => simp only [strsT] at e; cases e
theorem strs_rels {K : PySem.W.Frag} {H : Hp} {μ : Mu} : ∀ xs : List Str, Rels K H μ (xs.map T.str) (xs.map V.str)
  | [] => by simp only [List.map_nil, Rels]
  | x :: r => by
    simp only [List.map_cons, Rels, Rel]
    exact ⟨_, _, rfl, rfl, strs_rels r⟩
def keyStrs : List Key → Option (List Str)
  | [] => some []
  | .inr x :: r => (keyStrs r).map (x :: ·)
  | .inl _ :: _ => none
theorem keyStrs_ok : ∀ {ks : List Key} {xs : List Str}, keyStrs ks = some xs → ks = xs.map Sum.inr
  | [], _, e => by simp only [keyStrs] at e; cases e; rfl
  | .inr x :: r, _, e => by
    simp only [keyStrs, Option.map_eq_some_iff] at e
    obtain ⟨xs, e, rfl⟩ := e
    rw [keyStrs_ok e]; rfl
  | .inl _ :: _, _, e => by simp only [keyStrs] at e; cases e
section
variable {prog : Program} {w : World} {A : Around} {E : Value → Shared → Prop} {s : Shared}
theorem gather_tup {a : Addr} {us : List Value} {Q : List Value → Shared → Prop} (hT : s.heap.IsTuple a us.toArray) (hz : us.length ≤ sizeLine)
    (q : ∀ h', (∀ b o, s.heap.get? b = some o → h'.get? b = some o) → Q us { s with heap := h' }) : wpAny (model prog w) A (collect (.ref a)) Q E s := by
  obtain ⟨o, ho, hc, n, hd⟩ := id hT
  have ho1 : (s.heap.push (seqObj "list" #[] 0)).get? a = some o := Heap.get?_push_of_some _ ho
  have hl1 : (s.heap.push (seqObj "list" #[] 0)).get? s.heap.objs.size = some (seqObj "list" #[] 0) := Heap.get?_push_size _ rfl
  have fits : (#[] ++ us.toArray).size ≤ sizeLine + 1 := by simp; omega
  unfold collect
  refine wpAny_bind (wpAny_runValue (codeAny_builtin entry_proto_collect' ?_))
  refine wpAny_bind (wpAny_newList (wpAny_pure ⟨Code.quiet_builtin _ (by decide +kernel), codeAny_builtin entry_list_iadd' ?_⟩))
  show wpAny _ _ (Builtin.List.listExtendWith (.ref s.heap.objs.size) (.ref a) (.ref s.heap.objs.size)) _ _
    { s with heap := s.heap.push (seqObj "list" #[] 0) }
  unfold Builtin.List.listExtendWith
  refine wpAny_bind (wpAny_typeOf (T := "tuple") ⟨o, ho1, hc⟩ ?_)
  have same : (Value.type "tuple" == Value.type "tuple") = true := rfl
  rw [if_pos (by rw [same]; simp)]
  refine wpAny_bind (listItems_at ho1 hd (wpAny_bind (listItems_at hl1 rfl ?_)))
  rw [if_neg (by simp)]
  refine wpAny_bind (listUpdate_at hl1 rfl (wpAny_pure ?_) (Nat.zero_le _) fits)
  refine wpAny_bind (wpAny_load (get?_update_seq hl1 _) ?_)
  show wpAny _ _ (pure ((#[] : Array Value) ++ us.toArray).toList) Q E _
  rw [show ((#[] : Array Value) ++ us.toArray).toList = us by simp]
  refine wpAny_pure (q _ fun b u e => ?_)
  have hb : b ≠ s.heap.objs.size := Nat.ne_of_lt (Heap.lt_size e)
  rw [Heap.get?_update_ne _ _ _ _ hb]
  exact Heap.get?_push_of_some _ e
end
theorem sorted_tupS {X : Cx} : CallR X (.builtin "sorted") (fun vs H Q => ∃ (a : Addr) (xs : List Str), vs = [V.ref a] ∧ SqT X.K H a (xs.map V.str) ∧ xs.length < 64 ∧
    ∀ p, H p = none → Q (.ref p) (upd H p (.lst ((sortS xs).map V.str)))) := by
  intro pins s σ H vs us Q I r h
  obtain ⟨a, xs, rfl, hs, h64, q⟩ := h
  obtain ⟨its, rv, hT, hz⟩ := I.tuple hs
  rw [Vals.ref1 r]
  have hS := rv.strs
  have hl : its.length = xs.length := by
    have := rv.length
    rw [List.length_map] at this
    exact this.symm
  refine Calls.call_function_entry kind_sorted plain_sorted entry_sorted (args_sorted1 _) ?_
  unfold Builtin.«sorted»
  refine wpAny_bind (m := checkCount "sorted" 1 1 _) (wpAny_pure (wpAny_bind (gather_tup hT (by rw [hl, sizeLine_eq]; omega) fun h' hk => ?_)))
  have I1 : L2.Inv X pins σ H { s with heap := h' } := I.kept (t' := s.toks) hk
  refine wpAny_bind (wpAny_newList ?_ (by rw [hl, sizeLine_eq]; omega))
  have hoL : (h'.push (seqObj "list" its.toArray 0)).get? h'.objs.size = some (seqObj "list" its.toArray 0) := Heap.get?_push_size _ rfl
  show wpAny _ _ _ _ _ { s with heap := h'.push (seqObj "list" its.toArray 0) }
  refine wpAny_bind (wpAny_holding (wpAny_call_entry slot_list_sort ⟨_, hoL, rfl⟩ entry_list_sort (list_sort_treeK strKind_oneLt (s := { s with heap := h'.push (seqObj "list" its.toArray 0) }) hoL hS.keysOf
    (fun v₁ v₂ rest e => keyKind_strs (by rw [← e]; exact hS)) (by rw [hl]; exact h64) fun st' hp hss => ⟨_, rfl, ?_⟩) (args_list_sort _)))
  obtain ⟨ys, g1, g2, g3⟩ := sorted_out_str hS hp hss
  obtain ⟨n', he⟩ := sortedHeap_at (vs := its) (out := (arrOf st').map (·.2)) hoL
  have ey := sort_one g2 g3
  subst ey
  have hlen : ((sortS xs).map V.str).length ≤ sizeLine := by
    rw [List.length_map, g2.length_eq, sizeLine_eq]; omega
  refine wpAny_pure ⟨_, rfl, .ref h'.objs.size, upd H h'.objs.size (.lst ((sortS xs).map V.str)), I1.laid (t' := s.toks) (fun b u e => ?_) (Nat.le_refl _)
    (show ObjOk X.prog X.w _ _ _ (.lst ((sortS xs).map V.str)) from ⟨hlen, ((arrOf st').map (·.2)).toList, n', vals_of_strs g1, by rw [Array.toArray_toList]; exact he⟩), rfl, q _ (I1.hok.fresh (Nat.le_refl _))⟩
  have hb : b < h'.objs.size := Heap.lt_size e
  rw [sortedHeap_old (Nat.ne_of_lt hb) (by rw [size_push']; exact Nat.lt_succ_of_lt hb)]
  exact Heap.get?_push_of_some _ e
def sortT (S : Sto) (ts : List T) : Option T := match ts with
  | [.tup ts] => (strsT ts).bind fun xs => if xs.length < 64 then some (.lst ((sortS xs).map T.str)) else none
  | [t] => match dctT S t with
    | some (ks, _) => (keyStrs ks).bind fun xs => if xs.length < 64 then some (.lst ((sortS xs).map T.str)) else none
    | none => (seqL S t).bind fun ts => (strsT ts).bind fun xs => if xs.length < 64 then some (.lst ((sortS xs).map T.str)) else none
  | _ => none
theorem c_sorted {X : Cx} (hc : X.calm = true) : CallR X (.builtin "sorted") (rNw X.K sortT) := by
  intro pins s σ H xs us Q I rv q
  obtain ⟨μ, S, ts, c, st, r, e, q⟩ := q
  unfold sortT at e
  split at e
  · simp only [Option.bind_eq_some_iff] at e
    obtain ⟨xs, hx, e⟩ := e
    split at e
    · rename_i h64
      cases e
      obtain ⟨v, ev, rr⟩ := rels1 r
      subst ev
      obtain ⟨a, vs, rfl, ha, r2⟩ := tup_ok rr
      rw [strsT_ok hx r2] at ha
      exact sorted_tupS pins s σ H _ us Q I rv ⟨a, xs, rfl, ha, h64, fun p hp => q p _ hp ⟨_, upd_same, strs_rels _⟩⟩
    · cases e
  · obtain ⟨v, ev, rr⟩ := rels1 r
    subst ev
    split at e
    · rename_i ks ts' hd
      simp only [Option.bind_eq_some_iff] at e
      obtain ⟨xs, hx, e⟩ := e
      split at e
      · rename_i h64
        cases e
        obtain ⟨a, kvs, rfl, ha, ek, _⟩ := dctT_ok hd st rr
        refine call_sortedD hc pins s σ H _ us Q I rv ⟨a, kvs, xs, rfl, .inl ha, by rw [ek]; exact keyStrs_ok hx, h64, fun ys p h1 h2 hp => ?_⟩
        have ey := sort_one h1 h2
        subst ey
        exact q p _ hp ⟨_, upd_same, strs_rels _⟩
      · cases e
    · simp only [Option.bind_eq_some_iff] at e
      obtain ⟨ts', hs, xs, hx, e⟩ := e
      split at e
      · rename_i h64
        cases e
        obtain ⟨a, vs, rfl, ha, r2⟩ := seqL_ok hs st rr
        rw [strsT_ok hx r2] at ha
        refine cr_sortedS pins s σ H _ us Q I rv ⟨a, xs, rfl, ha, h64, fun ys p h1 h2 hp => ?_⟩
        have ey := sort_one h1 h2
        subst ey
        exact q p _ hp ⟨_, upd_same, strs_rels _⟩
      · cases e
  · cases e
end TL
set_option Elab.async false
set_option linter.all false
set_option maxRecDepth 100000
namespace TL
open PySem PySem.Spec L2
open PyProof.Rows hiding St
mutual
def noD : T → Bool
  | .non => true
  | .bl _ => true
  | .int _ => true
  | .str _ => true
  | .tup ts => noDs ts
  | .lst ts => noDs ts
  | .sls ts => noDs ts
  | .dct _ _ => false
  | .ref _ => true
  | .val _ => true
  | .ktp ts => noDs ts
  | .etp ts => noDs ts
  | .kdc _ ts => noDs ts
  | .fdc _ ts => noDs ts
  | .err _ _ ts => noDs ts
  | .clo _ _ ts => noDs ts
def noDs : List T → Bool
  | [] => true
  | t :: ts => noD t && noDs ts
end
def noDc : T → Bool
  | .lst ts => noDs ts
  | .dct _ ts => noDs ts
  | .kdc _ ts => noDs ts
  | _ => true
section
variable {K : PySem.W.Frag} {H H' : Hp} {μ : Mu} {S : Sto} {d : Addr} {od : Obj} {kvs : List (Key × V)}
end
section
variable {X : Cx} {wx : WT} {pos : Pos}
end
end TL
set_option Elab.async false
set_option linter.all false
set_option maxRecDepth 100000
namespace TL
open PySem PySem.Spec L2
open PyProof.Rows hiding St
def bPar (i j : Nat) (F : FA) : BS := fun τ S => (F τ S).bindS τ fun vs S1 => match vs with
  | [v, w] => .nx ((τ.set i (some v)).set j (some w)) S1
  | _ => .stuck
def bPar3 (i j l : Nat) (F : FA) : BS := fun τ S => (F τ S).bindS τ fun vs S1 => match vs with
  | [u, v, w] => .nx (((τ.set i (some u)).set j (some v)).set l (some w)) S1
  | _ => .stuck
section
variable {X : Cx} {wx : WT} {F : FA} {pos : Pos}
theorem pfs_par {i j : Nat} {x y : Str} {a b : Expr} {px py pt : Pos} {kt k2 pt2} (hc : X.calm = true) (hN : X.N.Nodup) (ha : PFA X wx [a, b] F) (hi : X.N[i]? = some x := by rfl) (hj : X.N[j]? = some y := by rfl) (hij : i ≠ j := by decide)
    (hx : X.env.scope.names.lookup x = some .local := by rfl) (hy : X.env.scope.names.lookup y = some .local := by rfl)
    (hw : swappedStores [.Tuple [.Name x px, .Name y py] kt pt] (.Tuple [a, b] k2 pt2) X.env = pure (some [x, y]) := by rfl)
    (hs : swapsWithSole [.Tuple [.Name x px, .Name y py] kt pt] (.Tuple [a, b] k2 pt2) pos.line X.env = pure false := by rfl) :
    PFS X wx (.Assign [.Tuple [.Name x px, .Name y py] kt pt] (.Tuple [a, b] k2 pt2) pos) (bPar i j F) := PS.imp (ps_par hc hN hi hj hij hx hy ha hw hs) fun D σ H h => by
  obtain ⟨μ, τ, S, s, f, h⟩ := h
  refine tG.seqS s f h fun μ1 H1 ts vs S1 A1 h1 => ?_
  have r := A1.rel
  match ts, h1, r with
  | [t, u], h1, r =>
    simp only [Rels] at r
    obtain ⟨v, vs1, rfl, rv, w, vs2, rfl, rw', rfl⟩ := r
    exact ⟨v, w, rfl, h1 μ1 _ H1 (Ext.refl _ _) A1.st ((A1.fr.set rv).set rw')⟩
end
end TL
set_option Elab.async false
set_option linter.all false
set_option maxRecDepth 100000
namespace TL
open PySem PySem.Spec L2
open PyProof.Rows hiding St
section
variable {X : Cx} {wx : WT} {K : PySem.W.Frag} {H : Hp} {μ : Mu}
end
end TL
set_option Elab.async false
set_option linter.all false
set_option maxRecDepth 100000
namespace TL
open PySem PySem.Spec L2
open PyProof.Rows hiding St
theorem ints_rels {K : PySem.W.Frag} {H : Hp} {μ : Mu} : ∀ ns : List Int, Rels K H μ (ns.map T.int) (ns.map V.int)
  | [] => by simp only [List.map_nil, Rels]
  | n :: r => by
    simp only [List.map_cons, Rels, Rel]
    exact ⟨_, _, rfl, rfl, ints_rels r⟩
abbrev LawEnd (P : Program) (w : World) (f a : Addr) (s1 : Shared) : Prop :=
  codeAny (model P w) callerA (.call (.ref f) ⟨[.ref a], []⟩)
    (fun r t => r = .ok (.ret (.bool true)) ∧ OldK s1.heap t.heap ∧ t.os = s1.os ∧ AllBare t.gens) s1
section
variable {P : Program} {w : World} {K : PySem.W.Frag} {mg mb : Str → Option Value} {k : Nat} {f a : Addr} {fd : FuncData} {x : Str} {F : FF} {s1 : Shared} {its : List Value} {ns : List Int}
structure Start (K : PySem.W.Frag) (mg mb : Str → Option Value) (s1 : Shared) (a : Addr) (its : List Value) (ns : List Int) : Prop where
  kin : K.In s1.heap
  gl : s1.heap.Ns mainGlobals mg
  nb : s1.heap.Ns builtinsNs mb
  bb : ∀ y : Str, y ≠ "__name__" → mb y = bootBuiltins y
  lim : s1.heap.NoLimit
  gen : s1.gens = #[]
  at_ : s1.heap.get? a = some { cls := .type "list", data := .seq its.toArray }
  int : IntsAre its ns
  sz : ns.length ≤ sizeLine
theorem law_with (h0 : tabsK K = []) (Z : Start K mg mb s1 a its ns) (hr : Room k callerA) (D : ∀ base : Heap, K.In base → base.Ns mainGlobals mg → Df P w K mg base k f fd [x] F)
    (bd : ∀ (s : Shared) (u : Value), BindsTo s fd ⟨[u], []⟩ [(x, u)]) (hF : ∃ S, F [.sls (ns.map T.int)] [] = .ok (.bl true) S)
    {H : Hp} (hO : Only H) (hS : OL K H ⟨[], [], []⟩ a (ns.map V.int)) (hok : HOk P w H s1.heap) (hA : ∀ b, H b ≠ none → b = a) (hK : H a ≠ none → K.lookup a = none) : LawEnd P w f a s1 := by
  have out : ∀ {b : Addr}, b ≠ a → H b = none := fun {b} n => Classical.byContradiction fun z => n (hA b z)
  have noA : ∀ {b : Addr} {o : Obj} {es : Array DictEntry} {ep : Nat}, s1.heap.get? b = some o → o.data = .dict es ep → H b = none := fun {b o es ep} e d => out fun z => by
    subst z
    rw [Z.at_] at e
    cases e
    have d2 : Data.seq its.toArray _ = Data.dict es ep := d
    cases d2
  have up : ∀ {b : Addr} {m : Str → Option Value}, s1.heap.Ns b m → (hidT s1.heap H).Ns b m := fun {b m} ⟨o, es, ep, e, d, r⟩ => ⟨o, es, ep, hidT_get e (noA e d), d, r⟩
  have kb : K.In (hidT s1.heap H) := fun b o e => hidT_get (Z.kin b o e) (Classical.byContradiction fun z => by
    have n := hA b z
    subst n
    rw [hK z] at e
    cases e)
  have hM : Mod K mg (hidT s1.heap H) := ⟨kb, up Z.gl, ⟨mb, up Z.nb, Z.bb⟩, Z.lim.imp fun _ h => ⟨up h.1, h.2⟩⟩
  have e0 : Env0 P w K mg (hidT s1.heap H) callerA [] s1 H := ⟨rfl, hM, fun b o e => of_hidT e, Nat.le_of_eq (hidT_size _ _), trivial, fun b hb => absurd (show b ∈ ([] : List Addr) from hb) (by simp), hok, .of_eq Z.gen⟩
  obtain ⟨S, hF⟩ := hF
  refine codeAny_mono ((D _ kb (up Z.gl)).go callerA [] s1 H ⟨[.ref a], []⟩ [.ref a] [.ref a] (fun v _ => v = .bl true) hr rfl e0 (bd s1 (.ref a)) (.cons rfl .nil) ?_) fun r t h => ?_
  · refine ⟨⟨[], [], []⟩, [], [.sls (ns.map T.int)], ⟨rfl, .nil, fun n c b e => (by simp at e), fun p hp => (by simp at hp), fun p hp => (by simp at hp), fun p hp => (by rw [h0] at hp; simp at hp)⟩, ?_, ?_⟩
    · simp only [Rels, Rel]
      exact ⟨_, _, rfl, ⟨_, _, rfl, hS, ints_rels ns⟩, rfl⟩
    · rw [hF]
      intro μ' v H' _ _ rv
      simp only [rV, Rel] at rv
      exact rv
  · match r, h with
    | .ok (.ret u), h =>
      obtain ⟨v, H', os, bare, un, hok', rv, q⟩ := h
      have q2 : v = .bl true := q
      subst q2
      obtain rfl : u = Value.bool true := rv
      refine ⟨rfl, OldK.of_keep fun b o e => ?_, os, bare⟩
      cases q : H b with
      | none => exact un.keep b o e q (fun z => absurd (show b ∈ ([] : List Addr) from z) (by simp)) (by simp)
      | some u =>
        rcases hO b with z | ⟨ob, zs, z⟩
        · rw [q] at z
          cases z
        · obtain ⟨e1, _⟩ := hok b _ z
          obtain ⟨e2, _⟩ := hok' b _ (un.frzs b ob _ z)
          rw [e] at e1
          cases e1
          exact e2
    | .error e, h => exact h.elim
    | .ok .next, h => exact False.elim h
    | .ok .brk, h => exact False.elim h
    | .ok .cont, h => exact False.elim h
theorem law_callT (h0 : tabsK K = []) (Z : Start K mg mb s1 a its ns) (hr : Room k callerA) (D : ∀ base : Heap, K.In base → base.Ns mainGlobals mg → Df P w K mg base k f fd [x] F)
    (bd : ∀ (s : Shared) (u : Value), BindsTo s fd ⟨[u], []⟩ [(x, u)]) (hF : ∃ S, F [.sls (ns.map T.int)] [] = .ok (.bl true) S) : LawEnd P w f a s1 := by
  have rv := vals_ints Z.int
  have l1 := Z.int.length
  have nout : ∀ b : Addr, Mu.out ⟨[], [], []⟩ b := fun b => ⟨by simp, by simp⟩
  cases hk : K.lookup a with
  | some o =>
    have e := Z.kin a o hk
    rw [Z.at_] at e
    cases e
    exact law_with h0 Z hr D bd hF (H := fun _ => none) (fun _ => .inl rfl) (.inr ⟨_, its.toArray, _, hk, rfl, rfl, rfl, by rw [List.size_toArray, l1]; exact Z.sz, by simpa using rv⟩)
      (fun b u z => nomatch (show (none : Option HO) = some u from z)) (fun b z => absurd rfl z) fun z => absurd rfl z
  | none =>
    refine law_with h0 Z hr D bd hF (H := fun b => if b = a then some (.frz { cls := .type "list", data := .seq its.toArray } (.lst (ns.map V.int))) else none) (fun b => ?_) (.inl ⟨.inr ⟨_, if_pos rfl⟩, nout a⟩) (fun b u z => ?_) (fun b z => ?_) fun _ => hk
    · by_cases hb : b = a
      · exact .inr ⟨_, _, if_pos hb⟩
      · exact .inl (if_neg hb)
    · by_cases hb : b = a
      · have y := (if_pos hb).symm.trans z
        cases y
        subst hb
        exact ⟨Z.at_, by rw [List.length_map]; exact Z.sz, its, _, rv, Z.at_⟩
      · have y := (if_neg hb).symm.trans z
        cases y
    · exact Classical.byContradiction fun hb => z (if_neg hb)
end
theorem walk_T {l : PySem.W.OpenLaw} {n k : Nat} {q : Program} {loose : List Str} {XP : (Str → Option Value) → Heap → Prop} {YP : World → Heap → Prop} {d : DefRec} {K : Params → PySem.W.Frag} {x : Str} {F : FF}
    (h1 : l.most = some n) (h2 : n ≤ sizeLine) (h3 : d.params.defaults = []) (hr : Room k callerA) (hY : ∀ (w : World) (h : Heap), YP w h → (K w.params).In h)
    (G : ∀ (w : World) (mg : Str → Option Value) (f : Addr) (h : Heap), (K w.params).In h → h.Ns mainGlobals mg → mg d.name = some (.ref f) →
      ∃ fd : FuncData, (∀ (s : Shared) (u : Value), BindsTo s fd ⟨[u], []⟩ [(x, u)]) ∧ ∀ base : Heap, (K w.params).In base → base.Ns mainGlobals mg → Df l.prog w (K w.params) mg base k f fd [x] F)
    (hF : ∀ ns : List Int, ns.length ≤ n → ∃ S, F [.sls (ns.map T.int)] [] = .ok (.bl true) S) (h0 : ∀ p, tabsK (K p) = [] := by intro _; kernel_rfl) : PySem.W.WalkO q loose XP YP l.row.toRowW d [] (fun f vs => PySem.call f vs) := by
  refine Att.attach_call h1 h3 fun w s0 s1 mg mb f o pm cd doc a vs ns g Y ho hd hcd hm hob hi hl hg => ?_
  have kx := hY w _ Y
  obtain ⟨fd, bd, D⟩ := G w mg f _ kx g.T.g hm
  exact law_callT (h0 _) ⟨kx, g.T.g, g.T.b, g.T.builtins, g.T.nolimit, hg, hob, hi, Nat.le_trans hl h2⟩ hr D bd (hF ns hl)
end TL
namespace TL
open PySem PySem.Spec L2
open PyProof.Rows hiding St
def FnIn (K : PySem.W.Frag) (x : Str) (st : Stmt) : Prop :=
  ∃ (f : Addr) (oc kV doc pm cdv ct : Value) (od an : Option Addr) (osl : Array (Option Value)), PySem.W.nsIn K mainGlobals x = some (some (.ref f)) ∧
    K.lookup f = some ⟨oc, od, .func (PySem.W.fnOf x x (defArgs st) (defBody st) (defScope st) .none kV doc pm an cdv ct), osl⟩ ∧ PySem.W.codeIn K cdv x = true ∧ PySem.W.keepIn K (.ref f) = true
theorem fnIn_mk {K : PySem.W.Frag} {x : Str} {st : Stmt} {f : Addr} {oc kV doc pm cdv ct : Value} {od an : Option Addr} {osl : Array (Option Value)} (a : PySem.W.nsIn K mainGlobals x = some (some (.ref f)))
    (l : K.lookup f = some ⟨oc, od, .func (PySem.W.fnOf x x (defArgs st) (defBody st) (defScope st) .none kV doc pm an cdv ct), osl⟩) (c : PySem.W.codeIn K cdv x = true) (k : PySem.W.keepIn K (.ref f) = true) : FnIn K x st :=
  ⟨f, oc, kV, doc, pm, cdv, ct, od, an, osl, a, l, c, k⟩
theorem some_mk {K : PySem.W.Frag} {x : Str} {t : Tok} {c : Tok → Value} (a : PySem.W.nsIn K mainGlobals x = some (some (c t))) : ∃ t, PySem.W.nsIn K mainGlobals x = some (some (c t)) := ⟨t, a⟩
section
variable {K : PySem.W.Frag} {x : Str} {st : Stmt} {h : Heap} {mg : Str → Option Value} {ps : List Str}
theorem FnIn.gd (e : FnIn K x st) (X : K.In h) (G : h.Ns mainGlobals mg) (b : ∀ {f : Addr} {fd : FuncData}, Fun K x x st f fd → L2.Binds K fd ps []) : ∃ f fd, Gd K mg x st ps f fd := by
  obtain ⟨f, oc, kV, doc, pm, cdv, ct, od, an, osl, a, l, c, k⟩ := e
  have F := fun_mk (st := st) l c k
  exact ⟨f, _, F, PySem.W.mg_of X G a, b F, k⟩
theorem FnIn.law {fa : Addr} {y : Str} (e : FnIn K x st) (X : K.In h) (G : h.Ns mainGlobals mg) (hfa : mg x = some (.ref fa))
    (b : ∀ (kV doc pm : Value) (an : Option Addr) (cdv ct v : Value), bindArgs (PySem.W.fnOf x x (defArgs st) (defBody st) (defScope st) .none kV doc pm an cdv ct) ⟨[v], []⟩ = pure [(y, v)]) :
    ∃ fd, Fun K x x st fa fd ∧ ∀ (s : Shared) (v : Value), BindsTo s fd ⟨[v], []⟩ [(y, v)] := by
  obtain ⟨f, oc, kV, doc, pm, cdv, ct, od, an, osl, a, l, c, k⟩ := e
  have z := hfa.symm.trans (PySem.W.mg_of X G a)
  cases z
  exact ⟨_, fun_mk (st := st) l c k, fun s v => .of_eq (b kV doc pm an cdv ct v)⟩
end
end TL
set_option Elab.async false
set_option linter.all false
set_option maxRecDepth 100000
namespace TL
open PySem PySem.Spec L2
open PyProof.Rows hiding St
theorem bind_ok {α β : Type} (a : α) (S : Sto) (k : α → Sto → Res β) : (Res.ok a S).bind k = k a S := rfl
theorem bindS_ok {α : Type} (a : α) (S : Sto) (τ : Fr) (k : α → Sto → RS) : (Res.ok a S).bindS τ k = k a S := rfl
theorem nox_ok {α : Type} (a : α) (S : Sto) : (Res.ok a S).nox = .ok a S := rfl
theorem ofO_some {α : Type} (a : α) (S : Sto) : ofO (some a) S = .ok a S := rfl
theorem lc_map {g : GT} {Ft : FT} {Fe : FE} {vs : List Nat} {τ : Fr} {r : T → T} {S : Sto} : ∀ {xs : List T},
    (∀ x ∈ xs, ∃ l, g x = some l ∧ slotsIn l vs = true ∧ Ft (setsT τ l) S = .ok true S ∧ Fe (setsT τ l) S = .ok (r x) S) → lcF g Ft Fe vs τ xs S = .ok (xs.map r) S
  | [], _ => rfl
  | x :: xs, h => by
    obtain ⟨l, h1, h2, h3, h4⟩ := h x List.mem_cons_self
    have ih := lc_map fun y hy => h y (List.mem_cons_of_mem _ hy)
    simp only [lcF, h1, h2, h3, h4, ih, if_true, bind_ok, nox_ok, List.map_cons]
theorem lc_filter {g : GT} {Ft : FT} {Fe : FE} {vs : List Nat} {τ : Fr} {p : T → Bool} {r : T → T} {S : Sto} : ∀ {xs : List T},
    (∀ x ∈ xs, ∃ l, g x = some l ∧ slotsIn l vs = true ∧ Ft (setsT τ l) S = .ok (p x) S ∧ (p x = true → Fe (setsT τ l) S = .ok (r x) S)) → lcF g Ft Fe vs τ xs S = .ok ((xs.filter p).map r) S
  | [], _ => rfl
  | x :: xs, h => by
    obtain ⟨l, h1, h2, h3, h4⟩ := h x List.mem_cons_self
    have ih := lc_filter fun y hy => h y (List.mem_cons_of_mem _ hy)
    cases e : p x with
    | true => simp only [lcF, h1, h2, h3, e, h4 e, ih, if_true, bind_ok, nox_ok, List.filter_cons_of_pos, List.map_cons]
    | false =>
      rw [List.filter_cons_of_neg (by simp [e])]
      simp only [lcF, h1, h2, h3, e, ih, if_true, bind_ok, nox_ok]
theorem dc_map {g : GT} {Ft : FT} {Fk Fv : FE} {vs : List Nat} {τ : Fr} {k : T → Key} {r : T → T} {S : Sto} : ∀ {xs : List T},
    (∀ x ∈ xs, ∃ l, g x = some l ∧ slotsIn l vs = true ∧ Ft (setsT τ l) S = .ok true S ∧ Fk (setsT τ l) S = .ok (tKey (k x)) S ∧ Fv (setsT τ l) S = .ok (r x) S) → dcF g Ft Fk Fv vs τ xs S = .ok (xs.map fun x => (k x, r x)) S
  | [], _ => rfl
  | x :: xs, h => by
    obtain ⟨l, h1, h2, h3, h4, h5⟩ := h x List.mem_cons_self
    have ih := dc_map fun y hy => h y (List.mem_cons_of_mem _ hy)
    have hk : keyT (tKey (k x)) = some (k x) := by
      cases k x <;> rfl
    simp only [dcF, h1, h2, h3, h4, h5, hk, ih, if_true, bind_ok, nox_ok, List.map_cons]
theorem for_inv {g : GT} {B : BS} {I : Nat → Fr → Sto → Prop} : ∀ {xs : List T} {n : Nat} {τ : Fr} {S : Sto}, I n τ S →
    (∀ i x τ S, xs[i]? = some x → I (n + i) τ S → ∃ l, g x = some l ∧ ∃ τ2 S2, (B (setsT τ l) S = .nx τ2 S2 ∨ B (setsT τ l) S = .ct τ2 S2) ∧ I (n + i + 1) τ2 S2) →
    ∃ τ2 S2, forF g B xs τ S = .nx τ2 S2 ∧ I (n + xs.length) τ2 S2
  | [], n, τ, S, h0, _ => ⟨τ, S, rfl, h0⟩
  | x :: xs, n, τ, S, h0, h => by
    obtain ⟨l, h1, τ2, S2, h2, h3⟩ := h 0 x τ S rfl h0
    obtain ⟨τ3, S3, e, q⟩ := for_inv (n := n + 1) (xs := xs) (I := I) (g := g) (B := B) h3 fun i y τ S hy hI => by
      have q := h (i + 1) y τ S (by simpa using hy) (by rw [show n + (i + 1) = n + 1 + i by omega]; exact hI)
      rw [show n + (i + 1) + 1 = n + 1 + i + 1 by omega] at q
      exact q
    refine ⟨τ3, S3, ?_, by rw [List.length_cons, show n + (xs.length + 1) = n + 1 + xs.length by omega]; exact q⟩
    rcases h2 with h2 | h2 <;> simp only [forF, h1, h2, e]
def Goes (r : RS) (I : Fr → Sto → Prop) : Prop := match r with
  | .nx τ S => I τ S
  | .ct τ S => I τ S
  | _ => False
theorem goes_nx {τ : Fr} {S : Sto} {I : Fr → Sto → Prop} (h : I τ S) : Goes (.nx τ S) I := h
theorem for_go {g : GT} {B : BS} {xs : List T} {τ : Fr} {S : Sto} {R : RS} (hF : forF g B xs τ S = R) (I : Nat → Fr → Sto → Prop) (h0 : I 0 τ S)
    (h : ∀ i x τ S, xs[i]? = some x → I i τ S → ∃ l, g x = some l ∧ Goes (B (setsT τ l) S) (I (i + 1))) : ∃ τ2 S2, R = .nx τ2 S2 ∧ I xs.length τ2 S2 := by
  obtain ⟨τ2, S2, e, q⟩ := for_inv (n := 0) (xs := xs) (g := g) (B := B) (I := I) h0 fun i x τ S hx hI => by
    rw [Nat.zero_add] at hI ⊢
    obtain ⟨l, h1, h2⟩ := h i x τ S hx hI
    refine ⟨l, h1, ?_⟩
    unfold Goes at h2
    split at h2
    · rename_i e
      exact ⟨_, _, .inl e, h2⟩
    · rename_i e
      exact ⟨_, _, .inr e, h2⟩
    · exact h2.elim
  rw [Nat.zero_add] at q
  exact ⟨τ2, S2, hF.symm.trans e, q⟩
theorem sto_end (S : Sto) (x : T) (J : Sto) : (S ++ x :: J)[S.length]? = some x := by simp
theorem sto_set (S : Sto) (x y : T) (J : Sto) : (S ++ x :: J).set S.length y = S ++ y :: J := by simp
theorem lstAt_end (S : Sto) (ts : List T) (J : Sto) : lstAt (S ++ .lst ts :: J) S.length = some ts := by
  unfold lstAt
  rw [sto_end]
theorem truT_bl (b : Bool) (S : Sto) : truT S (.bl b) = some b := rfl
theorem truT_tup (b : List T) (S : Sto) : truT S (.tup b) = some !b.isEmpty := rfl
theorem isi_str (x : Str) (S : Sto) : isiT S [.str x, .val (.ty "str")] = some (.bl true) := rfl
theorem isi_tup (x : List T) (S : Sto) : isiT S [.tup x, .val (.ty "tuple")] = some (.bl true) := rfl
theorem isi_dct (k : List Key) (x : List T) (S : Sto) : isiT S [.dct k x, .val (.ty "dict")] = some (.bl true) := rfl
theorem len_tup (x : List T) (S : Sto) : lenT S [.tup x] = some (.int x.length) := rfl
theorem len_lst (x : List T) (S : Sto) : lenT S [.lst x] = some (.int x.length) := rfl
theorem len_sls (x : List T) (S : Sto) : lenT S [.sls x] = some (.int x.length) := rfl
theorem len_dct (k : List Key) (x : List T) (S : Sto) : lenT S [.dct k x] = some (.int k.length) := rfl
theorem eq_int (i j : Int) (S : Sto) : TL.eqT S (.int i) (.int j) = some (.bl (decide (i = j))) := by
  show (Option.map T.bl (some (PyData.eqv (.int i) (.int j)))) = _
  simp only [Option.map_some]
  congr 2
theorem ne_int (i j : Int) (S : Sto) : neT S (.int i) (.int j) = some (.bl (!decide (i = j))) := by
  show (Option.map (fun b => T.bl !b) (some (PyData.eqv (.int i) (.int j)))) = _
  simp only [Option.map_some]
  congr 3
theorem ix_0 (x : T) (r : List T) (S : Sto) : ixT S (.tup (x :: r)) (.int 0) = some x := by
  show atI (x :: r) 0 = some x
  unfold atI
  have h : ixN (x :: r).length 0 = some 0 := by
    unfold ixN
    simp
  rw [h]
  rfl
theorem ix_1 (x y : T) (r : List T) (S : Sto) : ixT S (.tup (x :: y :: r)) (.int 1) = some y := by
  show atI (x :: y :: r) 1 = some y
  unfold atI
  have h : ixN (x :: y :: r).length 1 = some 1 := by
    unfold ixN
    simp
    omega
  rw [h]
  rfl
theorem ix_2 (x y z : T) (r : List T) (S : Sto) : ixT S (.tup (x :: y :: z :: r)) (.int 2) = some z := by
  show atI (x :: y :: z :: r) 2 = some z
  unfold atI
  have h : ixN (x :: y :: z :: r).length 2 = some 2 := by
    unfold ixN
    simp
    omega
  rw [h]
  rfl
theorem bools_true {α : Type} : ∀ xs : List α, bools (xs.map fun _ => T.bl true) = some (xs.map fun _ => true)
  | [] => rfl
  | x :: xs => by simp only [List.map_cons, bools, bools_true xs, Option.map_some]
theorem all_lst {α : Type} (xs : List α) (S : Sto) : allT S [.lst (xs.map fun _ => T.bl true)] = some (.bl true) := by
  show ((bools (xs.map fun _ => T.bl true)).map fun bs => T.bl (bs.all id)) = some (.bl true)
  rw [bools_true]
  simp
theorem tup_lst (xs : List T) (S : Sto) : tupT S [.lst xs] = some (.tup xs) := rfl
theorem tup_tup (xs : List T) (S : Sto) : tupT S [.tup xs] = some (.tup xs) := rfl
theorem slots1 (i : Nat) (t : T) : slotsIn [(i, t)] [i] = true := by
  simp [slotsIn]
theorem flats_strs : ∀ l : List Str, flats (l.map T.str) = some (l.map V.str)
  | [] => rfl
  | x :: l => by simp only [List.map_cons, flats, flatT, flats_strs l, Option.bind_some]
theorem inV_strs (x : Str) : ∀ l : List Str, inV (V.str x) (l.map V.str) = decide (x ∈ l)
  | [] => rfl
  | y :: l => by
    have ih := inV_strs x l
    unfold inV at ih ⊢
    rw [List.map_cons, List.any_cons, ih]
    have e : eqV (V.str y) (V.str x) = decide (x = y) := by
      show (y == x) = decide (x = y)
      by_cases h : x = y
      · subst h
        rw [beq_self_eq_true, decide_eq_true rfl]
      · rw [decide_eq_false h]
        exact beq_false_of_ne fun z => h z.symm
    rw [e, ← Bool.decide_or]
    exact decide_eq_decide.mpr List.mem_cons.symm
theorem in_tup (x : Str) (l : List Str) (S : Sto) : inT S (.str x) (.tup (l.map T.str)) = some (.bl (decide (x ∈ l))) := by
  show Option.map T.bl (match flatT (.str x), flats (l.map T.str) with | some v, some vs => some (inV v vs) | _, _ => none) = _
  rw [flats_strs]
  simp only [flatT, inV_strs, Option.map_some]
theorem in_lst (x : Str) (l : List Str) (S : Sto) : inT S (.str x) (.lst (l.map T.str)) = some (.bl (decide (x ∈ l))) := by
  show Option.map T.bl (match flatT (.str x), flats (l.map T.str) with | some v, some vs => some (inV v vs) | _, _ => none) = _
  rw [flats_strs]
  simp only [flatT, inV_strs, Option.map_some]
theorem in_ref {n : Nat} {l : List Str} {S : Sto} (h : S[n]? = some (.lst (l.map T.str))) (x : Str) : inT S (.str x) (.ref n) = some (.bl (decide (x ∈ l))) := by
  have e : dctT S (.ref n) = none := by
    simp only [dctT, h]
  unfold inT inB
  simp only [e, seqL, h, flats_strs, flatT, inV_strs, Option.map_some]
theorem nin_of {S : Sto} {x y : T} {b : Bool} (h : inT S x y = some (.bl b)) : ninT S x y = some (.bl !b) := by
  unfold inT at h
  unfold ninT
  cases e : inB S x y with
  | none => rw [e] at h; cases h
  | some c =>
    rw [e] at h
    simp only [Option.map_some, Option.some.injEq, T.bl.injEq] at h
    simp only [h, Option.map_some]
theorem sto_1 (S : Sto) (z x : T) (J : Sto) : (S ++ z :: x :: J)[S.length + 1]? = some x := by simp
theorem sto_set1 (S : Sto) (z x y : T) (J : Sto) : (S ++ z :: x :: J).set (S.length + 1) y = S ++ z :: y :: J := by simp
theorem lstAt_1 (S : Sto) (z : T) (ts : List T) (J : Sto) : lstAt (S ++ z :: .lst ts :: J) (S.length + 1) = some ts := by
  unfold lstAt
  rw [sto_1]
theorem in_end (S : Sto) (l : List Str) (J : Sto) (x : Str) : inT (S ++ .lst (l.map T.str) :: J) (.str x) (.ref S.length) = some (.bl (decide (x ∈ l))) := in_ref (sto_end S _ J) x
theorem in_1 (S : Sto) (z : T) (l : List Str) (J : Sto) (x : Str) : inT (S ++ z :: .lst (l.map T.str) :: J) (.str x) (.ref (S.length + 1)) = some (.bl (decide (x ∈ l))) := in_ref (sto_1 S z _ J) x
theorem nin_end (S : Sto) (l : List Str) (J : Sto) (x : Str) : ninT (S ++ .lst (l.map T.str) :: J) (.str x) (.ref S.length) = some (.bl (!decide (x ∈ l))) := nin_of (in_end S l J x)
theorem nin_1 (S : Sto) (z : T) (l : List Str) (J : Sto) (x : Str) : ninT (S ++ z :: .lst (l.map T.str) :: J) (.str x) (.ref (S.length + 1)) = some (.bl (!decide (x ∈ l))) := nin_of (in_1 S z l J x)
theorem len_ref {S : Sto} {n : Nat} {ts : List T} (h : S[n]? = some (.lst ts)) : lenT S [.ref n] = some (.int ts.length) := by
  have e : dctT S (.ref n) = none := by
    simp only [dctT, h]
  unfold lenT
  simp only [e, seqL, h, Option.map_some]
theorem len_end (S : Sto) (ts : List T) (J : Sto) : lenT (S ++ .lst ts :: J) [.ref S.length] = some (.int ts.length) := len_ref (sto_end S _ J)
theorem len_1 (S : Sto) (z : T) (ts : List T) (J : Sto) : lenT (S ++ z :: .lst ts :: J) [.ref (S.length + 1)] = some (.int ts.length) := len_ref (sto_1 S z _ J)
theorem tup_end (S : Sto) (ts : List T) (J : Sto) : tupT (S ++ .lst ts :: J) [.ref S.length] = some (.tup ts) := by
  show (seqL (S ++ .lst ts :: J) (.ref S.length)).map T.tup = some (.tup ts)
  unfold seqL
  simp only [sto_end, Option.map_some]
theorem tup_1 (S : Sto) (z : T) (ts : List T) (J : Sto) : tupT (S ++ z :: .lst ts :: J) [.ref (S.length + 1)] = some (.tup ts) := by
  show (seqL (S ++ z :: .lst ts :: J) (.ref (S.length + 1))).map T.tup = some (.tup ts)
  unfold seqL
  simp only [sto_1, Option.map_some]
theorem gt_int (i j : Int) (S : Sto) : gtT S (.int i) (.int j) = some (.bl (decide (j < i))) := rfl
theorem lt_int (i j : Int) (S : Sto) : ltT S (.int i) (.int j) = some (.bl (decide (i < j))) := rfl
theorem map_snoc (l : List Str) (x : Str) : l.map T.str ++ [.str x] = (l ++ [x]).map T.str := by simp
end TL
set_option Elab.async false
set_option linter.all false
set_option maxRecDepth 100000
namespace TL
open PySem PySem.Spec L2
open PyProof.Rows hiding St
mutual
def sub (f : Nat → Option T) : T → Option T
  | .non => some .non
  | .bl b => some (.bl b)
  | .int i => some (.int i)
  | .str x => some (.str x)
  | .val v => some (.val v)
  | .tup ts => (subs f ts).map .tup
  | .lst ts => (subs f ts).map .lst
  | .sls ts => (subs f ts).map .sls
  | .dct ks ts => (subs f ts).map (.dct ks)
  | .ref m => f m
  | .ktp ts => (subs f ts).map .ktp
  | .etp ts => (subs f ts).map .etp
  | .kdc ks ts => (subs f ts).map (.kdc ks)
  | .fdc ks ts => (subs f ts).map (.fdc ks)
  | .err x fs ts => (subs f ts).map (.err x fs)
  | .clo g us ts => (subs f ts).map (.clo g us)
def subs (f : Nat → Option T) : List T → Option (List T)
  | [] => some []
  | t :: ts => (sub f t).bind fun u => (subs f ts).bind fun us => some (u :: us)
end
def oldR (k : Nat) (m : Nat) : Option T := if m < k then some (.ref m) else none
def frzR (k : Nat) (S : Sto) : Nat → Nat → Option T
  | 0, m => oldR k m
  | n + 1, m => if m < k then some (.ref m) else match S[m]? with
    | some (.lst ts) => (subs (frzR k S n) ts).map .lst
    | some (.dct ks ts) => (subs (frzR k S n) ts).map (.dct ks)
    | some (.kdc ks ts) => (subs (frzR k S n) ts).map (.kdc ks)
    | _ => none
def OldS (S S1 : Sto) : Prop := ∀ (n : Nat) (c : T), n < S.length → S1[n]? = some c → S[n]? = some c ∨ sub (oldR S.length) c = some c
open Classical in
noncomputable def gc (F : FF) : FF := fun ts S => match F ts S with
  | .ok t S1 => match sub (frzR S.length S1 3) t with
    | some t' => if S.length ≤ S1.length ∧ OldS S S1 then .ok t' (S1.take S.length) else .stuck
    | none => .stuck
  | r => r
mutual
/-- a tree without cells -/
def nr : T → Bool
  | .ref _ => false
  | .tup ts => nrs ts
  | .lst ts => nrs ts
  | .sls ts => nrs ts
  | .dct _ ts => nrs ts
  | .ktp ts => nrs ts
  | .etp ts => nrs ts
  | .kdc _ ts => nrs ts
  | .fdc _ ts => nrs ts
  | .err _ _ ts => nrs ts
  | .clo _ _ ts => nrs ts
  | _ => true
def nrs : List T → Bool
  | [] => true
  | t :: ts => nr t && nrs ts
end
mutual
theorem sub_nr (f : Nat → Option T) : ∀ {t : T}, nr t = true → sub f t = some t
  | .non, _ => rfl
  | .bl _, _ => rfl
  | .int _, _ => rfl
  | .str _, _ => rfl
  | .val _, _ => rfl
  | .tup ts, h => by simp only [sub, subs_nr f (show nrs ts = true from h), Option.map_some]
  | .lst ts, h => by simp only [sub, subs_nr f (show nrs ts = true from h), Option.map_some]
  | .sls ts, h => by simp only [sub, subs_nr f (show nrs ts = true from h), Option.map_some]
  | .dct ks ts, h => by simp only [sub, subs_nr f (show nrs ts = true from h), Option.map_some]
  | .ref _, h => by cases h
  | .ktp ts, h => by simp only [sub, subs_nr f (show nrs ts = true from h), Option.map_some]
  | .etp ts, h => by simp only [sub, subs_nr f (show nrs ts = true from h), Option.map_some]
  | .kdc ks ts, h => by simp only [sub, subs_nr f (show nrs ts = true from h), Option.map_some]
  | .fdc ks ts, h => by simp only [sub, subs_nr f (show nrs ts = true from h), Option.map_some]
  | .err x fs ts, h => by simp only [sub, subs_nr f (show nrs ts = true from h), Option.map_some]
  | .clo x fs ts, h => by simp only [sub, subs_nr f (show nrs ts = true from h), Option.map_some]
theorem subs_nr (f : Nat → Option T) : ∀ {ts : List T}, nrs ts = true → subs f ts = some ts
  | [], _ => rfl
  | t :: ts, h => by
    simp only [nrs, Bool.and_eq_true] at h
    simp only [subs, sub_nr f h.1, subs_nr f h.2, Option.bind_some]
end
section
variable {K : PySem.W.Frag} {H H' : Hp} {μ μ' μ'' : Mu} {S S1 : Sto}
mutual
/-- what the trees say stays when fewer cells are told, where each cell's tree is told otherwise -/
theorem Rel.sub {f : Nat → Option T} (ho : ∀ a, μ'.out a → μ''.out a) (hf : ∀ m u v, f m = some u → Rel K H' μ' (.ref m) v → Rel K H' μ'' u v) : ∀ (t : T) {t' : T} {v : V}, sub f t = some t' → Rel K H' μ' t v → Rel K H' μ'' t' v
  | .non, _, _, e, h => by cases e; simpa only [Rel] using h
  | .bl _, _, _, e, h => by cases e; simpa only [Rel] using h
  | .int _, _, _, e, h => by cases e; simpa only [Rel] using h
  | .str _, _, _, e, h => by cases e; simpa only [Rel] using h
  | .val _, _, _, e, h => by cases e; simpa only [Rel] using h
  | .ref n, t', v, e, h => hf n t' v e h
  | .tup ts, _, _, e, h => by
    simp only [TL.sub, Option.map_eq_some_iff] at e
    obtain ⟨us, e, rfl⟩ := e
    simp only [Rel] at h ⊢
    obtain ⟨a, xs, rfl, o, r⟩ := h
    exact ⟨a, xs, rfl, o.imp (fun z => ⟨z.1, ho _ z.2⟩) id, Rels.sub ho hf ts e r⟩
  | .lst ts, _, _, e, h => by
    simp only [TL.sub, Option.map_eq_some_iff] at e
    obtain ⟨us, e, rfl⟩ := e
    simp only [Rel] at h ⊢
    obtain ⟨a, xs, rfl, o, r⟩ := h
    exact ⟨a, xs, rfl, ⟨o.1, ho _ o.2⟩, Rels.sub ho hf ts e r⟩
  | .sls ts, _, _, e, h => by
    simp only [TL.sub, Option.map_eq_some_iff] at e
    obtain ⟨us, e, rfl⟩ := e
    simp only [Rel] at h ⊢
    obtain ⟨a, xs, rfl, o, r⟩ := h
    exact ⟨a, xs, rfl, o.imp (fun z => ⟨z.1, ho _ z.2⟩) id, Rels.sub ho hf ts e r⟩
  | .dct ks ts, _, _, e, h => by
    simp only [TL.sub, Option.map_eq_some_iff] at e
    obtain ⟨us, e, rfl⟩ := e
    simp only [Rel] at h ⊢
    obtain ⟨a, xs, rfl, o, q, r⟩ := h
    exact ⟨a, xs, rfl, ⟨o.1, ho _ o.2⟩, q, Rels.sub ho hf ts e r⟩
  | .ktp ts, _, _, e, h => by
    simp only [TL.sub, Option.map_eq_some_iff] at e
    obtain ⟨us, e, rfl⟩ := e
    simp only [Rel] at h ⊢
    obtain ⟨a, xs, rfl, ⟨o, z, m, d⟩, r⟩ := h
    exact ⟨a, xs, rfl, ⟨o, z, ho _ m, d⟩, Rels.sub ho hf ts e r⟩
  | .etp ts, _, _, e, h => by
    simp only [TL.sub, Option.map_eq_some_iff] at e
    obtain ⟨us, e, rfl⟩ := e
    simp only [Rel] at h ⊢
    obtain ⟨a, xs, rfl, o, r⟩ := h
    exact ⟨a, xs, rfl, ⟨o.1, ho _ o.2⟩, Rels.sub ho hf ts e r⟩
  | .kdc ks ts, _, _, e, h => by
    simp only [TL.sub, Option.map_eq_some_iff] at e
    obtain ⟨us, e, rfl⟩ := e
    simp only [Rel] at h ⊢
    obtain ⟨a, xs, rfl, o, q, r⟩ := h
    exact ⟨a, xs, rfl, ⟨o.1, ho _ o.2⟩, q, Rels.sub ho hf ts e r⟩
  | .clo g vs ts, _, _, e, h => by
    simp only [TL.sub, Option.map_eq_some_iff] at e
    obtain ⟨us, e, rfl⟩ := e
    simp only [Rel] at h ⊢
    exact ⟨h.1, ⟨h.2.1.1, ho _ h.2.1.2⟩, Rels.sub ho hf ts e h.2.2⟩
  | .err x fs ts, _, _, e, h => by
    simp only [TL.sub, Option.map_eq_some_iff] at e
    obtain ⟨us, e, rfl⟩ := e
    simp only [Rel] at h ⊢
    obtain ⟨a, p, rfl, z, o, q, r⟩ := h
    exact ⟨a, p, rfl, ⟨z.1, ho _ z.2⟩, o, q.to (fun _ _ y => ⟨y.1, ho _ y.2⟩), Rels.sub ho hf ts e r⟩
  | .fdc ks ts, _, _, e, h => by
    simp only [TL.sub, Option.map_eq_some_iff] at e
    obtain ⟨us, e, rfl⟩ := e
    simp only [Rel] at h ⊢
    obtain ⟨a, xs, rfl, o, q, r⟩ := h
    exact ⟨a, xs, rfl, ⟨o.1, ho _ o.2⟩, q, Rels.sub ho hf ts e r⟩
theorem Rels.sub {f : Nat → Option T} (ho : ∀ a, μ'.out a → μ''.out a) (hf : ∀ m u v, f m = some u → Rel K H' μ' (.ref m) v → Rel K H' μ'' u v) : ∀ (ts : List T) {ts' : List T} {vs : List V}, subs f ts = some ts' → Rels K H' μ' ts vs → Rels K H' μ'' ts' vs
  | [], _, _, e, h => by cases e; simpa only [Rels] using h
  | t :: ts, _, _, e, h => by
    simp only [TL.subs] at e
    cases e1 : TL.sub f t with
    | none => rw [e1] at e; cases e
    | some u =>
      cases e2 : TL.subs f ts with
      | none => rw [e1, e2] at e; cases e
      | some us =>
        rw [e1, e2] at e
        cases e
        simp only [Rels] at h ⊢
        obtain ⟨v, r, rfl, h1, h2⟩ := h
        exact ⟨v, r, rfl, Rel.sub ho hf t e1 h1, Rels.sub ho hf ts e2 h2⟩
end
mutual
theorem Rel.old : ∀ (t : T) {v : V}, Rel K H μ t v → TL.sub (oldR μ.c.length) t = some t
  | .non, _, _ => rfl
  | .bl _, _, _ => rfl
  | .int _, _, _ => rfl
  | .str _, _, _ => rfl
  | .val _, _, _ => rfl
  | .ref n, _, h => by
    simp only [Rel] at h
    obtain ⟨a, e, _⟩ := h
    exact if_pos (List.getElem?_eq_some_iff.mp e).1
  | .tup ts, _, h => by
    simp only [Rel] at h
    obtain ⟨a, xs, _, _, r⟩ := h
    simp only [TL.sub, Rels.old ts r, Option.map_some]
  | .lst ts, _, h => by
    simp only [Rel] at h
    obtain ⟨a, xs, _, _, r⟩ := h
    simp only [TL.sub, Rels.old ts r, Option.map_some]
  | .sls ts, _, h => by
    simp only [Rel] at h
    obtain ⟨a, xs, _, _, r⟩ := h
    simp only [TL.sub, Rels.old ts r, Option.map_some]
  | .dct ks ts, _, h => by
    simp only [Rel] at h
    obtain ⟨a, xs, _, _, _, r⟩ := h
    simp only [TL.sub, Rels.old ts r, Option.map_some]
  | .ktp ts, _, h => by
    simp only [Rel] at h
    obtain ⟨a, xs, _, _, r⟩ := h
    simp only [TL.sub, Rels.old ts r, Option.map_some]
  | .etp ts, _, h => by
    simp only [Rel] at h
    obtain ⟨a, xs, _, _, r⟩ := h
    simp only [TL.sub, Rels.old ts r, Option.map_some]
  | .kdc ks ts, _, h => by
    simp only [Rel] at h
    obtain ⟨a, xs, _, _, _, r⟩ := h
    simp only [TL.sub, Rels.old ts r, Option.map_some]
  | .clo g vs ts, _, h => by
    simp only [Rel] at h
    simp only [TL.sub, Rels.old ts h.2.2, Option.map_some]
  | .err x fs ts, _, h => by
    simp only [Rel] at h
    obtain ⟨a, p, _, _, _, _, r⟩ := h
    simp only [TL.sub, Rels.old ts r, Option.map_some]
  | .fdc ks ts, _, h => by
    simp only [Rel] at h
    obtain ⟨a, xs, _, _, _, r⟩ := h
    simp only [TL.sub, Rels.old ts r, Option.map_some]
theorem Rels.old : ∀ (ts : List T) {vs : List V}, Rels K H μ ts vs → TL.subs (oldR μ.c.length) ts = some ts
  | [], _, _ => rfl
  | t :: ts, _, h => by
    simp only [Rels] at h
    obtain ⟨v, r, rfl, h1, h2⟩ := h
    simp only [TL.subs, Rel.old t h1, Rels.old ts h2, Option.bind_some]
end
theorem CellR.old {a : Addr} {c : T} (h : CellR K H μ a c) : TL.sub (oldR μ.c.length) c = some c := by
  cases c with
  | lst ts =>
    obtain ⟨vs, _, r⟩ := h
    simp only [TL.sub, Rels.old ts r, Option.map_some]
  | dct ks ts =>
    obtain ⟨kvs, _, _, r⟩ := h
    simp only [TL.sub, Rels.old ts r, Option.map_some]
  | kdc ks ts =>
    obtain ⟨kvs, _, _, r⟩ := h
    simp only [TL.sub, Rels.old ts r, Option.map_some]
  | _ => exact h.elim
theorem oldR_rel (hc : ∃ ν, μ'.c = μ.c ++ ν) (h2 : μ''.c = μ.c) : ∀ m u v, oldR μ.c.length m = some u → Rel K H' μ' (.ref m) v → Rel K H' μ'' u v := fun m u v e h => by
  unfold oldR at e
  split at e
  · rename_i hm
    cases e
    simp only [Rel] at h ⊢
    obtain ⟨a, ea, rfl⟩ := h
    obtain ⟨ν, eν⟩ := hc
    rw [eν, List.getElem?_append_left hm] at ea
    exact ⟨a, by rw [h2]; exact ea, rfl⟩
  · cases e
theorem frzR_rel (hc : ∃ ν, μ'.c = μ.c ++ ν) (h2 : μ''.c = μ.c) (hr : μ''.r = μ'.r) (s : RelS K H' μ' S1) : ∀ n m u v, frzR μ.c.length S1 n m = some u → Rel K H' μ' (.ref m) v → Rel K H' μ'' u v
  | 0, m, u, v, e, h => oldR_rel hc h2 m u v e h
  | n + 1, m, u, v, e, h => by
    have ho : ∀ a, μ'.out a → μ''.out a := fun a o => ⟨fun z => o.1 (by
      obtain ⟨ν, eν⟩ := hc
      rw [eν]
      exact List.mem_append_left _ (by rw [← h2]; exact z)), by rw [hr]; exact o.2⟩
    unfold frzR at e
    split at e
    · rename_i hm
      cases e
      exact oldR_rel hc h2 m _ v (if_pos hm) h
    · rename_i hm
      simp only [Rel] at h
      obtain ⟨a, ea, rfl⟩ := h
      have ao : μ''.out a := ⟨fun z => by
        rw [h2] at z
        obtain ⟨ν, eν⟩ := hc
        have nd := s.nd
        rw [eν, List.nodup_append] at nd
        rw [eν, List.getElem?_append_right (Nat.le_of_not_lt hm)] at ea
        exact nd.2.2 a z a (List.mem_of_getElem? ea) rfl, fun z => s.dis a (hr ▸ z) (List.mem_of_getElem? ea)⟩
      cases es : S1[m]? with
      | none => rw [es] at e; cases e
      | some c =>
        have q := s.cell m c a es ea
        rw [es] at e
        cases c with
        | lst ts =>
          simp only [Option.map_eq_some_iff] at e
          obtain ⟨us, e, rfl⟩ := e
          obtain ⟨vs, hv, r⟩ := q
          simp only [Rel]
          exact ⟨a, vs, rfl, ⟨hv, ao⟩, Rels.sub ho (fun m u v e h => frzR_rel hc h2 hr s n m u v e h) ts e r⟩
        | dct ks ts =>
          simp only [Option.map_eq_some_iff] at e
          obtain ⟨us, e, rfl⟩ := e
          obtain ⟨vs, hv, hk, r⟩ := q
          simp only [Rel]
          exact ⟨a, vs, rfl, ⟨hv, ao⟩, hk, Rels.sub ho (fun m u v e h => frzR_rel hc h2 hr s n m u v e h) ts e r⟩
        | kdc ks ts =>
          simp only [Option.map_eq_some_iff] at e
          obtain ⟨us, e, rfl⟩ := e
          obtain ⟨vs, hv, hk, r⟩ := q
          simp only [Rel]
          exact ⟨a, vs, rfl, ⟨hv, ao⟩, hk, Rels.sub ho (fun m u v e h => frzR_rel hc h2 hr s n m u v e h) ts e r⟩
        | _ => cases e
end
section
variable {P : Program} {w : World} {K : PySem.W.Frag} {mg : Str → Option Value} {base : Heap} {k : Nat} {f : Addr} {fd : FuncData} {ps : List Str} {F : FF}
theorem post_gc {μ : Mu} {H : Hp} {S : Sto} {ts : List T} {Q : VK} (s : RelS K H μ S) (h : post K xF (rV K) μ H (gc F ts S) Q) : post K xF (rV K) μ H (F ts S) Q := by
  unfold gc at h
  cases e : F ts S with
  | stuck => simp only [e] at h; exact h
  | exc x S1 => simp only [e] at h; exact h
  | ok t S1 =>
    simp only [e] at h
    cases e1 : sub (frzR S.length S1 3) t with
    | none => simp only [e1] at h; exact h.elim
    | some t' =>
      simp only [e1] at h
      split at h
      · rename_i hz
        obtain ⟨hl, hz⟩ := hz
        intro μ' v H' E s' r
        have hc : ∃ ν, μ'.c = μ.c ++ ν := by
          obtain ⟨ν, eν, _⟩ := E.pre
          exact ⟨ν, eν⟩
        have ho : ∀ a, μ'.out a → Mu.out ⟨μ.c, μ'.r, μ.t⟩ a := fun a o => ⟨fun z => o.1 (by
          obtain ⟨ν, eν⟩ := hc
          rw [eν]
          exact List.mem_append_left _ z), o.2⟩
        refine h ⟨μ.c, μ'.r, μ.t⟩ v H' ⟨⟨[], by simp, fun _ z => nomatch z⟩, E.res, E.keep, E.live, rfl⟩ ⟨?_, s.nd, fun n c a ec ea => ?_, s'.live, fun p hp z => s'.dis p hp ?_, fun p hp => (s'.tab p hp).to fun a o e n => ⟨e, ho a n⟩⟩ ?_
        · rw [List.length_take, s.len]
          omega
        · have hn : n < S.length := by
            rw [← s.len]
            exact (List.getElem?_eq_some_iff.mp ea).1
          rw [List.getElem?_take_of_lt hn] at ec
          obtain ⟨ν, eν⟩ := hc
          have ea' : μ'.c[n]? = some a := by
            rw [eν, List.getElem?_append_left (by rw [s.len]; exact hn)]
            exact ea
          have q := s'.cell n c a ec ea'
          have oc : TL.sub (oldR μ.c.length) c = some c := by
            rcases hz n c hn ec with y | y
            · exact (s.cell n c a y ea).old
            · rw [s.len]; exact y
          have hf := oldR_rel (K := K) (H' := H') (μ := μ) (μ' := μ') (μ'' := ⟨μ.c, μ'.r, μ.t⟩) ⟨ν, eν⟩ rfl
          cases c with
          | lst ts =>
            obtain ⟨vs, hv, r⟩ := q
            simp only [TL.sub, Option.map_eq_some_iff, T.lst.injEq] at oc
            obtain ⟨us, oc, rfl⟩ := oc
            exact ⟨vs, hv, Rels.sub ho hf _ oc r⟩
          | dct ks ts =>
            obtain ⟨vs, hv, hk, r⟩ := q
            simp only [TL.sub, Option.map_eq_some_iff, T.dct.injEq, true_and] at oc
            obtain ⟨us, oc, rfl⟩ := oc
            exact ⟨vs, hv, hk, Rels.sub ho hf _ oc r⟩
          | kdc ks ts =>
            obtain ⟨vs, hv, hk, r⟩ := q
            simp only [TL.sub, Option.map_eq_some_iff, T.kdc.injEq, true_and] at oc
            obtain ⟨us, oc, rfl⟩ := oc
            exact ⟨vs, hv, hk, Rels.sub ho hf _ oc r⟩
          | _ => exact q.elim
        · obtain ⟨ν, eν⟩ := hc
          rw [eν]
          exact List.mem_append_left _ z
        · rw [← s.len] at e1
          exact Rel.sub ho (fun m u v e h => frzR_rel (μ'' := ⟨μ.c, μ'.r, μ.t⟩) hc rfl rfl s' 3 m u v e h) t e1 r
      · exact h.elim
theorem df_gc (D : Df P w K mg base k f fd ps F) : Df P w K mg base k f fd ps (gc F) where
  arity := fun ts S h => by unfold gc; rw [D.arity ts S h]
  go := fun A fs s H given us vs Q hr hg he hb hv hs => D.go A fs s H given us vs Q hr hg he hb hv (by
    obtain ⟨μ, S, ts, st, r, h⟩ := hs
    exact ⟨μ, S, ts, st, r, post_gc st h⟩)
end
theorem gc_eq {F : FF} {ts : List T} {S J : Sto} {t t' : T} (h : F ts S = .ok t (S ++ J)) (e : sub (frzR S.length (S ++ J) 3) t = some t') : gc F ts S = .ok t' S := by
  unfold gc
  rw [h]
  simp only [e]
  rw [if_pos ⟨by simp, fun n c hn hc => .inl (by rw [← hc, List.getElem?_append_left hn])⟩, List.take_left' rfl]
theorem gc_nr {F : FF} {ts : List T} {S J : Sto} {t : T} (h : F ts S = .ok t (S ++ J)) (e : nr t = true) : gc F ts S = .ok t S := gc_eq h (sub_nr _ e)
theorem gc_ref {F : FF} {ts us : List T} {S J : Sto} {m : Nat} (h : F ts S = .ok (.ref m) (S ++ J)) (hm : S.length ≤ m) (e : (S ++ J)[m]? = some (.lst us)) (hn : nrs us = true) : gc F ts S = .ok (.lst us) S := gc_eq h (by
  simp only [sub, frzR]
  rw [if_neg (by omega), e]
  simp only [subs_nr _ hn, Option.map_some])
theorem gc_old {F : FF} {ts : List T} {S S' J : Sto} {t : T} (h : F ts S = .ok t (S' ++ J)) (hl : S'.length = S.length) (e : nr t = true) (ho : ∀ (n : Nat) (c : T), S'[n]? = some c → S[n]? = some c ∨ sub (oldR S.length) c = some c) : gc F ts S = .ok t S' := by
  unfold gc
  rw [h]
  simp only [sub_nr _ e]
  rw [if_pos ⟨by simp [hl], fun n c hn hc => ho n c (by rw [← hc, List.getElem?_append_left (by omega)])⟩, List.take_left' hl]
theorem nrs_all : ∀ {ts : List T}, (∀ t ∈ ts, nr t = true) → nrs ts = true
  | [], _ => rfl
  | t :: ts, h => by simp only [nrs, h t List.mem_cons_self, nrs_all fun u hu => h u (List.mem_cons_of_mem _ hu), Bool.and_self]
theorem nrs_map {α : Type} {f : α → T} {l : List α} (h : ∀ x ∈ l, nr (f x) = true) : nrs (l.map f) = true := nrs_all fun t ht => by
  obtain ⟨x, hx, rfl⟩ := List.mem_map.mp ht
  exact h x hx
theorem nrs_str (l : List Str) : nrs (l.map T.str) = true := nrs_map fun _ _ => rfl
theorem nrs_int (l : List Int) : nrs (l.map T.int) = true := nrs_map fun _ _ => rfl
end TL
set_option Elab.async false
set_option linter.all false
set_option maxRecDepth 100000
namespace TL
open PySem PySem.Spec L2
open PyProof.Rows hiding St
abbrev CS := List T × Nat × T
abbrev FIC := Fr → Sto → Res CS
def SrcC (K : PySem.W.Frag) (J : It) (p : CS) (μ : Mu) (H : Hp) : Prop := ∀ μ2 H2 S2, Ext H μ H2 μ2 → RelS K H2 μ2 S2 → S2[p.2.1]? = some p.2.2 →
  (∀ i x, p.1[i]? = some x → J.go i H2 ∧ ∀ v H3, J.yld i H2 v H3 → Same H2 H3 ∧ ∀ S, RelS K H2 μ2 S → Rel K H3 μ2 x v) ∧ ∀ i, p.1.length ≤ i → J.stop i H2
def rIC (K : PySem.W.Frag) : RL CS It := fun H μ p J => SrcC K J p μ H
def wiC (K : PySem.W.Frag) (wx : WT) (Fi : FIC) : TI := tG K wx (rIC K) Fi
def PFIC (X : Cx) (wx : WT) (tg e : Expr) (Fi : FIC) : Prop := PI X tg e (wiC X.K wx Fi)
def lstC (S : Sto) (t : T) : Option (Nat × List T) := match t with
  | .ref n => match S[n]? with
    | some (.lst ts) => some (n, ts)
    | _ => none
  | _ => none
theorem lstC_eq {S : Sto} {t : T} {n : Nat} {ts : List T} (h : lstC S t = some (n, ts)) : t = .ref n ∧ S[n]? = some (.lst ts) := by
  unfold lstC at h
  split at h
  · rename_i m
    split at h
    · rename_i us e
      cases h
      exact ⟨rfl, e⟩
    · cases h
  · cases h
def fiAC (Fa : FE) : FIC := fun τ S => (Fa τ S).bind fun t S1 => match lstC S1 t with
  | some (n, ts) => .ok (ts, n, .lst ts) S1
  | none => .stuck
def numbT (xs : List T) : List T := (List.range xs.length).zipWith (fun i x => T.tup [.int (i : Nat), x]) xs
def fiEC (Fs : FA) : FIC := fun τ S => (Fs τ S).bind fun ts S1 => match ts with
  | [t] => match lstC S1 t with
    | some (n, ts) => .ok (numbT ts, n, .lst ts) S1
    | none => .stuck
  | _ => .stuck
open Classical in
noncomputable def forC (n : Nat) (c : T) (g : GT) (B : BS) : List T → BS
  | [], τ, S => if S[n]? = some c then .nx τ S else .stuck
  | x :: xs, τ, S => if S[n]? = some c then (match g x with
    | none => .stuck
    | some l => match B (setsT τ l) S with
      | .nx τ2 S2 => forC n c g B xs τ2 S2
      | .ct τ2 S2 => forC n c g B xs τ2 S2
      | .bk τ2 S2 => .nx τ2 S2
      | r => r) else .stuck
noncomputable def bForC (Fi : FIC) (g : GT) (B : BS) : BS := fun τ S => (Fi τ S).bindS τ fun p S1 => forC p.2.1 p.2.2 g B p.1 τ S1
open Classical in
noncomputable def lcC (n : Nat) (c : T) (g : GT) (Ft : FT) (Fe : FE) (vs : List Nat) (τ : Fr) : List T → Sto → Res (List T)
  | [], S => if S[n]? = some c then .ok [] S else .stuck
  | x :: xs, S => if S[n]? = some c then (match g x with
    | none => .stuck
    | some l => if slotsIn l vs then (Ft (setsT τ l) S).nox.bind fun k S1 => match k with
        | true => (Fe (setsT τ l) S1).nox.bind fun y S2 => (lcC n c g Ft Fe vs τ xs S2).bind fun ys S3 => .ok (y :: ys) S3
        | false => lcC n c g Ft Fe vs τ xs S1
      else .stuck) else .stuck
noncomputable def fLcC (Fi : FIC) (g : GT) (Ft : FT) (Fe : FE) (vs : List Nat) : FE := fun τ S => (Fi τ S).bind fun p S1 => if p.1.length ≤ sizeLine then (lcC p.2.1 p.2.2 g Ft Fe vs (wipeT τ vs) p.1 S1).bind fun ys S2 => .ok (.lst ys) S2 else .stuck
section
variable {X : Cx} {wx : WT} {pos p : Pos} {tg a e : Expr} {Fa : FE} {Fs : FA}
theorem lstC_ok {K : PySem.W.Frag} {H : Hp} {μ : Mu} {S : Sto} {t : T} {v : V} {n : Nat} {ts : List T} (h : lstC S t = some (n, ts)) (s : RelS K H μ S) (r : Rel K H μ t v) : ∃ a vs, μ.c[n]? = some a ∧ v = .ref a ∧ H a = some (.lst vs) ∧ Rels K H μ ts vs := by
  obtain ⟨rfl, e⟩ := lstC_eq h
  simp only [Rel] at r
  obtain ⟨a, ea, rfl⟩ := r
  obtain ⟨vs, hv, rv⟩ := s.cell n _ a e ea
  exact ⟨a, vs, ea, rfl, hv, rv⟩
theorem cell_later {K : PySem.W.Frag} {H H2 : Hp} {μ μ2 : Mu} {S2 : Sto} {n : Nat} {a : Addr} {ts : List T} (ea : μ.c[n]? = some a) (E : Ext H μ H2 μ2) (s2 : RelS K H2 μ2 S2) (e2 : S2[n]? = some (.lst ts)) : ∃ vs, H2 a = some (.lst vs) ∧ Rels K H2 μ2 ts vs := by
  obtain ⟨ν, eν, _⟩ := E.pre
  have ea2 : μ2.c[n]? = some a := by rw [eν, List.getElem?_append_left (List.getElem?_eq_some_iff.mp ea).1]; exact ea
  exact s2.cell n _ a e2 ea2
theorem pfi_cell (ha : PF X wx a Fa) : PFIC X wx tg a (fiAC Fa) := PI.imp (pi_list ha) fun σ H Q h => by
  obtain ⟨μ, τ, S, s, f, h⟩ := h
  refine tG.seq s f h fun μ1 H1 t v S1 A1 h1 => ?_
  cases e : lstC S1 t with
  | none => simp only [e] at h1; exact h1.elim
  | some q =>
    obtain ⟨n, ts⟩ := q
    simp only [e] at h1
    obtain ⟨a, vs, ea, rfl, hv, rv⟩ := lstC_ok e A1.st A1.rel
    refine ⟨a, rfl, ⟨vs, .inl (.inl hv)⟩, h1.here A1.st fun μ2 H2 S2 E s2 e2 => ?_⟩
    obtain ⟨ws, hw, rw'⟩ := cell_later ea E s2 e2
    have hq : SqL X.K H2 a ws := .inl (.inl hw)
    refine ⟨fun i x ei => ?_, fun i hi => ⟨ws, hq, by rw [← rw'.length]; exact hi⟩⟩
    obtain ⟨u, eu, ru⟩ := rw'.get ei
    refine ⟨⟨ws, u, hq, eu⟩, fun v H3 y => ?_⟩
    obtain ⟨rfl, hy⟩ := y
    have := hy ws hq
    rw [eu] at this
    cases this
    exact ⟨Same.refl _, fun _ _ => ru⟩
theorem pfi_enumC {elts : List Expr} {kk : Nat} {tpos : Pos} (ha : PFA X wx [e] Fs) (hm : X.mg "enumerate" = none) (hg : Gl X "enumerate" := by rfl) (hs : starEach [e] X.env = [(false, eval e X.env)] := by rfl) :
    PFIC X wx (.Tuple elts kk tpos) (.Call (.Name "enumerate" p) [e] [] pos) (fiEC Fs) := PI.imp (pi_enum hg hm ha hs) fun σ H Q h => by
  obtain ⟨μ, τ, S, s, f, h⟩ := h
  refine tG.seq s f h fun μ1 H1 ts vs S1 A1 h1 => ?_
  split at h1
  · rename_i t
    cases e : lstC S1 t with
    | none => simp only [e] at h1; exact h1.elim
    | some q =>
      obtain ⟨n, us⟩ := q
      simp only [e] at h1
      obtain ⟨v, rfl, rt⟩ := rels1 (show Rels X.K H1 μ1 [t] vs from A1.rel)
      obtain ⟨a, ws, ea, rfl, hv, rv⟩ := lstC_ok e A1.st rt
      refine ⟨a, ws, rfl, .inl (.inl hv), h1.here A1.st fun μ2 H2 S2 E s2 e2 => ?_⟩
      obtain ⟨ws, hw, rw'⟩ := cell_later ea E s2 e2
      have hq : SqL X.K H2 a ws := .inl (.inl hw)
      refine ⟨fun i y ei => ?_, fun i hi => ⟨ws, hq, by rw [← rw'.length]; simpa [numbT] using hi⟩⟩
      obtain ⟨x, ex, rfl⟩ := zip_range ei
      obtain ⟨v, ev, rv2⟩ := rw'.get ex
      refine ⟨⟨ws, v, hq, ev⟩, fun u H3 y => ?_⟩
      obtain ⟨T', x', rfl, nT, rfl, hx'⟩ := y
      have := hx' ws hq
      rw [ev] at this
      cases this
      have sm := fresh_same (o := .tup [.int (i : Nat), v]) nT
      refine ⟨sm, fun S s => ?_⟩
      exact rel_tup s nT (by simp only [Rels, Rel]; exact ⟨_, _, rfl, rfl, v, [], rfl, rv2, rfl⟩)
  · exact h1.elim
def fiEL (Fs : FA) : FI := fun τ S => (Fs τ S).bind fun ts S1 => match ts with
  | [.lst xs] => .ok (numbT xs) S1
  | [.sls xs] => .ok (numbT xs) S1
  | _ => .stuck
theorem Src.enumL {K : PySem.W.Frag} {H : Hp} {μ : Mu} {a : Addr} {ws : List V} {xs : List T} (f : OL K H μ a ws) (r : Rels K H μ xs ws) : Src K (Ite K a) (numbT xs) μ H := fun μ2 H2 E => by
  have f2 : OL K H2 μ2 a ws := f.imp E.fix id
  have hq : SqL K H2 a ws := f2.imp (fun z => z.1) id
  have rw' := Rels.mono E xs r
  refine ⟨fun i y ei => ?_, fun i hi => ⟨ws, hq, by rw [← rw'.length]; simpa [numbT] using hi⟩⟩
  obtain ⟨x, ex, rfl⟩ := zip_range ei
  obtain ⟨v, ev, rv2⟩ := rw'.get ex
  refine ⟨⟨ws, v, hq, ev⟩, fun u H3 y => ?_⟩
  obtain ⟨T', x', rfl, nT, rfl, hx'⟩ := y
  have := hx' ws hq
  rw [ev] at this
  cases this
  have sm := fresh_same (o := .tup [.int (i : Nat), v]) nT
  refine ⟨sm, fun S s => ?_⟩
  exact rel_tup s nT (by simp only [Rels, Rel]; exact ⟨_, _, rfl, rfl, v, [], rfl, rv2, rfl⟩)
theorem pfi_enumL {elts : List Expr} {kk : Nat} {tpos : Pos} (ha : PFA X wx [e] Fs) (hm : X.mg "enumerate" = none) (hg : Gl X "enumerate" := by rfl) (hs : starEach [e] X.env = [(false, eval e X.env)] := by rfl) :
    PFI X wx (.Tuple elts kk tpos) (.Call (.Name "enumerate" p) [e] [] pos) (fiEL Fs) := PI.imp (pi_enum hg hm ha hs) fun σ H Q h => by
  obtain ⟨μ, τ, S, s, f, h⟩ := h
  refine tG.seq s f h fun μ1 H1 ts vs S1 A1 h1 => ?_
  split at h1
  · rename_i xs
    obtain ⟨v, rfl, rt⟩ := rels1 (show Rels X.K H1 μ1 [.lst xs] vs from A1.rel)
    simp only [Rel] at rt
    obtain ⟨a, ws, rfl, o, r⟩ := rt
    have o' : OL X.K H1 μ1 a ws := .inl ⟨.inl o.1, o.2⟩
    exact ⟨a, ws, rfl, .inl (.inl o.1), h1.here A1.st (Src.enumL o' r)⟩
  · rename_i xs
    obtain ⟨v, rfl, rt⟩ := rels1 (show Rels X.K H1 μ1 [.sls xs] vs from A1.rel)
    simp only [Rel] at rt
    obtain ⟨a, ws, rfl, o, r⟩ := rt
    exact ⟨a, ws, rfl, o.imp (fun z => z.1) fun z => z, h1.here A1.st (Src.enumL o r)⟩
  · exact h1.elim
def fiEA (Fs : FA) : FI := fun τ S => (Fs τ S).bind fun ts S1 => match ts with
  | [.tup xs] => .ok (numbT xs) S1
  | [.lst xs] => .ok (numbT xs) S1
  | [.sls xs] => .ok (numbT xs) S1
  | _ => .stuck
theorem pfi_enumA {elts : List Expr} {kk : Nat} {tpos : Pos} (ha : PFA X wx [e] Fs) (hm : X.mg "enumerate" = none) (hg : Gl X "enumerate" := by rfl) (hs : starEach [e] X.env = [(false, eval e X.env)] := by rfl) :
    PFI X wx (.Tuple elts kk tpos) (.Call (.Name "enumerate" p) [e] [] pos) (fiEA Fs) := ⟨fun pins s σ H R I h => by
  obtain ⟨μ, τ, S, st, f, h⟩ := h
  have lists : ∀ {q : Res (List T)}, fiEL Fs τ S = q → post X.K (wx.fr τ σ) (rI X.K) μ H q R → _ := fun {q} e z => (pfi_enumL (p := p) (pos := pos) (elts := elts) (kk := kk) (tpos := tpos) ha hm hg hs).run pins s σ H R I ⟨μ, τ, S, st, f, by rw [e]; exact z⟩
  have tups : ∀ {q : Res (List T)}, fiE Fs τ S = q → post X.K (wx.fr τ σ) (rI X.K) μ H q R → _ := fun {q} e z => (pfi_enum (p := p) (pos := pos) (elts := elts) (kk := kk) (tpos := tpos) ha hm hg hs).run pins s σ H R I ⟨μ, τ, S, st, f, by rw [e]; exact z⟩
  cases e : Fs τ S with
  | stuck => simp only [fiEA, e, Res.bind] at h; exact h.elim
  | exc x S1 =>
    simp only [fiEA, e, Res.bind] at h
    exact lists (by simp only [fiEL, e, Res.bind]) h
  | ok ts S1 =>
    simp only [fiEA, e, Res.bind] at h
    split at h
    · exact tups (by simp only [fiE, e, Res.bind, numbT]) h
    · exact lists (by simp only [fiEL, e, Res.bind]) h
    · exact lists (by simp only [fiEL, e, Res.bind]) h
    · exact h.elim⟩
end
section
variable {X : Cx} {wx : WT} {pos : Pos} {B : BS}
theorem lcC_imp {Fi : FIC} {g : GT} {Ft : FT} {Fe : FE} {vs : List Nat} {σ : L2.St} {H : Hp} {Q : VK} (h : tN X.K wx (fLcC Fi g Ft Fe vs) σ H Q) : tLc (wiC X.K wx Fi) (gT X.K g) (tG X.K wF rB Ft) (tG X.K wF (rV X.K) Fe) vs σ H Q := by
  obtain ⟨μ, τ, S, s, f, h⟩ := h
  refine tG.seqN s f h fun μ1 H1 p J S1 A1 h1 => ?_
  obtain ⟨xs, n, c⟩ := p
  simp only at h1
  by_cases hl : xs.length ≤ sizeLine
  · rw [if_pos hl] at h1
    intro D hD
    have hD0 : H D = none := A1.ext.back hD
    -- what is kept: the list so far stands at D, which no tree names
    refine ⟨fun i m H2 => ∃ M S2 acc accT, Ext H1 μ1 H2 M ∧ D ∈ M.r ∧ RelS X.K H2 M S2 ∧ RelF X.K H2 M τ σ ∧ H2 D = some (.lst acc) ∧ Rels X.K H2 M accT acc ∧ acc.length ≤ i ∧ i ≤ xs.length ∧ m = xs.length - i ∧
        postN X.K (wx.fr τ σ) μ H ((lcC n c g Ft Fe vs (wipeT τ vs) (xs.drop i) S2).bind fun ys S3 => .ok (.lst (accT ++ ys)) S3) Q,
      ⟨xs.length, μ1.hide D, S1, [], [], Ext.hide hD, List.mem_cons_self, A1.st.hide hD, RelF.to (μ := μ1) (fun _ _ e => e) (hide_keep hD) A1.fr, upd_same, by simp only [Rels], Nat.zero_le _, Nat.zero_le _, rfl, by simpa using h1⟩, fun i m H2 hW => ?_⟩
    obtain ⟨M, S2, acc, accT, E2, nr2, s2, f2, d2, a2, hai, hix, rfl, h2⟩ := hW
    have hck : S2[n]? = some c := Classical.byContradiction fun hck => by
      cases hd : xs.drop i with
      | nil => rw [hd] at h2; simp only [lcC] at h2; rw [if_neg hck] at h2; exact h2
      | cons x r => rw [hd] at h2; simp only [lcC] at h2; rw [if_neg hck] at h2; exact h2
    obtain ⟨go, stop⟩ := A1.rel M H2 S2 E2 s2 hck
    by_cases hlt : i < xs.length
    · rw [drop_cons hlt] at h2
      obtain ⟨hgo, hy⟩ := go i xs[i] (List.getElem?_eq_getElem hlt)
      refine .inr ⟨hgo, fun H' => ∃ M S2 acc accT, Ext H1 μ1 H' M ∧ D ∈ M.r ∧ RelS X.K H' M S2 ∧ RelF X.K H' M τ σ ∧ H' D = some (.lst acc) ∧ Rels X.K H' M accT acc ∧ acc.length ≤ i + 1 ∧
        postN X.K (wx.fr τ σ) μ H ((lcC n c g Ft Fe vs (wipeT τ vs) (xs.drop (i + 1)) S2).bind fun ys S3 => .ok (.lst (accT ++ ys)) S3) Q, fun H' hN' => ?_, fun v H3 yl => ?_⟩
      · obtain ⟨M3, S3, acc3, accT3, q1, q2, q3, q4, q5, q6, q7, q8⟩ := hN'
        exact ⟨xs.length - (i + 1), by omega, M3, S3, acc3, accT3, q1, q2, q3, q4, q5, q6, q7, hlt, rfl, q8⟩
      · -- a turn
        obtain ⟨sm, hr⟩ := hy v H3 yl
        have E3 : Ext H2 M H3 M := Ext.of_same sm
        have s3 := s2.same sm
        have f3 := f2.mono E3
        simp only [lcC] at h2
        rw [if_pos hck] at h2
        cases eg : g xs[i] with
        | none => simp only [eg] at h2; exact h2.elim
        | some l =>
          simp only [eg] at h2
          by_cases ha : slotsIn l vs = true
          · rw [if_pos ha] at h2
            refine ⟨M, xs[i], l, hr S2 s2, eg, fun l' fl => ⟨wipe_back (slotsIn_mem ha fl), ?_⟩⟩
            have fb : RelF X.K H3 M (setsT (wipeT τ vs) l) (setsV (wipe σ vs) l') := RelF.sets fl (relF_wipe f3 vs)
            cases et : Ft (setsT (wipeT τ vs) l) S2 with
            | stuck => rw [et] at h2; exact h2.elim
            | exc x S4 => rw [et] at h2; exact h2.elim
            | ok k S4 =>
              rw [et] at h2
              simp only [Res.nox, Res.bind] at h2
              refine tG.known s3 fb et fun M4 H4 b A4 => ?_
              have e : k = b := A4.rel
              subst e
              have E4 : Ext H2 M H4 M4 := E3.trans A4.ext
              cases k with
              | false =>
                simp only at h2
                refine iteF ⟨M4, S4, acc, accT, E2.trans E4, A4.ext.res.1 D nr2, A4.st, f2.mono E4, ?_, Rels.mono E4 _ a2, by omega, h2⟩
                exact E4.kp D _ d2 (s2.dis D nr2)
              | true =>
                simp only at h2
                refine iteT ?_
                cases ee : Fe (setsT (wipeT τ vs) l) S4 with
                | stuck => rw [ee] at h2; exact h2.elim
                | exc x S5 => rw [ee] at h2; exact h2.elim
                | ok y S5 =>
                  rw [ee] at h2
                  simp only at h2
                  refine tG.known A4.st A4.fr ee fun M5 H5 w A5 => ?_
                  have E5 : Ext H2 M H5 M5 := E4.trans A5.ext
                  have nr5 : D ∈ M5.r := A5.ext.res.1 D (A4.ext.res.1 D nr2)
                  have d5 : H5 D = some (.lst acc) := E5.kp D _ d2 (s2.dis D nr2)
                  refine ⟨acc, d5, by omega, M5, S5, acc ++ [w], accT ++ [y], (E2.trans E5).hid hD, nr5, A5.st.hid nr5, RelF.to (μ := M5) (fun _ _ e => e) (hid_keep nr5) (f2.mono E5), upd_same, ?_, by simp; omega, ?_⟩
                  · refine Rels.to (μ := M5) (fun _ _ e => e) (hid_keep nr5) _ (Rels.append (Rels.mono E5 _ a2) ?_)
                    simp only [Rels]
                    exact ⟨w, [], rfl, A5.rel, rfl⟩
                  · cases er : lcC n c g Ft Fe vs (wipeT τ vs) (xs.drop (i + 1)) S5 with
                    | stuck => rw [er] at h2; exact h2.elim
                    | exc x S6 => rw [er] at h2; exact h2
                    | ok ys S6 =>
                      rw [er] at h2
                      simp only [Res.bind] at h2 ⊢
                      rw [List.append_assoc]
                      exact h2
          · rw [if_neg ha] at h2; exact h2.elim
    · have e : i = xs.length := by omega
      subst e
      rw [List.drop_length] at h2
      refine .inl ⟨stop _ (Nat.le_refl _), ?_⟩
      simp only [lcC] at h2
      rw [if_pos hck] at h2
      simp only [Res.bind, List.append_nil] at h2
      exact h2 M H2 D (A1.ext.trans E2) hD0 nr2 s2 ⟨acc, d2, a2⟩
  · rw [if_neg hl] at h1; exact h1.elim
theorem pfn_lcC {elt tg iter : Expr} {ifs : List Expr} {scope : Scope} {own : List (Str × Nat)} {Fi : FIC} {g : GT} {Ft : FT} {Fe : FE} (hc : X.calm = true) (hN : X.N.Nodup) (hi : PFIC X wx tg iter Fi) (ok : BlkOk X.N X.env.scope scope own)
    (hg : ∀ (s : Shared) (H : Hp) (C : Addr) (cl : List (Str × Addr)) (fp : List Addr), PFG (X.blk s H scope (compEnvC scope cl C X.env) fp) tg g) (ht : ∀ (s : Shared) (H : Hp) (C : Addr) (cl : List (Str × Addr)) (fp : List Addr), PFTs (X.blk s H scope (compEnvC scope cl C X.env) fp) wF ifs Ft)
    (he : ∀ (s : Shared) (H : Hp) (C : Addr) (cl : List (Str × Addr)) (fp : List Addr), PF (X.blk s H scope (compEnvC scope cl C X.env) fp) wF elt Fe) (hs : ∀ x, foldedSetIterable iter X.env x = pure x := by intro _; rfl) :
    PFN X wx (.ListComp elt [⟨tg, iter, ifs, 0⟩] scope pos) (fLcC Fi g Ft Fe (own.map (·.2))) := PE.imp (pe_lc (g := gT X.K g) (tt := tG X.K wF rB Ft) (te := tG X.K wF (rV X.K) Fe) hc hN hi ok hg ht he hs) fun _ _ _ h => lcC_imp h
section
variable {elt tg iter : Expr} {ifs : List Expr} {scope : Scope} {own : List (Str × Nat)} {Fi : FIC} {g : GT} {Ft : FT} {Fe : FE} {i : Nat} {y : Str} {py spos : Pos} (hc : X.calm = true) (hN : X.N.Nodup) (hy : X.N[i]? = some y) (hyl : X.env.scope.names.lookup y = some .local)
  (hsw : swapsWith (.ListComp elt [⟨tg, iter, ifs, 0⟩] scope pos) (some (.Name y py)) spos.line X.env = pure true) (hi : PFIC X wx tg iter Fi) (ok : BlkOk X.N X.env.scope scope own)
  (hg : ∀ (s : Shared) (H : Hp) (C : Addr) (cl : List (Str × Addr)) (fp : List Addr), PFG (X.blk s H scope (compEnvC scope cl C X.env) fp) tg g) (ht : ∀ (s : Shared) (H : Hp) (C : Addr) (cl : List (Str × Addr)) (fp : List Addr), PFTs (X.blk s H scope (compEnvC scope cl C X.env) fp) wF ifs Ft)
  (he : ∀ (s : Shared) (H : Hp) (C : Addr) (cl : List (Str × Addr)) (fp : List Addr), PF (X.blk s H scope (compEnvC scope cl C X.env) fp) wF elt Fe) (hs : ∀ x, foldedSetIterable iter X.env x = pure x := by intro _; rfl)
include hc hN hy hyl hsw hi ok hg ht he hs
theorem pfs_setLcK : PFS X wx (.Assign [.Name y py] (.ListComp elt [⟨tg, iter, ifs, 0⟩] scope pos) spos) (bSet i (fPure (fLcC Fi g Ft Fe (own.map (·.2))))) :=
  PS.imp (ps_setLc (g := gT X.K g) (tt := tG X.K wF rB Ft) (te := tG X.K wF (rV X.K) Fe) hc hN hy hyl hsw hi ok hg ht he hs) fun D σ H h => by
    have h1 := pure_imp (set_imp h)
    exact lcC_imp h1
end
end
end TL
set_option Elab.async false
set_option linter.all false
set_option maxRecDepth 100000
namespace TL
open PySem PySem.Spec L2
open PyProof.Rows hiding St
open RZ
def pairT (xs ys : List T) : List T := List.zipWith (fun x y => T.tup [x, y]) xs ys
def fiZ (Fs : FA) : FI := fun τ S => (Fs τ S).bind fun ts S1 => match ts with
  | [.lst xs, .lst ys] => .ok (pairT xs ys) S1
  | [.tup xs, .tup ys] => .ok (pairT xs ys) S1
  | _ => .stuck
theorem pair_at {xs ys : List T} {i : Nat} {z : T} (e : (pairT xs ys)[i]? = some z) : ∃ x y, xs[i]? = some x ∧ ys[i]? = some y ∧ z = T.tup [x, y] := by
  unfold pairT at e
  rw [List.getElem?_zipWith] at e
  split at e
  · rename_i x y e1 e2
    cases e
    exact ⟨x, y, e1, e2, rfl⟩
  · cases e
theorem pair_len (xs ys : List T) : (pairT xs ys).length = min xs.length ys.length := by
  unfold pairT
  rw [List.length_zipWith]
section
variable {X : Cx} {wx : WT} {pos p : Pos} {e e2 : Expr} {Fs : FA}
theorem Src.zipL {K : PySem.W.Frag} {H : Hp} {μ : Mu} {a b : Addr} {ws us : List V} {xs ys : List T} (f : OL K H μ a ws) (g : OL K H μ b us) (r : Rels K H μ xs ws) (r' : Rels K H μ ys us) : Src K (Itz K a b) (pairT xs ys) μ H := fun μ2 H2 E => by
  have f2 : OL K H2 μ2 a ws := f.imp E.fix id
  have g2 : OL K H2 μ2 b us := g.imp E.fix id
  have hq : SqL K H2 a ws := f2.imp (fun z => z.1) id
  have hq' : SqL K H2 b us := g2.imp (fun z => z.1) id
  have rw1 := Rels.mono E xs r
  have rw2 := Rels.mono E ys r'
  refine ⟨fun i z ei => ?_, fun i hi => ⟨ws, us, hq, hq', ?_⟩⟩
  · obtain ⟨x, y, ex, ey, rfl⟩ := pair_at ei
    obtain ⟨v, ev, rv⟩ := rw1.get ex
    obtain ⟨v', ev', rv'⟩ := rw2.get ey
    refine ⟨⟨ws, us, v, v', hq, hq', ev, ev'⟩, fun u H3 y => ?_⟩
    obtain ⟨T', x', y', rfl, nT, rfl, hx', hy'⟩ := y
    have h1 := hx' ws hq
    have h2 := hy' us hq'
    rw [ev] at h1
    rw [ev'] at h2
    cases h1
    cases h2
    have sm := fresh_same (o := .tup [v, v']) nT
    exact ⟨sm, fun S s => rel_tup s nT (by simp only [Rels, Rel]; exact ⟨v, [v'], rfl, rv, v', [], rfl, rv', rfl⟩)⟩
  · rw [pair_len, rw1.length, rw2.length] at hi
    omega
theorem Src.zipT {K : PySem.W.Frag} {H : Hp} {μ : Mu} {a b : Addr} {ws us : List V} {xs ys : List T} (f : OT K H μ a ws) (g : OT K H μ b us) (r : Rels K H μ xs ws) (r' : Rels K H μ ys us) : Src K (ItzT K a b) (pairT xs ys) μ H := fun μ2 H2 E => by
  have f2 : OT K H2 μ2 a ws := f.imp E.fix id
  have g2 : OT K H2 μ2 b us := g.imp E.fix id
  have hq : SqT K H2 a ws := f2.imp (fun z => z.1) id
  have hq' : SqT K H2 b us := g2.imp (fun z => z.1) id
  have rw1 := Rels.mono E xs r
  have rw2 := Rels.mono E ys r'
  refine ⟨fun i z ei => ?_, fun i hi => ⟨ws, us, hq, hq', ?_⟩⟩
  · obtain ⟨x, y, ex, ey, rfl⟩ := pair_at ei
    obtain ⟨v, ev, rv⟩ := rw1.get ex
    obtain ⟨v', ev', rv'⟩ := rw2.get ey
    refine ⟨⟨ws, us, v, v', hq, hq', ev, ev'⟩, fun u H3 y => ?_⟩
    obtain ⟨T', x', y', rfl, nT, rfl, hx', hy'⟩ := y
    have h1 := hx' ws hq
    have h2 := hy' us hq'
    rw [ev] at h1
    rw [ev'] at h2
    cases h1
    cases h2
    have sm := fresh_same (o := .tup [v, v']) nT
    exact ⟨sm, fun S s => rel_tup s nT (by simp only [Rels, Rel]; exact ⟨v, [v'], rfl, rv, v', [], rfl, rv', rfl⟩)⟩
  · rw [pair_len, rw1.length, rw2.length] at hi
    omega
theorem pfi_zip {elts : List Expr} {kk : Nat} {tpos : Pos} (ha : PFA X wx [e, e2] Fs) (hm : X.mg "zip" = none) (hg : Gl X "zip" := by rfl)
    (hs : starEach [e, e2] X.env = (false, eval e X.env) :: starEach [e2] X.env := by rfl) (hpl : (backTo pos (starEach [e2] X.env)).any (·.1) = false := by rfl) :
    PFI X wx (.Tuple elts kk tpos) (.Call (.Name "zip" p) [e, e2] [] pos) (fiZ Fs) := PI.imp (pi_zipA hg hm ha hs hpl) fun σ H Q h => by
  obtain ⟨μ, τ, S, s, f, h⟩ := h
  refine tG.seq s f h fun μ1 H1 ts vs S1 A1 h1 => ?_
  split at h1
  · rename_i xs ys
    obtain ⟨v, w, rfl, r1, r2⟩ := rels2 (show Rels X.K H1 μ1 [.lst xs, .lst ys] vs from A1.rel)
    simp only [Rel] at r1 r2
    obtain ⟨a, ws, rfl, o, r⟩ := r1
    obtain ⟨b, us, rfl, o', r'⟩ := r2
    exact ⟨a, b, ws, us, rfl, .inl ⟨.inl (.inl o.1), .inl (.inl o'.1), h1.here A1.st (Src.zipL (.inl ⟨.inl o.1, o.2⟩) (.inl ⟨.inl o'.1, o'.2⟩) r r')⟩⟩
  · rename_i xs ys
    obtain ⟨v, w, rfl, r1, r2⟩ := rels2 (show Rels X.K H1 μ1 [.tup xs, .tup ys] vs from A1.rel)
    simp only [Rel] at r1 r2
    obtain ⟨a, ws, rfl, o, r⟩ := r1
    obtain ⟨b, us, rfl, o', r'⟩ := r2
    exact ⟨a, b, ws, us, rfl, .inr ⟨o.imp (fun z => z.1) id, o'.imp (fun z => z.1) id, h1.here A1.st (Src.zipT o o' r r')⟩⟩
  · exact h1.elim
end
def whF (Ft : FT) (B : BS) : Nat → BS
  | 0 => fun _ _ => .stuck
  | n + 1 => fun τ S => (Ft τ S).bindS τ fun k S1 => match k with
    | true => match B τ S1 with
      | .nx τ2 S2 => whF Ft B n τ2 S2
      | .ct τ2 S2 => whF Ft B n τ2 S2
      | .bk τ2 S2 => .nx τ2 S2
      | r => r
    | false => .nx τ S1
def bWhile (Ft : FT) (B : BS) : BS := whF Ft B 1000
section
variable {X : Cx} {wx : WT} {pos : Pos} {B : BS} {c : Expr} {body : List Stmt} {Ft : FT}
end
def isBT (_ : Sto) (x y : T) : Option T := match x, y with
  | .val _, _ => none
  | .bl a, .bl b => some (.bl (decide (a = b)))
  | _, .bl _ => some (.bl false)
  | _, _ => none
def notBT (S : Sto) (x y : T) : Option T := match isBT S x y with
  | some (.bl b) => some (.bl !b)
  | _ => none
section
variable {X : Cx}
end
theorem lcC_filter {n : Nat} {c : T} {g : GT} {Ft : FT} {Fe : FE} {vs : List Nat} {τ : Fr} {p : T → Bool} {r : T → T} {S : Sto} (hS : S[n]? = some c) : ∀ {xs : List T},
    (∀ x ∈ xs, ∃ l, g x = some l ∧ slotsIn l vs = true ∧ Ft (setsT τ l) S = .ok (p x) S ∧ (p x = true → Fe (setsT τ l) S = .ok (r x) S)) → lcC n c g Ft Fe vs τ xs S = .ok ((xs.filter p).map r) S
  | [], _ => by unfold lcC; rw [if_pos hS]; rfl
  | x :: xs, h => by
    obtain ⟨l, h1, h2, h3, h4⟩ := h x List.mem_cons_self
    have ih := lcC_filter hS fun y hy => h y (List.mem_cons_of_mem _ hy)
    unfold lcC
    rw [if_pos hS]
    cases e : p x with
    | true => simp only [h1, h2, h3, e, h4 e, ih, if_true, bind_ok, nox_ok, List.filter_cons_of_pos, List.map_cons]
    | false =>
      rw [List.filter_cons_of_neg (by simp [e])]
      simp only [h1, h2, h3, e, ih, if_true, bind_ok, nox_ok]
theorem lcC_map {n : Nat} {c : T} {g : GT} {Ft : FT} {Fe : FE} {vs : List Nat} {τ : Fr} {r : T → T} {S : Sto} (hS : S[n]? = some c) {xs : List T}
    (h : ∀ x ∈ xs, ∃ l, g x = some l ∧ slotsIn l vs = true ∧ Ft (setsT τ l) S = .ok true S ∧ Fe (setsT τ l) S = .ok (r x) S) : lcC n c g Ft Fe vs τ xs S = .ok (xs.map r) S := by
  rw [lcC_filter (p := fun _ => true) (r := r) hS fun x hx => (h x hx).imp fun l z => ⟨z.1, z.2.1, z.2.2.1, fun _ => z.2.2.2⟩]
  rw [List.filter_eq_self.mpr fun _ _ => rfl]
def bAug (i : Nat) (F : FE) : BS := fun τ S => match τ[i]? with
  | some (some (.int a)) => (F τ S).bindS τ fun y S1 => match y with
    | .int b => .nx (τ.set i (some (.int (a + b)))) S1
    | _ => .stuck
  | _ => .stuck
section
variable {X : Cx} {wx : WT} {pos : Pos} {e : Expr} {F : FE}
end
end TL
set_option Elab.async false
set_option linter.all false
set_option maxRecDepth 100000
namespace TL
open PySem PySem.Spec L2
open PyProof.Rows hiding St
theorem gc_pure {F : FF} {ts : List T} {S : Sto} {t : T} (h : ∃ J, F ts S = .ok t (S ++ J)) (e : nr t = true) : gc F ts S = .ok t S := by
  obtain ⟨J, h⟩ := h
  exact gc_nr h e
theorem lstC_ref {S : Sto} {n : Nat} {ts : List T} (h : S[n]? = some (.lst ts)) : lstC S (.ref n) = some (n, ts) := by
  unfold lstC
  simp only [h]
theorem lstC_end (S : Sto) (ts : List T) (J : Sto) : lstC (S ++ .lst ts :: J) (.ref S.length) = some (S.length, ts) := lstC_ref (sto_end S _ J)
theorem lstC_1 (S : Sto) (z : T) (ts : List T) (J : Sto) : lstC (S ++ z :: .lst ts :: J) (.ref (S.length + 1)) = some (S.length + 1, ts) := lstC_ref (sto_1 S z _ J)
theorem is_bl (a b : Bool) (S : Sto) : isBT S (.bl a) (.bl b) = some (.bl (decide (a = b))) := rfl
theorem isnot_bl (a b : Bool) (S : Sto) : notBT S (.bl a) (.bl b) = some (.bl (!decide (a = b))) := rfl
end TL
section
open PySem PySem.Spec L2 TL
open PyProof.Rows hiding St
local macro_rules
  | `(tactic| simp_arith $[$loc:location]?) => `(tactic| simp_arith [TL.bind_ok] $[$loc:location]?)
  | `(tactic| simp_arith [$ls,*] $[$loc:location]?) => `(tactic| simp -implicitDefEqProofs only [TL.body, TL.startT, TL.RS.fin, TL.bSeq, TL.bSet, TL.bAsg, TL.bRet, TL.bRetN, TL.bExpr, TL.bIf, TL.bNext, TL.bFor, TL.bPar, TL.bPar3, TL.fVar, TL.fC, TL.fBin, TL.fUn, TL.fTest, TL.fChain, TL.fTru, TL.fNotT, TL.fAndT, TL.fOrT, TL.fAnd, TL.fOr, TL.fNot, TL.fIf, TL.fNil, TL.fCons, TL.fTup, TL.fLst, TL.fCall, TL.fBlt, TL.fPure, TL.fCell, TL.fLstN, TL.fLc, TL.fDc, TL.fYes, TL.fSl, TL.foS, TL.foN, TL.fItems, TL.fiA, TL.fiL, TL.fiT, TL.fiS, TL.fiR1, TL.fiR2, TL.fiE, TL.fiEA, TL.fiEL, TL.fiEC, TL.fiAC, TL.fiZ, fLcC, bForC, TL.fApp,
      TL.bind_ok, TL.bindS_ok, TL.nox_ok, TL.ofO_some, TL.isCell, TL.truT_bl, TL.truT_tup, TL.isi_str, TL.isi_tup, TL.isi_dct, TL.len_tup, TL.len_lst, TL.len_sls, TL.len_dct, TL.eq_int, TL.ne_int, TL.in_tup, TL.in_lst, TL.sto_end, TL.sto_set, TL.sto_1, TL.sto_set1, TL.lstAt_end, TL.lstAt_1, TL.in_end, TL.in_1, TL.nin_end, TL.nin_1, TL.len_end, TL.len_1, TL.lstC_end, TL.lstC_1, TL.is_bl, TL.isnot_bl, TL.bWhile, TL.bAug,  TL.tup_end, TL.tup_1, TL.gt_int, TL.lt_int, TL.ix_0, TL.ix_1, TL.ix_2, TL.tup_lst, TL.tup_tup, TL.wipeT, TL.setsT, TL.sName, TL.sTup, TL.sCons, TL.sNil, TL.slotsIn, List.map_cons, List.map_nil, List.length_cons, List.length_nil, List.cons_append, List.nil_append, List.getElem?_cons_zero, List.getElem?_cons_succ, List.set_cons_zero, List.set_cons_succ, List.foldl_cons, List.foldl_nil, List.reduceReplicate,
      Nat.reduceAdd, Nat.reduceSub, Nat.reduceLeDiff, Nat.reduceEqDiff, Nat.zero_add, Nat.zero_le, if_true, if_false, Option.map_some, Option.bind_some, Bool.not_true, Bool.not_false, decide_true, decide_false, decide_not, reduceCtorEq, Int.reduceNeg, Int.cast_ofNat_Int, Int.reduceEq, Int.reduceLT, Int.reduceLE, gt_iff_lt, Bool.and_true, Bool.true_and, Bool.false_and, Bool.or_false, Bool.false_or, Bool.false_eq_true, $ls,*] $[$loc]?)
set_option Elab.async false
set_option linter.all false
set_option maxRecDepth 100000
set_option maxHeartbeats 2000000
namespace TL
open PySem PySem.Spec L2
open PyProof.Rows hiding St
open PySem.Froz (SD sObj TxOk addTx tailTx)
def tOf (e : Int × Value) : Str := match e.2 with
  | .str k _ => k
  | _ => ⟨#[]⟩
def GdT (w : World) (e : Int × Value) : Prop := ∃ k u, e = (hashStr w k, Value.str k u)
structure TxR (P : Program) (w : World) (D : SD) (l : List Str) : Prop where
  ok : TxOk P w D l
  gd : ∀ e ∈ D.1.toList, GdT w e
  pm : (D.1.toList.map tOf).Perm l
  nd : l.Nodup
  sz : l.length < scanBound
  ris : Ris D.2.2.place.toList
  led : w.params.followText "set-order" = true ∨ D.2.2.led = true
def addS (l : List Str) (k : Str) : List Str := if k ∈ l then l else k :: l
section
variable {P : Program} {w : World} {A : Around} {E : Value → Shared → Prop} {s : Shared}
theorem tx_tail {ep : Nat} {es : Array (Int × Value)} {t : SetTable} {b : Bool} {l : List Str} (F : TxR P w (es, ep, t) l) : TxR P w (tailTx ep es t b) l := by
  refine ⟨Froz.tail_ok F.ok, ?_, ?_, F.nd, F.sz, ?_, ?_⟩
  all_goals (unfold tailTx; split)
  · exact fun e he => F.gd e ((relayAll_perm t es _).mem_iff.mp he)
  · exact F.gd
  · exact ((relayAll_perm t es _).map tOf).trans F.pm
  · exact F.pm
  · exact relayAll_ris t es _
  · exact F.ris
  · exact F.led.imp id fun z => (relayAll_led t es _).trans z
  · exact F.led
theorem tx_add {D : SD} {l : List Str} {k : Str} (u : Tok) (F : TxR P w D l) (hk : k ∉ l) (room : l.length + 1 < scanBound) : TxR P w (addTx (hashStr w k) (.str k u) D) (k :: l) := by
  obtain ⟨es, ep, t⟩ := D
  have hp := layNew_perm t es (hashStr w k) (.str k u)
  have hr := layNew_ris t es (hashStr w k) (.str k u) F.ris
  have hl := layNew_led t es (hashStr w k) (.str k u)
  have hf := layNew_fits t es (hashStr w k) (.str k u)
  have h0 := F.ok.push hp hf (ep' := ep)
  rw [Array.toList_push] at hp
  unfold addTx
  refine tx_tail ⟨?_, ?_, ?_, List.nodup_cons.mpr ⟨hk, F.nd⟩, by rw [List.length_cons]; exact room, ?_, ?_⟩
  · dsimp only
    split
    · exact ⟨h0.el, h0.mem, h0.sz, SetTable.fits_plain_off hf⟩
    · exact ⟨h0.el, h0.mem, h0.sz, hf⟩
  · intro e he
    rcases List.mem_append.mp (hp.mem_iff.mp he) with z | z
    · exact F.gd e z
    · exact ⟨k, u, List.mem_singleton.mp z⟩
  · refine (hp.map tOf).trans ?_
    rw [List.map_append]
    exact (List.perm_append_singleton _ _).trans (List.Perm.cons _ F.pm)
  · dsimp only
    split <;> exact hr
  · refine F.led.imp id fun z => ?_
    dsimp only
    split <;> exact hl.trans z
theorem tx_hashed {a : Addr} {D : SD} {l : List Str} {k : Str} {u : Tok} {Q : Bool → Shared → Prop} (ho : s.heap.get? a = some (sObj "set" D)) (F : TxR P w D l) (room : l.length + 1 < scanBound)
    (hQ : ∀ b h' D', Heap.SameBut a s.heap h' → h'.get? a = some (sObj "set" D') → TxR P w D' (addS l k) → Q b { s with heap := h' }) : wpAny (model P w) A (setAddHashed a (.str k u) (hashStr w k)) Q E s := by
  by_cases hk : k ∈ l
  · obtain ⟨es, ep, t⟩ := D
    have hd : (sObj "set" (es, ep, t)).data = .set es ep t := rfl
    have hsz : es.size = l.length := F.ok.sz
    have hb0 : es.size < scanBound := by omega
    have F1 := hQ false s.heap (es, ep, t) (Heap.SameBut.refl a s.heap) ho (by unfold addS; rw [if_pos hk]; exact F)
    unfold setAddHashed setAddHashedIn
    refine wpAny_holding (wpAny_bind (wpAny_setState_of ho hd F.ok.fit ?_))
    dsimp only
    rw [byScan_of rfl hb0 F.ok.el, if_pos rfl]
    unfold setAddByScan
    refine wpAny_bind (wpAny_bind (wpAny_rule (wpAny_bind (wpAny_setScan_of (knd := strKind P w) (k := k) (Froz.is_str k u) ho hd F.ok.fit F.ok.el ?_))))
    cases hr : List.findIdx? (fun e => (strKind P w).is k e.2) es.toList with
    | none =>
      obtain ⟨e, he, q⟩ := (F.ok.mem k).mp hk
      exact absurd q (by rw [List.findIdx?_eq_none_iff.mp hr e he]; exact Bool.false_ne_true)
    | some j =>
      dsimp only
      exact wpAny_pure (wpAny_pure F1)
  · refine Froz.add_x ho F.ok hk room ?_
    refine hQ true _ _ (Heap.SameBut.update s.heap a _) (Froz.get_upd _ ho rfl) ?_
    unfold addS
    rw [if_neg hk]
    exact tx_add u F hk room
def TxO (P : Program) (w : World) (a : Addr) (l : List Str) : HO := .ext fun h => ∃ D, h.get? a = some (sObj "set" D) ∧ TxR P w D l
theorem txO_new {H : Hp} {h : Heap} {a : Addr} {l : List Str} {D : SD} (ho : h.get? a = some (sObj "set" D)) (F : TxR P w D l) : ObjOk P w H h a (TxO P w a l) :=
  ⟨⟨D, ho, F⟩, ⟨_, ho⟩, fun _ _ p k => let ⟨D, q, F⟩ := p; ⟨D, k _ q, F⟩⟩
theorem tx_fresh {t : SetTable} (hf : t.fits 0 = true) (hr : Ris t.place.toList) (hl : w.params.followText "set-order" = true ∨ t.led = true) {ep : Nat} : TxR P w (#[], ep, t) [] :=
  ⟨TxOk.nil hf, fun e he => by simp at he, by simp, List.nodup_nil, by decide, hr, hl⟩
end
section
variable {X : Cx}
theorem txO_get {pins : List (Addr × Obj)} {σ : L2.St} {H : Hp} {s : Shared} {a : Addr} {l : List Str} (I : L2.Inv X pins σ H s) (ha : H a = some (TxO X.prog X.w a l)) : ∃ D, s.heap.get? a = some (sObj "set" D) ∧ TxR X.prog X.w D l := (I.hok a _ ha).1
theorem tx_add_ok {pins : List (Addr × Obj)} {σ : L2.St} {H : Hp} {s : Shared} {E : Value → Shared → Prop} {D : Addr} {l : List Str} {k : Str} {u : Tok} {Q : Value → Shared → Prop} (I : L2.Inv X pins σ H s) (hD : H D = some (TxO X.prog X.w D l)) (room : l.length + 1 < scanBound)
    (h : ∀ s', L2.Inv X pins σ (upd H D (TxO X.prog X.w D (addS l k))) s' → Q .none s') : wpAny (model X.prog X.w) X.A (call (.builtin "set.add") [.ref D, .str k u]) Q E s := by
  obtain ⟨D0, ho, F⟩ := txO_get I hD
  refine wpAny_call_entry PySem.F.slot_set_add ⟨_, ho, rfl⟩ PySem.F.entry_set_add ?_ (PySem.F.args_set_add_2 _ _)
  unfold Builtin.«set.add» Builtin.Frozenset.oneOther
  simp only [List.isEmpty_nil, bind_assoc]
  unfold Builtin.Frozenset.addrOf setAdd
  refine wpAny_bind (wpAny_pure (wpAny_bind (wpAny_pure (wpAny_bind (wpAny_holding (wpAny_bind ((strKind X.prog X.w).pyHash (Froz.is_str k u) ?_)))))))
  refine tx_hashed (s := { s with toks := s.toks + 1 }) ho F room fun b h' D' sb ho' F' => ?_
  show wpAny _ _ (ret Value.none) _ _ _
  exact wpAny_pure ⟨_, rfl, h _ (I.write (e := D) (t' := s.toks + 1) (by rw [hD]; trivial) (.inl rfl) (fun b u hb hu => (sb.2 b hb).trans hu) ⟨_, ho'⟩ (txO_new ho' F'))⟩
end
end TL
set_option Elab.async false
set_option linter.all false
set_option maxRecDepth 100000
set_option maxHeartbeats 2000000
namespace TL
open PySem PySem.Spec L2
open PyProof.Rows hiding St
open PySem.Froz (SD sObj TxOk addTx tailTx)
def tSt (P : Program) (w : World) (wi : TI) (g : TG) (tt : TT) (te : TE) (vs : List Nat) : TE := fun σ H Q => wi σ H fun J H1 => ∀ D, H1 D = none →
  ∃ Z : Nat → Nat → Hp → Prop, (∃ m, Z 0 m (upd H1 D (TxO P w D []))) ∧ ∀ i m H2, Z i m H2 → (J.stop i H2 ∧ Q (.ref D) H2) ∨ (J.go i H2 ∧
    ∃ N : Hp → Prop, (∀ H3, N H3 → ∃ k, k < m ∧ Z (i + 1) k H3) ∧ ∀ x H3, J.yld i H2 x H3 → g x (wipe σ vs) H3 fun σ4 H4 => wipe σ4 vs = wipe σ vs ∧ tt σ4 H4 fun b H5 =>
      if b = true then te σ4 H5 fun y H6 => ∃ k l, y = .str k ∧ H6 D = some (TxO P w D l) ∧ l.length + 1 < scanBound ∧ N (upd H6 D (TxO P w D (addS l k))) else N H5)
abbrev Blk (X : Cx) (sc : Scope) (s : Shared) (H : Hp) (C : Addr) (cl : List (Str × Addr)) (fp : List Addr) : Cx := X.blk s H sc (compEnvC sc cl C X.env) fp
section
variable {X : Cx}
theorem pe_st {elt tg iter : Expr} {ifs : List Expr} {sc : Scope} {own : List (Str × Nat)} {pos : Pos} {wi : TI} {g : TG} {tt : TT} {te : TE} (hc : X.calm = true) (hN : X.N.Nodup) (hi : PI X tg iter wi) (ok : BlkOk X.N X.env.scope sc own)
    (hg : ∀ s H C cl fp, PG (Blk X sc s H C cl fp) tg g) (ht : ∀ s H C cl fp, PTs (Blk X sc s H C cl fp) ifs tt) (he : ∀ s H C cl fp, PE (Blk X sc s H C cl fp) elt te) (hs : ∀ x, foldedSetIterable iter X.env x = pure x := by intro _; rfl) :
    PE X (.SetComp elt [⟨tg, iter, ifs, 0⟩] sc pos) (tSt X.prog X.w wi g tt te (own.map (·.2))) := by
  refine ⟨fun pins s σ H Q I h => ?_⟩
  rw [PpSet.eval_SetComp]
  have caught : ∀ y ∈ sc.names, y.2 = .free → ∃ c, X.env.cells.lookup y.1 = some c := fun y hy e => I.ok.has _ (ok.free y hy e)
  refine wpAny_comprehension_free rfl hs (closure_ok caught) ok.kind (fun y hy e => by rw [ok.uniq y hy, e]) (thn (hi.run pins s σ H _ I h) fun xv s1 hx => thn hx fun itv s2 hit => ?_)
  obtain ⟨it, fp, tn, J, Ha, rfl, Ia, T, sta, fa, q⟩ := hit
  refine PpSet.newSet_ok (newEnv_comp ?_)
  generalize eD : s2.heap.objs.size = D
  have nD : Ha D = none := Ia.hok.fresh (Nat.le_of_eq eD)
  obtain ⟨Z, ⟨m0, z0⟩, turn⟩ := q D nD
  -- the set, empty
  generalize eb : ({ s2 with heap := s2.heap.push { cls := .type "set", dict := none, data := .set #[] 0 (.fresh 0 0 (!X.w.params.followText "set-order")) } } : Shared) = sb
  have pb : sb.heap = s2.heap.push { cls := .type "set", dict := none, data := .set #[] 0 (.fresh 0 0 (!X.w.params.followText "set-order")) } := by rw [← eb]
  have stays : ∀ {b : Addr} {o : Obj}, s2.heap.get? b = some o → sb.heap.get? b = some o := fun e => by rw [pb]; exact Heap.get?_push_of_some _ e
  have Ib : L2.Inv X pins σ (upd Ha D (TxO X.prog X.w D [])) sb := by
    rw [← eb]
    refine Ia.laid (t' := s2.toks) (fun b o e => Heap.get?_push_of_some _ e) (Nat.le_of_eq eD) ?_
    rw [← eD]
    refine txO_new (D := (#[], 0, .fresh 0 0 (!X.w.params.followText "set-order"))) (Heap.get?_push_size _ rfl) (tx_fresh (by rfl) (by exact List.Pairwise.nil) ?_)
    show _ ∨ (!X.w.params.followText "set-order") = true
    cases X.w.params.followText "set-order" <;> simp
  have room : ∀ b ∈ fp, b < s2.heap.objs.size := fun b hb => let ⟨_, e, _⟩ := T.obj _ _ sta b hb; Heap.lt_size e
  have fb : ∀ b ∈ fp, FpOk X pins (upd Ha D (TxO X.prog X.w D [])) b ∧ b < sb.heap.objs.size := fun b hb =>
    ⟨⟨by rw [upd_ne (by rw [← eD]; exact Nat.ne_of_lt (room b hb))]; exact (fa b hb).1, (fa b hb).2⟩, by rw [pb, Heap.size_push]; exact Nat.lt_succ_of_lt (room b hb)⟩
  have stb : tn 0 sb.heap := T.keep _ _ _ sta fun b _ o e => stays e
  have Ic := block_start Ib ok hN fb
  have pg := hg sb (upd Ha D (TxO X.prog X.w D [])) sb.heap.objs.size (cellsFrom (sb.heap.objs.size + 1) sc.names (cloFrom X.env.cells sc.names [])) fp
  have pt := ht sb (upd Ha D (TxO X.prog X.w D [])) sb.heap.objs.size (cellsFrom (sb.heap.objs.size + 1) sc.names (cloFrom X.env.cells sc.names [])) fp
  have pe := he sb (upd Ha D (TxO X.prog X.w D [])) sb.heap.objs.size (cellsFrom (sb.heap.objs.size + 1) sc.names (cloFrom X.env.cells sc.names [])) fp
  unfold Blk at pg pt pe
  show codeAny _ _ (.compStart (.SetComp elt [⟨tg, iter, ifs, 0⟩] sc pos) 0 (.ref it) (.ref D) (compEnvC sc (cellsFrom (sb.heap.objs.size + 1) sc.names (cloFrom X.env.cells sc.names [])) sb.heap.objs.size X.env)) _ { sb with heap := pushCells (sb.heap.push { cls := .type "dict", data := .dict #[] }) sc.names }
  have nb : ∀ b ∈ fp, (upd Ha D (TxO X.prog X.w D [])) b = none := fun b hb => (fb b hb).1.1
  generalize ece : compEnvC sc (cellsFrom (sb.heap.objs.size + 1) sc.names (cloFrom X.env.cells sc.names [])) sb.heap.objs.size X.env = ce at Ic pg pt pe ⊢
  have lce : ce.locals = sb.heap.objs.size := by subst ece; rfl
  generalize eHb : upd Ha D (TxO X.prog X.w D []) = Hb at Ib Ic pg pt pe z0 nb fb
  generalize ec : ({ sb with heap := pushCells (sb.heap.push { cls := .type "dict", data := .dict #[] }) sc.names } : Shared) = sc0 at Ic ⊢
  have stc : tn 0 sc0.heap := T.keep _ _ _ stb fun b _ o e => by rw [← ec]; exact pushCells_keeps _ _ _ _ (Heap.get?_push_of_some _ e)
  have foot : ∀ {σ' : L2.St} {H' : Hp} {s' : Shared}, L2.Inv (X.blk sb Hb sc ce fp) [] σ' H' s' → (∀ b ∈ fp, H' b = none) → ∀ b ∈ fp, FpOk (X.blk sb Hb sc ce fp) [] H' b := fun {σ' H' s'} K hn b hb =>
    ⟨hn b hb, (K.ok.exf b hb).1, K.ok.exfs b hb, .inl hb, fun x c e => (K.ok.exf b hb).2 x c e, fun p hp => absurd (show p ∈ ([] : List (Addr × Obj)) ++ [] from hp) (by simp)⟩
  refine PpSet.codeAny_compStart_set ?_ (T.self X.A 0 _ _ _ stc ?_)
  all_goals
    refine PpSet.compLoopS_any (fun n s' => ∃ i H', L2.Inv (X.blk sb Hb sc ce fp) [] (wipe σ (own.map (·.2))) H' s' ∧ tn i s'.heap ∧ (∀ b ∈ fp, H' b = none) ∧ Z i n H') ?_ m0 ⟨0, Hb, Ic, stc, nb, z0⟩
    rintro n s5 ⟨i, H5, I5, st5, n5, z5⟩
    rcases turn i n H5 z5 with ⟨stop, qq⟩ | ⟨go, N, hN', step⟩
    · refine thnF (T.done (X.blk sb Hb sc ce fp) rfl rfl rfl hc i [] s5 _ H5 (fun _ _ => False) I5 (foot I5 n5) st5 stop) fun r s6 hr => ?_
      obtain ⟨rfl, I6⟩ := hr
      -- out of the block
      have I7 : L2.Inv X pins σ H5 s6 := Ib.call' (ch := fp) I6.os I6.base I6.hok I6.bare fun b hb => ⟨(fb b hb).1.2.2.2.1, (fb b hb).1.2.1, (fb b hb).1.2.2.2.2.1, (fb b hb).1.2.2.2.2.2⟩
      have nC : H5 sb.heap.objs.size = none := lce ▸ (show H5 ce.locals = none from I6.free)
      obtain ⟨m, hn, _⟩ := I6.loc
      have hn : s6.heap.Ns sb.heap.objs.size m := lce ▸ (show s6.heap.Ns ce.locals m from hn)
      obtain ⟨f0, f1, f2, f3, f4, f5⟩ := Ib.fpOk (H' := H5) (Nat.le_refl _) nC
      exact ⟨m, hn, fun h'' k => ⟨.ref D, H5, I7.turned (t' := s6.toks) (fun b o hb e => (k.2 b hb).trans e) f0 f1 f3 f4 f5, rfl, qq⟩⟩
    · refine thnF (T.item (X.blk sb Hb sc ce fp) rfl rfl rfl hc i [] s5 _ H5 (fun _ _ => False) I5 (foot I5 n5) st5 go) fun r s6 hr => ?_
      obtain ⟨u, rfl, h6⟩ := hr
      refine thnF h6 fun _ s7 ⟨x, H7, I7, r7, y7, st7, n7⟩ => ?_
      refine thnF (pg.run _ s7 _ H7 x u _ (I7.pinned (foot I7 n7) (T.obj _ _ st7)) r7 (step x H7 y7)) fun _ s8 ⟨σ8, H8, I8, hw8, q8⟩ => ?_
      refine thnF (pt.run _ s8 σ8 H8 _ I8 q8) fun b s9 ⟨H9, I9, q9⟩ => ?_
      have fin : ∀ {s' : Shared} {H' : Hp}, L2.Inv (X.blk sb Hb sc ce fp) ([] ++ pinsAt fp s7.heap) σ8 H' s' → N H' → ∃ m, m < n ∧ ∃ i H', L2.Inv (X.blk sb Hb sc ce fp) [] (wipe σ (own.map (·.2))) H' s' ∧ tn i s'.heap ∧ (∀ b ∈ fp, H' b = none) ∧ Z i m H' := fun {s' H'} K nx => by
        obtain ⟨m', hm, z'⟩ := hN' H' nx
        have pin : ∀ b ∈ fp, ∀ o, s7.heap.get? b = some o → s'.heap.get? b = some o ∧ H' b = none := fun b hb o e => ((K.pin (b, o) (List.mem_append_right _ (List.mem_append_right _ (mem_pinsAt hb e))))).imp id (·.1)
        exact ⟨m', hm, i + 1, H', (K.unpinned (pins := [])).weak (by rw [← hw8, wipe_length]) (fun j v e => (wipe_some (hw8 ▸ e)).1), T.keep _ _ _ st7 fun b hb o e => (pin b hb o e).1,
          fun b hb => let ⟨o, e, _⟩ := T.obj _ _ st7 b hb; (pin b hb o e).2, z'⟩
      cases b with
      | false =>
        simp only [Bool.false_eq_true, if_false] at q9 ⊢
        exact fin I9 q9
      | true =>
        simp only [if_true] at q9 ⊢
        refine thnF (pe.run _ s9 σ8 H9 _ I9 q9) fun z s10 hz => ?_
        obtain ⟨yv, Hd, Id, rd, k, l, rfl, dD, rm, nx⟩ := hz
        obtain ⟨tk, rfl⟩ := rd
        exact tx_add_ok (X := X.blk sb Hb sc ce fp) Id dD rm fun s11 I11 => fin I11 nx
end
end TL
set_option Elab.async false
set_option linter.all false
set_option maxRecDepth 100000
set_option maxHeartbeats 2000000
namespace TL
open PySem PySem.Spec L2
open PyProof.Rows hiding St
open PySem.Froz (SD sObj TxOk)
def postX (P : Program) (w : World) (K : PySem.W.Frag) (wx : XW) (μ : Mu) (H : Hp) (r : Res (List Str)) (Q : VK) : Prop := match r with
  | .ok l S' => ∀ μ' H' D, Ext H μ H' μ' → H D = none → RelS K H' μ' S' → H' D = some (TxO P w D l) → Q (.ref D) H'
  | .exc x S' => ∀ μ' H', Ext H μ H' μ' → RelS K H' μ' S' → wx x μ' S' H'
  | .stuck => False
abbrev FS := Fr → Sto → Res (List Str)
def tX (P : Program) (w : World) (K : PySem.W.Frag) (wx : WT) (F : FS) : TE := fun σ H Q => ∃ μ τ S, RelS K H μ S ∧ RelF K H μ τ σ ∧ postX P w K (wx.fr τ σ) μ H (F τ S) Q
def PFX (X : Cx) (wx : WT) (e : Expr) (F : FS) : Prop := PE X e (tX X.prog X.w X.K wx F)
def stF (g : GT) (Ft : FT) (Fe : FE) (vs : List Nat) (τ : Fr) : List T → List Str → Sto → Res (List Str)
  | [], l, S => .ok l S
  | x :: xs, l, S => match g x with
    | none => .stuck
    | some a => if slotsIn a vs then (Ft (setsT τ a) S).nox.bind fun k S1 => match k with
        | true => (Fe (setsT τ a) S1).nox.bind fun y S2 => match y with
          | .str u => stF g Ft Fe vs τ xs (addS l u) S2
          | _ => .stuck
        | false => stF g Ft Fe vs τ xs l S1
      else .stuck
def fSt (Fi : FI) (g : GT) (Ft : FT) (Fe : FE) (vs : List Nat) : FS := fun τ S => (Fi τ S).bind fun xs S1 => if xs.length + 1 < scanBound then stF g Ft Fe vs (wipeT τ vs) xs [] S1 else .stuck
theorem addS_len (l : List Str) (u : Str) : (addS l u).length ≤ l.length + 1 := by
  unfold addS
  split <;> simp
section
variable {X : Cx} {wx : WT} {pos : Pos}
theorem seqX {α β : Type} {P : Program} {w : World} {K : PySem.W.Frag} {wx : WT} {rel : RL α β} {F : Fr → Sto → Res α} {k : α → Sto → Res (List Str)} {μ : Mu} {H : Hp} {τ : Fr} {σ : L2.St} {S : Sto} {Q : VK} {R : β → Hp → Prop}
    (s : RelS K H μ S) (f : RelF K H μ τ σ) (h : postX P w K (wx.fr τ σ) μ H ((F τ S).bind k) Q) (hR : ∀ μ1 H1 t v S1, At K μ H τ σ rel μ1 H1 t v S1 → postX P w K (wx.fr τ σ) μ H (k t S1) Q → R v H1) : tG K wx rel F σ H R := by
  refine ⟨μ, τ, S, s, f, ?_⟩
  cases e : F τ S with
  | stuck => rw [e] at h; exact h.elim
  | exc x S1 => rw [e] at h; exact h
  | ok t S1 =>
    rw [e] at h
    exact fun μ1 v H1 x st r => hR μ1 H1 t v S1 ⟨x, st, f.mono x, r⟩ h
theorem st_imp {Fi : FI} {g : GT} {Ft : FT} {Fe : FE} {vs : List Nat} {σ : L2.St} {H : Hp} {Q : VK} (h : tX X.prog X.w X.K wx (fSt Fi g Ft Fe vs) σ H Q) : tSt X.prog X.w (wiT X.K wx Fi) (gT X.K g) (tG X.K wF rB Ft) (tG X.K wF (rV X.K) Fe) vs σ H Q := by
  obtain ⟨μ, τ, S, s, f, h⟩ := h
  refine seqX s f h fun μ1 H1 xs J S1 A1 h1 => ?_
  by_cases hl : xs.length + 1 < scanBound
  · rw [if_pos hl] at h1
    intro D hD
    have hD0 : H D = none := A1.ext.back hD
    refine ⟨fun i m H2 => ∃ M S2 l, Ext H1 μ1 H2 M ∧ D ∈ M.r ∧ RelS X.K H2 M S2 ∧ RelF X.K H2 M τ σ ∧ H2 D = some (TxO X.prog X.w D l) ∧ l.length ≤ i ∧ i ≤ xs.length ∧ m = xs.length - i ∧
        postX X.prog X.w X.K (wx.fr τ σ) μ H (stF g Ft Fe vs (wipeT τ vs) (xs.drop i) l S2) Q,
      ⟨xs.length, μ1.hide D, S1, [], Ext.hide hD, List.mem_cons_self, A1.st.hide hD, RelF.to (μ := μ1) (fun _ _ e => e) (hide_keep hD) A1.fr, upd_same, Nat.zero_le _, Nat.zero_le _, rfl, by simpa using h1⟩, fun i m H2 hW => ?_⟩
    obtain ⟨M, S2, l, E2, nr2, s2, f2, d2, hai, hix, rfl, h2⟩ := hW
    obtain ⟨go, stop⟩ := A1.rel M H2 E2
    by_cases hlt : i < xs.length
    · rw [drop_cons hlt] at h2
      obtain ⟨hgo, hy⟩ := go i xs[i] (List.getElem?_eq_getElem hlt)
      refine .inr ⟨hgo, fun H' => ∃ M S2 l, Ext H1 μ1 H' M ∧ D ∈ M.r ∧ RelS X.K H' M S2 ∧ RelF X.K H' M τ σ ∧ H' D = some (TxO X.prog X.w D l) ∧ l.length ≤ i + 1 ∧
        postX X.prog X.w X.K (wx.fr τ σ) μ H (stF g Ft Fe vs (wipeT τ vs) (xs.drop (i + 1)) l S2) Q, fun H' hN' => ?_, fun v H3 yl => ?_⟩
      · obtain ⟨M3, S3, l3, q1, q2, q3, q4, q5, q6, q8⟩ := hN'
        exact ⟨xs.length - (i + 1), by omega, M3, S3, l3, q1, q2, q3, q4, q5, q6, hlt, rfl, q8⟩
      · obtain ⟨sm, hr⟩ := hy v H3 yl
        have E3 : Ext H2 M H3 M := Ext.of_same sm
        have s3 := s2.same sm
        have f3 := f2.mono E3
        simp only [stF] at h2
        cases eg : g xs[i] with
        | none => simp only [eg] at h2; exact h2.elim
        | some a =>
          simp only [eg] at h2
          by_cases ha : slotsIn a vs = true
          · rw [if_pos ha] at h2
            refine ⟨M, xs[i], a, hr S2 s2, eg, fun l' fl => ⟨wipe_back (slotsIn_mem ha fl), ?_⟩⟩
            have fb : RelF X.K H3 M (setsT (wipeT τ vs) a) (setsV (wipe σ vs) l') := RelF.sets fl (relF_wipe f3 vs)
            cases et : Ft (setsT (wipeT τ vs) a) S2 with
            | stuck => rw [et] at h2; exact h2.elim
            | exc x S4 => rw [et] at h2; exact h2.elim
            | ok k S4 =>
              rw [et] at h2
              simp only [Res.nox, Res.bind] at h2
              refine tG.known s3 fb et fun M4 H4 b A4 => ?_
              have e : k = b := A4.rel
              subst e
              have E4 : Ext H2 M H4 M4 := E3.trans A4.ext
              cases k with
              | false =>
                simp only at h2
                exact iteF ⟨M4, S4, l, E2.trans E4, A4.ext.res.1 D nr2, A4.st, f2.mono E4, E4.kp D _ d2 (s2.dis D nr2), by omega, h2⟩
              | true =>
                simp only at h2
                refine iteT ?_
                cases ee : Fe (setsT (wipeT τ vs) a) S4 with
                | stuck => rw [ee] at h2; exact h2.elim
                | exc x S5 => rw [ee] at h2; exact h2.elim
                | ok y S5 =>
                  rw [ee] at h2
                  simp only at h2
                  refine tG.known A4.st A4.fr ee fun M5 H5 w A5 => ?_
                  have E5 : Ext H2 M H5 M5 := E4.trans A5.ext
                  have nr5 : D ∈ M5.r := A5.ext.res.1 D (A4.ext.res.1 D nr2)
                  have d5 := E5.kp D _ d2 (s2.dis D nr2)
                  have ry := A5.rel
                  cases y with
                  | str u =>
                    simp only at h2
                    have ew : w = V.str u := ry
                    have := addS_len l u
                    exact ⟨u, l, ew, d5, by omega, M5, S5, addS l u, (E2.trans E5).hid hD, nr5, A5.st.hid nr5, RelF.to (μ := M5) (fun _ _ e => e) (hid_keep nr5) (f2.mono E5), upd_same, by omega, h2⟩
                  | _ => exact h2.elim
          · rw [if_neg ha] at h2; exact h2.elim
    · have e : i = xs.length := by omega
      subst e
      rw [List.drop_length] at h2
      exact .inl ⟨stop _ (Nat.le_refl _), h2 M H2 D (A1.ext.trans E2) hD0 s2 d2⟩
  · rw [if_neg hl] at h1; exact h1.elim
theorem pfx_st {elt tg iter : Expr} {ifs : List Expr} {scope : Scope} {own : List (Str × Nat)} {Fi : FI} {g : GT} {Ft : FT} {Fe : FE} (hc : X.calm = true) (hN : X.N.Nodup) (hi : PFI X wx tg iter Fi) (ok : BlkOk X.N X.env.scope scope own)
    (hg : ∀ (s : Shared) (H : Hp) (C : Addr) (cl : List (Str × Addr)) (fp : List Addr), PFG (X.blk s H scope (compEnvC scope cl C X.env) fp) tg g) (ht : ∀ (s : Shared) (H : Hp) (C : Addr) (cl : List (Str × Addr)) (fp : List Addr), PFTs (X.blk s H scope (compEnvC scope cl C X.env) fp) wF ifs Ft)
    (he : ∀ (s : Shared) (H : Hp) (C : Addr) (cl : List (Str × Addr)) (fp : List Addr), PF (X.blk s H scope (compEnvC scope cl C X.env) fp) wF elt Fe) (hs : ∀ x, foldedSetIterable iter X.env x = pure x := by intro _; rfl) :
    PFX X wx (.SetComp elt [⟨tg, iter, ifs, 0⟩] scope pos) (fSt Fi g Ft Fe (own.map (·.2))) := PE.imp (pe_st (g := gT X.K g) (tt := tG X.K wF rB Ft) (te := tG X.K wF (rV X.K) Fe) hc hN hi ok hg ht he hs) fun _ _ _ h => st_imp h
def fSortX (F : FS) : FE := fun τ S => (F τ S).bind fun l S1 => if l.length < 64 then .ok (.lst ((sortS l).map T.str)) S1 else .stuck
theorem gds {w : World} : ∀ {vs : List Value}, (∀ v ∈ vs, ∃ k u, v = Value.str k u) → StrsAre vs (vs.map fun v => tOf (0, v))
  | [], _ => .nil
  | v :: vs, h => by
    obtain ⟨k, u, rfl⟩ := h v List.mem_cons_self
    exact .cons k u (gds (w := w) fun x hx => h x (List.mem_cons_of_mem _ hx))
theorem cr_sortX (hc : X.calm = true) : CallR X (.builtin "sorted") (fun xs H Q => ∃ a l, xs = [.ref a] ∧ H a = some (TxO X.prog X.w a l) ∧ l.length < 64 ∧ ∀ p, H p = none → Q (.ref p) (upd H p (.lst ((sortS l).map V.str)))) := by
  intro pins s σ H xs us Q I r q
  obtain ⟨a, l, rfl, ha, h64, q⟩ := q
  obtain ⟨D, ho, F⟩ := txO_get I ha
  rw [Vals.ref1 r]
  have hs : D.1.size = l.length := F.ok.sz
  have hb := F.sz
  refine Calls.call_function_entry kind_sorted plain_sorted entry_sorted (args_sorted1 _) ?_
  unfold Builtin.«sorted»
  refine wpAny_bind (m := checkCount "sorted" 1 1 _) (wpAny_pure (wpAny_bind (collect_set (A := X.A.in1) (I.ok.hd hc) ⟨_, ho, rfl, rfl⟩ F.ok.fit (by rw [hs]; exact hb) F.ris F.led fun s1 vs k1 hz g1 o1 pm => ?_)))
  have hvl : vs.length = l.length := by rw [pm.length_eq, List.length_map, Array.length_toList]; exact hs
  have hstr : ∀ v ∈ vs, ∃ k u, v = Value.str k u := fun v hv => by
    obtain ⟨e, he, rfl⟩ := List.mem_map.mp (pm.mem_iff.mp hv)
    obtain ⟨k, u, z⟩ := F.gd e he
    exact ⟨k, u, by rw [z]⟩
  have hS := gds (w := X.w) hstr
  have hp : (vs.map fun v => tOf (0, v)).Perm l := by
    refine ((pm.map fun v => tOf (0, v)).trans ?_).trans F.pm
    rw [List.map_map]
    exact List.Perm.of_eq (List.map_congr_left fun e _ => rfl)
  refine wpAny_bind (wpAny_newList ?_ (by rw [hvl, sizeLine_eq]; omega))
  have hoL : (s1.heap.push (seqObj "list" vs.toArray 0)).get? s1.heap.objs.size = some (seqObj "list" vs.toArray 0) := Heap.get?_push_size _ rfl
  refine wpAny_bind (wpAny_holding (wpAny_call_entry slot_list_sort ⟨_, hoL, rfl⟩ entry_list_sort (list_sort_treeK strKind_oneLt (s := { s1 with heap := s1.heap.push (seqObj "list" vs.toArray 0) }) hoL hS.keysOf
    (fun v₁ v₂ rest e => keyKind_strs (by rw [← e]; exact hS)) (by rw [hvl]; exact h64) fun st' hp' hss => ⟨_, rfl, ?_⟩) (args_list_sort _)))
  obtain ⟨ys, g2, g3, g4⟩ := sorted_out_str hS hp' hss
  obtain ⟨n', he⟩ := sortedHeap_at (vs := vs) (out := (arrOf st').map (·.2)) hoL
  have ey := sort_one (g3.trans hp) g4
  subst ey
  have hlen : ((sortS l).map V.str).length ≤ sizeLine := by
    rw [List.length_map, (sortS_perm l).length_eq, sizeLine_eq]; omega
  have kk : ∀ b u, s.heap.get? b = some u → (sortedHeap (s1.heap.push (seqObj "list" vs.toArray 0)) s1.heap.objs.size vs ((arrOf st').map (·.2))).get? b = some u := fun b u e => by
    have q1 := k1 b u e
    have hb : b < s1.heap.objs.size := Heap.lt_size q1
    rw [sortedHeap_old (Nat.ne_of_lt hb) (by rw [size_push']; exact Nat.lt_succ_of_lt hb)]
    exact Heap.get?_push_of_some _ q1
  have hn : H s1.heap.objs.size = none := I.hok.fresh hz
  have new : ObjOk X.prog X.w (upd H s1.heap.objs.size (.lst ((sortS l).map V.str))) (sortedHeap (s1.heap.push (seqObj "list" vs.toArray 0)) s1.heap.objs.size vs ((arrOf st').map (·.2))) s1.heap.objs.size (.lst ((sortS l).map V.str)) :=
    ⟨hlen, ((arrOf st').map (·.2)).toList, n', vals_of_strs g2, by rw [Array.toArray_toList]; exact he⟩
  refine wpAny_pure ⟨_, rfl, .ref s1.heap.objs.size, upd H s1.heap.objs.size (.lst ((sortS l).map V.str)), ?_, rfl, q _ hn⟩
  exact I.call' (ch := []) o1 (Un.laid kk hz hn) (I.hok.laid kk hz new) (by show AllBare s1.gens; rw [g1]; exact I.bare) (fun _ z => nomatch z)
theorem pfn_sortX {x : Str} {p : Pos} {e : Expr} {F : FS} (hc : X.calm = true) (hm : X.mg x = none) (hv : bootBuiltins x = some (.builtin "sorted")) (ha : PFX X wx e F) (hg : Gl X x := by rfl) (hn : x ≠ "__name__" := by decide) (hdb : (x == ("__debug__" : Str)) = false := by decide)
    (he : starEach [e] X.env = (false, eval e X.env) :: starEach [] X.env := by rfl) (hpl : (backTo pos (starEach [] X.env)).any (·.1) = false := by rfl) : PFN X wx (.Call (.Name x p) [e] [] pos) (fSortX F) :=
  PE.imp (pe_callB (cr_sortX hc) hg hm hv (pa_cons ha pa_nil he) hn hdb he hpl) fun σ H Q h => by
    obtain ⟨μ, τ, S, s, f, h⟩ := h
    refine ⟨μ, τ, S, s, f, ?_⟩
    unfold fSortX at h
    cases e0 : F τ S with
    | stuck => rw [e0] at h; exact h.elim
    | exc x S1 => rw [e0] at h; exact h
    | ok t S1 =>
      rw [e0] at h
      simp only [Res.bind] at h
      intro μ1 H1 D x hd st r
      by_cases h64 : t.length < 64
      · rw [if_pos h64] at h
        refine ⟨D, t, rfl, r, h64, fun p hp => new_at x h st hp ⟨_, upd_same, ?_⟩⟩
        exact rels_new hp (strs_rels (sortS t))
      · rw [if_neg h64] at h; exact h.elim
end
end TL
set_option Elab.async false
set_option linter.all false
set_option maxRecDepth 100000
set_option maxHeartbeats 2000000
namespace TL
open PySem PySem.Spec L2
open PyProof.Rows hiding St
def ltS (a b : Str) : Bool := decide (a.cps.toList < b.cps.toList)
section
variable {prog : Program} {w : World} {A : Around} {E : Value → Shared → Prop} {s : Shared}
def strOf : Value → Str
  | .str x _ => x
  | _ => ⟨#[]⟩
def rowAt (h : Heap) (v : Value) : List Str := match v with
  | .ref a => match h.get? a with
    | some o => match o.data with
      | .seq its _ => its.toList.map strOf
      | _ => []
    | none => []
  | _ => []
def IsRow (h : Heap) (v : Value) (l : List Str) : Prop := ∃ a o its n, v = .ref a ∧ h.get? a = some o ∧ o.cls = .type "tuple" ∧ o.data = .seq its n ∧ StrsAre its.toList l
theorem strs_of : ∀ {vs : List Value} {l : List Str}, StrsAre vs l → vs.map strOf = l
  | _, _, .nil => rfl
  | _, _, .cons x t h => by
    rw [List.map_cons, strs_of h]
    rfl
theorem IsRow.at {h : Heap} {v : Value} {l : List Str} (r : IsRow h v l) : rowAt h v = l := by
  obtain ⟨a, o, its, n, rfl, ho, hc, hd, hs⟩ := r
  unfold rowAt
  simp only [ho, hd]
  exact strs_of hs
theorem IsRow.keeps {h h' : Heap} {v : Value} {l : List Str} (r : IsRow h v l) (k : ∀ b o, h.get? b = some o → o.cls = .type "tuple" → h'.get? b = some o) : IsRow h' v l := by
  obtain ⟨a, o, its, n, rfl, ho, hc, hd, hs⟩ := r
  exact ⟨a, o, its, n, rfl, k _ _ ho hc, hc, hd, hs⟩
end
theorem strsT_map : ∀ l : List Str, strsT (l.map T.str) = some l
  | [] => rfl
  | y :: l => by simp only [List.map_cons, strsT, strsT_map l, Option.map_some]
def okRows (ls : List (List Str)) : Bool := decide (ls.length < 2) || ls.all (fun l => !l.isEmpty)
end TL
set_option Elab.async false
set_option linter.all false
set_option maxRecDepth 100000
set_option maxHeartbeats 2000000
namespace TL
open PySem PySem.Spec L2
open PyProof.Rows hiding St
abbrev CM := Sto → List T → List T → Option (T × List T)
def lstD (o : Option (List T)) (k : List T → Res T) : Res T := match o with
  | some xs => k xs
  | none => .stuck
theorem lstD_some (xs : List T) (k : List T → Res T) : lstD (some xs) k = k xs := rfl
def cmEnd (n : Nat) (S : Sto) (o : Option (T × List T)) : Res T := match o with
  | some p => .ok p.1 (S.set n (.lst p.2))
  | none => .stuck
theorem cmEnd_some (n : Nat) (S : Sto) (r : T) (ys : List T) : cmEnd n S (some (r, ys)) = .ok r (S.set n (.lst ys)) := rfl
def refD (o : T) (k : Nat → Res T) : Res T := match o with
  | .ref n => k n
  | _ => .stuck
theorem refD_ref (n : Nat) (k : Nat → Res T) : refD (.ref n) k = k n := rfl
def fCM (op : CM) (Fo : FE) (Fs : FA) : FE := fun τ S => (Fo τ S).bind fun o S1 => refD o fun n => lstD (lstAt S1 n) fun _ => (Fs τ S1).bind fun ts S2 => lstD (lstAt S2 n) fun xs => cmEnd n S2 (op S2 xs ts)
def CmR (K : PySem.W.Frag) (op : CM) (rule : V → List V → Hp → VK → Prop) : Prop := ∀ (μ : Mu) (H : Hp) (S : Sto) (a : Addr) (xs ts : List T) (vs ws : List V) (r : T) (ys : List T) (Q : VK), RelS K H μ S → H a = some (.lst vs) → Rels K H μ xs vs → Rels K H μ ts ws →
  op S xs ts = some (r, ys) → (∀ v us, Rel K H μ r v → Rels K H μ ys us → Q v (upd H a (.lst us))) → rule (.ref a) ws H Q
section
variable {X : Cx} {wx : WT} {pos : Pos} {K : PySem.W.Frag}
theorem cm_imp {op : CM} {rule : V → List V → Hp → VK → Prop} (hr : CmR X.K op rule) {Fo : FE} {Fs : FA} {σ : L2.St} {H : Hp} {Q : VK} (h : tG X.K wx (rV X.K) (fCM op Fo Fs) σ H Q) : tBM X.K "list" rule (tG X.K wx (rV X.K) Fo) (tG X.K wx (rVs X.K) Fs) σ H Q := by
  obtain ⟨μ, τ, S, s, f, h⟩ := h
  refine tG.seq s f h fun μ1 H1 x v S1 A1 h1 => ?_
  cases x with
  | ref n =>
    rw [refD_ref] at h1
    cases e1 : lstAt S1 n with
    | none => rw [e1] at h1; exact h1.elim
    | some us =>
      rw [e1, lstD_some] at h1
      have r := A1.rel
      simp only [Rel] at r
      obtain ⟨a, ha1, rfl⟩ := r
      obtain ⟨a', vs, ha', hl, _⟩ := lstAt_ok e1 A1.st
      rw [ha1] at ha'
      cases ha'
      refine ⟨.inl ⟨rfl, vs, .inl (.inl hl)⟩, tG.seq A1.st A1.fr h1 fun μ2 H2 ts ws S2 A2 h2 => ?_⟩
      cases e2 : lstAt S2 n with
      | none => rw [e2] at h2; exact h2.elim
      | some xs =>
        rw [e2, lstD_some] at h2
        cases e3 : op S2 xs ts with
        | none => rw [e3] at h2; exact h2.elim
        | some p =>
          obtain ⟨r, ys⟩ := p
          rw [e3, cmEnd_some] at h2
          obtain ⟨b, us', hb, hl2, r4⟩ := lstAt_ok e2 A2.st
          obtain ⟨ν, eν, _⟩ := A2.ext.pre
          have ha2 : μ2.c[n]? = some a := by rw [eν, List.getElem?_append_left (List.getElem?_eq_some_iff.mp ha1).1]; exact ha1
          rw [ha2] at hb
          cases hb
          refine hr μ2 H2 S2 a xs ts us' ws r ys Q A2.st hl2 r4 A2.rel e3 fun v zs rv rz => ?_
          exact h2 μ2 v _ (Ext.setc ha2) (A2.st.setc ha2 ⟨_, upd_same, rels_setc ha2 rz⟩) (rel_setc ha2 rv)
  | _ => exact h1.elim
theorem pf_cm {op : CM} {rule : V → List V → Hp → VK → Prop} {id : String} {name : Str} (hr : CmR X.K op rule) (slot : Slot "list" name id) (hty : typeOf (.builtin id) = pure (.type "method_descriptor")) (hm : MtR X id rule) {o e : Expr} {es : List Expr} {Fo : FE} {Fs : FA} {apos cpos : Pos} (ho : PF X wx o Fo) (ha : PFA X wx (e :: es) Fs)
    (hbase : attributeBase o name X.env (eval o X.env) = eval o X.env := by rfl)
    (hfew : ((backTo cpos (starEach (e :: es) X.env)).all (fun x => !x.1) && (backToKw cpos (keywordEach [] X.env)).all (fun x => x.1.isSome)
      && decide ((e :: es).length + ([] : List Keyword).length + (if ([] : List Keyword).isEmpty then 0 else 1) < 30)) = true := by rfl)
    (hline : (apos.endLine == cpos.line) = true := by rfl) (hs : starEach (e :: es) X.env = (false, eval e X.env) :: starEach es X.env := by rfl) (hplain : (backTo cpos (starEach es X.env)).any (·.1) = false := by rfl) :
    PF X wx (.Call (.Attribute o name apos) (e :: es) [] cpos) (fCM op Fo Fs) := PE.imp (pe_bm PySem.F.plainAttrs_list slot hty hm ho ha hbase hfew hline hs hplain) fun σ H Q h => cm_imp hr h
theorem Rels.erase {H : Hp} {μ : Mu} : ∀ {ts : List T} {vs : List V} (n : Nat), Rels K H μ ts vs → Rels K H μ (ts.eraseIdx n) (vs.eraseIdx n)
  | [], _, n, r => by simp only [Rels] at r; subst r; simp [Rels]
  | t :: ts, vs, n, r => by
    simp only [Rels] at r
    obtain ⟨v, r', rfl, h1, h2⟩ := r
    cases n with
    | zero => exact h2
    | succ n =>
      simp only [List.eraseIdx_cons_succ, Rels]
      exact ⟨v, _, rfl, h1, Rels.erase n h2⟩
def opPop : CM := fun _ xs ts => match ts with
  | [.int i] => if decide (-(2 ^ 62) ≤ i) && decide (i < 2 ^ 62) then (seqIndex? i xs.length).bind fun k => (xs[k]?).map fun y => (y, xs.eraseIdx k) else none
  | _ => none
theorem cm_pop : CmR K opPop rPopAt := by
  intro μ H S a xs ts vs ws r ys Q s hl rx rt e q
  unfold opPop at e
  split at e
  · rename_i i
    split at e
    · rename_i hi
      simp only [Bool.and_eq_true, decide_eq_true_eq] at hi
      simp only [Option.bind_eq_some_iff, Option.map_eq_some_iff] at e
      obtain ⟨k, hk, y, hy, e⟩ := e
      cases e
      obtain ⟨w, rfl, rw'⟩ := rels1 rt
      have ew : w = .int i := rw'
      subst ew
      obtain ⟨v, hv, rv⟩ := rx.get hy
      exact ⟨a, vs, i, k, v, rfl, rfl, hl, by omega, by omega, by rw [← rx.length]; exact hk, hv, q v _ rv (rx.erase k)⟩
    · cases e
  · cases e
def opIns : CM := fun _ xs ts => match ts with
  | [.int i, y] => if decide (0 ≤ i) && (decide (i < 2 ^ 62) && decide (xs.length < sizeLine)) then some (.non, xs.take i.toNat ++ [y] ++ xs.drop i.toNat) else none
  | _ => none
theorem cm_ins : CmR K opIns (fun x vs H Q => ∃ (l : Addr) (xs : List V) (i : Int) (y : V), x = .ref l ∧ vs = [.int i, y] ∧ H l = some (.lst xs) ∧ xs.length < sizeLine ∧ 0 ≤ i ∧ i < 2 ^ 63 ∧
    Q .non (upd H l (.lst (xs.take i.toNat ++ [y] ++ xs.drop i.toNat)))) := by
  intro μ H S a xs ts vs ws r ys Q s hl rx rt e q
  unfold opIns at e
  split at e
  · rename_i i y
    split at e
    · rename_i hi
      simp only [Bool.and_eq_true, decide_eq_true_eq] at hi
      cases e
      obtain ⟨w, u, rfl, rw', ru⟩ := rels2 rt
      have ew : w = .int i := rw'
      subst ew
      refine ⟨a, vs, i, u, rfl, rfl, hl, by rw [← rx.length]; exact hi.2.2, hi.1, by omega, q .non _ (by simp only [Rel]) ?_⟩
      refine Rels.append (Rels.append (rx.take _) ?_) (rx.drop _)
      simp only [Rels]
      exact ⟨u, [], rfl, ru, rfl⟩
    · cases e
  · cases e
def opExt : CM := fun S xs ts => match ts with
  | [t] => (plnL S t).bind fun ys => if xs.length + ys.length ≤ sizeLine then some (.non, xs ++ ys) else none
  | _ => none
theorem cm_ext : CmR K opExt rExtend := by
  intro μ H S a xs ts vs ws r ys Q s hl rx rt e q
  unfold opExt at e
  split at e
  · rename_i t
    simp only [Option.bind_eq_some_iff] at e
    obtain ⟨zs, hz, e⟩ := e
    split at e
    · rename_i hi
      cases e
      obtain ⟨w, rfl, rw'⟩ := rels1 rt
      obtain ⟨b, us, rfl, hb, ru⟩ := plnL_ok hz s rw'
      exact ⟨a, b, vs, us, rfl, rfl, hl, hb, by rw [← rx.length, ← ru.length]; exact hi, q .non _ (by simp only [Rel]) (Rels.append rx ru)⟩
    · cases e
  · cases e
theorem pf_pop {o e : Expr} {Fo : FE} {Fs : FA} {apos cpos : Pos} (ho : PF X wx o Fo) (ha : PFA X wx [e] Fs) (hbase : attributeBase o "pop" X.env (eval o X.env) = eval o X.env := by rfl)
    (hfew : ((backTo cpos (starEach [e] X.env)).all (fun x => !x.1) && (backToKw cpos (keywordEach [] X.env)).all (fun x => x.1.isSome) && decide (([e] : List Expr).length + ([] : List Keyword).length + (if ([] : List Keyword).isEmpty then 0 else 1) < 30)) = true := by rfl)
    (hline : (apos.endLine == cpos.line) = true := by rfl) (hs : starEach [e] X.env = (false, eval e X.env) :: starEach [] X.env := by rfl) (hplain : (backTo cpos (starEach [] X.env)).any (·.1) = false := by rfl) :
    PF X wx (.Call (.Attribute o "pop" apos) [e] [] cpos) (fCM opPop Fo Fs) := pf_cm cm_pop PySem.F.slot_list_pop PySem.F.type_list_pop mt_popAt ho ha hbase hfew hline hs hplain
theorem pf_extend {o e : Expr} {Fo : FE} {Fs : FA} {apos cpos : Pos} (ho : PF X wx o Fo) (ha : PFA X wx [e] Fs) (hbase : attributeBase o "extend" X.env (eval o X.env) = eval o X.env := by rfl)
    (hfew : ((backTo cpos (starEach [e] X.env)).all (fun x => !x.1) && (backToKw cpos (keywordEach [] X.env)).all (fun x => x.1.isSome) && decide (([e] : List Expr).length + ([] : List Keyword).length + (if ([] : List Keyword).isEmpty then 0 else 1) < 30)) = true := by rfl)
    (hline : (apos.endLine == cpos.line) = true := by rfl) (hs : starEach [e] X.env = (false, eval e X.env) :: starEach [] X.env := by rfl) (hplain : (backTo cpos (starEach [] X.env)).any (·.1) = false := by rfl) :
    PF X wx (.Call (.Attribute o "extend" apos) [e] [] cpos) (fCM opExt Fo Fs) := pf_cm cm_ext PySem.F.slot_list_extend PySem.F.type_list_extend mt_extend ho ha hbase hfew hline hs hplain
theorem pf_insert {o e e2 : Expr} {Fo : FE} {Fs : FA} {apos cpos : Pos} (ho : PF X wx o Fo) (ha : PFA X wx [e, e2] Fs) (hbase : attributeBase o "insert" X.env (eval o X.env) = eval o X.env := by rfl)
    (hfew : ((backTo cpos (starEach [e, e2] X.env)).all (fun x => !x.1) && (backToKw cpos (keywordEach [] X.env)).all (fun x => x.1.isSome) && decide (([e, e2] : List Expr).length + ([] : List Keyword).length + (if ([] : List Keyword).isEmpty then 0 else 1) < 30)) = true := by rfl)
    (hline : (apos.endLine == cpos.line) = true := by rfl) (hs : starEach [e, e2] X.env = (false, eval e X.env) :: starEach [e2] X.env := by rfl) (hplain : (backTo cpos (starEach [e2] X.env)).any (·.1) = false := by rfl) :
    PF X wx (.Call (.Attribute o "insert" apos) [e, e2] [] cpos) (fCM opIns Fo Fs) := pf_cm cm_ins PySem.F.slot_list_insert PySem.F.type_list_insert mt_insert ho ha hbase hfew hline hs hplain
end
end TL
set_option Elab.async false
set_option linter.all false
set_option maxRecDepth 100000
set_option maxHeartbeats 2000000
namespace TL
open PySem PySem.Spec L2
open PyProof.Rows hiding St
section
variable {X : Cx} {wx : WT} {pos : Pos}
def bSwap (Fo Fi Fo2 Fi2 Fv : FE) : BS := fun τ S => (Fv τ S).bindS τ fun v S1 => match v with
  | .tup [a, b] => (Fo τ S1).bindS τ fun o S2 => (Fi τ S2).bindS τ fun i S3 => match setT S3 o i a with
    | some S4 => (Fo2 τ S4).bindS τ fun o2 S5 => (Fi2 τ S5).bindS τ fun i2 S6 => match setT S6 o2 i2 b with
      | some S7 => .nx τ S7
      | none => .stuck
    | none => .stuck
  | _ => .stuck
theorem pfs_swap {o i o2 i2 e : Expr} {Fo Fi Fo2 Fi2 Fv : FE} {tpos tpos2 tp : Pos} {kk : Nat} (hc : X.calm = true) (hu : X.A.units + 64 < cLine) (he : PF X wx e Fv) (ho : PF X wx o Fo) (hi : PF X wx i Fi) (ho2 : PF X wx o2 Fo2) (hi2 : PF X wx i2 Fi2)
    (ha : ∀ v, assign (.Subscript o i tpos) X.env v = (do
      let ov ← holding [v] (eval o X.env)
      let iv ← holding [v, ov] (eval i X.env)
      standAt tpos
      holding [v, ov, iv] (setItem ov iv v)
      release [v, ov, iv] []) := by intro _; rfl)
    (ha2 : ∀ v, assign (.Subscript o2 i2 tpos2) X.env v = (do
      let ov ← holding [v] (eval o2 X.env)
      let iv ← holding [v, ov] (eval i2 X.env)
      standAt tpos2
      holding [v, ov, iv] (setItem ov iv v)
      release [v, ov, iv] []) := by intro _; rfl)
    (hs : swapsWithSole [.Tuple [.Subscript o i tpos, .Subscript o2 i2 tpos2] kk tp] e pos.line X.env = pure false := by rfl) (hw : swappedStores [.Tuple [.Subscript o i tpos, .Subscript o2 i2 tpos2] kk tp] e X.env = pure none := by rfl)
    (h1 : (assignEach [.Tuple [.Subscript o i tpos, .Subscript o2 i2 tpos2] kk tp] X.env).map (·.2) = [assign (.Tuple [.Subscript o i tpos, .Subscript o2 i2 tpos2] kk tp) X.env] := by rfl)
    (hn : (assignEach [.Subscript o i tpos, .Subscript o2 i2 tpos2] X.env).length = 2 := by rfl) (hst : (assignEach [.Subscript o i tpos, .Subscript o2 i2 tpos2] X.env).findIdx? (·.1) = none := by rfl)
    (hs1 : (assignEach [.Subscript o i tpos, .Subscript o2 i2 tpos2] X.env).map (·.2) = assign (.Subscript o i tpos) X.env :: (assignEach [.Subscript o2 i2 tpos2] X.env).map (·.2) := by rfl)
    (hs2 : (assignEach [.Subscript o2 i2 tpos2] X.env).map (·.2) = assign (.Subscript o2 i2 tpos2) X.env :: (assignEach [] X.env).map (·.2) := by rfl) :
    PFS X wx (.Assign [.Tuple [.Subscript o i tpos, .Subscript o2 i2 tpos2] kk tp] e pos) (bSwap Fo Fi Fo2 Fi2 Fv) :=
  PS.imp (ps_asg he (pg_tup hc (pgs_cons (pg_sub ho hi (o_set hu) ha) (pgs_cons (pg_sub ho2 hi2 (o_set hu) ha2) pgs_nil hs2) hs1) hn hst) hs hw h1) fun D σ H h => by
    obtain ⟨μ, τ, S, s, f, h⟩ := h
    refine tG.seqS s f h fun μ1 H1 v v' S1 A1 h1 => ?_
    split at h1
    · rename_i a b
      obtain ⟨p, xs, rfl, hp, r⟩ := tup_ok A1.rel
      obtain ⟨a', b', rfl, ra, rb⟩ := rels2 r
      refine ⟨p, _, rfl, hp, rfl, a', [b'], rfl, tG.seqS A1.st A1.fr h1 fun μ2 H2 o o' S2 A2 h2 => tG.seqS A2.st A2.fr h2 fun μ3 H3 i i' S3 A3 h3 => ?_⟩
      cases e1 : setT S3 o i a with
      | none => simp only [e1] at h3; exact h3.elim
      | some S4 =>
        simp only [e1] at h3
        refine ⟨μ3, S3, o, i, a, S4, A3.st, Rel.mono A3.ext _ A2.rel, A3.rel, Rel.mono A3.ext _ (Rel.mono A2.ext _ ra), e1, fun H4 E4 st4 => ?_⟩
        have rb4 := Rel.mono E4 _ (Rel.mono A3.ext _ (Rel.mono A2.ext _ rb))
        refine ⟨b', [], rfl, tG.seqS st4 (A3.fr.mono E4) (postS.shift E4 h3) fun μ5 H5 o2 o2' S5 A5 h5 => tG.seqS A5.st A5.fr h5 fun μ6 H6 i2 i2' S6 A6 h6 => ?_⟩
        cases e2 : setT S6 o2 i2 b with
        | none => simp only [e2] at h6; exact h6.elim
        | some S7 =>
          simp only [e2] at h6
          exact ⟨μ6, S6, o2, i2, b, S7, A6.st, Rel.mono A6.ext _ A5.rel, A6.rel, Rel.mono A6.ext _ (Rel.mono A5.ext _ rb4), e2, fun H7 E7 st7 => ⟨rfl, h6 μ6 σ H7 E7 st7 (A6.fr.mono E7)⟩⟩
    · exact h1.elim
end
end TL
set_option Elab.async false
set_option linter.all false
set_option maxRecDepth 100000
set_option maxHeartbeats 2000000
namespace TL
open PySem PySem.Spec L2
open PyProof.Rows hiding St
section
variable {X : Cx}
end
end TL
set_option Elab.async false
set_option linter.all false
set_option maxRecDepth 100000
set_option maxHeartbeats 2000000
namespace TL
open PySem PySem.Spec L2
open PyProof.Rows hiding St
def Sup (H : Hp) (μ : Mu) (H' : Hp) (μ' : Mu) : Prop := (∀ (n : Nat) (a : Addr), μ.c[n]? = some a → μ'.c[n]? = some a) ∧ ∀ a o, H a = some o → μ.out a → NT o → H' a = some o ∧ μ'.out a
theorem Sup.refl (H : Hp) (μ : Mu) : Sup H μ H μ := ⟨fun _ _ e => e, fun _ _ e n _ => ⟨e, n⟩⟩
theorem Ext.sup {H H' : Hp} {μ μ' : Mu} (x : Ext H μ H' μ') : Sup H μ H' μ' := ⟨fun n a e => by
  obtain ⟨ν, eν, -⟩ := x.pre
  rw [eν, List.getElem?_append_left (List.getElem?_eq_some_iff.mp e).1]
  exact e, fun a o e n nt => ⟨x.keep a o e n.1 nt, x.out e n⟩⟩
theorem Sup.trans {H H1 H2 : Hp} {μ μ1 μ2 : Mu} (a : Sup H μ H1 μ1) (b : Sup H1 μ1 H2 μ2) : Sup H μ H2 μ2 := ⟨fun n p e => b.1 n p (a.1 n p e), fun p o e n nt => b.2 p o (a.2 p o e n nt).1 (a.2 p o e n nt).2 nt⟩
theorem Sup.hid {H : Hp} {μ : Mu} {D : Addr} {o : HO} (h : D ∈ μ.r) : Sup H μ (upd H D o) μ := ⟨fun _ _ e => e, fun a o e n _ => hid_keep h a o e n⟩
theorem Sup.fix {H H' : Hp} {μ μ' : Mu} {a : Addr} {u : HO} (x : Sup H μ H' μ') (f : Fix H μ a u) (nt : NT u := by intro _ z; cases z) : Fix H' μ' a u := by
  obtain ⟨r, n⟩ := f
  rcases r with r | ⟨o, r⟩
  · exact ⟨.inl (x.2 _ _ r n nt).1, (x.2 _ _ r n nt).2⟩
  · exact ⟨.inr ⟨o, (x.2 _ _ r n (by intro _ z; cases z)).1⟩, (x.2 _ _ r n (by intro _ z; cases z)).2⟩
def Src2 (K : PySem.W.Frag) (J : It) (xs : List T) (μ : Mu) (H : Hp) : Prop := ∀ μ2 H2, Sup H μ H2 μ2 →
  (∀ i x, xs[i]? = some x → J.go i H2 ∧ ∀ v H3, J.yld i H2 v H3 → Same H2 H3 ∧ ∀ S, RelS K H2 μ2 S → Rel K H3 μ2 x v) ∧ ∀ i, xs.length ≤ i → J.stop i H2
def rI2 (K : PySem.W.Frag) : RL (List T) It := fun H μ xs J => Src2 K J xs μ H
def wiT2 (K : PySem.W.Frag) (wx : WT) (Fi : FI) : TI := tG K wx (rI2 K) Fi
def PFI2 (X : Cx) (wx : WT) (tg e : Expr) (Fi : FI) : Prop := PI X tg e (wiT2 X.K wx Fi)
theorem Src2.list {K : PySem.W.Frag} {H : Hp} {μ : Mu} {a : Addr} {xs : List V} {ts : List T} (f : OL K H μ a xs) (r : Rels K H μ ts xs) : Src2 K (Itl K a) ts μ H := fun μ2 H2 E => by
  have f2 : OL K H2 μ2 a xs := f.imp (fun z => E.fix z) id
  have q : SqL K H2 a xs := f2.imp (fun z => z.1) id
  have r2 := Rels.toN E.1 E.2 ts r
  refine ⟨fun i x e => ?_, fun i h => ⟨xs, q, by rw [← r2.length]; exact h⟩⟩
  obtain ⟨v, e1, e2⟩ := r2.get e
  refine ⟨⟨xs, v, q, e1⟩, fun u H3 y => ?_⟩
  obtain ⟨rfl, y⟩ := y
  have e3 := y xs q
  rw [e1] at e3
  cases e3
  exact ⟨Same.refl _, fun S s => e2⟩
theorem Src2.tup {K : PySem.W.Frag} {H : Hp} {μ : Mu} {a : Addr} {xs : List V} {ts : List T} (f : OT K H μ a xs) (r : Rels K H μ ts xs) : Src2 K (Itt K a) ts μ H := fun μ2 H2 E => by
  have f2 : OT K H2 μ2 a xs := f.imp (fun z => E.fix z) id
  have q : SqT K H2 a xs := f2.imp (fun z => z.1) id
  have r2 := Rels.toN E.1 E.2 ts r
  refine ⟨fun i x e => ?_, fun i h => ⟨xs, q, by rw [← r2.length]; exact h⟩⟩
  obtain ⟨v, e1, e2⟩ := r2.get e
  refine ⟨⟨xs, v, q, e1⟩, fun u H3 y => ?_⟩
  obtain ⟨rfl, y⟩ := y
  have e3 := y xs q
  rw [e1] at e3
  cases e3
  exact ⟨Same.refl _, fun S s => e2⟩
section
variable {X : Cx} {wx : WT} {tg a : Expr} {Fa : FE}
theorem pfi2_list (ha : PF X wx a Fa) : PFI2 X wx tg a (fiL Fa) := PI.imp (pi_list ha) fun σ H Q h => by
  obtain ⟨μ, τ, S, s, f, h⟩ := h
  refine tG.seq s f h fun μ1 H1 t v S1 A1 h1 => ?_
  have r := A1.rel
  cases t with
  | lst ts =>
    simp only [Rel] at r
    obtain ⟨a, xs, rfl, o, r⟩ := r
    have o' : OL X.K H1 μ1 a xs := .inl ⟨.inl o.1, o.2⟩
    exact ⟨a, rfl, ⟨xs, .inl (.inl o.1)⟩, h1.here A1.st (Src2.list o' r)⟩
  | sls ts =>
    simp only [Rel] at r
    obtain ⟨a, xs, rfl, o, r⟩ := r
    exact ⟨a, rfl, ⟨xs, o.imp (fun z => z.1) fun z => z⟩, h1.here A1.st (Src2.list o r)⟩
  | _ => exact h1.elim
end
def lc2F (g : GT) (Ft : FT) (Fi1 : FI) (g1 : GT) (Ft1 : FT) (Fe : FE) (vs1 : List Nat) (vs : List Nat) (τ : Fr) : List T → Sto → Res (List T)
  | [], S => .ok [] S
  | x :: xs, S => match g x with
    | none => .stuck
    | some l => if slotsIn l vs then (Ft (setsT τ l) S).nox.bind fun k S1 => match k with
        | true => (Fi1 (setsT τ l) S1).nox.bind fun ys S2 => if ys.length ≤ 1000 then (lcF g1 Ft1 Fe vs1 (wipeT (setsT τ l) vs1) ys S2).bind fun zs S3 => (lc2F g Ft Fi1 g1 Ft1 Fe vs1 vs τ xs S3).bind fun ws S4 => .ok (zs ++ ws) S4 else .stuck
        | false => lc2F g Ft Fi1 g1 Ft1 Fe vs1 vs τ xs S1
      else .stuck
def fLc2 (Fi : FI) (g : GT) (Ft : FT) (Fi1 : FI) (g1 : GT) (Ft1 : FT) (Fe : FE) (vs1 vs : List Nat) : FE := fun τ S => (Fi τ S).bind fun xs S1 => if xs.length ≤ 1000 then (lc2F g Ft Fi1 g1 Ft1 Fe vs1 vs (wipeT τ vs) xs S1).bind fun ys S2 => .ok (.lst ys) S2 else .stuck
section
variable {X : Cx} {wx : WT} {pos : Pos}
theorem lc2_imp {Fi Fi1 : FI} {g g1 : GT} {Ft Ft1 : FT} {Fe : FE} {vs vs1 : List Nat} {σ : L2.St} {H : Hp} {Q : VK} (h : tN X.K wx (fLc2 Fi g Ft Fi1 g1 Ft1 Fe vs1 vs) σ H Q) :
    tLc2 (wiT X.K wx Fi) (gT X.K g) (tG X.K wF rB Ft) (wiT2 X.K wF Fi1) (gT X.K g1) (tG X.K wF rB Ft1) (tG X.K wF (rV X.K) Fe) vs vs1 σ H Q := by
  obtain ⟨μ, τ, S, s, f, h⟩ := h
  refine tG.seqN s f h fun μ1 H1 xs J S1 A1 h1 => ?_
  by_cases hl : xs.length ≤ 1000
  · rw [if_pos hl] at h1
    intro D hD
    have hD0 : H D = none := A1.ext.back hD
    have sz : 2000000 < sizeLine := by decide
    refine ⟨fun i m H2 => ∃ M S2 acc accT, Ext H1 μ1 H2 M ∧ D ∈ M.r ∧ RelS X.K H2 M S2 ∧ RelF X.K H2 M τ σ ∧ H2 D = some (.lst acc) ∧ Rels X.K H2 M accT acc ∧ acc.length ≤ 1000 * i ∧ i ≤ xs.length ∧ m = xs.length - i ∧
        postN X.K (wx.fr τ σ) μ H ((lc2F g Ft Fi1 g1 Ft1 Fe vs1 vs (wipeT τ vs) (xs.drop i) S2).bind fun ys S3 => .ok (.lst (accT ++ ys)) S3) Q,
      ⟨xs.length, μ1.hide D, S1, [], [], Ext.hide hD, List.mem_cons_self, A1.st.hide hD, RelF.to (μ := μ1) (fun _ _ e => e) (hide_keep hD) A1.fr, upd_same, by simp only [Rels], Nat.zero_le _, Nat.zero_le _, rfl, by simpa using h1⟩, fun i m H2 hW => ?_⟩
    obtain ⟨M, S2, acc, accT, E2, nr2, s2, f2, d2, a2, hai, hix, rfl, h2⟩ := hW
    obtain ⟨go, stop⟩ := A1.rel M H2 E2
    by_cases hlt : i < xs.length
    · rw [drop_cons hlt] at h2
      obtain ⟨hgo, hy⟩ := go i xs[i] (List.getElem?_eq_getElem hlt)
      refine .inr ⟨hgo, fun H' => ∃ M S2 acc accT, Ext H1 μ1 H' M ∧ D ∈ M.r ∧ RelS X.K H' M S2 ∧ RelF X.K H' M τ σ ∧ H' D = some (.lst acc) ∧ Rels X.K H' M accT acc ∧ acc.length ≤ 1000 * (i + 1) ∧
        postN X.K (wx.fr τ σ) μ H ((lc2F g Ft Fi1 g1 Ft1 Fe vs1 vs (wipeT τ vs) (xs.drop (i + 1)) S2).bind fun ys S3 => .ok (.lst (accT ++ ys)) S3) Q, fun H' hN' => ?_, fun v H3 yl => ?_⟩
      · obtain ⟨M3, S3, acc3, accT3, q1, q2, q3, q4, q5, q6, q7, q8⟩ := hN'
        exact ⟨xs.length - (i + 1), by omega, M3, S3, acc3, accT3, q1, q2, q3, q4, q5, q6, q7, hlt, rfl, q8⟩
      · obtain ⟨sm, hr⟩ := hy v H3 yl
        have E3 : Ext H2 M H3 M := Ext.of_same sm
        have s3 := s2.same sm
        have f3 := f2.mono E3
        simp only [lc2F] at h2
        cases eg : g xs[i] with
        | none => simp only [eg] at h2; exact h2.elim
        | some l =>
          simp only [eg] at h2
          by_cases ha : slotsIn l vs = true
          · rw [if_pos ha] at h2
            refine ⟨M, xs[i], l, hr S2 s2, eg, fun l' fl => ⟨wipe_back (slotsIn_mem ha fl), ?_⟩⟩
            have fb : RelF X.K H3 M (setsT (wipeT τ vs) l) (setsV (wipe σ vs) l') := RelF.sets fl (relF_wipe f3 vs)
            cases et : Ft (setsT (wipeT τ vs) l) S2 with
            | stuck => rw [et] at h2; exact h2.elim
            | exc x S4 => rw [et] at h2; exact h2.elim
            | ok k S4 =>
              rw [et] at h2
              simp only [Res.nox, Res.bind] at h2
              refine tG.known s3 fb et fun M4 H4 b A4 => ?_
              have e : k = b := A4.rel
              subst e
              have E4 : Ext H2 M H4 M4 := E3.trans A4.ext
              have nr4 : D ∈ M4.r := A4.ext.res.1 D nr2
              have d4 : H4 D = some (.lst acc) := E4.kp D _ d2 (s2.dis D nr2)
              cases k with
              | false =>
                simp only at h2
                exact iteF ⟨M4, S4, acc, accT, E2.trans E4, nr4, A4.st, f2.mono E4, d4, Rels.mono E4 _ a2, by omega, h2⟩
              | true =>
                simp only at h2
                refine iteT ?_
                cases ei : Fi1 (setsT (wipeT τ vs) l) S4 with
                | stuck => rw [ei] at h2; exact h2.elim
                | exc x S5 => rw [ei] at h2; exact h2.elim
                | ok ys S5 =>
                  rw [ei] at h2
                  simp only at h2
                  by_cases hl1 : ys.length ≤ 1000
                  · rw [if_pos hl1] at h2
                    refine tG.known A4.st A4.fr ei fun M5 H5 J1 A5 => ?_
                    have E5 : Ext H2 M H5 M5 := E4.trans A5.ext
                    have nr5 : D ∈ M5.r := A5.ext.res.1 D nr4
                    have d5 : H5 D = some (.lst acc) := E5.kp D _ d2 (s2.dis D nr2)
                    -- the inner walk
                    refine ⟨fun j m H6 => ∃ M6 S6 ac acT, Sup H5 M5 H6 M6 ∧ Ext H1 μ1 H6 M6 ∧ D ∈ M6.r ∧ RelS X.K H6 M6 S6 ∧ RelF X.K H6 M6 τ σ ∧ RelF X.K H6 M6 (setsT (wipeT τ vs) l) (setsV (wipe σ vs) l') ∧ H6 D = some (.lst ac) ∧ Rels X.K H6 M6 acT ac ∧ ac.length ≤ 1000 * i + j ∧ j ≤ ys.length ∧ m = ys.length - j ∧
                        postN X.K (wx.fr τ σ) μ H ((lcF g1 Ft1 Fe vs1 (wipeT (setsT (wipeT τ vs) l) vs1) (ys.drop j) S6).bind fun zs S7 => (lc2F g Ft Fi1 g1 Ft1 Fe vs1 vs (wipeT τ vs) (xs.drop (i + 1)) S7).bind fun ws S8 => .ok (.lst (acT ++ (zs ++ ws))) S8) Q,
                      ⟨ys.length, M5, S5, acc, accT, Sup.refl _ _, E2.trans E5, nr5, A5.st, f2.mono E5, A5.fr, d5, Rels.mono E5 _ a2, by omega, Nat.zero_le _, rfl, ?_⟩, fun j m H6 hW => ?_⟩
                    · rw [List.drop_zero]
                      refine cast ?_ h2
                      congr 1
                      cases lcF g1 Ft1 Fe vs1 (wipeT (setsT (wipeT τ vs) l) vs1) ys S5 with
                      | stuck => rfl
                      | exc x S => rfl
                      | ok zs S =>
                        simp only [Res.bind]
                        cases lc2F g Ft Fi1 g1 Ft1 Fe vs1 vs (wipeT τ vs) (xs.drop (i + 1)) S <;> rfl
                    · obtain ⟨M6, S6, ac, acT, E6, E16, nr6, s6, f6, fb6, d6, a6, hac, hjy, rfl, h6⟩ := hW
                      obtain ⟨go1, stop1⟩ := A5.rel M6 H6 E6
                      by_cases hlt1 : j < ys.length
                      · rw [drop_cons hlt1] at h6
                        obtain ⟨hgo1, hy1⟩ := go1 j ys[j] (List.getElem?_eq_getElem hlt1)
                        refine .inr ⟨hgo1, fun H' => ∃ M6 S6 ac acT, Sup H5 M5 H' M6 ∧ Ext H1 μ1 H' M6 ∧ D ∈ M6.r ∧ RelS X.K H' M6 S6 ∧ RelF X.K H' M6 τ σ ∧ RelF X.K H' M6 (setsT (wipeT τ vs) l) (setsV (wipe σ vs) l') ∧ H' D = some (.lst ac) ∧ Rels X.K H' M6 acT ac ∧ ac.length ≤ 1000 * i + (j + 1) ∧
                          postN X.K (wx.fr τ σ) μ H ((lcF g1 Ft1 Fe vs1 (wipeT (setsT (wipeT τ vs) l) vs1) (ys.drop (j + 1)) S6).bind fun zs S7 => (lc2F g Ft Fi1 g1 Ft1 Fe vs1 vs (wipeT τ vs) (xs.drop (i + 1)) S7).bind fun ws S8 => .ok (.lst (acT ++ (zs ++ ws))) S8) Q, fun H' hN' => ?_, fun v H7 yl1 => ?_⟩
                        · obtain ⟨M3, S3, acc3, accT3, q0, q1, q2, q3, q4, q4', q5, q6, q7, q8⟩ := hN'
                          exact ⟨ys.length - (j + 1), by omega, M3, S3, acc3, accT3, q0, q1, q2, q3, q4, q4', q5, q6, q7, hlt1, rfl, q8⟩
                        · obtain ⟨sm1, hr1⟩ := hy1 v H7 yl1
                          have E7 : Ext H6 M6 H7 M6 := Ext.of_same sm1
                          have s7 := s6.same sm1
                          simp only [lcF] at h6
                          cases eg1 : g1 ys[j] with
                          | none => simp only [eg1] at h6; exact h6.elim
                          | some l1 =>
                            simp only [eg1] at h6
                            by_cases ha1 : slotsIn l1 vs1 = true
                            · rw [if_pos ha1] at h6
                              refine ⟨M6, ys[j], l1, hr1 S6 s6, eg1, fun l1' fl1 => ⟨wipe_back (slotsIn_mem ha1 fl1), ?_⟩⟩
                              have fb7 : RelF X.K H7 M6 (setsT (wipeT (setsT (wipeT τ vs) l) vs1) l1) (setsV (wipe (setsV (wipe σ vs) l') vs1) l1') := RelF.sets fl1 (relF_wipe (fb6.mono E7) vs1)
                              cases et1 : Ft1 (setsT (wipeT (setsT (wipeT τ vs) l) vs1) l1) S6 with
                              | stuck => rw [et1] at h6; exact h6.elim
                              | exc x S9 => rw [et1] at h6; exact h6.elim
                              | ok k1 S9 =>
                                rw [et1] at h6
                                simp only [Res.nox, Res.bind] at h6
                                refine tG.known s7 fb7 et1 fun M9 H9 b1 A9 => ?_
                                have e1 : k1 = b1 := A9.rel
                                subst e1
                                have E9 : Ext H6 M6 H9 M9 := E7.trans A9.ext
                                have nr9 : D ∈ M9.r := A9.ext.res.1 D nr6
                                cases k1 with
                                | false =>
                                  simp only at h6
                                  exact iteF ⟨M9, S9, ac, acT, E6.trans E9.sup, E16.trans E9, nr9, A9.st, f6.mono E9, fb6.mono E9, E9.kp D _ d6 (s6.dis D nr6), Rels.mono E9 _ a6, by omega, h6⟩
                                | true =>
                                  simp only at h6
                                  refine iteT ?_
                                  cases ee : Fe (setsT (wipeT (setsT (wipeT τ vs) l) vs1) l1) S9 with
                                  | stuck => rw [ee] at h6; exact h6.elim
                                  | exc x S10 => rw [ee] at h6; exact h6.elim
                                  | ok y S10 =>
                                    rw [ee] at h6
                                    simp only at h6
                                    refine tG.known A9.st A9.fr ee fun M10 H10 w A10 => ?_
                                    have E10 : Ext H6 M6 H10 M10 := E9.trans A10.ext
                                    have nr10 : D ∈ M10.r := A10.ext.res.1 D nr9
                                    have d10 : H10 D = some (.lst ac) := E10.kp D _ d6 (s6.dis D nr6)
                                    have hD5 : H1 D = none := hD
                                    have keepD : ∀ a u, H10 a = some u → M10.out a → upd H10 D (.lst (ac ++ [w])) a = some u ∧ M10.out a := hid_keep nr10
                                    have i1000 : 1000 * i ≤ 1000 * 1000 := Nat.mul_le_mul_left _ (by omega)
                                    refine ⟨ac, d10, by omega, M10, S10, ac ++ [w], acT ++ [y], (E6.trans E10.sup).trans (Sup.hid nr10), (E16.trans E10).hid hD, nr10, A10.st.hid nr10, RelF.to (μ := M10) (fun _ _ e => e) keepD (f6.mono E10), RelF.to (μ := M10) (fun _ _ e => e) keepD (fb6.mono E10), upd_same, ?_, by simp; omega, ?_⟩
                                    · refine Rels.to (μ := M10) (fun _ _ e => e) keepD _ (Rels.append (Rels.mono E10 _ a6) ?_)
                                      simp only [Rels]
                                      exact ⟨w, [], rfl, A10.rel, rfl⟩
                                    · cases er : lcF g1 Ft1 Fe vs1 (wipeT (setsT (wipeT τ vs) l) vs1) (ys.drop (j + 1)) S10 with
                                      | stuck => rw [er] at h6; exact h6.elim
                                      | exc x S11 => rw [er] at h6; exact h6
                                      | ok zs S11 =>
                                        rw [er] at h6
                                        simp only [Res.bind] at h6 ⊢
                                        simp only [List.append_assoc, List.cons_append, List.nil_append] at h6 ⊢
                                        exact h6
                            · rw [if_neg ha1] at h6; exact h6.elim
                      · have e : j = ys.length := by omega
                        subst e
                        rw [List.drop_length] at h6
                        refine .inl ⟨stop1 _ (Nat.le_refl _), M6, S6, ac, acT, E16, nr6, s6, f6, d6, a6, by omega, ?_⟩
                        simp only [lcF, Res.bind, List.nil_append] at h6
                        exact h6
                  · rw [if_neg hl1] at h2; exact h2.elim
          · rw [if_neg ha] at h2; exact h2.elim
    · have e : i = xs.length := by omega
      subst e
      rw [List.drop_length] at h2
      refine .inl ⟨stop _ (Nat.le_refl _), ?_⟩
      simp only [lc2F, Res.bind, List.append_nil] at h2
      exact h2 M H2 D (A1.ext.trans E2) hD0 nr2 s2 ⟨acc, d2, a2⟩
  · rw [if_neg hl] at h1; exact h1.elim
section
variable {elt tg iter tg1 iter1 : Expr} {ifs ifs1 : List Expr} {scope : Scope} {own : List (Str × Nat)} {vs1 : List Nat} {Fi Fi1 : FI} {g g1 : GT} {Ft Ft1 : FT} {Fe : FE} {i : Nat} {y : Str} {py spos : Pos} (hc : X.calm = true) (hN : X.N.Nodup) (hy : X.N[i]? = some y) (hyl : X.env.scope.names.lookup y = some .local)
  (hsw : swapsWith (.ListComp elt [⟨tg, iter, ifs, 0⟩, ⟨tg1, iter1, ifs1, 0⟩] scope pos) (some (.Name y py)) spos.line X.env = pure true) (hi : PFI X wx tg iter Fi) (ok : BlkOk X.N X.env.scope scope own) (hv : ∀ i ∈ vs1, i ∈ own.map (·.2))
  (hg : ∀ (s : Shared) (H : Hp) (C : Addr) (cl : List (Str × Addr)) (fp : List Addr), PFG (X.blk s H scope (compEnvC scope cl C X.env) fp) tg g) (ht : ∀ (s : Shared) (H : Hp) (C : Addr) (cl : List (Str × Addr)) (fp : List Addr), PFTs (X.blk s H scope (compEnvC scope cl C X.env) fp) wF ifs Ft)
  (hi1 : ∀ (s : Shared) (H : Hp) (C : Addr) (cl : List (Str × Addr)) (fp : List Addr), PFI2 (X.blk s H scope (compEnvC scope cl C X.env) fp) wF tg1 iter1 Fi1)
  (hg1 : ∀ (s : Shared) (H : Hp) (C : Addr) (cl : List (Str × Addr)) (fp : List Addr), PFG (X.blk s H scope (compEnvC scope cl C X.env) fp) tg1 g1) (ht1 : ∀ (s : Shared) (H : Hp) (C : Addr) (cl : List (Str × Addr)) (fp : List Addr), PFTs (X.blk s H scope (compEnvC scope cl C X.env) fp) wF ifs1 Ft1)
  (he : ∀ (s : Shared) (H : Hp) (C : Addr) (cl : List (Str × Addr)) (fp : List Addr), PF (X.blk s H scope (compEnvC scope cl C X.env) fp) wF elt Fe) (hs : ∀ x, foldedSetIterable iter X.env x = pure x := by intro _; rfl) (hs1 : ∀ env x, foldedSetIterable iter1 env x = pure x := by intro _ _; rfl)
include hc hN hy hyl hsw hi ok hv hg ht hi1 hg1 ht1 he hs hs1
theorem pfs_setLc2 : PFS X wx (.Assign [.Name y py] (.ListComp elt [⟨tg, iter, ifs, 0⟩, ⟨tg1, iter1, ifs1, 0⟩] scope pos) spos) (bSet i (fPure (fLc2 Fi g Ft Fi1 g1 Ft1 Fe vs1 (own.map (·.2))))) :=
  PS.imp (ps_setLc2 (wi1 := wiT2 X.K wF Fi1) (g := gT X.K g) (tt := tG X.K wF rB Ft) (g1 := gT X.K g1) (tt1 := tG X.K wF rB Ft1) (te := tG X.K wF (rV X.K) Fe) hc hN hy hyl hsw hi ok hv hg ht hi1 hg1 ht1 he hs hs1) fun D σ H h => by
    have h1 := pure_imp (set_imp h)
    exact lc2_imp h1
end
end
end TL
set_option Elab.async false
set_option linter.all false
set_option maxRecDepth 100000
set_option maxHeartbeats 2000000
namespace TL
open PySem PySem.Spec L2
open PyProof.Rows hiding St
end TL
set_option Elab.async false
set_option linter.all false
set_option maxRecDepth 100000
namespace TL
open PySem PySem.Spec L2
open PyProof.Rows hiding St
section
variable {K : PySem.W.Frag} {H : Hp} {μ : Mu} {X : Cx}
end
end TL
set_option Elab.async false
set_option linter.all false
set_option maxRecDepth 100000
namespace TL
open PySem PySem.Spec L2
open PyProof.Rows hiding St
section
variable {P : Program} {w : World} {K : PySem.W.Frag} {mg : Str → Option Value} {base : Heap}
end
structure Sh (K : PySem.W.Frag) (fd : FuncData) (ps : List Str) (dvs : List V) (n : Nat) (ks : List Str) (g : {α : Type} → List α → List α → List α → List α) : Prop where
  b : ∃ its : List Value, KBn K fd ps n ks (fun us ws => g us its ws) (fun vs zs => g vs dvs zs)
section
variable {K : PySem.W.Frag} {x qual : Str} {params : Arguments} {body : List Stmt} {scope : Scope} {dvs : List V} {f : Addr} {fd : FuncData} {ps : List Str}
theorem sh_mk (F : FunD K x qual params body scope dvs [] f fd) (n : Nat) (ks : List Str) (g : {α : Type} → List α → List α → List α → List α) (hd : dvs ≠ [])
    (hrel : ∀ {vs ds zs : List V} {us its ws : List Value}, Vals vs us → Vals ds its → Vals zs ws → Vals (g vs ds zs) (g us its ws))
    (h : ∀ (T : Addr) (kV doc pm : Value) (an : Option Addr) (cdv ct : Value) (us its ws : List Value), us.length = n → its.length = dvs.length → ws.length = ks.length →
      ∃ k, bindArgs (PySem.W.fnOf x qual params body scope (.ref T) kV doc pm an cdv ct) ⟨us, ks.zip ws⟩ = seqItems? (.ref T) >>= k ∧ k (some its.toArray) = pure (ps.zip (g us its ws))) : Sh K fd ps dvs n ks g := by
  obtain ⟨oc, od, dV, kV, doc, pm, an, cdv, ct, osl, rfl, lk, hcd, hD, hK⟩ := F.ex
  rcases hD with ⟨e, _⟩ | ⟨_, T, o, its, m, rfl, lT, oT, rT⟩
  · exact absurd e hd
  · refine ⟨its, ⟨fun s us ws X l1 l2 => ?_, fun r1 r2 => hrel r1 rT r2⟩⟩
    obtain ⟨k, e1, e2⟩ := h T kV doc pm an cdv ct us its ws l1 rT.length.symm l2
    refine BindsTo.of_looks fun M => ?_
    rw [e1]
    exact looks_items X lT oT (.of_pure e2)
end
section
variable {X : Cx} {wx : WT} {pos : Pos} {k n : Nat} {f : Addr} {fd : FuncData} {ps ks : List Str} {F : FF} {x : Str} {p : Pos} {e : Expr} {es : List Expr} {kws : List Keyword} {Fs Fk : FA} {dvs : List V} {dts : List T}
theorem PK.imp {t t' : TA} (h : PK X kws t) (i : ∀ σ H Q, t' σ H Q → t σ H Q) : PK X kws t' := ⟨fun pos pins s σ H Q I q => h.run pos pins s σ H Q I (i σ H Q q)⟩
end
abbrev shF {α : Type} (a _d _z : List α) : List α := a
abbrev shO {α : Type} (a d _z : List α) : List α := a ++ d
abbrev shK {α : Type} (a _d z : List α) : List α := a ++ z
inductive DV (K : PySem.W.Frag) : T → V → Value → Prop where
  | non : DV K .non .non .none
  | bl (b : Bool) : DV K (.bl b) (.bl b) (.bool b)
  | tup0 {a : Addr} {od : Option Addr} {n : Nat} {osl : Array (Option Value)} (l : K.lookup a = some ⟨.type "tuple", od, .seq #[] n, osl⟩) : DV K (.tup []) (.ref a) (.ref a)
theorem DV.rel {K : PySem.W.Frag} {t : T} {v : V} {u : Value} (d : DV K t v u) (H : Hp) (μ : Mu) : Rels K H μ [t] [v] := by
  simp only [Rels]
  refine ⟨v, [], rfl, ?_, rfl⟩
  cases d with
  | non => simp only [Rel]
  | bl b => simp only [Rel]
  | tup0 l =>
    simp only [Rel]
    exact ⟨_, [], rfl, .inr ⟨_, #[], _, l, rfl, rfl, Nat.zero_le _, .nil⟩, by simp only [Rels]⟩
theorem DV.val {K : PySem.W.Frag} {t : T} {v : V} {u : Value} (d : DV K t v u) : Vals [v] [u] := by
  refine .cons ?_ .nil
  cases d <;> rfl
def FnInD (K : PySem.W.Frag) (x : Str) (st : Stmt) (t : T) : Prop :=
  ∃ (f T : Addr) (oc kV doc pm cdv ct oc2 u : Value) (od an od2 : Option Addr) (osl osl2 : Array (Option Value)) (n : Nat) (v : V), PySem.W.nsIn K mainGlobals x = some (some (.ref f)) ∧
    K.lookup f = some ⟨oc, od, .func (PySem.W.fnOf x x (defArgs st) (defBody st) (defScope st) (.ref T) kV doc pm an cdv ct), osl⟩ ∧ PySem.W.codeIn K cdv x = true ∧ PySem.W.keepIn K (.ref f) = true ∧ K.lookup T = some ⟨oc2, od2, .seq #[u] n, osl2⟩ ∧ DV K t v u
structure GdD (K : PySem.W.Frag) (mg : Str → Option Value) (x : Str) (ps : List Str) (t : T) (v : V) (f : Addr) (fd : FuncData) : Prop where
  m : mg x = some (.ref f)
  kp : PySem.W.keepIn K (.ref f) = true
  dv : ∀ H μ, Rels K H μ [t] [v]
  sF : Sh K fd ps [v] ps.length [] shF
  sO : Sh K fd ps [v] (ps.length - 1) [] shO
  sK : Sh K fd ps [v] (ps.length - 1) [ps.getLastD ""] shK
section
variable {K : PySem.W.Frag} {x : Str} {st : Stmt} {h : Heap} {mg : Str → Option Value} {ps : List Str} {t : T}
def BdD (x : Str) (st : Stmt) (ps : List Str) (n : Nat) (ks : List Str) (g : List Value → List Value → List Value → List Value) : Prop :=
  ∀ (T : Addr) (kV doc pm : Value) (an : Option Addr) (cdv ct : Value) (us its ws : List Value), us.length = n → its.length = 1 → ws.length = ks.length →
      ∃ k, bindArgs (PySem.W.fnOf x x (defArgs st) (defBody st) (defScope st) (.ref T) kV doc pm an cdv ct) ⟨us, ks.zip ws⟩ = seqItems? (.ref T) >>= k ∧ k (some its.toArray) = pure (ps.zip (g us its ws))
theorem FnInD.gd (e : FnInD K x st t) (X : K.In h) (G : h.Ns mainGlobals mg) (b1 : BdD x st ps ps.length [] shF) (b2 : BdD x st ps (ps.length - 1) [] shO) (b3 : BdD x st ps (ps.length - 1) [ps.getLastD ""] shK) :
    ∃ f fd v, FunD K x x (defArgs st) (defBody st) (defScope st) [v] [] f fd ∧ GdD K mg x ps t v f fd := by
  obtain ⟨f, T, oc, kV, doc, pm, cdv, ct, oc2, u, od, an, od2, osl, osl2, n, v, a, l, c, k, lt, d⟩ := e
  have F : FunD K x x (defArgs st) (defBody st) (defScope st) [v] [] f (PySem.W.fnOf x x (defArgs st) (defBody st) (defScope st) (.ref T) kV doc pm an cdv ct) :=
    ⟨⟨oc, od, .ref T, kV, doc, pm, an, cdv, ct, osl, rfl, l, c, .inr ⟨by simp, T, _, [u], n, rfl, lt, rfl, d.val⟩, .inl rfl⟩, k⟩
  exact ⟨f, _, v, F, PySem.W.mg_of X G a, k, d.rel, sh_mk F _ [] shF (by simp) (fun r _ _ => r) b1, sh_mk F _ [] shO (by simp) (fun r r2 _ => r.append r2) b2, sh_mk F _ _ shK (by simp) (fun r _ r2 => r.append r2) b3⟩
end
section
variable {X : Cx} {wx : WT} {pos : Pos} {k n : Nat} {f : Addr} {fd : FuncData} {ps ks : List Str} {F : FF} {x : Str} {p : Pos} {e : Expr} {es : List Expr} {kws : List Keyword} {Fs Fk : FA} {v : V} {t : T}
end
end TL
set_option Elab.async false
set_option linter.all false
set_option maxRecDepth 100000
namespace TL
open PySem PySem.Spec L2
open PyProof.Rows hiding St
section
variable {X : Cx} {wx : WT} {pos p p2 pos2 : Pos} {e : Expr} {F : FE}
end
end TL
set_option Elab.async false
set_option linter.all false
set_option maxRecDepth 100000
namespace TL
open PySem PySem.Spec L2
open PyProof.Rows hiding St
variable {X : Cx}
end TL
set_option Elab.async false
set_option linter.all false
set_option maxRecDepth 100000
namespace TL
open PySem PySem.Spec L2
open PyProof.Rows hiding St
variable {X : Cx} {wx : WT} {pos : Pos} {K : PySem.W.Frag}
end TL
set_option Elab.async false
set_option linter.all false
set_option maxRecDepth 100000
namespace TL
open PySem PySem.Spec L2
open PyProof.Rows hiding St
section
variable {X : Cx} {K : PySem.W.Frag} {H : Hp} {μ : Mu} {S : Sto}
end
end TL
set_option Elab.async false
set_option linter.all false
set_option maxRecDepth 100000
namespace HTR
open PySem PySem.W PySem.Calls PyProof.Rows PyProof.V PySem.Spec HT
section
variable {prog : Program} {w : World} {A : Around} {E : Value → Shared → Prop} {s : Shared}
theorem adjust_back (n : Nat) : Builtin.Slice.sliceAdjust none none (-1) (n : Int) = ((n : Int) - 1, -1) := by
  unfold Builtin.Slice.sliceAdjust
  simp
theorem places_back (n : Nat) : Builtin.Slice.slicePlaces ((n : Int) - 1) (-1) (-1) = n := by
  unfold Builtin.Slice.slicePlaces
  simp only [show ¬ ((-1 : Int) > 0) by decide, if_false, Int.neg_neg, Int.ediv_one]
  split <;> omega
theorem sliceApplied_back {sl : Addr} {vk : Value} {n : Nat} {Q : Int × Int × Nat → Shared → Prop} (hs : s.heap.IsSliceOf sl .none .none vk) (pk : IsPart vk (some (-1)))
    (h : Q ((n : Int) - 1, -1, n) s) : wpAny (model prog w) A (Builtin.Slice.sliceApplied (.ref sl) (pure (n : Int))) Q E s := by
  obtain ⟨os, hos, hcs, hds⟩ := id hs
  unfold Builtin.Slice.sliceApplied Builtin.Slice.sliceFields
  refine wpAny_bind (wpAny_bind (wpAny_field hos hds (x := .none) rfl (wpAny_bind (wpAny_field hos hds (x := .none) rfl (wpAny_bind (wpAny_field hos hds (x := vk) rfl (wpAny_pure ?_)))))))
  refine wpAny_bind (slicePart_ pk ?_)
  show wpAny _ _ (if ((-1 : Int) == 0) = true then _ else _) _ _ s
  rw [if_neg (by decide)]
  refine wpAny_bind (slicePart_none (wpAny_bind (slicePart_none (wpAny_bind (wpAny_pure ?_)))))
  show wpAny _ _ (match Builtin.Slice.sliceAdjust none none (-1) (n : Int) with | (lo, hi) => pure (lo, (-1 : Int), Builtin.Slice.slicePlaces lo hi (-1))) _ _ s
  rw [adjust_back n]
  show wpAny _ _ (pure ((n : Int) - 1, (-1 : Int), Builtin.Slice.slicePlaces ((n : Int) - 1) (-1) (-1))) _ _ s
  rw [places_back]
  exact wpAny_pure h
theorem fm_congr {α β : Type} {f g : α → Option β} : ∀ {l : List α}, (∀ x ∈ l, f x = g x) → l.filterMap f = l.filterMap g
  | [], _ => rfl
  | x :: l, h => by
    rw [List.filterMap_cons, List.filterMap_cons, h x List.mem_cons_self, fm_congr fun y hy => h y (List.mem_cons_of_mem _ hy)]
theorem pick_back (xs : Array Value) : ((List.range xs.size).filterMap fun (m : Nat) => xs[((xs.size : Int) - 1 + (m : Int) * (-1)).toNat]?).toArray = xs.toList.reverse.toArray := by
  have e : ∀ m ∈ List.range xs.size, xs[((xs.size : Int) - 1 + (m : Int) * (-1)).toNat]? = (fun k => xs[k]?) (xs.size - 1 - m) := fun m hm => by
    have hm := List.mem_range.mp hm
    have : ((xs.size : Int) - 1 + (m : Int) * (-1)).toNat = xs.size - 1 - m := by omega
    rw [this]
  have e2 : ((List.range xs.size).filterMap fun (m : Nat) => xs[((xs.size : Int) - 1 + (m : Int) * (-1)).toNat]?) = ((List.range xs.size).map fun m => xs.size - 1 - m).filterMap (xs[·]?) := by
    rw [List.filterMap_map]
    exact fm_congr e
  rw [e2, krv_range, List.filterMap_reverse, krv_all]
theorem getItem_tuple_back {t sl : Addr} {items : Array Value} {vk : Value} {Q : Value → Shared → Prop} (ht : IsTup s.heap t items) (hs : s.heap.IsSliceOf sl .none .none vk) (pk : IsPart vk (some (-1)))
    (h : Q (.ref s.heap.objs.size) { s with heap := s.heap.push { cls := .type "tuple", data := .seq items.toList.reverse.toArray } })
    (hsz : items.size ≤ sizeLine) : wpAny (model prog w) A (getItem (.ref t) (.ref sl)) Q E s := by
  have htake : sizeOk (.seq items.toList.reverse.toArray) := by
    show items.toList.reverse.toArray.size ≤ sizeLine
    rw [List.size_toArray, List.length_reverse, Array.length_toList]
    exact hsz
  obtain ⟨os, hos, hcs, hds⟩ := id hs
  have hTs : s.TypeIs (.ref sl) "slice" := ⟨os, hos, hcs⟩
  unfold getItem
  try with_reducible refine wpAny_holding ?_
  first | refine wpAny_bind (wpAny_pure ?_) | skip
  refine wpAny_bind (wpAny_sequenceKey ht.typeIs (by decide) ?_)
  refine wpAny_bind (wpAny_callSpecial?_slot (name := Str.ofString "__getitem__") ht.typeIs PyProof.Rows.slot_tuple_getitem
    (wpAny_call_entry PyProof.Rows.slot_tuple_getitem ht.typeIs entry_tuple_getitem ?_ (args_tuple_getitem _ _)))
  show wpAny _ _ (Builtin.Tuple.tupleItemsOf (.ref t) >>= _) _ _ s
  refine wpAny_bind (tupleItemsOf_ ht ?_)
  refine wpAny_bind (wpAny_typeOf hTs ?_)
  rw [if_pos (by decide)]
  refine wpAny_bind (sliceApplied_back hs pk ?_)
  have hno : ¬ ((((items.size : Int) - 1) == 0 && (-1 : Int) == 1 && items.size == items.size) = true) := by
    intro q
    rw [Bool.and_eq_true, Bool.and_eq_true] at q
    exact absurd q.1.2 (by decide)
  show wpAny _ _ (if (((items.size : Int) - 1) == 0 && (-1 : Int) == 1 && items.size == items.size) = true then _ else _) _ _ s
  rw [if_neg hno, pick_back]
  first
    | exact wpAny_bind (m := Builtin.Tuple.tupleExact _) (wpAny_newObj_type (wpAny_pure ⟨_, rfl, wpAny_pure h⟩) htake)
    | exact wpAny_bind (m := Builtin.Tuple.tupleExact _) (wpAny_newObj_type (wpAny_bind (wpAny_pure (wpAny_pure ⟨_, rfl, wpAny_pure h⟩))) htake)
    | exact wpAny_bind (wpAny_bind (m := Builtin.Tuple.tupleExact _) (wpAny_newObj_type (wpAny_pure (wpAny_pure ⟨_, rfl, wpAny_pure h⟩)) htake))
    | exact wpAny_bind (wpAny_bind (m := Builtin.Tuple.tupleExact _) (wpAny_newObj_type (wpAny_pure ⟨_, rfl, wpAny_pure h⟩) htake))
end
end HTR
namespace TL
open PySem PySem.Spec L2
open PyProof.Rows hiding St
section
variable {X : Cx} {wx : WT} {pos p2 : Pos} {K : PySem.W.Frag} {H : Hp} {μ : Mu}
theorem Vals.reverse {xs : List V} {us : List Value} (r : Vals xs us) : Vals xs.reverse us.reverse := by
  unfold Vals at r ⊢
  induction r with
  | nil => exact .nil
  | cons h t ih =>
    rw [List.reverse_cons, List.reverse_cons]
    exact L2.Vals.append ih (.cons h .nil)
theorem Rels.reverse : ∀ {ts : List T} {vs : List V}, Rels K H μ ts vs → Rels K H μ ts.reverse vs.reverse
  | [], _, r => by simp only [Rels] at r; subst r; simp only [List.reverse_nil, Rels]
  | t :: ts, _, r => by
    simp only [Rels] at r
    obtain ⟨v, r', rfl, h1, h2⟩ := r
    rw [List.reverse_cons, List.reverse_cons]
    exact Rels.append (Rels.reverse h2) (by simp only [Rels]; exact ⟨v, [], rfl, h1, rfl⟩)
def revT (S : Sto) (x : T) : Option T := match x with
  | .tup ts => some (.tup ts.reverse)
  | x => (seqL S x).map fun ts => .lst ts.reverse
def fRev (F Fk : FE) : FE := fun τ S => (F τ S).bind fun x S1 => (Fk τ S1).bind fun k S2 => match k with
  | .int i => if i = -1 then ofO (revT S2 x) S2 else .stuck
  | _ => .stuck
def rRev (K : PySem.W.Frag) : V → Hp → VK → Prop := fun x H Q => ∃ a xs, x = .ref a ∧ ((SqT K H a xs ∧ ∀ p, H p = none → Q (.ref p) (upd H p (.tup xs.reverse))) ∨ (SqL K H a xs ∧ ∀ p, H p = none → Q (.ref p) (upd H p (.lst xs.reverse))))
def tRev (K : PySem.W.Frag) (te tk : TE) : TE := fun σ H Q => te σ H fun x H1 => tk σ H1 fun k H2 => k = .int (-1) ∧ rRev K x H2 Q
theorem pe_rev {a k : Expr} {te tk : TE} (he : PE X a te) (hk : PE X k tk) (hsub : ∀ (v : Value) (b : Addr), ∃ ops, subscripted (.Slice none none (some k) p2) false v (.ref b) = operate ops (getItem v (.ref b))) : PE X (.Subscript a (.Slice none none (some k) p2) pos) (tRev X.K te tk) := by
  refine ⟨fun pins s σ H Q I h => ?_⟩
  refine Subscript_ (thn (he.run pins s σ H _ I h) fun v s1 ⟨x, H1, I1, r1, q1⟩ => ?_)
  refine wpAny_Slice ?_
  rw [evalPart_none]
  refine wpAny_pure ?_
  refine wpAny_pure ?_
  rw [evalPart_some]
  refine thn (hk.run pins s1 σ H1 _ I1 q1) fun vk s3 ⟨y, H3, I3, rk, ek, q3⟩ => ?_
  subst ek
  obtain ⟨tk, rfl⟩ : ∃ t, vk = Value.int (-1) t := rk
  have pk : IsPart (Value.int (-1) tk) (some (-1)) := IsPart.int _ _
  have I4 : Inv X pins σ H3 { s3 with heap := s3.heap.push { cls := .type "slice", data := .fields #[.none, .none, .int (-1) tk] } } := I3.kept (t' := s3.toks) fun b ob q => Heap.get?_push_of_some _ q
  have hs : ({ s3 with heap := s3.heap.push { cls := .type "slice", data := .fields #[.none, .none, .int (-1) tk] } } : Shared).heap.IsSliceOf s3.heap.objs.size .none .none (.int (-1) tk) := Heap.IsSliceOf.new ..
  obtain ⟨a0, xs, rfl, q3⟩ := q3
  cases r1
  obtain ⟨ops, hops⟩ := hsub (.ref a0) s3.heap.objs.size
  rcases q3 with ⟨hx, q3⟩ | ⟨hx, q3⟩
  · obtain ⟨its, r, ht, hz⟩ := I4.tuple hx
    show wpAny (model X.prog X.w) X.A (subscriptTail a (.Slice none none (some k) p2) (.ref a0) (.ref s3.heap.objs.size)) (EP X pins σ Q) X.xe _
    refine tail_any (ops := ops) ht.typeIs PyProof.Rows.slot_tuple_getitem.lookup (HTR.getItem_tuple_back ht hs pk ?_ (by rw [List.size_toArray, ← r.length]; exact hz)) hops
    refine ⟨.ref _, _, I4.laid (t' := s3.toks) (o := .tup xs.reverse) (fun b ob q => Heap.get?_push_of_some _ q) (Nat.le_refl _) ?_, rfl, q3 _ (I4.hok.fresh (Nat.le_refl _))⟩
    exact ⟨by rw [List.length_reverse]; exact hz, _, Vals.reverse r, IsTup.new _ _⟩
  · obtain ⟨its, r, ht, hz⟩ := I4.list hx
    show wpAny (model X.prog X.w) X.A (subscriptTail a (.Slice none none (some k) p2) (.ref a0) (.ref s3.heap.objs.size)) (EP X pins σ Q) X.xe _
    refine tail_any (ops := ops) ht.isList.typeIs slot_list_getitem.lookup (wpAny_getItem_list_slice ht.isList hs .none .none pk (by decide) ?_ (by rw [List.size_toArray, ← r.length]; exact hz)) hops
    rw [PySem.W.krv_pick]
    refine ⟨.ref _, _, I4.laid (t' := s3.toks) (o := .lst xs.reverse) (fun b ob q => Heap.get?_push_of_some _ q) (Nat.le_refl _) ?_, rfl, q3 _ (I4.hok.fresh (Nat.le_refl _))⟩
    exact ⟨by rw [List.length_reverse]; exact hz, _, 0, Vals.reverse r, Heap.get?_push_size _ rfl⟩
theorem pf_rev {a k : Expr} {Fa Fk : FE} (ha : PF X wx a Fa) (hk : PF X wx k Fk) (hsub : ∀ (v : Value) (b : Addr), ∃ ops, subscripted (.Slice none none (some k) p2) false v (.ref b) = operate ops (getItem v (.ref b)) := by intro _ _; exact ⟨_, by with_unfolding_all rfl⟩) : PF X wx (.Subscript a (.Slice none none (some k) p2) pos) (fRev Fa Fk) := PE.imp (pe_rev ha hk hsub) fun σ H Q h => by
  obtain ⟨μ, τ, S, s, f, h⟩ := h
  refine tG.seq s f h fun μ1 H1 x v S1 A1 h1 => tG.seq A1.st A1.fr h1 fun μ2 H2 y u S2 A2 h2 => ?_
  cases y with
  | int i =>
    simp only at h2
    split at h2
    · rename_i hi
      subst hi
      have r2 := A2.rel
      simp only [Rel] at r2
      obtain ⟨t, e, q⟩ := post_ofO h2 A2.st
      have r1 := Rel.mono A2.ext x A1.rel
      refine ⟨r2, ?_⟩
      unfold revT at e
      split at e
      · cases e
        obtain ⟨b, vs, rfl, hb, r⟩ := tup_ok r1
        exact ⟨b, vs, rfl, .inl ⟨hb, fun p hp => q _ _ (fresh_same hp) (rel_tup A2.st hp (Rels.reverse r))⟩⟩
      · simp only [Option.map_eq_some_iff] at e
        obtain ⟨ts, h, rfl⟩ := e
        obtain ⟨b, vs, rfl, hb, r⟩ := seqL_ok h A2.st r1
        exact ⟨b, vs, rfl, .inr ⟨hb, fun p hp => q _ _ (fresh_same hp) (rel_lst A2.st hp (Rels.reverse r))⟩⟩
    · exact h2.elim
  | _ => exact h2.elim
end
end TL
set_option Elab.async false
set_option linter.all false
set_option maxRecDepth 100000
namespace TL
open PySem PySem.Spec L2
open PyProof.Rows hiding St
section
variable {X : Cx} {wx : WT} {pos : Pos} {a b : Expr} {Fa Fb : FE}
end
end TL
set_option Elab.async false
set_option linter.all false
set_option maxRecDepth 100000
set_option maxHeartbeats 2000000
namespace TL
open PySem PySem.Spec L2
open PyProof.Rows hiding St
def getD3 (S : Sto) (d k x : T) : Option T := match dctT S d with
  | some (ks, ts) => match keyT k with
    | some k => some ((getK ks ts k).getD x)
    | none => none
  | none => none
def okT (o : Option T) (S : Sto) : Res T := match o with
  | some t => .ok t S
  | none => .stuck
def dOk (S : Sto) (d : T) (k : Res T) : Res T := match dctT S d with
  | some _ => k
  | none => .stuck
def fGet (F G D : FE) : FE := fun τ S => (F τ S).bind fun d S1 => dOk S1 d ((G τ S1).bind fun k S2 => (D τ S2).bind fun x S3 => okT (getD3 S3 d k x) S3)
section
variable {X : Cx} {wx : WT}
theorem pf_get {o e f : Expr} {Fo Fe Ff : FE} {apos cpos : Pos} (hu : X.A.units + 64 < cLine) (ho : PF X wx o Fo) (he : PF X wx e Fe) (hf : PF X wx f Ff) (hbase : attributeBase o "get" X.env (eval o X.env) = eval o X.env := by rfl)
    (hfew : ((backTo cpos (starEach [e, f] X.env)).all (fun x => !x.1) && (backToKw cpos (keywordEach [] X.env)).all (fun x => x.1.isSome) && decide (([e, f] : List Expr).length + ([] : List Keyword).length + (if ([] : List Keyword).isEmpty then 0 else 1) < 30)) = true := by rfl)
    (hline : (apos.endLine == cpos.line) = true := by rfl) (htr : backTo cpos (starEach [e, f] X.env) = [(false, eval e X.env), (false, eval f X.env)] := by rfl) :
    PF X wx (.Call (.Attribute o "get" apos) [e, f] [] cpos) (fGet Fo Fe Ff) := PE.imp (pe_dget2 (by omega) ho he hf ⟨hbase, hfew, hline, htr⟩) fun σ H Q h => by
  obtain ⟨μ, τ, S, s, f, h⟩ := h
  refine tG.seq s f h fun μ1 H1 d v S1 A1 h1 => ?_
  unfold dOk at h1
  cases e1 : dctT S1 d with
  | none => rw [e1] at h1; exact h1.elim
  | some kt =>
    obtain ⟨ks, ts⟩ := kt
    rw [e1] at h1
    obtain ⟨a, kvs, rfl, ha, ek, rk⟩ := dctT_ok e1 A1.st A1.rel
    refine ⟨a, rfl, .inl ⟨kvs, .inl ha⟩, tG.seq A1.st A1.fr h1 fun μ2 H2 k v2 S2 A2 h2 => tG.seq A2.st A2.fr h2 fun μ3 H3 x v3 S3 A3 h3 => ?_⟩
    have rd : Rel X.K H3 μ3 d (.ref a) := Rel.mono A3.ext _ (Rel.mono A2.ext _ A1.rel)
    have rk2 : Rel X.K H3 μ3 k v2 := Rel.mono A3.ext _ A2.rel
    unfold getD3 at h3
    cases e3 : dctT S3 d with
    | none => simp only [e3] at h3; exact h3.elim
    | some kt =>
      obtain ⟨ks3, ts3⟩ := kt
      simp only [e3] at h3
      obtain ⟨a', kvs3, ea, ha3, ek3, rk3⟩ := dctT_ok e3 A3.st rd
      cases ea
      cases e4 : keyT k with
      | none => simp only [e4] at h3; exact h3.elim
      | some k' =>
        simp only [e4] at h3
        have := keyT_ok e4 rk2
        subst this
        refine ⟨valV kvs3 k', DGet.k ha3, ?_⟩
        cases g : getK ks3 ts3 k' with
        | none =>
          rw [getK_none ek3 rk3 g]
          rw [g] at h3
          exact h3 μ3 _ H3 (Ext.refl _ _) A3.st A3.rel
        | some t =>
          obtain ⟨w, e5, r5⟩ := getK_ok ek3 rk3 g
          rw [e5]
          rw [g] at h3
          exact h3 μ3 _ H3 (Ext.refl _ _) A3.st r5
end
def IsK (h : Heap) (v : Value) (k : Str) : Prop := ∃ a t x, v = .ref a ∧ h.get? a = some { cls := .type "tuple", data := .seq #[.str k t, x] }
def kAt (h : Heap) (v : Value) : Str := match v with
  | .ref a => match h.get? a with
    | some o => match o.data with
      | .seq its _ => strOf (its.toList.headD .none)
      | _ => ⟨#[]⟩
    | none => ⟨#[]⟩
  | _ => ⟨#[]⟩
theorem IsK.at {h : Heap} {v : Value} {k : Str} (r : IsK h v k) : kAt h v = k := by
  obtain ⟨a, t, x, rfl, ho⟩ := r
  simp only [kAt, ho]
  rfl
theorem IsK.keeps {h h' : Heap} {v : Value} {k : Str} (r : IsK h v k) (q : ∀ b o, h.get? b = some o → o.cls = .type "tuple" → h'.get? b = some o) : IsK h' v k := by
  obtain ⟨a, t, x, rfl, ho⟩ := r
  exact ⟨a, t, x, rfl, q _ _ ho rfl⟩
section
variable {prog : Program} {w : World} {A : Around} {E : Value → Shared → Prop} {s : Shared}
end
section
variable {X : Cx} {wx : WT} {pos : Pos}
end
end TL
set_option Elab.async false
set_option linter.all false
set_option maxRecDepth 100000
set_option maxHeartbeats 2000000
namespace TL
open PySem PySem.Spec L2
open PyProof.Rows hiding St
section
variable {P : Program} {w : World} {A : Around} {R : Result → Shared → Prop} {s : Shared} {y a i b j : Expr} {ca cb : List Expr} {sc : Scope} {p : Pos} {it D : Value} {ev0 : Env}
end
open PySem.Froz (SD sObj TxOk addTx tailTx)
section
variable {X : Cx}
end
section
variable {X : Cx} {wx : WT} {tg a : Expr} {Fa : FE}
end
section
variable {X : Cx} {wx : WT} {pos : Pos}
end
end TL
set_option Elab.async false
set_option linter.all false
set_option maxRecDepth 100000
set_option maxHeartbeats 2000000
namespace TL
open PySem PySem.Spec L2
open PyProof.Rows hiding St
end TL
set_option Elab.async false
set_option linter.all false
set_option maxRecDepth 100000
set_option maxHeartbeats 2000000
namespace TL
open PySem PySem.Spec L2
open PyProof.Rows hiding St
section
variable {K : PySem.W.Frag} {H : Hp} {μ : Mu}
end
end TL
set_option Elab.async false
set_option linter.all false
set_option maxRecDepth 100000
set_option maxHeartbeats 2000000
namespace TL
open PySem PySem.Spec L2
open PyProof.Rows hiding St
def keysT : List T → Option (List Key)
  | [] => some []
  | t :: ts => (keyT t).bind fun k => (keysT ts).map fun r => k :: r
section
variable {K : PySem.W.Frag} {H : Hp} {μ : Mu} {S : Sto}
end
section
variable {X : Cx}
def fTupE (Fs : FA) : FE := fun τ S => (Fs τ S).bind fun ts S1 => if ts.length ≤ sizeLine then .ok (.etp ts) S1 else .stuck
end
end TL
set_option Elab.async false
set_option linter.all false
set_option maxRecDepth 100000
set_option maxHeartbeats 2000000
namespace TL
open PySem PySem.Spec L2
open PyProof.Rows hiding St
section
variable {prog : Program} {w : World} {A : Around} {E : Value → Shared → Prop} {s : Shared}
end
def ok0 : List (List Str) → Bool
  | [] :: _ => true
  | ls => okRows ls
section
variable {X : Cx} {wx : WT} {a b : Expr} {Fa Fb : FE} {pos : Pos}
end
section
variable {X : Cx} {wx : WT} {K : PySem.W.Frag} {H : Hp} {μ : Mu}
end
end TL
set_option Elab.async false
set_option linter.all false
set_option maxRecDepth 100000
set_option maxHeartbeats 2000000
namespace TL
open PySem PySem.Spec L2
open PyProof.Rows hiding St
section
variable {prog : Program} {w : World} {A : Around} {E : Value → Shared → Prop} {s : Shared}
end
end TL
set_option Elab.async false
set_option linter.all false
set_option maxRecDepth 100000
set_option maxHeartbeats 2000000
namespace TL
open PySem PySem.Spec L2
open PyProof.Rows hiding St
section
variable {X : Cx} {wx : WT} {a : Expr} {Fa : FE} {pos : Pos}
end
end TL
set_option Elab.async false
set_option linter.all false
set_option maxRecDepth 100000
namespace TL
open PySem PySem.Spec L2
open PyProof.Rows hiding St
section
variable {K : PySem.W.Frag} {H : Hp} {μ : Mu} {S : Sto}
end
def putKK (ks : List (List Key)) (ts : List T) (k : List Key) (t : T) : List (List Key) × List T :=
  if ks.any (fun a => decide (a = k)) then (ks, List.zipWith (fun a u => if a = k then t else u) ks ts) else (ks ++ [k], ts ++ [t])
section
variable {X : Cx} {wx : WT} {pos : Pos}
def setCT (S : Sto) (o i v : T) : Option Sto := match o, i with
  | .ref n, .etp us => match S[n]? with
    | some (.kdc ks ts) => (keysT us).bind fun k => if ks.length < sizeLine then some (S.set n (.kdc (putKK ks ts k v).1 (putKK ks ts k v).2)) else none
    | _ => none
  | _, _ => none
variable {a b : Expr} {Fa Fb : FE}
end
end TL
set_option Elab.async false
set_option linter.all false
set_option maxRecDepth 100000
namespace TL
open PySem PySem.Spec L2
open PyProof.Rows hiding St
section
variable {prog : Program} {w : World} {A : Around} {E : Value → Shared → Prop} {s : Shared}
end
section
variable {X : Cx} {wx : WT} {pos : Pos}
end
end TL
set_option Elab.async false
set_option linter.all false
set_option maxRecDepth 100000
set_option maxHeartbeats 2000000
namespace TL
open PySem PySem.Spec L2
open PyProof.Rows hiding St
section
variable {X : Cx} {wx : WT} {K : PySem.W.Frag} {H : Hp} {μ : Mu}
end
end TL
set_option Elab.async false
set_option linter.all false
set_option maxRecDepth 100000
set_option maxHeartbeats 2000000
namespace TL
open PySem PySem.Spec L2
open PyProof.Rows hiding St
def ErrR (K : PySem.W.Frag) (_mg : Str → Option Value) (H : Hp) (μ : Mu) (x : XT) (cls : Value) (d : Option Addr) : Prop :=
  ∃ (C : Addr) (vs : List V), cls = .ref C ∧ PySem.W.nsIn K mainGlobals x.1 = some (some (.ref C)) ∧ ErF H μ d (x.2.map (·.1)) vs ∧ Rels K H μ (x.2.map (·.2)) vs
def xWE (K : PySem.W.Frag) (mg : Str → Option Value) (E : XK) : XW := fun x μ _ H => ∀ cls d, ErrR K mg H μ x cls d → E cls d H
def WXo (X : Cx) (wx : WT) : WX := fun cls d σ H => ∃ x μ τ S, RelS X.K H μ S ∧ RelF X.K H μ τ σ ∧ ErrR X.K X.mg H μ x cls d ∧ wx x μ τ S σ H
def spX (K : PySem.W.Frag) (mg : Str → Option Value) (F : FF) : Sp := fun vs H Q E => ∃ μ S ts, RelS K H μ S ∧ Rels K H μ ts vs ∧ post K (xWE K mg E) (rV K) μ H (F ts S) Q
structure Dx (P : Program) (w : World) (K : PySem.W.Frag) (mg : Str → Option Value) (base : Heap) (k : Nat) (f : Addr) (fd : FuncData) (ps : List Str) (F : FF) : Prop where
  arity : ∀ ts S, ts.length ≠ ps.length → F ts S = .stuck
  go : ∀ (A : Around) (fs : List Env) (s : Shared) (H : Hp) (given : Args) (us : List Value) (vs : List V) (Q : VK) (E : XK), Room k A → A.guards = some [] → Env0 P w K mg base A fs s H →
    BindsTo s fd given (ps.zip us) → Vals vs us → spX K mg F vs H Q E → codeAny (model P w) A (.call (.ref f) given) (CR (CX P w) fs P w H s Q E) s
theorem Dx.mono {P : Program} {w : World} {K : PySem.W.Frag} {mg : Str → Option Value} {base : Heap} {j k : Nat} {f : Addr} {fd : FuncData} {ps : List Str} {F : FF} (D : Dx P w K mg base j f fd ps F) (h : j ≤ k) : Dx P w K mg base k f fd ps F :=
  ⟨D.arity, fun A fs s H given us vs Q E r => D.go A fs s H given us vs Q E (r.mono h)⟩
theorem spX_len {P : Program} {w : World} {K : PySem.W.Frag} {mg : Str → Option Value} {base : Heap} {k : Nat} {f : Addr} {fd : FuncData} {ps : List Str} {F : FF} (D : Dx P w K mg base k f fd ps F) {vs : List V} {H : Hp} {Q : VK} {E : XK} (h : spX K mg F vs H Q E) : vs.length = ps.length := by
  obtain ⟨μ, S, ts, _, r, h⟩ := h
  rw [← r.length]
  by_cases e : ts.length = ps.length
  · exact e
  · rw [D.arity ts S e] at h
    exact h.elim
theorem Dx.call {X : Cx} {wx : WT} (tk : Takes X (WXo X wx)) {k : Nat} {f : Addr} {fd : FuncData} {ps : List Str} {F : FF} (D : Dx X.prog X.w X.K X.mg X.base k f fd ps F) (hr : Room k X.A) (hgd : X.A.guards = some []) (hb : L2.Binds X.K fd ps []) {pins : List (Addr × Obj)} {σ : L2.St} {H : Hp} {s : Shared} {Q : VK} {us : List Value} {vs : List V}
    (I : L2.Inv X pins σ H s) (r : Vals vs us) (h : spX X.K X.mg F vs H Q fun cls d H' => WXo X wx cls d σ H') : wpAny (model X.prog X.w) X.A (call (.ref f) us) (EP X pins σ Q) X.xe s := by
  have n : (us ++ []).length = ps.length := by
    rw [List.append_nil, ← r.length]
    exact spX_len D h
  have bd := hb s us I.kIn n
  rw [List.append_nil] at bd
  refine wpAny_call (codeAny_mono (D.go X.A X.stack s H _ us vs Q _ hr hgd I.env0 bd r h) fun out s' hq => ?_)
  match out, hq with
  | .ok (.ret u), hq => exact I.after hq
  | .error e, hq => exact tk e s' (XE.of_call I (fun cls d H' z => z) hq)
def fCallX (F : FF) (Fs : FA) : FE := fun τ S => (Fs τ S).bind fun ts S1 => F ts S1
section
variable {X : Cx} {wx : WT} {pos : Pos} {k : Nat} {f : Addr} {fd : FuncData} {ps : List Str} {F : FF} {x : Str} {p : Pos} {e : Expr} {es : List Expr} {Fs : FA}
end
end TL
set_option Elab.async false
set_option linter.all false
set_option maxRecDepth 100000
set_option maxHeartbeats 2000000
namespace TL
open PySem PySem.Spec L2
open PyProof.Rows hiding St
open PySem.W (ksFn ksEnv KxsFacts)
structure ExI (P : Program) (K : PySem.W.Frag) (C fI : Addr) (qual y f : Str) (st : Stmt) : Prop where
  T : OexC K C
  iC : PySem.W.findIn K (.ref C) "__init__" = some (some (.ref fI))
  tI : PySem.W.typeIn K (.ref fI) = some (.type "function")
  fn : ∃ (oc : Value) (od : Option Addr) (osl : Array (Option Value)) (kV doc pm : Value) (an : Option Addr) (cda : Addr) (ct : Value) (cc : Addr) (ccl : Value) (cdd : Option Addr) (vs : Array Value) (ccs : Array (Option Value)) (file : Str) (tf : Tok) (cl : Value) (cld : Option Addr) (csl : Array (Option Value)) (cdD : ClassData),
    K.lookup fI = some ⟨oc, od, .func (ksFn "__init__" qual (defArgs st) (defBody st) (defScope st) .none kV doc pm an (.ref cda) ct cc), osl⟩ ∧ PySem.W.codeIn K (.ref cda) qual = true ∧
    K.lookup cda = some ⟨ccl, cdd, .fields vs, ccs⟩ ∧ vs[2]? = some (.str file tf) ∧ ((P.main.file : Str) == file) = true ∧ K.lookup cc = some ⟨cl, cld, .cell (some (.ref C)), csl⟩ ∧ PySem.W.clsIn K C = some cdD
  mro : PySem.W.mroIn K C (.ref C) = some true
  opq : PySem.W.nsIn K PySem.cStatics "thirdparty.any" = some none
  sup : PySem.W.ks_superIn K C C "__init__" = some (some (.builtin "ValueError.__init__"))
  sB : PySem.W.subIn K (.ref C) (.type "ValueError") = some true
  fno : PySem.W.findIn K (.ref C) f = some none
  ini : PySem.W.excInitIn K C [.type "ValueError", .type "Exception", .type "BaseException", .type "object"] "ValueError.__new__" = true
structure ExS (y f : Str) (st : Stmt) : Prop where
  body : ∃ (m : Str) (j : Nat) (p0 p1 p2 p3 p4 p5 p6 p7 p8 p9 : Pos), (p2.endLine == p4.line) = true ∧ defBody st = [.Expr (.Call (.Attribute (.Call (.Name "super" p0) [] [] p1) "__init__" p2) [.Constant (.str m) j p3] [] p4) p5, .Assign [.Attribute (.Name "self" p6) f p7] (.Name y p8) p9]
  bind : ∀ (qual : Str) (kV doc pm : Value) (an : Option Addr) (cdv ct : Value) (cc : Addr) (u v : Value), bindArgs (ksFn "__init__" qual (defArgs st) (defBody st) (defScope st) .none kV doc pm an cdv ct cc) ⟨[u, v], []⟩ = pure ([(("self" : Str), u), (y, v)] : List (Str × Value))
  head : ∃ ar, ((defArgs st).posonlyargs ++ (defArgs st).args).head? = some ar ∧ ar.arg = "self"
  kind : (defScope st).kind = .function
  co : (defScope st).isCoroutine = false
  gen : (defScope st).isGenerator = false
  cell : ∀ x ∈ (defScope st).names, x.2 ≠ .cell
  kSelf : (defScope st).names.lookup ("self" : Str) = some .local
  kY : (defScope st).names.lookup y = some .local
  kSuper : (defScope st).names.lookup ("super" : Str) = some .globalImplicit
  kClass : (defScope st).names.lookup ("__class__" : Str) = some .free
  ne : y ≠ ("self" : Str)
  nd : (y == ("__debug__" : Str)) = false
section
variable {P : Program} {w : World} {A : Around} {K : PySem.W.Frag} {mg : Str → Option Value} {base : Heap} {C fI a t0 : Addr} {qual y f : Str} {st : Stmt}
end
section
variable {X : Cx} {C fI : Addr} {qual y f x : Str} {st : Stmt} {p pos : Pos} {e : Expr} {te : TE}
end
end TL
set_option Elab.async false
set_option linter.all false
set_option maxRecDepth 100000
set_option maxHeartbeats 2000000
namespace TL
open PySem PySem.Spec L2
open PyProof.Rows hiding St
section
variable {X : Cx} {wx : WT} {C fI : Addr} {qual y f x m : Str} {st : Stmt} {p p2 pos pos' : Pos} {e : Expr} {F : FE} {j : Nat}
end
end TL
set_option Elab.async false
set_option linter.all false
set_option maxRecDepth 100000
set_option maxHeartbeats 2000000
namespace TL
open PySem PySem.Spec L2
open PyProof.Rows hiding St
structure Cl where
  c : Value
  i : Option Nat
  ts : TS
section
variable {X : Cx} {pins : List (Addr × Obj)} {σ : L2.St} {H : Hp} {s sI : Shared} {a : Addr} {oe : Obj} {vs : Array Value}
end
section
variable {X : Cx} {body : List Stmt} {h₀ : ExceptHandler} {hds : List ExceptHandler} {l : List Cl} {pos : Pos} {tb : WX → TS} {Wout : WX}
end
def RS.nox : RS → RS
  | .exc _ _ _ => .stuck
  | r => r
structure TCl where
  acc : List Str
  i : Option Nat
  B : BS
def ExM (K : PySem.W.Frag) (n : Str) (c : Value) (b : Bool) : Prop := ∃ C : Addr, PySem.W.nsIn K mainGlobals n = some (some (.ref C)) ∧ PySem.W.exmOne K (.ref C) c = some b
section
variable {X : Cx} {wx : WT} {body : List Stmt} {h₀ : ExceptHandler} {hds : List ExceptHandler} {kn : List Str} {l : List TCl} {pos : Pos} {B : BS}
end
def ExF (K : PySem.W.Frag) (n f : Str) : Prop := ∃ C : Addr, PySem.W.nsIn K mainGlobals n = some (some (.ref C)) ∧ XfC K C ∧ PySem.W.findIn K (.ref C) f = some none
def fldT (kn : List Str) (f : Str) (t : T) : Option T := match t with
  | .err x fs ts => if x ∈ kn then (fs.zip ts).lookup f else none
  | _ => none
def fFld (kn : List Str) (f : Str) (F : FE) : FE := fun τ S => (F τ S).bind fun t S1 => ofO (fldT kn f t) S1
section
variable {X : Cx} {wx : WT} {e : Expr} {F : FE} {f : Str} {kn : List Str} {pos : Pos}
end
end TL
set_option Elab.async false
set_option linter.all false
set_option maxRecDepth 100000
set_option maxHeartbeats 2000000
namespace TL
open PySem PySem.Spec L2
open PyProof.Rows hiding St
section
variable {P : Program} {w : World} {K : PySem.W.Frag} {mg : Str → Option Value} {base : Heap}
end
section
variable {X : Cx} {wx : WT} {pos : Pos} {k n : Nat} {f : Addr} {fd : FuncData} {ps ks : List Str} {F : FF} {x : Str} {p : Pos} {e : Expr} {es : List Expr} {kws : List Keyword} {Fs Fk : FA} {dvs : List V} {dts : List T}
end
section
variable {X : Cx} {wx : WT} {pos : Pos} {k n : Nat} {f : Addr} {fd : FuncData} {ps ks : List Str} {F : FF} {x : Str} {p : Pos} {e : Expr} {es : List Expr} {kws : List Keyword} {Fs Fk : FA} {v : V} {t : T}
end
def ExC (P : Program) (K : PySem.W.Frag) (mg : Str → Option Value) (x f : Str) : Prop := ∃ (C fI : Addr) (qual y : Str) (st : Stmt), ExI P K C fI qual y f st ∧ ExS y f st ∧ mg x = some (.ref C) ∧ PySem.W.nsIn K mainGlobals x = some (some (.ref C))
def ExC0 (K : PySem.W.Frag) (mg : Str → Option Value) (x : Str) : Prop := ∃ (C : Addr) (bmB : List Value) (B newId initId : String), ExcBaseFacts B newId initId bmB ∧ PySem.W.excIn K C bmB newId = true ∧ PySem.W.keepIn K (.ref C) = true ∧ PySem.W.subIn K (.ref C) (.type "BaseException") = some true ∧ PySem.W.typeIn K (.ref C) = some (.type "type") ∧ mg x = some (.ref C) ∧ PySem.W.nsIn K mainGlobals x = some (some (.ref C))
section
variable {X : Cx} {wx : WT} {x f m : Str} {p p2 pos pos' : Pos} {e : Expr} {F : FE} {j : Nat}
end
def ExCk (P : Program) (K : PySem.W.Frag) (x f : Str) : Prop := ∃ (C fI : Addr) (qual y : Str) (st : Stmt), ExI P K C fI qual y f st ∧ ExS y f st ∧ PySem.W.nsIn K mainGlobals x = some (some (.ref C))
def ExC0k (K : PySem.W.Frag) (x : Str) : Prop := ∃ C : Addr, PySem.W.excIn K C [.type "ValueError", .type "Exception", .type "BaseException", .type "object"] "ValueError.__new__" = true ∧ PySem.W.keepIn K (.ref C) = true ∧ PySem.W.subIn K (.ref C) (.type "BaseException") = some true ∧ PySem.W.typeIn K (.ref C) = some (.type "type") ∧ PySem.W.nsIn K mainGlobals x = some (some (.ref C))
section
variable {P : Program} {K : PySem.W.Frag} {mg : Str → Option Value} {h : Heap} {x f : Str}
theorem ExCk.to (X : K.In h) (G : h.Ns mainGlobals mg) (e : ExCk P K x f) : ExC P K mg x f := by
  obtain ⟨C, fI, qual, y, st, hI, hS, hn⟩ := e
  exact ⟨C, fI, qual, y, st, hI, hS, PySem.W.mg_of X G hn, hn⟩
theorem ExC0k.to (X : K.In h) (G : h.Ns mainGlobals mg) (e : ExC0k K x) : ExC0 K mg x := by
  obtain ⟨C, q, kC, sb, ty, hn⟩ := e
  exact ⟨C, _, _, _, _, PySem.F.excBase_ValueError, q, kC, sb, ty, PySem.W.mg_of X G hn, hn⟩
end
def ClsOk (K : PySem.W.Frag) (mg : Str → Option Value) (c : Str) (kn acc : List Str) : Prop := ∃ v, mg c = some v ∧ ∀ n ∈ kn, ExM K n v (decide (n ∈ acc))
def SubL (K : PySem.W.Frag) (Cc : Addr) (acc : List Str) : List Str → Prop
  | [] => True
  | n :: r => (∃ C : Addr, PySem.W.nsIn K mainGlobals n = some (some (.ref C)) ∧ PySem.W.subIn K (.ref C) (.ref Cc) = some (decide (n ∈ acc))) ∧ SubL K Cc acc r
def ClsK (K : PySem.W.Frag) (c : Str) (kn acc : List Str) : Prop := ∃ Cc : Addr, PySem.W.nsIn K mainGlobals c = some (some (.ref Cc)) ∧ PySem.W.subIn K (.ref Cc) (.type "BaseException") = some true ∧ PySem.W.hasDictIn K Cc = true ∧ PySem.W.typeIn K (.ref Cc) = some (.type "type") ∧ SubL K Cc acc kn
def FldL (K : PySem.W.Frag) (f : Str) : List Str → Prop
  | [] => True
  | n :: r => ExF K n f ∧ FldL K f r
section
variable {K : PySem.W.Frag} {mg : Str → Option Value} {h : Heap} {c n f : Str} {kn acc r : List Str} {C Cc : Addr} {b : Bool}
theorem ClsK.to (X : K.In h) (G : h.Ns mainGlobals mg) (e : ClsK K c kn acc) : ClsOk K mg c kn acc := by
  obtain ⟨Cc, a, h1, h2, h3, l⟩ := e
  refine ⟨.ref Cc, PySem.W.mg_of X G a, ?_⟩
  clear a
  induction kn with
  | nil => exact fun n hn => nomatch hn
  | cons n r ih =>
    obtain ⟨⟨C, a, s⟩, l⟩ := l
    intro m hm
    rcases List.mem_cons.mp hm with rfl | hm
    · exact ⟨C, a, PySem.W.exm_ref h1 h2 h3 s⟩
    · exact ih l m hm
theorem FldL.to : ∀ {kn : List Str}, FldL K f kn → ∀ n ∈ kn, ExF K n f
  | [], _, _, hn => nomatch hn
  | _ :: _, l, m, hm => by
    rcases List.mem_cons.mp hm with rfl | hm
    · exact l.1
    · exact l.2.to m hm
end
def strT (_ : Sto) (ts : List T) : Option T := match ts with
  | [.int i] => if decide (0 ≤ i ∧ i ≤ 1000) then some (.str (toString i)) else none
  | [.str x] => some (.str x)
  | _ => none
theorem c_strT {X : Cx} : CallR X (.type "str") (rN X.K strT) := by
  intro pins s σ H xs us Q I rv q
  obtain ⟨μ, S, ts, t, st, r, e, q⟩ := q
  unfold strT at e
  split at e
  · rename_i i
    split at e
    · rename_i hz
      simp only [decide_eq_true_eq] at hz
      cases e
      obtain ⟨v, rfl, rr⟩ := rels1 r
      have ev' : v = .int i := rr
      subst ev'
      exact call_str_int pins s σ H _ us Q I rv ⟨i, rfl, Nat.lt_of_le_of_lt (Nat.log2_le_self _) (by omega), q _ H (Same.refl _) (by simp only [Rel])⟩
    · cases e
  · rename_i x
    cases e
    obtain ⟨v, rfl, rr⟩ := rels1 r
    have ev' : v = .str x := rr
    subst ev'
    exact SkE.call_str_str pins s σ H _ us Q I rv ⟨x, rfl, q _ H (Same.refl _) (by simp only [Rel])⟩
  · cases e
end TL
set_option Elab.async false
set_option linter.all false
set_option maxRecDepth 100000
namespace TL
open PySem PySem.Spec L2
open PyProof.Rows hiding St
def RS.good : RS → Bool
  | .exc _ _ _ => false
  | .stuck => false
  | _ => true
def LeE (F F' : FE) : Prop := ∀ τ S t U, F τ S = .ok t U → F' τ S = .ok t U
def LeT (F F' : FT) : Prop := ∀ τ S t U, F τ S = .ok t U → F' τ S = .ok t U
def LeB (B B' : BS) : Prop := ∀ τ S r, r.good = true → B τ S = r → B' τ S = r
def LeF (F F' : FF) : Prop := ∀ ts S t U, F ts S = .ok t U → F' ts S = .ok t U
theorem LeB.stuck (B : BS) : LeB bStuck B := fun τ S r g h => by
  rw [← h] at g
  cases g
theorem LeB.seq {B B' C C' : BS} (h : LeB B B') (k : LeB C C') : LeB (bSeq B C) (bSeq B' C') := fun τ S r g e => by
  unfold bSeq at e ⊢
  cases e1 : B τ S with
  | nx τ1 S1 =>
    rw [e1] at e
    rw [h τ S _ rfl e1]
    exact k τ1 S1 r g e
  | rt t S1 => rw [e1] at e; rw [h τ S _ rfl e1]; exact e
  | bk τ1 S1 => rw [e1] at e; rw [h τ S _ rfl e1]; exact e
  | ct τ1 S1 => rw [e1] at e; rw [h τ S _ rfl e1]; exact e
  | exc x τ1 S1 => rw [e1] at e; rw [← e] at g; cases g
  | stuck => rw [e1] at e; rw [← e] at g; cases g
theorem LeB.bnd {α : Type} {F F' : Fr → Sto → Res α} {k k' : Fr → Sto → α → Sto → RS} (h : ∀ τ S t U, F τ S = .ok t U → F' τ S = .ok t U) (hk : ∀ τ S t U r, r.good = true → k τ S t U = r → k' τ S t U = r) : LeB (fun τ S => (F τ S).bindS τ (k τ S)) (fun τ S => (F' τ S).bindS τ (k' τ S)) := fun τ S r g e => by
  replace e : (F τ S).bindS τ (k τ S) = r := e
  show (F' τ S).bindS τ (k' τ S) = r
  cases e1 : F τ S with
  | ok t U =>
    rw [e1] at e
    rw [h τ S t U e1]
    exact hk τ S t U r g e
  | exc x U => rw [e1] at e; rw [← e] at g; cases g
  | stuck => rw [e1] at e; rw [← e] at g; cases g
theorem LeB.set {i : Nat} {F F' : FE} (h : LeE F F') : LeB (bSet i F) (bSet i F') := LeB.bnd h fun _ _ _ _ _ _ e => e
theorem LeB.ret {F F' : FE} (h : LeE F F') : LeB (bRet F) (bRet F') := LeB.bnd h fun _ _ _ _ _ _ e => e
theorem LeF.body {N : List Str} {n : Nat} {B B' : BS} (h : LeB B B') : LeF (body N n B) (body N n B') := fun ts S t U e => by
  unfold TL.body at e ⊢
  split at e
  · rename_i hl
    rw [if_pos hl]
    cases e1 : B (startT N ts) S with
    | nx τ1 S1 => rw [e1] at e; rw [h _ _ _ rfl e1]; exact e
    | rt u S1 => rw [e1] at e; rw [h _ _ _ rfl e1]; exact e
    | bk τ1 S1 => rw [e1] at e; cases e
    | ct τ1 S1 => rw [e1] at e; cases e
    | exc x τ1 S1 => rw [e1] at e; cases e
    | stuck => rw [e1] at e; cases e
  · cases e
theorem bindOk {α β : Type} {r : Res α} {k : α → Sto → Res β} {b : β} {U : Sto} (h : r.bind k = .ok b U) : ∃ a S, r = .ok a S ∧ k a S = .ok b U := by
  cases r with
  | ok a S => exact ⟨a, S, rfl, h⟩
  | exc x S => cases h
  | stuck => cases h
theorem noxOk {α : Type} {r : Res α} {a : α} {U : Sto} (h : r.nox = .ok a U) : r = .ok a U := by
  cases r with
  | ok a S => exact h
  | exc x S => cases h
  | stuck => cases h
theorem LeE.call {F F' : FF} {Fs : FA} (h : LeF F F') : LeE (fCall F Fs) (fCallX F' Fs) := fun τ S t U e => by
  unfold fCall at e
  unfold fCallX
  obtain ⟨ts, S1, e1, e⟩ := bindOk e
  rw [e1]
  exact h _ _ _ _ (noxOk e)
end TL
set_option Elab.async false
set_option linter.all false
set_option maxRecDepth 100000
set_option maxHeartbeats 2000000
namespace TL
open PySem PySem.Spec L2
open PyProof.Rows hiding St
open LamX (TabB CodeO)
theorem CellR.toN {K : PySem.W.Frag} {H H' : Hp} {μ μ' : Mu} {a : Addr} {c : T} (hc : ∀ (n : Nat) (a : Addr), μ.c[n]? = some a → μ'.c[n]? = some a) (hk : ∀ a o, H a = some o → μ.out a → NT o → H' a = some o ∧ μ'.out a) (ha : ∀ o, H a = some o → NT o → H' a = some o) (q : CellR K H μ a c) : CellR K H' μ' a c := by
  cases c <;> first
    | exact q.elim
    | (obtain ⟨vs, h, q⟩ := q; exact ⟨vs, ha _ h (by intro _ y; cases y), Rels.toN hc hk _ q⟩)
    | (obtain ⟨vs, h, e, q⟩ := q; exact ⟨vs, ha _ h (by intro _ y; cases y), e, Rels.toN hc hk _ q⟩)
section
variable {X : Cx} {pins : List (Addr × Obj)} {σ : L2.St} {H : Hp} {μ : Mu} {S : Sto} {s : Shared} {c P : Addr} {params : Arguments} {body : Expr} {scope : Scope} {pos : Pos}
end
end TL
set_option Elab.async false
set_option linter.all false
set_option maxRecDepth 100000
set_option maxHeartbeats 2000000
namespace TL
open PySem PySem.Spec L2
open PyProof.Rows hiding St
open LamX (CodeO lamCx lamEnv)
structure LamN (N : List Str) (sc scope : Scope) : Prop where
  kind : scope.kind = .function
  co : scope.isCoroutine = false
  gen : scope.isGenerator = false
  cell : ∀ y ∈ scope.names, y.2 ≠ .cell
  own : ∀ y ∈ scope.names, y.2 = .local → y.1 ∉ N
  free : ∀ y ∈ scope.names, y.2 = .free → sc.names.lookup y.1 = some .cell ∨ sc.names.lookup y.1 = some .free
section
variable {X : Cx} {pins : List (Addr × Obj)} {σ : L2.St} {H HZ : Hp} {s s1 : Shared} {params : Arguments} {body : Expr} {scope : Scope}
theorem LamN.has (L : LamN X.N X.env.scope scope) (ok : X.Ok) : ∀ y ∈ scope.names, y.2 = .free → ∃ c, X.env.cells.lookup y.1 = some c := fun y hy e => by
  rcases L.free y hy e with k | k
  · exact ok.has _ (.inl k)
  · exact ok.has _ (.inr k)
end
end TL
set_option Elab.async false
set_option linter.all false
set_option maxRecDepth 100000
set_option maxHeartbeats 2000000
namespace TL
open PySem PySem.Spec L2
open PyProof.Rows hiding St
open LamX (CodeO TabB lamCx lamEnv)
section
variable {K : PySem.W.Frag} {H : Hp} {μ : Mu} {τ : Fr} {σ : L2.St}
end
section
variable {X : Cx} {pins : List (Addr × Obj)} {σ : L2.St} {H : Hp} {s : Shared} {params : Arguments} {body : Expr} {scope : Scope}
end
section
variable {P : Program} {w : World} {K : PySem.W.Frag} {mg : Str → Option Value} {base : Heap} {g : Addr} {fd : FuncData} {N : List Str} {a : Str} {k : Nat}
end
section
variable {X : Cx} {wx : WT}
end
end TL
set_option Elab.async false
set_option linter.all false
set_option maxRecDepth 100000
set_option maxHeartbeats 2000000
namespace TL
open PySem PySem.Spec L2
open PyProof.Rows hiding St
open LamX (TabB)
section
variable {K K' : PySem.W.Frag} (e : ∀ a, K'.lookup a = K.lookup a)
include e
theorem nsIn_e (n : Addr) (x : Str) : PySem.W.nsIn K' n x = PySem.W.nsIn K n x := by unfold PySem.W.nsIn; rw [e]
theorem codeIn_e (v : Value) (q : Str) : PySem.W.codeIn K' v q = PySem.W.codeIn K v q := by
  unfold PySem.W.codeIn
  cases v <;> first | rfl | (simp only [e])
theorem ownIn_e (x : Str) (v : Value) : PySem.W.ownIn K' x v = PySem.W.ownIn K x v := by
  unfold PySem.W.ownIn
  cases v <;> first | rfl | (simp only [e, nsIn_e e])
theorem alongIn_e (x : Str) : ∀ l : List Value, PySem.W.alongIn K' x l = PySem.W.alongIn K x l
  | [] => rfl
  | c :: r => by
    unfold PySem.W.alongIn
    rw [ownIn_e e, alongIn_e x r]
theorem findIn_e (v : Value) (x : Str) : PySem.W.findIn K' v x = PySem.W.findIn K v x := by
  unfold PySem.W.findIn
  cases v <;> first | rfl | (simp only [e, alongIn_e e])
theorem typeIn_e (v : Value) : PySem.W.typeIn K' v = PySem.W.typeIn K v := by
  unfold PySem.W.typeIn
  cases v <;> first | rfl | (simp only [e])
theorem specialIn_e (v : Value) (x : Str) : PySem.W.specialIn K' v x = PySem.W.specialIn K v x := by
  unfold PySem.W.specialIn
  rw [typeIn_e e]
  congr 1
  funext t
  exact findIn_e e t x
theorem keepIn_e (v : Value) : PySem.W.keepIn K' v = PySem.W.keepIn K v := by
  unfold PySem.W.keepIn
  cases v <;> first | rfl | (simp only [e, specialIn_e e])
theorem clsIn_e (C : Addr) : PySem.W.clsIn K' C = PySem.W.clsIn K C := by unfold PySem.W.clsIn; rw [e]
theorem hasDictIn_e (C : Addr) : PySem.W.hasDictIn K' C = PySem.W.hasDictIn K C := by unfold PySem.W.hasDictIn; rw [clsIn_e e]
theorem mroIn_e (C : Addr) (v : Value) : PySem.W.mroIn K' C v = PySem.W.mroIn K C v := by unfold PySem.W.mroIn; rw [clsIn_e e]
theorem subIn_e (v u : Value) : PySem.W.subIn K' v u = PySem.W.subIn K v u := by
  unfold PySem.W.subIn
  cases v <;> first | rfl | (simp only [mroIn_e e])
theorem nsOkIn_e (n : Addr) : PySem.W.nsOkIn K' n = PySem.W.nsOkIn K n := by unfold PySem.W.nsOkIn; rw [e]
theorem tailIn_e (b : List Value) : ∀ l : List Value, PySem.W.tailIn K' b l = PySem.W.tailIn K b l
  | [] => rfl
  | v :: r => by
    unfold PySem.W.tailIn
    cases v <;> first | rfl | (simp only [e, nsOkIn_e e, nsIn_e e, tailIn_e b r])
theorem excIn_e (C : Addr) (b : List Value) (n : String) : PySem.W.excIn K' C b n = PySem.W.excIn K C b n := by
  unfold PySem.W.excIn
  simp only [e, tailIn_e e, nsOkIn_e e, nsIn_e e]
theorem excInitIn_e (C : Addr) (b : List Value) (n : String) : PySem.W.excInitIn K' C b n = PySem.W.excInitIn K C b n := by
  unfold PySem.W.excInitIn
  rw [e]
theorem ksup_e (C D : Addr) (x : Str) : PySem.W.ks_superIn K' C D x = PySem.W.ks_superIn K C D x := by
  unfold PySem.W.ks_superIn
  rw [clsIn_e e]
  congr 1
  funext cd
  exact alongIn_e e x _
theorem FnIn.ext {x : Str} {st : Stmt} (h : FnIn K x st) : FnIn K' x st := by
  obtain ⟨f, oc, kV, doc, pm, cdv, ct, od, an, osl, a, l, c, k⟩ := h
  exact ⟨f, oc, kV, doc, pm, cdv, ct, od, an, osl, by rw [nsIn_e e]; exact a, by rw [e]; exact l, by rw [codeIn_e e]; exact c, by rw [keepIn_e e]; exact k⟩
theorem DV.ext {t : T} {v : V} {u : Value} (h : DV K t v u) : DV K' t v u := by
  cases h with
  | non => exact .non
  | bl b => exact .bl b
  | tup0 l => exact .tup0 (by rw [e]; exact l)
theorem FnInD.ext {x : Str} {st : Stmt} {t : T} (h : FnInD K x st t) : FnInD K' x st t := by
  obtain ⟨f, T, oc, kV, doc, pm, cdv, ct, oc2, u, od, an, od2, osl, osl2, n, v, a, l, c, k, lt, d⟩ := h
  exact ⟨f, T, oc, kV, doc, pm, cdv, ct, oc2, u, od, an, od2, osl, osl2, n, v, by rw [nsIn_e e]; exact a, by rw [e]; exact l, by rw [codeIn_e e]; exact c, by rw [keepIn_e e]; exact k, by rw [e]; exact lt, d.ext e⟩
theorem ExCk.ext {P : Program} {x f : Str} (h : ExCk P K x f) : ExCk P K' x f := by
  obtain ⟨C, fI, qual, y, st, ⟨⟨⟨nm, q, N, bs, bm, sn, sub, ab, col, dd, k0, k1, k2, k3, k5, lC, hbm⟩, sa, exC, tyC, kC⟩, iC, tI, ⟨oc, od, osl, kV, doc, pm, an, cda, ct, cc, ccl, cdd, vs, ccs, file, tf, cl, cld, csl, cdD, lI, cI, lcd, hvs, hfile, lcc, hcl⟩, mro, opq, sup, sB, fno, ini⟩, S, a⟩ := h
  exact ⟨C, fI, qual, y, st, ⟨⟨⟨nm, q, N, bs, bm, sn, sub, ab, col, dd, k0, k1, k2, k3, k5, by rw [e]; exact lC, hbm⟩, by rw [findIn_e e]; exact sa, by rw [subIn_e e]; exact exC, by rw [typeIn_e e]; exact tyC, by rw [keepIn_e e]; exact kC⟩, by rw [findIn_e e]; exact iC, by rw [typeIn_e e]; exact tI, ⟨oc, od, osl, kV, doc, pm, an, cda, ct, cc, ccl, cdd, vs, ccs, file, tf, cl, cld, csl, cdD, by rw [e]; exact lI, by rw [codeIn_e e]; exact cI, by rw [e]; exact lcd, hvs, hfile, by rw [e]; exact lcc, by rw [clsIn_e e]; exact hcl⟩, by rw [mroIn_e e]; exact mro, by rw [nsIn_e e]; exact opq, by rw [ksup_e e]; exact sup, by rw [subIn_e e]; exact sB, by rw [findIn_e e]; exact fno, by rw [excInitIn_e e]; exact ini⟩, S, by rw [nsIn_e e]; exact a⟩
theorem ExC0k.ext {x : Str} (h : ExC0k K x) : ExC0k K' x := by
  obtain ⟨C, q, kC, sb, ty, a⟩ := h
  exact ⟨C, by rw [excIn_e e]; exact q, by rw [keepIn_e e]; exact kC, by rw [subIn_e e]; exact sb, by rw [typeIn_e e]; exact ty, by rw [nsIn_e e]; exact a⟩
theorem SubL.ext {Cc : Addr} {acc : List Str} : ∀ {l : List Str}, SubL K Cc acc l → SubL K' Cc acc l
  | [], _ => True.intro
  | _ :: _, ⟨⟨C, a, s⟩, l⟩ => ⟨⟨C, by rw [nsIn_e e]; exact a, by rw [subIn_e e]; exact s⟩, SubL.ext l⟩
theorem ClsK.ext {c : Str} {kn acc : List Str} (h : ClsK K c kn acc) : ClsK K' c kn acc := by
  obtain ⟨Cc, a, h1, h2, h3, l⟩ := h
  exact ⟨Cc, by rw [nsIn_e e]; exact a, by rw [subIn_e e]; exact h1, by rw [hasDictIn_e e]; exact h2, by rw [typeIn_e e]; exact h3, SubL.ext e l⟩
theorem FldL.ext {f : Str} : ∀ {l : List Str}, FldL K f l → FldL K' f l
  | [], _ => True.intro
  | _ :: _, ⟨⟨C, a, ⟨ga, gg, exC, hd⟩, no⟩, l⟩ => ⟨⟨C, by rw [nsIn_e e]; exact a, ⟨by rw [findIn_e e]; exact ga, by rw [findIn_e e]; exact gg, by rw [subIn_e e]; exact exC, by rw [hasDictIn_e e]; exact hd⟩, by rw [findIn_e e]; exact no⟩, FldL.ext l⟩
end
end TL
set_option Elab.async false
set_option linter.all false
set_option maxRecDepth 100000
set_option maxHeartbeats 2000000
namespace TL
open PySem PySem.Spec L2
open PyProof.Rows hiding St
open LamX (TabB)
section
variable {P : Program} {w : World} {K : PySem.W.Frag} {mg mb : Str → Option Value} {k : Nat} {f a : Addr} {fd : FuncData} {x : Str} {F : FF} {s1 : Shared} {its : List Value} {ns : List Int} {cs : List (Addr × Addr)}
end
end TL
set_option Elab.async false
set_option linter.all false
set_option maxRecDepth 100000
set_option maxHeartbeats 2000000
namespace TL
open PySem PySem.Spec L2
open PyProof.Rows hiding St
structure AskC (K : PySem.W.Frag) (C : Addr) : Prop where
  cl : (PySem.W.clsIn K C).isSome = true
  ga : PySem.W.findIn K (.ref C) "__getattribute__" = some (some (.builtin "BaseException.__getattribute__"))
  gg : PySem.W.findIn K (.ref C) "__getattr__" = some none
  sb : PySem.W.subIn K (.ref C) (.type "BaseException") = some true
  ac : PySem.W.findIn K (.ref C) "__class__" = some (some (.builtin "object.__class__"))
  sp : PySem.W.specialIn K (.builtin "object.__class__") "__get__" = some (some (.builtin "getset_descriptor.__get__"))
  tk : PySem.W.takesIn K (.builtin "object.__class__") = some true
  mo : PySem.W.mroIn K C (.type "object") = some true
def AskL (K : PySem.W.Frag) (cs : List Value) (kn acc : List Str) : Prop := ∀ n ∈ kn, ∃ C : Addr, PySem.W.nsIn K mainGlobals n = some (some (.ref C)) ∧ AskC K C ∧ PySem.W.kitAny K (.ref C) cs = some (decide (n ∈ acc))
def AskOk (K : PySem.W.Frag) (mg : Str → Option Value) (names : List Str) (kn acc : List Str) : Prop := ∃ cs : List Addr, names.map mg = cs.map (fun c => some (.ref c)) ∧ AskL K (cs.map Value.ref) kn acc
def fAsk (kn acc : List Str) (F : FE) : FE := fun τ S => (F τ S).bind fun t S1 => match t with
  | .err x _ _ => if x ∈ kn then .ok (.bl (decide (x ∈ acc))) S1 else .stuck
  | _ => .stuck
section
variable {X : Cx} {wx : WT} {e : Expr} {F : FE} {kn acc : List Str} {p p2 p3 pos : Pos}
end
def AskK (K : PySem.W.Frag) (names kn acc : List Str) : Prop := ∃ cs : List Addr, (∀ z ∈ names.zip cs, PySem.W.nsIn K mainGlobals z.1 = some (some (.ref z.2))) ∧ names.length = cs.length ∧ AskL K (cs.map Value.ref) kn acc
section
variable {K : PySem.W.Frag} {mg : Str → Option Value} {h : Heap} {names kn acc : List Str}
theorem AskK.to (X : K.In h) (G : h.Ns mainGlobals mg) (e : AskK K names kn acc) : AskOk K mg names kn acc := by
  obtain ⟨cs, a, l, A⟩ := e
  refine ⟨cs, ?_, A⟩
  clear A
  induction names generalizing cs with
  | nil =>
    cases cs with
    | nil => rfl
    | cons c cs => cases l
  | cons n names ih =>
    cases cs with
    | nil => cases l
    | cons c cs =>
      rw [List.map_cons, List.map_cons, ih cs (fun z hz => a z (List.mem_cons_of_mem _ hz)) (by simpa using l), PySem.W.mg_of X G (a (n, c) List.mem_cons_self)]
end
section
variable {K K' : PySem.W.Frag} (e : ∀ a, K'.lookup a = K.lookup a)
include e
theorem takesIn_e (v : Value) : PySem.W.takesIn K' v = PySem.W.takesIn K v := by
  unfold PySem.W.takesIn
  rw [specialIn_e e, specialIn_e e]
theorem kitOne_e (t c : Value) : PySem.W.kitOne K' t c = PySem.W.kitOne K t c := by
  unfold PySem.W.kitOne PySem.W.kitCls
  cases c <;> first | rfl | (simp only [clsIn_e e, typeIn_e e, subIn_e e])
theorem kitAny_e (t : Value) : ∀ l : List Value, PySem.W.kitAny K' t l = PySem.W.kitAny K t l
  | [] => rfl
  | c :: r => by
    unfold PySem.W.kitAny
    rw [kitOne_e e, kitAny_e t r]
theorem AskL.ext {cs : List Value} {kn acc : List Str} (h : AskL K cs kn acc) : AskL K' cs kn acc := fun n hn => by
  obtain ⟨C, a, W, k⟩ := h n hn
  exact ⟨C, by rw [nsIn_e e]; exact a, ⟨by rw [clsIn_e e]; exact W.cl, by rw [findIn_e e]; exact W.ga, by rw [findIn_e e]; exact W.gg, by rw [subIn_e e]; exact W.sb, by rw [findIn_e e]; exact W.ac, by rw [specialIn_e e]; exact W.sp, by rw [takesIn_e e]; exact W.tk, by rw [mroIn_e e]; exact W.mo⟩, by rw [kitAny_e e]; exact k⟩
theorem AskK.ext {names kn acc : List Str} (h : AskK K names kn acc) : AskK K' names kn acc := by
  obtain ⟨cs, a, l, A⟩ := h
  exact ⟨cs, fun z hz => by rw [nsIn_e e]; exact a z hz, l, A.ext e⟩
end
def FnInC (K : PySem.W.Frag) (x : Str) (st : Stmt) (c P : Addr) : Prop :=
  ∃ (f : Addr) (oc kV doc pm ct : Value) (od an : Option Addr) (osl : Array (Option Value)), PySem.W.nsIn K mainGlobals x = some (some (.ref f)) ∧
    K.lookup f = some ⟨oc, od, .func (PySem.W.fnOf x x (defArgs st) (defBody st) (defScope st) .none kV doc pm an (.ref c) ct), osl⟩ ∧ PySem.W.codeIn K (.ref c) x = true ∧ PySem.W.keepIn K (.ref f) = true ∧ PySem.W.codeHdIn K c P = true
section
variable {K : PySem.W.Frag} {x : Str} {st : Stmt} {h : Heap} {mg : Str → Option Value} {ps : List Str} {c P : Addr}
theorem FnInC.gd (e : FnInC K x st c P) (X : K.In h) (G : h.Ns mainGlobals mg) (b : ∀ {f : Addr} {fd : FuncData}, Fun K x x st f fd → L2.Binds K fd ps []) : ∃ f fd, Gd K mg x st ps f fd ∧ fd.code = .ref c := by
  obtain ⟨f, oc, kV, doc, pm, ct, od, an, osl, a, l, cc, k, _⟩ := e
  have F := fun_mk (st := st) l cc k
  exact ⟨f, _, ⟨F, PySem.W.mg_of X G a, b F, k⟩, rfl⟩
theorem FnInC.law {fa : Addr} {y : Str} (e : FnInC K x st c P) (X : K.In h) (G : h.Ns mainGlobals mg) (hfa : mg x = some (.ref fa))
    (b : ∀ (kV doc pm : Value) (an : Option Addr) (cdv ct v : Value), bindArgs (PySem.W.fnOf x x (defArgs st) (defBody st) (defScope st) .none kV doc pm an cdv ct) ⟨[v], []⟩ = pure [(y, v)]) :
    ∃ fd, (Fun K x x st fa fd ∧ ∀ (s : Shared) (v : Value), BindsTo s fd ⟨[v], []⟩ [(y, v)]) ∧ fd.code = .ref c := by
  obtain ⟨f, oc, kV, doc, pm, ct, od, an, osl, a, l, cc, k, _⟩ := e
  have z := hfa.symm.trans (PySem.W.mg_of X G a)
  cases z
  exact ⟨_, ⟨fun_mk (st := st) l cc k, fun s v => .of_eq (b kV doc pm an (.ref c) ct v)⟩, rfl⟩
theorem FnInC.hd (e : FnInC K x st c P) (X : K.In h) : PySem.W.CodeHd h c P := by
  obtain ⟨f, oc, kV, doc, pm, ct, od, an, osl, a, l, cc, k, hd⟩ := e
  exact PySem.W.codeHd_of_K X hd
theorem FnInC.ext {K' : PySem.W.Frag} (e : ∀ a, K'.lookup a = K.lookup a) (q : FnInC K x st c P) : FnInC K' x st c P := by
  obtain ⟨f, oc, kV, doc, pm, ct, od, an, osl, a, l, cc, k, hd⟩ := q
  exact ⟨f, oc, kV, doc, pm, ct, od, an, osl, by rw [nsIn_e e]; exact a, by rw [e]; exact l, by rw [codeIn_e e]; exact cc, by rw [keepIn_e e]; exact k, by unfold PySem.W.codeHdIn at hd ⊢; rw [e]; exact hd⟩
end
end TL
set_option Elab.async false
set_option linter.all false
set_option maxRecDepth 100000
set_option maxHeartbeats 2000000
namespace TL
open PySem PySem.Spec L2
open PyProof.Rows hiding St
section
variable {K : PySem.W.Frag} {H H' : Hp} {μ μ' : Mu} {S S1 : Sto}
end
section
variable {P : Program} {w : World} {K : PySem.W.Frag} {mg : Str → Option Value} {base : Heap} {k : Nat} {f : Addr} {fd : FuncData} {ps : List Str} {F : FF}
end
end TL
set_option Elab.async false
set_option linter.all false
set_option maxRecDepth 100000
namespace TL
open PySem PySem.Spec L2
open PyProof.Rows hiding St
open PySem.Froz (SD sObj TxOk addTx tailTx)
section
variable {P : Program} {w : World} {A : Around} {E : Value → Shared → Prop} {s : Shared}
end
end TL
set_option Elab.async false
set_option linter.all false
set_option maxRecDepth 100000
set_option maxHeartbeats 2000000
namespace TL
open PySem PySem.Spec L2
open PyProof.Rows hiding St
section
variable {X : Cx} {wx : WT} {pos : Pos}
end
end TL
set_option Elab.async false
set_option linter.all false
set_option maxRecDepth 100000
namespace TL
open PySem PySem.Spec L2
open PyProof.Rows hiding St
end TL
set_option Elab.async false
set_option linter.all false
set_option maxRecDepth 100000
set_option maxHeartbeats 2000000
namespace TL
open PySem PySem.Spec L2
open PyProof.Rows hiding St
def keyD : Key → PyData
  | .inl i => .int i
  | .inr x => .str x
mutual
def toR : T → Option PyData
  | .non => some .none
  | .bl b => some (.bool b)
  | .int i => some (.int i)
  | .str x => some (.str x)
  | .tup ts => (toRs ts).map .tuple
  | .lst ts => (toRs ts).map .list
  | .sls ts => (toRs ts).map .list
  | .dct ks ts => (toRs ts).map fun ds => .dict ((ks.map keyD).zip ds)
  | .ktp ts => (toRs ts).map .tuple
  | .etp ts => (toRs ts).map .tuple
  | .fdc _ _ => none
  | .kdc _ _ => none
  | .ref _ => none
  | .val _ => none
  | .err _ _ _ => none
  | .clo _ _ _ => none
def toRs : List T → Option (List PyData)
  | [] => some []
  | t :: ts => (toR t).bind fun d => (toRs ts).bind fun ds => some (d :: ds)
end
section
variable {X : Cx} {pins : List (Addr × Obj)} {σ : L2.St} {H : Hp} {s : Shared} {μ : Mu}
end
end TL
set_option Elab.async false
set_option linter.all false
set_option maxRecDepth 100000
namespace TL
open PySem PySem.Spec L2
open PyProof.Rows hiding St
end TL
set_option Elab.async false
set_option linter.all false
set_option maxRecDepth 100000
set_option maxHeartbeats 2000000
namespace TL
open PySem PySem.Spec L2
open PyProof.Rows hiding St
theorem LeB.forF {g : GT} {B B' : BS} (h : LeB B B') : ∀ xs, LeB (forF g B xs) (forF g B' xs)
  | [], τ, S, r, _, e => e
  | x :: xs, τ, S, r, q, e => by
    unfold TL.forF at e ⊢
    cases e0 : g x with
    | none => rw [e0] at e; rw [← e] at q; cases q
    | some l =>
      rw [e0] at e
      simp only at e ⊢
      cases e1 : B (setsT τ l) S with
      | nx τ1 S1 => rw [e1] at e; rw [h _ _ _ rfl e1]; exact LeB.forF h xs τ1 S1 r q e
      | ct τ1 S1 => rw [e1] at e; rw [h _ _ _ rfl e1]; exact LeB.forF h xs τ1 S1 r q e
      | bk τ1 S1 => rw [e1] at e; rw [h _ _ _ rfl e1]; exact e
      | rt t S1 => rw [e1] at e; rw [h _ _ _ rfl e1]; exact e
      | exc x τ1 S1 => rw [e1] at e; rw [← e] at q; cases q
      | stuck => rw [e1] at e; rw [← e] at q; cases q
end TL
set_option Elab.async false
set_option linter.all false
set_option maxRecDepth 100000
set_option maxHeartbeats 2000000
namespace TL
open PySem PySem.Spec L2
open PyProof.Rows hiding St
open LamX (TabB)
section
variable {P : Program} {w : World} {K : PySem.W.Frag} {mg mb : Str → Option Value} {k : Nat} {f a : Addr} {fd : FuncData} {x : Str} {F : FF} {s1 : Shared} {its : List Value} {ns : List Int} {cs : List (Addr × Addr)}
end
end TL
set_option Elab.async false
set_option linter.all false
set_option maxRecDepth 100000
set_option maxHeartbeats 2000000
namespace TL
open PySem PySem.Spec L2
open PyProof.Rows hiding St
section
variable {X : Cx} {wx : WT} {e : Expr} {F : FE} {kn acc : List Str} {p p2 pos : Pos}
end
end TL
set_option Elab.async false
set_option linter.all false
set_option maxRecDepth 100000
set_option maxHeartbeats 2000000
namespace TL
open PySem PySem.Spec L2
open PyProof.Rows hiding St
end TL
set_option Elab.async false
set_option linter.all false
set_option maxRecDepth 100000
namespace TL
open PySem PySem.Spec L2
open PyProof.Rows hiding St
def LeA (F F' : FA) : Prop := ∀ τ S t U, F τ S = .ok t U → F' τ S = .ok t U
theorem bindLe {α β : Type} {r r' : Res α} {k k' : α → Sto → Res β} {b : β} {V : Sto} (e : r.bind k = .ok b V) (h : ∀ a U, r = .ok a U → r' = .ok a U) (hk : ∀ a U, k a U = .ok b V → k' a U = .ok b V) : r'.bind k' = .ok b V := by
  obtain ⟨a, U, e1, e2⟩ := bindOk e
  rw [h a U e1]
  exact hk a U e2
theorem noxOk' {α : Type} {r : Res α} {a : α} {U : Sto} (h : r = .ok a U) : r.nox = .ok a U := by rw [h]; rfl
theorem ofOLe {α : Type} {o o' : Option α} {S U : Sto} {t : α} (h : ∀ a, o = some a → o' = some a) (e : ofO o S = .ok t U) : ofO o' S = .ok t U := by
  cases o with
  | none => cases e
  | some a => rw [h a rfl]; exact e
theorem LeA.cons {F F' : FE} {Fs Fs' : FA} (h : LeE F F') (k : LeA Fs Fs') : LeA (fCons F Fs) (fCons F' Fs') := fun τ S t U e =>
  bindLe e (h τ S) fun _ S1 e => bindLe e (k τ S1) fun _ _ e => e
theorem LeE.op {g g' : Sto → T → T → Option T} {Fa Fb : FE} (h : ∀ S x y t, g S x y = some t → g' S x y = some t) : LeE (fBin g Fa Fb) (fBin g' Fa Fb) := fun τ S t U e =>
  bindLe e (fun _ _ e => e) fun x S1 e => bindLe e (fun _ _ e => e) fun y S2 e => ofOLe (h S2 x y) e
theorem LeE.pure {F F' : FE} (h : LeE F F') : LeE (fPure F) (fPure F') := fun τ S t U e => bindLe e (h τ S) fun _ _ e => e
theorem lcLe {g : GT} {Ft Ft' : FT} {Fe Fe' : FE} {vs : List Nat} {τ : Fr} (h : LeT Ft Ft') (k : LeE Fe Fe') : ∀ (xs : List T) (S : Sto) (ys : List T) (U : Sto), lcF g Ft Fe vs τ xs S = .ok ys U → lcF g Ft' Fe' vs τ xs S = .ok ys U
  | [], _, _, _, e => e
  | x :: xs, S, ys, U, e => by
    unfold lcF at e ⊢
    cases hg : g x with
    | none => rw [hg] at e; cases e
    | some l =>
      simp only [hg] at e ⊢
      split at e
      · rename_i hs
        rw [if_pos hs]
        refine bindLe e (fun b S1 e => noxOk' (h _ _ _ _ (noxOk e))) fun b S1 e => ?_
        cases b with
        | true => exact bindLe e (fun y S2 e => noxOk' (k _ _ _ _ (noxOk e))) fun y S2 e => bindLe e (fun ys S3 e => lcLe h k xs _ _ _ e) fun _ _ e => e
        | false => exact lcLe h k xs _ _ _ e
      · cases e
theorem LeE.lc {Fi : FI} {g : GT} {Ft Ft' : FT} {Fe Fe' : FE} {vs : List Nat} (h : LeT Ft Ft') (k : LeE Fe Fe') : LeE (fLc Fi g Ft Fe vs) (fLc Fi g Ft' Fe' vs) := fun τ S t U e =>
  bindLe e (fun _ _ e => e) fun xs S1 e => by
    split at e
    · rename_i hz
      rw [if_pos hz]
      exact bindLe e (fun ys S2 e => lcLe h k xs _ _ _ e) fun _ _ e => e
    · cases e
theorem LeT.not {F F' : FT} (h : LeT F F') : LeT (fNotT F) (fNotT F') := fun τ S t U e => bindLe e (h τ S) fun _ _ e => e
theorem LeT.or {F F' G G' : FT} (h : LeT F F') (k : LeT G G') : LeT (fOrT F G) (fOrT F' G') := fun τ S t U e => bindLe e (h τ S) fun b S1 e => by
  cases b with
  | true => exact e
  | false => exact k τ S1 t U e
theorem LeT.and {F F' G G' : FT} (h : LeT F F') (k : LeT G G') : LeT (fAndT F G) (fAndT F' G') := fun τ S t U e => bindLe e (h τ S) fun b S1 e => by
  cases b with
  | false => exact e
  | true => exact k τ S1 t U e
theorem LeE.and {F F' G G' : FE} (h : LeE F F') (k : LeE G G') : LeE (fAnd F G) (fAnd F' G') := fun τ S t U e => bindLe e (h τ S) fun x S1 e => by
  cases hx : truT S1 x with
  | none => simp only [hx] at e; cases e
  | some b =>
    cases b with
    | false => simp only [hx] at e ⊢; exact e
    | true => simp only [hx] at e ⊢; exact k τ S1 t U e
end TL
set_option Elab.async false
set_option linter.all false
set_option maxRecDepth 100000
namespace TL
open PySem PySem.Spec L2
open PyProof.Rows hiding St
end TL
set_option Elab.async false
set_option linter.all false
set_option maxRecDepth 100000
set_option maxHeartbeats 2000000
namespace TL
open PySem PySem.Spec L2
open PyProof.Rows hiding St
abbrev IsZipG (h : Heap) (z TI TO : Addr) (f0 : Value) (f : Bool) : Prop :=
  h.get? z = some { cls := .type "zip", dict := none, data := .fields #[f0, .bool f, .bool false, .ref TI, .ref TO], slots := #[] }
def ZipF (f0 : Value) : Prop := f0 = .none ∨ ∃ T : Addr, f0 = rawInt T
section
variable {prog : Program} {w : World} {A : Around} {E : Value → Shared → Prop} {s : Shared} {z TI TO i1 i2 l1 l2 : Addr} {f0 : Value} {f : Bool} {k1 k2 : Nat} {xs ys : Array Value} {x y a b : Value}
theorem zipFree {Q : Bool → Shared → Prop} (hz : IsZipG s.heap z TI TO f0 f) (hf : f0 = .none ∨ ∃ T : Addr, f0 = rawInt T ∧ s.heap.get? T = none) (h : Q true s) : wpAny (model prog w) A (Builtin.SmallTypes.ownedTupleIsFree (.ref z)) Q E s := by
  unfold Builtin.SmallTypes.ownedTupleIsFree
  rcases hf with rfl | ⟨T, rfl, hT⟩
  · exact wpAny_bind (wpAny_field hz rfl (x := .none) rfl (wpAny_pure h))
  · refine wpAny_bind (wpAny_field hz rfl (x := rawInt T) rfl ?_)
    show wpAny _ _ (loadIfAlive ((T : Int).toNat) >>= _) _ _ _
    rw [Int.toNat_natCast]
    have dead : ∀ {Q : Option Obj → Shared → Prop}, Q none s → wpAny (model prog w) A (loadIfAlive T) Q E s := fun {Q} h => by
      have h' : Q (s.heap.get? T) s := by rw [hT]; exact h
      exact fun _ _ _ => h'
    refine wpAny_bind (dead ?_)
    simp only [Option.isNone_none, if_true]
    exact wpAny_bind (wpAny_pure (wpAny_pure h))
theorem zipG_free_item {Q : Value → Shared → Prop} (D : ZipApart z TI TO i1 i2 l1 l2)
    (hz : IsZipG s.heap z TI TO f0 f) (hf : f0 = .none ∨ ∃ T : Addr, f0 = rawInt T ∧ s.heap.get? T = none) (hTI : IsPair s.heap TI (.ref i1) (.ref i2)) (hTO : IsPair s.heap TO a b)
    (h1 : s.heap.IsListIter i1 l1 k1) (h2 : s.heap.IsListIter i2 l2 k2) (hl1 : s.heap.IsList l1 xs) (hl2 : s.heap.IsList l2 ys) (hx : xs[k1]? = some x) (hy : ys[k2]? = some y)
    (hQ : ∀ h', IsZipG h' z TI TO (rawInt s.heap.objs.size) false → IsPair h' TO x y → h'.IsListIter i1 l1 (k1 + 1) → h'.IsListIter i2 l2 (k2 + 1) → IsPair h' s.heap.objs.size x y → h'.objs.size = s.heap.objs.size + 1 →
      (∀ c o, c ≠ z → c ≠ TO → c ≠ i1 → c ≠ i2 → s.heap.get? c = some o → h'.get? c = some o) → Q (.ref s.heap.objs.size) { s with heap := h' }) :
    wpAny (model prog w) A (Builtin.«zip.__next__» ⟨[.ref z], []⟩) (fun fin s' => ∃ v, fin = .done (.ret v) ∧ Q v s') E s := by
  show wpAny _ _ (field (.ref z) 2 >>= _) _ _ _
  refine wpAny_bind (wpAny_field hz rfl (x := .bool false) rfl ?_)
  show wpAny _ _ (field (.ref z) 3 >>= _) _ _ _
  refine wpAny_bind (wpAny_field hz rfl (x := .ref TI) rfl ?_)
  refine wpAny_bind (wpAny_seqItems hTI rfl ?_)
  show wpAny _ _ (Builtin.SmallTypes.ownedTupleIsFree (.ref z) >>= _) _ _ _
  refine wpAny_bind (zipFree hz hf ?_)
  simp only [if_true]
  refine wpAny_bind (wpAny_rule ?_)
  refine wpAny_bind (wpAny_field hz rfl (x := .ref TO) rfl ?_)
  refine wpAny_bind (wpAny_setField_rec hz (by simp) fun h₁ hz₁ hs₁ => ?_)
  replace hz₁ : IsZipG h₁ z TI TO .ellipsis f := hz₁
  refine wpAny_bind ?_
  simp only [List.zipIdx_cons, List.zipIdx_nil, List.forIn_cons, List.forIn_nil]
  refine wpAny_bind (wpAny_bind (wpAny_onRaise ?_))
  show wpAny _ _ (Builtin.SmallTypes.nextOf (.ref i1) >>= _) _ _ _
  refine wpAny_bind (wpAny_nextOf_list_item (h1.extBut hs₁.extBut D.i1z) (hl1.extBut hs₁.extBut D.l1z) hx fun h₂ h1₂ hs₂ => wpAny_pure ?_)
  have hTO₂ : IsPair h₂ TO a b := hs₂.extBut _ _ D.TOi1 (hs₁.extBut _ _ D.TOz hTO)
  refine wpAny_bind (wpAny_seqItems hTO₂ rfl ?_)
  refine wpAny_bind (wpAny_updateSeq_pair hTO₂ fun h₃ hTO₃ hs₃ => ?_)
  replace hTO₃ : IsPair h₃ TO x b := hTO₃
  refine wpAny_bind (wpAny_letGo (wpAny_pure ?_))
  refine wpAny_bind (wpAny_bind (wpAny_onRaise ?_))
  show wpAny _ _ (Builtin.SmallTypes.nextOf (.ref i2) >>= _) _ _ _
  refine wpAny_bind (wpAny_nextOf_list_item (((h2.extBut hs₁.extBut D.i2z).extBut hs₂.extBut D.i12.symm).extBut hs₃.extBut D.TOi2.symm)
    (((hl2.extBut hs₁.extBut D.l2z).extBut hs₂.extBut D.l2i1).extBut hs₃.extBut D.l2TO) hy fun h₄ h2₄ hs₄ => wpAny_pure ?_)
  have hTO₄ : IsPair h₄ TO x b := hs₄.extBut _ _ D.TOi2 hTO₃
  refine wpAny_bind (wpAny_seqItems hTO₄ rfl ?_)
  refine wpAny_bind (wpAny_updateSeq_pair hTO₄ fun h₅ hTO₅ hs₅ => ?_)
  replace hTO₅ : IsPair h₅ TO x y := hTO₅
  refine wpAny_bind (wpAny_letGo (wpAny_pure (wpAny_pure ?_)))
  refine wpAny_bind (wpAny_seqItems hTO₅ rfl ?_)
  refine wpAny_bind (wpAny_newTuple ?_)
  have hsz : h₅.objs.size = s.heap.objs.size := by rw [hs₅.1, hs₄.1, hs₃.1, hs₂.1, hs₁.1]
  have hz₅ : IsZipG h₅ z TI TO .ellipsis f := hs₅.extBut _ _ D.TOz.symm (hs₄.extBut _ _ D.i2z.symm (hs₃.extBut _ _ D.TOz.symm (hs₂.extBut _ _ D.i1z.symm hz₁)))
  have hk₅ : ∀ c o, c ≠ z → c ≠ TO → c ≠ i1 → c ≠ i2 → s.heap.get? c = some o → h₅.get? c = some o := fun c o c1 c2 c3 c4 e =>
    hs₅.extBut _ _ c2 (hs₄.extBut _ _ c4 (hs₃.extBut _ _ c2 (hs₂.extBut _ _ c3 (hs₁.extBut _ _ c1 e))))
  have h1₅ : h₅.IsListIter i1 l1 (k1 + 1) := ((h1₂.extBut hs₃.extBut D.TOi1.symm).extBut hs₄.extBut D.i12).extBut hs₅.extBut D.TOi1.symm
  have h2₅ : h₅.IsListIter i2 l2 (k2 + 1) := h2₄.extBut hs₅.extBut D.TOi2.symm
  have hzlt : z < h₅.objs.size := Heap.lt_size hz₅
  show wpAny _ _ (Builtin.SmallTypes.ownedTupleHandOut (.ref z) (.ref h₅.objs.size) >>= _) _ _ _
  refine wpAny_bind ?_
  unfold Builtin.SmallTypes.ownedTupleHandOut
  have hz₆ : IsZipG (h₅.push { cls := .type "tuple", data := .seq #[x, y] }) z TI TO .ellipsis f := Heap.get?_push_of_some _ hz₅
  refine wpAny_bind (wpAny_setField_rec hz₆ (by simp) fun h₇ hz₇ hs₇ => ?_)
  replace hz₇ : IsZipG h₇ z TI TO (rawInt h₅.objs.size) f := hz₇
  refine wpAny_setField_rec hz₇ (by simp) fun h₈ hz₈ hs₈ => ?_
  replace hz₈ : IsZipG h₈ z TI TO (rawInt h₅.objs.size) false := hz₈
  have up : ∀ c o, c ≠ z → h₅.get? c = some o → h₈.get? c = some o := fun c o c1 e => hs₈.extBut _ _ c1 (hs₇.extBut _ _ c1 (Heap.get?_push_of_some _ e))
  have hT₈ : IsPair h₈ h₅.objs.size x y := hs₈.extBut _ _ (Nat.ne_of_gt hzlt) (hs₇.extBut _ _ (Nat.ne_of_gt hzlt) (Heap.get?_push_size _ rfl))
  have hz8 : h₈.objs.size = h₅.objs.size + 1 := by rw [hs₈.1, hs₇.1, Heap.size_push]
  rw [hsz] at hz₈ hT₈ hz8
  refine wpAny_pure ⟨_, rfl, ?_⟩
  show Q (.ref h₅.objs.size) _
  rw [hsz]
  exact hQ h₈ hz₈ (up _ _ D.TOz hTO₅) (h1₅.at fun o e => up _ o D.i1z e) (h2₅.at fun o e => up _ o D.i2z e) hT₈ hz8 fun c o c1 c2 c3 c4 e => up c o c1 (hk₅ c o c1 c2 c3 c4 e)
theorem zipG_free_end {Q : Fin → Shared → Prop} (hh : A.handled = none) (D : ZipApart z TI TO i1 i2 l1 l2)
    (hz : IsZipG s.heap z TI TO f0 f) (hf : f0 = .none ∨ ∃ T : Addr, f0 = rawInt T ∧ s.heap.get? T = none) (hTI : IsPair s.heap TI (.ref i1) (.ref i2)) (hTO : IsPair s.heap TO a b)
    (h1 : s.heap.IsListIter i1 l1 k1) (h2 : s.heap.IsListIter i2 l2 k2) (hl1 : s.heap.IsList l1 xs) (hl2 : s.heap.IsList l2 ys) (hend : xs[k1]? = none ∨ ys[k2]? = none)
    (hE : ∀ h' e, (∀ c o, c ≠ z → c ≠ TO → c ≠ i1 → c ≠ i2 → s.heap.get? c = some o → h'.get? c = some o) → (∃ o, h'.get? e = some o ∧ o.cls = .type "StopIteration") → E (.ref e) { s with heap := h' }) :
    wpAny (model prog w) A (Builtin.«zip.__next__» ⟨[.ref z], []⟩) Q E s := by
  show wpAny _ _ (field (.ref z) 2 >>= _) _ _ _
  refine wpAny_bind (wpAny_field hz rfl (x := .bool false) rfl ?_)
  show wpAny _ _ (field (.ref z) 3 >>= _) _ _ _
  refine wpAny_bind (wpAny_field hz rfl (x := .ref TI) rfl ?_)
  refine wpAny_bind (wpAny_seqItems hTI rfl ?_)
  show wpAny _ _ (Builtin.SmallTypes.ownedTupleIsFree (.ref z) >>= _) _ _ _
  refine wpAny_bind (zipFree hz hf ?_)
  simp only [if_true]
  refine wpAny_bind (wpAny_rule ?_)
  refine wpAny_bind (wpAny_field hz rfl (x := .ref TO) rfl ?_)
  refine wpAny_bind (wpAny_setField_rec hz (by simp) fun h₁ hz₁ hs₁ => ?_)
  replace hz₁ : IsZipG h₁ z TI TO .ellipsis f := hz₁
  refine wpAny_bind ?_
  simp only [List.zipIdx_cons, List.zipIdx_nil, List.forIn_cons, List.forIn_nil]
  refine wpAny_bind (wpAny_bind (wpAny_onRaise ?_))
  show wpAny _ _ (Builtin.SmallTypes.nextOf (.ref i1) >>= _) _ _ _
  cases hx : xs[k1]? with
  | none =>
    refine wpAny_bind (wpAny_nextOf_list_end hh (h1.extBut hs₁.extBut D.i1z) (hl1.extBut hs₁.extBut D.l1z) hx fun h₂ e hs₂ he => ?_)
    obtain ⟨oe, hoe, hce⟩ := he
    have hz₂ : IsZipG h₂ z TI TO .ellipsis f := hs₂ _ _ D.i1z.symm hz₁
    have hez : e ≠ z := fun x => by subst x; rw [hz₂] at hoe; cases hoe; simp at hce
    refine wpAny_setField_rec hz₂ (by simp) fun h₃ _ hs₃ => hE h₃ e (fun c o c1 _ c3 _ x => hs₃.extBut _ _ c1 (hs₂ _ _ c3 (hs₁.extBut _ _ c1 x))) ⟨oe, hs₃.extBut _ _ hez hoe, hce⟩
  | some x =>
    have hy : ys[k2]? = none := by rcases hend with h | h; rw [hx] at h; cases h; exact h
    refine wpAny_bind (wpAny_nextOf_list_item (h1.extBut hs₁.extBut D.i1z) (hl1.extBut hs₁.extBut D.l1z) hx fun h₂ h1₂ hs₂ => wpAny_pure ?_)
    have hTO₂ : IsPair h₂ TO a b := hs₂.extBut _ _ D.TOi1 (hs₁.extBut _ _ D.TOz hTO)
    refine wpAny_bind (wpAny_seqItems hTO₂ rfl ?_)
    refine wpAny_bind (wpAny_updateSeq_pair hTO₂ fun h₃ hTO₃ hs₃ => ?_)
    refine wpAny_bind (wpAny_letGo (wpAny_pure ?_))
    refine wpAny_bind (wpAny_bind (wpAny_onRaise ?_))
    show wpAny _ _ (Builtin.SmallTypes.nextOf (.ref i2) >>= _) _ _ _
    refine wpAny_bind (wpAny_nextOf_list_end hh (((h2.extBut hs₁.extBut D.i2z).extBut hs₂.extBut D.i12.symm).extBut hs₃.extBut D.TOi2.symm)
      (((hl2.extBut hs₁.extBut D.l2z).extBut hs₂.extBut D.l2i1).extBut hs₃.extBut D.l2TO) hy fun h₄ e hs₄ he => ?_)
    obtain ⟨oe, hoe, hce⟩ := he
    have hz₄ : IsZipG h₄ z TI TO .ellipsis f := hs₄ _ _ D.i2z.symm (hs₃.extBut _ _ D.TOz.symm (hs₂.extBut _ _ D.i1z.symm hz₁))
    have hez : e ≠ z := fun x => by subst x; rw [hz₄] at hoe; cases hoe; simp at hce
    refine wpAny_setField_rec hz₄ (by simp) fun h₅ _ hs₅ => hE h₅ e (fun c o c1 c2 c3 c4 x => hs₅.extBut _ _ c1 (hs₄ _ _ c4 (hs₃.extBut _ _ c2 (hs₂.extBut _ _ c3 (hs₁.extBut _ _ c1 x))))) ⟨oe, hs₅.extBut _ _ hez hoe, hce⟩
theorem zipG_item {Q : Value → Shared → Prop} (D : ZipApart z TI TO i1 i2 l1 l2)
    (hz : IsZipG s.heap z TI TO f0 f) (hf : ZipF f0) (hTI : IsPair s.heap TI (.ref i1) (.ref i2)) (hTO : IsPair s.heap TO a b)
    (h1 : s.heap.IsListIter i1 l1 k1) (h2 : s.heap.IsListIter i2 l2 k2) (hl1 : s.heap.IsList l1 xs) (hl2 : s.heap.IsList l2 ys) (hx : xs[k1]? = some x) (hy : ys[k2]? = some y)
    (hQ : ∀ h' f0' f' a' b', IsZipG h' z TI TO f0' f' → ZipF f0' → IsPair h' TO a' b' → h'.IsListIter i1 l1 (k1 + 1) → h'.IsListIter i2 l2 (k2 + 1) → IsPair h' s.heap.objs.size x y → h'.objs.size = s.heap.objs.size + 1 →
      (∀ c o, c ≠ z → c ≠ TO → c ≠ i1 → c ≠ i2 → s.heap.get? c = some o → h'.get? c = some o) → Q (.ref s.heap.objs.size) { s with heap := h' }) :
    wpAny (model prog w) A (Builtin.SmallTypes.nextOf (.ref z)) Q E s := by
  have hTy : s.TypeIs (.ref z) "zip" := ⟨_, hz, rfl⟩
  unfold Builtin.SmallTypes.nextOf
  refine wpAny_bind (wpAny_callSpecial?_slot (name := Str.ofString "__next__") hTy F.slot_zip_next (wpAny_call_entry F.slot_zip_next hTy F.entry_zip_next ?_ (F.args_zip_next_1 _)))
  have free : (f0 = .none ∨ ∃ T : Addr, f0 = rawInt T ∧ s.heap.get? T = none) → wpAny (model prog w) A.in1 (Builtin.«zip.__next__» ⟨[.ref z], []⟩) (fun fin s' => ∃ v, fin = .done (.ret v) ∧ wpAny (model prog w) A (pure v) Q E s') E s := fun hf =>
    zipG_free_item D hz hf hTI hTO h1 h2 hl1 hl2 hx hy fun h' a1 a2 a3 a4 a5 a6 a7 => wpAny_pure (hQ h' _ _ _ _ a1 (.inr ⟨_, rfl⟩) a2 a3 a4 a5 a6 a7)
  rcases hf with rfl | ⟨T, rfl⟩
  · exact free (.inl rfl)
  · cases hT : s.heap.get? T with
    | none => exact free (.inr ⟨T, rfl, hT⟩)
    | some oT =>
      have lt : ∀ {c : Addr} {o : Obj}, s.heap.get? c = some o → c ≠ s.heap.objs.size := fun e => Nat.ne_of_lt (Heap.lt_size e)
      exact zip_next_item_held D (show IsZipHeld s.heap z TI TO T f from hz) hT hTI h1 h2 hl1 hl2 hx hy fun h' a1 a3 a4 a5 a6 a7 => wpAny_pure (hQ h' _ _ _ _ a1 (.inr ⟨T, rfl⟩) (a7 _ _ D.TOz D.TOi1 D.TOi2 hTO) a3 a4 a5 a6 fun c o c1 _ c3 c4 e => a7 c o c1 c3 c4 e)
theorem zipG_end {Q : Value → Shared → Prop} (hh : A.handled = none) (D : ZipApart z TI TO i1 i2 l1 l2)
    (hz : IsZipG s.heap z TI TO f0 f) (hf : ZipF f0) (hTI : IsPair s.heap TI (.ref i1) (.ref i2)) (hTO : IsPair s.heap TO a b)
    (h1 : s.heap.IsListIter i1 l1 k1) (h2 : s.heap.IsListIter i2 l2 k2) (hl1 : s.heap.IsList l1 xs) (hl2 : s.heap.IsList l2 ys) (hend : xs[k1]? = none ∨ ys[k2]? = none)
    (hE : ∀ h' e, (∀ c o, c ≠ z → c ≠ TO → c ≠ i1 → c ≠ i2 → s.heap.get? c = some o → h'.get? c = some o) → (∃ o, h'.get? e = some o ∧ o.cls = .type "StopIteration") → E (.ref e) { s with heap := h' }) :
    wpAny (model prog w) A (Builtin.SmallTypes.nextOf (.ref z)) Q E s := by
  have hTy : s.TypeIs (.ref z) "zip" := ⟨_, hz, rfl⟩
  unfold Builtin.SmallTypes.nextOf
  refine wpAny_bind (wpAny_callSpecial?_slot (name := Str.ofString "__next__") hTy F.slot_zip_next (wpAny_call_entry F.slot_zip_next hTy F.entry_zip_next ?_ (F.args_zip_next_1 _)))
  rcases hf with rfl | ⟨T, rfl⟩
  · exact zipG_free_end hh D hz (.inl rfl) hTI hTO h1 h2 hl1 hl2 hend hE
  · cases hT : s.heap.get? T with
    | none => exact zipG_free_end hh D hz (.inr ⟨T, rfl, hT⟩) hTI hTO h1 h2 hl1 hl2 hend hE
    | some oT => exact zip_next_end_held hh D (show IsZipHeld s.heap z TI TO T f from hz) hT hTI h1 h2 hl1 hl2 hend fun h' e hk he => hE h' e (fun c o c1 _ c3 c4 x => hk c o c1 c3 c4 x) he
end
end TL
set_option Elab.async false
set_option linter.all false
set_option maxRecDepth 100000
set_option maxHeartbeats 2000000
namespace TL
open PySem PySem.Spec L2
open PyProof.Rows hiding St
section
variable {prog : Program} {w : World} {A : Around} {E : Value → Shared → Prop} {s : Shared}
theorem enumG_item {e it : Addr} {c : Int} {old : Value} {R : Value → Heap → Nat → Prop} {Q : Option Value → Shared → Prop} (he : IsEnum s.heap e it c old)
    (D : ∀ (Q' E' : Value → Shared → Prop), (∀ x h₁ tk, R x h₁ tk → h₁.get? e = s.heap.get? e → Q' x { s with heap := h₁, toks := tk }) → wpAny (model prog w) A.in1 (Builtin.SmallTypes.nextOf (.ref it)) Q' E' s)
    (hQ : ∀ x h₁ tk h', R x h₁ tk → IsEnumOut h' e it (c + 1) x h₁.objs.size → h'.get? h₁.objs.size = some { cls := .type "tuple", data := .seq #[.int c tk, x] } → h'.objs.size = h₁.objs.size + 1 →
      (∀ b o, b ≠ e → h₁.get? b = some o → h'.get? b = some o) → Q (some (.ref h₁.objs.size)) { s with heap := h', toks := tk + 1 }) :
    wpAny (model prog w) A (pyNext (.ref e)) Q E s := by
  have hTy : s.TypeIs (.ref e) "enumerate" := ⟨_, he, rfl⟩
  unfold pyNext
  refine wpAny_bind (wpAny_attempt (wpAny_callSpecial?_slot (name := Str.ofString "__next__") hTy F.slot_enumerate_next
    (wpAny_call_entry F.slot_enumerate_next hTy F.entry_enumerate_next ?_ (F.args_enumerate_next_1 _))))
  obtain ⟨hp, g, d, tk₀, os⟩ := s
  show wpAny _ _ (field (.ref e) 2 >>= _) _ _ _
  refine wpAny_bind (wpAny_field he rfl (x := .ref it) rfl ?_)
  refine wpAny_bind (D _ _ fun x h₁ tk hR heq => ?_)
  have he₁ : IsEnum h₁ e it c old := heq.trans he
  show wpAny _ _ (field (.ref e) 3 >>= _) _ _ ⟨h₁, g, d, tk, os⟩
  refine wpAny_bind (wpAny_field he₁ rfl (x := rawInt c) rfl ?_)
  show wpAny _ _ (field (.ref e) 4 >>= _) _ _ ⟨h₁, g, d, tk, os⟩
  refine wpAny_bind (wpAny_field he₁ rfl (x := .none) rfl ?_)
  show wpAny _ _ (mkInt c >>= _) _ _ ⟨h₁, g, d, tk, os⟩
  refine wpAny_bind (wpAny_mkInt ?_)
  show wpAny _ _ (setField (.ref e) 3 (rawInt (c + 1)) >>= _) _ _ ⟨h₁, g, d, tk + 1, os⟩
  refine wpAny_bind (wpAny_setField_rec he₁ (by simp) fun h₂ he₂ hs₂ => ?_)
  replace hs₂ : Heap.SameBut e h₁ h₂ := hs₂
  replace he₂ : IsEnum h₂ e it (c + 1) old := he₂
  show wpAny _ _ (setField (.ref e) 4 .none >>= _) _ _ ⟨h₂, g, d, tk + 1, os⟩
  refine wpAny_bind (wpAny_setField_rec he₂ (by simp) fun h₃ he₃ hs₃ => ?_)
  replace hs₃ : Heap.SameBut e h₂ h₃ := hs₃
  replace he₃ : IsEnum h₃ e it (c + 1) old := he₃
  show wpAny _ _ (newTuple [.int c tk, x] >>= _) _ _ ⟨h₃, g, d, tk + 1, os⟩
  refine wpAny_bind (wpAny_newTuple ?_)
  have he₄ : IsEnum (h₃.push { cls := .type "tuple", data := .seq #[.int c tk, x] }) e it (c + 1) old := Heap.get?_push_of_some _ he₃
  generalize hh₄ : h₃.push { cls := .type "tuple", data := .seq #[.int c tk, x] } = h₄ at he₄
  have hsz : h₃.objs.size = h₁.objs.size := by rw [hs₃.1, hs₂.1]
  have hel : e < h₁.objs.size := Heap.lt_size he₁
  have ht₄ : h₄.get? h₁.objs.size = some { cls := .type "tuple", data := .seq #[.int c tk, x] } := by rw [← hh₄, ← hsz]; exact Heap.get?_push_size _ rfl
  have hz₄ : h₄.objs.size = h₁.objs.size + 1 := by rw [← hh₄, Heap.size_push, hsz]
  have hk₄ : ∀ b o, b ≠ e → h₁.get? b = some o → h₄.get? b = some o := fun b o hbe hb => by
    rw [← hh₄]; exact Heap.get?_push_of_some _ (hs₃.extBut b o hbe (hs₂.extBut b o hbe hb))
  show wpAny _ _ (Builtin.SmallTypes.ownedTupleIsFree (.ref e) >>= _) _ _ ⟨h₄, g, d, tk + 1, os⟩
  rw [hsz]
  clear hh₄ he₃ hs₃ he₂ hs₂ hsz h₃ h₂
  refine wpAny_bind ?_
  · unfold Builtin.SmallTypes.ownedTupleIsFree
    refine wpAny_bind (wpAny_field he₄ rfl (x := .none) rfl (wpAny_pure ?_))
    simp only [if_true]
    refine wpAny_bind (wpAny_rule ?_)
    refine wpAny_bind (wpAny_field he₄ rfl (x := old) rfl ?_)
    refine wpAny_bind (wpAny_setField_rec he₄ (by simp) fun h₅ he₅ hs₅ => ?_)
    replace hs₅ : Heap.SameBut e h₄ h₅ := hs₅
    replace he₅ : IsEnum h₅ e it (c + 1) x := he₅
    show wpAny _ _ (Builtin.SmallTypes.ownedTupleHandOut (.ref e) (.ref h₁.objs.size) >>= _) _ _ ⟨h₅, g, d, tk + 1, os⟩
    refine wpAny_bind ?_
    · unfold Builtin.SmallTypes.ownedTupleHandOut
      refine wpAny_bind (wpAny_setField_rec he₅ (by simp) fun h₆ he₆ hs₆ => ?_)
      replace hs₆ : Heap.SameBut e h₅ h₆ := hs₆
      replace he₆ : IsEnumOut h₆ e it (c + 1) x h₁.objs.size := he₆
      refine wpAny_setField_rec he₆ (by simp) fun h₇ he₇ hs₇ => ?_
      replace hs₇ : Heap.SameBut e h₆ h₇ := hs₇
      replace he₇ : IsEnumOut h₇ e it (c + 1) x h₁.objs.size := he₇
      refine wpAny_bind (wpAny_letGo (wpAny_pure ⟨_, rfl, wpAny_pure (hQ x h₁ tk h₇ hR he₇ ?_ ?_ ?_)⟩))
      · exact hs₇.extBut _ _ (Nat.ne_of_gt hel) (hs₆.extBut _ _ (Nat.ne_of_gt hel) (hs₅.extBut _ _ (Nat.ne_of_gt hel) ht₄))
      · rw [hs₇.1, hs₆.1, hs₅.1, hz₄]
      · exact fun b o hbe hb => hs₇.extBut b o hbe (hs₆.extBut b o hbe (hs₅.extBut b o hbe (hk₄ b o hbe hb)))
theorem enumG_end {e it : Addr} {c : Int} {old : Value} {R : Heap → Prop} {Q : Option Value → Shared → Prop} (he : IsEnum s.heap e it c old)
    (D : ∀ (Q' E' : Value → Shared → Prop), (∀ h' x, R h' → (∃ o, h'.get? x = some o ∧ o.cls = .type "StopIteration") → E' (.ref x) { s with heap := h' }) → wpAny (model prog w) A.in1 (Builtin.SmallTypes.nextOf (.ref it)) Q' E' s)
    (hQ : ∀ h', R h' → Q none { s with heap := h' }) : wpAny (model prog w) A (pyNext (.ref e)) Q E s := by
  have hT : s.TypeIs (.ref e) "enumerate" := ⟨_, he, rfl⟩
  unfold pyNext
  refine wpAny_bind (wpAny_attempt (wpAny_callSpecial?_slot (name := Str.ofString "__next__") hT F.slot_enumerate_next
    (wpAny_call_entry F.slot_enumerate_next hT F.entry_enumerate_next ?_ (F.args_enumerate_next_1 _))))
  show wpAny _ _ (field (.ref e) 2 >>= _) _ _ _
  refine wpAny_bind (wpAny_field he rfl (x := .ref it) rfl ?_)
  refine wpAny_bind (D _ _ fun h' x hR hx' => ?_)
  obtain ⟨o, ho, hc⟩ := hx'
  refine wpAny_bind (wpAny_isInstance (T := "StopIteration") (b := true) ⟨o, ho, hc⟩ isSubtype_stop ?_)
  exact wpAny_pure (hQ _ hR)
end
def ItEZ (K : PySem.W.Frag) (a b : Addr) : It :=
  ⟨fun i H => ∃ (xs ys : List V) (x y : V), SqL K H a xs ∧ SqL K H b ys ∧ xs[i]? = some x ∧ ys[i]? = some y,
    fun i H v H' => ∃ T U x y, v = .ref U ∧ H T = none ∧ upd H T (.tup [x, y]) U = none ∧ H' = upd (upd H T (.tup [x, y])) U (.tup [.int (i : Nat), .ref T]) ∧ (∀ xs, SqL K H a xs → xs[i]? = some x) ∧ ∀ ys, SqL K H b ys → ys[i]? = some y,
    fun i H => ∃ xs ys : List V, SqL K H a xs ∧ SqL K H b ys ∧ (xs.length ≤ i ∨ ys.length ≤ i)⟩
def EzSt (e z TI TO i1 i2 a b : Addr) (i : Nat) (h : Heap) : Prop :=
  (∃ old, IsEnum h e z ((i : Nat) : Int) old) ∧ (∃ f0 f, IsZipG h z TI TO f0 f ∧ ZipF f0) ∧ IsPair h TI (.ref i1) (.ref i2) ∧ (∃ x y, IsPair h TO x y) ∧ h.IsListIter i1 a i ∧ h.IsListIter i2 b i
theorem turn_ez {P : Program} {w : World} {K : PySem.W.Frag} {elts : List Expr} {kk : Nat} {tpos : Pos} {a b e z TI TO i1 i2 : Addr} (D : ZipApart z TI TO i1 i2 a b) (ne : e ≠ z ∧ e ≠ TI ∧ e ≠ TO ∧ e ≠ i1 ∧ e ≠ i2) :
    Turn P w K (.Tuple elts kk tpos) (ItEZ K a b) [e, z, TI, TO, i1, i2] e (EzSt e z TI TO i1 i2 a b) where
  mem := by simp
  obj := fun i h st c hc => by
    obtain ⟨⟨old, he⟩, ⟨f0, f, hz, _⟩, hTI, ⟨x, y, hTO⟩, ⟨o1, e1, _, d1⟩, ⟨o2, e2, _, d2⟩⟩ := st
    have e' : c = e ∨ c = z ∨ c = TI ∨ c = TO ∨ c = i1 ∨ c = i2 := by simpa using hc
    rcases e' with q | q | q | q | q | q
    · rw [q]; exact ⟨_, he, fun v q => nomatch q⟩
    · rw [q]; exact ⟨_, hz, fun v q => nomatch q⟩
    · rw [q]; exact ⟨_, hTI, fun v q => nomatch q⟩
    · rw [q]; exact ⟨_, hTO, fun v q => nomatch q⟩
    · rw [q]; exact ⟨o1, e1, fun v q => by rw [d1] at q; cases q⟩
    · rw [q]; exact ⟨o2, e2, fun v q => by rw [d2] at q; cases q⟩
  keep := fun i h h' st k => by
    obtain ⟨⟨old, he⟩, ⟨f0, f, hz, hf⟩, hTI, ⟨x, y, hTO⟩, h1, h2⟩ := st
    exact ⟨⟨old, k e (by simp) _ he⟩, ⟨f0, f, k z (by simp) _ hz, hf⟩, k TI (by simp) _ hTI, ⟨x, y, k TO (by simp) _ hTO⟩, h1.at fun o q => k i1 (by simp) o q, h2.at fun o q => k i2 (by simp) o q⟩
  item := by
    intro X hP hw hK hc i pins s σ H E I hf st hg
    subst hP hw hK
    obtain ⟨⟨old, he⟩, ⟨f0, f, hz, hf0⟩, hTI, ⟨x0, y0, hTO⟩, h1, h2⟩ := st
    obtain ⟨xs, ys, x, y, hqx, hqy, hx, hy⟩ := hg
    obtain ⟨its, rv, p, _⟩ := I.list hqx
    obtain ⟨its2, rv2, p2, _⟩ := I.list hqy
    obtain ⟨u, hu, ru⟩ := rv.get hx
    obtain ⟨u2, hu2, ru2⟩ := rv2.get hy
    obtain ⟨n1, n2, n3, n4, n5⟩ := ne
    have hel : e < s.heap.objs.size := Heap.lt_size he
    have hcl : ∀ c ∈ [e, z, TI, TO, i1, i2], c < s.heap.objs.size := fun c hcm => by
      have e' : c = e ∨ c = z ∨ c = TI ∨ c = TO ∨ c = i1 ∨ c = i2 := by simpa using hcm
      rcases e' with q | q | q | q | q | q
      · rw [q]; exact hel
      · rw [q]; exact Heap.lt_size hz
      · rw [q]; exact Heap.lt_size hTI
      · rw [q]; exact Heap.lt_size hTO
      · rw [q]; obtain ⟨_, e1, _⟩ := h1; exact Heap.lt_size e1
      · rw [q]; obtain ⟨_, e2, _⟩ := h2; exact Heap.lt_size e2
    refine enumG_item (R := fun v h₁ tk => v = .ref s.heap.objs.size ∧ tk = s.toks ∧ (∃ f0' f' a' b', IsZipG h₁ z TI TO f0' f' ∧ ZipF f0' ∧ IsPair h₁ TO a' b') ∧ h₁.IsListIter i1 a (i + 1) ∧ h₁.IsListIter i2 b (i + 1) ∧ IsPair h₁ s.heap.objs.size u u2 ∧ h₁.objs.size = s.heap.objs.size + 1 ∧
        (∀ c o, c ≠ z → c ≠ TO → c ≠ i1 → c ≠ i2 → s.heap.get? c = some o → h₁.get? c = some o)) he (fun Q' E' hq => zipG_item D hz hf0 hTI hTO h1 h2 p.isList p2.isList (x := u) (y := u2) (by simpa using hu) (by simpa using hu2) fun h' f0' f' a' b' b1 b2 b3 b4 b5 b6 b7 b8 =>
        hq (.ref s.heap.objs.size) h' s.toks ⟨rfl, rfl, ⟨f0', f', a', b', b1, b2, b3⟩, b4, b5, b6, b7, b8⟩ ((b8 e _ n1 n3 n4 n5 he).trans he.symm)) fun v h₁ tk h' hR ho hU hsz hk => ?_
    obtain ⟨rfl, rfl, ⟨f0', f', a', b', b1, b2, b3⟩, b4, b5, b6, b7, b8⟩ := hR
    have he1 : e < h₁.objs.size := by
      rw [b7]
      exact Nat.lt_succ_of_lt hel
    refine ⟨_, rfl, wpAny_letOwnedTupleGo_enum (s := { s with heap := h', toks := s.toks + 1 }) ho fun h'' he' sb => ?_⟩
    have I1 : L2.Inv X pins σ (upd H s.heap.objs.size (.tup [x, y])) { s with heap := h₁, toks := s.toks } :=
      I.turnedNew (t' := s.toks) (ch := [z, TO, i1, i2]) (fun c o hb q => b8 c o (fun q' => hb (by simp [q'])) (fun q' => hb (by simp [q'])) (fun q' => hb (by simp [q'])) (fun q' => hb (by simp [q'])) q) (fun c hcm => hf c (by
        have e' : c = z ∨ c = TO ∨ c = i1 ∨ c = i2 := by simpa using hcm
        rcases e' with q | q | q | q <;> simp [q])) (Nat.le_refl _) ⟨by show 2 ≤ sizeLine; decide, [u, u2], .cons ru (.cons ru2 .nil), ⟨_, b6, rfl, _, rfl⟩⟩
    have nH : ∀ c ∈ [e, z, TI, TO, i1, i2], upd H s.heap.objs.size (.tup [x, y]) c = none := fun c hcm => by
      rw [upd_ne (Nat.ne_of_lt (hcl c hcm))]
      exact (hf c hcm).1
    have hU2 : h''.get? h₁.objs.size = some { cls := .type "tuple", data := .seq #[.int i s.toks, .ref s.heap.objs.size] } := (sb.2 _ (Nat.ne_of_gt he1)).trans hU
    have kk' : ∀ c o, c ∉ [e] → h₁.get? c = some o → h''.get? c = some o := fun c o hb q => by
      have hce : c ≠ e := fun q' => hb (by simp [q'])
      exact (sb.2 c hce).trans (hk c o hce q)
    have fe : ∀ c ∈ [e], FpOk X pins (upd H s.heap.objs.size (.tup [x, y])) c := fun c hcm => by
      have q : c = e := by simpa using hcm
      subst q
      obtain ⟨f1, f2, f3, f4, f5, f6⟩ := hf c (by simp)
      exact ⟨nH c (by simp), f2, f3, f4, f5, f6⟩
    have I2 : L2.Inv X pins σ (upd (upd H s.heap.objs.size (.tup [x, y])) h₁.objs.size (.tup [.int (i : Nat), .ref s.heap.objs.size])) { s with heap := h'', toks := s.toks + 1 } :=
      I1.turnedNew (t' := s.toks + 1) (ch := [e]) kk' fe (Nat.le_refl _) ⟨by show 2 ≤ sizeLine; decide, [.int i s.toks, .ref s.heap.objs.size], .cons ⟨_, rfl⟩ (.cons rfl .nil), ⟨_, hU2, rfl, _, rfl⟩⟩
    have kp : ∀ c ∈ [z, TI, TO, i1, i2], ∀ o, h₁.get? c = some o → h''.get? c = some o := fun c hcm o q => kk' c o (fun q' => by
      have q' : c = e := by simpa using q'
      have e' : c = z ∨ c = TI ∨ c = TO ∨ c = i1 ∨ c = i2 := by simpa using hcm
      rcases e' with r | r | r | r | r
      · exact n1 (q'.symm.trans r)
      · exact n2 (q'.symm.trans r)
      · exact n3 (q'.symm.trans r)
      · exact n4 (q'.symm.trans r)
      · exact n5 (q'.symm.trans r)) q
    refine ⟨.ref h₁.objs.size, _, I2, rfl, ⟨_, _, x, y, rfl, I.hok.fresh (Nat.le_refl _), I1.hok.fresh (Nat.le_refl _), rfl, fun l hl => by rw [I.list_inj hl hqx]; exact hx, fun l hl => by rw [I.list_inj hl hqy]; exact hy⟩, ⟨⟨.ref s.heap.objs.size, ?_⟩, ⟨f0', f', kp z (by simp) _ b1, b2⟩, ?_, ⟨a', b', kp TO (by simp) _ b3⟩, ?_, ?_⟩, fun c hcm => ?_⟩
    · rw [show ((i + 1 : Nat) : Int) = (i : Int) + 1 by omega]
      exact he'
    · exact kp TI (by simp) _ (b8 _ _ D.TIz D.TITO D.TIi1 D.TIi2 hTI)
    · exact b4.at fun o q => kp i1 (by simp) o q
    · exact b5.at fun o q => kp i2 (by simp) o q
    · rw [upd_ne (Nat.ne_of_lt (by rw [b7]; exact Nat.lt_succ_of_lt (hcl c hcm)))]
      exact nH c hcm
  done := by
    intro X hP hw hK hc i pins s σ H E I hf st hg
    subst hP hw hK
    obtain ⟨⟨old, he⟩, ⟨f0, f, hz, hf0⟩, hTI, ⟨x0, y0, hTO⟩, h1, h2⟩ := st
    obtain ⟨xs, ys, hqx, hqy, hend⟩ := hg
    obtain ⟨its, rv, p, _⟩ := I.list hqx
    obtain ⟨its2, rv2, p2, _⟩ := I.list hqy
    have l1 := rv.length
    have l2 := rv2.length
    have hn : its.toArray[i]? = none ∨ its2.toArray[i]? = none := by
      rcases hend with q | q
      · exact .inl (by simp; omega)
      · exact .inr (by simp; omega)
    refine enumG_end (R := fun h' => ∀ c o, c ≠ z → c ≠ TO → c ≠ i1 → c ≠ i2 → s.heap.get? c = some o → h'.get? c = some o) he (fun Q' E' hq => zipG_end (show X.A.in1.handled = none from I.ok.hd hc) D hz hf0 hTI hTO h1 h2 p.isList p2.isList hn fun h' e' hk he' => hq h' e' hk he') fun h' hk => ⟨rfl, ?_⟩
    exact I.turnedL (t' := s.toks) (ch := [e, z, TI, TO, i1, i2]) (fun c o hb q => hk c o (fun q' => hb (by simp [q'])) (fun q' => hb (by simp [q'])) (fun q' => hb (by simp [q'])) (fun q' => hb (by simp [q'])) q) hf
  self := fun A i s Q E st h => by
    obtain ⟨⟨_, he⟩, _⟩ := st
    exact wpAny_pyIter_enum he h
end TL
set_option Elab.async false
set_option linter.all false
set_option maxRecDepth 100000
set_option maxHeartbeats 2000000
namespace TL
open PySem PySem.Spec L2
open PyProof.Rows hiding St
open RZ
set_option maxHeartbeats 1000000 in
theorem enum_newZ (z TI TO : Addr) :
    Meets (Builtin.«enumerate.__new__» ⟨[.type "enumerate", .ref z], []⟩) (fun _ R s => IsZip s.heap z TI TO .none ∧
      R (.ok (.ret (.ref s.heap.objs.size))) { s with heap := s.heap.push { cls := .type "enumerate", data := .fields #[.none, .bool false, .ref z, rawInt 0, .none, .none] } }) :=
  .of_wp fun prog w A R s h => by
    obtain ⟨hp, g, d, tk, os⟩ := s; obtain ⟨hz, h⟩ := h
    have hsub := sub_enumerate
    have hZ : IsZip (Shared.heap ⟨hp, g, d, tk, os⟩) z TI TO .none := hz
    wp_walk using PySem.AutoSeq1.wpAny_loadPart' hz
    refine wpAny_stack_any fun st => wpAny_pure ?_
    split
    · rename_i c _ _ _ _ _
      cases (c == Value.type "enumerate")
      · wp_walk using PySem.AutoSeq1.wpAny_loadPart' hz, wpAny_pyIter_zip hZ
        exact ⟨_, rfl, h⟩
      · wp_walk using PySem.AutoSeq1.wpAny_loadPart' hz, wpAny_pyIter_zip hZ
        exact ⟨_, rfl, h⟩
    · wp_walk using PySem.AutoSeq1.wpAny_loadPart' hz, wpAny_pyIter_zip hZ
      exact ⟨_, rfl, h⟩
theorem call_enumZ {prog : Program} {w : World} {A : Around} {E : Value → Shared → Prop} {s : Shared} {z TI TO : Addr} {Q : Value → Shared → Prop} (hz : IsZip s.heap z TI TO .none)
    (q : ∀ h', IsEnum h' s.heap.objs.size z 0 .none → h'.objs.size = s.heap.objs.size + 1 → (∀ b o, s.heap.get? b = some o → h'.get? b = some o) → Q (.ref s.heap.objs.size) { s with heap := h' }) :
    wpAny (model prog w) A (call (.type "enumerate") [.ref z]) Q E s := by
  refine callType_new F.called_enumerate (by decide) (F.typeCall_enumerate_1 _) (F.newCall_enumerate_1 _) (fun o => F.args_object_init_2 o _) F.entry_enumerate_new (enum_newZ z TI TO) ⟨hz, ?_⟩
  have e1 := Heap.get?_push_size s.heap (o := { cls := .type "enumerate", data := .fields #[.none, .bool false, .ref z, rawInt 0, .none, .none] }) rfl
  exact ⟨⟨_, e1, rfl⟩, q _ e1 (Heap.size_push ..) fun b o y => Heap.get?_push_of_some _ y⟩
def fiEZ (Fs : FA) : FI := fun τ S => (Fs τ S).bind fun ts S1 => match ts with
  | [.lst xs, .lst ys] => .ok (numbT (pairT xs ys)) S1
  | _ => .stuck
theorem Src.ez {K : PySem.W.Frag} {H : Hp} {μ : Mu} {a b : Addr} {ws us : List V} {xs ys : List T} (f : OL K H μ a ws) (g : OL K H μ b us) (r : Rels K H μ xs ws) (r' : Rels K H μ ys us) : Src K (ItEZ K a b) (numbT (pairT xs ys)) μ H := fun μ2 H2 E => by
  have f2 : OL K H2 μ2 a ws := f.imp E.fix id
  have g2 : OL K H2 μ2 b us := g.imp E.fix id
  have hq : SqL K H2 a ws := f2.imp (fun z => z.1) id
  have hq' : SqL K H2 b us := g2.imp (fun z => z.1) id
  have rw1 := Rels.mono E xs r
  have rw2 := Rels.mono E ys r'
  refine ⟨fun i z ei => ?_, fun i hi => ⟨ws, us, hq, hq', ?_⟩⟩
  · obtain ⟨pz, ep, rfl⟩ := zip_range ei
    obtain ⟨x, y, ex, ey, rfl⟩ := pair_at ep
    obtain ⟨v, ev, rv⟩ := rw1.get ex
    obtain ⟨v', ev', rv'⟩ := rw2.get ey
    refine ⟨⟨ws, us, v, v', hq, hq', ev, ev'⟩, fun u H3 y => ?_⟩
    obtain ⟨T', U', x', y', rfl, nT, nU, rfl, hx', hy'⟩ := y
    have h1 := hx' ws hq
    have h2 := hy' us hq'
    rw [ev] at h1
    rw [ev'] at h2
    cases h1
    cases h2
    have sm := fresh_same (o := .tup [v, v']) nT
    have sm2 := fresh_same (o := .tup [.int (i : Nat), .ref T']) nU
    refine ⟨sm.trans sm2, fun S s => ?_⟩
    have q1 := rel_tup s nT (ts := [_, _]) (by simp only [Rels, Rel]; exact ⟨v, [v'], rfl, rv, v', [], rfl, rv', rfl⟩)
    have s1 := s.same sm
    exact rel_tup s1 nU (by simp only [Rels]; exact ⟨_, _, rfl, by simp only [Rel], _, [], rfl, q1, rfl⟩)
  · have e0 : (numbT (pairT xs ys)).length = (pairT xs ys).length := by simp [numbT]
    rw [e0, pair_len, rw1.length, rw2.length] at hi
    omega
theorem pfi_enumZip {X : Cx} {wx : WT} {e e2 : Expr} {Fs : FA} {p p2 pos pos2 tpos : Pos} {elts : List Expr} {kk : Nat} (ha : PFA X wx [e, e2] Fs) (hm : X.mg "enumerate" = none) (hm2 : X.mg "zip" = none) (hg : Gl X "enumerate" := by rfl) (hg2 : Gl X "zip" := by rfl)
    (hs : starEach [e, e2] X.env = (false, eval e X.env) :: starEach [e2] X.env := by rfl) (hpl : (backTo pos2 (starEach [e2] X.env)).any (·.1) = false := by rfl)
    (hs2 : starEach [Expr.Call (.Name "zip" p2) [e, e2] [] pos2] X.env = [(false, eval (.Call (.Name "zip" p2) [e, e2] [] pos2) X.env)] := by rfl) :
    PFI X wx (.Tuple elts kk tpos) (.Call (.Name "enumerate" p) [.Call (.Name "zip" p2) [e, e2] [] pos2] [] pos) (fiEZ Fs) := by
  refine ⟨fun pins s σ H R I h => ?_⟩
  obtain ⟨μ, τ, S, st, f, h⟩ := h
  refine Call_ (ld_blt I hg hm boot_enumerate (PyProof.Rows.callWith_type1 (T := "enumerate") ?_ hs2 rfl))
  rw [hs2]
  show wpAny _ _ (spliced [(false, eval (.Call (.Name "zip" p2) [e, e2] [] pos2) X.env)]) _ _ s
  refine Calls.spliced_cons (wpAny_mono (Q := fun v s1 => ∃ (μ1 : Mu) (S1 : Sto) (xs ys : List T) (z TI TO i1 i2 a b : Addr) (vs us : List V) (H1 : Hp), v = .ref z ∧ L2.Inv X pins σ H1 s1 ∧ At X.K μ H τ σ (rVs X.K) μ1 H1 [.lst xs, .lst ys] [.ref a, .ref b] S1 ∧ OL X.K H1 μ1 a vs ∧ OL X.K H1 μ1 b us ∧ Rels X.K H1 μ1 xs vs ∧ Rels X.K H1 μ1 ys us ∧ (∀ J, Src X.K J (numbT (pairT xs ys)) μ1 H1 → R J H1) ∧
      ZipApart z TI TO i1 i2 a b ∧ IsZip s1.heap z TI TO .none ∧ IsPair s1.heap TI (.ref i1) (.ref i2) ∧ (∃ x y, IsPair s1.heap TO x y) ∧ s1.heap.IsListIter i1 a 0 ∧ s1.heap.IsListIter i2 b 0 ∧ (∀ c ∈ [z, TI, TO, i1, i2], FpOk X pins H1 c)) ?_ (fun v s1 hq => Calls.spliced_nil ?_) fun _ _ e => e)
  · refine Call_ (ld_blt I hg2 hm2 PyProof.Rows.boot_zip (PyProof.Rows.callWith_type1 (T := "zip") (thn (ha.run pos2 pins s σ H (fun vs H1 => ∃ μ1 S1 xs ys, At X.K μ H τ σ (rVs X.K) μ1 H1 [.lst xs, .lst ys] vs S1 ∧ ∀ J, Src X.K J (numbT (pairT xs ys)) μ1 H1 → R J H1) I ?_) fun us s1 q1 => ?_) hs hpl))
    · refine tG.seq st f h fun μ1 H1 ts vs S1 A1 h1 => ?_
      split at h1
      · rename_i xs ys
        exact ⟨μ1, S1, xs, ys, A1, fun J hJ => h1.here A1.st hJ⟩
      · exact h1.elim
    · obtain ⟨vs, H1, I1, r1, μ1, S1, xs, ys, A1, hR⟩ := q1
      obtain ⟨v, w, rfl, ra, rb⟩ := rels2 (show Rels X.K H1 μ1 [.lst xs, .lst ys] vs from A1.rel)
      simp only [Rel] at ra rb
      obtain ⟨a, ws, rfl, o, r⟩ := ra
      obtain ⟨b, ws', rfl, o', r'⟩ := rb
      cases r1 with
      | cons x1 rr =>
      cases rr with
      | cons x2 rr =>
      cases rr
      cases x1
      cases x2
      have oa : OL X.K H1 μ1 a ws := .inl ⟨.inl o.1, o.2⟩
      have ob : OL X.K H1 μ1 b ws' := .inl ⟨.inl o'.1, o'.2⟩
      obtain ⟨its, rv, p1, _⟩ := I1.list (oa.imp (fun z => z.1) id)
      obtain ⟨its2, rv2, p2', _⟩ := I1.list (ob.imp (fun z => z.1) id)
      refine call_zip_2 p1.isList p2'.isList fun h' hz hTI hTO h1 h2 hsz hk => ?_
      have I2 : L2.Inv X pins σ H1 { s1 with heap := h' } := I1.kept (t' := s1.toks) hk
      refine ⟨μ1, S1, xs, ys, s1.heap.objs.size + 4, s1.heap.objs.size + 2, s1.heap.objs.size + 3, s1.heap.objs.size, s1.heap.objs.size + 1, a, b, ws, ws', H1, rfl, I2, A1, oa, ob, r, r', hR, PySem.W.ktu_apart s1.heap.objs.size a b p1.lt p2'.lt, hz, hTI, ⟨_, _, hTO⟩, h1, h2, fun c hcm => ?_⟩
      have e' : c = s1.heap.objs.size + 4 ∨ c = s1.heap.objs.size + 2 ∨ c = s1.heap.objs.size + 3 ∨ c = s1.heap.objs.size ∨ c = s1.heap.objs.size + 1 := by simpa using hcm
      have hle : s1.heap.objs.size ≤ c := by
        rcases e' with z | z | z | z | z
        · rw [z]; exact Nat.le_add_right _ _
        · rw [z]; exact Nat.le_add_right _ _
        · rw [z]; exact Nat.le_add_right _ _
        · rw [z]; exact Nat.le_refl _
        · rw [z]; exact Nat.le_add_right _ _
      exact I1.fpOk hle (I1.hok.fresh hle)
  · obtain ⟨μ1, S1, xs, ys, z, TI, TO, i1, i2, a, b, vs, us, H1, rfl, I1, A1, oa, ob, ra, rb, hR, D, hz, hTI, ⟨x0, y0, hTO⟩, h1, h2, hf⟩ := hq
    refine call_enumZ hz fun h' he hsz hk => wpAny_pyIter_enum he ?_
    have I2 : L2.Inv X pins σ H1 { s1 with heap := h' } := I1.kept (t' := s1.toks) hk
    have lt : ∀ {c : Addr} {o : Obj}, s1.heap.get? c = some o → s1.heap.objs.size ≠ c := fun e => Nat.ne_of_gt (Heap.lt_size e)
    refine ⟨s1.heap.objs.size, [s1.heap.objs.size, z, TI, TO, i1, i2], _, _, H1, rfl, I2, turn_ez D ⟨lt hz, lt hTI, lt hTO, by obtain ⟨_, e1, _⟩ := h1; exact lt e1, by obtain ⟨_, e2, _⟩ := h2; exact lt e2⟩, ⟨⟨.none, he⟩, ⟨.none, false, hk _ _ hz, .inl rfl⟩, hk _ _ hTI, ⟨x0, y0, hk _ _ hTO⟩, h1.at fun o q => hk _ o q, h2.at fun o q => hk _ o q⟩, fun c hcm => ?_, hR _ (Src.ez oa ob ra rb)⟩
    rcases List.mem_cons.mp hcm with q | q
    · rw [q]
      exact I1.fpOk (Nat.le_refl _) (I1.hok.fresh (Nat.le_refl _))
    · exact hf c q
end TL
set_option Elab.async false
set_option linter.all false
set_option maxRecDepth 100000
namespace SF
open PySem PySem.Spec L2 TL
open PyProof.Rows hiding St
noncomputable def b__law_begin : BS := (bSeq (bSet 1 (fIf (fTest (fBin neT (fVar 0) (fPure (fLstN fNil)))) (fPure (fBlt listT (fCons (fVar 0) fNil))) (fPure (fLstN (fCons (fC (.int 0)) fNil))))) (bRet (fCell (fDisp (((fC (.str "cells")), (fVar 1)) :: (((fC (.str "lefts")), (fCell (fLc (fiA (fVar 1)) (sName 2) fYes (fIf (fTest (fBin geT (fVar 2) (fBin powT (fC (.int 10)) (fC (.int 18))))) (fVar 2) (fC (.int 0))) [2]))) :: (((fC (.str "at")), (fC (.int 0))) :: (((fC (.str "room")), (fC (.int 0))) :: []))))))))
noncomputable def m__law_begin : FF := body ["script", "cells", "cell"] 1 b__law_begin
noncomputable def b__law_mixed : BS := (bSeq (bSet 0 (fBin modT (fBlt intT (fCons (fVar 0) fNil)) (fC (.int 2147483647)))) (bRet (fBin modT (fBin mulT (fBin modT (fBin addT (fBin addT (fBin mulT (fVar 0) (fBin addT (fC (.int 48271)) (fBin mulT (fBin mulT (fC (.int 2)) (fVar 1)) (fVar 1)))) (fBin mulT (fC (.int 69621)) (fVar 1))) (fC (.int 11))) (fC (.int 2147483647))) (fC (.int 69621))) (fC (.int 2147483629)))))
noncomputable def m__law_mixed : FF := body ["cell", "k"] 2 b__law_mixed
noncomputable def b__law_draw : BS := (bSeq (bSet 2 (fBin ixT (fVar 0) (fC (.str "at")))) (bSeq (bStore (fVar 0) (fC (.str "at")) (fBin addT (fVar 2) (fC (.int 1)))) (bSeq (bSet 3 (fBin modT (fBlt intT (fCons (fVar 2) fNil)) (fBlt lenT (fCons (fBin ixT (fVar 0) (fC (.str "cells"))) fNil)))) (bSeq (bSet 4 (fBin ixT (fBin ixT (fVar 0) (fC (.str "lefts"))) (fVar 3))) (bSeq (bIf (fTest (fBin gtT (fVar 4) (fC (.int 0)))) (bSeq (bStore (fBin ixT (fVar 0) (fC (.str "lefts"))) (fVar 3) (fBin fdivT (fVar 4) (fVar 1))) (bRet (fBin modT (fBlt intT (fCons (fVar 4) fNil)) (fVar 1)))) bNext) (bSeq (bSet 5 (fCall m__law_mixed (fCons (fCall m__law_mixed (fCons (fBin ixT (fBin ixT (fVar 0) (fC (.str "cells"))) (fVar 3)) (fCons (fVar 2) fNil))) (fCons (fBin addT (fC (.int 40)) (fVar 2)) fNil)))) (bRet (fBin modT (fBin fdivT (fBlt intT (fCons (fBin addT (fBin mulT (fVar 5) (fC (.int 2147483647))) (fCall m__law_mixed (fCons (fVar 5) (fCons (fBin addT (fC (.int 7)) (fVar 2)) fNil)))) fNil)) (fC (.int 64))) (fVar 1)))))))))
noncomputable def m__law_draw : FF := body ["state", "many", "at", "place", "left", "number"] 2 b__law_draw
noncomputable def b__law_value : BS := (bRet (fBin ixT (fPure (fLstN (fCons (fC (.str "plain")) (fCons (fC (.str "u")) (fCons (fC (.str "v")) (fCons (fC (.str "u")) fNil)))))) (fCall m__law_draw (fCons (fVar 0) (fCons (fC (.int 4)) fNil)))))
noncomputable def m__law_value : FF := body ["state"] 1 b__law_value
noncomputable def b__law_book : BS := (bSeq (bSet 2 (fBin ixT (fPure (fLstN (fCons (fTup (fCons (fC (.str "a")) fNil)) (fCons (fTup (fCons (fC (.str "a")) (fCons (fC (.str "b")) fNil))) (fCons (fTup (fCons (fC (.str "a")) (fCons (fC (.str "b")) (fCons (fC (.str "c")) fNil)))) (fCons (fTup (fCons (fC (.str "a")) (fCons (fC (.str "b")) fNil))) fNil)))))) (fCall m__law_draw (fCons (fVar 0) (fCons (fC (.int 4)) fNil))))) (bSeq (bSet 3 (fBlt tupT (fCons (fPure (fLc (fiA (fVar 2)) (sName 8) (fTest (fBin eqT (fCall m__law_draw (fCons (fVar 0) (fCons (fC (.int 2)) fNil))) (fC (.int 0)))) (fVar 8) [8])) fNil))) (bSeq (bSet 4 (fCell (fLstN fNil))) (bSeq (bFor (fiR1 (fCons (fBin addT (fC (.int 1)) (fCall m__law_draw (fCons (fVar 0) (fCons (fVar 1) fNil)))) fNil)) (sName 5) (bSeq (bSet 6 (fBlt tupT (fCons (fPure (fLc (fiA (fVar 2)) (sName 8) (fTest (fBin eqT (fCall m__law_draw (fCons (fVar 0) (fCons (fC (.int 2)) fNil))) (fC (.int 0)))) (fTup (fCons (fVar 8) (fCons (fCall m__law_value (fCons (fVar 0) fNil)) fNil))) [8])) fNil))) (bSeq (bIf (fTest (fBin eqT (fVar 6) (fTup fNil))) (bSet 6 (fTup (fCons (fTup (fCons (fBin ixT (fVar 2) (fC (.int 0))) (fCons (fCall m__law_value (fCons (fVar 0) fNil)) fNil))) fNil))) bNext) (bSeq (bSet 7 (fBin ixT (fPure (fLstN (fCons (fC (.str "1")) (fCons (fC (.str "2")) (fCons (fC (.str "22")) (fCons (fC (.str "3;4")) (fCons (fC (.str "0")) (fCons (fC (.str "38;5;1")) (fCons (fC (.str "9")) (fCons (fC (.str "44")) fNil)))))))))) (fVar 5))) (bExpr (fApp (fVar 4) (fCons (fTup (fCons (fVar 7) (fCons (fBin ixT (fPure (fLstN (fCons (fC (.str "j")) (fCons (fC (.str "k")) (fCons (fC (.str "k")) (fCons (fC (.str "l")) fNil)))))) (fCall m__law_draw (fCons (fVar 0) (fCons (fC (.int 4)) fNil)))) (fCons (fVar 6) fNil)))) fNil))))))) (bRet (fTup (fCons (fVar 2) (fCons (fVar 3) (fCons (fBlt tupT (fCons (fVar 4) fNil)) fNil)))))))))
noncomputable def m__law_book : FF := gc (body ["state", "most", "aspects", "blank", "codes", "k", "gives", "word", "aspect"] 2 b__law_book)
noncomputable def b__law_stream : BS := (bSeq (bPar 4 5 (fCons (fPure (fLc (fiA (fBin ixT (fVar 1) (fC (.int 2)))) (sName 6) fYes (fBin ixT (fVar 6) (fC (.int 0))) [6])) (fCons (fCell (fLstN fNil)) fNil))) (bSeq (bFor (fiR1 (fCons (fCall m__law_draw (fCons (fVar 0) (fCons (fBin addT (fVar 2) (fC (.int 1))) fNil))) fNil)) (sName 3) (bIf (fTest (fBin gtT (fCall m__law_draw (fCons (fVar 0) (fCons (fC (.int 3)) fNil))) (fC (.int 0)))) (bExpr (fApp (fVar 5) (fCons (fBin ixT (fVar 4) (fCall m__law_draw (fCons (fVar 0) (fCons (fBlt lenT (fCons (fVar 4) fNil)) fNil)))) fNil))) (bExpr (fApp (fVar 5) (fCons (fBin ixT (fPure (fLstN (fCons (fC (.str "x")) (fCons (fC (.str "y")) (fCons (fC (.str "x")) (fCons (fC (.str " ")) (fCons (fC (.str "z")) (fCons (fC (.str "\n")) fNil)))))))) (fCall m__law_draw (fCons (fVar 0) (fCons (fC (.int 6)) fNil)))) fNil))))) (bRet (fBlt tupT (fCons (fVar 5) fNil)))))
noncomputable def m__law_stream : FF := gc (body ["state", "book", "most", "k", "words", "found", "code"] 3 b__law_stream)
noncomputable def b_is_short : BS := (bRet (fAnd (fBlt isiT (fCons (fVar 0) (fCons (fC (.val (.ty "str"))) fNil))) (fChain leT leT (fC (.int 1)) (fBlt lenT (fCons (fVar 0) fNil)) (fC (.int 8)))))
noncomputable def m_is_short : FF := body ["thing"] 1 b_is_short
noncomputable def b_is_word : BS := (bSeq (bIf (fOrT (fNotT (fTru (fCall m_is_short (fCons (fVar 0) fNil)))) (fOrT (fTest (fBin eqT (fBin ixT (fVar 0) (fC (.int 0))) (fC (.str ";")))) (fTest (fBin eqT (fBin ixT (fVar 0) (fUn negT (fC (.int 1)))) (fC (.str ";")))))) (bRet (fC (.bl false))) bNext) (bRet (fBlt allT (fCons (fPure (fLc (fiA (fVar 0)) (sName 1) fYes (fOr (fBin inT (fVar 1) (fC (.str "0123456789"))) (fBin eqT (fVar 1) (fC (.str ";")))) [1])) fNil))))
noncomputable def m_is_word : FF := body ["thing", "sign"] 1 b_is_word
noncomputable def b_is_name : BS := (bRet (fAnd (fCall m_is_short (fCons (fVar 0) fNil)) (fBlt allT (fCons (fPure (fLc (fiA (fVar 0)) (sName 1) fYes (fBin inT (fVar 1) (fC (.str "abcdefghijklmnopqrstuvwxyz"))) [1])) fNil))))
noncomputable def m_is_name : FF := body ["thing", "sign"] 1 b_is_name
noncomputable def b_ascend : BS := (bRet (fBlt allT (fCons (fPure (fLc (fiR2 (fCons (fC (.int 1)) (fCons (fBlt lenT (fCons (fVar 0) fNil)) fNil))) (sName 1) fYes (fBin ltT (fBin ixT (fVar 0) (fBin subT (fVar 1) (fC (.int 1)))) (fBin ixT (fVar 0) (fVar 1))) [1])) fNil)))
noncomputable def m_ascend : FF := body ["names", "at"] 1 b_ascend
noncomputable def b_is_name_pair : BS := (bRet (fAnd (fBlt isiT (fCons (fVar 0) (fCons (fC (.val (.ty "tuple"))) fNil))) (fAnd (fBin eqT (fBlt lenT (fCons (fVar 0) fNil)) (fC (.int 2))) (fAnd (fCall m_is_name (fCons (fBin ixT (fVar 0) (fC (.int 0))) fNil)) (fCall m_is_name (fCons (fBin ixT (fVar 0) (fC (.int 1))) fNil))))))
noncomputable def m_is_name_pair : FF := body ["thing"] 1 b_is_name_pair
noncomputable def b_are_gifts : BS := (bSeq (bIf (fOrT (fNotT (fTru (fBlt isiT (fCons (fVar 0) (fCons (fC (.val (.ty "tuple"))) fNil))))) (fTest (fBin eqT (fBlt lenT (fCons (fVar 0) fNil)) (fC (.int 0))))) (bRet (fC (.bl false))) bNext) (bRet (fAnd (fBlt allT (fCons (fPure (fLc (fiA (fVar 0)) (sName 1) fYes (fCall m_is_name_pair (fCons (fVar 1) fNil)) [1])) fNil)) (fCall m_ascend (fCons (fPure (fLc (fiA (fVar 0)) (sName 1) fYes (fBin ixT (fVar 1) (fC (.int 0))) [1])) fNil)))))
noncomputable def m_are_gifts : FF := body ["thing", "pair"] 1 b_are_gifts
noncomputable def b_is_code : BS := (bSeq (bIf (fOrT (fNotT (fTru (fBlt isiT (fCons (fVar 0) (fCons (fC (.val (.ty "tuple"))) fNil))))) (fTest (fBin neT (fBlt lenT (fCons (fVar 0) fNil)) (fC (.int 3))))) (bRet (fC (.bl false))) bNext) (bSeq (bAsg (sTup 3 (sCons (sName 2) (sCons (sName 3) (sCons (sName 4) sNil)))) (fVar 0)) (bSeq (bIf (fOrT (fNotT (fTru (fCall m_is_word (fCons (fVar 2) fNil)))) (fOrT (fNotT (fTru (fCall m_is_name (fCons (fVar 3) fNil)))) (fNotT (fTru (fCall m_are_gifts (fCons (fVar 4) fNil)))))) (bRet (fC (.bl false))) bNext) (bRet (fBlt allT (fCons (fPure (fLc (fiA (fVar 4)) (sName 5) fYes (fBin inT (fBin ixT (fVar 5) (fC (.int 0))) (fVar 1)) [5])) fNil))))))
noncomputable def m_is_code : FF := body ["thing", "aspects", "word", "kind", "gives", "pair"] 2 b_is_code
noncomputable def b_need_codes : BS := (bSeq (bSet 2 (fCell (fLstN fNil))) (bSeq (bSet 3 (fCell (fLstN fNil))) (bFor (fiEA (fCons (fVar 1) fNil)) (sTup 2 (sCons (sName 4) (sCons (sName 5) sNil))) (bSeq (bIf (fOrT (fNotT (fTru (fCall m_is_code (fCons (fVar 5) (fCons (fVar 0) fNil))))) (fTest (fBin inT (fBin ixT (fVar 5) (fC (.int 0))) (fVar 2)))) bStuck bNext) (bSeq (bExpr (fApp (fVar 2) (fCons (fBin ixT (fVar 5) (fC (.int 0))) fNil))) (bSeq (bIf (fTest (fBin ninT (fBin ixT (fVar 5) (fC (.int 1))) (fVar 3))) (bExpr (fApp (fVar 3) (fCons (fBin ixT (fVar 5) (fC (.int 1))) fNil))) bNext) (bIf (fTest (fBin gtT (fBlt lenT (fCons (fVar 3) fNil)) (fC (.int 6)))) bStuck bNext)))))))
noncomputable def m_need_codes : FF := gc (body ["aspects", "codes", "words", "kinds", "number", "code"] 2 b_need_codes)
noncomputable def b_are_names : BS := (bSeq (bIf (fOrT (fNotT (fTru (fBlt isiT (fCons (fVar 0) (fCons (fC (.val (.ty "tuple"))) fNil))))) (fTest (fBin gtT (fBlt lenT (fCons (fVar 0) fNil)) (fVar 1)))) (bRet (fC (.bl false))) bNext) (bRet (fAnd (fBlt allT (fCons (fPure (fLc (fiA (fVar 0)) (sName 2) fYes (fCall m_is_name (fCons (fVar 2) fNil)) [2])) fNil)) (fCall m_ascend (fCons (fVar 0) fNil)))))
noncomputable def m_are_names : FF := body ["thing", "most", "part"] 2 b_are_names
noncomputable def b_need_book : BS := (bSeq (bIf (fOrT (fNotT (fTru (fBlt isiT (fCons (fVar 0) (fCons (fC (.val (.ty "tuple"))) fNil))))) (fTest (fBin neT (fBlt lenT (fCons (fVar 0) fNil)) (fC (.int 3))))) bStuck bNext) (bSeq (bAsg (sTup 3 (sCons (sName 1) (sCons (sName 2) (sCons (sName 3) sNil)))) (fVar 0)) (bSeq (bIf (fOrT (fNotT (fTru (fCall m_are_names (fCons (fVar 1) (fCons (fC (.int 6)) fNil))))) (fTest (fBin eqT (fBlt lenT (fCons (fVar 1) fNil)) (fC (.int 0))))) bStuck bNext) (bSeq (bIf (fOrT (fNotT (fTru (fCall m_are_names (fCons (fVar 2) (fCons (fC (.int 6)) fNil))))) (fNotT (fTru (fBlt allT (fCons (fPure (fLc (fiA (fVar 2)) (sName 4) fYes (fBin inT (fVar 4) (fVar 1)) [4])) fNil))))) bStuck bNext) (bSeq (bIf (fOrT (fNotT (fTru (fBlt isiT (fCons (fVar 3) (fCons (fC (.val (.ty "tuple"))) fNil))))) (fTest (fBin gtT (fBlt lenT (fCons (fVar 3) fNil)) (fC (.int 16))))) bStuck bNext) (bSeq (bExpr (fCall m_need_codes (fCons (fVar 1) (fCons (fVar 3) fNil)))) (bRet (fVar 0))))))))
noncomputable def m_need_book : FF := body ["thing", "aspects", "shown", "codes", "name"] 1 b_need_book
noncomputable def b_words_of : BS := (bRet (fPure (fLc (fiA (fBin ixT (fVar 0) (fC (.int 2)))) (sName 1) fYes (fBin ixT (fVar 1) (fC (.int 0))) [1])))
noncomputable def m_words_of : FF := body ["book", "code"] 1 b_words_of
noncomputable def b_is_letter : BS := (bRet (fAnd (fBin eqT (fBlt lenT (fCons (fVar 0) fNil)) (fC (.int 1))) (fBin inT (fVar 0) (fC (.str "abcdefghijklmnopqrstuvwxyz")))))
noncomputable def m_is_letter : FF := body ["item"] 1 b_is_letter
noncomputable def b_is_sign : BS := (bRet (fOr (fCall m_is_letter (fCons (fVar 0) fNil)) (fOr (fBin eqT (fVar 0) (fC (.str " "))) (fBin eqT (fVar 0) (fC (.str "\n"))))))
noncomputable def m_is_sign : FF := body ["item"] 1 b_is_sign
noncomputable def b_need_stream : BS := (bSeq (bExpr (fCall m_need_book (fCons (fVar 0) fNil))) (bSeq (bIf (fOrT (fNotT (fTru (fBlt isiT (fCons (fVar 1) (fCons (fC (.val (.ty "tuple"))) fNil))))) (fTest (fBin gtT (fBlt lenT (fCons (fVar 1) fNil)) (fC (.int 200))))) bStuck bNext) (bSeq (bSet 2 (fCall m_words_of (fCons (fVar 0) fNil))) (bSeq (bFor (fiEA (fCons (fVar 1) fNil)) (sTup 2 (sCons (sName 3) (sCons (sName 4) sNil))) (bIf (fOrT (fNotT (fTru (fBlt isiT (fCons (fVar 4) (fCons (fC (.val (.ty "str"))) fNil))))) (fNotT (fOrT (fTru (fCall m_is_sign (fCons (fVar 4) fNil))) (fTest (fBin inT (fVar 4) (fVar 2)))))) bStuck bNext)) (bRet (fVar 1))))))
noncomputable def m_need_stream : FF := body ["book", "thing", "words", "number", "item"] 2 b_need_stream
noncomputable def b_codes_by_word : BS := (bRet (fPure (fDc (fiA (fBin ixT (fVar 0) (fC (.int 2)))) (sName 1) fYes (fBin ixT (fVar 1) (fC (.int 0))) (fVar 1) [1])))
noncomputable def m_codes_by_word : FF := body ["book", "code"] 1 b_codes_by_word
noncomputable def b_shown_at : BS := (bSeq (bAsg (sTup 3 (sCons (sName 2) (sCons (sName 3) (sCons (sName 4) sNil)))) (fVar 0)) (bSeq (bIf (fTru (fCall m_is_letter (fCons (fVar 1) fNil))) (bRet (fVar 2)) bNext) (bSeq (bIf (fTest (fBin eqT (fVar 1) (fC (.str " ")))) (bRet (fVar 3)) bNext) (bRet (fTup fNil)))))
noncomputable def m_shown_at : FF := body ["book", "sign", "aspects", "shown", "_"] 2 b_shown_at
noncomputable def b_signs_of : BS := (bSeq (bExpr (fCall m_need_stream (fCons (fVar 0) (fCons (fVar 1) fNil)))) (bRet (fBlt tupT (fCons (fPure (fLc (fiA (fVar 1)) (sName 2) (fTru (fCall m_is_sign (fCons (fVar 2) fNil))) (fVar 2) [2])) fNil))))
noncomputable def m_signs_of : FF := body ["book", "stream", "item"] 2 b_signs_of
noncomputable def b_no_chains : BS := (bRet (fCell (fDc (fiA (fBin ixT (fVar 0) (fC (.int 0)))) (sName 1) fYes (fVar 1) (fTup fNil) [1])))
noncomputable def m_no_chains : FF := body ["book", "aspect"] 1 b_no_chains
noncomputable def b_behind : BS := (bRet (fBin addT (fTup (fCons (fTup (fCons (fVar 1) (fCons (fVar 2) fNil))) fNil)) (fBlt tupT (fCons (fPure (fLc (fiA (fVar 0)) (sName 3) (fTest (fBin neT (fBin ixT (fVar 3) (fC (.int 0))) (fVar 1))) (fVar 3) [3])) fNil))))
noncomputable def m_behind : FF := body ["chain", "kind", "value", "pair"] 3 b_behind
noncomputable def b_pass_code : BS := (bSeq (bAsg (sTup 3 (sCons (sName 2) (sCons (sName 3) (sCons (sName 4) sNil)))) (fVar 1)) (bFor (fiA (fVar 4)) (sTup 2 (sCons (sName 5) (sCons (sName 6) sNil))) (bStore (fVar 0) (fVar 5) (fCall m_behind (fCons (fBin ixT (fVar 0) (fVar 5)) (fCons (fVar 3) (fCons (fVar 6) fNil)))))))
noncomputable def m_pass_code : FF := body ["chains", "code", "_", "kind", "gives", "aspect", "value"] 2 b_pass_code
noncomputable def b_chains_shown : BS := (bSeq (bSet 2 (fCall m_codes_by_word (fCons (fVar 0) fNil))) (bSeq (bSet 3 (fCall m_no_chains (fCons (fVar 0) fNil))) (bSeq (bSet 4 (fCell (fLstN fNil))) (bSeq (bFor (fiA (fVar 1)) (sName 5) (bIf (fTru (fCall m_is_sign (fCons (fVar 5) fNil))) (bExpr (fApp (fVar 4) (fCons (fBlt tupT (fCons (fPure (fLc (fiA (fCall m_shown_at (fCons (fVar 0) (fCons (fVar 5) fNil)))) (sName 6) fYes (fBin ixT (fVar 3) (fVar 6)) [6])) fNil)) fNil))) (bExpr (fCall m_pass_code (fCons (fVar 3) (fCons (fBin ixT (fVar 2) (fVar 5)) fNil)))))) (bRet (fVar 4))))))
noncomputable def m_chains_shown : FF := gc (body ["book", "stream", "codes", "chains", "rows", "item", "aspect"] 2 b_chains_shown)
noncomputable def b_worth_among : BS := (bSeq (bFor (fiA (fVar 0)) (sTup 2 (sCons (sName 2) (sCons (sName 3) sNil))) (bIf (fTest (fBin inT (fVar 2) (fVar 1))) (bRet (fVar 3)) bNext)) (bRet (fC .non)))
noncomputable def m_worth_among : FF := body ["chain", "kinds", "kind", "value"] 2 b_worth_among
noncomputable def b_runs_of : BS := (bSeq (bSet 1 (fCell (fLstN fNil))) (bSeq (bFor (fiA (fVar 0)) (sTup 2 (sCons (sName 2) (sCons (sName 3) sNil))) (bIf (fAndT (fTest (fBin gtT (fBlt lenT (fCons (fVar 1) fNil)) (fC (.int 0)))) (fTest (fBin eqT (fBin ixT (fBin ixT (fVar 1) (fUn negT (fC (.int 1)))) (fC (.int 0))) (fVar 3)))) (bExpr (fApp (fBin ixT (fBin ixT (fVar 1) (fUn negT (fC (.int 1)))) (fC (.int 1))) (fCons (fVar 2) fNil))) (bExpr (fApp (fVar 1) (fCons (fTup (fCons (fVar 3) (fCons (fCell (fLstN (fCons (fVar 2) fNil))) fNil))) fNil))))) (bRet (fBlt tupT (fCons (fPure (fLcC (fiAC (fVar 1)) (sTup 2 (sCons (sName 3) (sCons (sName 4) sNil))) fYes (fTup (fCons (fVar 3) (fCons (fBlt tupT (fCons (fPure (fBlt sortT (fCons (fVar 4) fNil))) fNil)) fNil))) [3, 4])) fNil)))))
noncomputable def m_runs_of : FF := gc (body ["chain", "runs", "kind", "value", "kinds"] 1 b_runs_of)
noncomputable def b_have_one_form : BS := (bRet (fOr (fBin eqT (fVar 0) (fVar 1)) (fBin eqT (fCall m_runs_of (fCons (fVar 0) fNil)) (fCall m_runs_of (fCons (fVar 1) fNil)))))
noncomputable def m_have_one_form : FF := body ["one", "other"] 2 b_have_one_form
noncomputable def b_look_alike : BS := (bSeq (bFor (fiZ (fCons (fVar 0) (fCons (fVar 1) fNil))) (sTup 2 (sCons (sName 2) (sCons (sName 3) sNil))) (bIf (fNotT (fTru (fBlt allT (fCons (fPure (fLc (fiZ (fCons (fVar 2) (fCons (fVar 3) fNil))) (sTup 2 (sCons (sName 4) (sCons (sName 5) sNil))) fYes (fCall m_have_one_form (fCons (fVar 4) (fCons (fVar 5) fNil))) [4, 5])) fNil)))) (bRet (fC (.bl false))) bNext)) (bRet (fC (.bl true))))
noncomputable def m_look_alike : FF := body ["rows", "others", "row", "more", "one", "other"] 2 b_look_alike
noncomputable def b_need_same_signs : BS := (bSeq (bExpr (fCall m_need_stream (fCons (fVar 0) (fCons (fVar 1) fNil)))) (bSeq (bExpr (fCall m_need_stream (fCons (fVar 0) (fCons (fVar 2) fNil)))) (bIf (fTest (fBin neT (fCall m_signs_of (fCons (fVar 0) (fCons (fVar 1) fNil))) (fCall m_signs_of (fCons (fVar 0) (fCons (fVar 2) fNil))))) bStuck bNext)))
noncomputable def m_need_same_signs : FF := body ["book", "one", "other"] 3 b_need_same_signs
noncomputable def b_alike : BS := (bSeq (bExpr (fCall m_need_same_signs (fCons (fVar 0) (fCons (fVar 1) (fCons (fVar 2) fNil))))) (bRet (fCall m_look_alike (fCons (fCall m_chains_shown (fCons (fVar 0) (fCons (fVar 1) fNil))) (fCons (fCall m_chains_shown (fCons (fVar 0) (fCons (fVar 2) fNil))) fNil)))))
noncomputable def m_alike : FF := body ["book", "one", "other"] 3 b_alike
end SF
set_option Elab.async false
set_option linter.all false
set_option maxRecDepth 100000
namespace SF
open PySem PySem.Spec L2 TL
open PyProof.Rows hiding St
end SF
set_option Elab.async false
set_option linter.all false
set_option maxRecDepth 100000
namespace SF
open PySem PySem.Spec L2 TL
open PyProof.Rows hiding St
noncomputable def b__law_near : BS := (bSeq (bAsg (sTup 2 (sCons (sName 5) (sCons (sName 6) sNil))) (fTup (fCons (fPure (fLc (fiA (fBin ixT (fVar 1) (fC (.int 2)))) (sName 9) fYes (fBin ixT (fVar 9) (fC (.int 0))) [9])) (fCons (fCell (fBlt listT (fCons (fVar 2) fNil))) fNil)))) (bSeq (bSet 3 (fPure (fLcC (fiEC (fCons (fVar 6) fNil)) (sTup 2 (sCons (sName 10) (sCons (sName 11) sNil))) (fTest (fBin inT (fVar 11) (fVar 5))) (fVar 10) [10, 11]))) (bSeq (bPar 7 8 (fCons (fCall m__law_draw (fCons (fVar 0) (fCons (fBin addT (fBlt lenT (fCons (fVar 6) fNil)) (fC (.int 1))) fNil))) (fCons (fCall m__law_draw (fCons (fVar 0) (fCons (fC (.int 5)) fNil))) fNil))) (bSeq (bIf (fOrT (fTest (fBin eqT (fVar 3) (fPure (fLstN fNil)))) (fTest (fBin eqT (fVar 8) (fC (.int 0))))) (bSeq (bExpr (fCM opIns (fVar 6) (fCons (fVar 7) (fCons (fBin ixT (fVar 5) (fCall m__law_draw (fCons (fVar 0) (fCons (fBlt lenT (fCons (fVar 5) fNil)) fNil)))) fNil)))) (bRet (fBlt tupT (fCons (fVar 6) fNil)))) bNext) (bSeq (bSet 4 (fBin ixT (fVar 3) (fCall m__law_draw (fCons (fVar 0) (fCons (fBlt lenT (fCons (fVar 3) fNil)) fNil))))) (bSeq (bIf (fTest (fBin eqT (fVar 8) (fC (.int 1)))) (bExpr (fCM opPop (fVar 6) (fCons (fVar 4) fNil))) (bIf (fTest (fBin eqT (fVar 8) (fC (.int 2)))) (bStore (fVar 6) (fVar 4) (fBin ixT (fVar 5) (fCall m__law_draw (fCons (fVar 0) (fCons (fBlt lenT (fCons (fVar 5) fNil)) fNil))))) (bIf (fTest (fBin eqT (fVar 8) (fC (.int 3)))) (bExpr (fCM opIns (fVar 6) (fCons (fBlt maxT (fCons (fC (.int 0)) (fCons (fBin subT (fBin subT (fVar 4) (fC (.int 1))) (fCall m__law_draw (fCons (fVar 0) (fCons (fC (.int 2)) fNil)))) fNil))) (fCons (fCM opPop (fVar 6) (fCons (fVar 4) fNil)) fNil)))) (bSeq (bSet 12 (fBin ixT (fVar 3) (fCall m__law_draw (fCons (fVar 0) (fCons (fBlt lenT (fCons (fVar 3) fNil)) fNil))))) (bSwap (fVar 6) (fVar 4) (fVar 6) (fVar 12) (fTup (fCons (fBin ixT (fVar 6) (fVar 12)) (fCons (fBin ixT (fVar 6) (fVar 4)) fNil)))))))) (bRet (fBlt tupT (fCons (fVar 6) fNil)))))))))
noncomputable def m__law_near : FF := gc (body ["state", "book", "stream", "some", "to", "words", "found", "at", "way", "code", "k", "item", "other"] 3 b__law_near)
end SF
set_option Elab.async false
set_option linter.all false
set_option maxRecDepth 100000
namespace SF
open PySem PySem.Spec L2 TL
open PyProof.Rows hiding St
noncomputable def b_least_apart : BS := (bSeq (bSet 2 (fPure (fSortX (fSt (fiA (fBin addT (fVar 0) (fVar 1))) (sName 8) fYes (fBin ixT (fVar 8) (fC (.int 0))) [8])))) (bSeq (bSet 3 (fPure (fLc (fiA (fVar 2)) (sName 6) fYes (fTup (fCons (fVar 6) fNil)) [6]))) (bSeq (bSet 4 (fPure (fLc2 (fiA (fVar 2)) (sName 6) fYes (fiL (fVar 2)) (sName 7) (fTest (fBin ltT (fVar 6) (fVar 7))) (fTup (fCons (fVar 6) (fCons (fVar 7) fNil))) [7] [6, 7]))) (bSeq (bFor (fiA (fBin addT (fVar 3) (fVar 4))) (sName 5) (bIf (fTest (fBin neT (fCall m_worth_among (fCons (fVar 0) (fCons (fVar 5) fNil))) (fCall m_worth_among (fCons (fVar 1) (fCons (fVar 5) fNil))))) (bRet (fVar 5)) bNext)) (bRet (fC .non))))))
noncomputable def m_least_apart : FF := body ["one", "other", "kinds", "singles", "twos", "terminal", "kind", "more", "pair"] 2 b_least_apart
end SF
set_option Elab.async false
set_option linter.all false
set_option maxRecDepth 100000
namespace SF
open PySem PySem.Spec L2 TL
open PyProof.Rows hiding St
end SF
set_option Elab.async false
set_option linter.all false
set_option maxRecDepth 100000
namespace SF
open PySem PySem.Spec L2 TL
open PyProof.Rows hiding St
end SF
set_option Elab.async false
set_option linter.all false
set_option maxRecDepth 100000
namespace SF
open PySem PySem.Spec L2 TL
open PyProof.Rows hiding St
end SF
set_option Elab.async false
set_option linter.all false
set_option maxRecDepth 100000
namespace SF
open PySem PySem.Spec L2 TL
open PyProof.Rows hiding St
end SF
set_option Elab.async false
set_option linter.all false
set_option maxRecDepth 100000
namespace SF
open PySem PySem.Spec L2 TL
open PyProof.Rows hiding St
end SF
set_option Elab.async false
set_option linter.all false
set_option maxRecDepth 100000
namespace SF
open PySem PySem.Spec L2 TL
open PyProof.Rows hiding St
end SF
set_option Elab.async false
set_option linter.all false
set_option maxRecDepth 100000
namespace SF
open PySem PySem.Spec L2 TL
open PyProof.Rows hiding St
end SF
set_option Elab.async false
set_option linter.all false
set_option maxRecDepth 100000
namespace SF
open PySem PySem.Spec L2 TL
open PyProof.Rows hiding St
noncomputable def b_pairs_ahead : BS := (bSeq (bSet 4 (fCell (fLstN fNil))) (bSeq (bFor (fiA (fVar 1)) (sTup 2 (sCons (sName 5) (sCons (sName 6) sNil))) (bSeq (bIf (fTest (fBin eqT (fVar 5) (fVar 2))) (bRet (fIf (fTest (fBin eqT (fVar 6) (fVar 3))) (fVar 4) (fC .non))) bNext) (bIf (fTest (fBin neT (fVar 6) (fVar 3))) (bExpr (fApp (fVar 4) (fCons (fTupE (fCons (fVar 0) (fCons (fVar 5) fNil))) fNil))) bNext))) (bRet (fC .non))))
noncomputable def m_pairs_ahead : FF := gc (body ["aspect", "chain", "kind", "value", "ahead", "other", "worth"] 4 b_pairs_ahead)
end SF
set_option Elab.async false
set_option linter.all false
set_option maxRecDepth 100000
namespace SF
open PySem PySem.Spec L2 TL
open PyProof.Rows hiding St
end SF
set_option Elab.async false
set_option linter.all false
set_option maxRecDepth 100000
namespace SF
open PySem PySem.Spec L2 TL
open PyProof.Rows hiding St
end SF
set_option Elab.async false
set_option linter.all false
set_option maxRecDepth 100000
namespace SF
open PySem PySem.Spec L2 TL
open PyProof.Rows hiding St
end SF
set_option Elab.async false
set_option linter.all false
set_option maxRecDepth 100000
namespace SF
open PySem PySem.Spec L2 TL
open PyProof.Rows hiding St
end SF
set_option Elab.async false
set_option linter.all false
set_option maxRecDepth 100000
namespace SF
open PySem PySem.Spec L2 TL
open PyProof.Rows hiding St
noncomputable def b_parting_entry_k09 : BS := (bSeq (bIf (fTest (fBin inT (fC (.str "plain")) (fTup (fCons (fCall m_worth_among (fCons (fVar 1) (fCons (fVar 3) fNil))) (fCons (fCall m_worth_among (fCons (fVar 2) (fCons (fVar 3) fNil))) fNil))))) (bRet (fPure (fDc (fiA (fBin ixT (fVar 0) (fC (.int 0)))) (sName 4) fYes (fVar 4) (fC (.str "other")) [4]))) bNext) (bRet (fPure (fDc (fiA (fBin ixT (fVar 0) (fC (.int 0)))) (sName 4) fYes (fVar 4) (fC (.str "plain")) [4]))))
noncomputable def m_parting_entry_k09 : FF := body ["book", "one", "other", "terminal", "aspect"] 4 b_parting_entry_k09
end SF
set_option Elab.async false
set_option linter.all false
set_option maxRecDepth 100000
namespace SF
open PySem PySem.Spec L2 TL
open PyProof.Rows hiding St
noncomputable def b_parted_k09 : BS := (bSeq (bExpr (fCall m_need_same_signs (fCons (fVar 0) (fCons (fVar 1) (fCons (fVar 2) fNil))))) (bSeq (bSet 3 (fCall m_chains_shown (fCons (fVar 0) (fCons (fVar 1) fNil)))) (bSeq (bSet 4 (fCall m_chains_shown (fCons (fVar 0) (fCons (fVar 2) fNil)))) (bSeq (bSet 5 (fC .non)) (bSeq (bFor (fiEZ (fCons (fVar 3) (fCons (fVar 4) fNil))) (sTup 2 (sCons (sName 6) (sCons (sTup 2 (sCons (sName 7) (sCons (sName 8) sNil))) sNil))) (bFor (fiZ (fCons (fVar 7) (fCons (fVar 8) fNil))) (sTup 2 (sCons (sName 9) (sCons (sName 10) sNil))) (bSeq (bSet 11 (fCall m_least_apart (fCons (fVar 9) (fCons (fVar 10) fNil)))) (bIf (fAndT (fTest (fBin notNT (fVar 11) (fC .non))) (fOrT (fTest (fBin isNT (fVar 5) (fC .non))) (fTest (fBin ltT (fBlt lenT (fCons (fVar 11) fNil)) (fBlt lenT (fCons (fBin ixT (fVar 5) (fC (.int 0))) fNil)))))) (bSet 5 (fTup (fCons (fVar 11) (fCons (fCall m_parting_entry_k09 (fCons (fVar 0) (fCons (fVar 9) (fCons (fVar 10) (fCons (fVar 11) fNil))))) (fCons (fVar 6) fNil))))) bNext)))) (bRet (fVar 5)))))))
noncomputable def m_parted_k09 : FF := body ["book", "one", "other", "rows", "others", "least", "number", "row", "more", "first", "second", "terminal"] 3 b_parted_k09
noncomputable def b__law_told : BS := (bSeq (bSet 3 (fCall m_parted_k09 (fCons (fVar 0) (fCons (fVar 1) (fCons (fVar 2) fNil))))) (bRet (fPure (fLstN (fCons (fCall m_alike (fCons (fVar 0) (fCons (fVar 1) (fCons (fVar 2) fNil)))) (fCons (fIf (fTest (fBin isNT (fVar 3) (fC .non))) (fUn negT (fC (.int 1))) (fBlt lenT (fCons (fBin ixT (fVar 3) (fC (.int 0))) fNil))) fNil))))))
noncomputable def m__law_told : FF := body ["book", "one", "other", "found"] 3 b__law_told
noncomputable def b__law_renamed : BS := (bSeq (bSet 2 (fPure (fDisp (((fC (.str "1")), (fC (.str "7"))) :: (((fC (.str "2")), (fC (.str "77"))) :: (((fC (.str "22")), (fC (.str "1"))) :: (((fC (.str "3;4")), (fC (.str "2;2"))) :: (((fC (.str "0")), (fC (.str "22"))) :: (((fC (.str "38;5;1")), (fC (.str "0"))) :: (((fC (.str "9")), (fC (.str "9;9"))) :: (((fC (.str "44")), (fC (.str "4"))) :: []))))))))))) (bSeq (bSet 3 (fPure (fDisp (((fC (.str "j")), (fC (.str "k"))) :: (((fC (.str "k")), (fC (.str "long"))) :: (((fC (.str "l")), (fC (.str "j"))) :: (((fC (.str "u")), (fC (.str "v"))) :: (((fC (.str "v")), (fC (.str "plain"))) :: (((fC (.str "plain")), (fC (.str "u"))) :: (((fC (.str "x")), (fC (.str "a"))) :: (((fC (.str "y")), (fC (.str "x"))) :: (((fC (.str "z")), (fC (.str "q"))) :: [])))))))))))) (bSeq (bSet 4 (fCell (fLstN fNil))) (bSeq (bFor (fiA (fBin ixT (fVar 0) (fC (.int 2)))) (sTup 3 (sCons (sName 6) (sCons (sName 7) (sCons (sName 8) sNil)))) (bExpr (fApp (fVar 4) (fCons (fTup (fCons (fBin ixT (fVar 2) (fVar 6)) (fCons (fBin ixT (fVar 3) (fVar 7)) (fCons (fBlt tupT (fCons (fPure (fLc (fiA (fVar 8)) (sTup 2 (sCons (sName 11) (sCons (sName 12) sNil))) fYes (fTup (fCons (fVar 11) (fCons (fBin ixT (fVar 3) (fVar 12)) fNil))) [11, 12])) fNil)) fNil)))) fNil)))) (bSeq (bSet 5 (fPure (fLc (fiA (fVar 1)) (sName 9) fYes (fBlt tupT (fCons (fPure (fLc (fiA (fVar 9)) (sName 10) fYes (fGet (fVar 2) (fVar 10) (fGet (fVar 3) (fVar 10) (fVar 10))) [10])) fNil)) [9]))) (bRet (fTup (fCons (fTup (fCons (fBin ixT (fVar 0) (fC (.int 0))) (fCons (fBin ixT (fVar 0) (fC (.int 1))) (fCons (fBlt tupT (fCons (fRev (fVar 4) (fUn negT (fC (.int 1)))) fNil)) fNil)))) (fCons (fVar 5) fNil)))))))))
noncomputable def m__law_renamed : FF := gc (body ["book", "streams", "words", "names", "codes", "turned", "word", "kind", "gives", "stream", "item", "aspect", "value"] 2 b__law_renamed)
noncomputable def b__law_split : BS := (bSeq (bAsg (sTup 2 (sCons (sName 4) (sCons (sName 5) sNil))) (fTup (fCons (fCell (fLstN fNil)) (fCons (fCell (fun _ S => .ok (.dct [] []) S)) fNil)))) (bSeq (bFor (fiA (fBin ixT (fVar 0) (fC (.int 2)))) (sTup 3 (sCons (sName 6) (sCons (sName 7) (sCons (sName 8) sNil)))) (bSeq (bStore (fVar 5) (fVar 6) (fPure (fLc (fiR1 (fCons (fBlt lenT (fCons (fVar 8) fNil)) fNil)) (sName 11) fYes (fBin addT (fBin addT (fBlt strT (fCons (fBin addT (fBlt lenT (fCons (fVar 4) fNil)) (fVar 11)) fNil)) (fC (.str ";"))) (fBlt strT (fCons (fVar 11) fNil))) [11]))) (bExpr (fCM opExt (fVar 4) (fCons (fPure (fLc (fiR1 (fCons (fBlt lenT (fCons (fVar 8) fNil)) fNil)) (sName 11) fYes (fTup (fCons (fBin ixT (fBin ixT (fVar 5) (fVar 6)) (fVar 11)) (fCons (fVar 7) (fCons (fTup (fCons (fBin ixT (fVar 8) (fVar 11)) fNil)) fNil)))) [11])) fNil))))) (bSeq (bSet 2 (fCell (fLstN fNil))) (bSeq (bFor (fiA (fVar 1)) (sName 3) (bSeq (bSet 9 (fCell (fLstN fNil))) (bSeq (bFor (fiA (fVar 3)) (sName 10) (bExpr (fCM opExt (fVar 9) (fCons (fGet (fVar 5) (fVar 10) (fPure (fLstN (fCons (fVar 10) fNil)))) fNil)))) (bExpr (fApp (fVar 2) (fCons (fBlt tupT (fCons (fVar 9) fNil)) fNil)))))) (bRet (fTup (fCons (fTup (fCons (fBin ixT (fVar 0) (fC (.int 0))) (fCons (fBin ixT (fVar 0) (fC (.int 1))) (fCons (fBlt tupT (fCons (fVar 4) fNil)) fNil)))) (fCons (fVar 2) fNil))))))))
noncomputable def m__law_split : FF := gc (body ["book", "streams", "found", "stream", "codes", "by", "word", "kind", "gives", "items", "item", "k"] 2 b__law_split)
noncomputable def b_law_k13 : BS := (bSeq (bSet 1 (fCall m__law_begin (fCons (fVar 0) fNil))) (bSeq (bFor (fiR1 (fCons (fC (.int 3)) fNil)) (sName 2) (bSeq (bSet 3 (fCall m__law_book (fCons (fVar 1) (fCons (fC (.int 8)) fNil)))) (bSeq (bSet 4 (fCall m__law_stream (fCons (fVar 1) (fCons (fVar 3) (fCons (fC (.int 12)) fNil))))) (bSeq (bSet 5 (fCall m__law_near (fCons (fVar 1) (fCons (fVar 3) (fCons (fVar 4) fNil))))) (bSeq (bSet 6 (fCall m__law_told (fCons (fVar 3) (fCons (fVar 4) (fCons (fVar 5) fNil))))) (bSeq (bSet 7 (fTup (fCons (fBin addT (fBin ixT (fVar 3) (fC (.int 0))) (fTup (fCons (fC (.str "zz")) fNil))) (fCons (fBin addT (fBin ixT (fVar 3) (fC (.int 1))) (fTup (fCons (fC (.str "zz")) fNil))) (fCons (fBin ixT (fVar 3) (fC (.int 2))) fNil))))) (bSeq (bIf (fTest (fBin neT (fCall m__law_told (fCons (fVar 7) (fCons (fVar 4) (fCons (fVar 5) fNil)))) (fVar 6))) (bRet (fC (.bl false))) bNext) (bSeq (bAsg (sTup 2 (sCons (sName 8) (sCons (sName 9) sNil))) (fCall m__law_renamed (fCons (fVar 3) (fCons (fPure (fLstN (fCons (fVar 4) (fCons (fVar 5) fNil)))) fNil)))) (bSeq (bIf (fTest (fBin neT (fCall m__law_told (fCons (fVar 8) (fCons (fBin ixT (fVar 9) (fC (.int 0))) (fCons (fBin ixT (fVar 9) (fC (.int 1))) fNil)))) (fVar 6))) (bRet (fC (.bl false))) bNext) (bSeq (bAsg (sTup 2 (sCons (sName 10) (sCons (sName 11) sNil))) (fCall m__law_split (fCons (fVar 3) (fCons (fPure (fLstN (fCons (fVar 4) (fCons (fVar 5) fNil)))) fNil)))) (bIf (fAndT (fTest (fBin ltT (fBlt lenT (fCons (fBin ixT (fVar 10) (fC (.int 2))) fNil)) (fC (.int 17)))) (fTest (fBin neT (fCall m__law_told (fCons (fVar 10) (fCons (fBin ixT (fVar 11) (fC (.int 0))) (fCons (fBin ixT (fVar 11) (fC (.int 1))) fNil)))) (fVar 6)))) (bRet (fC (.bl false))) bNext))))))))))) (bRet (fC (.bl true)))))
noncomputable def m_law_k13 : FF := body ["script", "state", "turn", "book", "one", "other", "due", "more", "renamed", "turned", "split", "items"] 1 b_law_k13
end SF
set_option Elab.async false
set_option linter.all false
set_option maxRecDepth 100000
namespace SF
open PySem PySem.Spec L2 TL
open PyProof.Rows hiding St
abbrev tS (l : List Str) : T := .tup (l.map T.str)
def pT (p : Str × Str) : T := .tup [.str p.1, .str p.2]
structure Code where
  w : Str
  k : Str
  g : List (Str × Str)
def cT (c : Code) : T := .tup [.str c.w, .str c.k, .tup (c.g.map pT)]
structure Bk where
  asp : List Str
  sh : List Str
  cs : List Code
def bT (b : Bk) : T := .tup [tS b.asp, tS b.sh, .tup (b.cs.map cT)]
def Nm (x : Str) : Prop := ∀ S, m_is_name [.str x] S = .ok (.bl true) S
def Wd (x : Str) : Prop := ∀ S, m_is_word [.str x] S = .ok (.bl true) S
def Sg (x : Str) (b : Bool) : Prop := ∀ S, m_is_sign [.str x] S = .ok (.bl b) S
def fstT : T → T
  | .tup (a :: _) => a
  | _ => .non
theorem map_fst (g : List (Str × Str)) : (g.map pT).map fstT = g.map fun p => T.str p.1 := by
  rw [List.map_map]
  exact List.map_congr_left fun _ _ => rfl
theorem is_name_pair_ok {p : Str × Str} (h1 : Nm p.1) (h2 : Nm p.2) (S : Sto) : m_is_name_pair [pT p] S = .ok (.bl true) S := by
  unfold m_is_name_pair b_is_name_pair pT
  simp_arith [h1 S, h2 S]
theorem are_gifts_ok {g : List (Str × Str)} (h0 : g ≠ []) (hz : g.length ≤ sizeLine) (h1 : ∀ p ∈ g, Nm p.1 ∧ Nm p.2) (h2 : ∀ S, m_ascend [.lst (g.map fun p => .str p.1)] S = .ok (.bl true) S) (S : Sto) : m_are_gifts [.tup (g.map pT)] S = .ok (.bl true) S := by
  unfold m_are_gifts b_are_gifts
  have h1 : ∀ p ∈ g, ∀ S, m_is_name_pair [pT p] S = .ok (.bl true) S := fun p hp S => is_name_pair_ok (h1 p hp).1 (h1 p hp).2 S
  generalize m_is_name_pair = f1 at h1 ⊢
  generalize m_ascend = f2 at h2 ⊢
  have hl : (g.length : Int) ≠ 0 := by
    intro z
    exact h0 (List.length_eq_zero_iff.mp (by omega))
  simp_arith [List.length_map, hl, hz]
  rw [lc_map (r := fun _ => .bl true) fun x hx => ?a]
  case a =>
    obtain ⟨p, hp, rfl⟩ := List.mem_map.mp hx
    exact ⟨_, rfl, slots1 _ _, rfl, by simp_arith [h1 p hp S]⟩
  simp_arith [all_lst]
  rw [lc_map (r := fstT) fun x hx => ?b]
  case b =>
    obtain ⟨p, hp, rfl⟩ := List.mem_map.mp hx
    exact ⟨_, rfl, slots1 _ _, rfl, by simp_arith [pT, fstT]⟩
  simp_arith [map_fst, h2 S]
theorem is_code_ok {c : Code} {asp : List Str} (hz : c.g.length ≤ sizeLine) (h1 : Wd c.w) (h2 : Nm c.k) (h3 : ∀ S, m_are_gifts [.tup (c.g.map pT)] S = .ok (.bl true) S) (h4 : ∀ p ∈ c.g, p.1 ∈ asp) (S : Sto) : m_is_code [cT c, tS asp] S = .ok (.bl true) S := by
  unfold m_is_code b_is_code
  simp_arith [cT, h1 S, h2 S, h3 S, List.length_map, hz]
  rw [lc_map (r := fun _ => .bl true) fun x hx => ?a]
  case a =>
    obtain ⟨p, hp, rfl⟩ := List.mem_map.mp hx
    exact ⟨_, rfl, slots1 _ _, rfl, by simp_arith [pT, h4 p hp]⟩
  simp_arith [all_lst]
def Pu (F : FF) (ts : List T) (r : T) : Prop := ∀ S, F ts S = .ok r S
theorem nr_pT (p : Str × Str) : nr (pT p) = true := rfl
theorem nr_tS (l : List Str) : nr (tS l) = true := nrs_str l
theorem nr_cT (c : Code) : nr (cT c) = true := by
  show nrs [.str c.w, .str c.k, .tup (c.g.map pT)] = true
  simp only [nrs, nr, nrs_map (fun p _ => nr_pT p), Bool.and_self]
theorem nr_bT (b : Bk) : nr (bT b) = true := by
  show nrs [tS b.asp, tS b.sh, .tup (b.cs.map cT)] = true
  simp only [nrs, nr, nrs_str, nrs_map (fun p _ => nr_cT p), Bool.and_self]
end SF
set_option Elab.async false
set_option linter.all false
set_option maxRecDepth 100000
namespace SF
open PySem PySem.Spec L2 TL
open PyProof.Rows hiding St
structure GB (b : Bk) : Prop where
  asp : ∀ S, m_are_names [tS b.asp, .int 6] S = .ok (.bl true) S
  asp0 : b.asp ≠ []
  sh : ∀ S, m_are_names [tS b.sh, .int 6] S = .ok (.bl true) S
  sub : ∀ x ∈ b.sh, x ∈ b.asp
  shz : b.sh.length ≤ 6
  len : b.cs.length ≤ 16
  code : ∀ c ∈ b.cs, ∀ S, m_is_code [cT c, tS b.asp] S = .ok (.bl true) S
  nd : (b.cs.map (·.w)).Nodup
  kin : ∃ K : List Str, K.length ≤ 6 ∧ ∀ c ∈ b.cs, c.k ∈ K
theorem small16 {n : Nat} (h : n ≤ 200) : n ≤ sizeLine := Nat.le_trans h (by decide)
theorem small16' {n : Nat} (h : n ≤ 200) : n < sizeLine := Nat.lt_of_le_of_lt h (by decide)
theorem fiE_at {cs : List Code} {i : Nat} {x : T} (h : (numbT (cs.map cT))[i]? = some x) : ∃ c, cs[i]? = some c ∧ x = .tup [.int (i : Nat), cT c] := by
  obtain ⟨y, h1, rfl⟩ := zip_range h
  rw [List.getElem?_map] at h1
  cases e : cs[i]? with
  | none => rw [e] at h1; cases h1
  | some c =>
    rw [e] at h1
    have : cT c = y := by simpa using h1
    exact ⟨c, rfl, by rw [this]⟩
theorem nodup_len {α : Type} [DecidableEq α] : ∀ {l K : List α}, l.Nodup → (∀ x ∈ l, x ∈ K) → l.length ≤ K.length
  | [], K, _, _ => Nat.zero_le _
  | x :: l, K, h, g => by
    have hx := g x List.mem_cons_self
    obtain ⟨h1, h2⟩ := List.nodup_cons.mp h
    have ih := nodup_len (K := K.erase x) h2 fun y hy => (List.mem_erase_of_ne (by rintro rfl; exact h1 hy)).mpr (g y (List.mem_cons_of_mem _ hy))
    rw [List.length_erase_of_mem hx] at ih
    have : 0 < K.length := List.length_pos_of_mem hx
    rw [List.length_cons]
    omega
def Cl (S : Sto) : Prop := S.all noDc = true
theorem Cl.nil : Cl [] := rfl
theorem Cl.app {S J : Sto} (h : Cl S) (g : Cl J) : Cl (S ++ J) := by
  unfold Cl at *
  rw [List.all_append, h, g]
  rfl
theorem Cl.cons {x : T} {J : Sto} (h : noDc x = true) (g : Cl J) : Cl (x :: J) := by
  unfold Cl at *
  rw [List.all_cons, h, g]
  rfl
theorem noDs_str : ∀ l : List Str, noDs (l.map T.str) = true
  | [] => rfl
  | x :: l => by simp only [List.map_cons, noDs, noD, noDs_str l, Bool.and_self]
theorem Cl.strs {l : List Str} {J : Sto} (g : Cl J) : Cl (.lst (l.map T.str) :: J) := .cons (noDs_str l) g
theorem split_at {α : Type} {l : List α} {i : Nat} {c : α} (h : l[i]? = some c) : l = l.take i ++ c :: l.drop (i + 1) := by
  obtain ⟨hi, e⟩ := List.getElem?_eq_some_iff.mp h
  rw [← e, List.getElem_cons_drop hi, List.take_append_drop]
theorem need_codes_ok {b : Bk} (G : GB b) : Pu m_need_codes [tS b.asp, .tup (b.cs.map cT)] .non := by
  intro S
  obtain ⟨K, hK, hk⟩ := G.kin
  have hc := G.code
  unfold m_need_codes
  refine gc_pure ?_ rfl
  unfold b_need_codes
  generalize m_is_code = f1 at hc ⊢
  simp_arith [Nat.zero_le]
  generalize hF : forF _ _ _ _ _ = R
  obtain ⟨τ2, S2, e, ks, hks, h1, h2⟩ := for_go hF (fun i τ T1 => ∃ ks : List Str, (ks.Nodup ∧ ∀ x ∈ ks, x ∈ K) ∧ T1 = S ++ [.lst (((b.cs.take i).map (·.w)).map T.str), .lst (ks.map T.str)] ∧
      ∃ y z, τ = [some (tS b.asp), some (.tup (b.cs.map cT)), some (.ref S.length), some (.ref (S.length + 1)), y, z])
    ⟨[], ⟨List.nodup_nil, fun x hx => nomatch hx⟩, by simp, none, none, by simp⟩ (by
    intro i x τ T1 hx hI
    obtain ⟨ks, ⟨hnd, hsub⟩, rfl, y, z, rfl⟩ := hI
    obtain ⟨c, hc1, rfl⟩ := fiE_at hx
    refine ⟨_, rfl, ?_⟩
    have hcm : c ∈ b.cs := List.mem_of_getElem? hc1
    have hlen := nodup_len hnd hsub
    have hi := (List.getElem?_eq_some_iff.mp hc1).1
    have hl := G.len
    have w1 : c.w ∉ (b.cs.take i).map (·.w) := fun hz => by
      have h3 := G.nd
      rw [split_at hc1] at h3
      rw [List.map_append, List.nodup_append] at h3
      exact h3.2.2 _ hz _ (by simp) rfl
    have z1 : (b.cs.take i).length < sizeLine := small16' (by rw [List.length_take]; omega)
    have z2 : ks.length < sizeLine := small16' (by omega)
    have hw : (((b.cs.take i).map (·.w)).map T.str) ++ [T.str c.w] = ((b.cs.take (i + 1)).map (·.w)).map T.str := by
      rw [List.take_add_one, hc1, List.map_append, List.map_append]
      rfl
    have hc2 : ∀ S, f1 [.tup [.str c.w, .str c.k, .tup (c.g.map pT)], tS b.asp] S = .ok (.bl true) S := hc c hcm
    have w2 : ¬ (6 : Int) < ks.length := by omega
    by_cases hk2 : c.k ∈ ks
    · simp_arith [hc2, cT, w1, List.length_map, z1, hk2, hw, w2]
      exact goes_nx ⟨ks, ⟨hnd, hsub⟩, rfl, _, _, rfl⟩
    · have nd2 : (ks ++ [c.k]).Nodup := by
        rw [List.nodup_append]
        exact ⟨hnd, by simp, fun a ha b hb => by
          rw [List.mem_singleton.mp hb]
          rintro rfl
          exact hk2 ha⟩
      have sub2 : ∀ x ∈ ks ++ [c.k], x ∈ K := fun x hx => (List.mem_append.mp hx).elim (hsub x) fun h => by
        rw [List.mem_singleton.mp h]
        exact hk c hcm
      have l2 := nodup_len nd2 sub2
      have w3 : ¬ (6 : Int) < (ks ++ [c.k]).length := by omega
      simp_arith [hc2, cT, w1, List.length_map, z1, z2, hk2, hw, w3, map_snoc]
      exact goes_nx ⟨ks ++ [c.k], ⟨nd2, sub2⟩, rfl, _, _, rfl⟩)
  subst e h1
  simp_arith []
  exact ⟨_, rfl⟩
end SF
set_option Elab.async false
set_option linter.all false
set_option maxRecDepth 100000
namespace SF
open PySem PySem.Spec L2 TL
open PyProof.Rows hiding St
abbrev kS (l : List Str) : List Key := l.map Sum.inr
def updS (ks vs : List Str) (a v : Str) : List Str := List.zipWith (fun k u => if k = a then v else u) ks vs
def giveS (ks vs : List Str) (g : List (Str × Str)) : List Str := g.foldl (fun vs p => updS ks vs p.1 p.2) vs
theorem updS_len {ks vs : List Str} (h : vs.length = ks.length) (a v : Str) : (updS ks vs a v).length = ks.length := by
  unfold updS
  rw [List.length_zipWith]
  omega
theorem giveS_len {ks : List Str} : ∀ {g : List (Str × Str)} {vs : List Str}, vs.length = ks.length → (giveS ks vs g).length = ks.length
  | [], _, h => h
  | p :: g, vs, h => giveS_len (g := g) (updS_len h p.1 p.2)
theorem inr_eq {a b : Str} : ((Sum.inr a : Key) = Sum.inr b) ↔ a = b := ⟨fun h => Sum.inr.inj h, fun h => by rw [h]⟩
theorem any_S {ks : List Str} {a : Str} (m : a ∈ ks) : (kS ks).any (fun k => decide (k = Sum.inr a)) = true := List.any_eq_true.mpr ⟨_, List.mem_map_of_mem m, by simp⟩
theorem merge_new : ∀ {prs : List (Key × T)} {ks : List Key} {ts : List T}, ks.length = ts.length → (ks ++ prs.map (·.1)).Nodup → mergeT (ks, ts) prs = (ks ++ prs.map (·.1), ts ++ prs.map (·.2))
  | [], ks, ts, _, _ => by simp [mergeT]
  | (k, t) :: prs, ks, ts, hl, h => by
    have hk : k ∉ ks := fun m => by
      rw [List.nodup_append] at h
      exact h.2.2 k m k (by simp) rfl
    have e : putK' ks ts k t = (ks ++ [k], ts ++ [t]) := by
      unfold putK'
      rw [if_neg]
      intro z
      obtain ⟨y, hy, q⟩ := List.any_eq_true.mp z
      exact hk (of_decide_eq_true q ▸ hy)
    have ih := merge_new (prs := prs) (ks := ks ++ [k]) (ts := ts ++ [t]) (by simp [hl]) (by simpa using h)
    show mergeT (putK' ks ts k t) prs = _
    rw [e, ih]
    simp
theorem merge_nil {prs : List (Key × T)} (h : (prs.map (·.1)).Nodup) : mergeT ([], []) prs = (prs.map (·.1), prs.map (·.2)) := by
  have := merge_new (prs := prs) (ks := []) (ts := []) rfl (by simpa using h)
  simpa using this
theorem nodup_inr {l : List Str} (h : l.Nodup) : (kS l).Nodup := List.Pairwise.map _ (fun _ _ n z => n (Sum.inr.inj z)) h
def findC (cs : List Code) (x : Str) : Option Code := cs.find? fun c => decide (c.w = x)
theorem getK_C (f : Code → T) : ∀ (cs : List Code) (x : Str), getK (cs.map fun c => Sum.inr c.w) (cs.map f) (.inr x) = (findC cs x).map f
  | [], _ => rfl
  | c :: cs, x => by
    simp only [List.map_cons, getK, findC, inr_eq, List.find?_cons]
    by_cases e : c.w = x
    · rw [if_pos e]
      simp [e]
    · rw [if_neg e, getK_C f cs x]
      simp [e, findC]
theorem findC_mem {cs : List Code} {x : Str} {c : Code} (h : findC cs x = some c) : c ∈ cs ∧ c.w = x := ⟨List.mem_of_find?_eq_some h, by simpa using List.find?_some h⟩
theorem findC_none {cs : List Code} {x : Str} (h : findC cs x = none) : ∀ c ∈ cs, c.w ≠ x := fun c hc e => by
  have := List.find?_eq_none.mp h c hc
  simp [e] at this
structure Si (x : Str) : Prop where
  sg : Sg x true
  sh : ∀ b S, m_shown_at [bT b, .str x] S = .ok (tS (if x = "\n" then [] else if x = " " then b.sh else b.asp)) S
  nl : ∀ S, TL.eqT S (.str x) (.str "\n") = some (.bl (decide (x = "\n")))
  bl : ∀ S, TL.eqT S (.str x) (.str " ") = some (.bl (decide (x = " ")))
def leftS (b : Bk) (t : List Str) : List Str → List Str → List Str
  | vs, [] => vs
  | vs, x :: r => match findC b.cs x with
    | some c => leftS b t (if c.k ∈ t then giveS b.asp vs c.g else vs) r
    | none => leftS b t vs r
end SF
set_option Elab.async false
set_option linter.all false
set_option maxRecDepth 100000
namespace SF
open PySem PySem.Spec L2 TL
open PyProof.Rows hiding St
theorem need_book_ok {b : Bk} (G : GB b) : Pu m_need_book [bT b] (bT b) := by
  intro S
  have hJ := need_codes_ok G S
  have ha := G.asp
  have hs := G.sh
  unfold m_need_book b_need_book bT
  generalize m_need_codes = f1 at hJ ⊢
  generalize m_are_names = f2 at ha hs ⊢
  have l1 : (b.asp.length : Int) ≠ 0 := by
    intro z
    exact G.asp0 (List.length_eq_zero_iff.mp (by omega))
  have l2 : ¬ (16 : Int) < b.cs.length := by
    have := G.len
    omega
  have l3 : b.sh.length ≤ sizeLine := small16 (by have := G.shz; omega)
  simp_arith [ha, hs, List.length_map, l1, l2, l3]
  rw [lc_map (r := fun _ => .bl true) fun x hx => ?a]
  case a =>
    obtain ⟨p, hp, rfl⟩ := List.mem_map.mp hx
    exact ⟨_, rfl, slots1 _ _, rfl, by simp_arith [G.sub p hp]⟩
  simp_arith [all_lst, hJ, List.length_map, l2]
structure GI (b : Bk) (xs : List Str) : Prop where
  len : xs.length ≤ 200
  it : ∀ x ∈ xs, (∃ c ∈ b.cs, c.w = x) ∨ Si x
structure GW (b : Bk) : Prop where
  gb : GB b
  sg : ∀ c ∈ b.cs, Sg c.w false
  gin : ∀ c ∈ b.cs, ∀ p ∈ c.g, p.1 ∈ b.asp
  and : b.asp.Nodup
  gz : ∀ c ∈ b.cs, c.g.length ≤ 6
  asz : b.asp.length ≤ 6
theorem Si.not {b : Bk} (W : GW b) {x : Str} (h : Si x) : findC b.cs x = none := by
  cases e : findC b.cs x with
  | none => rfl
  | some c =>
    obtain ⟨hc, rfl⟩ := findC_mem e
    have h1 := h.sg []
    have h2 := W.sg c hc []
    rw [h1] at h2
    simp at h2
theorem GI.find {b : Bk} (W : GW b) {xs : List Str} (I : GI b xs) {x : Str} (hx : x ∈ xs) : (∃ c ∈ b.cs, c.w = x ∧ findC b.cs x = some c ∧ Sg x false) ∨ (Si x ∧ findC b.cs x = none) := by
  rcases I.it x hx with ⟨c, hc, rfl⟩ | h
  · cases e : findC b.cs c.w with
    | none => exact absurd rfl (findC_none e c hc)
    | some d =>
      obtain ⟨hd, e2⟩ := findC_mem e
      exact .inl ⟨d, hd, e2, rfl, W.sg c hc⟩
  · exact .inr ⟨h, h.not W⟩
theorem fiE_S {xs : List Str} {i : Nat} {y : T} (h : (numbT (xs.map T.str))[i]? = some y) : ∃ x, x ∈ xs ∧ y = .tup [.int (i : Nat), .str x] := by
  obtain ⟨z, h1, rfl⟩ := zip_range h
  obtain ⟨x, hx, rfl⟩ := List.mem_map.mp (List.mem_of_getElem? h1)
  exact ⟨x, hx, rfl⟩
theorem words_of_ok {b : Bk} (W : GW b) : Pu m_words_of [bT b] (.lst ((b.cs.map (·.w)).map T.str)) := by
  intro S
  unfold m_words_of b_words_of
  have l2 : b.cs.length ≤ sizeLine := small16 (by have := W.gb.len; omega)
  simp_arith [bT]
  rw [lc_map (r := fstT) fun x hx => ?a]
  case a =>
    obtain ⟨p, hp, rfl⟩ := List.mem_map.mp hx
    exact ⟨_, rfl, slots1 _ _, rfl, by simp_arith [cT, fstT]⟩
  have e1 : (b.cs.map cT).map fstT = (b.cs.map (·.w)).map T.str := by
    rw [List.map_map, List.map_map]
    exact List.map_congr_left fun _ _ => rfl
  simp_arith [e1, List.length_map, l2]
theorem need_stream_ok {b : Bk} (W : GW b) {xs : List Str} (I : GI b xs) : Pu m_need_stream [bT b, tS xs] (tS xs) := by
  intro S
  have hJ := need_book_ok W.gb S
  have hw := words_of_ok W
  unfold m_need_stream b_need_stream
  generalize m_need_book = f1 at hJ ⊢
  generalize m_words_of = f3 at hw ⊢
  have hs : ∀ x ∈ xs, ∃ k, (∀ S, m_is_sign [.str x] S = .ok (.bl k) S) ∧ (k = false → x ∈ b.cs.map (·.w)) := fun x hx => by
    rcases I.find W hx with ⟨c, hc, e, _, h⟩ | ⟨h, _⟩
    · exact ⟨false, h, fun _ => List.mem_map.mpr ⟨c, hc, e⟩⟩
    · exact ⟨true, h.sg, fun z => nomatch z⟩
  generalize m_is_sign = f2 at hs ⊢
  have l1 : ¬ (200 : Int) < xs.length := by
    have := I.len
    omega
  simp_arith [hJ, hw S, List.length_map, l1]
  generalize hF : forF _ _ _ _ _ = R
  obtain ⟨τ2, S2, e, h1, z1, z2, h2⟩ := for_go hF (fun i τ T1 => T1 = S ∧ ∃ y z, τ = [some (bT b), some (tS xs), some (.lst ((b.cs.map (·.w)).map T.str)), y, z])
    ⟨rfl, none, none, rfl⟩ (by
    intro i y τ T1 hx hI
    obtain ⟨rfl, y1, y2, rfl⟩ := hI
    obtain ⟨x, hx1, rfl⟩ := fiE_S hx
    obtain ⟨k, hk1, hk2⟩ := hs x hx1
    refine ⟨_, rfl, ?_⟩
    cases k with
    | true =>
      simp_arith [hk1]
      exact goes_nx ⟨rfl, _, _, rfl⟩
    | false =>
      simp_arith [hk1, hk2 rfl]
      exact goes_nx ⟨rfl, _, _, rfl⟩)
  subst e h1 h2
  simp_arith []
end SF
set_option Elab.async false
set_option linter.all false
set_option maxRecDepth 100000
namespace SF
open PySem PySem.Spec L2 TL
open PyProof.Rows hiding St
theorem ix_codes (f : Code → T) (cs : List Code) (x : Str) (S : Sto) : ixT S (.dct (cs.map fun c => Sum.inr c.w) (cs.map f)) (.str x) = (findC cs x).map f := by
  show ((keyT (.str x)).bind fun k => getK _ _ k) = _
  exact getK_C f cs x
def kOf : T → Key
  | .tup (.str w :: _) => .inr w
  | _ => .inl 0
theorem codes_dc {b : Bk} (W : GW b) (f : Code → T) : mergeT ([], []) (b.cs.map fun c => ((Sum.inr c.w : Key), f c)) = (b.cs.map fun c => Sum.inr c.w, b.cs.map f) := by
  rw [merge_nil, List.map_map, List.map_map]
  · rfl
  · rw [List.map_map]
    have h := nodup_inr W.gb.nd
    unfold kS at h
    rw [List.map_map] at h
    exact h
theorem codes_by_word_ok {b : Bk} (W : GW b) : Pu m_codes_by_word [bT b] (.dct (b.cs.map fun c => Sum.inr c.w) (b.cs.map cT)) := by
  intro S
  unfold m_codes_by_word b_codes_by_word
  have z1 : b.cs.length ≤ sizeLine := small16 (by have := W.gb.len; omega)
  have i2 : ∀ S, ixT S (bT b) (.int 2) = some (.tup (b.cs.map cT)) := fun S => rfl
  simp_arith [i2, List.length_map, z1]
  rw [dc_map (k := kOf) (r := id) fun x hx => ?a]
  case a =>
    obtain ⟨c, hc, rfl⟩ := List.mem_map.mp hx
    exact ⟨_, rfl, slots1 _ _, rfl, by simp_arith [cT, kOf, tKey], by simp_arith [id]⟩
  have e1 : (b.cs.map cT).map (fun x => (kOf x, id x)) = b.cs.map fun c => ((Sum.inr c.w : Key), cT c) := by
    rw [List.map_map]
    exact List.map_congr_left fun _ _ => rfl
  simp_arith [e1, codes_dc W cT]
end SF
set_option Elab.async false
set_option linter.all false
set_option maxRecDepth 100000
namespace SF
open PySem PySem.Spec L2 TL
open PyProof.Rows hiding St
def signS (b : Bk) (xs : List Str) : List Str := xs.filter fun x => (findC b.cs x).isNone
theorem signs_of_ok {b : Bk} (W : GW b) {xs : List Str} (I : GI b xs) : Pu m_signs_of [bT b, tS xs] (tS (signS b xs)) := by
  intro S
  have hJ := need_stream_ok W I S
  have hf : ∀ x ∈ xs, Sg x (findC b.cs x).isNone := fun x hx => by
    rcases I.find W hx with ⟨c, hc, e, hfc, hs⟩ | ⟨hs, hfc⟩
    · rw [hfc]; exact hs
    · rw [hfc]; exact hs.sg
  have hsg : ∀ x k, Sg x k → ∀ S, m_is_sign [.str x] S = .ok (.bl k) S := fun x k h S => h S
  unfold m_signs_of b_signs_of
  generalize m_need_stream = f1 at hJ ⊢
  generalize m_is_sign = f2 at hsg ⊢
  have z1 : xs.length ≤ sizeLine := small16 I.len
  simp_arith [hJ, List.length_map, z1]
  rw [lc_filter (p := fun x => match x with | .str x => (findC b.cs x).isNone | _ => false) (r := id) fun x hx => ?a]
  case a =>
    obtain ⟨x, hxm, rfl⟩ := List.mem_map.mp hx
    exact ⟨_, rfl, slots1 _ _, by simp_arith [hsg x _ (hf x hxm)], fun _ => by simp_arith [id]⟩
  have e : ((xs.map T.str).filter fun x => match x with | .str x => (findC b.cs x).isNone | _ => false).map id = (signS b xs).map T.str := by
    rw [List.map_id, List.filter_map]
    rfl
  simp_arith [e]
theorem list_tup (xs : List T) (S : Sto) : listT S [.tup xs] = some (.lst xs) := rfl
end SF
set_option Elab.async false
set_option linter.all false
set_option maxRecDepth 100000
namespace SF
open PySem PySem.Spec L2 TL
open PyProof.Rows hiding St
def Rp (x : Str) : Prop := (reprText x).length ≤ 100 ∧ PyData.strOk (reprText x) = true ∧ PyData.strOk x = true
structure Nice (n m : Nat) (d : PyData) : Prop where
  lay : d.canLay0 = true
  eqv : PyData.eqv d d = true
  sh : d.showable = true
  hd : d.hasDict = false
  dp : d.depth ≤ n
  ln : d.shown.length ≤ m
  ok : PyData.strOk d.shown = true
theorem Nice.str {x : Str} (h : Rp x) : Nice 0 100 (.str x) :=
  ⟨by simp only [PyData.canLay0]; exact h.2.2, by simp only [PyData.eqv]; exact beq_self_eq_true x, by simp only [PyData.showable], by simp only [PyData.hasDict], by simp only [PyData.depth]; exact Nat.le_refl _, by simp only [PyData.shown]; exact h.1, by simp only [PyData.shown]; exact h.2.1⟩
theorem strOk_app {a b : Str} (h : PyData.strOk a = true) (g : PyData.strOk b = true) : PyData.strOk (a ++ b) = true := by
  unfold PyData.strOk at *
  show (a.cps ++ b.cps).all _ = true
  rw [Array.all_append, h, g]
  rfl
theorem strOk_join : ∀ {ts : List Str}, (∀ t ∈ ts, PyData.strOk t = true) → PyData.strOk (Str.join ", " ts) = true
  | [], _ => by decide +kernel
  | [x], h => h x List.mem_cons_self
  | x :: y :: r, h => by
    have ih := strOk_join (ts := y :: r) fun t ht => h t (List.mem_cons_of_mem _ ht)
    show PyData.strOk (x ++ ", " ++ Str.join ", " (y :: r)) = true
    exact strOk_app (strOk_app (h x List.mem_cons_self) (by decide +kernel)) ih
theorem piled_le {m : Nat} : ∀ {ts : List Str}, (∀ t ∈ ts, t.length ≤ m) → piled ts ≤ ts.length * (m + 2)
  | [], _ => by simp [piled]
  | t :: ts, h => by
    have ih := piled_le (ts := ts) fun u hu => h u (List.mem_cons_of_mem _ hu)
    have h1 := h t List.mem_cons_self
    rw [piled_cons, List.length_cons, Nat.add_mul]
    omega
theorem tupleText_le {m : Nat} {ts : List Str} (h : ∀ t ∈ ts, t.length ≤ m) : (tupleText ts).length ≤ 3 + ts.length * (m + 2) := by
  unfold tupleText
  rw [strLen_append, strLen_append]
  have e1 : ((("(" : String) : Str)).length = 1 := rfl
  have e3 : (((if ts.length == 1 then ",)" else ")" : String) : Str)).length ≤ 2 := by split <;> decide
  have hp := piled_le h
  cases ts with
  | nil =>
    have e2 : (Str.join ", " []).length = 0 := rfl
    omega
  | cons t r =>
    have e2 := join_length_add (t :: r) (by simp)
    omega
theorem shownAll_map : ∀ ds : List PyData, PyData.shownAll ds = ds.map PyData.shown
  | [] => by simp only [PyData.shownAll, List.map_nil]
  | d :: ds => by simp only [PyData.shownAll, List.map_cons, shownAll_map ds]
theorem Nice.tup {n m k : Nat} {ds : List PyData} (h : ∀ d ∈ ds, Nice n m d) (hk : ds.length ≤ k) : Nice (n + 1) (3 + k * (m + 2)) (.tuple ds) := by
  have a1 : ∀ {ds : List PyData}, (∀ d ∈ ds, Nice n m d) → PyData.canLayAll0 ds = true ∧ PyData.eqvAll ds ds = true ∧ PyData.showableAll ds = true ∧ PyData.hasDictAll ds = false ∧ PyData.depthAll ds ≤ n := fun {ds} h => by
    induction ds with
    | nil => exact ⟨by simp only [PyData.canLayAll0], by simp only [PyData.eqvAll], by simp only [PyData.showableAll], by simp only [PyData.hasDictAll], by simp only [PyData.depthAll]; exact Nat.zero_le _⟩
    | cons d ds ih =>
      obtain ⟨q1, q2, q3, q4, q5⟩ := ih fun x hx => h x (List.mem_cons_of_mem _ hx)
      have g := h d List.mem_cons_self
      exact ⟨by simp only [PyData.canLayAll0, g.lay, q1, Bool.and_self], by simp only [PyData.eqvAll, g.eqv, q2, Bool.and_self], by simp only [PyData.showableAll, g.sh, q3, Bool.and_self], by simp only [PyData.hasDictAll, g.hd, q4, Bool.or_self], by
        simp only [PyData.depthAll]
        exact Nat.max_le.mpr ⟨g.dp, q5⟩⟩
  obtain ⟨q1, q2, q3, q4, q5⟩ := a1 h
  have hs : ∀ t ∈ ds.map PyData.shown, t.length ≤ m ∧ PyData.strOk t = true := fun t ht => by
    obtain ⟨d, hd, rfl⟩ := List.mem_map.mp ht
    exact ⟨(h d hd).ln, (h d hd).ok⟩
  refine ⟨by simp only [PyData.canLay0]; exact q1, by simp only [PyData.eqv]; exact q2, by simp only [PyData.showable]; exact q3, by simp only [PyData.hasDict]; exact q4, by simp only [PyData.depth]; omega, ?_, ?_⟩
  · simp only [PyData.shown, shownAll_map]
    have := tupleText_le (ts := ds.map PyData.shown) fun t ht => (hs t ht).1
    rw [List.length_map] at this
    exact Nat.le_trans this (Nat.add_le_add_left (Nat.mul_le_mul_right _ hk) _)
  · simp only [PyData.shown, shownAll_map]
    unfold tupleText
    refine strOk_app (strOk_app (by decide +kernel) (strOk_join fun t ht => (hs t ht).2)) ?_
    split <;> decide +kernel
def NiceT (n m : Nat) (t : T) : Prop := ∃ d, toD t = some d ∧ Nice n m d ∧ dispD d = true
theorem toDs_of : ∀ {ts : List T} {P : PyData → Prop}, (∀ t ∈ ts, ∃ d, toD t = some d ∧ P d) → ∃ ds, toDs ts = some ds ∧ ds.length = ts.length ∧ ∀ d ∈ ds, P d
  | [], _, _ => ⟨[], by simp only [toDs], rfl, fun d h => nomatch h⟩
  | t :: ts, P, h => by
    obtain ⟨d, e, p⟩ := h t List.mem_cons_self
    obtain ⟨ds, es, hl, hp⟩ := toDs_of fun u hu => h u (List.mem_cons_of_mem _ hu)
    refine ⟨d :: ds, by simp only [toDs, e, es, Option.bind_some], by simp [hl], fun x hx => ?_⟩
    rcases List.mem_cons.mp hx with rfl | hx
    · exact p
    · exact hp x hx
theorem NiceT.tup {n m k : Nat} {ts : List T} (h : ∀ t ∈ ts, ∃ d, toD t = some d ∧ Nice n m d) (hk : ts.length ≤ k) : NiceT (n + 1) (3 + k * (m + 2)) (.tup ts) := by
  obtain ⟨ds, e, hl, hp⟩ := toDs_of h
  exact ⟨.tuple ds, by simp only [toD, e, Option.map_some], Nice.tup hp (by omega), rfl⟩
theorem nice_strs {l : List Str} (h : ∀ x ∈ l, Rp x) (hk : l.length ≤ k) : NiceT 1 (3 + k * 102) (tS l) := NiceT.tup (fun t ht => by
  obtain ⟨x, hx, rfl⟩ := List.mem_map.mp ht
  exact ⟨.str x, by simp only [toD], Nice.str (h x hx)⟩) (by simpa using hk)
theorem NiceT.ne {n m : Nat} {t : T} (h : NiceT n m t) (hn : n ≤ 60) (S : Sto) : TL.neT S t t = some (.bl false) ∧ TL.eqT S t t = some (.bl true) := by
  obtain ⟨d, e, g, hd⟩ := h
  have e1 : toD1 S t = some d := by
    cases t with
    | ref i => simp only [toD] at e; cases e
    | _ => exact e
  have sh : SeqAt.shaped d = true := by
    unfold SeqAt.shaped
    rw [g.lay, decide_eq_true (show d.depth ≤ 64 by have := g.dp; omega)]
    rfl
  unfold TL.neT TL.eqT eqB
  simp only [e1, sh, Bool.and_self, if_true, g.eqv, Option.map_some, Bool.not_true, and_self]
theorem updS_mem {ks vs : List Str} {a v x : Str} (h : x ∈ updS ks vs a v) : x = v ∨ x ∈ vs := by
  unfold updS at h
  obtain ⟨i, hi, e⟩ := List.mem_iff_getElem.mp h
  rw [List.getElem_zipWith] at e
  split at e
  · exact .inl e.symm
  · exact .inr (e ▸ List.getElem_mem _)
theorem giveS_mem {ks : List Str} {x : Str} : ∀ {g : List (Str × Str)} {vs : List Str}, x ∈ giveS ks vs g → x ∈ vs ∨ ∃ p ∈ g, x = p.2
  | [], _, h => .inl h
  | p :: g, vs, h => by
    rcases giveS_mem (g := g) (vs := updS ks vs p.1 p.2) h with q | ⟨r, hr, e⟩
    · rcases updS_mem q with e | q
      · exact .inr ⟨p, List.mem_cons_self, e⟩
      · exact .inl q
    · exact .inr ⟨r, List.mem_cons_of_mem _ hr, e⟩
structure GL (b : Bk) : Prop where
  w : GW b
  val : ∀ c ∈ b.cs, ∀ p ∈ c.g, Nm p.2 ∧ Rp p.2
def VB (b : Bk) (vs : List Str) : Prop := vs.length = b.asp.length ∧ ∀ v ∈ vs, Nm v ∧ Rp v
theorem VB.give {b : Bk} (L : GL b) {vs : List Str} (h : VB b vs) {c : Code} (hc : c ∈ b.cs) : VB b (giveS b.asp vs c.g) :=
  ⟨giveS_len h.1, fun v hv => (giveS_mem hv).elim (h.2 v) fun ⟨p, hp, e⟩ => by rw [e]; exact L.val c hc p hp⟩
theorem VB.left {b : Bk} (L : GL b) {t : List Str} : ∀ {xs vs : List Str}, VB b vs → VB b (leftS b t vs xs)
  | [], _, h => h
  | x :: xs, vs, h => by
    unfold leftS
    cases e : findC b.cs x with
    | none => exact VB.left L h
    | some c =>
      simp only
      split
      · exact VB.left L (h.give L (findC_mem e).1)
      · exact VB.left L h
end SF
set_option Elab.async false
set_option linter.all false
set_option maxRecDepth 100000
namespace SF
open PySem PySem.Spec L2 TL
open PyProof.Rows hiding St
theorem GI.sub {b : Bk} {xs ys : List Str} (I : GI b xs) (h : ys.Sublist xs) : GI b ys := ⟨Nat.le_trans h.length_le I.len, fun x hx => I.it x (h.subset hx)⟩
theorem add_tup {a b : List T} (h : a.length + b.length ≤ sizeLine) (S : Sto) : addT S (.tup a) (.tup b) = some (.tup (a ++ b)) := by
  show (if a.length + b.length ≤ sizeLine then some (T.tup (a ++ b)) else none) = _
  rw [if_pos h]
end SF
set_option Elab.async false
set_option linter.all false
set_option maxRecDepth 100000
namespace SF
open PySem PySem.Spec L2 TL
open PyProof.Rows hiding St
theorem mod_int {i j : Int} (h : 0 < j) (S : Sto) : modT S (.int i) (.int j) = some (.int (i % j)) := by
  unfold modT intsT
  simp only [decide_eq_true h, if_true]
theorem add_int (i j : Int) (S : Sto) : addT S (.int i) (.int j) = some (.int (i + j)) := rfl
theorem mul_int {i j : Int} (h : (-(2 ^ 64) < i ∧ i < 2 ^ 64) ∨ (-(2 ^ 64) < j ∧ j < 2 ^ 64)) (S : Sto) : mulT S (.int i) (.int j) = some (.int (i * j)) := by
  unfold mulT intsT
  simp only
  rw [if_pos]
  rcases h with h | h
  · rw [decide_eq_true h.1, decide_eq_true h.2]; rfl
  · rw [decide_eq_true h.1, decide_eq_true h.2]; simp
theorem fdiv_int {i j : Int} (h : 0 < j ∧ j < 1073741824) (S : Sto) : fdivT S (.int i) (.int j) = some (.int (i / j)) := by
  unfold fdivT intsT
  simp only [decide_eq_true h.1, decide_eq_true h.2, Bool.and_self, if_true]
theorem int_int (i : Int) (S : Sto) : intT S [.int i] = some (.int i) := rfl
theorem mixed_ok (c : Int) {k : Int} (h0 : 0 ≤ k) (h1 : k < 2 ^ 62) (S : Sto) : ∃ r, m__law_mixed [.int c, .int k] S = .ok (.int r) S ∧ 0 ≤ r ∧ r < 2147483629 := by
  unfold m__law_mixed b__law_mixed
  have m1 := Int.emod_nonneg c (show (2147483647 : Int) ≠ 0 by decide)
  have m2 := Int.emod_lt_of_pos c (show (0 : Int) < 2147483647 by decide)
  have e1 : ∀ S, modT S (.int c) (.int 2147483647) = some (.int (c % 2147483647)) := mod_int (by decide)
  generalize c % 2147483647 = d at m1 m2 e1
  have e2 : ∀ S, mulT S (.int 2) (.int k) = some (.int (2 * k)) := mul_int (.inl (by decide))
  have e3 : ∀ S, mulT S (.int (2 * k)) (.int k) = some (.int (2 * k * k)) := mul_int (.inr (by omega))
  have e4 : ∀ x S, mulT S (.int d) (.int x) = some (.int (d * x)) := fun x => mul_int (.inl (by omega))
  have e5 : ∀ S, mulT S (.int 69621) (.int k) = some (.int (69621 * k)) := mul_int (.inl (by decide))
  have e6 : ∀ x S, modT S (.int x) (.int 2147483647) = some (.int (x % 2147483647)) := fun x => mod_int (by decide)
  have e7 : ∀ x S, mulT S (.int x) (.int 69621) = some (.int (x * 69621)) := fun x => mul_int (.inr (by decide))
  have e8 : ∀ x S, modT S (.int x) (.int 2147483629) = some (.int (x % 2147483629)) := fun x => mod_int (by decide)
  simp_arith [int_int, e1, e2, e3, e4, e5, e6, e7, e8, add_int]
  exact ⟨_, rfl, Int.emod_nonneg _ (by decide), Int.emod_lt_of_pos _ (by decide)⟩
def K4 : List Key := kS ["cells", "lefts", "at", "room"]
def DD (cs : List Int) (a : Nat) : T := .dct K4 [.lst (cs.map T.int), .ref 0, .int a, .int 0]
def S2 (ls cs : List Int) (a : Nat) (R : Sto) : Sto := .lst (ls.map T.int) :: DD cs a :: R
theorem S2_ref1 (ls cs : List Int) (a : Nat) (R : Sto) : (S2 ls cs a R)[1]? = some (DD cs a) := rfl
theorem dct_1 (ls cs : List Int) (a : Nat) (R : Sto) : dctT (S2 ls cs a R) (.ref 1) = some (K4, [.lst (cs.map T.int), .ref 0, .int a, .int 0]) := by
  unfold dctT
  simp only [S2_ref1, DD]
theorem ix_at (ls cs : List Int) (a : Nat) (R : Sto) : ixT (S2 ls cs a R) (.ref 1) (.str "at") = some (.int a) := by
  unfold ixT
  rw [dct_1]
  rfl
theorem ix_cells (ls cs : List Int) (a : Nat) (R : Sto) : ixT (S2 ls cs a R) (.ref 1) (.str "cells") = some (.lst (cs.map T.int)) := by
  unfold ixT
  rw [dct_1]
  rfl
theorem ix_lefts (ls cs : List Int) (a : Nat) (R : Sto) : ixT (S2 ls cs a R) (.ref 1) (.str "lefts") = some (.ref 0) := by
  unfold ixT
  rw [dct_1]
  rfl
theorem ix_of {ls : List Int} {x : T} {S : Sto} {p : Nat} (hs : seqL S x = some (ls.map T.int)) (hd : dctT S x = none) (hx : ∀ ts, x ≠ .tup ts) (hy : ∀ s, x ≠ .str s) (h : p < ls.length) : ixT S x (.int p) = some (.int (ls[p])) := by
  have hi : ixN (ls.map T.int).length (p : Int) = some p := by
    unfold ixN
    rw [if_pos (by omega), if_pos (by rw [List.length_map]; omega)]
    simp
  have e : (seqL S x).bind (fun ts => atI ts (p : Int)) = some (.int ls[p]) := by
    rw [hs, Option.bind_some]
    unfold atI
    rw [hi]
    simp [h]
  unfold ixT
  rw [hd]
  cases x with
  | tup ts => exact absurd rfl (hx ts)
  | str s => exact absurd rfl (hy s)
  | _ => exact e
theorem set_at (ls cs : List Int) (a : Nat) (R : Sto) (b : Nat) : setT (S2 ls cs a R) (.ref 1) (.str "at") (.int b) = some (S2 ls cs b R) := by
  unfold setT
  simp only [S2_ref1, DD]
  rfl
theorem set_left (ls cs : List Int) (a : Nat) (R : Sto) {p : Nat} (v : Int) (h : p < ls.length) : setT (S2 ls cs a R) (.ref 0) (.int p) (.int v) = some (S2 (ls.set p v) cs a R) := by
  have hi : ixN (ls.map T.int).length (p : Int) = some p := by
    unfold ixN
    rw [if_pos (by omega), if_pos (by rw [List.length_map]; omega)]
    simp
  unfold setT
  simp only [S2, List.getElem?_cons_zero, hi, Option.map_some, List.set_cons_zero, List.map_set]
theorem draw_ok {m : Int} (hm : 0 < m ∧ m < 1073741824) {ls cs : List Int} {a : Nat} {R : Sto} (hl : ls.length = cs.length) (hc : cs ≠ []) (ha : a < 2 ^ 60) :
    ∃ r ls', m__law_draw [.ref 1, .int m] (S2 ls cs a R) = .ok (.int r) (S2 ls' cs (a + 1) R) ∧ 0 ≤ r ∧ r < m ∧ ls'.length = cs.length := by
  unfold m__law_draw b__law_draw
  have hn : 0 < cs.length := List.length_pos_iff.mpr hc
  obtain ⟨p, hp1, hp2⟩ : ∃ p : Nat, (a : Int) % (cs.length : Int) = p ∧ p < cs.length := ⟨a % cs.length, by rw [Int.natCast_emod], Nat.mod_lt _ hn⟩
  have e1 : ∀ S, modT S (.int a) (.int cs.length) = some (.int p) := fun S => by rw [mod_int (by omega), hp1]
  have e2 : ((a : Int) + 1) = ((a + 1 : Nat) : Int) := by omega
  have e3 : ixT (S2 ls cs (a + 1) R) (.ref 0) (.int p) = some (.int (ls[p]'(by omega))) := ix_of rfl rfl (fun _ => by simp) (fun _ => by simp) (by omega)
  have e4 : ∀ S, ixT S (.lst (cs.map T.int)) (.int p) = some (.int (cs[p])) := fun S => ix_of rfl rfl (fun _ => by simp) (fun _ => by simp) hp2
  have e5 : ∀ S, lenT S [.lst (cs.map T.int)] = some (.int cs.length) := fun S => by rw [len_lst, List.length_map]
  have mx : ∀ (c : Int) (k : Int), 0 ≤ k → k < 2 ^ 62 → ∀ S, ∃ r, m__law_mixed [.int c, .int k] S = .ok (.int r) S ∧ 0 ≤ r ∧ r < 2147483629 := fun c k h0 h1 S => mixed_ok c h0 h1 S
  generalize m__law_mixed = f1 at mx ⊢
  have ls1 : (0 : Int) < ls[p]'(by omega) ∨ ¬ (0 : Int) < ls[p]'(by omega) := by omega
  have st := fun v => set_left ls cs (a + 1) R (p := p) v (by omega)
  generalize ls[p]'(by omega) = l at e3 ls1
  rcases ls1 with hl0 | hl0
  · have d1 : ∀ S, fdivT S (.int l) (.int m) = some (.int (l / m)) := fdiv_int hm
    have d2 : ∀ S, modT S (.int l) (.int m) = some (.int (l % m)) := mod_int hm.1
    simp_arith [ix_at, bStore, add_int, e2, set_at, int_int, ix_cells, e5, e1, ix_lefts, e3, hl0, d1, st, d2]
    exact ⟨_, _, rfl, Int.emod_nonneg _ (by omega), Int.emod_lt_of_pos _ hm.1, by rw [List.length_set]; exact hl⟩
  · obtain ⟨r1, h1, b1, c1⟩ := mx cs[p] a (by omega) (by omega) (S2 ls cs (a + 1) R)
    obtain ⟨r2, h2, b2, c2⟩ := mx r1 (40 + a) (by omega) (by omega) (S2 ls cs (a + 1) R)
    obtain ⟨r3, h3, b3, c3⟩ := mx r2 (7 + a) (by omega) (by omega) (S2 ls cs (a + 1) R)
    have d1 : ∀ S, mulT S (.int r2) (.int 2147483647) = some (.int (r2 * 2147483647)) := mul_int (.inr (by decide))
    have d2 : ∀ x S, fdivT S (.int x) (.int 64) = some (.int (x / 64)) := fun x => fdiv_int (by decide)
    have d3 : ∀ x S, modT S (.int x) (.int m) = some (.int (x % m)) := fun x => mod_int hm.1
    simp_arith [ix_at, bStore, add_int, e2, set_at, int_int, ix_cells, e5, e1, ix_lefts, e3, hl0, e4, h1, h2, h3, d1, d2, d3]
    exact ⟨_, _, rfl, Int.emod_nonneg _ (by omega), Int.emod_lt_of_pos _ hm.1, hl⟩
end SF
set_option Elab.async false
set_option linter.all false
set_option maxRecDepth 100000
namespace SF
open PySem PySem.Spec L2 TL
open PyProof.Rows hiding St
def L3 : List Str := ["a", "b", "c"]
def V4 : List Str := ["plain", "u", "v", "zz"]
def K3 : List Str := ["j", "k", "l"]
def W8 : List Str := ["1", "2", "22", "3;4", "0", "38;5;1", "9", "44"]
def G5 : List Str := ["x", "y", " ", "z", "\n"]
def T5 : List Str := ["a", "j", "k", "l", "zz"]
def subls {α : Type} : List α → List (List α)
  | [] => [[]]
  | x :: r => subls r ++ (subls r).map (x :: ·)
theorem mem_subs {α : Type} : ∀ {L l : List α}, l.Sublist L → l ∈ subls L
  | [], l, h => by
    rw [List.sublist_nil.mp h]
    exact List.mem_singleton.mpr rfl
  | x :: L, l, h => by
    unfold subls
    rcases List.sublist_cons_iff.mp h with h2 | ⟨r, rfl, h2⟩
    · exact List.mem_append_left _ (mem_subs h2)
    · exact List.mem_append_right _ (List.mem_map_of_mem (mem_subs h2))
theorem all_of {α : Type} {P : α → Prop} : ∀ {L : List α}, (List.foldr (fun x q => P x ∧ q) True L) → ∀ x ∈ L, P x
  | [], _, x, h => nomatch h
  | y :: L, h, x, hx => by
    rcases List.mem_cons.mp hx with rfl | hx
    · exact h.1
    · exact all_of h.2 x hx
theorem nm_all : ∀ x ∈ L3 ++ V4 ++ K3, Nm x := all_of ⟨fun _ => by kernel_rfl, fun _ => by kernel_rfl, fun _ => by kernel_rfl, fun _ => by kernel_rfl, fun _ => by kernel_rfl, fun _ => by kernel_rfl, fun _ => by kernel_rfl, fun _ => by kernel_rfl, fun _ => by kernel_rfl, fun _ => by kernel_rfl, trivial⟩
theorem wd_all : ∀ x ∈ W8, Wd x ∧ Sg x false := all_of ⟨⟨fun _ => by kernel_rfl, fun _ => by kernel_rfl⟩, ⟨fun _ => by kernel_rfl, fun _ => by kernel_rfl⟩, ⟨fun _ => by kernel_rfl, fun _ => by kernel_rfl⟩, ⟨fun _ => by kernel_rfl, fun _ => by kernel_rfl⟩, ⟨fun _ => by kernel_rfl, fun _ => by kernel_rfl⟩, ⟨fun _ => by kernel_rfl, fun _ => by kernel_rfl⟩, ⟨fun _ => by kernel_rfl, fun _ => by kernel_rfl⟩, ⟨fun _ => by kernel_rfl, fun _ => by kernel_rfl⟩, trivial⟩
theorem si_all : ∀ x ∈ G5, Si x := all_of ⟨⟨fun _ => by kernel_rfl, fun _ _ => by kernel_rfl, fun _ => by kernel_rfl, fun _ => by kernel_rfl⟩, ⟨fun _ => by kernel_rfl, fun _ _ => by kernel_rfl, fun _ => by kernel_rfl, fun _ => by kernel_rfl⟩, ⟨fun _ => by kernel_rfl, fun _ _ => by kernel_rfl, fun _ => by kernel_rfl, fun _ => by kernel_rfl⟩, ⟨fun _ => by kernel_rfl, fun _ _ => by kernel_rfl, fun _ => by kernel_rfl, fun _ => by kernel_rfl⟩, ⟨fun _ => by kernel_rfl, fun _ _ => by kernel_rfl, fun _ => by kernel_rfl, fun _ => by kernel_rfl⟩, trivial⟩
theorem rp_of {x : Str} (h : (decide ((reprText x).length ≤ 100) && PyData.strOk (reprText x) && PyData.strOk x) = true) : Rp x := by
  simp only [Bool.and_eq_true, decide_eq_true_eq] at h
  exact ⟨h.1.1, h.1.2, h.2⟩
theorem rp_all : ∀ x ∈ L3 ++ V4 ++ K3 ++ W8 ++ G5 ++ T5, Rp x := fun x hx => rp_of (List.all_eq_true.mp (show (L3 ++ V4 ++ K3 ++ W8 ++ G5 ++ T5).all (fun x => decide ((reprText x).length ≤ 100) && PyData.strOk (reprText x) && PyData.strOk x) = true by decide +kernel) x hx)
theorem asp_all : ∀ l ∈ subls L3, ∀ S, m_are_names [tS l, .int 6] S = .ok (.bl true) S := all_of ⟨fun _ => by kernel_rfl, fun _ => by kernel_rfl, fun _ => by kernel_rfl, fun _ => by kernel_rfl, fun _ => by kernel_rfl, fun _ => by kernel_rfl, fun _ => by kernel_rfl, fun _ => by kernel_rfl, trivial⟩
theorem asc_all : ∀ l ∈ subls L3, ∀ S, m_ascend [.lst (l.map T.str)] S = .ok (.bl true) S := all_of ⟨fun _ => by kernel_rfl, fun _ => by kernel_rfl, fun _ => by kernel_rfl, fun _ => by kernel_rfl, fun _ => by kernel_rfl, fun _ => by kernel_rfl, fun _ => by kernel_rfl, fun _ => by kernel_rfl, trivial⟩
structure CL (asp : List Str) (c : Code) : Prop where
  k : c.k ∈ K3
  g0 : c.g ≠ []
  gs : (c.g.map (·.1)).Sublist asp
  gv : ∀ p ∈ c.g, p.2 ∈ V4
structure BL (b : Bk) : Prop where
  asp : b.asp.Sublist L3
  a0 : b.asp ≠ []
  sh : b.sh.Sublist b.asp
  ws : b.cs.map (·.w) = W8.take b.cs.length
  n8 : b.cs.length ≤ 8
  n0 : b.cs ≠ []
  cl : ∀ c ∈ b.cs, CL b.asp c
theorem nd_L3 : L3.Nodup := by decide +kernel
theorem BL.gl {b : Bk} (B : BL b) : GL b := by
  have wm : ∀ c ∈ b.cs, c.w ∈ W8 := fun c hc => by
    have : c.w ∈ b.cs.map (·.w) := List.mem_map_of_mem hc
    rw [B.ws] at this
    exact List.mem_of_mem_take this
  have gl6 : ∀ c ∈ b.cs, c.g.length ≤ 6 := fun c hc => by
    have h1 := ((B.cl c hc).gs.trans B.asp).length_le
    rw [List.length_map] at h1
    have h2 : L3.length = 3 := rfl
    omega
  have gin : ∀ c ∈ b.cs, ∀ p ∈ c.g, p.1 ∈ b.asp := fun c hc p hp => (B.cl c hc).gs.subset (List.mem_map_of_mem hp)
  have inL : ∀ x ∈ L3, x ∈ L3 ++ V4 ++ K3 := fun x hx => List.mem_append_left _ (List.mem_append_left _ hx)
  have inV : ∀ x ∈ V4, x ∈ L3 ++ V4 ++ K3 := fun x hx => List.mem_append_left _ (List.mem_append_right _ hx)
  have inK : ∀ x ∈ K3, x ∈ L3 ++ V4 ++ K3 := fun x hx => List.mem_append_right _ hx
  have l3 : b.asp.length ≤ 3 := B.asp.length_le
  have l4 := B.sh.length_le
  have l8 := B.n8
  refine ⟨⟨⟨asp_all _ (mem_subs B.asp), B.a0, asp_all _ (mem_subs (B.sh.trans B.asp)), fun x hx => B.sh.subset hx, by omega, by omega, fun c hc => ?_, ?_, ⟨K3, by decide, fun c hc => (B.cl c hc).k⟩⟩, fun c hc => (wd_all _ (wm c hc)).2, gin, nd_L3.sublist B.asp, gl6, by omega⟩, fun c hc p hp => ?_⟩
  · have C := B.cl c hc
    have a1 := asc_all _ (mem_subs (C.gs.trans B.asp))
    rw [List.map_map] at a1
    exact is_code_ok (small16 (by have := gl6 c hc; omega)) (wd_all _ (wm c hc)).1 (nm_all _ (inK _ C.k)) (are_gifts_ok C.g0 (small16 (by have := gl6 c hc; omega)) (fun p hp => ⟨nm_all _ (inL _ (B.asp.subset (gin c hc p hp))), nm_all _ (inV _ (C.gv p hp))⟩) a1) (gin c hc)
  · rw [B.ws]
    exact (show W8.Nodup by decide +kernel).sublist (List.take_sublist _ _)
  · exact ⟨nm_all _ (inV _ ((B.cl c hc).gv p hp)), rp_all _ (List.mem_append_left _ (List.mem_append_left _ (List.mem_append_left _ (inV _ ((B.cl c hc).gv p hp)))))⟩
structure XL (b : Bk) (xs : List Str) : Prop where
  len : xs.length ≤ 200
  it : ∀ x ∈ xs, x ∈ b.cs.map (·.w) ∨ x ∈ G5
theorem XL.gi {b : Bk} {xs : List Str} (X : XL b xs) : GI b xs := ⟨X.len, fun x hx => (X.it x hx).imp (fun h => by
  obtain ⟨c, hc, e⟩ := List.mem_map.mp h
  exact ⟨c, hc, e⟩) (si_all x)⟩
theorem XL.rp {b : Bk} {xs : List Str} (X : XL b xs) : ∀ x ∈ xs, findC b.cs x = none → Rp x := fun x hx e => by
  rcases X.it x hx with h | h
  · obtain ⟨c, hc, e2⟩ := List.mem_map.mp h
    exact absurd e2 (findC_none e c hc)
  · exact rp_all _ (List.mem_append_left _ (List.mem_append_right _ h))
end SF
set_option Elab.async false
set_option linter.all false
set_option maxRecDepth 100000
namespace SF
open PySem PySem.Spec L2 TL
open PyProof.Rows hiding St
def Dq {α : Type} (cs : List Int) (R : Sto) (n : Nat) (P : α → Prop) (G : Sto → Res α) : Prop := ∀ ls a, ls.length = cs.length → a + n ≤ 2 ^ 60 →
  ∃ r ls' a', G (S2 ls cs a R) = .ok r (S2 ls' cs a' R) ∧ P r ∧ ls'.length = cs.length ∧ a' ≤ a + n
theorem draw_dq {cs : List Int} {R : Sto} (hc : cs ≠ []) {m : Int} (hm : 0 < m ∧ m < 1073741824) : Dq cs R 1 (fun t => ∃ r : Nat, t = .int r ∧ (r : Int) < m) (m__law_draw [.ref 1, .int m]) := fun ls a hl ha => by
  obtain ⟨r, ls', e, h0, h1, h2⟩ := draw_ok hm (R := R) hl hc (show a < 2 ^ 60 by omega)
  exact ⟨_, ls', a + 1, e, ⟨r.toNat, by rw [Int.toNat_of_nonneg h0], by omega⟩, h2, Nat.le_refl _⟩
theorem ix_lst {ts : List T} {r : Nat} (h : r < ts.length) (S : Sto) : ixT S (.lst ts) (.int r) = some ts[r] := by
  have hi : ixN ts.length (r : Int) = some r := by
    unfold ixN
    rw [if_pos (by omega), if_pos (by omega)]
    simp
  show atI ts (r : Int) = _
  unfold atI
  rw [hi, Option.bind_some, List.getElem?_eq_getElem h]
theorem ix_tupn {ts : List T} {r : Nat} (h : r < ts.length) (S : Sto) : ixT S (.tup ts) (.int r) = some ts[r] := by
  have hi : ixN ts.length (r : Int) = some r := by
    unfold ixN
    rw [if_pos (by omega), if_pos (by omega)]
    simp
  show atI ts (r : Int) = _
  unfold atI
  rw [hi, Option.bind_some, List.getElem?_eq_getElem h]
theorem pick (l : List Str) {r : Nat} (h : r < l.length) : ∃ x ∈ l, ∀ S, ixT S (.lst (l.map T.str)) (.int r) = some (.str x) :=
  ⟨l[r], List.getElem_mem h, fun S => by rw [ix_lst (by rw [List.length_map]; exact h), List.getElem_map]⟩
theorem lc_sub {cs : List Int} {R : Sto} {i : Nat} {τ : Fr} {Ft : FT} {Fe : FE} {Q : Str → T → Prop} : ∀ {al : List Str}, (∀ x ∈ al, Dq cs R 1 (fun _ => True) (Ft (setsT τ [(i, .str x)]))) → (∀ x ∈ al, Dq cs R 1 (Q x) (Fe (setsT τ [(i, .str x)]))) →
    Dq cs R (2 * al.length) (fun ys => ∃ prs : List (Str × T), (prs.map (·.1)).Sublist al ∧ (∀ p ∈ prs, Q p.1 p.2) ∧ ys = prs.map (·.2)) (lcF (sName i) Ft Fe [i] τ (al.map T.str))
  | [], _, _ => fun ls a hl ha => ⟨[], ls, a, rfl, ⟨[], .slnil, (fun p hp => nomatch hp), rfl⟩, hl, Nat.le_refl _⟩
  | x :: al, h1, h2 => fun ls a hl ha => by
    rw [List.length_cons] at ha ⊢
    obtain ⟨k, ls1, a1, e1, _, l1, b1⟩ := h1 x List.mem_cons_self ls a hl (by omega)
    have ih := lc_sub (fun y hy => h1 y (List.mem_cons_of_mem _ hy)) fun y hy => h2 y (List.mem_cons_of_mem _ hy)
    cases k with
    | true =>
      obtain ⟨y, ls2, a2, e2, q2, l2, b2⟩ := h2 x List.mem_cons_self ls1 a1 l1 (by omega)
      obtain ⟨ys, ls3, a3, e3, ⟨prs, s3, q3, rfl⟩, l3, b3⟩ := ih ls2 a2 l2 (by omega)
      refine ⟨y :: prs.map (·.2), ls3, a3, ?_, ⟨(x, y) :: prs, s3.cons₂ x, fun p hp => ?_, rfl⟩, l3, by omega⟩
      · simp only [List.map_cons, lcF, sName, slots1, if_true, e1, nox_ok, bind_ok, e2, e3]
      · rcases List.mem_cons.mp hp with rfl | hp
        · exact q2
        · exact q3 p hp
    | false =>
      obtain ⟨ys, ls3, a3, e3, ⟨prs, s3, q3, rfl⟩, l3, b3⟩ := ih ls1 a1 l1 (by omega)
      refine ⟨prs.map (·.2), ls3, a3, ?_, ⟨prs, s3.cons x, q3, rfl⟩, l3, by omega⟩
      simp only [List.map_cons, lcF, sName, slots1, if_true, e1, nox_ok, bind_ok, e3]
end SF
set_option Elab.async false
set_option linter.all false
set_option maxRecDepth 100000
namespace SF
open PySem PySem.Spec L2 TL
open PyProof.Rows hiding St
theorem S2_app (ls cs : List Int) (a : Nat) (R J : Sto) : S2 ls cs a R ++ J = S2 ls cs a (R ++ J) := rfl
theorem S2_len (ls cs : List Int) (a : Nat) (R : Sto) : (S2 ls cs a R).length = R.length + 2 := rfl
theorem lst_S2 (ls cs : List Int) (a : Nat) (R J : Sto) (ts : List T) : lstAt (S2 ls cs a (R ++ .lst ts :: J)) (R.length + 2) = some ts := by
  have e : (S2 ls cs a (R ++ .lst ts :: J))[R.length + 2]? = some (.lst ts) := by simp [S2]
  unfold lstAt
  rw [e]
theorem set_S2 (ls cs : List Int) (a : Nat) (R J : Sto) (x y : T) : (S2 ls cs a (R ++ x :: J)).set (R.length + 2) y = S2 ls cs a (R ++ y :: J) := by
  simp [S2]
theorem tup_S2 (ls cs : List Int) (a : Nat) (R J : Sto) (ts : List T) : tupT (S2 ls cs a (R ++ .lst ts :: J)) [.ref (R.length + 2)] = some (.tup ts) := by
  have e : (S2 ls cs a (R ++ .lst ts :: J))[R.length + 2]? = some (.lst ts) := by simp [S2]
  show (seqL (S2 ls cs a (R ++ .lst ts :: J)) (.ref (R.length + 2))).map T.tup = some (.tup ts)
  unfold seqL
  simp only [e, Option.map_some]
theorem rng_at {r i : Nat} {x : T} (h : (rng 0 (r : Int))[i]? = some x) : i < r ∧ x = .int i := by
  unfold rng at h
  rw [List.getElem?_map] at h
  have e : ((r : Int) - 0).toNat = r := by omega
  rw [e] at h
  by_cases hi : i < r
  · rw [List.getElem?_range hi] at h
    refine ⟨hi, ?_⟩
    have : T.int (0 + (i : Nat)) = x := by simpa using h
    rw [← this]
    congr 1
    omega
  · rw [List.getElem?_eq_none (by simpa using hi)] at h
    cases h
theorem rng_len (r : Nat) : (rng 0 (r : Int)).length = r := by
  unfold rng
  rw [List.length_map, List.length_range]
  omega
theorem inR_small {r : Int} (h0 : 0 ≤ r) (h : r ≤ 1000) : TL.inR 0 r = true := by
  unfold TL.inR
  exact decide_eq_true (by omega)
def Db {α : Type} (cs : List Int) (n : Nat) (P : α → Prop) (G : Sto → Res α) : Prop := ∀ R ls a, ls.length = cs.length → a + n ≤ 2 ^ 60 →
  ∃ r ls' a' J, G (S2 ls cs a R) = .ok r (S2 ls' cs a' (R ++ J)) ∧ P r ∧ ls'.length = cs.length ∧ a' ≤ a + n
abbrev Dr {α : Type} (cs : List Int) (n : Nat) (P : α → Prop) (G : Sto → Res α) : Prop := ∀ R, Dq cs R n P G
theorem old_S2 {ls ls' cs : List Int} {a a' : Nat} {R : Sto} (n : Nat) (c : T) (h : (S2 ls' cs a' R)[n]? = some c) : (S2 ls cs a R)[n]? = some c ∨ sub (oldR (S2 ls cs a R).length) c = some c := by
  match n, h with
  | 0, h =>
    cases h
    exact .inr (sub_nr _ (nrs_int ls'))
  | 1, h =>
    cases h
    refine .inr ?_
    show (subs (oldR _) [.lst (cs.map T.int), .ref 0, .int a', .int 0]).map (T.dct K4) = some (DD cs a')
    simp only [subs, sub, subs_nr _ (nrs_int cs), Option.map_some, Option.bind_some, oldR]
    rw [if_pos (by simp [S2])]
    rfl
  | n + 2, h => exact .inl h
theorem db_gc {F : FF} {ts : List T} {cs : List Int} {n : Nat} {P : T → Prop} (h : Db cs n P (F ts)) (hn : ∀ t, P t → nr t = true) : Dr cs n P (gc F ts) := fun R ls a hl ha => by
  obtain ⟨r, ls', a', J, e, p, h1, h2⟩ := h R ls a hl ha
  refine ⟨r, ls', a', gc_old (J := J) ?_ rfl (hn r p) fun n c hc => old_S2 n c hc, p, h1, h2⟩
  rw [e, S2_app]
theorem stream_dr {cs : List Int} (hc : cs ≠ []) {b : Bk} (B : BL b) {most : Nat} (hm : most ≤ 60) : Dr cs 121 (fun t => ∃ xs, XL b xs ∧ xs.length ≤ most ∧ t = tS xs) (m__law_stream [.ref 1, bT b, .int most]) := by
  unfold m__law_stream
  refine db_gc (fun R ls a hl ha => ?_) fun t ht => by obtain ⟨xs, _, _, rfl⟩ := ht; exact nr_tS xs
  have n8 := B.n8
  have n0 : 0 < b.cs.length := List.length_pos_iff.mpr B.n0
  unfold b__law_stream
  have i2 : ∀ S, ixT S (bT b) (.int 2) = some (.tup (b.cs.map cT)) := fun S => rfl
  have dr := fun (R : Sto) {m : Int} (hm : 0 < m ∧ m < 1073741824) => draw_dq (R := R) hc hm
  generalize m__law_draw = f1 at dr ⊢
  simp_arith [i2, List.length_map, small16 (show b.cs.length ≤ 200 by omega)]
  rw [lc_map (r := fstT) fun x hx => ?aa]
  case aa =>
    obtain ⟨c, hcc, rfl⟩ := List.mem_map.mp hx
    exact ⟨_, rfl, slots1 _ _, rfl, by simp_arith [cT, fstT]⟩
  have e1 : (b.cs.map cT).map fstT = (b.cs.map (·.w)).map T.str := by
    rw [List.map_map, List.map_map]
    exact List.map_congr_left fun _ _ => rfl
  obtain ⟨_, ls1, a1, d1, ⟨r1, rfl, hr1⟩, l1, b1⟩ := dr (R ++ [.lst []]) (m := (most : Int) + 1) (by omega) ls a hl (by omega)
  have d1' : f1 [.ref 1, .int ((most : Int) + 1)] (S2 ls cs a (R ++ [.lst []])) = .ok (.int r1) (S2 ls1 cs a1 (R ++ [.lst []])) := d1
  simp_arith [e1, S2_app, S2_len, add_int, d1', Int.reduceAdd, inR_small (show (0 : Int) ≤ r1 by omega) (by omega)]
  generalize hF : forF _ _ _ _ _ = R2
  obtain ⟨τ2, S3, e, ls3, a3, xs, h4, h5, h6, h7, h8, x3, x6, h9⟩ := for_go hF (fun i τ T1 => ∃ ls' a' xs, T1 = S2 ls' cs a' (R ++ [.lst (xs.map T.str)]) ∧ ls'.length = cs.length ∧ a' ≤ a + 1 + 2 * i ∧ xs.length ≤ i ∧ (∀ x ∈ xs, x ∈ b.cs.map (·.w) ∨ x ∈ G5) ∧
      ∃ x3 x6, τ = [some (.ref 1), some (bT b), some (.int most), x3, some (.lst ((b.cs.map (·.w)).map T.str)), some (.ref (R.length + 2)), x6])
    ⟨ls1, a1, [], rfl, l1, b1, Nat.le_refl _, fun x hx => (nomatch hx), none, none, rfl⟩ (by
    intro i y τ T1 hx hI
    obtain ⟨ls', a', xs, rfl, hl', ha', hxl, hxs, x3, x6, rfl⟩ := hI
    obtain ⟨hi, rfl⟩ := rng_at hx
    refine ⟨_, rfl, ?_⟩
    have z4 : xs.length < sizeLine := small16' (by omega)
    obtain ⟨_, ls2, a2, d2, ⟨r2, rfl, hr2⟩, l2, b2⟩ := dr (R ++ [.lst (xs.map T.str)]) (m := 3) (by decide) ls' a' hl' (by omega)
    have wl : ∀ S, lenT S [.lst ((b.cs.map (·.w)).map T.str)] = some (.int b.cs.length) := fun S => by rw [len_lst, List.length_map, List.length_map]
    by_cases h0 : (0 : Int) < r2
    · obtain ⟨_, ls3, a3, d3, ⟨r3, rfl, hr3⟩, l3, b3⟩ := dr (R ++ [.lst (xs.map T.str)]) (m := (b.cs.length : Int)) (by omega) ls2 a2 l2 (by omega)
      obtain ⟨v, hv, ex⟩ := pick (b.cs.map (·.w)) (r := r3) (by rw [List.length_map]; omega)
      simp_arith [d2, h0, wl, d3, ex, lst_S2, List.length_map, z4, set_S2, map_snoc]
      refine goes_nx ⟨ls3, a3, xs ++ [v], rfl, l3, by omega, by simp; omega, fun x hx => ?_, _, _, rfl⟩
      rcases List.mem_append.mp hx with hx | hx
      · exact hxs x hx
      · rw [List.mem_singleton.mp hx]
        exact .inl hv
    · obtain ⟨_, ls3, a3, d3, ⟨r3, rfl, hr3⟩, l3, b3⟩ := dr (R ++ [.lst (xs.map T.str)]) (m := 6) (by decide) ls2 a2 l2 (by omega)
      obtain ⟨v, hv, ex⟩ := pick ["x", "y", "x", " ", "z", "\n"] (r := r3) (by simp; omega)
      have ex2 : ∀ S, ixT S (.lst [.str "x", .str "y", .str "x", .str " ", .str "z", .str "\n"]) (.int r3) = some (.str v) := ex
      simp_arith [d2, h0, d3, ex2, lst_S2, List.length_map, z4, set_S2, map_snoc, small16 (show 6 ≤ 200 by omega)]
      refine goes_nx ⟨ls3, a3, xs ++ [v], rfl, l3, by omega, by simp; omega, fun x hx => ?_, _, _, rfl⟩
      rcases List.mem_append.mp hx with hx | hx
      · exact hxs x hx
      · rw [List.mem_singleton.mp hx]
        exact .inr ((show ∀ y ∈ (["x", "y", "x", " ", "z", "\n"] : List Str), y ∈ G5 by decide +kernel) v hv))
  subst e h4 h9
  rw [rng_len] at h6 h7
  simp_arith [tup_S2]
  exact ⟨_, ls3, a3, [.lst (xs.map T.str)], rfl, ⟨xs, ⟨by omega, h8⟩, by omega, rfl⟩, h5, by omega⟩
end SF
set_option Elab.async false
set_option linter.all false
set_option maxRecDepth 100000
namespace SF
open PySem PySem.Spec L2 TL
open PyProof.Rows hiding St
theorem eq_nil {n m : Nat} {ts : List T} (h : NiceT n m (.tup ts)) (hn : n ≤ 60) (h0 : ts ≠ []) (S : Sto) : TL.eqT S (.tup ts) (.tup []) = some (.bl false) := by
  obtain ⟨d, e, g, _⟩ := h
  have e0 := e
  simp only [toD, Option.map_eq_some_iff] at e0
  obtain ⟨ds, hds, rfl⟩ := e0
  have sh : SeqAt.shaped (.tuple ds) = true := by
    unfold SeqAt.shaped
    rw [g.lay, decide_eq_true (show (PyData.tuple ds).depth ≤ 64 by have := g.dp; omega)]
    rfl
  have sh0 : SeqAt.shaped (.tuple []) = true := by decide +kernel
  have e2 : toD1 S (.tup []) = some (.tuple []) := by
    show toD (.tup []) = _
    simp only [toD, toDs, Option.map_some]
  have e1 : toD1 S (.tup ts) = some (.tuple ds) := e
  have v : PyData.eqv (.tuple ds) (.tuple []) = false := by
    cases ds with
    | nil =>
      cases ts with
      | nil => exact absurd rfl h0
      | cons t ts =>
        simp only [toDs, Option.bind_eq_some_iff] at hds
        obtain ⟨_, _, _, _, z⟩ := hds
        cases z
    | cons d ds => simp only [PyData.eqv, PyData.eqvAll]
  unfold TL.eqT eqB
  simp only [e1, e2, sh, sh0, Bool.and_self, if_true, v, Option.map_some]
theorem eq_nil0 (S : Sto) : TL.eqT S (.tup []) (.tup []) = some (.bl true) := by kernel_rfl
theorem gifts_nice {g : List (Str × Str)} (h1 : ∀ p ∈ g, p.1 ∈ L3) (h2 : ∀ p ∈ g, p.2 ∈ V4) (hz : g.length ≤ 6) : NiceT 2 (3 + 6 * (3 + 2 * 102 + 2)) (.tup (g.map pT)) :=
  NiceT.tup (n := 1) (m := 3 + 2 * 102) (fun t ht => by
    obtain ⟨p, hp, rfl⟩ := List.mem_map.mp ht
    obtain ⟨d, e, n, _⟩ := nice_strs (k := 2) (l := [p.1, p.2]) (fun x hx => by
      rcases List.mem_cons.mp hx with rfl | hx
      · exact rp_all _ (by simp only [List.mem_append]; exact .inl (.inl (.inl (.inl (.inl (h1 p hp))))))
      · rw [List.mem_singleton.mp hx]
        exact rp_all _ (by simp only [List.mem_append]; exact .inl (.inl (.inl (.inl (.inr (h2 p hp))))))) (by simp)
    exact ⟨d, e, n⟩) (by rw [List.length_map]; exact hz)
end SF
set_option Elab.async false
set_option linter.all false
set_option maxRecDepth 100000
namespace SF
open PySem PySem.Spec L2 TL
open PyProof.Rows hiding St
theorem toDs_ints : ∀ ns : List Int, toDs (ns.map T.int) = some (ns.map PyData.int)
  | [] => rfl
  | n :: ns => by simp only [List.map_cons, toDs, toD, toDs_ints ns, Option.bind_some]
theorem shaped_ints (ns : List Int) : SeqAt.shaped (.list (ns.map PyData.int)) = true := by
  have h1 : ∀ ns : List Int, PyData.canLayAll0 (ns.map PyData.int) = true := fun ns => by
    induction ns with
    | nil => simp only [List.map_nil, PyData.canLayAll0]
    | cons n ns ih => simp only [List.map_cons, PyData.canLayAll0, PyData.canLay0, ih, Bool.and_self]
  have h2 : ∀ ns : List Int, PyData.depthAll (ns.map PyData.int) = 0 := fun ns => by
    induction ns with
    | nil => simp only [List.map_nil, PyData.depthAll]
    | cons n ns ih => simp only [List.map_cons, PyData.depthAll, PyData.depth, ih, Nat.max_self]
  unfold SeqAt.shaped
  simp only [PyData.canLay0, h1, PyData.depth, h2]
  rfl
theorem ne_sls {ns : List Int} (h : ns ≠ []) (S : Sto) : TL.neT S (.sls (ns.map T.int)) (.lst []) = some (.bl true) := by
  have e1 : toD1 S (.sls (ns.map T.int)) = some (.list (ns.map PyData.int)) := by
    show toD (.sls (ns.map T.int)) = _
    simp only [toD, toDs_ints, Option.map_some]
  have e2 : toD1 S (.lst []) = some (.list []) := by
    show toD (.lst []) = _
    simp only [toD, toDs, Option.map_some]
  have s2 : SeqAt.shaped (.list []) = true := by decide +kernel
  have v : PyData.eqv (.list (ns.map PyData.int)) (.list []) = false := by
    cases ns with
    | nil => exact absurd rfl h
    | cons n ns => simp only [List.map_cons, PyData.eqv, PyData.eqvAll]
  unfold TL.neT eqB
  simp only [e1, e2, shaped_ints, s2, Bool.and_self, if_true, v, Option.map_some, Bool.not_false]
theorem list_sls (ts : List T) (S : Sto) : listT S [.sls ts] = some (.lst ts) := rfl
theorem pow_18 (S : Sto) : powT S (.int 10) (.int 18) = some (.int (10 ^ 18)) := by kernel_rfl
theorem ge_int (i j : Int) (S : Sto) : geT S (.int i) (.int j) = some (.bl (decide (j ≤ i))) := rfl
theorem merge_K4 (c l a r : T) : mergeT ([], []) [(.inr "cells", c), (.inr "lefts", l), (.inr "at", a), (.inr "room", r)] = (K4, [c, l, a, r]) := by kernel_rfl
def bigT : T → T
  | .int c => .int (if (10 : Int) ^ 18 ≤ c then c else 0)
  | t => t
theorem begin_ok {ns : List Int} (hz : ns.length ≤ 63) : ∃ ls cs, m__law_begin [.sls (ns.map T.int)] [] = .ok (.ref 1) (S2 ls cs 0 []) ∧ ls.length = cs.length ∧ cs ≠ [] := by
  have rest : ∀ cs : List Int, cs ≠ [] → cs.length ≤ 63 → ∀ x2,
      bRet (fCell (fDisp (((fC (.str "cells")), (fVar 1)) :: (((fC (.str "lefts")), (fCell (fLc (fiA (fVar 1)) (sName 2) fYes (fIf (fTest (fBin geT (fVar 2) (fBin powT (fC (.int 10)) (fC (.int 18))))) (fVar 2) (fC (.int 0))) [2]))) :: (((fC (.str "at")), (fC (.int 0))) :: (((fC (.str "room")), (fC (.int 0))) :: []))))))
        [some (.sls (ns.map T.int)), some (.lst (cs.map T.int)), x2] [] = .rt (.ref 1) (S2 (cs.map fun c => if (10 : Int) ^ 18 ≤ c then c else 0) cs 0 []) := fun cs hc hl x2 => by
    simp_arith [fDisp, prF, List.length_map, small16 (show cs.length ≤ 200 by omega)]
    rw [lc_map (r := bigT) fun x hx => ?aa]
    case aa =>
      obtain ⟨c, hcc, rfl⟩ := List.mem_map.mp hx
      refine ⟨_, rfl, slots1 _ _, rfl, ?_⟩
      by_cases h : (10 : Int) ^ 18 ≤ c
      · simp_arith [pow_18, ge_int, h, bigT]
      · simp_arith [pow_18, ge_int, h, bigT]
    have e : (cs.map T.int).map bigT = (cs.map fun c => if (10 : Int) ^ 18 ≤ c then c else 0).map T.int := by
      rw [List.map_map, List.map_map]
      exact List.map_congr_left fun _ _ => rfl
    simp_arith [e, keyed, keyT, merge_K4]
    rfl
  by_cases h : ns = []
  · subst h
    exact ⟨[0], [0], by kernel_rfl, rfl, by simp⟩
  · refine ⟨ns.map fun c => if (10 : Int) ^ 18 ≤ c then c else 0, ns, ?_, by rw [List.length_map], h⟩
    · have r0 := rest ns h hz none
      unfold m__law_begin b__law_begin
      generalize bRet _ = B at r0 ⊢
      simp_arith [ne_sls h, list_sls, r0]
end SF
set_option Elab.async false
set_option linter.all false
set_option maxRecDepth 100000
namespace SF
open PySem PySem.Spec L2 TL
open PyProof.Rows hiding St
theorem sub_of_sorted : ∀ {L t : List Str}, L.Pairwise (fun a b => leS a b = true) → L.Nodup → t.Pairwise (fun a b => leS a b = true) → t.Nodup → (∀ x ∈ t, x ∈ L) → t.Sublist L
  | [], t, _, _, _, _, h => by
    cases t with
    | nil => exact .slnil
    | cons x t => exact nomatch h x List.mem_cons_self
  | y :: L, [], _, _, _, _, _ => List.nil_sublist _
  | y :: L, x :: t, hL, nL, ht, nt, h => by
    obtain ⟨a1, a2⟩ := List.pairwise_cons.mp hL
    obtain ⟨b1, b2⟩ := List.pairwise_cons.mp ht
    obtain ⟨c1, c2⟩ := List.nodup_cons.mp nL
    obtain ⟨d1, d2⟩ := List.nodup_cons.mp nt
    by_cases e : x = y
    · subst e
      exact (sub_of_sorted a2 c2 b2 d2 fun z hz => (List.mem_cons.mp (h z (List.mem_cons_of_mem _ hz))).resolve_left (by rintro rfl; exact d1 hz)).cons₂ x
    · have hx : x ∈ L := (List.mem_cons.mp (h x List.mem_cons_self)).resolve_left e
      refine (sub_of_sorted a2 c2 ht nt fun z hz => (List.mem_cons.mp (h z hz)).resolve_left ?_).cons y
      rintro rfl
      rcases List.mem_cons.mp hz with q | q
      · exact e q.symm
      · exact e (leS_anti (b1 z q) (a1 x hx))
theorem sorted_eq {L t : List Str} (hL : L.Pairwise (fun a b => leS a b = true)) (nL : L.Nodup) (ht : t.Pairwise (fun a b => leS a b = true)) (nt : t.Nodup) (h : ∀ x, x ∈ t ↔ x ∈ L) : t = L :=
  (sub_of_sorted hL nL ht nt fun x hx => (h x).mp hx).eq_of_length_le (sub_of_sorted ht nt hL nL fun x hx => (h x).mpr hx).length_le
end SF
set_option Elab.async false
set_option linter.all false
set_option maxRecDepth 100000
namespace SF
open PySem PySem.Spec L2 TL
open PyProof.Rows hiding St
end SF
set_option Elab.async false
set_option linter.all false
set_option maxRecDepth 100000
namespace SF
open PySem PySem.Spec L2 TL
open PyProof.Rows hiding St
mutual
def pl : Nat → T → Bool
  | _, .non => true
  | _, .int _ => true
  | _, .str x => PyData.strOk x
  | n, .tup ts => decide (0 < n) && pls (n - 1) ts
  | n, .lst ts => decide (0 < n) && pls (n - 1) ts
  | _, _ => false
def pls : Nat → List T → Bool
  | _, [] => true
  | n, t :: ts => pl n t && pls n ts
end
mutual
theorem pl_toD : ∀ {n : Nat} {t : T}, pl n t = true → ∃ d, toD t = some d ∧ d.canLay0 = true ∧ d.depth ≤ n
  | n, .non, _ => ⟨.none, rfl, by simp only [PyData.canLay0], by simp only [PyData.depth]; exact Nat.zero_le _⟩
  | n, .int i, _ => ⟨.int i, rfl, by simp only [PyData.canLay0], by simp only [PyData.depth]; exact Nat.zero_le _⟩
  | n, .str x, h => ⟨.str x, rfl, by simp only [PyData.canLay0]; exact h, by simp only [PyData.depth]; exact Nat.zero_le _⟩
  | n, .tup ts, h => by
    simp only [pl, Bool.and_eq_true, decide_eq_true_eq] at h
    obtain ⟨ds, e, c, dp⟩ := pls_toDs h.2
    exact ⟨.tuple ds, by simp only [toD, e, Option.map_some], by simp only [PyData.canLay0]; exact c, by simp only [PyData.depth]; omega⟩
  | n, .lst ts, h => by
    simp only [pl, Bool.and_eq_true, decide_eq_true_eq] at h
    obtain ⟨ds, e, c, dp⟩ := pls_toDs h.2
    exact ⟨.list ds, by simp only [toD, e, Option.map_some], by simp only [PyData.canLay0]; exact c, by simp only [PyData.depth]; omega⟩
  | _, .bl _, h => by simp [pl] at h
  | _, .sls _, h => by simp [pl] at h
  | _, .dct _ _, h => by simp [pl] at h
  | _, .ref _, h => by simp [pl] at h
  | _, .val _, h => by simp [pl] at h
theorem pls_toDs : ∀ {n : Nat} {ts : List T}, pls n ts = true → ∃ ds, toDs ts = some ds ∧ PyData.canLayAll0 ds = true ∧ PyData.depthAll ds ≤ n
  | n, [], _ => ⟨[], rfl, by simp only [PyData.canLayAll0], by simp only [PyData.depthAll]; exact Nat.zero_le _⟩
  | n, t :: ts, h => by
    simp only [pls, Bool.and_eq_true] at h
    obtain ⟨d, e, c, dp⟩ := pl_toD h.1
    obtain ⟨ds, es, cs, dps⟩ := pls_toDs h.2
    exact ⟨d :: ds, by simp only [toDs, e, es, Option.bind_some], by simp only [PyData.canLayAll0, c, cs, Bool.and_self], by simp only [PyData.depthAll]; exact Nat.max_le.mpr ⟨dp, dps⟩⟩
end
mutual
theorem pl_eqv : ∀ {n m : Nat} {x y : T} {d e : PyData}, pl n x = true → pl m y = true → toD x = some d → toD y = some e → (PyData.eqv d e = true ↔ x = y)
  | n, m, .non, y, d, e, _, hy, hd, he => by
    cases hd
    cases y <;> first | (simp [pl] at hy; done) | (simp only [toD] at he; cases he; simp [PyData.eqv]; done) | (simp only [toD, Option.map_eq_some_iff] at he; obtain ⟨_, _, rfl⟩ := he; simp [PyData.eqv])
  | n, m, .int i, y, d, e, _, hy, hd, he => by
    cases hd
    cases y <;> first | (simp [pl] at hy; done) | (simp only [toD] at he; cases he; simp [PyData.eqv]; done) | (simp only [toD, Option.map_eq_some_iff] at he; obtain ⟨_, _, rfl⟩ := he; simp [PyData.eqv])
  | n, m, .str i, y, d, e, _, hy, hd, he => by
    cases hd
    cases y <;> first | (simp [pl] at hy; done) | (simp only [toD] at he; cases he; simp [PyData.eqv]; done) | (simp only [toD, Option.map_eq_some_iff] at he; obtain ⟨_, _, rfl⟩ := he; simp [PyData.eqv])
  | n, m, .tup ts, y, d, e, hx, hy, hd, he => by
    simp only [toD, Option.map_eq_some_iff] at hd
    obtain ⟨ds, hd, rfl⟩ := hd
    simp only [pl, Bool.and_eq_true] at hx
    cases y with
    | tup us =>
      simp only [toD, Option.map_eq_some_iff] at he
      obtain ⟨es, he, rfl⟩ := he
      simp only [pl, Bool.and_eq_true] at hy
      simp only [PyData.eqv, T.tup.injEq]
      exact pls_eqv hx.2 hy.2 hd he
    | lst us =>
      simp only [toD, Option.map_eq_some_iff] at he
      obtain ⟨es, he, rfl⟩ := he
      simp [PyData.eqv]
    | non => simp only [toD] at he; cases he; simp [PyData.eqv]
    | int i => simp only [toD] at he; cases he; simp [PyData.eqv]
    | str i => simp only [toD] at he; cases he; simp [PyData.eqv]
    | _ => simp [pl] at hy
  | n, m, .lst ts, y, d, e, hx, hy, hd, he => by
    simp only [toD, Option.map_eq_some_iff] at hd
    obtain ⟨ds, hd, rfl⟩ := hd
    simp only [pl, Bool.and_eq_true] at hx
    cases y with
    | lst us =>
      simp only [toD, Option.map_eq_some_iff] at he
      obtain ⟨es, he, rfl⟩ := he
      simp only [pl, Bool.and_eq_true] at hy
      simp only [PyData.eqv, T.lst.injEq]
      exact pls_eqv hx.2 hy.2 hd he
    | tup us =>
      simp only [toD, Option.map_eq_some_iff] at he
      obtain ⟨es, he, rfl⟩ := he
      simp [PyData.eqv]
    | non => simp only [toD] at he; cases he; simp [PyData.eqv]
    | int i => simp only [toD] at he; cases he; simp [PyData.eqv]
    | str i => simp only [toD] at he; cases he; simp [PyData.eqv]
    | _ => simp [pl] at hy
  | _, _, .bl _, _, _, _, h, _, _, _ => by simp [pl] at h
  | _, _, .sls _, _, _, _, h, _, _, _ => by simp [pl] at h
  | _, _, .dct _ _, _, _, _, h, _, _, _ => by simp [pl] at h
  | _, _, .ref _, _, _, _, h, _, _, _ => by simp [pl] at h
  | _, _, .val _, _, _, _, h, _, _, _ => by simp [pl] at h
theorem pls_eqv : ∀ {n m : Nat} {xs ys : List T} {ds es : List PyData}, pls n xs = true → pls m ys = true → toDs xs = some ds → toDs ys = some es → (PyData.eqvAll ds es = true ↔ xs = ys)
  | n, m, [], ys, ds, es, _, _, hd, he => by
    cases hd
    cases ys with
    | nil => cases he; simp [PyData.eqvAll]
    | cons y ys =>
      simp only [toDs, Option.bind_eq_some_iff] at he
      obtain ⟨_, _, _, _, z⟩ := he
      cases z
      simp [PyData.eqvAll]
  | n, m, x :: xs, ys, ds, es, hx, hy, hd, he => by
    simp only [toDs, Option.bind_eq_some_iff] at hd
    obtain ⟨d, h1, dr, h2, z⟩ := hd
    cases z
    simp only [pls, Bool.and_eq_true] at hx
    cases ys with
    | nil => cases he; simp [PyData.eqvAll]
    | cons y ys =>
      simp only [toDs, Option.bind_eq_some_iff] at he
      obtain ⟨e, h3, er, h4, z⟩ := he
      cases z
      simp only [pls, Bool.and_eq_true] at hy
      simp only [PyData.eqvAll, Bool.and_eq_true, List.cons.injEq]
      rw [pl_eqv hx.1 hy.1 h1 h3, pls_eqv hx.2 hy.2 h2 h4]
end
theorem pl_toD1 {n : Nat} {t : T} (h : pl n t = true) (S : Sto) : toD1 S t = toD t := by
  cases t <;> first | rfl | (simp [pl] at h)
theorem shaped_of {d : PyData} (h : d.canLay0 = true) (g : d.depth ≤ 60) : SeqAt.shaped d = true := by
  unfold SeqAt.shaped
  rw [h, decide_eq_true (show d.depth ≤ 64 by omega)]
  rfl
theorem eqB_pl {x y : T} {k : Bool} (hx : pl 60 x = true) (hy : pl 60 y = true) (hk : k = true ↔ x = y) (S : Sto) : eqB S x y = some k := by
  obtain ⟨d, e1, c1, d1⟩ := pl_toD hx
  obtain ⟨e, e2, c2, d2⟩ := pl_toD hy
  unfold eqB
  rw [pl_toD1 hx, pl_toD1 hy, e1, e2]
  simp only [shaped_of c1 d1, shaped_of c2 d2, Bool.and_self, if_true]
  have := pl_eqv hx hy e1 e2
  congr 1
  rw [Bool.eq_iff_iff, this, hk]
theorem eq_pl {x y : T} {k : Bool} (hx : pl 60 x = true) (hy : pl 60 y = true) (hk : k = true ↔ x = y) (S : Sto) : TL.eqT S x y = some (.bl k) := by
  unfold TL.eqT
  rw [eqB_pl hx hy hk]
  rfl
theorem ne_pl {x y : T} {k : Bool} (hx : pl 60 x = true) (hy : pl 60 y = true) (hk : k = true ↔ x = y) (S : Sto) : TL.neT S x y = some (.bl !k) := by
  unfold TL.neT
  rw [eqB_pl hx hy hk]
  rfl
abbrev So (x : Str) : Prop := PyData.strOk x = true
theorem pl_mono {n m : Nat} (h : n ≤ m) : ∀ {t : T}, pl n t = true → pl m t = true := fun {t} => by
  have key : ∀ k : Nat, ∀ n m : Nat, n ≤ m → n ≤ k → ∀ t : T, pl n t = true → pl m t = true := fun k => by
    induction k with
    | zero =>
      intro n m h hk t ht
      have : n = 0 := by omega
      subst this
      cases t <;> first | exact ht | (simp [pl] at ht)
    | succ k ih =>
      intro n m h hk t ht
      have all : ∀ ts : List T, pls (n - 1) ts = true → pls (m - 1) ts = true := fun ts => by
        induction ts with
        | nil => exact fun _ => rfl
        | cons t ts iht =>
          intro h1
          simp only [pls, Bool.and_eq_true] at h1 ⊢
          exact ⟨ih (n - 1) (m - 1) (by omega) (by omega) t h1.1, iht h1.2⟩
      cases t with
      | tup ts =>
        simp only [pl, Bool.and_eq_true, decide_eq_true_eq] at ht ⊢
        exact ⟨by omega, all ts ht.2⟩
      | lst ts =>
        simp only [pl, Bool.and_eq_true, decide_eq_true_eq] at ht ⊢
        exact ⟨by omega, all ts ht.2⟩
      | _ => first | exact ht | (simp [pl] at ht)
  exact key n n m h (Nat.le_refl _) t
theorem pls_all {n : Nat} : ∀ {ts : List T}, (∀ t ∈ ts, pl n t = true) → pls n ts = true
  | [], _ => rfl
  | t :: ts, h => by simp only [pls, h t List.mem_cons_self, pls_all fun u hu => h u (List.mem_cons_of_mem _ hu), Bool.and_self]
theorem pl_tup {n : Nat} {ts : List T} (h : ∀ t ∈ ts, pl n t = true) : pl (n + 1) (.tup ts) = true := by
  simp only [pl, Nat.add_sub_cancel, pls_all h, Bool.and_true]
  exact decide_eq_true (by omega)
theorem pl_lst {n : Nat} {ts : List T} (h : ∀ t ∈ ts, pl n t = true) : pl (n + 1) (.lst ts) = true := by
  simp only [pl, Nat.add_sub_cancel, pls_all h, Bool.and_true]
  exact decide_eq_true (by omega)
theorem pl_tS {l : List Str} (h : ∀ x ∈ l, So x) : pl 1 (tS l) = true := pl_tup fun t ht => by
  obtain ⟨x, hx, rfl⟩ := List.mem_map.mp ht
  exact h x hx
theorem strs_inj : ∀ {a b : List Str}, a.map T.str = b.map T.str → a = b := fun {a b} h => by
  have := congrArg (List.map fun t => match t with | T.str x => x | _ => ⟨#[]⟩) h
  simpa [List.map_map, Function.comp_def] using this
theorem tS_inj {a b : List Str} : tS a = tS b ↔ a = b := ⟨fun h => strs_inj (T.tup.inj h), fun h => by rw [h]⟩
theorem eq_str {a b : Str} (ha : So a) (hb : So b) (S : Sto) : TL.eqT S (.str a) (.str b) = some (.bl (decide (a = b))) := eq_pl (x := .str a) (y := .str b) ha hb (by simp) S
theorem ne_str {a b : Str} (ha : So a) (hb : So b) (S : Sto) : TL.neT S (.str a) (.str b) = some (.bl (!decide (a = b))) := ne_pl (x := .str a) (y := .str b) ha hb (by simp) S
theorem So.of {x : Str} (h : Rp x) : So x := h.2.2
end SF
set_option Elab.async false
set_option linter.all false
set_option maxRecDepth 100000
namespace SF
open PySem PySem.Spec L2 TL
open PyProof.Rows hiding St
abbrev Ch := List (Str × Str)
def chT (c : Ch) : T := .tup (c.map pT)
def behindS (c : Ch) (k v : Str) : Ch := (k, v) :: c.filter fun p => !decide (p.1 = k)
def worthS (t : List Str) : Ch → Option Str
  | [] => none
  | p :: c => if p.1 ∈ t then some p.2 else worthS t c
def optT : Option Str → T
  | some x => .str x
  | none => .non
def giveF (f : Str → Ch) (k : Str) (g : List (Str × Str)) : Str → Ch := g.foldl (fun f p a => if a = p.1 then behindS (f a) k p.2 else f a) f
def chainF (b : Bk) : (Str → Ch) → List Str → Str → Ch
  | f, [] => f
  | f, x :: r => match findC b.cs x with
    | some c => chainF b (giveF f c.k c.g) r
    | none => chainF b f r
def shownS (b : Bk) (x : Str) : List Str := if x = "\n" then [] else if x = " " then b.sh else b.asp
def rowsF (b : Bk) : (Str → Ch) → List Str → List (List Ch)
  | _, [] => []
  | f, x :: r => match findC b.cs x with
    | some c => rowsF b (giveF f c.k c.g) r
    | none => (shownS b x).map f :: rowsF b f r
abbrev chD (b : Bk) (f : Str → Ch) : T := .dct (kS b.asp) (b.asp.map fun a => chT (f a))
def rowT (r : List Ch) : T := .tup (r.map chT)
theorem chain_app (b : Bk) : ∀ (f : Str → Ch) (xs ys : List Str), chainF b f (xs ++ ys) = chainF b (chainF b f xs) ys
  | f, [], ys => rfl
  | f, x :: xs, ys => by
    simp only [List.cons_append, chainF]
    cases findC b.cs x with
    | some c => exact chain_app b _ xs ys
    | none => exact chain_app b f xs ys
structure CI (K : List Str) (c : Ch) : Prop where
  nd : (c.map (·.1)).Nodup
  sub : ∀ p ∈ c, p.1 ∈ K
theorem CI.nil (K : List Str) : CI K [] := ⟨List.nodup_nil, fun p h => nomatch h⟩
theorem CI.len {K : List Str} {c : Ch} (h : CI K c) : c.length ≤ K.length := by
  have := nodup_len h.nd (K := K) fun x hx => by
    obtain ⟨p, hp, rfl⟩ := List.mem_map.mp hx
    exact h.sub p hp
  rwa [List.length_map] at this
theorem CI.behind {K : List Str} {c : Ch} (h : CI K c) {k v : Str} (hk : k ∈ K) : CI K (behindS c k v) := by
  refine ⟨?_, fun p hp => ?_⟩
  · unfold behindS
    rw [List.map_cons, List.nodup_cons]
    refine ⟨fun z => ?_, h.nd.sublist (List.Sublist.map _ List.filter_sublist)⟩
    obtain ⟨p, hp, e⟩ := List.mem_map.mp z
    have := (List.mem_filter.mp hp).2
    simp [show p.1 = k from e] at this
  · unfold behindS at hp
    rcases List.mem_cons.mp hp with rfl | hp
    · exact hk
    · exact h.sub p (List.mem_filter.mp hp).1
theorem CI.give {K : List Str} {k : Str} (hk : k ∈ K) : ∀ {g : List (Str × Str)} {f : Str → Ch}, (∀ a, CI K (f a)) → ∀ a, CI K (giveF f k g a)
  | [], f, h, a => h a
  | p :: g, f, h, a => CI.give hk (g := g) (f := fun a => if a = p.1 then behindS (f a) k p.2 else f a) (fun a => by
    show CI K (if a = p.1 then behindS (f a) k p.2 else f a)
    split
    · exact (h a).behind hk
    · exact h a) a
structure GC (b : Bk) : Prop where
  w : GW b
  ko : ∀ c ∈ b.cs, So c.k
  vo : ∀ c ∈ b.cs, ∀ p ∈ c.g, So p.2
  kin : ∃ K : List Str, K.length ≤ 6 ∧ ∀ c ∈ b.cs, c.k ∈ K
theorem CI.chain {b : Bk} {K : List Str} (hK : ∀ c ∈ b.cs, c.k ∈ K) : ∀ {xs : List Str} {f : Str → Ch}, (∀ a, CI K (f a)) → ∀ a, CI K (chainF b f xs a)
  | [], f, h, a => h a
  | x :: xs, f, h, a => by
    unfold chainF
    cases e : findC b.cs x with
    | some c => exact CI.chain hK (CI.give (hK c (findC_mem e).1) h) a
    | none => exact CI.chain hK h a
theorem chain_vals {b : Bk} {P : Str × Str → Prop} (hP : ∀ c ∈ b.cs, ∀ p ∈ c.g, P (c.k, p.2)) : ∀ {xs : List Str} {f : Str → Ch}, (∀ a, ∀ p ∈ f a, P p) → ∀ a, ∀ p ∈ chainF b f xs a, P p
  | [], f, h, a => h a
  | x :: xs, f, h, a => by
    unfold chainF
    cases e : findC b.cs x with
    | none => exact chain_vals hP h a
    | some c =>
      refine chain_vals hP (f := giveF f c.k c.g) ?_ a
      have key : ∀ g : List (Str × Str), (∀ p ∈ g, P (c.k, p.2)) → ∀ f : Str → Ch, (∀ a, ∀ p ∈ f a, P p) → ∀ a, ∀ p ∈ giveF f c.k g a, P p := fun g => by
        induction g with
        | nil => exact fun _ f h => h
        | cons q g ih =>
          intro hg f h
          refine ih (fun p hp => hg p (List.mem_cons_of_mem _ hp)) (fun a => if a = q.1 then behindS (f a) c.k q.2 else f a) fun a p hp => ?_
          split at hp
          · unfold behindS at hp
            rcases List.mem_cons.mp hp with rfl | hp
            · exact hg q List.mem_cons_self
            · exact h a p (List.mem_filter.mp hp).1
          · exact h a p hp
      exact key c.g (hP c (findC_mem e).1) f h
theorem nr_chT (c : Ch) : nr (chT c) = true := nrs_map fun p _ => nr_pT p
theorem nr_rowT (r : List Ch) : nr (rowT r) = true := nrs_map fun p _ => nr_chT p
theorem behind_ok {c : Ch} {k v : Str} (hz : c.length ≤ 100) (hk : So k) (hc : ∀ p ∈ c, So p.1) : Pu m_behind [chT c, .str k, .str v] (chT (behindS c k v)) := by
  intro S
  unfold m_behind b_behind chT
  simp_arith [List.length_map, small16 (show c.length ≤ 200 by omega), small16 (show 2 ≤ 200 by omega), small16 (show 1 ≤ 200 by omega)]
  rw [lc_filter (p := fun x => match x with | .tup [.str a, _] => !decide (a = k) | _ => false) (r := id) fun x hx => ?a]
  case a =>
    obtain ⟨p, hp, rfl⟩ := List.mem_map.mp hx
    exact ⟨_, rfl, slots1 _ _, by simp_arith [pT, ne_str (hc p hp) hk], fun _ => by simp_arith [id]⟩
  have e : ((c.map pT).filter fun x => match x with | .tup [.str a, _] => !decide (a = k) | _ => false).map id = (c.filter fun p => !decide (p.1 = k)).map pT := by
    rw [List.map_id, List.filter_map]
    rfl
  have z : [T.tup [T.str k, T.str v]].length + ((c.filter fun p => !decide (p.1 = k)).map pT).length ≤ sizeLine := small16 (by
    have := List.length_filter_le (fun p : Str × Str => !decide (p.1 = k)) c
    rw [List.length_map]
    simp only [List.length_cons, List.length_nil]
    omega)
  simp_arith [e, add_tup z]
  rfl
theorem no_chains_ok {b : Bk} (W : GW b) (S : Sto) : m_no_chains [bT b] S = .ok (.ref S.length) (S ++ [chD b fun _ => []]) := by
  unfold m_no_chains b_no_chains
  have z2 : b.asp.length ≤ sizeLine := small16 (by have := W.asz; omega)
  have i0 : ∀ S, ixT S (bT b) (.int 0) = some (tS b.asp) := fun S => rfl
  simp_arith [i0, List.length_map, z2]
  rw [dc_map (k := fun x => match x with | .str a => .inr a | _ => .inl 0) (r := fun _ => .tup []) fun x hx => ?a]
  case a =>
    obtain ⟨a, ha, rfl⟩ := List.mem_map.mp hx
    exact ⟨_, rfl, slots1 _ _, rfl, by simp_arith [tKey], by simp_arith []⟩
  have e2 : (b.asp.map T.str).map (fun x => ((match x with | .str a => .inr a | _ => .inl 0 : Key), (T.tup [] : T))) = b.asp.map fun a => ((Sum.inr a : Key), T.tup []) := by
    rw [List.map_map]
    exact List.map_congr_left fun _ _ => rfl
  have e3 : mergeT ([], []) (b.asp.map fun a => ((Sum.inr a : Key), T.tup [])) = (kS b.asp, b.asp.map fun a => chT []) := by
    rw [merge_nil, List.map_map, List.map_map]
    · rfl
    · rw [List.map_map]
      exact nodup_inr W.and
  simp_arith [e2, e3]
theorem getK_f (f : Str → T) : ∀ {ks : List Str} {a : Str}, a ∈ ks → getK (kS ks) (ks.map f) (.inr a) = some (f a)
  | [], a, h => nomatch h
  | k :: ks, a, h => by
    simp only [kS, List.map_cons, getK, inr_eq]
    by_cases e : k = a
    · rw [if_pos e, e]
    · rw [if_neg e]
      exact getK_f f ((List.mem_cons.mp h).resolve_left fun z => e z.symm)
theorem putK_f (f : Str → T) {ks : List Str} {a : Str} (t : T) (m : a ∈ ks) : putK' (kS ks) (ks.map f) (.inr a) t = (kS ks, ks.map fun x => if x = a then t else f x) := by
  unfold putK'
  rw [if_pos (any_S m)]
  congr 1
  unfold kS
  rw [List.zipWith_map]
  induction ks with
  | nil => rfl
  | cons k ks ih =>
    rw [List.zipWith_cons_cons, List.map_cons]
    congr 1
    · by_cases e : k = a
      · rw [if_pos e, if_pos (by rw [e])]
      · rw [if_neg e, if_neg (by rwa [inr_eq])]
    · clear m ih
      induction ks with
      | nil => rfl
      | cons k ks ih =>
        rw [List.zipWith_cons_cons, List.map_cons, ih]
        congr 1
        by_cases e : k = a
        · rw [if_pos e, if_pos (by rw [e])]
        · rw [if_neg e, if_neg (by rwa [inr_eq])]
theorem ix_ch {b : Bk} {f : Str → Ch} {S : Sto} {n : Nat} {a : Str} (h : S[n]? = some (chD b f)) (m : a ∈ b.asp) : ixT S (.ref n) (.str a) = some (chT (f a)) := by
  have e : dctT S (.ref n) = some (kS b.asp, b.asp.map fun a => chT (f a)) := by
    simp only [dctT, h]
  unfold ixT
  rw [e]
  exact getK_f _ m
theorem set_ch {b : Bk} {f : Str → Ch} {S : Sto} {n : Nat} {a : Str} {c : Ch} (hz : b.asp.length < sizeLine) (h : S[n]? = some (chD b f)) (m : a ∈ b.asp) :
    setT S (.ref n) (.str a) (chT c) = some (S.set n (chD b fun x => if x = a then c else f x)) := by
  unfold setT
  simp only [h, keyT, Option.bind_some, List.length_map, hz, if_true, putK_f _ _ m]
  congr 3
  simp only [chD, T.dct.injEq, true_and]
  exact List.map_congr_left fun x _ => by split <;> rfl
theorem pass_code_ok {b : Bk} (G : GC b) {c : Code} (hc : c ∈ b.cs) {f : Str → Ch} {S : Sto} {n : Nat} (h : S[n]? = some (chD b f)) (hf : ∀ a, (f a).length ≤ 6 ∧ ∀ p ∈ f a, So p.1)
    (hg : ∀ g, g.Sublist c.g → ∀ a, (giveF f c.k g a).length ≤ 6 ∧ ∀ p ∈ giveF f c.k g a, So p.1) : m_pass_code [.ref n, cT c] S = .ok .non (S.set n (chD b (giveF f c.k c.g))) := by
  have W := G.w
  have bh := fun {c : Ch} {k v : Str} (hz : c.length ≤ 100) (hk : So k) (hc : ∀ p ∈ c, So p.1) => behind_ok (v := v) hz hk hc
  unfold m_pass_code b_pass_code
  generalize m_behind = f1 at bh ⊢
  have z3 : b.asp.length < sizeLine := small16' (by have := W.asz; omega)
  have hn : n < S.length := (List.getElem?_eq_some_iff.mp h).1
  have e0 : S.set n (chD b f) = S := by
    obtain ⟨_, e⟩ := List.getElem?_eq_some_iff.mp h
    rw [← e, List.set_getElem_self]
  simp_arith [cT]
  generalize hF : forF _ _ _ _ _ = R
  obtain ⟨τ2, S2, e, h1, x5, x6, h2⟩ := for_go hF (fun i τ T1 => T1 = S.set n (chD b (giveF f c.k (c.g.take i))) ∧ ∃ x5 x6, τ = [some (.ref n), some (cT c), some (.str c.w), some (.str c.k), some (.tup (c.g.map pT)), x5, x6])
    ⟨e0.symm, none, none, rfl⟩ (by
    intro i y τ T1 hx hI
    obtain ⟨rfl, x5, x6, rfl⟩ := hI
    rw [List.getElem?_map] at hx
    cases ex : c.g[i]? with
    | none => rw [ex] at hx; cases hx
    | some p =>
    rw [ex] at hx
    cases hx
    have hpm : p ∈ c.g := List.mem_of_getElem? ex
    have ha : p.1 ∈ b.asp := W.gin c hc p hpm
    have hg1 : giveF f c.k (c.g.take (i + 1)) = fun a => if a = p.1 then behindS (giveF f c.k (c.g.take i) a) c.k p.2 else giveF f c.k (c.g.take i) a := by
      unfold giveF
      rw [List.take_add_one, ex, List.foldl_append]
      rfl
    rw [hg1]
    obtain hq := hg (c.g.take i) (List.take_sublist _ _)
    generalize giveF f c.k (c.g.take i) = F at hq ⊢
    have hS : (S.set n (chD b F))[n]? = some (chD b F) := by rw [List.getElem?_set_self hn]
    obtain ⟨q1, q2⟩ := hq p.1
    have b1 := bh (v := p.2) (c := F p.1) (by omega) (G.ko c hc) q2
    refine ⟨_, rfl, ?_⟩
    simp_arith [pT, bStore, ix_ch hS ha, b1 (S.set n (chD b F)), set_ch z3 hS ha, List.set_set]
    refine goes_nx ⟨?_, _, _, rfl⟩
    congr 1
    simp only [chD, T.dct.injEq, true_and]
    refine List.map_congr_left fun x _ => ?_
    by_cases e : x = p.1
    · rw [if_pos e, if_pos e, e]
    · rw [if_neg e, if_neg e])
  subst e h1 h2
  rw [List.length_map, List.take_length]
end SF
set_option Elab.async false
set_option linter.all false
set_option maxRecDepth 100000
namespace SF
open PySem PySem.Spec L2 TL
open PyProof.Rows hiding St
abbrev f0 : Str → Ch := fun _ => []
theorem GC.cs {b : Bk} (G : GC b) {xs : List Str} (a : Str) : (chainF b f0 xs a).length ≤ 6 ∧ ∀ p ∈ chainF b f0 xs a, So p.1 := by
  obtain ⟨K, hK, hk⟩ := G.kin
  exact ⟨Nat.le_trans (CI.chain hk (xs := xs) (f := f0) (fun _ => CI.nil K) a).len hK, chain_vals (P := fun p => So p.1) (fun c hc p _ => G.ko c hc) (fun _ p h => by cases h) a⟩
theorem take_chain {b : Bk} {xs : List Str} {i : Nat} {x : Str} (f : Str → Ch) (h : xs[i]? = some x) : chainF b f (xs.take (i + 1)) = (match findC b.cs x with | some c => giveF (chainF b f (xs.take i)) c.k c.g | none => chainF b f (xs.take i)) := by
  rw [List.take_add_one, h, chain_app]
  simp only [Option.toList, chainF] <;> cases findC b.cs x <;> rfl
theorem pass_at {b : Bk} (G : GC b) {c : Code} (hc : c ∈ b.cs) {xs : List Str} {S : Sto} {n : Nat} (h : S[n]? = some (chD b (chainF b f0 xs))) :
    m_pass_code [.ref n, cT c] S = .ok .non (S.set n (chD b (giveF (chainF b f0 xs) c.k c.g))) := by
  obtain ⟨K, hK, hk⟩ := G.kin
  have ci : ∀ a, CI K (chainF b f0 xs a) := CI.chain hk (fun _ => CI.nil K)
  have so : ∀ g : List (Str × Str), ∀ f : Str → Ch, (∀ a, ∀ p ∈ f a, So p.1) → ∀ a, ∀ p ∈ giveF f c.k g a, So p.1 := fun g => by
    induction g with
    | nil => exact fun f h => h
    | cons q g ih =>
      intro f h
      refine ih (fun a => if a = q.1 then behindS (f a) c.k q.2 else f a) fun a p hp => ?_
      split at hp
      · unfold behindS at hp
        rcases List.mem_cons.mp hp with rfl | hp
        · exact G.ko c hc
        · exact h a p (List.mem_filter.mp hp).1
      · exact h a p hp
  exact pass_code_ok G hc h (fun a => G.cs a) fun g hg a => ⟨Nat.le_trans (CI.give (hk c hc) ci a).len hK, so g _ (fun a => (G.cs a).2) a⟩
theorem nrs_rows (rs : List (List Ch)) : nrs (rs.map rowT) = true := nrs_map fun r _ => nr_rowT r
theorem shown_sub {b : Bk} (W : GW b) (x : Str) : (shownS b x).length ≤ 6 ∧ ∀ a ∈ shownS b x, a ∈ b.asp := by
  unfold shownS
  split
  · exact ⟨Nat.zero_le _, fun a h => nomatch h⟩
  · split
    · exact ⟨W.gb.shz, W.gb.sub⟩
    · exact ⟨W.asz, fun a h => h⟩
theorem Si.sh' {x : Str} (h : Si x) (b : Bk) (S : Sto) : m_shown_at [bT b, .str x] S = .ok (tS (shownS b x)) S := h.sh b S
theorem chains_shown_ok {b : Bk} (G : GC b) {xs : List Str} (I : GI b xs) : Pu m_chains_shown [bT b, tS xs] (.lst ((rowsF b f0 xs).map rowT)) := by
  intro U
  have W := G.w
  have hf : ∀ x ∈ xs, (∃ c ∈ b.cs, c.w = x ∧ findC b.cs x = some c ∧ Sg x false) ∨ (Si x ∧ findC b.cs x = none) := fun x hx => I.find W hx
  have hcb := codes_by_word_ok W
  have hnc := no_chains_ok W
  have hpc := fun {c : Code} (hc : c ∈ b.cs) {xs : List Str} {S : Sto} {n : Nat} (h : S[n]? = some (chD b (chainF b f0 xs))) => pass_at G hc h
  have hsg : ∀ x k, Sg x k → ∀ S, m_is_sign [.str x] S = .ok (.bl k) S := fun x k h S => h S
  have hsh : ∀ x, Si x → ∀ S, m_shown_at [bT b, .str x] S = .ok (tS (shownS b x)) S := fun x h S => h.sh' b S
  unfold m_chains_shown
  suffices h : ∃ J, body _ _ b_chains_shown [bT b, tS xs] U = .ok (.ref (U.length + 1)) (U ++ J) ∧ (U ++ J)[U.length + 1]? = some (.lst ((rowsF b f0 xs).map rowT)) by
    obtain ⟨J, h1, h2⟩ := h
    exact gc_ref h1 (Nat.le_succ _) h2 (nrs_rows _)
  unfold b_chains_shown
  generalize m_codes_by_word = f1 at hcb ⊢
  generalize m_no_chains = f2 at hnc ⊢
  generalize m_pass_code = f3 at hpc ⊢
  generalize m_is_sign = f4 at hsg ⊢
  generalize m_shown_at = f5 at hsh ⊢
  have l1 : (U ++ [chD b f0]).length = U.length + 1 := by simp
  have ap : ∀ x y : T, U ++ [x] ++ [y] = U ++ x :: y :: [] := fun x y => by simp
  simp_arith [hcb U, hnc U, l1, ap]
  generalize hF : forF _ _ _ _ _ = R
  obtain ⟨τ2, S2, e, rows, h1, h2, x5, x6, h3⟩ := for_go hF (fun i τ T1 => ∃ rows : List (List Ch), T1 = U ++ [chD b (chainF b f0 (xs.take i)), .lst (rows.map rowT)] ∧ (rows ++ rowsF b (chainF b f0 (xs.take i)) (xs.drop i) = rowsF b f0 xs ∧ rows.length ≤ i) ∧
      ∃ x5 x6, τ = [some (bT b), some (tS xs), some (.dct (b.cs.map fun c => Sum.inr c.w) (b.cs.map cT)), some (.ref U.length), some (.ref (U.length + 1)), x5, x6])
    ⟨[], rfl, ⟨rfl, Nat.le_refl _⟩, none, none, rfl⟩ (by
    intro i y τ T1 hx hI
    obtain ⟨rows, rfl, ⟨hrun, hol⟩, x5, x6, rfl⟩ := hI
    rw [List.getElem?_map] at hx
    cases ex : xs[i]? with
    | none => rw [ex] at hx; cases hx
    | some x =>
    rw [ex] at hx
    cases hx
    have hxm : x ∈ xs := List.mem_of_getElem? ex
    have hi := (List.getElem?_eq_some_iff.mp ex).1
    have hl := I.len
    have z4 : rows.length < sizeLine := small16' (by omega)
    have hdrop : xs.drop i = x :: xs.drop (i + 1) := by
      rw [List.drop_eq_getElem_cons hi]
      congr 1
      exact (List.getElem?_eq_some_iff.mp ex).2
    rw [hdrop] at hrun
    have htk := take_chain (b := b) f0 ex
    refine ⟨_, rfl, ?_⟩
    rcases hf x hxm with ⟨c, hc, e, hfc, hs⟩ | ⟨hs, hfc⟩
    · simp only [rowsF, hfc] at hrun
      rw [hfc] at htk
      simp only at htk
      have hix : ∀ S, ixT S (.dct (b.cs.map fun c => Sum.inr c.w) (b.cs.map cT)) (.str x) = some (cT c) := fun S => by
        rw [ix_codes cT, hfc]
        rfl
      have hp := hpc hc (xs := xs.take i) (S := U ++ [chD b (chainF b f0 (xs.take i)), .lst (rows.map rowT)]) (n := U.length) (sto_end U _ _)
      rw [sto_set] at hp
      simp_arith [hsg x false hs, hix, hp]
      exact goes_nx ⟨rows, by rw [htk], ⟨by rw [htk]; exact hrun, by omega⟩, _, _, rfl⟩
    · simp only [rowsF, hfc] at hrun
      rw [hfc] at htk
      simp only at htk
      obtain ⟨q1, q2⟩ := shown_sub W x
      have hs2 := hsh x hs
      generalize shownS b x = al at q1 q2 hs2 hrun
      generalize hf' : chainF b f0 (xs.take i) = f at hrun htk
      simp_arith [hsg x true hs.sg, hs2, List.length_map, small16 (show al.length ≤ 200 by omega)]
      rw [lc_map (r := fun y => match y with | .str a => chT (f a) | _ => .non) fun y hy => ?a]
      case a =>
        obtain ⟨a, ha, rfl⟩ := List.mem_map.mp hy
        exact ⟨_, rfl, slots1 _ _, rfl, by simp_arith [ix_ch (sto_end U _ _) (q2 a ha)]⟩
      have e5 : (al.map T.str).map (fun y => (match y with | .str a => chT (f a) | _ => .non : T)) = (al.map f).map chT := by
        rw [List.map_map, List.map_map]
        exact List.map_congr_left fun _ _ => rfl
      have e6 : rows.map rowT ++ [T.tup ((al.map f).map chT)] = (rows ++ [al.map f]).map rowT := by
        rw [List.map_append]
        rfl
      simp_arith [e5, List.length_map, z4, e6]
      exact goes_nx ⟨rows ++ [al.map f], by rw [htk], ⟨by rw [htk]; simpa using hrun, by simp; omega⟩, _, _, rfl⟩)
  subst e h1 h3
  rw [List.length_map, List.drop_length] at h2
  simp only [rowsF, List.append_nil] at h2
  simp_arith []
  exact ⟨[_, .lst (rows.map rowT)], rfl, by rw [sto_1, h2.1]⟩
theorem worth_ok (t : List Str) (c : Ch) : Pu m_worth_among [chT c, tS t] (optT (worthS t c)) := by
  intro S
  unfold m_worth_among b_worth_among chT
  simp_arith []
  have h : ∀ (c : Ch) (x0 x2 x3 : Option T), (∃ y z, forF (sTup 2 (sCons (sName 2) (sCons (sName 3) sNil))) (bIf (fTest (fBin inT (fVar 2) (fVar 1))) (bRet (fVar 3)) bNext) (c.map pT) [x0, some (tS t), x2, x3] S = .nx [x0, some (tS t), y, z] S ∧ worthS t c = none) ∨
      ∃ v, forF (sTup 2 (sCons (sName 2) (sCons (sName 3) sNil))) (bIf (fTest (fBin inT (fVar 2) (fVar 1))) (bRet (fVar 3)) bNext) (c.map pT) [x0, some (tS t), x2, x3] S = .rt (.str v) S ∧ worthS t c = some v := fun c => by
    induction c with
    | nil => exact fun x0 x2 x3 => .inl ⟨x2, x3, rfl, rfl⟩
    | cons p c ih =>
      intro x0 x2 x3
      by_cases h : p.1 ∈ t
      · exact .inr ⟨p.2, by simp_arith [forF, pT, h], by simp only [worthS, if_pos h]⟩
      · rcases ih x0 (some (.str p.1)) (some (.str p.2)) with ⟨y, z, e, w⟩ | ⟨v, e, w⟩
        · exact .inl ⟨y, z, by simp_arith [forF, pT, h]; exact e, by simp only [worthS, if_neg h, w]⟩
        · exact .inr ⟨v, by simp_arith [forF, pT, h]; exact e, by simp only [worthS, if_neg h, w]⟩
  rcases h c (some (.tup (c.map pT))) none none with ⟨y, z, e, w⟩ | ⟨v, e, w⟩
  · simp_arith [e, w, optT]
  · simp_arith [e, w, optT]
end SF
set_option Elab.async false
set_option linter.all false
set_option maxRecDepth 100000
namespace SF
open PySem PySem.Spec L2 TL
open PyProof.Rows hiding St
theorem worth_cons (t : List Str) (p : Str × Str) (c : Ch) : worthS t (p :: c) = if p.1 ∈ t then some p.2 else worthS t c := rfl
theorem worth_behind {t : List Str} {c : Ch} {k v : Str} : worthS t (behindS c k v) = if k ∈ t then some v else worthS t c := by
  unfold behindS
  rw [worth_cons]
  split
  · rfl
  · rename_i h
    induction c with
    | nil => rfl
    | cons p c ih =>
      by_cases e : p.1 = k
      · rw [List.filter_cons_of_neg (by simp [e]), ih, worth_cons, if_neg (by rw [e]; exact h)]
      · rw [List.filter_cons_of_pos (by simp [e]), worth_cons, worth_cons, ih]
theorem give_out {t : List Str} {k : Str} (hk : k ∉ t) : ∀ {g : List (Str × Str)} {f : Str → Ch} (a : Str), worthS t (giveF f k g a) = worthS t (f a)
  | [], _, _ => rfl
  | p :: g, f, a => by
    have ih := give_out hk (g := g) (f := fun a => if a = p.1 then behindS (f a) k p.2 else f a) a
    refine ih.trans ?_
    show worthS t (if a = p.1 then behindS (f a) k p.2 else f a) = _
    split
    · rw [worth_behind, if_neg hk]
    · rfl
def runQ (b : Bk) : (Str → Ch) → List Str → List (Str × (Str → Ch))
  | _, [] => []
  | f, x :: r => match findC b.cs x with
    | some c => runQ b (giveF f c.k c.g) r
    | none => (x, f) :: runQ b f r
theorem rows_q (b : Bk) : ∀ (xs : List Str) (f : Str → Ch), rowsF b f xs = (runQ b f xs).map fun q => (shownS b q.1).map q.2
  | [], _ => rfl
  | x :: xs, f => by
    simp only [rowsF, runQ]
    cases e : findC b.cs x with
    | some c => exact rows_q b xs _
    | none => rw [List.map_cons, ← rows_q b xs f]
theorem signs_q (b : Bk) : ∀ (xs : List Str) (f : Str → Ch), signS b xs = (runQ b f xs).map (·.1)
  | [], _ => rfl
  | x :: xs, f => by
    unfold signS
    simp only [runQ]
    cases e : findC b.cs x with
    | some c =>
      rw [List.filter_cons_of_neg (by simp [e])]
      exact signs_q b xs _
    | none =>
      rw [List.filter_cons_of_pos (by simp [e]), List.map_cons]
      congr 1
      exact signs_q b xs f
def nums {α : Type} (P : α → Bool) (l : List α) : List Nat := (l.zipIdx.filter fun p => P p.1).map (·.2)
theorem numb_zip {α : Type} (F : α → T) (l : List α) : numbT (l.map F) = l.zipIdx.map fun p => T.tup [.int (p.2 : Nat), F p.1] := by
  refine List.ext_getElem (by simp [numbT]) fun i h1 h2 => ?_
  simp [numbT]
theorem mem_nums {α : Type} {P : α → Bool} {l : List α} {i : Nat} : i ∈ nums P l ↔ ∃ x, l[i]? = some x ∧ P x = true := by
  unfold nums
  rw [List.mem_map]
  constructor
  · rintro ⟨p, hp, rfl⟩
    obtain ⟨h1, h2⟩ := List.mem_filter.mp hp
    exact ⟨p.1, List.mem_zipIdx_iff_getElem?.mp h1, h2⟩
  · rintro ⟨x, h1, h2⟩
    exact ⟨(x, i), List.mem_filter.mpr ⟨List.mem_zipIdx_iff_getElem?.mpr h1, h2⟩, rfl⟩
theorem nums_len {α : Type} (P : α → Bool) (l : List α) : (nums P l).length ≤ l.length := by
  unfold nums
  rw [List.length_map]
  have := List.length_filter_le (fun p : α × Nat => P p.1) l.zipIdx
  simpa using this
end SF
set_option Elab.async false
set_option linter.all false
set_option maxRecDepth 100000
namespace SF
open PySem PySem.Spec L2 TL
open PyProof.Rows hiding St
theorem BL.gc {b : Bk} (B : BL b) : GC b := ⟨B.gl.w, fun c hc => So.of (rp_all _ (by
    simp only [List.mem_append]
    exact .inl (.inl (.inl (.inr (B.cl c hc).k))))), fun c hc p hp => So.of (B.gl.val c hc p hp).2, ⟨K3, by decide, fun c hc => (B.cl c hc).k⟩⟩
structure GX (b : Bk) (xs : List Str) : Prop where
  i : GI b xs
  so : ∀ x ∈ xs, findC b.cs x = none → So x
theorem XL.gx {b : Bk} {xs : List Str} (X : XL b xs) : GX b xs := ⟨X.gi, fun x hx h => So.of (X.rp x hx h)⟩
theorem q_mem {b : Bk} : ∀ {xs : List Str} {f : Str → Ch} {q : Str × (Str → Ch)}, q ∈ runQ b f xs → q.1 ∈ xs ∧ findC b.cs q.1 = none ∧ ∃ ys, q.2 = chainF b f ys
  | [], _, _, h => nomatch h
  | x :: xs, f, q, h => by
    simp only [runQ] at h
    cases e : findC b.cs x with
    | some c =>
      rw [e] at h
      obtain ⟨h1, h2, ys, h3⟩ := q_mem h
      exact ⟨List.mem_cons_of_mem _ h1, h2, x :: ys, by simp only [chainF, e]; exact h3⟩
    | none =>
      rw [e] at h
      rcases List.mem_cons.mp h with rfl | h
      · exact ⟨List.mem_cons_self, e, [], rfl⟩
      · obtain ⟨h1, h2, h3⟩ := q_mem h
        exact ⟨List.mem_cons_of_mem _ h1, h2, h3⟩
theorem GC.vals {b : Bk} (G : GC b) {xs : List Str} (a : Str) : ∀ p ∈ chainF b f0 xs a, So p.2 := chain_vals (P := fun p => So p.2) (fun c hc p hp => G.vo c hc p hp) (fun _ p h => by cases h) a
end SF
set_option Elab.async false
set_option linter.all false
set_option maxRecDepth 100000
namespace SF
open PySem PySem.Spec L2 TL
open PyProof.Rows hiding St
theorem textFrom_le {m : Nat} : ∀ {ts : List Str} {k : Nat} {acc : Str}, (∀ t ∈ ts, t.length ≤ m) → (textFrom k acc ts).length ≤ acc.length + ts.length * (m + 2)
  | [], k, acc, _ => by show acc.length ≤ _; simp
  | t :: ts, k, acc, h => by
    have ih := textFrom_le (ts := ts) (k := k + 1) (acc := acc ++ (if k > 0 then ", " else "" : String) ++ t) fun u hu => h u (List.mem_cons_of_mem _ hu)
    have e : (acc ++ (if k > 0 then ", " else "" : String) ++ t).length ≤ acc.length + 2 + t.length := by
      rw [strLen_append, strLen_append]
      have : (((if k > 0 then ", " else "" : String) : Str)).length ≤ 2 := by split <;> decide
      omega
    have h1 := h t List.mem_cons_self
    show (textFrom (k + 1) (acc ++ (if k > 0 then ", " else "" : String) ++ t) ts).length ≤ _
    rw [List.length_cons, Nat.add_mul]
    omega
theorem textFrom_ok : ∀ {ts : List Str} {k : Nat} {acc : Str}, (∀ t ∈ ts, So t) → So acc → So (textFrom k acc ts)
  | [], k, acc, _, ha => ha
  | t :: ts, k, acc, h, ha => textFrom_ok (ts := ts) (k := k + 1) (acc := acc ++ (if k > 0 then ", " else "" : String) ++ t) (fun u hu => h u (List.mem_cons_of_mem _ hu)) (strOk_app (strOk_app ha (by split <;> decide +kernel)) (h t List.mem_cons_self))
theorem Nice.lst {n m k : Nat} {ds : List PyData} (h : ∀ d ∈ ds, Nice n m d) (hk : ds.length ≤ k) : Nice (n + 1) (3 + k * (m + 2)) (.list ds) := by
  have a1 : ∀ {ds : List PyData}, (∀ d ∈ ds, Nice n m d) → PyData.canLayAll0 ds = true ∧ PyData.eqvAll ds ds = true ∧ PyData.showableAll ds = true ∧ PyData.hasDictAll ds = false ∧ PyData.depthAll ds ≤ n := fun {ds} h => by
    induction ds with
    | nil => exact ⟨by simp only [PyData.canLayAll0], by simp only [PyData.eqvAll], by simp only [PyData.showableAll], by simp only [PyData.hasDictAll], by simp only [PyData.depthAll]; exact Nat.zero_le _⟩
    | cons d ds ih =>
      obtain ⟨q1, q2, q3, q4, q5⟩ := ih fun x hx => h x (List.mem_cons_of_mem _ hx)
      have g := h d List.mem_cons_self
      exact ⟨by simp only [PyData.canLayAll0, g.lay, q1, Bool.and_self], by simp only [PyData.eqvAll, g.eqv, q2, Bool.and_self], by simp only [PyData.showableAll, g.sh, q3, Bool.and_self], by simp only [PyData.hasDictAll, g.hd, q4, Bool.or_self], by
        simp only [PyData.depthAll]
        exact Nat.max_le.mpr ⟨g.dp, q5⟩⟩
  obtain ⟨q1, q2, q3, q4, q5⟩ := a1 h
  have hs : ∀ t ∈ ds.map PyData.shown, t.length ≤ m ∧ PyData.strOk t = true := fun t ht => by
    obtain ⟨d, hd, rfl⟩ := List.mem_map.mp ht
    exact ⟨(h d hd).ln, (h d hd).ok⟩
  refine ⟨by simp only [PyData.canLay0]; exact q1, by simp only [PyData.eqv]; exact q2, by simp only [PyData.showable]; exact q3, by simp only [PyData.hasDict]; exact q4, by simp only [PyData.depth]; omega, ?_, ?_⟩
  · simp only [PyData.shown, shownAll_map]
    unfold listText
    rw [strLen_append]
    have := textFrom_le (ts := ds.map PyData.shown) (k := 0) (acc := "[") fun t ht => (hs t ht).1
    rw [List.length_map] at this
    have e1 : (("[" : String) : Str).length = 1 := rfl
    have e2 : (("]" : String) : Str).length = 1 := rfl
    have h3 := Nat.mul_le_mul_right (m + 2) hk
    omega
  · simp only [PyData.shown, shownAll_map]
    unfold listText
    exact strOk_app (textFrom_ok (fun t ht => (hs t ht).2) (by decide +kernel)) (by decide +kernel)
theorem NiceT.lst {n m k : Nat} {ts : List T} (h : ∀ t ∈ ts, ∃ d, toD t = some d ∧ Nice n m d) (hk : ts.length ≤ k) : NiceT (n + 1) (3 + k * (m + 2)) (.lst ts) := by
  obtain ⟨ds, e, hl, hp⟩ := toDs_of h
  exact ⟨.list ds, by simp only [toD, e, Option.map_some], Nice.lst hp (by omega), rfl⟩
abbrev natsT (l : List Nat) : List T := l.map fun i : Nat => T.int i
theorem pl_nats (l : List Nat) : pl 1 (.lst (natsT l)) = true := pl_lst fun t ht => by
  obtain ⟨i, _, rfl⟩ := List.mem_map.mp ht
  rfl
theorem nats_inj : ∀ {a b : List Nat}, natsT a = natsT b → a = b := fun {a b} h => by
  have := congrArg (List.map fun t => match t with | T.int x => x.toNat | _ => 0) h
  simpa [natsT, List.map_map, Function.comp_def] using this
end SF
set_option Elab.async false
set_option linter.all false
set_option maxRecDepth 100000
namespace SF
open PySem PySem.Spec L2 TL
open PyProof.Rows hiding St
abbrev Run := Str × List Str
def runsR : Ch → List Run
  | [] => []
  | p :: c => match runsR c with
    | [] => [(p.2, [p.1])]
    | (w, ks) :: r => if w = p.2 then (p.2, p.1 :: ks) :: r else (p.2, [p.1]) :: (w, ks) :: r
def formS (c : Ch) : List Run := (runsR c).map fun r => (r.1, sortS r.2)
def worthR (t : List Str) : List Run → Option Str
  | [] => none
  | r :: rs => if (r.2.any fun k => decide (k ∈ t)) = true then some r.1 else worthR t rs
theorem worthR_cons (t : List Str) (r : Run) (rs : List Run) : worthR t (r :: rs) = if (r.2.any fun k => decide (k ∈ t)) = true then some r.1 else worthR t rs := rfl
theorem runsR_cons (p : Str × Str) (c : Ch) : runsR (p :: c) = match runsR c with
    | [] => [(p.2, [p.1])]
    | (w, ks) :: r => if w = p.2 then (p.2, p.1 :: ks) :: r else (p.2, [p.1]) :: (w, ks) :: r := rfl
theorem any_one {t : List Str} {k : Str} : ([k].any fun k => decide (k ∈ t)) = decide (k ∈ t) := by simp
theorem worth_runs (t : List Str) : ∀ c : Ch, worthS t c = worthR t (runsR c)
  | [] => rfl
  | p :: c => by
    have ih := worth_runs t c
    rw [worth_cons, runsR_cons]
    cases e : runsR c with
    | nil =>
      rw [e] at ih
      show _ = worthR t [(p.2, [p.1])]
      rw [worthR_cons, any_one, ih]
      simp only [decide_eq_true_eq]
    | cons x r =>
      obtain ⟨w, ks⟩ := x
      rw [e] at ih
      show _ = worthR t (if w = p.2 then (p.2, p.1 :: ks) :: r else (p.2, [p.1]) :: (w, ks) :: r)
      by_cases h : w = p.2
      · rw [if_pos h, worthR_cons, List.any_cons]
        rw [worthR_cons] at ih
        by_cases hp : p.1 ∈ t
        · rw [if_pos hp, decide_eq_true hp, Bool.true_or, if_pos rfl]
        · rw [if_neg hp, decide_eq_false hp, Bool.false_or, ih, h]
      · rw [if_neg h, worthR_cons, any_one, ih]
        simp only [decide_eq_true_eq]
theorem worthR_sort (t : List Str) : ∀ rs : List Run, worthR t (rs.map fun r => (r.1, sortS r.2)) = worthR t rs
  | [] => rfl
  | r :: rs => by
    rw [List.map_cons, worthR_cons, worthR_cons, worthR_sort t rs]
    have e : ((sortS r.2).any fun k => decide (k ∈ t)) = r.2.any fun k => decide (k ∈ t) := by
      rw [Bool.eq_iff_iff, List.any_eq_true, List.any_eq_true]
      exact ⟨fun ⟨k, h1, h2⟩ => ⟨k, (sortS_perm _).mem_iff.mp h1, h2⟩, fun ⟨k, h1, h2⟩ => ⟨k, (sortS_perm _).mem_iff.mpr h1, h2⟩⟩
    show (if ((sortS r.2).any fun k => decide (k ∈ t)) = true then some r.1 else _) = _
    rw [e]
theorem worth_form (t : List Str) (c : Ch) : worthS t c = worthR t (formS c) := by rw [worth_runs]; exact (worthR_sort t _).symm
theorem form_worth {c d : Ch} (h : formS c = formS d) (t : List Str) : worthS t c = worthS t d := by rw [worth_form, worth_form, h]
inductive RW : List Run → Prop
  | nil : RW []
  | cons {v : Str} {K : List Str} {r : List Run} : K ≠ [] → K.Nodup → (∀ k ∈ K, ∀ x ∈ r, k ∉ x.2) → (∀ x, r.head? = some x → x.1 ≠ v) → RW r → RW ((v, K) :: r)
theorem runs_kinds : ∀ (c : Ch) (k : Str), (∃ x ∈ runsR c, k ∈ x.2) ↔ k ∈ c.map (·.1)
  | [], k => by simp [runsR]
  | p :: c, k => by
    have ih := runs_kinds c k
    rw [List.map_cons, List.mem_cons, ← ih, runsR_cons]
    cases e : runsR c with
    | nil => simp
    | cons x r =>
      obtain ⟨w, ks⟩ := x
      simp only
      split <;> simp [or_assoc]
theorem runs_rw : ∀ {c : Ch}, (c.map (·.1)).Nodup → RW (runsR c)
  | [], _ => .nil
  | p :: c, h => by
    rw [List.map_cons, List.nodup_cons] at h
    obtain ⟨h1, h2⟩ := h
    have ih := runs_rw h2
    have hk := runs_kinds c p.1
    have hp : ∀ x ∈ runsR c, p.1 ∉ x.2 := fun x hx z => h1 (hk.mp ⟨x, hx, z⟩)
    rw [runsR_cons]
    cases e : runsR c with
    | nil => exact .cons (by simp) (by simp) (fun _ _ x hx => nomatch hx) (fun x hx => nomatch hx) .nil
    | cons x r =>
      obtain ⟨w, ks⟩ := x
      rw [e] at ih hp
      simp only
      cases ih with
      | cons a1 a2 a3 a4 a5 =>
        split
        · rename_i hw
          subst hw
          refine .cons (by simp) (List.nodup_cons.mpr ⟨hp _ List.mem_cons_self, a2⟩) (fun k hk x hx => ?_) a4 a5
          rcases List.mem_cons.mp hk with rfl | hk
          · exact hp x (List.mem_cons_of_mem _ hx)
          · exact a3 k hk x hx
        · rename_i hw
          refine .cons (by simp) (by simp) (fun k hk x hx => ?_) (fun x hx => ?_) (.cons a1 a2 a3 a4 a5)
          · rw [List.mem_singleton.mp hk]
            exact hp x hx
          · cases hx
            exact hw
theorem worthR_hit {t : List Str} {v : Str} {K : List Str} {r : List Run} {k : Str} (hk : k ∈ K) (ht : k ∈ t) : worthR t ((v, K) :: r) = some v := by
  rw [worthR_cons, if_pos (List.any_eq_true.mpr ⟨k, hk, decide_eq_true ht⟩)]
theorem worthR_miss {t : List Str} {v : Str} {K : List Str} {r : List Run} (h : ∀ k ∈ K, k ∉ t) : worthR t ((v, K) :: r) = worthR t r := by
  rw [worthR_cons, if_neg]
  intro z
  obtain ⟨k, h1, h2⟩ := List.any_eq_true.mp z
  exact h k h1 (of_decide_eq_true h2)
theorem worthR_congr {t s : List Str} : ∀ {r : List Run}, (∀ x ∈ r, ∀ k ∈ x.2, (k ∈ t ↔ k ∈ s)) → worthR t r = worthR s r
  | [], _ => rfl
  | y :: r, h => by
    rw [worthR_cons, worthR_cons, worthR_congr (r := r) fun x hx => h x (List.mem_cons_of_mem _ hx)]
    have e : (y.2.any fun k => decide (k ∈ t)) = y.2.any fun k => decide (k ∈ s) := by
      rw [Bool.eq_iff_iff, List.any_eq_true, List.any_eq_true]
      exact ⟨fun ⟨k, h1, h2⟩ => ⟨k, h1, decide_eq_true ((h y List.mem_cons_self k h1).mp (of_decide_eq_true h2))⟩, fun ⟨k, h1, h2⟩ => ⟨k, h1, decide_eq_true ((h y List.mem_cons_self k h1).mpr (of_decide_eq_true h2))⟩⟩
    rw [e]
def Agree (A B : List Run) : Prop := ∀ k l : Str, (∃ x ∈ A ++ B, k ∈ x.2) → (∃ x ∈ A ++ B, l ∈ x.2) → worthR [k, l] A = worthR [k, l] B
theorem first_sub {v : Str} {K L : List Str} {A B : List Run} (hA : RW ((v, K) :: A)) (hB : RW ((v, L) :: B)) (h : Agree ((v, K) :: A) ((v, L) :: B)) : ∀ k ∈ K, k ∈ L := by
  intro k hk
  refine Classical.byContradiction fun hn => ?_
  have ink : ∃ x ∈ (v, K) :: A ++ (v, L) :: B, k ∈ x.2 := ⟨(v, K), by simp, hk⟩
  cases hB with
  | cons b1 b2 b3 b4 b5 =>
    have miss : ∀ l : Str, l ∉ L → worthR [k, l] ((v, L) :: B) = worthR [k, l] B := fun l hl => worthR_miss fun z hz q => by
      rcases List.mem_cons.mp q with rfl | q
      · exact hn hz
      · rw [List.mem_singleton.mp q] at hz
        exact hl hz
    cases B with
    | nil =>
      have := h k k ink ink
      rw [worthR_hit hk List.mem_cons_self, miss k hn] at this
      cases this
    | cons y B =>
      obtain ⟨w, M⟩ := y
      have hw : w ≠ v := b4 _ rfl
      cases b5 with
      | cons c1 c2 c3 c4 c5 =>
        obtain ⟨l, hl⟩ : ∃ l, l ∈ M := by
          cases M with
          | nil => exact absurd rfl c1
          | cons l M => exact ⟨l, List.mem_cons_self⟩
        have hlL : l ∉ L := fun z => b3 l z (w, M) List.mem_cons_self hl
        have := h k l ink ⟨(w, M), by simp, hl⟩
        rw [worthR_hit hk List.mem_cons_self, miss l hlL, worthR_hit hl (by simp)] at this
        exact hw (Option.some.inj this).symm
theorem Agree.symm {A B : List Run} (h : Agree A B) : Agree B A := fun k l hk hl => (h k l (by
  obtain ⟨x, h1, h2⟩ := hk
  exact ⟨x, by rw [List.mem_append] at h1 ⊢; exact h1.symm, h2⟩) (by
  obtain ⟨x, h1, h2⟩ := hl
  exact ⟨x, by rw [List.mem_append] at h1 ⊢; exact h1.symm, h2⟩)).symm
theorem sort_same {K L : List Str} (hK : K.Nodup) (hL : L.Nodup) (h : ∀ x, x ∈ K ↔ x ∈ L) : sortS K = sortS L :=
  sorted_eq (sortS_pw L) ((sortS_perm L).nodup_iff.mpr hL) (sortS_pw K) ((sortS_perm K).nodup_iff.mpr hK) fun x => by rw [(sortS_perm K).mem_iff, (sortS_perm L).mem_iff, h]
theorem runs_eq : ∀ {A B : List Run}, RW A → RW B → Agree A B → (A.map fun r => (r.1, sortS r.2)) = B.map fun r => (r.1, sortS r.2)
  | [], [], _, _, _ => rfl
  | [], (w, L) :: B, _, hB, h => by
    cases hB with
    | cons b1 b2 b3 b4 b5 =>
      cases L with
      | nil => exact absurd rfl b1
      | cons l L =>
        have := h l l ⟨(w, l :: L), by simp, List.mem_cons_self⟩ ⟨(w, l :: L), by simp, List.mem_cons_self⟩
        rw [worthR_hit (k := l) List.mem_cons_self List.mem_cons_self] at this
        cases this
  | (v, K) :: A, [], hA, _, h => by
    cases hA with
    | cons b1 b2 b3 b4 b5 =>
      cases K with
      | nil => exact absurd rfl b1
      | cons l L =>
        have := h l l ⟨(v, l :: L), by simp, List.mem_cons_self⟩ ⟨(v, l :: L), by simp, List.mem_cons_self⟩
        rw [worthR_hit (k := l) List.mem_cons_self List.mem_cons_self] at this
        cases this
  | (v, K) :: A, (w, L) :: B, hA, hB, h => by
    have hA0 := hA
    have hB0 := hB
    cases hA with
    | cons a1 a2 a3 a4 a5 =>
    cases hB with
    | cons b1 b2 b3 b4 b5 =>
    have hvw : v = w := by
      cases K with
      | nil => exact absurd rfl a1
      | cons k K =>
        cases L with
        | nil => exact absurd rfl b1
        | cons l L =>
          have := h k l ⟨(v, k :: K), by simp, List.mem_cons_self⟩ ⟨(w, l :: L), by simp, List.mem_cons_self⟩
          rw [worthR_hit (k := k) List.mem_cons_self List.mem_cons_self, worthR_hit (k := l) List.mem_cons_self (by simp)] at this
          exact Option.some.inj this
    subst hvw
    have s1 := first_sub hA0 hB0 h
    have s2 := first_sub hB0 hA0 h.symm
    have hKL : ∀ x, x ∈ K ↔ x ∈ L := fun x => ⟨s1 x, s2 x⟩
    rw [List.map_cons, List.map_cons, runs_eq a5 b5 fun k l hk hl => ?_]
    · show (v, sortS K) :: _ = (v, sortS L) :: _
      rw [sort_same a2 b2 hKL]
    · have out : ∀ z : Str, (∃ x ∈ A ++ B, z ∈ x.2) → z ∉ K := fun z ⟨x, hx, hz⟩ hk => by
        rcases List.mem_append.mp hx with q | q
        · exact a3 z hk x q hz
        · exact b3 z ((hKL z).mp hk) x q hz
      have more : ∀ z : Str, (∃ x ∈ A ++ B, z ∈ x.2) → ∃ x ∈ (v, K) :: A ++ (v, L) :: B, z ∈ x.2 := fun z ⟨x, hx, hz⟩ => ⟨x, by
        rcases List.mem_append.mp hx with q | q
        · simp [q]
        · simp [q], hz⟩
      have q := h k l (more k hk) (more l hl)
      have nk : ∀ z ∈ K, z ∉ [k, l] := fun z hz q => by
        rcases List.mem_cons.mp q with rfl | q
        · exact out _ hk hz
        · rw [List.mem_singleton.mp q] at hz
          exact out _ hl hz
      rw [worthR_miss nk, worthR_miss fun z hz => nk z ((hKL z).mpr hz)] at q
      exact q
theorem form_of_worth {c d : Ch} (hc : (c.map (·.1)).Nodup) (hd : (d.map (·.1)).Nodup) (h : ∀ k l : Str, k ∈ c.map (·.1) ∨ k ∈ d.map (·.1) → l ∈ c.map (·.1) ∨ l ∈ d.map (·.1) → worthS [k, l] c = worthS [k, l] d) : formS c = formS d := by
  refine runs_eq (runs_rw hc) (runs_rw hd) fun k l hk hl => ?_
  have key : ∀ z : Str, (∃ x ∈ runsR c ++ runsR d, z ∈ x.2) → z ∈ c.map (·.1) ∨ z ∈ d.map (·.1) := fun z ⟨x, hx, hz⟩ => by
    rcases List.mem_append.mp hx with q | q
    · exact .inl ((runs_kinds c z).mp ⟨x, q, hz⟩)
    · exact .inr ((runs_kinds d z).mp ⟨x, q, hz⟩)
  rw [← worth_runs, ← worth_runs]
  exact h k l (key k hk) (key l hl)
theorem worth_congr {t s : List Str} {c : Ch} (h : ∀ k ∈ c.map (·.1), (k ∈ t ↔ k ∈ s)) : worthS t c = worthS s c := by
  rw [worth_runs, worth_runs]
  exact worthR_congr fun x hx k hk => h k ((runs_kinds c k).mp ⟨x, hx, hk⟩)
end SF
set_option Elab.async false
set_option linter.all false
set_option maxRecDepth 100000
namespace SF
open PySem PySem.Spec L2 TL
open PyProof.Rows hiding St
def glue (v : Str) (K : List Str) : List Run → List Run
  | [] => [(v, K)]
  | (w, ks) :: r => if w = v then (v, K ++ ks) :: r else (v, K) :: (w, ks) :: r
theorem runsR_glue (p : Str × Str) (c : Ch) : runsR (p :: c) = glue p.2 [p.1] (runsR c) := by
  rw [runsR_cons]
  cases runsR c with
  | nil => rfl
  | cons x r => rfl
theorem glue_glue {v : Str} {K : List Str} {w : Str} {L : List Str} {rs : List Run} : glue v K (glue w L rs) = if w = v then glue v (K ++ L) rs else (v, K) :: glue w L rs := by
  cases rs with
  | nil =>
    show (if w = v then [(v, K ++ L)] else (v, K) :: [(w, L)]) = _
    split <;> rfl
  | cons x r =>
    obtain ⟨u, ks⟩ := x
    show glue v K (if u = w then (w, L ++ ks) :: r else (w, L) :: (u, ks) :: r) = if w = v then (if u = v then (v, K ++ L ++ ks) :: r else (v, K ++ L) :: (u, ks) :: r) else (v, K) :: (if u = w then (w, L ++ ks) :: r else (w, L) :: (u, ks) :: r)
    by_cases h1 : w = v
    · subst h1
      rw [if_pos rfl]
      by_cases h2 : u = w
      · rw [if_pos h2, if_pos h2]
        show (if w = w then (w, K ++ (L ++ ks)) :: r else _) = _
        rw [if_pos rfl, List.append_assoc]
      · rw [if_neg h2, if_neg h2]
        show (if w = w then (w, K ++ L) :: (u, ks) :: r else _) = _
        rw [if_pos rfl]
    · rw [if_neg h1]
      by_cases h2 : u = w
      · rw [if_pos h2]
        show (if w = v then _ else (v, K) :: (w, L ++ ks) :: r) = _
        rw [if_neg h1]
      · rw [if_neg h2]
        show (if w = v then _ else (v, K) :: (w, L) :: (u, ks) :: r) = _
        rw [if_neg h1]
inductive Acc : List Run → Ch → List Run → Prop
  | nil {c : Ch} : Acc [] c (runsR c)
  | snoc {B : List Run} {v : Str} {K : List Str} {c : Ch} : Acc (B ++ [(v, K)]) c (B ++ glue v K (runsR c))
theorem acc_done {A R : List Run} (h : Acc A [] R) : A = R := by
  cases h with
  | nil => rfl
  | snoc => rfl
def runT (r : Run) : T := .tup [.str r.1, tS r.2]
def formT (c : Ch) : T := .tup ((formS c).map runT)
def refsT (n : Nat) (A : List Run) : List T := A.mapIdx fun j r => T.tup [.str r.1, .ref (n + j)]
theorem refs_snoc (n : Nat) (A : List Run) (r : Run) : refsT n (A ++ [r]) = refsT n A ++ [T.tup [.str r.1, .ref (n + A.length)]] := by
  unfold refsT
  rw [List.mapIdx_concat]
theorem refs_len (n : Nat) (A : List Run) : (refsT n A).length = A.length := by
  unfold refsT
  rw [List.length_mapIdx]
theorem ix_last {S : Sto} {n : Nat} {ts : List T} {t : T} (h : S[n]? = some (.lst (ts ++ [t]))) : ixT S (.ref n) (.int (-1)) = some t := by
  have e : dctT S (.ref n) = none := by simp only [dctT, h]
  have e2 : seqL S (.ref n) = some (ts ++ [t]) := by simp only [seqL, h]
  have e3 : atI (ts ++ [t]) (-1) = some t := by
    have hi : ixN (ts ++ [t]).length (-1) = some ts.length := by
      unfold ixN
      rw [if_neg (by omega), List.length_append]
      simp
      omega
    unfold atI
    rw [hi, Option.bind_some]
    simp
  unfold ixT
  rw [e]
  show (seqL S (.ref n)).bind (fun ts => atI ts (-1)) = _
  rw [e2]
  exact e3
def cellsT (A : List Run) : List T := A.map fun r => T.lst (r.2.map T.str)
theorem cells_len (A : List Run) : (cellsT A).length = A.length := by
  unfold cellsT
  rw [List.length_map]
theorem cells_snoc (A : List Run) (r : Run) : cellsT (A ++ [r]) = cellsT A ++ [.lst (r.2.map T.str)] := by
  unfold cellsT
  rw [List.map_append]
  rfl
theorem neg_one (S : Sto) : negT S (.int 1) = some (.int (-1)) := rfl
theorem nr_runT (r : Run) : nr (runT r) = true := by
  show nrs [.str r.1, tS r.2] = true
  simp only [nrs, nr, nrs_str, Bool.and_self]
theorem nr_formT (c : Ch) : nr (formT c) = true := nrs_map fun r _ => nr_runT r
theorem Acc.one {p : Str × Str} {c : Ch} {R : List Run} (h : Acc [] (p :: c) R) : Acc [(p.2, [p.1])] c R := by
  have e : R = runsR (p :: c) := by
    generalize hA : ([] : List Run) = A at h
    cases h with
    | nil => rfl
    | snoc => simp at hA
  rw [e, runsR_glue]
  exact Acc.snoc (B := [])
theorem Acc.get {B : List Run} {v : Str} {K : List Str} {c : Ch} {R : List Run} (h : Acc (B ++ [(v, K)]) c R) : R = B ++ glue v K (runsR c) := by
  generalize hA : B ++ [(v, K)] = A at h
  cases h with
  | nil => simp at hA
  | snoc =>
    rename_i B' v' K'
    have h1 := List.append_inj' hA rfl
    obtain ⟨rfl, h2⟩ := h1
    cases h2
    rfl
theorem Acc.same {B : List Run} {v : Str} {K : List Str} {p : Str × Str} {c : Ch} {R : List Run} (h : Acc (B ++ [(v, K)]) (p :: c) R) (e : p.2 = v) : Acc (B ++ [(v, K ++ [p.1])]) c R := by
  rw [h.get, runsR_glue, glue_glue, if_pos e]
  exact .snoc
theorem Acc.other {B : List Run} {v : Str} {K : List Str} {p : Str × Str} {c : Ch} {R : List Run} (h : Acc (B ++ [(v, K)]) (p :: c) R) (e : p.2 ≠ v) : Acc ((B ++ [(v, K)]) ++ [(p.2, [p.1])]) c R := by
  rw [h.get, runsR_glue, glue_glue, if_neg e, show B ++ (v, K) :: glue p.2 [p.1] (runsR c) = (B ++ [(v, K)]) ++ glue p.2 [p.1] (runsR c) by simp]
  exact .snoc
theorem snoc_cases (A : List Run) : A = [] ∨ ∃ B v K, A = B ++ [(v, K)] := by
  rcases List.eq_nil_or_concat A with h | ⟨B, r, h⟩
  · exact .inl h
  · exact .inr ⟨B, r.1, r.2, by rw [h]; simp⟩
theorem strsT_map : ∀ l : List Str, strsT (l.map T.str) = some l
  | [] => rfl
  | x :: l => by simp only [List.map_cons, strsT, strsT_map l, Option.map_some]
theorem sort_ref {S : Sto} {n : Nat} {l : List Str} (h : S[n]? = some (.lst (l.map T.str))) (hl : l.length < 64) : sortT S [.ref n] = some (.lst ((sortS l).map T.str)) := by
  have e : dctT S (.ref n) = none := by simp only [dctT, h]
  have e2 : seqL S (.ref n) = some (l.map T.str) := by simp only [seqL, h]
  show (match dctT S (.ref n) with | some (ks, _) => _ | none => (seqL S (.ref n)).bind fun ts => (strsT ts).bind fun xs => if xs.length < 64 then some (T.lst ((sortS xs).map T.str)) else none) = _
  rw [e]
  simp only [e2, Option.bind_some, strsT_map]
  rw [if_pos hl]
theorem runs_of_ok12 {c : Ch} (hz : c.length ≤ 12) (hv : ∀ p ∈ c, So p.2) : Pu m_runs_of [chT c] (formT c) := by
  intro U
  unfold m_runs_of
  refine gc_pure ?_ (nr_formT c)
  unfold b_runs_of chT
  simp_arith []
  generalize hF : forF _ _ _ _ _ = R2
  obtain ⟨τ2, S3, e, A, h1, h2, h3, x2, x3, h4⟩ := for_go hF (fun i τ T1 => ∃ A : List Run, T1 = U ++ .lst (refsT (U.length + 1) A) :: cellsT A ∧ Acc A (c.drop i) (runsR c) ∧ (A.length ≤ i ∧ ∀ r ∈ A, r.2.length ≤ i ∧ So r.1) ∧
      ∃ x2 x3, τ = [some (.tup (c.map pT)), some (.ref U.length), x2, x3, none])
    ⟨[], rfl, .nil, ⟨Nat.le_refl _, fun r h => nomatch h⟩, none, none, rfl⟩ (by
    intro i y τ T1 hx hI
    obtain ⟨A, rfl, hacc, ⟨hl, hr⟩, x2, x3, rfl⟩ := hI
    rw [List.getElem?_map] at hx
    cases ex : c[i]? with
    | none => rw [ex] at hx; cases hx
    | some p =>
    rw [ex] at hx
    cases hx
    have hpm : p ∈ c := List.mem_of_getElem? ex
    have hi := (List.getElem?_eq_some_iff.mp ex).1
    have hdrop : c.drop i = p :: c.drop (i + 1) := by
      rw [List.drop_eq_getElem_cons hi]
      congr 1
      exact (List.getElem?_eq_some_iff.mp ex).2
    rw [hdrop] at hacc
    have z1 : A.length < sizeLine := small16' (by omega)
    have hlen : (U ++ T.lst (refsT (U.length + 1) A) :: cellsT A).length = U.length + 1 + A.length := by
      rw [List.length_append, List.length_cons, cells_len]
      omega
    -- a new run
    have app : ∀ S : Sto, S = U ++ T.lst (refsT (U.length + 1) A) :: cellsT A → S ++ [T.lst [.str p.1]] = U ++ T.lst (refsT (U.length + 1) A) :: (cellsT A ++ [T.lst [.str p.1]]) := fun S h => by rw [h]; simp
    have fresh : Acc (A ++ [(p.2, [p.1])]) (c.drop (i + 1)) (runsR c) → ∃ A' : List Run, U ++ T.lst (refsT (U.length + 1) A ++ [T.tup [.str p.2, .ref (U.length + 1 + A.length)]]) :: (cellsT A ++ [T.lst [.str p.1]]) = U ++ .lst (refsT (U.length + 1) A') :: cellsT A' ∧ Acc A' (c.drop (i + 1)) (runsR c) ∧ (A'.length ≤ i + 1 ∧ ∀ r ∈ A', r.2.length ≤ i + 1 ∧ So r.1) := fun h => by
      refine ⟨_, ?_, h, by rw [List.length_append]; show _ + 1 ≤ _; omega, fun r hr' => ?_⟩
      · rw [refs_snoc, cells_snoc]
        rfl
      · rcases List.mem_append.mp hr' with q | q
        · exact ⟨by have := (hr r q).1; omega, (hr r q).2⟩
        · rw [List.mem_singleton.mp q]
          exact ⟨by show 1 ≤ i + 1; omega, hv p hpm⟩
    refine ⟨_, rfl, ?_⟩
    rcases snoc_cases A with rfl | ⟨B, v, K, rfl⟩
    · obtain ⟨A', e1, e2, e3⟩ := fresh hacc.one
      simp_arith [pT, refs_len, List.length_append, cells_len, Int.reduceAdd, refsT, cellsT, List.mapIdx_nil, Int.natCast_zero, Int.lt_irrefl, Nat.add_zero, List.append_assoc, small16' (show 0 ≤ 200 by omega), small16 (show 1 ≤ 200 by omega), small16 (show 2 ≤ 200 by omega)]
      exact goes_nx ⟨A', e1, e2, e3, _, _, rfl⟩
    · obtain ⟨hKl, hso⟩ := hr (v, K) (by simp)
      have g1 : (0 : Int) < ((B ++ [(v, K)]).length : Nat) := by simp
      have il : ∀ J : Sto, ixT (U ++ T.lst (refsT (U.length + 1) (B ++ [(v, K)])) :: J) (.ref U.length) (.int (-1)) = some (.tup [.str v, .ref (U.length + 1 + B.length)]) := fun J => ix_last (ts := refsT (U.length + 1) B) (by rw [sto_end, refs_snoc])
      have eq1 : ∀ S, TL.eqT S (.str v) (.str p.2) = some (.bl (decide (v = p.2))) := eq_str hso (hv p hpm)
      by_cases hvp : v = p.2
      · have S0 : (U ++ T.lst (refsT (U.length + 1) (B ++ [(v, K)])) :: cellsT (B ++ [(v, K)]))[U.length + 1 + B.length]? = some (.lst (K.map T.str)) := by
          rw [List.getElem?_append_right (by omega), show U.length + 1 + B.length - U.length = B.length + 1 by omega, List.getElem?_cons_succ, cells_snoc, List.getElem?_append_right (by rw [cells_len]; omega), cells_len]
          simp
        have la : lstAt (U ++ T.lst (refsT (U.length + 1) (B ++ [(v, K)])) :: cellsT (B ++ [(v, K)])) (U.length + 1 + B.length) = some (K.map T.str) := by
          unfold lstAt
          rw [S0]
        have st : (U ++ T.lst (refsT (U.length + 1) (B ++ [(v, K)])) :: cellsT (B ++ [(v, K)])).set (U.length + 1 + B.length) (.lst ((K ++ [p.1]).map T.str)) = U ++ T.lst (refsT (U.length + 1) (B ++ [(v, K ++ [p.1])])) :: cellsT (B ++ [(v, K ++ [p.1])]) := by
          rw [List.set_append_right _ _ (by omega), show U.length + 1 + B.length - U.length = B.length + 1 by omega, List.set_cons_succ, cells_snoc, cells_snoc, refs_snoc, refs_snoc, List.set_append_right _ _ (by rw [cells_len]; omega), cells_len]
          simp
        have zK : K.length < sizeLine := small16' (by have : K.length ≤ i := hKl; omega)
        simp_arith [pT, refs_len, g1, neg_one, il, eq1, decide_eq_true hvp, la, List.length_map, zK, map_snoc, st]
        refine goes_nx ⟨_, rfl, hacc.same hvp.symm, ⟨by simpa using (show (B ++ [(v, K)]).length ≤ i + 1 by omega), fun r hr' => ?_⟩, _, _, rfl⟩
        rcases List.mem_append.mp hr' with q | q
        · have := hr r (List.mem_append_left _ q)
          exact ⟨by omega, this.2⟩
        · rw [List.mem_singleton.mp q]
          exact ⟨by rw [List.length_append]; show K.length + 1 ≤ i + 1; have : K.length ≤ i := hKl; omega, hso⟩
      · obtain ⟨A', e1, e2, e3⟩ := fresh (hacc.other fun z => hvp z.symm)
        have z1' : (refsT (U.length + 1) (B ++ [(v, K)])).length < sizeLine := by rw [refs_len]; exact z1
        simp_arith [pT, refs_len, g1, neg_one, il, eq1, decide_eq_false hvp, hlen, small16 (show 1 ≤ 200 by omega), small16 (show 2 ≤ 200 by omega), app _ rfl, z1, z1']
        exact goes_nx ⟨A', e1, e2, e3, _, _, rfl⟩)
  subst e h1 h4
  rw [List.length_map, List.drop_length] at h2
  have hA := acc_done h2
  have hz2 : (refsT (U.length + 1) A).length ≤ sizeLine := by
    rw [refs_len]
    have := h3.1
    rw [List.length_map] at this
    exact small16 (by omega)
  obtain ⟨S4, hS4⟩ : ∃ S4, U ++ T.lst (refsT (U.length + 1) A) :: cellsT A = S4 := ⟨_, rfl⟩
  simp_arith [hz2]
  rw [hS4]
  rw [lcC_map (r := fun x => match x with | .tup [.str v, .ref m] => .tup [.str v, match S4[m]? with | some (.lst ts) => (match strsT ts with | some l => tS (sortS l) | none => .non) | _ => .non] | _ => .non) (by rw [← hS4, sto_end]) fun x hx => ?a]
  case a =>
    obtain ⟨j, hj, rfl⟩ := List.mem_iff_getElem.mp hx
    have hjA : j < A.length := by rwa [refs_len] at hj
    have ej : (refsT (U.length + 1) A)[j] = T.tup [.str (A[j]).1, .ref (U.length + 1 + j)] := by simp [refsT]
    have es : S4[U.length + 1 + j]? = some (.lst ((A[j]).2.map T.str)) := by
      rw [← hS4, List.getElem?_append_right (by omega), show U.length + 1 + j - U.length = j + 1 by omega, List.getElem?_cons_succ]
      unfold cellsT
      rw [List.getElem?_map, List.getElem?_eq_getElem hjA]
      rfl
    have hl64 : (A[j]).2.length < 64 := by
      have := (h3.2 A[j] (List.getElem_mem hjA)).1
      rw [List.length_map] at this
      omega
    rw [ej]
    refine ⟨_, rfl, rfl, rfl, ?_⟩
    simp_arith [sort_ref es hl64, small16 (show 2 ≤ 200 by omega), es, strsT_map]
  have er : (refsT (U.length + 1) A).map (fun x => match x with | .tup [.str v, .ref m] => T.tup [.str v, match S4[m]? with | some (.lst ts) => (match strsT ts with | some l => tS (sortS l) | none => .non) | _ => .non] | _ => .non : T → T) = (formS c).map runT := by
    unfold formS
    rw [List.map_map, ← hA]
    refine List.ext_getElem (by simp [refsT]) fun j h1 h2 => ?_
    have hjA : j < A.length := by simpa using h2
    have es : S4[U.length + 1 + j]? = some (.lst ((A[j]).2.map T.str)) := by
      rw [← hS4, List.getElem?_append_right (by omega), show U.length + 1 + j - U.length = j + 1 by omega, List.getElem?_cons_succ]
      unfold cellsT
      rw [List.getElem?_map, List.getElem?_eq_getElem hjA]
      rfl
    simp only [refsT, List.getElem_map, List.getElem_mapIdx, es, strsT_map]
    rfl
  simp_arith [er]
  exact ⟨_, by rw [← hS4]; rfl⟩
theorem runs_of_ok {c : Ch} (hz : c.length ≤ 6) (hv : ∀ p ∈ c, So p.2) : Pu m_runs_of [chT c] (formT c) := runs_of_ok12 (Nat.le_trans hz (by decide)) hv
end SF
set_option Elab.async false
set_option linter.all false
set_option maxRecDepth 100000
namespace SF
open PySem PySem.Spec L2 TL
open PyProof.Rows hiding St
theorem for_stop0 {g : GT} {B : BS} {I : Nat → Fr → Sto → Prop} {P : Nat → Prop} {J : T → Sto → Prop} : ∀ {xs : List T} {n : Nat} {τ : Fr} {S : Sto}, I n τ S →
    (∀ i x τ S, xs[i]? = some x → I (n + i) τ S → ∃ l, g x = some l ∧ ((P (n + i) ∧ TL.Goes (B (setsT τ l) S) (I (n + i + 1))) ∨ (¬ P (n + i) ∧ ∃ r S2, B (setsT τ l) S = .rt r S2 ∧ J r S2))) →
    (∃ τ2 S2, forF g B xs τ S = .nx τ2 S2 ∧ I (n + xs.length) τ2 S2 ∧ ∀ i, i < xs.length → P (n + i)) ∨ ∃ i r S2, i < xs.length ∧ ¬ P (n + i) ∧ forF g B xs τ S = .rt r S2 ∧ J r S2
  | [], n, τ, S, h0, _ => .inl ⟨τ, S, rfl, h0, fun i hi => absurd hi (Nat.not_lt_zero _)⟩
  | x :: xs, n, τ, S, h0, h => by
    obtain ⟨l, h1, h2⟩ := h 0 x τ S rfl h0
    have rest : ∀ τ2 S2, I (n + 1) τ2 S2 → P n → forF g B (x :: xs) τ S = forF g B xs τ2 S2 →
        (∃ τ2 S2, forF g B (x :: xs) τ S = .nx τ2 S2 ∧ I (n + (x :: xs).length) τ2 S2 ∧ ∀ i, i < (x :: xs).length → P (n + i)) ∨ ∃ i r S2, i < (x :: xs).length ∧ ¬ P (n + i) ∧ forF g B (x :: xs) τ S = .rt r S2 ∧ J r S2 := fun τ2 S2 hI hp e => by
      rcases for_stop0 (n := n + 1) (xs := xs) (P := P) (J := J) (I := I) hI (fun i y τ S hy hI => by
        have q := h (i + 1) y τ S (by simpa using hy) (by rw [show n + (i + 1) = n + 1 + i by omega]; exact hI)
        rw [show n + (i + 1) = n + 1 + i by omega] at q
        exact q) with ⟨τ3, S3, e3, q, hp3⟩ | ⟨i, r, S3, hi, hn, e3, q⟩
      · refine .inl ⟨τ3, S3, e.trans e3, by rw [List.length_cons, show n + (xs.length + 1) = n + 1 + xs.length by omega]; exact q, fun i hi => ?_⟩
        cases i with
        | zero => exact hp
        | succ i => rw [show n + (i + 1) = n + 1 + i by omega]; exact hp3 i (by simpa using hi)
      · exact .inr ⟨i + 1, r, S3, by simpa using hi, by rw [show n + (i + 1) = n + 1 + i by omega]; exact hn, e.trans e3, q⟩
    rcases h2 with ⟨hp, hg⟩ | ⟨hn, r, S2, e, q⟩
    · unfold TL.Goes at hg
      split at hg
      · rename_i e
        exact rest _ _ hg hp (by simp only [forF, h1, e])
      · rename_i e
        exact rest _ _ hg hp (by simp only [forF, h1, e])
      · exact hg.elim
    · exact .inr ⟨0, r, S2, Nat.succ_pos _, hn, by simp only [forF, h1, e], q⟩
theorem for_stop {g : GT} {B : BS} {xs : List T} {τ : Fr} {S : Sto} {R : RS} (hF : forF g B xs τ S = R) (P : Nat → Prop) (I : Nat → Fr → Sto → Prop) (J : T → Sto → Prop) (h0 : I 0 τ S)
    (h : ∀ i x τ S, xs[i]? = some x → I i τ S → ∃ l, g x = some l ∧ ((P i ∧ TL.Goes (B (setsT τ l) S) (I (i + 1))) ∨ (¬ P i ∧ ∃ r S2, B (setsT τ l) S = .rt r S2 ∧ J r S2))) :
    (∃ τ2 S2, R = .nx τ2 S2 ∧ I xs.length τ2 S2 ∧ ∀ i, i < xs.length → P i) ∨ ∃ i r S2, i < xs.length ∧ ¬ P i ∧ R = .rt r S2 ∧ J r S2 := by
  have q := for_stop0 (n := 0) (xs := xs) (g := g) (B := B) (I := I) (P := P) (J := J) (τ := τ) (S := S) h0 fun i x τ S hx hI => by
    rw [Nat.zero_add] at hI ⊢
    exact h i x τ S hx hI
  simp only [Nat.zero_add] at q
  rw [hF] at q
  exact q
theorem pT_inj {p q : Str × Str} : pT p = pT q ↔ p = q := by
  unfold pT
  rw [T.tup.injEq, List.cons.injEq, List.cons.injEq, T.str.injEq, T.str.injEq, Prod.ext_iff]
  simp
theorem map_inj_of {α : Type} {f : α → T} (h : ∀ a b, f a = f b → a = b) : ∀ {x y : List α}, x.map f = y.map f → x = y
  | [], [], _ => rfl
  | [], _ :: _, e => by simp at e
  | _ :: _, [], e => by simp at e
  | a :: x, b :: y, e => by
    rw [List.map_cons, List.map_cons, List.cons.injEq] at e
    rw [h _ _ e.1, map_inj_of h e.2]
theorem chT_inj {c d : Ch} : chT c = chT d ↔ c = d := ⟨fun h => map_inj_of (fun a b => pT_inj.mp) (T.tup.inj h), fun h => by rw [h]⟩
theorem runT_inj {a b : Run} (h : runT a = runT b) : a = b := by
  unfold runT at h
  rw [T.tup.injEq, List.cons.injEq, List.cons.injEq, T.str.injEq, tS_inj] at h
  exact Prod.ext h.1 h.2.1
theorem formT_inj {c d : Ch} : formT c = formT d ↔ formS c = formS d := ⟨fun h => map_inj_of (fun a b => runT_inj) (T.tup.inj h), fun h => by unfold formT; rw [h]⟩
structure GH (c : Ch) : Prop where
  len : c.length ≤ 6
  so : ∀ p ∈ c, So p.1 ∧ So p.2
  nd : (c.map (·.1)).Nodup
theorem pl_chT {c : Ch} (h : GH c) : pl 2 (chT c) = true := pl_tup fun t ht => by
  obtain ⟨p, hp, rfl⟩ := List.mem_map.mp ht
  refine pl_tup fun u hu => ?_
  rcases List.mem_cons.mp hu with rfl | hu
  · exact (h.so p hp).1
  · rw [List.mem_singleton.mp hu]
    exact (h.so p hp).2
theorem runs_so : ∀ {c : Ch}, (∀ p ∈ c, So p.1 ∧ So p.2) → ∀ r ∈ runsR c, So r.1 ∧ ∀ k ∈ r.2, So k
  | [], _, r, hr => nomatch hr
  | p :: c, h, r, hr => by
    have ih := runs_so fun q hq => h q (List.mem_cons_of_mem _ hq)
    have hp := h p List.mem_cons_self
    rw [runsR_cons] at hr
    cases e : runsR c with
    | nil =>
      rw [e] at hr
      rw [List.mem_singleton.mp hr]
      exact ⟨hp.2, fun k hk => by rw [List.mem_singleton.mp hk]; exact hp.1⟩
    | cons x rs =>
      obtain ⟨w, ks⟩ := x
      rw [e] at hr ih
      simp only at hr
      split at hr
      · rcases List.mem_cons.mp hr with rfl | hr
        · refine ⟨hp.2, fun k hk => ?_⟩
          rcases List.mem_cons.mp hk with rfl | hk
          · exact hp.1
          · exact (ih (w, ks) List.mem_cons_self).2 k hk
        · exact ih r (List.mem_cons_of_mem _ hr)
      · rcases List.mem_cons.mp hr with rfl | hr
        · exact ⟨hp.2, fun k hk => by rw [List.mem_singleton.mp hk]; exact hp.1⟩
        · exact ih r hr
theorem pl_formT {c : Ch} (h : GH c) : pl 3 (formT c) = true := pl_tup fun t ht => by
  obtain ⟨r, hr, rfl⟩ := List.mem_map.mp ht
  obtain ⟨r0, hr0, rfl⟩ := List.mem_map.mp hr
  obtain ⟨s1, s2⟩ := runs_so h.so r0 hr0
  refine pl_tup fun u hu => ?_
  rcases List.mem_cons.mp hu with rfl | hu
  · exact s1
  · rw [List.mem_singleton.mp hu]
    exact pl_tS fun x hx => s2 x ((sortS_perm _).mem_iff.mp hx)
theorem eq_chT {c d : Ch} (h : GH c) (g : GH d) (S : Sto) : TL.eqT S (chT c) (chT d) = some (.bl (decide (c = d))) := eq_pl (pl_mono (by decide) (pl_chT h)) (pl_mono (by decide) (pl_chT g)) (by rw [decide_eq_true_eq, chT_inj]) S
theorem eq_formT {c d : Ch} (h : GH c) (g : GH d) (S : Sto) : TL.eqT S (formT c) (formT d) = some (.bl (decide (formS c = formS d))) := eq_pl (pl_mono (by decide) (pl_formT h)) (pl_mono (by decide) (pl_formT g)) (by rw [decide_eq_true_eq, formT_inj]) S
theorem one_form_ok {c d : Ch} (h : GH c) (g : GH d) : Pu m_have_one_form [chT c, chT d] (.bl (decide (formS c = formS d))) := by
  intro S
  have r1 := runs_of_ok h.len fun p hp => (h.so p hp).2
  have r2 := runs_of_ok g.len fun p hp => (g.so p hp).2
  unfold m_have_one_form b_have_one_form
  generalize m_runs_of = f1 at r1 r2 ⊢
  by_cases e : c = d
  · subst e
    simp_arith [eq_chT h h]
  · simp_arith [eq_chT h g, decide_eq_false e, r1 S, r2 S, eq_formT h g]
theorem all_bools (bs : List Bool) (S : Sto) : allT S [.lst (bs.map T.bl)] = some (.bl (bs.all id)) := by
  have h : ∀ bs : List Bool, bools (bs.map T.bl) = some bs := fun bs => by
    induction bs with
    | nil => rfl
    | cons b bs ih => simp only [List.map_cons, bools, ih, Option.map_some]
  show ((bools (bs.map T.bl)).map fun bs => T.bl (bs.all id)) = _
  rw [h]
  rfl
theorem pair_map {α β : Type} (f : α → T) (g : β → T) (xs : List α) (ys : List β) : pairT (xs.map f) (ys.map g) = (List.zip xs ys).map fun p => T.tup [f p.1, g p.2] := by
  unfold pairT
  rw [List.zipWith_map, List.zip, List.map_zipWith]
theorem lc_pairs {α β : Type} {f : α → T} {g : β → T} {r : α × β → T} {a b : Nat} {Fe : FE} {vs : List Nat} {τ : Fr} {S : Sto} (hv : ∀ x y : T, slotsIn [(a, x), (b, y)] vs = true) : ∀ {l : List (α × β)},
    (∀ p ∈ l, Fe (setsT τ [(a, f p.1), (b, g p.2)]) S = .ok (r p) S) → lcF (sTup 2 (sCons (sName a) (sCons (sName b) sNil))) fYes Fe vs τ (l.map fun p => T.tup [f p.1, g p.2]) S = .ok (l.map r) S
  | [], _ => rfl
  | p :: l, h => by
    have h2 := h p List.mem_cons_self
    have ih := lc_pairs hv (l := l) fun q hq => h q (List.mem_cons_of_mem _ hq)
    have e : sTup 2 (sCons (sName a) (sCons (sName b) sNil)) (T.tup [f p.1, g p.2]) = some [(a, f p.1), (b, g p.2)] := rfl
    simp only [List.map_cons, lcF, e, hv, fYes, h2, ih, if_true, bind_ok, nox_ok]
def likeR (R Q : List (List Ch)) : Prop := R.map (·.map formS) = Q.map (·.map formS)
instance (R Q : List (List Ch)) : Decidable (likeR R Q) := by unfold likeR; infer_instance
theorem zip_all {c d : List Ch} (h : c.length = d.length) : ((List.zip c d).all fun p => decide (formS p.1 = formS p.2)) = decide (c.map formS = d.map formS) := by
  rw [Bool.eq_iff_iff, List.all_eq_true, decide_eq_true_eq]
  induction c generalizing d with
  | nil =>
    cases d with
    | nil => simp
    | cons _ _ => simp at h
  | cons x c ih =>
    cases d with
    | nil => simp at h
    | cons y d =>
      rw [List.zip_cons_cons, List.map_cons, List.map_cons, List.cons.injEq, ← ih (by simpa using h)]
      simp
theorem look_alike_ok {R Q : List (List Ch)} (h : R.map List.length = Q.map List.length) (hR : ∀ r ∈ R, r.length ≤ 6 ∧ ∀ c ∈ r, GH c) (hQ : ∀ r ∈ Q, ∀ c ∈ r, GH c) : Pu m_look_alike [.lst (R.map rowT), .lst (Q.map rowT)] (.bl (decide (likeR R Q))) := by
  intro S
  have of := fun {c d : Ch} (h : GH c) (g : GH d) => one_form_ok h g
  unfold m_look_alike b_look_alike
  generalize m_have_one_form = f1 at of ⊢
  have hl : R.length = Q.length := by
    have := congrArg List.length h
    simpa using this
  simp_arith [pair_map]
  generalize hF : forF _ _ _ _ _ = R2
  have st := for_stop hF (fun i => (R[i]?.map (·.map formS)) = (Q[i]?.map (·.map formS))) (fun i τ T1 => T1 = S ∧ ∃ x2 x3, τ = [some (.lst (R.map rowT)), some (.lst (Q.map rowT)), x2, x3, none, none]) (fun r T1 => r = .bl false ∧ T1 = S)
    ⟨rfl, none, none, rfl⟩ (by
    intro i y τ T1 hx hI
    obtain ⟨rfl, x2, x3, rfl⟩ := hI
    rw [List.getElem?_map] at hx
    cases ez : (R.zip Q)[i]? with
    | none => rw [ez] at hx; cases hx
    | some p =>
    rw [ez] at hx
    cases hx
    obtain ⟨r, q⟩ := p
    obtain ⟨er, eq⟩ := List.getElem?_zip_eq_some.mp ez
    obtain ⟨r6, hr⟩ := hR r (List.mem_of_getElem? er)
    have hq := hQ q (List.mem_of_getElem? eq)
    have hrq : r.length = q.length := by
      have e1 := congrArg (fun l => l[i]?) h
      simp only [List.getElem?_map, er, eq, Option.map_some, Option.some.injEq] at e1
      exact e1
    have lcp := lc_pairs (S := T1) (f := chT) (g := chT) (r := fun p => .bl (decide (formS p.1 = formS p.2))) (a := 4) (b := 5) (vs := [4, 5]) (Fe := fCall f1 (fCons (fVar 4) (fCons (fVar 5) fNil))) (τ := [some (.lst (R.map rowT)), some (.lst (Q.map rowT)), some (.tup (r.map chT)), some (.tup (q.map chT)), none, none]) (fun x y => rfl) (l := r.zip q) fun p hp => by
      have m := List.of_mem_zip hp
      simp_arith [of (hr p.1 m.1) (hq p.2 m.2) T1]
    have ab : ∀ S, allT S [.lst ((r.zip q).map fun p => .bl (decide (formS p.1 = formS p.2)))] = some (.bl (decide (r.map formS = q.map formS))) := fun S => by
      have := all_bools ((r.zip q).map fun p => decide (formS p.1 = formS p.2)) S
      rw [List.map_map] at this
      rw [← zip_all hrq]
      refine this.trans ?_
      rw [List.all_map]
      rfl
    have zz : (r.zip q).length ≤ sizeLine := small16 (by rw [List.length_zip]; omega)
    refine ⟨_, rfl, ?_⟩
    simp only [er, eq, Option.map_some, Option.some.injEq]
    by_cases hp : r.map formS = q.map formS
    · refine .inl ⟨hp, ?_⟩
      simp_arith [show rowT r = .tup (r.map chT) from rfl, show rowT q = .tup (q.map chT) from rfl, pair_map, List.length_map, zz, lcp, ab, decide_eq_true hp]
      exact goes_nx ⟨rfl, _, _, rfl⟩
    · refine .inr ⟨hp, ?_⟩
      simp_arith [show rowT r = .tup (r.map chT) from rfl, show rowT q = .tup (q.map chT) from rfl, pair_map, List.length_map, zz, lcp, ab, decide_eq_false hp]
      exact ⟨_, _, rfl, rfl, rfl⟩)
  have zl : ((R.zip Q).map fun p => T.tup [rowT p.1, rowT p.2]).length = R.length := by rw [List.length_map, List.length_zip]; omega
  rw [zl] at st
  rcases st with ⟨τ2, S2, e, ⟨h1, x2, x3, h2⟩, hall⟩ | ⟨i, r, S2, hi, hn, e, hr, hs⟩
  · have hk : likeR R Q := by
      refine List.ext_getElem? fun i => ?_
      rw [List.getElem?_map, List.getElem?_map]
      by_cases hi : i < R.length
      · exact hall i hi
      · rw [List.getElem?_eq_none (show R.length ≤ i by omega), List.getElem?_eq_none (show Q.length ≤ i by omega)]
    subst e h1 h2
    simp_arith [decide_eq_true hk]
  · have hk : ¬ likeR R Q := fun z => hn (by
      have := congrArg (fun l => l[i]?) z
      simpa only [List.getElem?_map] using this)
    subst e hr hs
    simp_arith [decide_eq_false hk]
end SF
set_option Elab.async false
set_option linter.all false
set_option maxRecDepth 100000
namespace SF
open PySem PySem.Spec L2 TL
open PyProof.Rows hiding St
abbrev Ow := Str → Option Str
def giveO (g : List (Str × Str)) (o : Ow) : Ow := g.foldl (fun o p a => if a = p.1 then some p.2 else o a) o
def stepO (t : List Str) (c : Code) (o : Ow) : Ow := if c.k ∈ t then giveO c.g o else o
def afterO (b : Bk) (t : List Str) : Ow → List Str → Ow
  | o, [] => o
  | o, x :: r => match findC b.cs x with
    | some c => afterO b t (stepO t c o) r
    | none => afterO b t o r
def wl (b : Bk) (t : List Str) : Ow → List Str → List (List (Option Str))
  | _, [] => []
  | o, x :: r => match findC b.cs x with
    | some c => wl b t (stepO t c o) r
    | none => (shownS b x).map o :: wl b t o r
abbrev o0 : Ow := fun _ => none
theorem wl_app (b : Bk) (t : List Str) : ∀ (o : Ow) (xs ys : List Str), wl b t o (xs ++ ys) = wl b t o xs ++ wl b t (afterO b t o xs) ys
  | o, [], ys => rfl
  | o, x :: xs, ys => by
    simp only [List.cons_append, wl, afterO]
    cases findC b.cs x with
    | some c => exact wl_app b t _ xs ys
    | none => rw [List.cons_append, wl_app b t o xs ys]
theorem wl_len (b : Bk) (t : List Str) : ∀ (o : Ow) (xs : List Str), (wl b t o xs).length = (signS b xs).length
  | o, [] => rfl
  | o, x :: xs => by
    unfold signS
    simp only [wl]
    cases e : findC b.cs x with
    | some c =>
      rw [List.filter_cons_of_neg (by simp [e])]
      exact wl_len b t _ xs
    | none =>
      rw [List.filter_cons_of_pos (by simp [e]), List.length_cons, List.length_cons, wl_len b t o xs]
      rfl
theorem give_o {t : List Str} {k : Str} (hk : k ∈ t) : ∀ {g : List (Str × Str)} {f : Str → Ch} {o : Ow}, (∀ a, worthS t (f a) = o a) → ∀ a, worthS t (giveF f k g a) = giveO g o a
  | [], f, o, h, a => h a
  | p :: g, f, o, h, a => give_o hk (g := g) (f := fun a => if a = p.1 then behindS (f a) k p.2 else f a) (o := fun a => if a = p.1 then some p.2 else o a) (fun a => by
    show worthS t (if a = p.1 then behindS (f a) k p.2 else f a) = if a = p.1 then some p.2 else o a
    by_cases e : a = p.1
    · rw [if_pos e, if_pos e, worth_behind, if_pos hk]
    · rw [if_neg e, if_neg e]
      exact h a) a
theorem step_o {t : List Str} (c : Code) {f : Str → Ch} {o : Ow} (h : ∀ a, worthS t (f a) = o a) (a : Str) : worthS t (giveF f c.k c.g a) = stepO t c o a := by
  unfold stepO
  split
  · rename_i hk
    exact give_o hk h a
  · rename_i hk
    rw [give_out hk]
    exact h a
theorem wl_rows (b : Bk) (t : List Str) : ∀ (xs : List Str) (f : Str → Ch) (o : Ow), (∀ a, worthS t (f a) = o a) → wl b t o xs = (rowsF b f xs).map (·.map (worthS t))
  | [], _, _, _ => rfl
  | x :: xs, f, o, h => by
    simp only [wl, rowsF]
    cases e : findC b.cs x with
    | some c => exact wl_rows b t xs _ _ (step_o c h)
    | none =>
      show (shownS b x).map o :: wl b t o xs = _
      rw [List.map_cons, wl_rows b t xs f o h, List.map_map]
      congr 1
      exact List.map_congr_left fun a _ => (h a).symm
theorem wl_rows0 (b : Bk) (t xs : List Str) : wl b t o0 xs = (rowsF b f0 xs).map (·.map (worthS t)) := wl_rows b t xs f0 o0 fun _ => rfl
def likeS (b : Bk) (xs ys : List Str) : Prop := likeR (rowsF b f0 xs) (rowsF b f0 ys)
instance (b : Bk) (xs ys : List Str) : Decidable (likeS b xs ys) := by unfold likeS; infer_instance
theorem like_wl {b : Bk} {xs ys : List Str} (h : likeS b xs ys) (t : List Str) : wl b t o0 xs = wl b t o0 ys := by
  have e : ∀ R : List (List Ch), R.map (·.map (worthS t)) = (R.map (·.map formS)).map (·.map (worthR t)) := fun R => by
    rw [List.map_map]
    refine List.map_congr_left fun r _ => ?_
    show r.map (worthS t) = (r.map formS).map (worthR t)
    rw [List.map_map]
    exact List.map_congr_left fun c _ => worth_form t c
  rw [wl_rows0, wl_rows0, e, e, show (rowsF b f0 xs).map (·.map formS) = _ from h]
theorem rows_mem {b : Bk} {xs : List Str} {r : List Ch} (h : r ∈ rowsF b f0 xs) : ∃ x ys, r = (shownS b x).map (chainF b f0 ys) := by
  rw [rows_q] at h
  obtain ⟨q, hq, rfl⟩ := List.mem_map.mp h
  obtain ⟨_, _, ys, e⟩ := q_mem hq
  exact ⟨q.1, ys, by rw [← e]⟩
theorem GC.gh {b : Bk} (G : GC b) (ys : List Str) (a : Str) : GH (chainF b f0 ys a) := by
  obtain ⟨K, hK, hk⟩ := G.kin
  have ci : CI K (chainF b f0 ys a) := CI.chain hk (fun _ => CI.nil K) a
  exact ⟨(G.cs a).1, fun p hp => ⟨(G.cs a).2 p hp, G.vals a p hp⟩, ci.nd⟩
theorem rows_good {b : Bk} (G : GC b) {xs : List Str} : ∀ r ∈ rowsF b f0 xs, r.length ≤ 6 ∧ ∀ c ∈ r, GH c := fun r hr => by
  obtain ⟨x, ys, rfl⟩ := rows_mem hr
  refine ⟨by rw [List.length_map]; exact (shown_sub G.w x).1, fun c hc => ?_⟩
  obtain ⟨a, _, rfl⟩ := List.mem_map.mp hc
  exact G.gh ys a
theorem chain_kinds {b : Bk} {ys : List Str} {a k : Str} (h : k ∈ (chainF b f0 ys a).map (·.1)) : ∃ c ∈ b.cs, c.k = k := by
  obtain ⟨p, hp, rfl⟩ := List.mem_map.mp h
  exact chain_vals (P := fun p => ∃ c ∈ b.cs, c.k = p.1) (fun c hc p _ => ⟨c, hc, rfl⟩) (fun _ p h => by cases h) a p hp
theorem like_of {b : Bk} (G : GC b) {xs ys : List Str} (h : ∀ k l : Str, (∃ c ∈ b.cs, c.k = k) → (∃ c ∈ b.cs, c.k = l) → wl b [k, l] o0 xs = wl b [k, l] o0 ys) (hn : wl b [] o0 xs = wl b [] o0 ys) : likeS b xs ys := by
  have at_ : ∀ t, wl b t o0 xs = wl b t o0 ys → ∀ i : Nat, ((rowsF b f0 xs)[i]?.map (·.map (worthS t))) = (rowsF b f0 ys)[i]?.map (·.map (worthS t)) := fun t e i => by
    rw [wl_rows0, wl_rows0] at e
    have := congrArg (fun l => l[i]?) e
    simpa only [List.getElem?_map] using this
  refine List.ext_getElem? fun i => ?_
  rw [List.getElem?_map, List.getElem?_map]
  have h0 := at_ [] hn i
  cases er : (rowsF b f0 xs)[i]? with
  | none =>
    rw [er] at h0
    cases eq : (rowsF b f0 ys)[i]? with
    | none => rfl
    | some q => rw [eq] at h0; cases h0
  | some r =>
    rw [er] at h0
    cases eq : (rowsF b f0 ys)[i]? with
    | none => rw [eq] at h0; cases h0
    | some q =>
      rw [eq] at h0
      simp only [Option.map_some, Option.some.injEq] at h0 ⊢
      obtain ⟨x, zs, rfl⟩ := rows_mem (List.mem_of_getElem? er)
      obtain ⟨y, us, rfl⟩ := rows_mem (List.mem_of_getElem? eq)
      refine List.ext_getElem? fun j => ?_
      have hj : ∀ t, wl b t o0 xs = wl b t o0 ys → (((shownS b x).map (chainF b f0 zs))[j]?.map (worthS t)) = ((shownS b y).map (chainF b f0 us))[j]?.map (worthS t) := fun t e => by
        have z := at_ t e i
        rw [er, eq] at z
        simp only [Option.map_some, Option.some.injEq] at z
        have := congrArg (fun l => l[j]?) z
        simpa only [List.getElem?_map] using this
      rw [List.getElem?_map, List.getElem?_map]
      have j0 := hj [] hn
      simp only [List.getElem?_map] at hj j0 ⊢
      cases ea : (shownS b x)[j]? with
      | none =>
        rw [ea] at j0
        cases eb : (shownS b y)[j]? with
        | none => rfl
        | some a' => rw [eb] at j0; cases j0
      | some a =>
        cases eb : (shownS b y)[j]? with
        | none => rw [ea, eb] at j0; cases j0
        | some a' =>
          simp only [ea, eb, Option.map_some, Option.some.injEq] at hj ⊢
          refine form_of_worth (G.gh zs a).nd (G.gh us a').nd fun k l hk hl => hj _ (h k l ?_ ?_)
          · exact hk.elim chain_kinds chain_kinds
          · exact hl.elim chain_kinds chain_kinds
theorem likeS.symm {b : Bk} {xs ys : List Str} (h : likeS b xs ys) : likeS b ys xs := Eq.symm h
theorem likeS.trans {b : Bk} {xs ys zs : List Str} (h : likeS b xs ys) (g : likeS b ys zs) : likeS b xs zs := Eq.trans h g
theorem give_keep {P p o O : Ow} (h : ∀ a, P a = O a ∨ (P a = p a ∧ O a = o a)) : ∀ g : List (Str × Str), ∀ a, giveO g P a = giveO g O a ∨ (giveO g P a = giveO g p a ∧ giveO g O a = giveO g o a) := fun g => by
  induction g generalizing P p o O with
  | nil => exact h
  | cons q g ih =>
    refine ih (P := fun a => if a = q.1 then some q.2 else P a) (p := fun a => if a = q.1 then some q.2 else p a) (o := fun a => if a = q.1 then some q.2 else o a) (O := fun a => if a = q.1 then some q.2 else O a) fun a => ?_
    by_cases e : a = q.1
    · left
      show (if a = q.1 then _ else _) = if a = q.1 then _ else _
      rw [if_pos e, if_pos e]
    · rcases h a with z | z
      · left
        show (if a = q.1 then _ else _) = if a = q.1 then _ else _
        rw [if_neg e, if_neg e, z]
      · right
        show (if a = q.1 then _ else _) = (if a = q.1 then _ else _) ∧ (if a = q.1 then _ else _) = if a = q.1 then _ else _
        rw [if_neg e, if_neg e, if_neg e, if_neg e]
        exact z
theorem wl_keep {b : Bk} {t : List Str} : ∀ {C : List Str} {P p o O : Ow}, wl b t p C = wl b t o C → (∀ a, P a = O a ∨ (P a = p a ∧ O a = o a)) → wl b t P C = wl b t O C
  | [], _, _, _, _, _, _ => rfl
  | x :: C, P, p, o, O, h, r => by
    simp only [wl] at h ⊢
    cases e : findC b.cs x with
    | some c =>
      rw [e] at h
      refine wl_keep (p := stepO t c p) (o := stepO t c o) h fun a => ?_
      unfold stepO
      split
      · exact give_keep r c.g a
      · exact r a
    | none =>
      rw [e] at h
      simp only [List.cons.injEq] at h ⊢
      refine ⟨List.map_congr_left fun a ha => ?_, wl_keep h.2 r⟩
      have hp : p a = o a := (List.map_inj_left.mp h.1) a ha
      rcases r a with z | ⟨z1, z2⟩
      · exact z
      · rw [z1, z2, hp]
theorem give_step {t : List Str} (c : Code) (p o : Ow) : ∀ a, stepO t c p a = stepO t c o a ∨ (stepO t c p a = p a ∧ stepO t c o a = o a) := fun a => by
  unfold stepO
  split
  · have key : ∀ g : List (Str × Str), ∀ P O : Ow, (∀ a, P a = O a ∨ (P a = p a ∧ O a = o a)) → ∀ a, giveO g P a = giveO g O a ∨ (giveO g P a = p a ∧ giveO g O a = o a) := fun g => by
      induction g with
      | nil => exact fun P O h => h
      | cons q g ih =>
        intro P O h
        refine ih (fun a => if a = q.1 then some q.2 else P a) (fun a => if a = q.1 then some q.2 else O a) fun a => ?_
        by_cases e : a = q.1
        · left
          show (if a = q.1 then _ else _) = if a = q.1 then _ else _
          rw [if_pos e, if_pos e]
        · show (if a = q.1 then _ else P a) = (if a = q.1 then _ else O a) ∨ _
          rw [if_neg e, if_neg e]
          exact h a
    exact key c.g p o (fun a => .inr ⟨rfl, rfl⟩) a
  · exact .inr ⟨rfl, rfl⟩
theorem append_inj_len {α : Type} {a b c d : List α} (h : a ++ b = c ++ d) (l : a.length = c.length) : a = c ∧ b = d := List.append_inj h l
theorem needed_stays {b : Bk} (G : GC b) {A D C : List Str} {w x : Str} {c e : Code} (hw : findC b.cs w = some c) (hx : findC b.cs x = some e) (h : likeS b (A ++ w :: (D ++ C)) (A ++ (D ++ C))) : likeS b (A ++ w :: (D ++ x :: C)) (A ++ (D ++ x :: C)) := by
  have key : ∀ t, wl b t o0 (A ++ w :: (D ++ x :: C)) = wl b t o0 (A ++ (D ++ x :: C)) := fun t => by
    have q := like_wl h t
    rw [wl_app, wl_app] at q ⊢
    have q2 := (append_inj_len q rfl).2
    congr 1
    simp only [wl, hw] at q2 ⊢
    rw [wl_app, wl_app] at q2 ⊢
    obtain ⟨q3, q4⟩ := append_inj_len q2 (by rw [wl_len, wl_len])
    rw [q3]
    congr 1
    simp only [wl, hx]
    exact wl_keep q4 (give_step e _ _)
  exact like_of G (fun _ _ _ _ => key _) (key _)
end SF
set_option Elab.async false
set_option linter.all false
set_option maxRecDepth 100000
namespace SF
open PySem PySem.Spec L2 TL
open PyProof.Rows hiding St
theorem sign_so {b : Bk} {xs : List Str} (X : GX b xs) : ∀ x ∈ signS b xs, So x := fun x hx => by
  unfold signS at hx
  obtain ⟨a, c⟩ := List.mem_filter.mp hx
  exact X.so x a (by simpa using c)
theorem same_signs_ok {b : Bk} (G : GC b) {xs ys : List Str} (X : GX b xs) (Y : GX b ys) (h : signS b xs = signS b ys) : Pu m_need_same_signs [bT b, tS xs, tS ys] .non := by
  intro S
  have n1 := need_stream_ok G.w X.i
  have n2 := need_stream_ok G.w Y.i
  have s1 := signs_of_ok G.w X.i
  have s2 := signs_of_ok G.w Y.i
  rw [← h] at s2
  have ne : ∀ S, TL.neT S (tS (signS b xs)) (tS (signS b xs)) = some (.bl false) := fun S => ne_pl (k := true) (pl_mono (by decide) (pl_tS (sign_so X))) (pl_mono (by decide) (pl_tS (sign_so X))) (by simp) S
  unfold m_need_same_signs b_need_same_signs
  generalize m_need_stream = f1 at n1 n2 ⊢
  generalize m_signs_of = f2 at s1 s2 ⊢
  simp_arith [n1 S, n2 S, s1 S, s2 S, ne]
theorem rows_lens {b : Bk} {xs ys : List Str} (h : signS b xs = signS b ys) : (rowsF b f0 xs).map List.length = (rowsF b f0 ys).map List.length := by
  have e : ∀ zs, (rowsF b f0 zs).map List.length = (signS b zs).map fun x => (shownS b x).length := fun zs => by
    rw [rows_q, signs_q b zs f0, List.map_map, List.map_map]
    exact List.map_congr_left fun q _ => by simp
  rw [e, e, h]
theorem look_rows_ok {b : Bk} (G : GC b) {xs ys : List Str} (h : signS b xs = signS b ys) : Pu m_look_alike [.lst ((rowsF b f0 xs).map rowT), .lst ((rowsF b f0 ys).map rowT)] (.bl (decide (likeS b xs ys))) :=
  look_alike_ok (rows_lens h) (rows_good G) fun r hr => (rows_good G r hr).2
theorem alike_ok {b : Bk} (G : GC b) {xs ys : List Str} (X : GX b xs) (Y : GX b ys) (h : signS b xs = signS b ys) : Pu m_alike [bT b, tS xs, tS ys] (.bl (decide (likeS b xs ys))) := by
  intro S
  have n1 := same_signs_ok G X Y h
  have s1 := chains_shown_ok G X.i
  have s2 := chains_shown_ok G Y.i
  have l1 := look_rows_ok G h
  unfold m_alike b_alike
  generalize m_need_same_signs = f1 at n1 ⊢
  generalize m_chains_shown = f2 at s1 s2 ⊢
  generalize m_look_alike = f3 at l1 ⊢
  simp_arith [n1 S, s1 S, s2 S, l1 S]
abbrev wo (xs : List Str) (i : Nat) : List Str := xs.eraseIdx i
theorem GX.sub {b : Bk} {xs ys : List Str} (X : GX b xs) (h : ys.Sublist xs) : GX b ys := ⟨X.i.sub h, fun x hx => X.so x (h.subset hx)⟩
def needP (b : Bk) (xs : List Str) (i : Nat) : Bool := match xs[i]? with
  | some x => (findC b.cs x).isSome && decide (likeS b xs (wo xs i))
  | none => false
theorem rng_nat (n : Nat) : rng 0 (n : Int) = (List.range n).map fun i : Nat => T.int i := by
  unfold rng
  rw [show ((n : Int) - 0).toNat = n by omega]
  exact List.map_congr_left fun i _ => by congr 1; omega
end SF
set_option Elab.async false
set_option linter.all false
set_option maxRecDepth 100000
namespace SF
open PySem PySem.Spec L2 TL
open PyProof.Rows hiding St
theorem needP_of {b : Bk} {xs : List Str} {i : Nat} (h : needP b xs i = true) : ∃ x c, xs[i]? = some x ∧ findC b.cs x = some c ∧ likeS b xs (wo xs i) := by
  unfold needP at h
  cases e : xs[i]? with
  | none => rw [e] at h; cases h
  | some x =>
    rw [e] at h
    simp only [Bool.and_eq_true, decide_eq_true_eq] at h
    obtain ⟨c, hc⟩ := Option.isSome_iff_exists.mp h.1
    exact ⟨x, c, rfl, hc, h.2⟩
theorem stays {b : Bk} (G : GC b) {xs : List Str} {i n : Nat} (hin : i < n) (hn : n < xs.length) (hw : ∃ x c, xs[n]? = some x ∧ findC b.cs x = some c) (h : needP b xs i = false) : needP b (wo xs n) i = false := by
  cases hq : needP b (wo xs n) i with
  | false => rfl
  | true =>
    exfalso
    obtain ⟨w, c, e1, e2, e3⟩ := needP_of hq
    obtain ⟨x, d, e4, e5⟩ := hw
    have e1' : xs[i]? = some w := by rwa [wo, List.getElem?_eraseIdx_of_lt hin] at e1
    have sp : xs = xs.take i ++ w :: ((xs.drop (i + 1)).take (n - i - 1) ++ x :: xs.drop (n + 1)) := by
      conv => lhs; rw [split_at e1']
      congr 2
      have e6 : (xs.drop (i + 1))[n - i - 1]? = some x := by
        rw [List.getElem?_drop, show i + 1 + (n - i - 1) = n by omega]
        exact e4
      conv => lhs; rw [split_at e6]
      rw [List.drop_drop, show i + 1 + (n - i - 1 + 1) = n + 1 by omega]
    generalize hA : xs.take i = A at sp
    have lA : A.length = i := by rw [← hA, List.length_take]; omega
    generalize hD : (xs.drop (i + 1)).take (n - i - 1) = D at sp
    have lD : D.length = n - i - 1 := by rw [← hD, List.length_take, List.length_drop]; omega
    generalize xs.drop (n + 1) = C at sp
    have w1 : wo xs i = A ++ (D ++ x :: C) := by
      rw [sp, wo, List.eraseIdx_append_of_length_le (by omega), lA, Nat.sub_self]
      rfl
    have w2 : wo xs n = A ++ w :: (D ++ C) := by
      rw [sp, wo, List.eraseIdx_append_of_length_le (by omega), lA, show n - i = (n - i - 1) + 1 by omega, List.eraseIdx_cons_succ, List.eraseIdx_append_of_length_le (by omega), lD, Nat.sub_self]
      rfl
    have w3 : wo (wo xs n) i = A ++ (D ++ C) := by
      rw [w2, wo, List.eraseIdx_append_of_length_le (by omega), lA, Nat.sub_self]
      rfl
    rw [w3, w2] at e3
    have k := needed_stays G (x := x) e2 e5 e3
    rw [← sp, ← w1] at k
    unfold needP at h
    rw [e1'] at h
    simp only [e2, Option.isSome_some, Bool.true_and, decide_eq_false_iff_not] at h
    exact h k
end SF
set_option Elab.async false
set_option linter.all false
set_option maxRecDepth 100000
namespace SF
open PySem PySem.Spec L2 TL
open PyProof.Rows hiding St
end SF
set_option Elab.async false
set_option linter.all false
set_option maxRecDepth 100000
namespace SF
open PySem PySem.Spec L2 TL
open PyProof.Rows hiding St
end SF
set_option Elab.async false
set_option linter.all false
set_option maxRecDepth 100000
namespace SF
open PySem PySem.Spec L2 TL
open PyProof.Rows hiding St
theorem word_iff {b : Bk} {x : Str} : x ∈ b.cs.map (·.w) ↔ (findC b.cs x).isSome = true := by
  rw [List.mem_map]
  constructor
  · rintro ⟨c, hc, rfl⟩
    cases e : findC b.cs c.w with
    | none => exact absurd rfl (findC_none e c hc)
    | some d => rfl
  · intro h
    obtain ⟨c, hc⟩ := Option.isSome_iff_exists.mp h
    exact ⟨c, (findC_mem hc).1, (findC_mem hc).2⟩
theorem eq_nats_nil (l : List Nat) (S : Sto) : TL.eqT S (.lst (natsT l)) (.lst []) = some (.bl (decide (l = []))) := eq_pl (y := .lst (natsT [])) (pl_mono (by decide) (pl_nats l)) (pl_mono (by decide) (pl_nats [])) (by
  rw [decide_eq_true_eq, T.lst.injEq]
  exact ⟨fun h => by rw [h], fun h => nats_inj h⟩) S
end SF
set_option Elab.async false
set_option linter.all false
set_option maxRecDepth 100000
namespace SF
open PySem PySem.Spec L2 TL
open PyProof.Rows hiding St
end SF
set_option Elab.async false
set_option linter.all false
set_option maxRecDepth 100000
namespace SF
open PySem PySem.Spec L2 TL
open PyProof.Rows hiding St
end SF
set_option Elab.async false
set_option linter.all false
set_option maxRecDepth 100000
namespace SF
open PySem PySem.Spec L2 TL
open PyProof.Rows hiding St
theorem lc_img {α : Type} {F : α → T} {P : α → Bool} {r : α → T} {g : GT} {Ft : FT} {Fe : FE} {vs : List Nat} {τ : Fr} {S : Sto} : ∀ {l : List α},
    (∀ a ∈ l, ∃ s, g (F a) = some s ∧ slotsIn s vs = true ∧ Ft (setsT τ s) S = .ok (P a) S ∧ (P a = true → Fe (setsT τ s) S = .ok (r a) S)) → lcF g Ft Fe vs τ (l.map F) S = .ok ((l.filter P).map r) S
  | [], _ => rfl
  | x :: xs, h => by
    obtain ⟨s, h1, h2, h3, h4⟩ := h x List.mem_cons_self
    have ih := lc_img fun y hy => h y (List.mem_cons_of_mem _ hy)
    cases e : P x with
    | true => simp only [List.map_cons, lcF, h1, h2, h3, e, h4 e, ih, if_true, bind_ok, nox_ok, List.filter_cons_of_pos]
    | false => simp only [List.map_cons, lcF, h1, h2, h3, e, ih, if_true, bind_ok, nox_ok, List.filter_cons, Bool.false_eq_true, if_false]
theorem lc_each1 {α : Type} {F : α → T} {r : α → T} {g : GT} {Ft : FT} {Fe : FE} {vs : List Nat} {τ : Fr} {S : Sto} {l : List α}
    (h : ∀ a ∈ l, ∃ s, g (F a) = some s ∧ slotsIn s vs = true ∧ Ft (setsT τ s) S = .ok true S ∧ Fe (setsT τ s) S = .ok (r a) S) : lcF g Ft Fe vs τ (l.map F) S = .ok (l.map r) S := by
  rw [lc_img (P := fun _ => true) (r := r) fun a ha => (h a ha).imp fun s z => ⟨z.1, z.2.1, z.2.2.1, fun _ => z.2.2.2⟩, List.filter_eq_self.mpr fun _ _ => rfl]
theorem lcC_img {α : Type} {n : Nat} {c : T} {F : α → T} {P : α → Bool} {r : α → T} {g : GT} {Ft : FT} {Fe : FE} {vs : List Nat} {τ : Fr} {S : Sto} (hS : S[n]? = some c) : ∀ {l : List α},
    (∀ a ∈ l, ∃ s, g (F a) = some s ∧ slotsIn s vs = true ∧ Ft (setsT τ s) S = .ok (P a) S ∧ (P a = true → Fe (setsT τ s) S = .ok (r a) S)) → lcC n c g Ft Fe vs τ (l.map F) S = .ok ((l.filter P).map r) S
  | [], _ => by unfold lcC; rw [List.map_nil]; simp only; rw [if_pos hS]; rfl
  | x :: xs, h => by
    obtain ⟨s, h1, h2, h3, h4⟩ := h x List.mem_cons_self
    have ih := lcC_img hS fun y hy => h y (List.mem_cons_of_mem _ hy)
    rw [List.map_cons]
    unfold lcC
    rw [if_pos hS]
    cases e : P x with
    | true => simp only [h1, h2, h3, e, h4 e, ih, if_true, bind_ok, nox_ok, List.filter_cons_of_pos, List.map_cons]
    | false => simp only [h1, h2, h3, e, ih, if_true, bind_ok, nox_ok, List.filter_cons, Bool.false_eq_true, if_false]
theorem st_img {α : Type} {F : α → T} {r : α → Str} {g : GT} {Ft : FT} {Fe : FE} {vs : List Nat} {τ : Fr} {S : Sto} : ∀ {l : List α} {m : List Str},
    (∀ a ∈ l, ∃ s, g (F a) = some s ∧ slotsIn s vs = true ∧ Ft (setsT τ s) S = .ok true S ∧ Fe (setsT τ s) S = .ok (.str (r a)) S) → stF g Ft Fe vs τ (l.map F) m S = .ok ((l.map r).foldl addS m) S
  | [], _, _ => rfl
  | x :: xs, m, h => by
    obtain ⟨s, h1, h2, h3, h4⟩ := h x List.mem_cons_self
    have ih := st_img (m := addS m (r x)) fun y hy => h y (List.mem_cons_of_mem _ hy)
    simp only [List.map_cons, stF, h1, h2, h3, h4, ih, if_true, bind_ok, nox_ok, List.foldl_cons]
theorem for_at {α : Type} {F : α → T} {g : GT} {B : BS} {l : List α} {τ : Fr} {S : Sto} {R : RS} (hF : forF g B (l.map F) τ S = R) (I : Nat → Fr → Sto → Prop) (h0 : I 0 τ S)
    (h : ∀ i a τ S, l[i]? = some a → I i τ S → ∃ s, g (F a) = some s ∧ TL.Goes (B (setsT τ s) S) (I (i + 1))) : ∃ τ2 S2, R = .nx τ2 S2 ∧ I l.length τ2 S2 := by
  have q := for_go hF I h0 fun i x τ S hx hI => by
    rw [List.getElem?_map] at hx
    cases ex : l[i]? with
    | none => rw [ex] at hx; cases hx
    | some a =>
      rw [ex] at hx
      cases hx
      exact h i a τ S ex hI
  rw [List.length_map] at q
  exact q
theorem adds_mem : ∀ {xs m : List Str} {y : Str}, y ∈ xs.foldl addS m ↔ y ∈ m ∨ y ∈ xs
  | [], _, _ => by simp
  | x :: xs, m, y => by
    rw [List.foldl_cons, adds_mem, List.mem_cons]
    unfold addS
    split
    · rename_i h
      exact ⟨fun z => z.elim .inl fun z => .inr (.inr z), fun z => z.elim .inl fun z => z.elim (fun e => .inl (e ▸ h)) .inr⟩
    · rw [List.mem_cons]
      exact ⟨fun z => z.elim (fun z => z.elim (fun e => .inr (.inl e)) .inl) fun z => .inr (.inr z), fun z => z.elim (fun z => .inl (.inr z)) fun z => z.elim (fun e => .inl (.inl e)) .inr⟩
theorem adds_len : ∀ (xs m : List Str), (xs.foldl addS m).length ≤ m.length + xs.length
  | [], _ => Nat.le_refl _
  | x :: xs, m => by
    rw [List.foldl_cons, List.length_cons]
    have := adds_len xs (addS m x)
    have := addS_len m x
    omega
def kindsG (b : Bk) : List Str := sortS ((b.cs.map (·.k)).foldl addS [])
theorem kindsG_mem {b : Bk} {k : Str} : k ∈ kindsG b ↔ ∃ c ∈ b.cs, c.k = k := by
  unfold kindsG
  rw [(sortS_perm _).mem_iff, adds_mem, List.mem_map]
  simp
end SF
set_option Elab.async false
set_option linter.all false
set_option maxRecDepth 100000
namespace SF
open PySem PySem.Spec L2 TL
open PyProof.Rows hiding St
def freeP (b : Bk) (xs : List Str) (t : List Str) : Bool := !(rowsF b f0 xs).any fun r => r.any fun c => (worthS t c).isNone
end SF
set_option Elab.async false
set_option linter.all false
set_option maxRecDepth 100000
namespace SF
open PySem PySem.Spec L2 TL
open PyProof.Rows hiding St
end SF
set_option Elab.async false
set_option linter.all false
set_option maxRecDepth 100000
namespace SF
open PySem PySem.Spec L2 TL
open PyProof.Rows hiding St
structure CN (c : Ch) : Prop where
  gh : GH c
  nm : ∀ p ∈ c, Nm p.1 ∧ Nm p.2
theorem BL.cn {b : Bk} (B : BL b) (ys : List Str) (a : Str) : CN (chainF b f0 ys a) :=
  ⟨B.gc.gh ys a, fun p hp => chain_vals (P := fun p => Nm p.1 ∧ Nm p.2) (fun c hc p hp => ⟨nm_all _ (List.mem_append_right _ (B.cl c hc).k), nm_all _ (List.mem_append_left _ (List.mem_append_right _ ((B.cl c hc).gv p hp)))⟩) (fun _ p h => by cases h) a p hp⟩
end SF
set_option Elab.async false
set_option linter.all false
set_option maxRecDepth 100000
namespace SF
open PySem PySem.Spec L2 TL
open PyProof.Rows hiding St
theorem lc2_img {α : Type} {F : α → T} {r : α → List T} {g : GT} {Ft : FT} {Fi1 : FI} {g1 : GT} {Ft1 : FT} {Fe : FE} {vs1 vs : List Nat} {τ : Fr} {S : Sto} : ∀ {l : List α},
    (∀ a ∈ l, ∃ s ys, g (F a) = some s ∧ slotsIn s vs = true ∧ Ft (setsT τ s) S = .ok true S ∧ Fi1 (setsT τ s) S = .ok ys S ∧ ys.length ≤ 1000 ∧ lcF g1 Ft1 Fe vs1 (wipeT (setsT τ s) vs1) ys S = .ok (r a) S) →
    lc2F g Ft Fi1 g1 Ft1 Fe vs1 vs τ (l.map F) S = .ok (l.flatMap r) S
  | [], _ => rfl
  | x :: xs, h => by
    obtain ⟨s, ys, h1, h2, h3, h4, h5, h6⟩ := h x List.mem_cons_self
    have ih := lc2_img fun y hy => h y (List.mem_cons_of_mem _ hy)
    simp only [List.map_cons, lc2F, h1, h2, h3, h4, h5, h6, ih, if_true, bind_ok, nox_ok, List.flatMap_cons]
def kindsU (c d : Ch) : List Str := sortS (((c ++ d).map (·.1)).foldl addS [])
def ltS (a b : Str) : Bool := decide (a.cps.toList < b.cps.toList)
def twosU (ks : List Str) : List (List Str) := ks.flatMap fun a => (ks.filter fun b => ltS a b).map fun b => [a, b]
def candU (ks : List Str) : List (List Str) := ks.map (fun a => [a]) ++ twosU ks
def leastU (c d : Ch) : Option (List Str) := (candU (kindsU c d)).find? fun t => !decide (worthS t c = worthS t d)
def opttS : Option (List Str) → T
  | some t => tS t
  | none => .non
theorem kindsU_len (c d : Ch) : (kindsU c d).length ≤ c.length + d.length := by
  have := adds_len ((c ++ d).map (·.1)) []
  unfold kindsU
  rw [(sortS_perm _).length_eq]
  simp only [List.length_map, List.length_append, List.length_nil] at this
  omega
theorem twosU_len {ks : List Str} (h : ks.length ≤ 24) : (twosU ks).length ≤ 576 := by
  have h1 : ∀ l : List Str, (l.flatMap fun a => (ks.filter fun b => ltS a b).map fun b => [a, b]).length ≤ l.length * 24 := fun l => by
    induction l with
    | nil => exact Nat.zero_le _
    | cons a l ih =>
      rw [List.flatMap_cons, List.length_append, List.length_map, List.length_cons]
      have := List.length_filter_le (fun b => ltS a b) ks
      omega
  have := h1 ks
  unfold twosU
  omega
theorem worthS_mem {t : List Str} {v : Str} : ∀ {c : Ch}, worthS t c = some v → ∃ p ∈ c, p.2 = v
  | [], h => nomatch h
  | p :: c, h => by
    unfold worthS at h
    by_cases e : p.1 ∈ t
    · rw [if_pos e] at h
      exact ⟨p, List.mem_cons_self, Option.some.inj h⟩
    · rw [if_neg e] at h
      obtain ⟨q, hq, e2⟩ := worthS_mem h
      exact ⟨q, List.mem_cons_of_mem _ hq, e2⟩
theorem pl_worth {t : List Str} {c : Ch} (h : ∀ p ∈ c, So p.2) : pl 60 (optT (worthS t c)) = true := by
  cases e : worthS t c with
  | none => rfl
  | some v =>
    obtain ⟨p, hp, rfl⟩ := worthS_mem e
    exact h p hp
theorem optT_inj {a b : Option Str} : optT a = optT b ↔ a = b := by
  cases a <;> cases b <;> simp [optT]
theorem worth_ne {t : List Str} {c d : Ch} (h : ∀ p ∈ c, So p.2) (g : ∀ p ∈ d, So p.2) (S : Sto) : TL.neT S (optT (worthS t c)) (optT (worthS t d)) = some (.bl (!decide (worthS t c = worthS t d))) :=
  ne_pl (pl_worth h) (pl_worth g) (by rw [decide_eq_true_eq, optT_inj]) S
theorem least_apart_ok {c d : Ch} (hc : c.length ≤ 12) (hd : d.length ≤ 12) (sc : ∀ p ∈ c, So p.2) (sd : ∀ p ∈ d, So p.2) : Pu m_least_apart [chT c, chT d] (opttS (leastU c d)) := by
  intro S
  have hk : (kindsU c d).length ≤ 24 := by have := kindsU_len c d; omega
  have hz := adds_len ((c ++ d).map (·.1)) []
  simp only [List.length_map, List.length_append, List.length_nil] at hz
  have w := worth_ok
  unfold m_least_apart b_least_apart
  generalize m_worth_among = f1 at w ⊢
  have z1 : (c ++ d).length + 1 < scanBound := Nat.lt_of_le_of_lt (show _ ≤ 25 by rw [List.length_append]; omega) (by decide)
  have z2 : (c.map pT).length + (d.map pT).length ≤ sizeLine := small16 (by simp only [List.length_map]; omega)
  have za : addT S (.tup (c.map pT)) (.tup (d.map pT)) = some (.tup ((c ++ d).map pT)) := by
    rw [List.map_append]
    exact if_pos z2
  simp_arith [chT, za, fSortX, fSt, List.length_map, z1]
  rw [st_img (r := fun p : Str × Str => p.1) fun p hp => ⟨_, rfl, slots1 _ _, rfl, by simp_arith [pT]⟩]
  simp_arith [show (((c ++ d).map (·.1)).foldl addS []).length < 64 by omega]
  rw [show sortS (((c ++ d).map fun p => p.1).foldl addS []) = kindsU c d from rfl]
  unfold leastU
  generalize kindsU c d = ks at hk ⊢
  have l1 : ks.length ≤ 1000 := by omega
  have l2 : ks.length ≤ sizeLine := small16 (by omega)
  simp_arith [List.length_map, l2]
  rw [lc_each1 (r := fun a => tS [a]) fun a ha => ⟨_, rfl, slots1 _ _, rfl, by simp_arith []; rfl⟩]
  simp_arith [fLc2, List.length_map, l1]
  rw [lc2_img (r := fun a => ((ks.filter fun b => ltS a b).map fun b => tS [a, b])) fun a ha => ⟨_, ks.map T.str, rfl, rfl, rfl, by simp_arith [fiL], by rw [List.length_map]; exact l1, by
    rw [lc_img (P := fun b => ltS a b) (r := fun b => tS [a, b]) fun b hb => ⟨_, rfl, slots1 _ _, by simp_arith [ltT, ltS], fun _ => by simp_arith []; rfl⟩]⟩]
  have e2 : (ks.flatMap fun a => (ks.filter fun b => ltS a b).map fun b => tS [a, b]) = (twosU ks).map tS := by
    unfold twosU
    rw [List.map_flatMap]
    congr 1
    funext a
    rw [List.map_map]
    rfl
  have e1 : (ks.map fun a => tS [a]) = (ks.map fun a => [a]).map tS := by rw [List.map_map]; rfl
  have t2 := twosU_len hk
  rw [e2, e1]
  have za2 : ∀ S, addT S (.lst ((ks.map fun a => [a]).map tS)) (.lst ((twosU ks).map tS)) = some (.lst ((candU ks).map tS)) := fun S => by
    have z : ((ks.map fun a => [a]).map tS).length + ((twosU ks).map tS).length ≤ sizeLine := by
      simp only [List.length_map]
      exact Nat.le_trans (show _ ≤ 1000 by omega) (by decide)
    have q : addT S (.lst ((ks.map fun a => [a]).map tS)) (.lst ((twosU ks).map tS)) = if ((ks.map fun a => [a]).map tS).length + ((twosU ks).map tS).length ≤ sizeLine then some (.lst ((ks.map fun a => [a]).map tS ++ (twosU ks).map tS)) else none := rfl
    rw [q, if_pos z, ← List.map_append]
    rfl
  simp_arith [za2]
  generalize hF : forF _ _ _ _ _ = R2
  have h : ∀ (l : List (List Str)) (x2 x3 x4 x5 : Option T), (∃ y, forF (sName 5) (bIf (fTest (fBin neT (fCall f1 (fCons (fVar 0) (fCons (fVar 5) fNil))) (fCall f1 (fCons (fVar 1) (fCons (fVar 5) fNil))))) (bRet (fVar 5)) bNext) (l.map tS) [some (chT c), some (chT d), x2, x3, x4, x5, none, none, none] S = .nx [some (chT c), some (chT d), x2, x3, x4, y, none, none, none] S ∧ (l.find? fun t => !decide (worthS t c = worthS t d)) = none) ∨
      ∃ t, forF (sName 5) (bIf (fTest (fBin neT (fCall f1 (fCons (fVar 0) (fCons (fVar 5) fNil))) (fCall f1 (fCons (fVar 1) (fCons (fVar 5) fNil))))) (bRet (fVar 5)) bNext) (l.map tS) [some (chT c), some (chT d), x2, x3, x4, x5, none, none, none] S = .rt (tS t) S ∧ (l.find? fun t => !decide (worthS t c = worthS t d)) = some t := fun l => by
    induction l with
    | nil => exact fun x2 x3 x4 x5 => .inl ⟨x5, rfl, rfl⟩
    | cons t l ih =>
      intro x2 x3 x4 x5
      have w1 := w t c S
      have w2 := w t d S
      by_cases h : worthS t c = worthS t d
      · have n1 : ∀ S, TL.neT S (optT (worthS t c)) (optT (worthS t d)) = some (.bl false) := fun S => by rw [worth_ne sc sd, decide_eq_true h]; rfl
        rcases ih x2 x3 x4 (some (tS t)) with ⟨y, e, z⟩ | ⟨u, e, z⟩
        · exact .inl ⟨y, by simp_arith [forF, w1, w2, n1]; exact e, by rw [List.find?_cons, decide_eq_true h]; exact z⟩
        · exact .inr ⟨u, by simp_arith [forF, w1, w2, n1]; exact e, by rw [List.find?_cons, decide_eq_true h]; exact z⟩
      · have n1 : ∀ S, TL.neT S (optT (worthS t c)) (optT (worthS t d)) = some (.bl true) := fun S => by rw [worth_ne sc sd, decide_eq_false h]; rfl
        exact .inr ⟨t, by simp_arith [forF, w1, w2, n1], by rw [List.find?_cons, decide_eq_false h]; rfl⟩
  rcases h (candU ks) (some (.lst (ks.map T.str))) (some (.lst ((ks.map fun a => [a]).map tS))) (some (.lst ((twosU ks).map tS))) none with ⟨y, e, z⟩ | ⟨t, e, z⟩
  · rw [show R2 = _ from hF.symm.trans e, z]
    rfl
  · rw [show R2 = _ from hF.symm.trans e, z]
    rfl
end SF
set_option Elab.async false
set_option linter.all false
set_option maxRecDepth 100000
namespace SF
open PySem PySem.Spec L2 TL
open PyProof.Rows hiding St
end SF
set_option Elab.async false
set_option linter.all false
set_option maxRecDepth 100000
namespace SF
open PySem PySem.Spec L2 TL
open PyProof.Rows hiding St
end SF
set_option Elab.async false
set_option linter.all false
set_option maxRecDepth 100000
namespace SF
open PySem PySem.Spec L2 TL
open PyProof.Rows hiding St
end SF
set_option Elab.async false
set_option linter.all false
set_option maxRecDepth 100000
namespace SF
open PySem PySem.Spec L2 TL
open PyProof.Rows hiding St
def K7 : List Str := ["h", "ha", "hb", "i", "j"]
def V7 : List Str := ["u", "v", "plain"]
structure G7 (c : Ch) : Prop where
  nd : (c.map (·.1)).Nodup
  ks : ∀ p ∈ c, p.1 ∈ K7
  vs : ∀ p ∈ c, p.2 ∈ V7
theorem nm7 : ∀ x ∈ K7 ++ V7, Nm x := all_of ⟨fun _ => by kernel_rfl, fun _ => by kernel_rfl, fun _ => by kernel_rfl, fun _ => by kernel_rfl, fun _ => by kernel_rfl, fun _ => by kernel_rfl, fun _ => by kernel_rfl, fun _ => by kernel_rfl, trivial⟩
theorem so7 : ∀ x ∈ K7 ++ V7, So x := all_of ⟨by kernel_rfl, by kernel_rfl, by kernel_rfl, by kernel_rfl, by kernel_rfl, by kernel_rfl, by kernel_rfl, by kernel_rfl, trivial⟩
theorem nd_K7 : K7.Nodup := by decide +kernel
theorem G7.ci {c : Ch} (h : G7 c) : CI K7 c := ⟨h.nd, h.ks⟩
theorem G7.gh {c : Ch} (h : G7 c) : GH c := ⟨Nat.le_trans h.ci.len (by decide), fun p hp => ⟨so7 _ (List.mem_append_left _ (h.ks p hp)), so7 _ (List.mem_append_right _ (h.vs p hp))⟩, h.nd⟩
theorem G7.cn {c : Ch} (h : G7 c) : CN c := ⟨h.gh, fun p hp => ⟨nm7 _ (List.mem_append_left _ (h.ks p hp)), nm7 _ (List.mem_append_right _ (h.vs p hp))⟩⟩
theorem G7.erase {c : Ch} (h : G7 c) (i : Nat) : G7 (c.eraseIdx i) :=
  ⟨h.nd.sublist ((List.eraseIdx_sublist c i).map _), fun p hp => h.ks p ((List.eraseIdx_sublist c i).subset hp), fun p hp => h.vs p ((List.eraseIdx_sublist c i).subset hp)⟩
theorem G7.set {c : Ch} (h : G7 c) {i : Nat} {p : Str × Str} (hi : c[i]? = some p) {v : Str} (hv : v ∈ V7) : G7 (c.set i (p.1, v)) := by
  have hk : (c.set i (p.1, v)).map (·.1) = c.map (·.1) := by
    rw [List.map_set]
    have hl := List.getElem?_eq_some_iff.mp hi
    have e : (c.map (·.1))[i]'(by rw [List.length_map]; exact hl.1) = p.1 := by simp [hl.2]
    show (c.map (·.1)).set i p.1 = _
    rw [← e, List.set_getElem_self]
  refine ⟨by rw [hk]; exact h.nd, fun q hq => ?_, fun q hq => ?_⟩
  · have : q.1 ∈ (c.set i (p.1, v)).map (·.1) := List.mem_map_of_mem hq
    rw [hk] at this
    obtain ⟨r, hr, e⟩ := List.mem_map.mp this
    rw [← e]
    exact h.ks r hr
  · rcases List.mem_or_eq_of_mem_set hq with q1 | q1
    · exact h.vs q q1
    · rw [q1]; exact hv
end SF
set_option Elab.async false
set_option linter.all false
set_option maxRecDepth 100000
namespace SF
open PySem PySem.Spec L2 TL
open PyProof.Rows hiding St
abbrev wsB (b : Bk) : List Str := b.cs.map (·.w)
theorem sign_app (b : Bk) (xs ys : List Str) : signS b (xs ++ ys) = signS b xs ++ signS b ys := List.filter_append ..
theorem sign_word {b : Bk} {w : Str} (h : w ∈ wsB b) : signS b [w] = [] := by
  unfold signS
  rw [List.filter_cons_of_neg (by
    rw [word_iff] at h
    cases e : findC b.cs w with
    | none => rw [e] at h; cases h
    | some c => simp), List.filter_nil]
theorem sign_ins {b : Bk} {w : Str} (h : w ∈ wsB b) (xs : List Str) (i : Nat) : signS b (xs.take i ++ [w] ++ xs.drop i) = signS b xs := by
  rw [sign_app, sign_app, sign_word h, List.append_nil, ← sign_app, List.take_append_drop]
theorem sign_at {b : Bk} {xs : List Str} {i : Nat} {x : Str} (h : xs[i]? = some x) (hx : x ∈ wsB b) : signS b xs = signS b (xs.take i ++ xs.drop (i + 1)) := by
  have e := split_at h
  have : signS b xs = signS b (xs.take i ++ ([x] ++ xs.drop (i + 1))) := congrArg (signS b) e
  rw [this, sign_app, sign_app, sign_word hx, List.nil_append, ← sign_app]
theorem sign_erase {b : Bk} {xs : List Str} {i : Nat} {x : Str} (h : xs[i]? = some x) (hx : x ∈ wsB b) : signS b (xs.eraseIdx i) = signS b xs := by
  rw [sign_at h hx, List.eraseIdx_eq_take_drop_succ]
theorem sign_set {b : Bk} {xs : List Str} {i : Nat} {x w : Str} (h : xs[i]? = some x) (hx : x ∈ wsB b) (hw : w ∈ wsB b) : signS b (xs.set i w) = signS b xs := by
  have hi := (List.getElem?_eq_some_iff.mp h).1
  have h2 : (xs.set i w)[i]? = some w := by rw [List.getElem?_set_self hi]
  rw [sign_at h hx, sign_at h2 hw, List.take_set_of_le (Nat.le_refl _), List.drop_set_of_lt (Nat.lt_succ_self _)]
structure NearR (b : Bk) (xs ys : List Str) : Prop where
  sg : signS b ys = signS b xs
  it : ∀ y ∈ ys, y ∈ xs ∨ y ∈ wsB b
  len : ys.length ≤ xs.length + 1
theorem NearR.xl {b : Bk} {xs ys : List Str} (N : NearR b xs ys) (X : XL b xs) (h : xs.length ≤ 150) : XL b ys :=
  ⟨by have := N.len; omega, fun y hy => (N.it y hy).elim (X.it y) .inl⟩
theorem near_ins {b : Bk} {w : Str} (h : w ∈ wsB b) (xs : List Str) (i : Nat) : NearR b xs (xs.take i ++ [w] ++ xs.drop i) := by
  refine ⟨sign_ins h xs i, fun y hy => ?_, ?_⟩
  · rcases List.mem_append.mp hy with z | z
    · rcases List.mem_append.mp z with z | z
      · exact .inl (List.mem_of_mem_take z)
      · exact .inr (by rw [List.mem_singleton.mp z]; exact h)
    · exact .inl (List.mem_of_mem_drop z)
  · simp
    omega
theorem near_erase {b : Bk} {xs : List Str} {i : Nat} {x : Str} (h : xs[i]? = some x) (hx : x ∈ wsB b) : NearR b xs (xs.eraseIdx i) :=
  ⟨sign_erase h hx, fun y hy => .inl (List.mem_of_mem_eraseIdx hy), Nat.le_trans (List.length_eraseIdx_le _ _) (Nat.le_succ _)⟩
theorem near_set {b : Bk} {xs : List Str} {i : Nat} {x w : Str} (h : xs[i]? = some x) (hx : x ∈ wsB b) (hw : w ∈ wsB b) : NearR b xs (xs.set i w) :=
  ⟨sign_set h hx hw, fun y hy => by
    rcases List.mem_or_eq_of_mem_set hy with z | z
    · exact .inl z
    · exact .inr (by rw [z]; exact hw), by rw [List.length_set]; exact Nat.le_succ _⟩
theorem near_move {b : Bk} {xs : List Str} {i : Nat} {x : Str} (h : xs[i]? = some x) (hx : x ∈ wsB b) (j : Nat) : NearR b xs ((xs.eraseIdx i).take j ++ [x] ++ (xs.eraseIdx i).drop j) := by
  have hi := (List.getElem?_eq_some_iff.mp h).1
  have n1 := near_ins hx (xs.eraseIdx i) j
  have n2 := near_erase h hx
  refine ⟨n1.sg.trans n2.sg, fun y hy => (n1.it y hy).elim (n2.it y) .inr, ?_⟩
  have := n1.len
  rw [List.length_eraseIdx_of_lt hi] at this
  omega
theorem near_swap {b : Bk} {xs : List Str} {i j : Nat} {x y : Str} (hi : xs[i]? = some x) (hj : xs[j]? = some y) (hx : x ∈ wsB b) (hy : y ∈ wsB b) : NearR b xs ((xs.set i y).set j x) := by
  have n1 := near_set hi hx hy
  have hj2 : ∃ z, (xs.set i y)[j]? = some z ∧ z ∈ wsB b := by
    by_cases e : i = j
    · subst e
      exact ⟨y, List.getElem?_set_self (List.getElem?_eq_some_iff.mp hi).1, hy⟩
    · exact ⟨y, by rw [List.getElem?_set_ne e]; exact hj, hy⟩
  obtain ⟨z, hz, hzw⟩ := hj2
  have n2 := near_set hz hzw hx
  exact ⟨n2.sg.trans n1.sg, fun u hu => (n2.it u hu).elim (n1.it u) .inr, by rw [List.length_set, List.length_set]; exact Nat.le_succ _⟩
theorem ins_at {xs : List T} {i : Nat} (hi : i ≤ 1000) (hl : xs.length ≤ 200) (y : T) (S : Sto) : opIns S xs [.int (i : Nat), y] = some (.non, xs.take i ++ [y] ++ xs.drop i) := by
  have c : (decide ((0 : Int) ≤ (i : Nat)) && (decide ((i : Int) < 2 ^ 62) && decide (xs.length < sizeLine))) = true := by
    rw [decide_eq_true (show (0 : Int) ≤ (i : Nat) by omega), decide_eq_true (show (i : Int) < 2 ^ 62 by omega), decide_eq_true (small16' hl)]
    rfl
  unfold opIns
  simp only [c, if_true, Int.toNat_natCast]
theorem pop_at {xs : List T} {i : Nat} {x : T} (h : xs[i]? = some x) (S : Sto) (hl : xs.length ≤ 200) : opPop S xs [.int (i : Nat)] = some (x, xs.eraseIdx i) := by
  have hi := (List.getElem?_eq_some_iff.mp h).1
  have e : seqIndex? (i : Int) xs.length = some i := by
    unfold seqIndex?
    rw [if_neg (show ¬ (i : Int) < 0 by omega)]
    simp only [Int.toNat_natCast]
    rw [if_pos (by simp; omega)]
  have c : (decide (-(2 ^ 62) ≤ (i : Int)) && decide ((i : Int) < 2 ^ 62)) = true := by
    rw [decide_eq_true (show -(2 ^ 62) ≤ (i : Int) by omega), decide_eq_true (show (i : Int) < 2 ^ 62 by omega)]
    rfl
  unfold opPop
  simp only [c, if_true, e, Option.bind_some, h, Option.map_some]
theorem set_lS2 (ls cs : List Int) (a : Nat) (R J : Sto) {ts : List T} {i : Nat} (hi : i < ts.length) (v : T) : setT (S2 ls cs a (R ++ .lst ts :: J)) (.ref (R.length + 2)) (.int (i : Nat)) v = some (S2 ls cs a (R ++ .lst (ts.set i v) :: J)) := by
  have e1 : (S2 ls cs a (R ++ .lst ts :: J))[R.length + 2]? = some (T.lst ts) := by
    show (R ++ T.lst ts :: J)[R.length]? = _
    exact sto_end R _ J
  have e2 : ixN ts.length (i : Nat) = some i := by
    unfold ixN
    simp [hi]
  unfold setT
  simp only [e1, e2, Option.map_some, set_S2]
theorem ix_lS2 (ls cs : List Int) (a : Nat) (R J : Sto) {ts : List T} {i : Nat} {t : T} (h : ts[i]? = some t) : ixT (S2 ls cs a (R ++ .lst ts :: J)) (.ref (R.length + 2)) (.int (i : Nat)) = some t := by
  have e1 : (S2 ls cs a (R ++ .lst ts :: J))[R.length + 2]? = some (T.lst ts) := by
    show (R ++ T.lst ts :: J)[R.length]? = _
    exact sto_end R _ J
  have hi := List.getElem?_eq_some_iff.mp h
  have d : dctT (S2 ls cs a (R ++ .lst ts :: J)) (.ref (R.length + 2)) = none := by
    unfold dctT
    simp only [e1]
  have q : seqL (S2 ls cs a (R ++ .lst ts :: J)) (.ref (R.length + 2)) = some ts := by
    unfold seqL
    simp only [e1]
  unfold ixT
  rw [d]
  simp only [q, Option.bind_some]
  have := ix_lst hi.1 []
  rw [hi.2] at this
  exact this
end SF
set_option Elab.async false
set_option linter.all false
set_option maxRecDepth 100000
namespace SF
open PySem PySem.Spec L2 TL
open PyProof.Rows hiding St
theorem at_S2 (ls cs : List Int) (a : Nat) (R J : Sto) (c : T) : (S2 ls cs a (R ++ c :: J))[R.length + 2]? = some c := by
  show (R ++ c :: J)[R.length]? = _
  exact sto_end R _ J
theorem lstC_S2 (ls cs : List Int) (a : Nat) (R J : Sto) (ts : List T) : lstC (S2 ls cs a (R ++ .lst ts :: J)) (.ref (R.length + 2)) = some (R.length + 2, ts) := lstC_ref (at_S2 ls cs a R J _)
theorem len_S2 (ls cs : List Int) (a : Nat) (R J : Sto) (ts : List T) : lenT (S2 ls cs a (R ++ .lst ts :: J)) [.ref (R.length + 2)] = some (.int ts.length) := len_ref (at_S2 ls cs a R J _)
theorem ix_nats {l : List Nat} {r : Nat} (h : r < l.length) (S : Sto) : ixT S (.lst (natsT l)) (.int (r : Nat)) = some (.int (l[r] : Nat)) := by
  rw [ix_lst (by rw [List.length_map]; exact h), List.getElem_map]
theorem sub_int (i j : Int) (S : Sto) : subT S (.int i) (.int j) = some (.int (i - j)) := rfl
theorem max_int (i j : Int) (S : Sto) : maxT S [.int i, .int j] = some (.int (if j > i then j else i)) := rfl
theorem near_dr {cs : List Int} (hc : cs ≠ []) {b : Bk} (B : BL b) {xs : List Str} (X : XL b xs) (hxs : xs.length ≤ 150) : Dr cs 10 (fun t => ∃ ys, XL b ys ∧ NearR b xs ys ∧ t = tS ys) (m__law_near [.ref 1, bT b, tS xs]) := by
  unfold m__law_near
  refine db_gc (fun R ls a hl ha => ?_) fun t ht => by obtain ⟨xs, _, _, rfl⟩ := ht; exact nr_tS xs
  have n8 := B.n8
  have n0 : 0 < b.cs.length := List.length_pos_iff.mpr B.n0
  have i2 : ∀ S, ixT S (bT b) (.int 2) = some (.tup (b.cs.map cT)) := fun S => rfl
  have dr := fun (R : Sto) {m : Int} (hm : 0 < m ∧ m < 1073741824) => draw_dq (R := R) hc hm
  suffices h : ∃ ys ls' a' J, body _ _ b__law_near [.ref 1, bT b, tS xs] (S2 ls cs a R) = .ok (tS ys) (S2 ls' cs a' (R ++ J)) ∧ NearR b xs ys ∧ ls'.length = cs.length ∧ a' ≤ a + 10 by
    obtain ⟨ys, ls', a', J, h1, h2, h3, h4⟩ := h
    exact ⟨_, ls', a', J, h1, ⟨ys, h2.xl X hxs, h2, rfl⟩, h3, h4⟩
  have insA : ∀ {xs : List T} {i : Nat} (_ : i ≤ 1000) (_ : xs.length ≤ 200) (y : T) (S : Sto), opIns S xs [.int (i : Nat), y] = some (.non, xs.take i ++ [y] ++ xs.drop i) := fun {xs i} h1 h2 y S => ins_at h1 h2 y S
  have popA : ∀ {xs : List T} {i : Nat} {x : T} (_ : xs[i]? = some x) (S : Sto) (_ : xs.length ≤ 200), opPop S xs [.int (i : Nat)] = some (x, xs.eraseIdx i) := fun {xs i x} h S hl => pop_at h S hl
  unfold b__law_near
  generalize m__law_draw = f1 at dr ⊢
  generalize opIns = oI at insA ⊢
  generalize opPop = oP at popA ⊢
  have lsT : ∀ S, listT S [tS xs] = some (.lst (xs.map T.str)) := fun S => list_tup _ S
  simp_arith [i2, List.length_map, small16 (show b.cs.length ≤ 200 by omega), lsT]
  rw [lc_each1 (r := fun c : Code => T.str c.w) fun c hcc => ⟨_, rfl, slots1 _ _, rfl, by simp_arith [cT]⟩]
  have ew : (b.cs.map fun c => T.str c.w) = (wsB b).map T.str := by rw [List.map_map]; rfl
  have hz : (numbT (xs.map T.str)).length ≤ sizeLine := small16 (by simp [numbT]; omega)
  simp_arith [ew, lsT, S2_app, S2_len, small16 (show 2 ≤ 200 by omega), lstC_S2, hz]
  rw [numb_zip, lcC_img (P := fun p : Str × Nat => decide (p.1 ∈ wsB b)) (r := fun p => T.int (p.2 : Nat)) (at_S2 _ _ _ _ _ _) fun p hp => ⟨_, rfl, rfl, by simp_arith [], fun _ => by simp_arith []⟩]
  have eN : ((xs.zipIdx.filter fun p => decide (p.1 ∈ wsB b)).map fun p => T.int (p.2 : Nat)) = natsT (nums (fun x => decide (x ∈ wsB b)) xs) := by
    unfold nums natsT
    rw [List.map_map]
    rfl
  have hN : ∀ i ∈ nums (fun x => decide (x ∈ wsB b)) xs, ∃ x, xs[i]? = some x ∧ x ∈ wsB b := fun i hi => by
    obtain ⟨x, hx, hp⟩ := mem_nums.mp hi
    exact ⟨x, hx, of_decide_eq_true hp⟩
  have lN : (nums (fun x => decide (x ∈ wsB b)) xs).length ≤ 200 := Nat.le_trans (nums_len _ _) (by omega)
  simp_arith [eN, len_S2, List.length_map, add_int]
  generalize nums (fun x => decide (x ∈ wsB b)) xs = N at hN lN ⊢
  obtain ⟨_, ls1, a1, d1, ⟨r1, rfl, hr1⟩, l1, b1⟩ := dr (R ++ [.lst (xs.map T.str)]) (m := (xs.length : Int) + 1) (by omega) ls a hl (by omega)
  obtain ⟨_, ls2, a2, d2, ⟨r2, rfl, hr2⟩, l2, b2⟩ := dr (R ++ [.lst (xs.map T.str)]) (m := 5) (by decide) ls1 a1 l1 (by omega)
  have d1 : f1 [.ref 1, .int ((xs.length : Int) + 1)] (S2 ls cs a (R ++ [.lst (xs.map T.str)])) = .ok (.int r1) (S2 ls1 cs a1 (R ++ [.lst (xs.map T.str)])) := d1
  simp_arith [d1, d2, eq_nats_nil]
  have wl : ∀ S, lenT S [.lst ((wsB b).map T.str)] = some (.int b.cs.length) := fun S => by rw [len_lst, List.length_map, List.length_map]
  have xl200 : (xs.map T.str).length ≤ 200 := by rw [List.length_map]; omega
  -- a word anywhere
  have word : ∀ (J : Sto) (ls : List Int) (a : Nat), ls.length = cs.length → a + 1 ≤ 2 ^ 60 → ∃ w ls' a', w ∈ wsB b ∧ (∃ r : Nat, f1 [.ref 1, .int (b.cs.length : Nat)] (S2 ls cs a J) = .ok (.int r) (S2 ls' cs a' J) ∧ ∀ S, ixT S (.lst ((wsB b).map T.str)) (.int r) = some (.str w)) ∧ ls'.length = cs.length ∧ a' ≤ a + 1 := fun J ls a hl ha => by
    obtain ⟨_, ls3, a3, d3, ⟨r3, rfl, hr3⟩, l3, b3⟩ := dr J (m := (b.cs.length : Int)) (by omega) ls a hl ha
    obtain ⟨w, hw, ex⟩ := pick (wsB b) (r := r3) (by rw [List.length_map]; omega)
    exact ⟨w, ls3, a3, hw, ⟨r3, d3, ex⟩, l3, b3⟩
  have insert : (N = [] ∨ r2 = 0) → ∃ w ls' a', w ∈ wsB b ∧ (∃ r : Nat, f1 [.ref 1, .int (b.cs.length : Nat)] (S2 ls2 cs a2 (R ++ [.lst (xs.map T.str)])) = .ok (.int r) (S2 ls' cs a' (R ++ [.lst (xs.map T.str)])) ∧ ∀ S, ixT S (.lst ((wsB b).map T.str)) (.int r) = some (.str w)) ∧ ls'.length = cs.length ∧ a' ≤ a2 + 1 := fun _ => word _ ls2 a2 l2 (by omega)
  have e1 : ∀ w : Str, (xs.map T.str).take r1 ++ [T.str w] ++ (xs.map T.str).drop r1 = (xs.take r1 ++ [w] ++ xs.drop r1).map T.str := fun w => by simp
  by_cases hn : N = []
  · obtain ⟨w, ls3, a3, hw, ⟨r3, d3, ex⟩, l3, b3⟩ := insert (.inl hn)
    have io := insA (i := r1) (by omega) xl200 (.str w)
    rw [e1] at io
    simp_arith [fCM, lstD_some, cmEnd_some, refD_ref, hn, wl, lst_S2, d3, ex, io, set_S2, tup_S2]
    exact ⟨_, ls3, a3, _, rfl, near_ins hw xs r1, l3, by omega⟩
  · by_cases h0 : r2 = 0
    · obtain ⟨w, ls3, a3, hw, ⟨r3, d3, ex⟩, l3, b3⟩ := insert (.inr h0)
      have io := insA (i := r1) (by omega) xl200 (.str w)
      rw [e1] at io
      subst h0
      simp_arith [fCM, lstD_some, cmEnd_some, refD_ref, hn, wl, lst_S2, d3, ex, io, set_S2, tup_S2, Int.natCast_zero]
      exact ⟨_, ls3, a3, _, rfl, near_ins hw xs r1, l3, by omega⟩
    · have hp : 0 < N.length := List.length_pos_iff.mpr hn
      have h0' : ¬ ((r2 : Int) = 0) := by omega
      obtain ⟨_, ls3, a3, d3, ⟨r3, rfl, hr3⟩, l3, b3⟩ := dr (R ++ [.lst (xs.map T.str)]) (m := (N.length : Int)) (by omega) ls2 a2 l2 (by omega)
      have h3 : r3 < N.length := by omega
      obtain ⟨x, hx, hxw⟩ := hN N[r3] (List.getElem_mem h3)
      have hi := (List.getElem?_eq_some_iff.mp hx).1
      have hxT : (xs.map T.str)[N[r3]]? = some (.str x) := by rw [List.getElem?_map, hx]; rfl
      have ixN := fun S => ix_nats h3 S
      generalize N[r3] = i0 at hx hi hxT ixN
      have e0 : ∀ (w : Str), (xs.map T.str).set i0 (.str w) = (xs.set i0 w).map T.str := fun w => by rw [List.map_set]
      have ee : (xs.map T.str).eraseIdx i0 = (xs.eraseIdx i0).map T.str := by rw [List.eraseIdx_eq_take_drop_succ, List.eraseIdx_eq_take_drop_succ, List.map_append, List.map_take, List.map_drop]
      have lenN : ∀ S, lenT S [.lst (natsT N)] = some (.int N.length) := fun S => by rw [len_lst, List.length_map]
      have po := popA hxT
      rw [ee] at po
      by_cases w1 : r2 = 1
      · subst w1
        simp_arith [fCM, lstD_some, cmEnd_some, refD_ref, hn, h0', lenN, d3, ixN, lst_S2, po _ xl200, set_S2, tup_S2, Int.natCast_one]
        exact ⟨_, ls3, a3, _, rfl, near_erase hx hxw, l3, by omega⟩
      · have w1' : ¬ ((r2 : Int) = 1) := by omega
        by_cases w2 : r2 = 2
        · subst w2
          obtain ⟨w, ls4, a4, hw, ⟨r4, d4, ex⟩, l4, b4⟩ := word (R ++ [.lst (xs.map T.str)]) ls3 a3 l3 (by omega)
          have st := set_lS2 ls4 cs a4 R [] (ts := xs.map T.str) (i := i0) (by rw [List.length_map]; exact hi) (.str w)
          rw [e0] at st
          simp_arith [bStore, hn, h0', w1', lenN, d3, ixN, wl, d4, ex, st, tup_S2]
          exact ⟨_, ls4, a4, _, rfl, near_set hx hxw hw, l4, by omega⟩
        · have w2' : ¬ ((r2 : Int) = 2) := by omega
          by_cases w3 : r2 = 3
          · subst w3
            obtain ⟨_, ls4, a4, d4, ⟨r4, rfl, hr4⟩, l4, b4⟩ := dr (R ++ [.lst (xs.map T.str)]) (m := 2) (by decide) ls3 a3 l3 (by omega)
            obtain ⟨j, ej, hj⟩ : ∃ j : Nat, (if (i0 : Int) - 1 - r4 > 0 then (i0 : Int) - 1 - r4 else 0) = j ∧ j ≤ 1000 := by
              by_cases q : (i0 : Int) - 1 - r4 > 0
              · exact ⟨i0 - 1 - r4, by rw [if_pos q]; omega, by omega⟩
              · exact ⟨0, by rw [if_neg q]; rfl, by omega⟩
            have mx : ∀ S, maxT S [.int 0, .int ((i0 : Int) - 1 - r4)] = some (.int j) := fun S => by rw [max_int, ej]
            have io := insA (xs := (xs.eraseIdx i0).map T.str) (i := j) hj (by rw [List.length_map]; exact Nat.le_trans (List.length_eraseIdx_le _ _) (by omega)) (.str x)
            have e2 : ((xs.eraseIdx i0).map T.str).take j ++ [T.str x] ++ ((xs.eraseIdx i0).map T.str).drop j = ((xs.eraseIdx i0).take j ++ [x] ++ (xs.eraseIdx i0).drop j).map T.str := by simp
            rw [e2] at io
            simp_arith [fCM, lstD_some, cmEnd_some, refD_ref, hn, h0', w1', w2', lenN, d3, ixN, sub_int, d4, mx, lst_S2, po _ xl200, set_S2, io, tup_S2]
            exact ⟨_, ls4, a4, _, rfl, near_move hx hxw j, l4, by omega⟩
          · have w3' : ¬ ((r2 : Int) = 3) := by omega
            obtain ⟨_, ls4, a4, d4, ⟨r4, rfl, hr4⟩, l4, b4⟩ := dr (R ++ [.lst (xs.map T.str)]) (m := (N.length : Int)) (by omega) ls3 a3 l3 (by omega)
            have h4 : r4 < N.length := by omega
            obtain ⟨y, hy, hyw⟩ := hN N[r4] (List.getElem_mem h4)
            have hi4 := (List.getElem?_eq_some_iff.mp hy).1
            have hyT : (xs.map T.str)[N[r4]]? = some (.str y) := by rw [List.getElem?_map, hy]; rfl
            have ixN4 := fun S => ix_nats h4 S
            generalize N[r4] = j0 at hy hi4 hyT ixN4
            have g1 := ix_lS2 ls4 cs a4 R [] hxT
            have g2 := ix_lS2 ls4 cs a4 R [] hyT
            have st1 := set_lS2 ls4 cs a4 R [] (ts := xs.map T.str) (i := i0) (by rw [List.length_map]; exact hi) (.str y)
            rw [e0] at st1
            have st2 := set_lS2 ls4 cs a4 R [] (ts := (xs.set i0 y).map T.str) (i := j0) (by rw [List.length_map, List.length_set]; exact hi4) (.str x)
            rw [show ((xs.set i0 y).map T.str).set j0 (.str x) = ((xs.set i0 y).set j0 x).map T.str by rw [List.map_set, List.map_set, List.map_set]] at st2
            simp_arith [hn, h0', w1', w2', w3', lenN, d3, ixN, d4, ixN4, g1, g2, small16 (show 2 ≤ 200 by omega), bSwap, st1, st2, tup_S2]
            exact ⟨_, ls4, a4, _, rfl, near_swap hx hy hxw hyw, l4, by omega⟩
end SF
set_option Elab.async false
set_option linter.all false
set_option maxRecDepth 100000
namespace SF
open PySem PySem.Spec L2 TL
open PyProof.Rows hiding St
def formsEq (b : Bk) (X Y : List Str) : Prop := ∀ a ∈ b.asp, formS (chainF b f0 X a) = formS (chainF b f0 Y a)
instance (b : Bk) (X Y : List Str) : Decidable (formsEq b X Y) := by unfold formsEq; infer_instance
end SF
set_option Elab.async false
set_option linter.all false
set_option maxRecDepth 100000
namespace SF
open PySem PySem.Spec L2 TL
open PyProof.Rows hiding St
structure L7 (c : Ch) (s : List Str) : Prop where
  pm : (c.map (·.1) ++ s).Perm K7
  vs : ∀ p ∈ c, p.2 ∈ V7
theorem L7.g {c : Ch} {s : List Str} (h : L7 c s) : G7 c := by
  have nd := h.pm.nodup_iff.mpr nd_K7
  exact ⟨(List.nodup_append.mp nd).1, fun p hp => h.pm.mem_iff.mp (List.mem_append_left _ (List.mem_map_of_mem hp)), h.vs⟩
theorem L7.step {c : Ch} {s : List Str} (h : L7 c s) {i : Nat} {k v : Str} (hi : s[i]? = some k) (hv : v ∈ V7) : L7 (c ++ [(k, v)]) (s.eraseIdx i) := by
  refine ⟨?_, fun p hp => ?_⟩
  · refine List.Perm.trans ?_ h.pm
    rw [List.map_append, List.append_assoc]
    refine List.Perm.append_left _ ?_
    have hl := List.getElem?_eq_some_iff.mp hi
    have h2 : s = s.take i ++ k :: s.drop (i + 1) := by
      have := List.take_append_drop i s
      rw [List.drop_eq_getElem_cons hl.1, hl.2] at this
      exact this.symm
    rw [List.eraseIdx_eq_take_drop_succ]
    conv => rhs; rw [h2]
    show (k :: (s.take i ++ s.drop (i + 1))).Perm _
    exact List.perm_middle.symm
  · rcases List.mem_append.mp hp with q | q
    · exact h.vs p q
    · rw [List.mem_singleton.mp q]; exact hv
end SF
set_option Elab.async false
set_option linter.all false
set_option maxRecDepth 100000
namespace SF
open PySem PySem.Spec L2 TL
open PyProof.Rows hiding St
end SF
set_option Elab.async false
set_option linter.all false
set_option maxRecDepth 100000
namespace SF
open PySem PySem.Spec L2 TL
open PyProof.Rows hiding St
theorem kindsU_mem {c d : Ch} {k : Str} : k ∈ kindsU c d ↔ k ∈ c.map (·.1) ∨ k ∈ d.map (·.1) := by
  unfold kindsU
  rw [(sortS_perm _).mem_iff, adds_mem, List.map_append, List.mem_append]
  simp
theorem cand_mem {ks t : List Str} : t ∈ candU ks ↔ (∃ a ∈ ks, t = [a]) ∨ ∃ a ∈ ks, ∃ b ∈ ks, ltS a b = true ∧ t = [a, b] := by
  unfold candU twosU
  simp only [List.mem_append, List.mem_map, List.mem_flatMap, List.mem_filter]
  constructor
  · rintro (⟨a, h, rfl⟩ | ⟨a, h, b, ⟨h1, h2⟩, rfl⟩)
    · exact .inl ⟨a, h, rfl⟩
    · exact .inr ⟨a, h, b, h1, h2, rfl⟩
  · rintro (⟨a, h, rfl⟩ | ⟨a, h, b, h1, h2, rfl⟩)
    · exact .inl ⟨a, h, rfl⟩
    · exact .inr ⟨a, h, b, ⟨h1, h2⟩, rfl⟩
theorem worth_nil (c : Ch) : worthS [] c = none := by
  induction c with
  | nil => rfl
  | cons p c ih =>
    unfold worthS
    rw [if_neg (by simp), ih]
theorem worth_out {a : Str} {c : Ch} (h : a ∉ c.map (·.1)) : worthS [a] c = none := by
  rw [worth_congr (s := []) fun k hk => by simp; rintro rfl; exact h hk]
  exact worth_nil c
theorem ltS_total {a b : Str} (h : a ≠ b) : ltS a b = true ∨ ltS b a = true := by
  unfold ltS
  simp only [decide_eq_true_eq]
  by_cases q : a.cps.toList < b.cps.toList
  · exact .inl q
  · by_cases r : b.cps.toList < a.cps.toList
    · exact .inr r
    · exact absurd (leS_anti (leS_iff.mpr r) (leS_iff.mpr q)) h
theorem least_none {c d : Ch} (hc : (c.map (·.1)).Nodup) (hd : (d.map (·.1)).Nodup) (h : ∀ t ∈ candU (kindsU c d), worthS t c = worthS t d) : formS c = formS d := by
  refine form_of_worth hc hd fun k l hk hl => ?_
  have mk := kindsU_mem.mpr hk
  have ml := kindsU_mem.mpr hl
  by_cases e : k = l
  · subst e
    have := h [k] (cand_mem.mpr (.inl ⟨k, mk, rfl⟩))
    have q : ∀ x : Ch, worthS [k, k] x = worthS [k] x := fun x => worth_congr fun y _ => by simp
    rw [q, q, this]
  · rcases ltS_total e with q | q
    · exact h _ (cand_mem.mpr (.inr ⟨k, mk, l, ml, q, rfl⟩))
    · have := h _ (cand_mem.mpr (.inr ⟨l, ml, k, mk, q, rfl⟩))
      have w : ∀ x : Ch, worthS [k, l] x = worthS [l, k] x := fun x => worth_congr fun y _ => by simp [or_comm]
      rw [w, w, this]
theorem least_form {c d : Ch} (hc : (c.map (·.1)).Nodup) (hd : (d.map (·.1)).Nodup) : leastU c d = none ↔ formS c = formS d := by
  unfold leastU
  rw [List.find?_eq_none]
  constructor
  · intro h
    exact least_none hc hd fun t ht => by simpa using h t ht
  · intro h t ht
    simp [form_worth h t]
theorem find_order {α : Type} {p : α → Bool} : ∀ {l m : List α} {x : α}, (l ++ m).find? p = some x → x ∈ l ∨ (∀ y ∈ l, p y = false)
  | [], _, _, _ => .inr fun y hy => nomatch hy
  | a :: l, m, x, h => by
    rw [List.cons_append, List.find?_cons] at h
    cases e : p a with
    | true =>
      rw [e] at h
      exact .inl (by cases h; exact List.mem_cons_self)
    | false =>
      rw [e] at h
      rcases find_order h with q | q
      · exact .inl (List.mem_cons_of_mem _ q)
      · refine .inr fun y hy => ?_
        rcases List.mem_cons.mp hy with rfl | hy
        · exact e
        · exact q y hy
theorem least_some {c d : Ch} {t : List Str} (h : leastU c d = some t) : worthS t c ≠ worthS t d ∧ ((∃ a ∈ kindsU c d, t = [a]) ∨ ∃ a ∈ kindsU c d, ∃ b ∈ kindsU c d, ltS a b = true ∧ t = [a, b]) ∧ ∀ s : List Str, worthS s c ≠ worthS s d → t.length ≤ s.length := by
  have h1 := List.find?_some h
  have h2 := List.mem_of_find?_eq_some h
  have ne : worthS t c ≠ worthS t d := by simpa using h1
  refine ⟨ne, cand_mem.mp h2, fun s hs => ?_⟩
  have s0 : s ≠ [] := fun e => hs (by rw [e, worth_nil, worth_nil])
  rcases cand_mem.mp h2 with ⟨a, ha, rfl⟩ | ⟨a, ha, b, hb, hab, rfl⟩
  · have := List.length_pos_iff.mpr s0
    exact this
  · rcases find_order (l := (kindsU c d).map fun a => [a]) (m := twosU (kindsU c d)) h with q | q
    · obtain ⟨x, _, e⟩ := List.mem_map.mp q
      cases e
    · match s, s0, hs with
      | [x], _, hs =>
        exfalso
        by_cases hx : x ∈ kindsU c d
        · have := q [x] (List.mem_map.mpr ⟨x, hx, rfl⟩)
          exact hs (by simpa using this)
        · have n1 : x ∉ c.map (·.1) := fun z => hx (kindsU_mem.mpr (.inl z))
          have n2 : x ∉ d.map (·.1) := fun z => hx (kindsU_mem.mpr (.inr z))
          exact hs (by rw [worth_out n1, worth_out n2])
      | x :: y :: r, _, _ => simp
end SF
set_option Elab.async false
set_option linter.all false
set_option maxRecDepth 100000
namespace SF
open PySem PySem.Spec L2 TL
open PyProof.Rows hiding St
theorem Nice.mono {n m n' m' : Nat} {d : PyData} (h : Nice n m d) (hn : n ≤ n') (hm : m ≤ m') : Nice n' m' d := ⟨h.lay, h.eqv, h.sh, h.hd, Nat.le_trans h.dp hn, Nat.le_trans h.ln hm, h.ok⟩
end SF
set_option Elab.async false
set_option linter.all false
set_option maxRecDepth 100000
namespace SF
open PySem PySem.Spec L2 TL
open PyProof.Rows hiding St
structure RO (b : Bk) (n : Nat) (xs : List Str) : Prop where
  len : xs.length ≤ n
  it : ∀ x ∈ xs, x ∈ b.cs.map (·.w)
theorem RO.gi {b : Bk} {n : Nat} {xs : List Str} (X : RO b n xs) (h : n ≤ 200) : GI b xs := ⟨Nat.le_trans X.len h, fun x hx => .inl (by
  obtain ⟨c, hc, e⟩ := List.mem_map.mp (X.it x hx)
  exact ⟨c, hc, e⟩)⟩
theorem RO.find {b : Bk} (W : GW b) {n : Nat} {xs : List Str} (X : RO b n xs) {x : Str} (hx : x ∈ xs) : ∃ c ∈ b.cs, c.w = x ∧ findC b.cs x = some c ∧ Sg x false := by
  obtain ⟨c, hc, rfl⟩ := List.mem_map.mp (X.it x hx)
  cases e : findC b.cs c.w with
  | none => exact absurd rfl (findC_none e c hc)
  | some d =>
    obtain ⟨hd, e2⟩ := findC_mem e
    exact ⟨d, hd, e2, rfl, W.sg c hc⟩
def sizeS (xs : List Str) : Int := (xs.map fun x : Str => ((x.length : Int) + 2)).sum
end SF
set_option Elab.async false
set_option linter.all false
set_option maxRecDepth 100000
namespace SF
open PySem PySem.Spec L2 TL
open PyProof.Rows hiding St
def WOk (b : Bk) (xs : List Str) : Prop := ∀ x ∈ xs, ∃ c ∈ b.cs, c.w = x ∧ findC b.cs x = some c ∧ Sg x false
end SF
set_option Elab.async false
set_option linter.all false
set_option maxRecDepth 100000
namespace SF
open PySem PySem.Spec L2 TL
open PyProof.Rows hiding St
def fiRq (q : Int → Int → Bool) (Fs : FA) : FI := fun τ S => (Fs τ S).bind fun ts S1 => match ts with
  | [.int j] => if q 0 j then .ok (rng 0 j) S1 else .stuck
  | _ => .stuck
theorem fiR1_q : fiR1 = fiRq TL.inR := rfl
theorem fiRq_ok {q : Int → Int → Bool} {Fs : FA} {τ : Fr} {S S1 : Sto} {n : Int} (hq : q 0 n = true) (h : Fs τ S = .ok [.int n] S1) : fiRq q Fs τ S = .ok (rng 0 n) S1 := by
  unfold fiRq
  rw [h]
  simp only [bind_ok, hq, if_true]
theorem fiR1_ok {Fs : FA} {τ : Fr} {S S1 : Sto} {n : Nat} (hn : n ≤ 1000) (h : Fs τ S = .ok [.int (n : Nat)] S1) : fiR1 Fs τ S = .ok (rng 0 (n : Nat)) S1 := by
  rw [fiR1_q]
  exact fiRq_ok (inR_small (by omega) (by omega)) h
theorem seq_nx {B C : BS} {τ τ1 : Fr} {S S1 : Sto} (h : B τ S = .nx τ1 S1) : bSeq B C τ S = C τ1 S1 := by
  unfold bSeq
  rw [h]
theorem ext_at {xs ys : List T} (S : Sto) (h : xs.length + ys.length ≤ 200) : opExt S xs [.lst ys] = some (.non, xs ++ ys) := by
  have c : xs.length + ys.length ≤ sizeLine := small16 h
  unfold opExt
  simp only [plnL, Option.bind_some, c, if_true]
end SF
set_option Elab.async false
set_option linter.all false
set_option maxRecDepth 100000
namespace SF
open PySem PySem.Spec L2 TL
open PyProof.Rows hiding St
theorem strs_of {ws : List Str} : ∀ {ts : List T}, (∀ t ∈ ts, ∃ x ∈ ws, t = .str x) → ∃ xs : List Str, (∀ x ∈ xs, x ∈ ws) ∧ ts = xs.map T.str
  | [], _ => ⟨[], fun x h => (nomatch h), rfl⟩
  | t :: ts, h => by
    obtain ⟨x, hx, rfl⟩ := h t List.mem_cons_self
    obtain ⟨xs, h1, rfl⟩ := strs_of fun t ht => h t (List.mem_cons_of_mem _ ht)
    exact ⟨x :: xs, fun y hy => (List.mem_cons.mp hy).elim (fun e => e ▸ hx) (h1 y), rfl⟩
end SF
set_option Elab.async false
set_option linter.all false
set_option maxRecDepth 100000
namespace SF
open PySem PySem.Spec L2 TL
open PyProof.Rows hiding St
end SF
set_option Elab.async false
set_option linter.all false
set_option maxRecDepth 100000
namespace SF
open PySem PySem.Spec L2 TL
open PyProof.Rows hiding St
def W6 : List Str := ["5", "55", "555", "6", "66", "666"]
theorem wd6 : ∀ x ∈ W6, Wd x ∧ Sg x false := all_of ⟨⟨fun _ => by kernel_rfl, fun _ => by kernel_rfl⟩, ⟨fun _ => by kernel_rfl, fun _ => by kernel_rfl⟩, ⟨fun _ => by kernel_rfl, fun _ => by kernel_rfl⟩, ⟨fun _ => by kernel_rfl, fun _ => by kernel_rfl⟩, ⟨fun _ => by kernel_rfl, fun _ => by kernel_rfl⟩, ⟨fun _ => by kernel_rfl, fun _ => by kernel_rfl⟩, trivial⟩
theorem wdx : ∀ x ∈ W8 ++ W6, Wd x ∧ Sg x false := fun x hx => (List.mem_append.mp hx).elim (wd_all x) (wd6 x)
structure BX (b : Bk) : Prop where
  asp : b.asp.Sublist L3
  a0 : b.asp ≠ []
  sh : b.sh.Sublist b.asp
  ws : ∀ c ∈ b.cs, c.w ∈ W8 ++ W6
  nd : (b.cs.map (·.w)).Nodup
  n16 : b.cs.length ≤ 16
  n0 : b.cs ≠ []
  cl : ∀ c ∈ b.cs, CL b.asp c
theorem BX.gl {b : Bk} (B : BX b) : GL b := by
  have wm := B.ws
  have gl6 : ∀ c ∈ b.cs, c.g.length ≤ 6 := fun c hc => by
    have h1 := ((B.cl c hc).gs.trans B.asp).length_le
    rw [List.length_map] at h1
    have h2 : L3.length = 3 := rfl
    omega
  have gin : ∀ c ∈ b.cs, ∀ p ∈ c.g, p.1 ∈ b.asp := fun c hc p hp => (B.cl c hc).gs.subset (List.mem_map_of_mem hp)
  have inL : ∀ x ∈ L3, x ∈ L3 ++ V4 ++ K3 := fun x hx => List.mem_append_left _ (List.mem_append_left _ hx)
  have inV : ∀ x ∈ V4, x ∈ L3 ++ V4 ++ K3 := fun x hx => List.mem_append_left _ (List.mem_append_right _ hx)
  have inK : ∀ x ∈ K3, x ∈ L3 ++ V4 ++ K3 := fun x hx => List.mem_append_right _ hx
  have l3 : b.asp.length ≤ 3 := B.asp.length_le
  have l4 := B.sh.length_le
  have l8 := B.n16
  refine ⟨⟨⟨asp_all _ (mem_subs B.asp), B.a0, asp_all _ (mem_subs (B.sh.trans B.asp)), fun x hx => B.sh.subset hx, by omega, by omega, fun c hc => ?_, ?_, ⟨K3, by decide, fun c hc => (B.cl c hc).k⟩⟩, fun c hc => (wdx _ (wm c hc)).2, gin, nd_L3.sublist B.asp, gl6, by omega⟩, fun c hc p hp => ?_⟩
  · have C := B.cl c hc
    have a1 := asc_all _ (mem_subs (C.gs.trans B.asp))
    rw [List.map_map] at a1
    exact is_code_ok (small16 (by have := gl6 c hc; omega)) (wdx _ (wm c hc)).1 (nm_all _ (inK _ C.k)) (are_gifts_ok C.g0 (small16 (by have := gl6 c hc; omega)) (fun p hp => ⟨nm_all _ (inL _ (B.asp.subset (gin c hc p hp))), nm_all _ (inV _ (C.gv p hp))⟩) a1) (gin c hc)
  · exact B.nd
  · exact ⟨nm_all _ (inV _ ((B.cl c hc).gv p hp)), rp_all _ (List.mem_append_left _ (List.mem_append_left _ (List.mem_append_left _ (inV _ ((B.cl c hc).gv p hp)))))⟩
theorem BX.gc {b : Bk} (B : BX b) : GC b := ⟨B.gl.w, fun c hc => So.of (rp_all _ (by
    simp only [List.mem_append]
    exact .inl (.inl (.inl (.inr (B.cl c hc).k))))), fun c hc p hp => So.of (B.gl.val c hc p hp).2, ⟨K3, by decide, fun c hc => (B.cl c hc).k⟩⟩
end SF
set_option Elab.async false
set_option linter.all false
set_option maxRecDepth 100000
namespace SF
open PySem PySem.Spec L2 TL
open PyProof.Rows hiding St
abbrev Wr := List Str × List Str
structure RX (b : Bk) (ws : List Wr) : Prop where
  n0 : ws ≠ []
  n6 : ws.length ≤ 6
  it : ∀ w ∈ ws, RO b 12 w.1 ∧ RO b 12 w.2
end SF
set_option Elab.async false
set_option linter.all false
set_option maxRecDepth 100000
namespace SF
open PySem PySem.Spec L2 TL
open PyProof.Rows hiding St
theorem GC.ks {b : Bk} (G : GC b) (xs : List Str) (a : Str) : ∀ p ∈ chainF b f0 xs a, p.1 ∈ kindsG b :=
  chain_vals (P := fun p => p.1 ∈ kindsG b) (fun c hc p hp => kindsG_mem.mpr ⟨c, hc, rfl⟩) (fun _ p h => by cases h) a
end SF
set_option Elab.async false
set_option linter.all false
set_option maxRecDepth 100000
namespace SF
open PySem PySem.Spec L2 TL
open PyProof.Rows hiding St
abbrev wAt (ws : List Wr) (i : Nat) : Wr := ws.getD i ([], [])
def aheadS (ws : List Wr) : Option Nat → List Str
  | none => []
  | some j => (wAt ws j).1
theorem wAt_mem {ws : List Wr} {i : Nat} (h : i < ws.length) : wAt ws i ∈ ws := by
  rw [wAt, List.getD_eq_getElem?_getD, List.getElem?_eq_getElem h, Option.getD_some]
  exact List.getElem_mem h
theorem RX.w1 {b : Bk} {ws : List Wr} (X : RX b ws) {i : Nat} (h : i < ws.length) : RO b 12 (wAt ws i).1 ∧ RO b 12 (wAt ws i).2 := X.it _ (wAt_mem h)
def unOk (ws : List Wr) (o : Option Nat) : Prop := ∀ j, o = some j → j < ws.length
theorem RX.ahead {b : Bk} {ws : List Wr} (X : RX b ws) {o : Option Nat} (h : unOk ws o) : RO b 12 (aheadS ws o) := by
  cases o with
  | none => exact ⟨Nat.zero_le _, fun x h => nomatch h⟩
  | some j => exact (X.w1 (h j rfl)).1
theorem WOk.app {b : Bk} {x y : List Str} (hx : WOk b x) (hy : WOk b y) : WOk b (x ++ y) := fun z hz => (List.mem_append.mp hz).elim (hx z) (hy z)
end SF
set_option Elab.async false
set_option linter.all false
set_option maxRecDepth 100000
namespace SF
open PySem PySem.Spec L2 TL
open PyProof.Rows hiding St
theorem least_none_iff {c d : Ch} (hc : (c.map (·.1)).Nodup) (hd : (d.map (·.1)).Nodup) : leastU c d = none ↔ ∀ t, worthS t c = worthS t d := by
  rw [least_form hc hd]
  exact ⟨fun h t => form_worth h t, fun h => form_of_worth hc hd fun k l _ _ => h _⟩
end SF
set_option Elab.async false
set_option linter.all false
set_option maxRecDepth 100000
namespace SF
open PySem PySem.Spec L2 TL
open PyProof.Rows hiding St
end SF
set_option Elab.async false
set_option linter.all false
set_option maxRecDepth 100000
namespace SF
open PySem PySem.Spec L2 TL
open PyProof.Rows hiding St
end SF
set_option Elab.async false
set_option linter.all false
set_option maxRecDepth 100000
namespace SF
open PySem PySem.Spec L2 TL
open PyProof.Rows hiding St
theorem NiceT.up {n m n' m' : Nat} {t : T} (h : NiceT n m t) (hn : n ≤ n') (hm : m ≤ m') : ∃ d, toD t = some d ∧ Nice n' m' d := by
  obtain ⟨d, e, g, _⟩ := h
  exact ⟨d, e, g.mono hn hm⟩
end SF
set_option Elab.async false
set_option linter.all false
set_option maxRecDepth 100000
namespace SF
open PySem PySem.Spec L2 TL
open PyProof.Rows hiding St
abbrev Wi := List (Str × Ch)
def wiP (p : Str × Ch) : T := .tup [.str p.1, chT p.2]
def wiT (w : Wi) : T := .tup (w.map wiP)
structure WI (b : Bk) (w : Wi) : Prop where
  sub : (w.map (·.1)).Sublist b.asp
  cn : ∀ p ∈ w, CN p.2
  ne : ∀ p ∈ w, p.2 ≠ []
  ks : ∀ p ∈ w, ∀ q ∈ p.2, q.1 ∈ K3
def wishF (w : Wi) (a : Str) : Ch := ((w.find? fun p => decide (p.1 = a)).map (·.2)).getD []
theorem getK_wi (w : Wi) (a : Str) : (getK (w.map fun p => Sum.inr p.1) (w.map fun p => chT p.2) (.inr a)).getD (.tup []) = chT (wishF w a) := by
  unfold wishF
  induction w with
  | nil => rfl
  | cons p w ih =>
    simp only [List.map_cons, getK, List.find?_cons]
    by_cases e : p.1 = a
    · rw [if_pos (by rw [e]), decide_eq_true e]
      rfl
    · rw [if_neg (fun z => e (Sum.inr.inj z)), decide_eq_false e]
      exact ih
end SF
set_option Elab.async false
set_option linter.all false
set_option maxRecDepth 100000
namespace SF
open PySem PySem.Spec L2 TL
open PyProof.Rows hiding St
structure FR (b : Bk) (w : Wi) (l : List Str) : Prop where
  sub : l.Sublist b.asp
  no : ∀ a ∈ l, a ∉ w.map (·.1)
end SF
set_option Elab.async false
set_option linter.all false
set_option maxRecDepth 100000
namespace SF
open PySem PySem.Spec L2 TL
open PyProof.Rows hiding St
end SF
set_option Elab.async false
set_option linter.all false
set_option maxRecDepth 100000
namespace SF
open PySem PySem.Spec L2 TL
open PyProof.Rows hiding St
theorem CN.head {p : Str × Str} {c : Ch} (C : CN (p :: c)) {v : Str} (hv : Nm v ∧ So v) : CN ((p.1, v) :: c) := by
  refine ⟨⟨C.gh.len, fun q hq => ?_, C.gh.nd⟩, fun q hq => ?_⟩
  · rcases List.mem_cons.mp hq with rfl | hq
    · exact ⟨(C.gh.so p List.mem_cons_self).1, hv.2⟩
    · exact C.gh.so q (List.mem_cons_of_mem _ hq)
  · rcases List.mem_cons.mp hq with rfl | hq
    · exact ⟨(C.nm p List.mem_cons_self).1, hv.1⟩
    · exact C.nm q (List.mem_cons_of_mem _ hq)
abbrev wiD (w : Wi) : T := .dct (w.map fun p => Sum.inr p.1) (w.map fun p => chT p.2)
end SF
set_option Elab.async false
set_option linter.all false
set_option maxRecDepth 100000
namespace SF
open PySem PySem.Spec L2 TL
open PyProof.Rows hiding St
end SF
set_option Elab.async false
set_option linter.all false
set_option maxRecDepth 100000
namespace SF
open PySem PySem.Spec L2 TL
open PyProof.Rows hiding St
end SF
set_option Elab.async false
set_option linter.all false
set_option maxRecDepth 100000
namespace SF
open PySem PySem.Spec L2 TL
open PyProof.Rows hiding St
end SF
set_option Elab.async false
set_option linter.all false
set_option maxRecDepth 100000
namespace SW
open PySem PySem.Spec L2 TL SF
open PyProof.Rows hiding St
abbrev Pr := Str × Str
def prT (p : Pr) : T := .etp [.str p.1, .str p.2]
def prK (p : Pr) : List Key := [.inr p.1, .inr p.2]
def prsT (l : List Pr) : T := .lst (l.map prT)
def setS (l : List Pr) : T := .kdc (l.map prK) (l.map fun _ => .bl true)
def ahT : Option (List Pr) → T
  | none => .non
  | some l => prsT l
abbrev Need := List (Pr × Option (List Pr))
def ndP (q : Pr × Option (List Pr)) : T := .tup [prT q.1, ahT q.2]
def ndT (n : Need) : T := .lst (n.map ndP)
abbrev Nds := List (Str × Need)
def getN (N : Nds) (w : Str) : Need := ((N.find? fun q => decide (q.1 = w)).map (·.2)).getD []
structure NE (N : Nds) : Prop where
  nd : (N.map (·.1)).Nodup
  len : N.length ≤ 16
  ln : ∀ q ∈ N, q.2.length ≤ 6
  ah : ∀ q ∈ N, ∀ r ∈ q.2, ∀ l, r.2 = some l → l.length ≤ 100
  so : ∀ q ∈ N, So q.1
  wl : ∀ q ∈ N, q.1.length ≤ 200
def inP (s : List Pr) (p : Pr) : Bool := decide (p ∈ s)
def allP (s l : List Pr) : Bool := l.all (inP s)
def freeP (s : List Pr) (q : Pr × Option (List Pr)) : Bool := inP s q.1 || match q.2 with
  | none => false
  | some l => allP s l
def canF (s : List Pr) (n : Need) : Bool := n.all (freeP s)
def putP (s : List Pr) (p : Pr) : List Pr := if inP s p then s else s ++ [p]
def settleF (s : List Pr) (n : Need) : List Pr := n.foldl (fun s q => putP s q.1) s
theorem prK_inj {p q : Pr} (h : prK p = prK q) : p = q := by
  obtain ⟨a, b⟩ := p
  obtain ⟨c, d⟩ := q
  simp only [prK, List.cons.injEq, Sum.inr.injEq, and_true] at h
  obtain ⟨rfl, rfl⟩ := h
  rfl
theorem any_prK (l : List Pr) (p : Pr) : ((l.map prK).any fun a => decide (a = prK p)) = inP l p := by
  rw [List.any_map, inP, Bool.eq_iff_iff, List.any_eq_true, decide_eq_true_eq]
  constructor
  · rintro ⟨x, hx, e⟩
    have := prK_inj (of_decide_eq_true e)
    rw [← this]
    exact hx
  · exact fun h => ⟨p, h, decide_eq_true rfl⟩
theorem zip_true (k : List Key) : ∀ l : List Pr, List.zipWith (fun a u => if a = k then T.bl true else u) (l.map prK) (l.map fun _ => T.bl true) = l.map fun _ => T.bl true
  | [] => rfl
  | p :: l => by
    rw [List.map_cons, List.map_cons, List.zipWith_cons_cons, zip_true k l]
    split <;> rfl
theorem put_set (l : List Pr) (p : Pr) : putKK (l.map prK) (l.map fun _ => T.bl true) (prK p) (.bl true) = ((putP l p).map prK, (putP l p).map fun _ => T.bl true) := by
  unfold putKK putP
  rw [any_prK]
  cases inP l p with
  | true => rw [if_pos rfl, if_pos rfl, zip_true]
  | false =>
    rw [if_neg (by simp), if_neg (by simp), List.map_append, List.map_append]
    rfl
theorem set_set {S : Sto} {n : Nat} {l : List Pr} (h : S[n]? = some (setS l)) (hz : l.length < sizeLine) (p : Pr) : setCT S (.ref n) (prT p) (.bl true) = some (S.set n (setS (putP l p))) := by
  unfold setCT prT
  simp only [h, setS]
  show (if (l.map prK).length < sizeLine then some (S.set n (.kdc (putKK (l.map prK) (l.map fun _ => T.bl true) (prK p) (.bl true)).1 (putKK (l.map prK) (l.map fun _ => T.bl true) (prK p) (.bl true)).2)) else none) = _
  rw [List.length_map, if_pos hz, put_set]
theorem putP_len (s : List Pr) (p : Pr) : (putP s p).length ≤ s.length + 1 := by
  unfold putP
  split
  · omega
  · simp
theorem settleF_len (n : Need) : ∀ s : List Pr, (settleF s n).length ≤ s.length + n.length := by
  unfold settleF
  induction n with
  | nil => intro s; simp
  | cons q n ih =>
    intro s
    rw [List.foldl_cons, List.length_cons]
    have := ih (putP s q.1)
    have := putP_len s q.1
    omega
end SW
set_option Elab.async false
set_option linter.all false
set_option maxRecDepth 100000
namespace SW
open PySem PySem.Spec L2 TL SF
open PyProof.Rows hiding St
def stepT (st : List Str × List Pr × Bool) (q : Str × Need) : List Str × List Pr × Bool :=
  if !decide (q.1 ∈ st.1) && canF st.2.1 q.2 then (st.1 ++ [q.1], settleF st.2.1 q.2, true) else st
def passT (N : Nds) (ws : List Str) (s : List Pr) : List Str × List Pr × Bool := N.foldl stepT (ws, s, false)
def takeLoop (N : Nds) : Nat → List Str → List Pr → List Str
  | 0, ws, _ => ws
  | k + 1, ws, s => if (passT N ws s).2.2 then takeLoop N k (passT N ws s).1 (passT N ws s).2.1 else (passT N ws s).1
def takeAll (N : Nds) : List Str := takeLoop N 17 [] []
def settledByF (N : Nds) (ws : List Str) : List Pr := ws.foldl (fun s w => settleF s (getN N w)) []
def reachL (N : Nds) : List Pr → List Str → Option (List Pr)
  | s, [] => some s
  | s, w :: ws => if canF s (getN N w) then reachL N (settleF s (getN N w)) ws else none
def reachF (N : Nds) (goal : List Pr) (ws : List Str) : Bool := match reachL N [] ws with
  | none => false
  | some s => allP s goal
def idleF (N : Nds) (goal : List Pr) (ws : List Str) : List Str := ws.reverse.foldl (fun kept w => if reachF N goal (kept.filter fun x => !decide (x = w)) then kept.filter (fun x => !decide (x = w)) else kept) ws
def rowOrBar (N : Nds) (goal : List Pr) : Bool × List Str :=
  if allP (settledByF N (takeAll N)) goal then (true, (idleF N goal (takeAll N)).reverse) else (false, sortS (takeAll N))
theorem getN_at {N : Nds} (E : NE N) {q : Str × Need} (h : q ∈ N) : getN N q.1 = q.2 := by
  have nd := E.nd
  unfold getN
  clear E
  induction N with
  | nil => cases h
  | cons p N ih =>
    rw [List.find?_cons]
    by_cases e : p.1 = q.1
    · rw [decide_eq_true e]
      rcases List.mem_cons.mp h with rfl | h
      · rfl
      · rw [List.map_cons, List.nodup_cons] at nd
        exact absurd (e ▸ List.mem_map_of_mem h) nd.1
    · rw [decide_eq_false e]
      rcases List.mem_cons.mp h with rfl | h
      · exact absurd rfl e
      · rw [List.map_cons, List.nodup_cons] at nd
        exact ih h nd.2
end SW
set_option Elab.async false
set_option linter.all false
set_option maxRecDepth 100000
namespace SW
open PySem PySem.Spec L2 TL SF
open PyProof.Rows hiding St
structure TI (N : Nds) (ws : List Str) (s : List Pr) : Prop where
  nd : ws.Nodup
  sub : ∀ w ∈ ws, w ∈ N.map (·.1)
  len : s.length ≤ 6 * ws.length
theorem TI.le {N : Nds} (E : NE N) {ws : List Str} {s : List Pr} (I : TI N ws s) : ws.length ≤ 16 := by
  have := nodup_len I.nd I.sub
  rw [List.length_map] at this
  exact Nat.le_trans this E.len
theorem TI.step {N : Nds} (E : NE N) {st : List Str × List Pr × Bool} (I : TI N st.1 st.2.1) {q : Str × Need} (hq : q ∈ N) : TI N (stepT st q).1 (stepT st q).2.1 ∧ st.1.length ≤ (stepT st q).1.length ∧ ((stepT st q).2.2 = true → st.2.2 = true ∨ st.1.length < (stepT st q).1.length) := by
  unfold stepT
  split
  · rename_i h
    simp only [Bool.and_eq_true, Bool.not_eq_true', decide_eq_false_iff_not] at h
    refine ⟨⟨?_, ?_, ?_⟩, by simp, fun _ => .inr (by simp)⟩
    · exact List.nodup_append.mpr ⟨I.nd, by simp, fun x hx y hy => by
        rw [List.mem_singleton] at hy
        rw [hy]
        exact fun z => h.1 (z ▸ hx)⟩
    · intro w hw
      rcases List.mem_append.mp hw with hw | hw
      · exact I.sub w hw
      · rw [List.mem_singleton.mp hw]
        exact List.mem_map_of_mem hq
    · have := settleF_len q.2 st.2.1
      have := E.ln q hq
      have := I.len
      show (settleF st.2.1 q.2).length ≤ 6 * (st.1 ++ [q.1]).length
      rw [List.length_append, List.length_singleton]
      omega
  · exact ⟨I, Nat.le_refl _, fun h => .inl h⟩
end SW
set_option Elab.async false
set_option linter.all false
set_option maxRecDepth 100000
namespace SW
open PySem PySem.Spec L2 TL SF
open PyProof.Rows hiding St
end SW
set_option Elab.async false
set_option linter.all false
set_option maxRecDepth 100000
namespace SW
open PySem PySem.Spec L2 TL SF
open PyProof.Rows hiding St
end SW
set_option Elab.async false
set_option linter.all false
set_option maxRecDepth 100000
namespace SW
open PySem PySem.Spec L2 TL SF
open PyProof.Rows hiding St
abbrev Rows := List (Int × List Str)
def getR (rs : Rows) (c : Int) : Option (List Str) := (rs.find? fun p => decide (p.1 = c)).map (·.2)
def putR (rs : Rows) (c : Int) (row : List Str) : Rows := if rs.any (fun p => decide (p.1 = c)) then rs.map (fun p => if p.1 = c then (p.1, row) else p) else rs ++ [(c, row)]
def leT : Option (List Str) → T
  | none => .non
  | some l => SF.tS l
def growB (row : List Str) (s : List Pr) (q : Str × Need) : Bool := !decide (q.1 ∈ row) && canF s q.2
def growF (c : Int) (row : List Str) (s : List Pr) : Rows → Nat → Nds → Rows
  | rs, _, [] => rs
  | rs, i, q :: M => growF c row s (if growB row s q then putR rs (Builtin.bitOr c (1 * 2 ^ i)) (q.1 :: row) else rs) (i + 1) M
def lessF (least : Option (List Str)) (row : List Str) : Bool := match least with
  | none => true
  | some l => decide (sizeS row < sizeS l)
def betterF (goal s : List Pr) (least : Option (List Str)) (row : List Str) : Option (List Str) := if allP s goal && lessF least row then some row else least
def leastStep (N : Nds) (goal : List Pr) (st : Option (List Str) × Rows) (c : Int) : Option (List Str) × Rows := match getR st.2 c with
  | none => st
  | some row => (betterF goal (settledByF N row) st.1 row, growF c row (settledByF N row) st.2 0 N)
def leastF (N : Nds) (goal : List Pr) : Option (List Str) := ((List.range (2 ^ N.length)).foldl (fun st (c : Nat) => leastStep N goal st c) (none, [(0, [])])).1
section
variable {S : Sto} {n : Nat} {rs : Rows}
end
theorem putR_len (rs : Rows) (c : Int) (row : List Str) : (putR rs c row).length ≤ rs.length + 1 := by
  unfold putR
  split
  · rw [List.length_map]; omega
  · simp
structure RI (N : Nds) (rs : Rows) : Prop where
  ok : ∀ p ∈ rs, p.2.Nodup ∧ ∀ w ∈ p.2, w ∈ N.map (·.1)
theorem RI.get {N : Nds} {rs : Rows} (I : RI N rs) {c : Int} {row : List Str} (h : getR rs c = some row) : row.Nodup ∧ ∀ w ∈ row, w ∈ N.map (·.1) := by
  unfold getR at h
  cases e : rs.find? fun p => decide (p.1 = c) with
  | none => rw [e] at h; cases h
  | some p =>
    rw [e] at h
    cases h
    exact I.ok p (List.mem_of_find?_eq_some e)
theorem RI.put {N : Nds} {rs : Rows} (I : RI N rs) (c : Int) {row : List Str} (h : row.Nodup ∧ ∀ w ∈ row, w ∈ N.map (·.1)) : RI N (putR rs c row) := by
  unfold putR
  refine ⟨fun p hp => ?_⟩
  split at hp
  · obtain ⟨x, hx, rfl⟩ := List.mem_map.mp hp
    split
    · exact h
    · exact I.ok x hx
  · rcases List.mem_append.mp hp with hp | hp
    · exact I.ok p hp
    · rw [List.mem_singleton.mp hp]; exact h
theorem grow_row {N : Nds} {row : List Str} (h : row.Nodup ∧ ∀ w ∈ row, w ∈ N.map (·.1)) {s : List Pr} {q : Str × Need} (hq : q ∈ N) (hb : growB row s q = true) : (q.1 :: row).Nodup ∧ ∀ w ∈ q.1 :: row, w ∈ N.map (·.1) := by
  unfold growB at hb
  simp only [Bool.and_eq_true, Bool.not_eq_true', decide_eq_false_iff_not] at hb
  refine ⟨List.nodup_cons.mpr ⟨hb.1, h.1⟩, fun w hw => ?_⟩
  rcases List.mem_cons.mp hw with rfl | hw
  · exact List.mem_map_of_mem hq
  · exact h.2 w hw
theorem growF_ri {N : Nds} {c : Int} {row : List Str} (h : row.Nodup ∧ ∀ w ∈ row, w ∈ N.map (·.1)) {s : List Pr} : ∀ (M : Nds), (∀ q ∈ M, q ∈ N) → ∀ (rs : Rows) (i : Nat), RI N rs → RI N (growF c row s rs i M) ∧ (growF c row s rs i M).length ≤ rs.length + M.length := by
  intro M
  induction M with
  | nil => exact fun _ rs i I => ⟨I, Nat.le_refl _⟩
  | cons q M ih =>
    intro hM rs i I
    unfold growF
    cases hb : growB row s q with
    | true =>
      rw [if_pos rfl]
      obtain ⟨a, b⟩ := ih (fun x hx => hM x (List.mem_cons_of_mem _ hx)) (putR rs (Builtin.bitOr c (1 * 2 ^ i)) (q.1 :: row)) (i + 1) (I.put _ (grow_row h (hM q List.mem_cons_self) hb))
      exact ⟨a, by have := putR_len rs (Builtin.bitOr c (1 * 2 ^ i)) (q.1 :: row); rw [List.length_cons]; omega⟩
    | false =>
      rw [if_neg (by simp)]
      obtain ⟨a, b⟩ := ih (fun x hx => hM x (List.mem_cons_of_mem _ hx)) rs (i + 1) I
      exact ⟨a, by rw [List.length_cons]; omega⟩
end SW
set_option Elab.async false
set_option linter.all false
set_option maxRecDepth 100000
namespace SW
open PySem PySem.Spec L2 TL SF
open PyProof.Rows hiding St
structure LI (N : Nds) (st : Option (List Str) × Rows) : Prop where
  ri : RI N st.2
  le : ∀ l, st.1 = some l → l.Nodup ∧ ∀ w ∈ l, w ∈ N.map (·.1)
theorem LI.step {N : Nds} {goal : List Pr} {st : Option (List Str) × Rows} (I : LI N st) (c : Int) : LI N (leastStep N goal st c) ∧ (leastStep N goal st c).2.length ≤ st.2.length + N.length := by
  unfold leastStep
  cases e : getR st.2 c with
  | none => exact ⟨I, by simp⟩
  | some row =>
    have h := I.ri.get e
    obtain ⟨a, b⟩ := growF_ri (c := c) h (s := settledByF N row) N (fun _ h => h) st.2 0 I.ri
    refine ⟨⟨a, fun l hl => ?_⟩, b⟩
    simp only [betterF] at hl
    split at hl
    · cases hl; exact h
    · exact I.le l hl
end SW
set_option Elab.async false
set_option linter.all false
set_option maxRecDepth 100000
namespace SW
open PySem PySem.Spec L2 TL SF
open PyProof.Rows hiding St
def aheadG (a k v : Str) : List Pr → Ch → Option (List Pr)
  | _, [] => none
  | acc, p :: c => if p.1 = k then (if p.2 = v then some acc else none) else aheadG a k v (if p.2 = v then acc else acc ++ [(a, p.1)]) c
def aheadF (a : Str) (c : Ch) (k v : Str) : Option (List Pr) := aheadG a k v [] c
abbrev paB : BS := bSeq (bIf (fTest (fBin eqT (fVar 5) (fVar 2))) (bRet (fIf (fTest (fBin eqT (fVar 6) (fVar 3))) (fVar 4) (fC .non))) bNext) (bIf (fTest (fBin neT (fVar 6) (fVar 3))) (bExpr (fApp (fVar 4) (fCons (fTupE (fCons (fVar 0) (fCons (fVar 5) fNil))) fNil))) bNext)
theorem pa_step {a k v o w : Str} (so : So o) (sk : So k) (sw : So w) (sv : So v) {acc : List Pr} (hz : acc.length ≤ 1000) {ct : T} (S : Sto) :
    paB [some (.str a), some ct, some (.str k), some (.str v), some (.ref S.length), some (.str o), some (.str w)] (S ++ [.lst (acc.map prT)]) = if o = k then (if w = v then .rt (.ref S.length) (S ++ [.lst (acc.map prT)]) else .rt .non (S ++ [.lst (acc.map prT)])) else .nx [some (.str a), some ct, some (.str k), some (.str v), some (.ref S.length), some (.str o), some (.str w)] (S ++ [.lst ((if w = v then acc else acc ++ [(a, o)]).map prT)]) := by
  have e1 := SF.eq_str so sk (S ++ [T.lst (acc.map prT)])
  have e2 := SF.eq_str sw sv (S ++ [T.lst (acc.map prT)])
  have e3 := SF.ne_str sw sv (S ++ [T.lst (acc.map prT)])
  have l0 : lstAt (S ++ [T.lst (acc.map prT)]) S.length = some (acc.map prT) := by unfold lstAt; simp
  have z1 : (acc.map prT).length < sizeLine := by rw [List.length_map]; exact Nat.lt_of_le_of_lt hz (by decide)
  have e4 : (S ++ [T.lst (acc.map prT)]).set S.length (.lst (acc.map prT ++ [T.etp [.str a, .str o]])) = S ++ [T.lst ((acc ++ [(a, o)]).map prT)] := by simp [prT]
  by_cases h1 : o = k
  · rw [if_pos h1]
    rw [decide_eq_true h1] at e1
    by_cases h2 : w = v
    · rw [if_pos h2]
      rw [decide_eq_true h2] at e2
      generalize acc.map prT = at' at *
      simp_arith [e1, e2]
    · rw [if_neg h2]
      rw [decide_eq_false h2] at e2
      generalize acc.map prT = at' at *
      simp_arith [e1, e2]
  · rw [if_neg h1]
    rw [decide_eq_false h1] at e1
    by_cases h2 : w = v
    · rw [if_pos h2]
      rw [decide_eq_true h2] at e3
      generalize acc.map prT = at' at *
      simp_arith [e1, e3]
    · rw [if_neg h2]
      rw [decide_eq_false h2] at e3
      generalize (acc ++ [(a, o)]).map prT = at2 at *
      generalize acc.map prT = at' at *
      simp_arith [e1, e3, fTupE, l0, z1, e4, small16 (show 2 ≤ 200 by omega)]
theorem pa_run {a k v : Str} (sk : So k) (sv : So v) {ct : T} (S : Sto) : ∀ (c : Ch) (acc : List Pr) (x5 x6 : Option T), (∀ p ∈ c, So p.1 ∧ So p.2) → acc.length + c.length ≤ 1000 →
    match aheadG a k v acc c with
    | some l => forF (sTup 2 (sCons (sName 5) (sCons (sName 6) sNil))) paB (c.map pT) [some (.str a), some ct, some (.str k), some (.str v), some (.ref S.length), x5, x6] (S ++ [.lst (acc.map prT)]) = .rt (.ref S.length) (S ++ [.lst (l.map prT)])
    | none => (∃ l : List Pr, forF (sTup 2 (sCons (sName 5) (sCons (sName 6) sNil))) paB (c.map pT) [some (.str a), some ct, some (.str k), some (.str v), some (.ref S.length), x5, x6] (S ++ [.lst (acc.map prT)]) = .rt .non (S ++ [.lst (l.map prT)])) ∨
      ∃ (l : List Pr) (y5 y6 : Option T), forF (sTup 2 (sCons (sName 5) (sCons (sName 6) sNil))) paB (c.map pT) [some (.str a), some ct, some (.str k), some (.str v), some (.ref S.length), x5, x6] (S ++ [.lst (acc.map prT)]) = .nx [some (.str a), some ct, some (.str k), some (.str v), some (.ref S.length), y5, y6] (S ++ [.lst (l.map prT)]) := by
  intro c
  induction c with
  | nil => exact fun acc x5 x6 _ _ => .inr ⟨acc, x5, x6, rfl⟩
  | cons p c ih =>
    intro acc x5 x6 hc hz
    rw [List.length_cons] at hz
    obtain ⟨s1, s2⟩ := hc p List.mem_cons_self
    have b := pa_step (a := a) (k := k) (v := v) (o := p.1) (w := p.2) s1 sk s2 sv (acc := acc) (by omega) (ct := ct) S
    have g1 : sTup 2 (sCons (sName 5) (sCons (sName 6) sNil)) (pT p) = some [(5, .str p.1), (6, .str p.2)] := rfl
    have t1 : setsT [some (.str a), some ct, some (.str k), some (.str v), some (.ref S.length), x5, x6] [(5, T.str p.1), (6, .str p.2)] = [some (.str a), some ct, some (.str k), some (.str v), some (.ref S.length), some (.str p.1), some (.str p.2)] := rfl
    rw [List.map_cons]
    unfold aheadG forF
    simp only [g1, t1, b]
    by_cases h1 : p.1 = k
    · rw [if_pos h1, if_pos h1]
      by_cases h2 : p.2 = v
      · rw [if_pos h2, if_pos h2]
      · rw [if_neg h2, if_neg h2]
        exact .inl ⟨acc, rfl⟩
    · rw [if_neg h1, if_neg h1]
      exact ih (if p.2 = v then acc else acc ++ [(a, p.1)]) _ _ (fun x hx => hc x (List.mem_cons_of_mem _ hx)) (by
        split
        · omega
        · rw [List.length_append, List.length_singleton]; omega)
theorem nrs_pr (l : List Pr) : nrs (l.map prT) = true := nrs_map fun _ _ => rfl
theorem pairs_ahead_ok {a k v : Str} {c : Ch} (sk : So k) (sv : So v) (hc : ∀ p ∈ c, So p.1 ∧ So p.2) (hz : c.length ≤ 100) : Pu m_pairs_ahead [.str a, chT c, .str k, .str v] (ahT (aheadF a c k v)) := by
  intro S
  have r := pa_run (a := a) sk sv (ct := chT c) S c [] none none hc (by simp; omega)
  unfold m_pairs_ahead aheadF
  have e0 : b_pairs_ahead = bSeq (bSet 4 (fCell (fLstN fNil))) (bSeq (bFor (fiA (fVar 1)) (sTup 2 (sCons (sName 5) (sCons (sName 6) sNil))) paB) (bRet (fC .non))) := rfl
  rw [e0]
  have fi : fiA (fVar 1) [some (.str a), some (chT c), some (.str k), some (.str v), some (.ref S.length), none, none] (S ++ [T.lst []]) = .ok (c.map pT) (S ++ [T.lst []]) := rfl
  generalize fiA (fVar 1) = fa at fi ⊢
  generalize paB = pb at r ⊢
  rw [List.map_nil] at r
  generalize chT c = ct at *
  cases ha : aheadG a k v [] c with
  | some l =>
    rw [ha] at r
    simp only at r
    refine gc_ref (J := [.lst (l.map prT)]) (m := S.length) ?_ (Nat.le_refl _) (by simp) (nrs_pr l)
    generalize l.map prT = lt at *
    simp_arith [small16 (show 0 ≤ 200 by omega), fi, r]
  | none =>
    rw [ha] at r
    simp only at r
    rcases r with ⟨l, r⟩ | ⟨l, y5, y6, r⟩
    · refine gc_pure (t := .non) ⟨[.lst (l.map prT)], ?_⟩ rfl
      generalize l.map prT = lt at *
      simp_arith [small16 (show 0 ≤ 200 by omega), fi, r]
    · refine gc_pure (t := .non) ⟨[.lst (l.map prT)], ?_⟩ rfl
      generalize l.map prT = lt at *
      simp_arith [small16 (show 0 ≤ 200 by omega), fi, r]
def needF (wf : Str → Ch) (free : List Str) (c : SF.Code) : Need := (c.g.filter fun p => !decide (p.1 ∈ free)).map fun p => ((p.1, c.k), aheadF p.1 (wf p.1) c.k p.2)
def needsF (b : Bk) (wf : Str → Ch) (free : List Str) : Nds := b.cs.map fun c => (c.w, needF wf free c)
def goalF (w : Wi) : List Pr := (w.map fun p => p.2.map fun q => (p.1, q.1)).flatten
structure WG (w : Wi) : Prop where
  nd : (w.map (·.1)).Nodup
  so : ∀ p ∈ w, ∀ q ∈ p.2, So q.1 ∧ So q.2
  ln : ∀ p ∈ w, p.2.length ≤ 20
  len : w.length ≤ 6
theorem WG.f {w : Wi} (W : WG w) (a : Str) : (∀ p ∈ wishF w a, So p.1 ∧ So p.2) ∧ (wishF w a).length ≤ 20 := by
  unfold wishF
  cases e : w.find? fun p => decide (p.1 = a) with
  | none => exact ⟨fun _ h => (List.not_mem_nil h).elim, Nat.zero_le _⟩
  | some p => exact ⟨W.so p (List.mem_of_find?_eq_some e), W.ln p (List.mem_of_find?_eq_some e)⟩
def wiD (w : Wi) : T := .dct (w.map fun p => Sum.inr p.1) (w.map fun p => chT p.2)
noncomputable abbrev inB1 : BS := bIf (fTest (fBin ninT (fVar 9) (fVar 2))) (bExpr (fApp (fVar 8) (fCons (fTup (fCons (fTupE (fCons (fVar 9) (fCons (fVar 6) fNil))) (fCons (fCall m_pairs_ahead (fCons (fVar 9) (fCons (fGet (fVar 3) (fVar 9) (fTup fNil)) (fCons (fVar 6) (fCons (fVar 10) fNil))))) fNil))) fNil))) bNext
theorem in_step {w : Wi} (W : WG w) {free : List Str} {c : SF.Code} (sk : So c.k) {p : Str × Str} (sv : So p.2) {acc : Need} (hz : acc.length ≤ 1000) {bt wt wo gt rf : T} {x11 : Option T} (U : Sto) :
    inB1 [some bt, some wt, some (SF.tS free), some (wiD w), some rf, some wo, some (.str c.k), some gt, some (.ref U.length), some (.str p.1), some (.str p.2), x11] (U ++ [ndT acc]) = .nx [some bt, some wt, some (SF.tS free), some (wiD w), some rf, some wo, some (.str c.k), some gt, some (.ref U.length), some (.str p.1), some (.str p.2), x11] (U ++ [ndT (if p.1 ∈ free then acc else acc ++ [((p.1, c.k), aheadF p.1 (wishF w p.1) c.k p.2)])]) := by
  have n1 : ninT (U ++ [ndT acc]) (.str p.1) (SF.tS free) = some (.bl !(decide (p.1 ∈ free))) := nin_of (in_tup p.1 free _)
  obtain ⟨f1, f2⟩ := W.f p.1
  have pa := pairs_ahead_ok (a := p.1) sk sv f1 (by omega) (U ++ [ndT acc])
  have gk : getD3 (U ++ [ndT acc]) (wiD w) (.str p.1) (.tup []) = some (chT (wishF w p.1)) := by
    show some ((getK (w.map fun p => Sum.inr p.1) (w.map fun p => chT p.2) (.inr p.1)).getD (.tup [])) = _
    rw [getK_wi]
  have dk : ∀ r, dOk (U ++ [ndT acc]) (wiD w) r = r := fun r => rfl
  have l0 : lstAt (U ++ [ndT acc]) U.length = some (acc.map ndP) := by unfold lstAt ndT; simp
  have z1 : (acc.map ndP).length < sizeLine := by rw [List.length_map]; exact Nat.lt_of_le_of_lt hz (by decide)
  have e4 : (U ++ [ndT acc]).set U.length (.lst (acc.map ndP ++ [T.tup [.etp [.str p.1, .str c.k], ahT (aheadF p.1 (wishF w p.1) c.k p.2)]])) = U ++ [ndT (acc ++ [((p.1, c.k), aheadF p.1 (wishF w p.1) c.k p.2)])] := by simp [ndT, ndP, prT]
  by_cases hm : p.1 ∈ free
  · rw [if_pos hm]
    rw [decide_eq_true hm] at n1
    generalize SF.tS free = ft at *
    generalize wiD w = wd at *
    generalize ndT acc = nt at *
    simp_arith [n1]
  · rw [if_neg hm]
    rw [decide_eq_false hm] at n1
    generalize ndT (acc ++ [((p.1, c.k), aheadF p.1 (wishF w p.1) c.k p.2)]) = nt2 at *
    generalize SF.tS free = ft at *
    generalize wiD w = wd at *
    generalize acc.map ndP = am at *
    generalize ndT acc = nt at *
    generalize ahT (aheadF p.1 (wishF w p.1) c.k p.2) = ah at *
    generalize chT (wishF w p.1) = cw at *
    unfold inB1
    generalize m_pairs_ahead = f1 at pa ⊢
    simp_arith [n1, fGet, gk, dk, okT, pa, fTupE, l0, z1, e4, small16 (show 0 ≤ 200 by omega), small16 (show 2 ≤ 200 by omega), small16 (show 1 ≤ 200 by omega)]
end SW
set_option Elab.async false
set_option linter.all false
set_option maxRecDepth 100000
namespace SW
open PySem PySem.Spec L2 TL SF
open PyProof.Rows hiding St
end SW
set_option Elab.async false
set_option linter.all false
set_option maxRecDepth 100000
namespace SW
open PySem PySem.Spec L2 TL SF
open PyProof.Rows hiding St
structure HW (b : Bk) (w : Wi) (l : List Str) : Prop where
  wg : WG w
  sub : ∀ p ∈ w, p.1 ∈ b.asp
  le : w.length ≤ b.asp.length
  nm : ∀ p ∈ w, Nm p.1
  cn : ∀ p ∈ w, CN p.2
  ne : ∀ p ∈ w, p.2 ≠ []
  asc : ∀ S, m_ascend [.lst ((w.map (·.1)).map T.str)] S = .ok (.bl true) S
  fsub : ∀ a ∈ l, a ∈ b.asp
  fno : ∀ a ∈ l, a ∉ w.map (·.1)
  fnm : ∀ S, m_are_names [SF.tS l, .int b.asp.length] S = .ok (.bl true) S
  fl : l.length ≤ 6
def SZ (b : Bk) : Prop := ∀ c ∈ b.cs, So c.w ∧ c.w.length ≤ 200
section
variable {b : Bk} (G : GC b) (Z : SZ b) {w : Wi} {l : List Str} (W : HW b w l) {S : Sto} (C : Cl S)
include G Z W C
end
end SW
set_option Elab.async false
set_option linter.all false
set_option maxRecDepth 100000
namespace SF
open PySem PySem.Spec L2 TL
open PyProof.Rows hiding St
end SF
set_option Elab.async false
set_option linter.all false
set_option maxRecDepth 100000
namespace SF
open PySem PySem.Spec L2 TL
open PyProof.Rows hiding St
end SF
set_option Elab.async false
set_option linter.all false
set_option maxRecDepth 100000
namespace SF
open PySem PySem.Spec L2 TL
open PyProof.Rows hiding St
end SF
set_option Elab.async false
set_option linter.all false
set_option maxRecDepth 100000
namespace SW
open PySem PySem.Spec L2 TL SF
open PyProof.Rows hiding St
theorem inP_iff {s : List Pr} {p : Pr} : inP s p = true ↔ p ∈ s := by unfold inP; exact decide_eq_true_iff
theorem allP_iff {s l : List Pr} : allP s l = true ↔ ∀ p ∈ l, p ∈ s := by
  unfold allP
  rw [List.all_eq_true]
  exact ⟨fun h p hp => inP_iff.mp (h p hp), fun h p hp => inP_iff.mpr (h p hp)⟩
theorem mem_putP {s : List Pr} {p q : Pr} : q ∈ putP s p ↔ q ∈ s ∨ q = p := by
  unfold putP
  split
  · rename_i h
    exact ⟨.inl, fun z => z.elim id fun e => e ▸ inP_iff.mp h⟩
  · rw [List.mem_append, List.mem_singleton]
theorem mem_settleF {n : Need} : ∀ {s : List Pr} {q : Pr}, q ∈ settleF s n ↔ q ∈ s ∨ ∃ r ∈ n, r.1 = q := by
  induction n with
  | nil => intro s q; simp [settleF]
  | cons r n ih =>
    intro s q
    show q ∈ settleF (putP s r.1) n ↔ _
    rw [ih, mem_putP]
    constructor
    · rintro ((h | h) | ⟨x, hx, h⟩)
      · exact .inl h
      · exact .inr ⟨r, List.mem_cons_self, h.symm⟩
      · exact .inr ⟨x, List.mem_cons_of_mem _ hx, h⟩
    · rintro (h | ⟨x, hx, h⟩)
      · exact .inl (.inl h)
      · rcases List.mem_cons.mp hx with rfl | hx
        · exact .inl (.inr h.symm)
        · exact .inr ⟨x, hx, h⟩
theorem mem_settled (N : Nds) : ∀ {ws : List Str} {s : List Pr} {q : Pr}, q ∈ ws.foldl (fun s w => settleF s (getN N w)) s ↔ q ∈ s ∨ ∃ w ∈ ws, ∃ r ∈ getN N w, r.1 = q := by
  intro ws
  induction ws with
  | nil => intro s q; simp
  | cons w ws ih =>
    intro s q
    rw [List.foldl_cons, ih, mem_settleF]
    constructor
    · rintro ((h | ⟨r, hr, h⟩) | ⟨x, hx, h⟩)
      · exact .inl h
      · exact .inr ⟨w, List.mem_cons_self, r, hr, h⟩
      · exact .inr ⟨x, List.mem_cons_of_mem _ hx, h⟩
    · rintro (h | ⟨x, hx, h⟩)
      · exact .inl (.inl h)
      · rcases List.mem_cons.mp hx with rfl | hx
        · exact .inl (.inr h)
        · exact .inr ⟨x, hx, h⟩
theorem mem_settledBy {N : Nds} {ws : List Str} {q : Pr} : q ∈ settledByF N ws ↔ ∃ w ∈ ws, ∃ r ∈ getN N w, r.1 = q := by
  unfold settledByF
  rw [mem_settled]
  exact ⟨fun z => z.elim (fun h => (List.not_mem_nil h).elim) id, .inr⟩
theorem freeP_mono {s t : List Pr} (h : ∀ p ∈ s, p ∈ t) {q : Pr × Option (List Pr)} (f : freeP s q = true) : freeP t q = true := by
  unfold freeP at f ⊢
  rw [Bool.or_eq_true] at f ⊢
  rcases f with f | f
  · exact .inl (inP_iff.mpr (h _ (inP_iff.mp f)))
  · refine .inr ?_
    cases e : q.2 with
    | none => rw [e] at f; cases f
    | some l =>
      rw [e] at f
      exact allP_iff.mpr fun p hp => h p (allP_iff.mp f p hp)
theorem canF_mono {s t : List Pr} (h : ∀ p ∈ s, p ∈ t) {n : Need} (c : canF s n = true) : canF t n = true := by
  unfold canF at c ⊢
  rw [List.all_eq_true] at c ⊢
  exact fun q hq => freeP_mono h (c q hq)
theorem reachL_some {N : Nds} : ∀ {ws : List Str} {s t : List Pr}, reachL N s ws = some t → t = ws.foldl (fun s w => settleF s (getN N w)) s := by
  intro ws
  induction ws with
  | nil => intro s t h; cases h; rfl
  | cons w ws ih =>
    intro s t h
    unfold reachL at h
    split at h
    · rw [List.foldl_cons]; exact ih h
    · cases h
theorem reachL_cons (N : Nds) (s : List Pr) (w : Str) (ws : List Str) : reachL N s (w :: ws) = if canF s (getN N w) then reachL N (settleF s (getN N w)) ws else none := rfl
theorem reachL_app {N : Nds} : ∀ {ws vs : List Str} {s : List Pr}, reachL N s (ws ++ vs) = (reachL N s ws).bind fun t => reachL N t vs := by
  intro ws
  induction ws with
  | nil => intro vs s; rfl
  | cons w ws ih =>
    intro vs s
    rw [List.cons_append, reachL_cons, reachL_cons]
    split
    · exact ih
    · rfl
structure TK (N : Nds) (ws : List Str) : Prop where
  nd : ws.Nodup
  sub : ∀ w ∈ ws, w ∈ N.map (·.1)
  leg : reachL N [] ws = some (settledByF N ws)
  top : ∀ q ∈ N, q.1 ∈ ws ∨ canF (settledByF N ws) q.2 = false
theorem TK.all {N : Nds} (E : NE N) {ws : List Str} (K : TK N ws) : ∀ {vs : List Str} {s t : List Pr}, (∀ w ∈ vs, w ∈ N.map (·.1)) → (∀ p ∈ s, p ∈ settledByF N ws) → reachL N s vs = some t → (∀ w ∈ vs, w ∈ ws) ∧ ∀ p ∈ t, p ∈ settledByF N ws := by
  intro vs
  induction vs with
  | nil => intro s t _ hs h; cases h; exact ⟨fun _ h => (List.not_mem_nil h).elim, hs⟩
  | cons v vs ih =>
    intro s t hv hs h
    unfold reachL at h
    split at h
    · rename_i c
      obtain ⟨q, hq, eq⟩ := List.mem_map.mp (hv v List.mem_cons_self)
      have g : getN N v = q.2 := by rw [← eq]; exact getN_at E hq
      have mem : v ∈ ws := by
        rcases K.top q hq with m | m
        · exact eq ▸ m
        · rw [g] at c
          rw [canF_mono hs c] at m
          cases m
      obtain ⟨a, b⟩ := ih (fun x hx => hv x (List.mem_cons_of_mem _ hx)) (fun p hp => by
        rw [mem_settleF] at hp
        rcases hp with hp | ⟨r, hr, e⟩
        · exact hs p hp
        · exact mem_settledBy.mpr ⟨v, mem, r, hr, e⟩) h
      exact ⟨fun x hx => (List.mem_cons.mp hx).elim (fun e => e ▸ mem) (a x), b⟩
    · cases h
end SW
set_option Elab.async false
set_option linter.all false
set_option maxRecDepth 100000
namespace SW
open PySem PySem.Spec L2 TL SF
open PyProof.Rows hiding St
structure MK (N : Nds) (m : Nat) (ws : List Str) : Prop where
  lt : m < 2 ^ N.length
  bit : ∀ i q, N[i]? = some q → (m.testBit i = true ↔ q.1 ∈ ws)
structure LG (N : Nds) (row : List Str) : Prop where
  nd : row.Nodup
  sub : ∀ w ∈ row, w ∈ N.map (·.1)
  leg : ∃ s, reachL N [] row.reverse = some s
theorem nd_ix {N : Nds} (E : NE N) {i j : Nat} {p q : Str × Need} (h1 : N[i]? = some p) (h2 : N[j]? = some q) (e : p.1 = q.1) : i = j := by
  have nd := E.nd
  have a : (N.map (·.1))[i]? = some p.1 := by rw [List.getElem?_map, h1]; rfl
  have b : (N.map (·.1))[j]? = some p.1 := by rw [List.getElem?_map, h2, e]; rfl
  obtain ⟨hi, ei⟩ := List.getElem?_eq_some_iff.mp a
  obtain ⟨hj, ej⟩ := List.getElem?_eq_some_iff.mp b
  exact (List.getElem_inj nd).mp (ei.trans ej.symm)
theorem MK.add {N : Nds} (E : NE N) {m : Nat} {row : List Str} (K : MK N m row) {i : Nat} {q : Str × Need} (hi : N[i]? = some q) : MK N (m ||| 2 ^ i) (q.1 :: row) where
  lt := by
    have hl : i < N.length := (List.getElem?_eq_some_iff.mp hi).1
    exact Nat.or_lt_two_pow K.lt (Nat.pow_lt_pow_right (by omega) hl)
  bit := fun j p hj => by
    rw [Nat.testBit_or, Bool.or_eq_true, K.bit j p hj, Nat.testBit_two_pow, decide_eq_true_eq, List.mem_cons]
    constructor
    · rintro (h | rfl)
      · exact .inr h
      · rw [hi] at hj; cases hj; exact .inl rfl
    · rintro (h | h)
      · exact .inr (nd_ix E hj hi h).symm
      · exact .inl h
theorem settled_same {N : Nds} {ws vs : List Str} (h : ∀ w ∈ ws, w ∈ vs) : ∀ p ∈ settledByF N ws, p ∈ settledByF N vs := fun p hp => by
  obtain ⟨w, hw, r⟩ := mem_settledBy.mp hp
  exact mem_settledBy.mpr ⟨w, h w hw, r⟩
theorem LG.add {N : Nds} (E : NE N) {row : List Str} (L : LG N row) {q : Str × Need} (hq : q ∈ N) (g : growB row (settledByF N row) q = true) : LG N (q.1 :: row) where
  nd := (grow_row ⟨L.nd, L.sub⟩ hq g).1
  sub := (grow_row ⟨L.nd, L.sub⟩ hq g).2
  leg := by
    obtain ⟨s, e⟩ := L.leg
    have es := reachL_some e
    rw [List.reverse_cons, reachL_app, e]
    show ∃ t, reachL N s [q.1] = some t
    rw [reachL_cons, getN_at E hq]
    unfold growB at g
    simp only [Bool.and_eq_true] at g
    have c : canF s q.2 = true := canF_mono (fun p hp => by
      rw [es]
      exact settled_same (ws := row) (vs := row.reverse) (fun w hw => List.mem_reverse.mpr hw) p hp) g.2
    rw [if_pos c]
    exact ⟨_, rfl⟩
theorem MK.zero {N : Nds} {m : Nat} (K : MK N m []) : m = 0 := by
  refine Nat.eq_of_testBit_eq fun i => ?_
  rw [Nat.zero_testBit]
  by_cases hi : i < N.length
  · have := K.bit i N[i] (List.getElem?_eq_getElem hi)
    rw [Bool.eq_false_iff]
    exact fun h => (List.not_mem_nil (this.mp h)).elim
  · exact Nat.testBit_lt_two_pow (Nat.lt_of_lt_of_le K.lt (Nat.pow_le_pow_right (by omega) (by omega)))
theorem MK.same {N : Nds} {m : Nat} {ws vs : List Str} (K : MK N m ws) (K' : MK N m vs) (hs : ∀ w ∈ ws, w ∈ N.map (·.1)) : ∀ w ∈ ws, w ∈ vs := fun w hw => by
  obtain ⟨q, hq, rfl⟩ := List.mem_map.mp (hs w hw)
  obtain ⟨i, hi, e⟩ := List.mem_iff_getElem.mp hq
  have h1 := K.bit i q (by rw [List.getElem?_eq_getElem hi, e])
  have h2 := K'.bit i q (by rw [List.getElem?_eq_getElem hi, e])
  exact h2.mp (h1.mpr hw)
end SW
set_option Elab.async false
set_option linter.all false
set_option maxRecDepth 100000
namespace SW
open PySem PySem.Spec L2 TL SF
open PyProof.Rows hiding St
structure BN (b : Bk) : Prop where
  gn : ∀ c ∈ b.cs, (c.g.map (·.1)).Nodup
  wn : (b.cs.map (·.w)).Nodup
section
variable {b : Bk} (N : BN b) {wf : Str → Ch} (gn : ∀ a, ((wf a).map (·.1)).Nodup) {free : List Str}
include N
include gn
end
end SW
set_option Elab.async false
set_option linter.all false
set_option maxRecDepth 100000
namespace SW
open PySem PySem.Spec L2 TL SF
open PyProof.Rows hiding St
end SW
set_option Elab.async false
set_option linter.all false
set_option maxRecDepth 100000
namespace SF
open PySem PySem.Spec L2 TL
open PyProof.Rows hiding St
end SF
set_option Elab.async false
set_option linter.all false
set_option maxRecDepth 100000
namespace SF
open PySem PySem.Spec L2 TL
open PyProof.Rows hiding St
end SF
set_option Elab.async false
set_option linter.all false
set_option maxRecDepth 100000
namespace SW
open PySem PySem.Spec L2 TL SF
open PyProof.Rows hiding St
end SW
set_option Elab.async false
set_option linter.all false
set_option maxRecDepth 100000
namespace SW
open PySem PySem.Spec L2 TL SF
open PyProof.Rows hiding St
end SW
set_option Elab.async false
set_option linter.all false
set_option maxRecDepth 100000
namespace SW
open PySem PySem.Spec L2 TL SF
open PyProof.Rows hiding St
end SW
set_option Elab.async false
set_option linter.all false
set_option maxRecDepth 100000
namespace SW
open PySem PySem.Spec L2 TL SF
open PyProof.Rows hiding St
section
variable {b : Bk} {w : Wi} {l ws : List Str} (W : HW b w l) (hw : ∀ x ∈ ws, x ∈ b.cs.map (·.w))
include W hw
end
end SW
set_option Elab.async false
set_option linter.all false
set_option maxRecDepth 100000
namespace SW
open PySem PySem.Spec L2 TL SF
open PyProof.Rows hiding St
section
variable {b : Bk} (B : BL b) {w : Wi} (W : WI b w) {l : List Str} (F : FR b w l)
include B W F
end
end SW
set_option Elab.async false
set_option linter.all false
set_option maxRecDepth 100000
set_option maxHeartbeats 2000000
namespace SW
open PySem PySem.Spec L2 TL SF
open PyProof.Rows hiding St
end SW
set_option Elab.async false
set_option linter.all false
set_option maxRecDepth 100000
namespace SW
open PySem PySem.Spec L2 TL SF
open PyProof.Rows hiding St
def VO : List Str := ["yellow", "u", "red"]
def VT : List Str := ["orange", "v", "teal"]
def VH : List Str := ["bold", "w", "heavy"]
def hcs (o t h : Str) : List SF.Code := [⟨"0", "basic", [("ink", "plain"), ("weight", "plain")]⟩, ⟨"1", "basic", [("weight", h)]⟩, ⟨"33", "basic", [("ink", o)]⟩, ⟨"38;5;208", "many", [("ink", t)]⟩, ⟨"39", "basic", [("ink", "plain")]⟩]
def hbk (o t h : Str) : Bk := ⟨["ink", "weight"], [], hcs o t h⟩
def HWd : List Str := ["0", "1", "33", "38;5;208", "39"]
theorem hw_so : ∀ x ∈ HWd, So x ∧ x.length ≤ 200 := by decide +kernel
section
variable {o t h : Str} (ho : o ∈ VO) (ht : t ∈ VT) (hh : h ∈ VH)
include ho ht hh
theorem hsz : SZ (hbk o t h) := fun c hc => hw_so _ (List.mem_map_of_mem (f := (·.w)) hc)
end
end SW
set_option Elab.async false
set_option linter.all false
set_option maxRecDepth 100000
namespace SW
open PySem PySem.Spec L2 TL SF
open PyProof.Rows hiding St
abbrev sB (b : Bk) (w : Wi) (l : List Str) : Option (List Str) := leastF (needsF b (wishF w) l) (goalF w)
abbrev rB (b : Bk) (w : Wi) (l : List Str) : Bool × List Str := rowOrBar (needsF b (wishF w) l) (goalF w)
end SW
set_option Elab.async false
set_option linter.all false
set_option maxRecDepth 100000
namespace SW
open PySem PySem.Spec L2 TL SF
open PyProof.Rows hiding St
section
variable (o t h : Str) (S : Sto)
end
end SW
set_option Elab.async false
set_option linter.all false
set_option maxRecDepth 100000
namespace SW
open PySem PySem.Spec L2 TL SF
open PyProof.Rows hiding St
section
variable {o t h : Str} (ho : o ∈ VO) (ht : t ∈ VT) (hh : h ∈ VH)
include ho ht hh
end
end SW
set_option Elab.async false
set_option linter.all false
set_option maxRecDepth 100000
namespace SW
open PySem PySem.Spec L2 TL SF
open PyProof.Rows hiding St
theorem noDs_allT {ts : List T} (h : ∀ t ∈ ts, noD t = true) : noDs ts = true := by
  induction ts with
  | nil => rfl
  | cons t ts ih => simp only [noDs, h t List.mem_cons_self, ih fun x hx => h x (List.mem_cons_of_mem _ hx), Bool.and_true]
theorem body_rt {N : List Str} {n : Nat} {B : BS} {ts : List T} {S U : Sto} {t : T} (hl : ts.length = n) (h : B (startT N ts) S = .rt t U) : body N n B ts S = .ok t U := by
  unfold body
  rw [h, if_pos hl]
  rfl
section
variable {o t h : Str} (ho : o ∈ VO) (ht : t ∈ VT) (hh : h ∈ VH)
include ho ht hh
end
end SW
set_option Elab.async false
set_option linter.all false
set_option maxRecDepth 100000
namespace SW
open PySem PySem.Spec L2 TL SF
open PyProof.Rows hiding St
theorem Cl.s0 (ls cs : List Int) (a : Nat) : Cl (S2 ls cs a []) := by
  have h : ∀ l : List Int, noDs (l.map T.int) = true := fun l => noDs_allT fun t ht => by
    obtain ⟨i, _, rfl⟩ := List.mem_map.mp ht
    rfl
  refine Cl.cons (h ls) (Cl.cons ?_ Cl.nil)
  show noDs [.lst (cs.map T.int), .ref 0, .int a, .int 0] = true
  simp only [noDs, noD, h, Bool.and_true]
end SW
set_option Elab.async false
set_option linter.all false
set_option maxRecDepth 100000
namespace SW
open PySem PySem.Spec L2 TL SF
open PyProof.Rows hiding St
def WW : List Str := ["10", "11", "12", "13", "14", "15", "16", "17", "18", "19", "20"]
section
variable {n : Nat} {wt lt : T} {S : Sto}
end
end SW
set_option Elab.async false
set_option linter.all false
set_option maxRecDepth 100000
set_option maxHeartbeats 4000000
namespace SQ
open PySem PySem.Spec L2 TL SF
open PyProof.Rows hiding St
section
variable {n : Nat} {cs : List Nat} {FE : TL.FE} {τ : Fr} {S : Sto} {ts : List T}
theorem is_non (U : Sto) : isNT U .non .non = some (.bl true) := rfl
theorem is_err (U : Sto) (x : Str) (fs : List Str) (us : List T) : isNT U (.err x fs us) .non = some (.bl false) := rfl
theorem x_bind {α β : Type} (x : XT) (S : Sto) (f : α → Sto → Res β) : (Res.exc x S : Res α).bind f = .exc x S := rfl
theorem x_bindS {α : Type} (x : XT) (S : Sto) (τ : Fr) (f : α → Sto → RS) : (Res.exc x S : Res α).bindS τ f = .exc x τ S := rfl
theorem ask_x {kn acc : List Str} {x : Str} {fs : List Str} {us : List T} {τ : Fr} {U : Sto} {i : Nat} (hx : x ∈ kn) (hi : τ[i]? = some (some (.err x fs us))) : fAsk kn acc (fVar i) τ U = .ok (.bl (decide (x ∈ acc))) U := by
  unfold fAsk fVar
  rw [hi]
  show (if x ∈ kn then _ else _) = _
  rw [if_pos hx]
theorem fld_at {kn : List Str} {f x : Str} {fs : List Str} {us : List T} {u : T} {τ : Fr} {U : Sto} {i : Nat} (hi : τ[i]? = some (some (.err x fs us))) (h : fldT kn f (.err x fs us) = some u) : fFld kn f (fVar i) τ U = .ok u U := by
  unfold fFld fVar
  rw [hi]
  show (ofO (fldT kn f (.err x fs us)) U) = _
  rw [h]
  rfl
end
end SQ
set_option Elab.async false
set_option linter.all false
set_option maxRecDepth 100000
set_option maxHeartbeats 2000000
namespace SW
open PySem PySem.Spec L2 TL SF
open PyProof.Rows hiding St
abbrev sw (n : Nat) : List Str := sortS (W8.take n)
section
variable {b : Bk} (B : BL b) (h5 : b.cs.length ≤ 5) {w : Wi} (W : WI b w) {l : List Str} (F : FR b w l)
include B h5 W F
end
end SW
set_option Elab.async false
set_option linter.all false
set_option maxRecDepth 100000
namespace SF
open PySem PySem.Spec L2 TL
open PyProof.Rows hiding St
def A3 : List (List Str) := [["a"], ["a", "b"], ["a", "b", "c"]]
end SF
set_option Elab.async false
set_option linter.all false
set_option maxRecDepth 100000
set_option maxHeartbeats 4000000
namespace SQ
open PySem PySem.Spec L2 TL SF
open PyProof.Rows hiding St
abbrev xB (t : T) : XT := ("BadBook", [("place", t)])
section
variable {b : Bk} {wt lt : T} {S : Sto}
variable {bt rt : T} {x : XT}
end
end SQ
set_option Elab.async false
set_option linter.all false
set_option maxRecDepth 100000
set_option maxHeartbeats 4000000
namespace SQ
open PySem PySem.Spec L2 TL SF
open PyProof.Rows hiding St
def lefts : List T := [.non, .str "a", .lst [.str "a"], .tup [.str "zz"], .tup [.str "a", .str "a"], .tup [.int 5], .tup [.str "b", .str "a"], .bl true]
def rows : List T := [.non, .int 5, .str "1", .lst [.str "1"], .tup [.str "777"], .tup (List.replicate 61 (.str "1")), .tup [.str "1", .non], .dct [] [], .tup [.tup [.str "a"]]]
end SQ
set_option Elab.async false
set_option linter.all false
set_option maxRecDepth 100000
set_option maxHeartbeats 4000000
namespace SQ
open PySem PySem.Spec L2 TL SF
open PyProof.Rows hiding St
def l5 (t : T) : T := .lst [t, t, t, t, t]
def l4 (t : T) : T := .lst [t, t, t, t]
def chkR (t : T) : Bool := match toR t with
  | some d => dispD d && d.showable && decide (d.depth ≤ 60) && decide (d.shown.length ≤ sizeLine) && PyData.strOk d.shown
  | none => false
theorem rp_some : ∀ x ∈ (["wishes", "row", "1", "u", "a", "b", "c", "d", "e", "f", "g", "h", "i", "j", "k", "l", "m"] : List Str), Rp x := by unfold Rp; decide +kernel
section
variable {b : Bk} {n : Nat} {S : Sto}
end
end SQ
set_option Elab.async false
set_option linter.all false
set_option maxRecDepth 100000
set_option maxHeartbeats 4000000
namespace SQ
open PySem PySem.Spec L2 TL SF
open PyProof.Rows hiding St
section
variable {bt wt lt r : T} {x : XT} {S : Sto}
end
end SQ
set_option Elab.async false
set_option linter.all false
set_option maxRecDepth 100000
set_option maxHeartbeats 4000000
namespace SQ
open PySem PySem.Spec L2 TL SF
open PyProof.Rows hiding St
theorem seq_ass (B1 B2 C : BS) (τ : Fr) (S : Sto) : bSeq B1 (bSeq B2 C) τ S = bSeq (bSeq B1 B2) C τ S := by
  unfold bSeq
  cases B1 τ S <;> rfl
theorem seq_nx {A B : BS} {τ τ1 : Fr} {S S1 : Sto} (h : A τ S = .nx τ1 S1) : bSeq A B τ S = B τ1 S1 := by
  unfold bSeq
  rw [h]
theorem seq_nx2 {A B X : BS} {τ τ1 : Fr} {S S1 : Sto} (h : bSeq A B τ S = .nx τ1 S1) : bSeq A (bSeq B X) τ S = X τ1 S1 := by
  rw [seq_ass]
  exact seq_nx h
theorem body_rt {N : List Str} {n : Nat} {B : BS} {ts : List T} {S S1 : Sto} {t : T} (hl : ts.length = n) (h : B (startT N ts) S = .rt t S1) : body N n B ts S = .ok t S1 := by
  unfold TL.body
  rw [if_pos hl, h]
  rfl
end SQ
set_option Elab.async false
set_option linter.all false
set_option maxRecDepth 100000
set_option maxHeartbeats 4000000
namespace SE
open PySem PySem.Spec L2 TL SF
open PyProof.Rows hiding St
open SQ (x_bind x_bindS is_non is_err ask_x fld_at chkR)
section
variable {n : Nat} {cs : List Nat} {FE : TL.FE} {τ : Fr} {S S1 : Sto} {ts : List T}
end
end SE
set_option Elab.async false
set_option linter.all false
set_option maxRecDepth 100000
set_option maxHeartbeats 4000000
namespace SE
open PySem PySem.Spec L2 TL SF
open PyProof.Rows hiding St
open SQ (x_bind x_bindS chkR seq_nx seq_nx2 body_rt rp_some)
def gds : List T := [.tup [], .tup [.tup [.str "j", .str "u"]], .tup [.tup [.str "j", .str "u"], .tup [.str "k", .str "v"]]]
def itm : T → List T
  | .tup ts => ts
  | _ => []
def lgL : List Str := ["aa", "ab", "ac", "ad", "ae", "af", "ag", "ah", "ai", "aj", "ak", "al", "am"]
def lgT : T := .tup (lgL.map fun x => T.tup [.str x, .str "u"])
def bad (g : T) : List T := [.non, .int 5, .str "j", .lst [.tup [.str "j", .str "u"]], .dct [] [], .tup [.tup [.str "j"]], .tup [.tup [.str "j", .str "u", .str "v"]], .tup [.tup [.str "J", .str "u"]], .tup [.tup [.str "j", .str ""]], .tup [.lst [.str "j", .str "u"]],
  .tup (itm g ++ [.tup [.str "i", .str "u"], .tup [.str "i", .str "v"]]), .tup [.tup [.str "abcdefghi", .str "u"]], .tup [.tup [.str "j", .non]], lgT, .tup [.non], .tup [.str "ju"]]
section
variable {t u : T} {S : Sto} {x : XT}
end
end SE
set_option Elab.async false
set_option linter.all false
set_option maxRecDepth 100000
set_option maxHeartbeats 4000000
namespace SE
open PySem PySem.Spec L2 TL SF
open PyProof.Rows hiding St
open SQ (x_bind x_bindS chkR seq_nx seq_nx2 body_rt rp_some)
section
variable {a0 o6 bd : Option T} {g lg t : T} {S : Sto}
end
end SE
set_option Elab.async false
set_option linter.all false
set_option maxRecDepth 100000
set_option maxHeartbeats 4000000
namespace SE
open PySem PySem.Spec L2 TL SF
open PyProof.Rows hiding St
open SQ (x_bind x_bindS chkR seq_nx seq_nx2 body_rt rp_some)
section
variable {a0 o5 o6 o7 o8 bd : Option T} {g : T} {S : Sto}
end
end SE
set_option Elab.async false
set_option linter.all false
set_option maxRecDepth 100000
set_option maxHeartbeats 4000000
namespace SE
open PySem PySem.Spec L2 TL SF
open PyProof.Rows hiding St
open SQ (x_bind x_bindS chkR seq_nx seq_nx2 body_rt rp_some)
section
variable {b : Bk} {xs : List Str} {S : Sto} {t u : T}
end
end SE
set_option Elab.async false
set_option linter.all false
set_option maxRecDepth 100000
set_option maxHeartbeats 4000000
namespace SE
open PySem PySem.Spec L2 TL SF
open PyProof.Rows hiding St
open SQ (x_bind x_bindS chkR seq_nx seq_nx2 body_rt rp_some)
section
variable {b : Bk} {xs : List Str} {S : Sto}
end
end SE
set_option Elab.async false
set_option linter.all false
set_option maxRecDepth 100000
set_option maxHeartbeats 4000000
namespace SE
open PySem PySem.Spec L2 TL SF
open PyProof.Rows hiding St
open SQ (x_bind x_bindS chkR seq_nx seq_nx2 body_rt rp_some)
section
variable {b : Bk} {xs : List Str} {S : Sto} {o f : Option T}
end
end SE
set_option Elab.async false
set_option linter.all false
set_option maxRecDepth 100000
set_option maxHeartbeats 4000000
namespace SE
open PySem PySem.Spec L2 TL SF
open PyProof.Rows hiding St
section
variable {b : Bk} {xs : List Str} {S : Sto} {o f : Option T}
end
end SE
set_option Elab.async false
set_option linter.all false
set_option maxRecDepth 100000
set_option maxHeartbeats 4000000
namespace SQ
open PySem PySem.Spec L2 TL SF
open PyProof.Rows hiding St
abbrev w1 : T := .str "1"
section
variable {b : Bk} {S : Sto} {l n w an bad k : Option T}
end
end SQ
set_option Elab.async false
set_option linter.all false
set_option maxRecDepth 100000
set_option maxHeartbeats 4000000
namespace SQ
open PySem PySem.Spec L2 TL SF
open PyProof.Rows hiding St
section
variable {b : Bk} {S : Sto} {l n w an bad k : Option T}
end
end SQ
set_option Elab.async false
set_option linter.all false
set_option maxRecDepth 100000
set_option maxHeartbeats 4000000
namespace SQ
open PySem PySem.Spec L2 TL SF
open PyProof.Rows hiding St
section
variable {b : Bk} {S : Sto} {l n w an bad k : Option T}
end
end SQ
set_option Elab.async false
set_option linter.all false
set_option maxRecDepth 100000
set_option maxHeartbeats 4000000
namespace SE
open PySem PySem.Spec L2 TL SF
open PyProof.Rows hiding St
section
variable {b : Bk} {xs : List Str} {S : Sto} {o f : Option T}
end
end SE
set_option Elab.async false
set_option linter.all false
set_option maxRecDepth 100000
set_option maxHeartbeats 4000000
namespace SE
open PySem PySem.Spec L2 TL SF
open PyProof.Rows hiding St
section
variable {b : Bk} {xs : List Str} {S : Sto} {o f : Option T}
end
end SE
set_option Elab.async false
set_option linter.all false
set_option maxRecDepth 100000
set_option maxHeartbeats 4000000
namespace SE
open PySem PySem.Spec L2 TL SF
open PyProof.Rows hiding St
section
variable {b : Bk} {xs : List Str} {S : Sto} {o f : Option T}
end
end SE
set_option Elab.async false
set_option linter.all false
set_option maxRecDepth 100000
set_option maxHeartbeats 4000000
namespace SE
open PySem PySem.Spec L2 TL SF
open PyProof.Rows hiding St
section
variable {b : Bk} {xs : List Str} {S : Sto} {o f : Option T}
end
end SE
set_option Elab.async false
set_option linter.all false
set_option maxRecDepth 100000
set_option maxHeartbeats 4000000
namespace SE
open PySem PySem.Spec L2 TL SF
open PyProof.Rows hiding St
open SQ (body_rt)
section
variable {b : Bk}
end
end SE
set_option Elab.async false
set_option linter.all false
set_option maxRecDepth 100000
set_option maxHeartbeats 4000000
namespace SD
open PySem PySem.Spec L2 TL SF
open PyProof.Rows hiding St
end SD
set_option Elab.async false
set_option linter.all false
set_option maxRecDepth 100000
set_option maxHeartbeats 4000000
namespace SC
open PySem PySem.Spec L2 TL SF
open PyProof.Rows hiding St
abbrev Pg := List Str × Str × Nat
abbrev sPl : Option Str := some ("plain" : Str)
def entS (c d : Ch) (t : List Str) : Str := if worthS t c = sPl ∨ worthS t d = sPl then "other" else "plain"
def lessP (t : List Str) : Option Pg → Bool
  | none => true
  | some g => decide (t.length < g.1.length)
def pgStep (n : Nat) (a : Option Pg) (p : Ch × Ch) : Option Pg := match leastU p.1 p.2 with
  | none => a
  | some t => if lessP t a then some (t, entS p.1 p.2 t, n) else a
def pgGo : Nat → Option Pg → List (List Ch × List Ch) → Option Pg
  | _, a, [] => a
  | n, a, z :: l => pgGo (n + 1) ((z.1.zip z.2).foldl (pgStep n) a) l
def pgT (asp : List Str) : Option Pg → T
  | none => .non
  | some (t, e, n) => .tup [SF.tS t, .dct (kS asp) (asp.map fun _ => .str e), .int n]
theorem pgGo_app : ∀ (l : List (List Ch × List Ch)) (n : Nat) (a : Option Pg) (z : List Ch × List Ch), pgGo n a (l ++ [z]) = (z.1.zip z.2).foldl (pgStep (n + l.length)) (pgGo n a l)
  | [], n, a, z => rfl
  | y :: l, n, a, z => by
    rw [List.cons_append, pgGo, pgGo_app l, List.length_cons, pgGo, show n + 1 + l.length = n + (l.length + 1) by omega]
def optV : Option Str → V
  | some x => .str x
  | none => .non
theorem eqV_opt (a : Option Str) : eqV (optV a) (.str "plain") = decide (a = sPl) := by
  cases a with
  | none => rfl
  | some x =>
    show (x == ("plain" : Str)) = _
    rw [Bool.eq_iff_iff, decide_eq_true_eq, beq_iff_eq]
    exact ⟨fun h => by rw [h], fun h => Option.some.inj h⟩
theorem in_plain (a b : Option Str) (S : Sto) : inT S (.str "plain") (.tup [optT a, optT b]) = some (.bl (decide (a = sPl ∨ b = sPl))) := by
  have f1 : ∀ a : Option Str, flatT (optT a) = some (optV a) := fun a => by cases a <;> rfl
  have d0 : dctT S (.tup [optT a, optT b]) = none := rfl
  have fl : flats [optT a, optT b] = some [optV a, optV b] := by
    simp only [flats, f1, Option.bind_some]
  have fs : flatT (.str "plain") = some (.str "plain") := rfl
  have iv : inV (.str "plain") [optV a, optV b] = decide (a = sPl ∨ b = sPl) := by
    unfold inV
    rw [List.any_cons, List.any_cons, List.any_nil, Bool.or_false, eqV_opt, eqV_opt, Bool.decide_or]
  unfold inT inB
  rw [d0]
  show Option.map T.bl (match flatT (.str "plain"), flats [optT a, optT b] with
    | some v, some vs => some (inV v vs)
    | _, _ => none) = _
  rw [fs, fl]
  show some (T.bl (inV (.str "plain") [optV a, optV b])) = _
  rw [iv]
end SC
set_option Elab.async false
set_option linter.all false
set_option maxRecDepth 100000
set_option maxHeartbeats 4000000
namespace SC
open PySem PySem.Spec L2 TL SF
open PyProof.Rows hiding St
theorem entry_ok {b : Bk} (W : GW b) (c d : Ch) (t : List Str) : Pu m_parting_entry_k09 [bT b, chT c, chT d, SF.tS t] (.dct (kS b.asp) (b.asp.map fun _ => .str (entS c d t))) := by
  intro S
  have w1 := worth_ok t c
  have w2 := worth_ok t d
  have ip := fun S => in_plain (worthS t c) (worthS t d) S
  have z2 : b.asp.length ≤ sizeLine := small16 (by have := W.asz; omega)
  have i0 : ∀ S, ixT S (bT b) (.int 0) = some (SF.tS b.asp) := fun S => rfl
  have dc : ∀ (e : Str) (τ : Fr), dcF (sName 4) fYes (fVar 4) (fC (.str e)) [4] [some (bT b), some (chT c), some (chT d), some (SF.tS t), none] (b.asp.map T.str) S = .ok (b.asp.map fun a => ((Sum.inr a : Key), T.str e)) S := fun e τ => by
    rw [dc_map (k := fun x => match x with | .str a => .inr a | _ => .inl 0) (r := fun _ => .str e) fun x hx => ?a]
    case a =>
      obtain ⟨a, ha, rfl⟩ := List.mem_map.mp hx
      exact ⟨_, rfl, slots1 _ _, rfl, by simp_arith [tKey], by simp_arith []⟩
    rw [List.map_map]
    congr 1
  have e3 : ∀ e : Str, mergeT ([], []) (b.asp.map fun a => ((Sum.inr a : Key), T.str e)) = (kS b.asp, b.asp.map fun a => T.str e) := fun e => by
    rw [merge_nil, List.map_map, List.map_map]
    · rfl
    · rw [List.map_map]
      exact nodup_inr W.and
  have d1 := dc "other" []
  have d2 := dc "plain" []
  unfold m_parting_entry_k09 b_parting_entry_k09
  unfold Pu at w1 w2
  generalize m_worth_among = f1 at w1 w2 ⊢
  generalize bT b = bt at *
  generalize chT c = x1 at *
  generalize chT d = x2 at *
  by_cases h : worthS t c = sPl ∨ worthS t d = sPl
  · rw [show entS c d t = "other" from if_pos h]
    rw [decide_eq_true h] at ip
    generalize SF.tS t = x3 at *
    simp_arith [w1, w2, ip, i0, List.length_map, z2, d1, e3, small16 (show 2 ≤ 200 by omega)]
  · rw [show entS c d t = "plain" from if_neg h]
    rw [decide_eq_false h] at ip
    generalize SF.tS t = x3 at *
    simp_arith [w1, w2, ip, i0, List.length_map, z2, d2, e3, small16 (show 2 ≤ 200 by omega)]
theorem pg_non (asp : List Str) (a : Option Pg) (S : Sto) : isNT S (pgT asp a) .non = some (.bl a.isNone) := by
  cases a with
  | none => rfl
  | some g => obtain ⟨t, e, n⟩ := g; rfl
noncomputable def inB1 : BS := (bSeq (bSet 11 (fCall m_least_apart (fCons (fVar 9) (fCons (fVar 10) fNil)))) (bIf (fAndT (fTest (fBin notNT (fVar 11) (fC .non))) (fOrT (fTest (fBin isNT (fVar 5) (fC .non))) (fTest (fBin ltT (fBlt lenT (fCons (fVar 11) fNil)) (fBlt lenT (fCons (fBin ixT (fVar 5) (fC (.int 0))) fNil)))))) (bSet 5 (fTup (fCons (fVar 11) (fCons (fCall m_parting_entry_k09 (fCons (fVar 0) (fCons (fVar 9) (fCons (fVar 10) (fCons (fVar 11) fNil))))) (fCons (fVar 6) fNil))))) bNext))
def PF12 (b0 b1 b2 b3 b4 a n r q c d t : Option T) : Fr := [b0, b1, b2, b3, b4, a, n, r, q, c, d, t]
theorem in_step {b : Bk} (W : GW b) {c d : Ch} (hc : GH c) (hd : GH d) {a : Option Pg} {n : Nat} {b1 b2 b3 b4 r q t : Option T} {S : Sto} :
    ∃ t', inB1 (PF12 (some (bT b)) b1 b2 b3 b4 (some (pgT b.asp a)) (some (.int n)) r q (some (chT c)) (some (chT d)) t) S = .nx (PF12 (some (bT b)) b1 b2 b3 b4 (some (pgT b.asp (pgStep n a (c, d)))) (some (.int n)) r q (some (chT c)) (some (chT d)) t') S := by
  refine ⟨some (opttS (leastU c d)), ?_⟩
  have la := least_apart_ok (c := c) (d := d) (by have := hc.len; omega) (by have := hd.len; omega) (fun p hp => (hc.so p hp).2) (fun p hp => (hd.so p hp).2) S
  have en := fun t => entry_ok W c d t S
  have pn := fun a => pg_non b.asp a S
  have es : ∀ x, leastU c d = x → pgStep n a (c, d) = (match x with | none => a | some t => if lessP t a then some (t, entS c d t, n) else a) := fun x h => by
    rw [← h]
    rfl
  unfold inB1 PF12
  generalize m_least_apart = f1 at la ⊢
  generalize m_parting_entry_k09 = f2 at en ⊢
  generalize bT b = bt at *
  generalize chT c = x1 at *
  generalize chT d = x2 at *
  cases hl : leastU c d with
  | none =>
    rw [hl] at la
    rw [es _ hl]
    have on : notNT S (opttS none) .non = some (.bl false) := rfl
    simp_arith [la, on]
  | some t0 =>
    rw [hl] at la
    rw [es _ hl]
    simp only []
    have on : notNT S (opttS (some t0)) .non = some (.bl true) := rfl
    have ot : opttS (some t0) = SF.tS t0 := rfl
    rw [ot] at la on
    have ln : ∀ t : List Str, lenT S [SF.tS t] = some (.int t.length) := fun t => by
      show some (T.int (t.map T.str).length) = _
      rw [List.length_map]
    cases a with
    | none =>
      have pn0 := pn none
      rw [ot]
      simp only [lessP, if_true]
      rw [show pgT b.asp (some (t0, entS c d t0, n)) = .tup [SF.tS t0, .dct (kS b.asp) (b.asp.map fun _ => .str (entS c d t0)), .int n] from rfl]
      have en0 := en t0
      generalize SF.tS t0 = y at *
      generalize T.dct (kS b.asp) _ = z at *
      rw [show pgT b.asp none = T.non from rfl] at pn0 ⊢
      simp_arith [la, on, show isNT S .non .non = some (.bl true) from rfl, en0, small16 (show 3 ≤ 200 by omega)]
    | some g =>
      obtain ⟨tg, eg, ng⟩ := g
      have pn0 := pn (some (tg, eg, ng))
      have i0 : ixT S (pgT b.asp (some (tg, eg, ng))) (.int 0) = some (SF.tS tg) := rfl
      have lt : ltT S (.int t0.length) (.int tg.length) = some (.bl (decide (t0.length < tg.length))) := by
        show some (T.bl (decide ((t0.length : Int) < (tg.length : Int)))) = _
        simp
      have l1 := ln t0
      have l2 := ln tg
      have en0 := en t0
      rw [ot]
      by_cases h : t0.length < tg.length
      · rw [decide_eq_true h] at lt
        rw [show lessP t0 (some (tg, eg, ng)) = true from decide_eq_true h]
        simp only [if_true]
        rw [show pgT b.asp (some (t0, entS c d t0, n)) = .tup [SF.tS t0, .dct (kS b.asp) (b.asp.map fun _ => .str (entS c d t0)), .int n] from rfl]
        generalize pgT b.asp (some (tg, eg, ng)) = pt at *
        generalize SF.tS t0 = y at *
        generalize SF.tS tg = y2 at *
        generalize T.dct (kS b.asp) _ = z at *
        simp_arith [la, on, pn0, Option.isNone_some, i0, l1, l2, lt, en0, small16 (show 3 ≤ 200 by omega)]
      · rw [decide_eq_false h] at lt
        rw [show lessP t0 (some (tg, eg, ng)) = false from decide_eq_false h]
        simp only [Bool.false_eq_true, if_false]
        generalize pgT b.asp (some (tg, eg, ng)) = pt at *
        generalize SF.tS t0 = y at *
        generalize SF.tS tg = y2 at *
        simp_arith [la, on, pn0, Option.isNone_some, i0, l1, l2, lt]
theorem in_loop {b : Bk} (W : GW b) {n : Nat} {b1 b2 b3 b4 r q : Option T} {S : Sto} : ∀ (l : List (Ch × Ch)), (∀ p ∈ l, GH p.1 ∧ GH p.2) → ∀ (a : Option Pg) (c d t : Option T), ∃ c' d' t',
    forF (sTup 2 (sCons (sName 9) (sCons (sName 10) sNil))) inB1 (l.map fun p => T.tup [chT p.1, chT p.2]) (PF12 (some (bT b)) b1 b2 b3 b4 (some (pgT b.asp a)) (some (.int n)) r q c d t) S = .nx (PF12 (some (bT b)) b1 b2 b3 b4 (some (pgT b.asp (l.foldl (pgStep n) a))) (some (.int n)) r q c' d' t') S
  | [], _, a, c, d, t => ⟨c, d, t, rfl⟩
  | p :: l, h, a, c, d, t => by
    obtain ⟨h1, h2⟩ := h p List.mem_cons_self
    obtain ⟨t', e⟩ := in_step (n := n) (b1 := b1) (b2 := b2) (b3 := b3) (b4 := b4) (r := r) (q := q) (t := t) (S := S) W h1 h2 (a := a)
    obtain ⟨c', d', t'', e2⟩ := in_loop W (n := n) (b1 := b1) (b2 := b2) (b3 := b3) (b4 := b4) (r := r) (q := q) (S := S) l (fun q hq => h q (List.mem_cons_of_mem _ hq)) (pgStep n a p) (some (chT p.1)) (some (chT p.2)) t'
    refine ⟨c', d', t'', ?_⟩
    rw [List.map_cons, TL.forF, show sTup 2 (sCons (sName 9) (sCons (sName 10) sNil)) (T.tup [chT p.1, chT p.2]) = some [(9, chT p.1), (10, chT p.2)] from rfl]
    show (match inB1 (setsT (PF12 (some (bT b)) b1 b2 b3 b4 (some (pgT b.asp a)) (some (.int n)) r q c d t) [(9, chT p.1), (10, chT p.2)]) S with
      | .nx τ2 S2 => TL.forF (sTup 2 (sCons (sName 9) (sCons (sName 10) sNil))) inB1 (l.map fun p : Ch × Ch => T.tup [chT p.1, chT p.2]) τ2 S2
      | .ct τ2 S2 => TL.forF (sTup 2 (sCons (sName 9) (sCons (sName 10) sNil))) inB1 (l.map fun p : Ch × Ch => T.tup [chT p.1, chT p.2]) τ2 S2
      | .bk τ2 S2 => .nx τ2 S2
      | r => r) = _
    rw [show setsT (PF12 (some (bT b)) b1 b2 b3 b4 (some (pgT b.asp a)) (some (.int n)) r q c d t) [(9, chT p.1), (10, chT p.2)] = PF12 (some (bT b)) b1 b2 b3 b4 (some (pgT b.asp a)) (some (.int n)) r q (some (chT p.1)) (some (chT p.2)) t from rfl, e]
    exact e2
end SC
set_option Elab.async false
set_option linter.all false
set_option maxRecDepth 100000
set_option maxHeartbeats 4000000
namespace SC
open PySem PySem.Spec L2 TL SF
open PyProof.Rows hiding St
def partS (b : Bk) (xs ys : List Str) : Option Pg := pgGo 0 none ((rowsF b f0 xs).zip (rowsF b f0 ys))
noncomputable def ouB : BS := bFor (fiZ (fCons (fVar 7) (fCons (fVar 8) fNil))) (sTup 2 (sCons (sName 9) (sCons (sName 10) sNil))) inB1
theorem ou_step {b : Bk} (W : GW b) {r q : List Ch} (hr : ∀ c ∈ r, GH c) (hq : ∀ c ∈ q, GH c) {a : Option Pg} {n : Nat} {b1 b2 b3 b4 c d t : Option T} {S : Sto} :
    ∃ c' d' t', ouB (PF12 (some (bT b)) b1 b2 b3 b4 (some (pgT b.asp a)) (some (.int n)) (some (rowT r)) (some (rowT q)) c d t) S = .nx (PF12 (some (bT b)) b1 b2 b3 b4 (some (pgT b.asp ((r.zip q).foldl (pgStep n) a))) (some (.int n)) (some (rowT r)) (some (rowT q)) c' d' t') S := by
  obtain ⟨c', d', t', e⟩ := in_loop W (n := n) (b1 := b1) (b2 := b2) (b3 := b3) (b4 := b4) (r := some (rowT r)) (q := some (rowT q)) (S := S) (r.zip q) (fun p hp => ⟨hr _ (List.of_mem_zip hp).1, hq _ (List.of_mem_zip hp).2⟩) a c d t
  refine ⟨c', d', t', ?_⟩
  have it : fiZ (fCons (fVar 7) (fCons (fVar 8) fNil)) (PF12 (some (bT b)) b1 b2 b3 b4 (some (pgT b.asp a)) (some (.int n)) (some (rowT r)) (some (rowT q)) c d t) S = .ok ((r.zip q).map fun p => T.tup [chT p.1, chT p.2]) S := by
    rw [← pair_map]
    rfl
  unfold ouB bFor
  rw [it]
  exact e
theorem zip_at {R Q : List (List Ch)} {i : Nat} {y : T} (h : (numbT (pairT (R.map rowT) (Q.map rowT)))[i]? = some y) : ∃ z, (R.zip Q)[i]? = some z ∧ y = .tup [.int (i : Nat), .tup [rowT z.1, rowT z.2]] := by
  obtain ⟨x, hx, rfl⟩ := zip_range h
  rw [pair_map, List.getElem?_map] at hx
  cases ez : (R.zip Q)[i]? with
  | none => rw [ez] at hx; cases hx
  | some z =>
    rw [ez] at hx
    cases hx
    exact ⟨z, rfl, rfl⟩
theorem parted_ok {b : Bk} (G : GC b) {xs ys : List Str} (X : GX b xs) (Y : GX b ys) (h : signS b xs = signS b ys) : Pu m_parted_k09 [bT b, SF.tS xs, SF.tS ys] (pgT b.asp (partS b xs ys)) := by
  intro S
  have ss := same_signs_ok G X Y h S
  have c1 := chains_shown_ok G X.i S
  have c2 := chains_shown_ok G Y.i S
  have W := G.w
  have gx := rows_good G (xs := xs)
  have gy := rows_good G (xs := ys)
  unfold partS
  generalize hR : rowsF b f0 xs = R at *
  generalize hQ : rowsF b f0 ys = Q at *
  have key : ∃ n r q c d t, bFor (fiEZ (fCons (fVar 3) (fCons (fVar 4) fNil))) (sTup 2 (sCons (sName 6) (sCons (sTup 2 (sCons (sName 7) (sCons (sName 8) sNil))) sNil))) ouB (PF12 (some (bT b)) (some (SF.tS xs)) (some (SF.tS ys)) (some (.lst (R.map rowT))) (some (.lst (Q.map rowT))) (some .non) none none none none none none) S =
      .nx (PF12 (some (bT b)) (some (SF.tS xs)) (some (SF.tS ys)) (some (.lst (R.map rowT))) (some (.lst (Q.map rowT))) (some (pgT b.asp (pgGo 0 none (R.zip Q)))) n r q c d t) S := by
    have e0 : bFor (fiEZ (fCons (fVar 3) (fCons (fVar 4) fNil))) (sTup 2 (sCons (sName 6) (sCons (sTup 2 (sCons (sName 7) (sCons (sName 8) sNil))) sNil))) ouB (PF12 (some (bT b)) (some (SF.tS xs)) (some (SF.tS ys)) (some (.lst (R.map rowT))) (some (.lst (Q.map rowT))) (some .non) none none none none none none) S = forF (sTup 2 (sCons (sName 6) (sCons (sTup 2 (sCons (sName 7) (sCons (sName 8) sNil))) sNil))) ouB (numbT (pairT (R.map rowT) (Q.map rowT))) (PF12 (some (bT b)) (some (SF.tS xs)) (some (SF.tS ys)) (some (.lst (R.map rowT))) (some (.lst (Q.map rowT))) (some .non) none none none none none none) S := rfl
    rw [e0]
    generalize hF : forF _ _ _ _ _ = R2
    obtain ⟨τ2, S3, e, n, r, q, c, d, t, h1, h2⟩ := for_go hF (fun i τ T1 => ∃ n r q c d t, τ = PF12 (some (bT b)) (some (SF.tS xs)) (some (SF.tS ys)) (some (.lst (R.map rowT))) (some (.lst (Q.map rowT))) (some (pgT b.asp (pgGo 0 none ((R.zip Q).take i)))) n r q c d t ∧ T1 = S) ⟨none, none, none, none, none, none, rfl, rfl⟩ (by
      intro i y τ T1 hx hI
      obtain ⟨n, r, q, c, d, t, rfl, rfl⟩ := hI
      obtain ⟨z, hz, rfl⟩ := zip_at hx
      have m := List.of_mem_zip (List.mem_of_getElem? hz)
      obtain ⟨c', d', t', e⟩ := ou_step W (r := z.1) (q := z.2) (fun c hc => (gx _ m.1).2 c hc) (fun c hc => (gy _ m.2).2 c hc) (a := pgGo 0 none ((R.zip Q).take i)) (n := i) (b1 := some (SF.tS xs)) (b2 := some (SF.tS ys)) (b3 := some (.lst (R.map rowT))) (b4 := some (.lst (Q.map rowT))) (c := c) (d := d) (t := t) (S := T1)
      refine ⟨[(6, .int i), (7, rowT z.1), (8, rowT z.2)], rfl, ?_⟩
      rw [show setsT (PF12 (some (bT b)) (some (SF.tS xs)) (some (SF.tS ys)) (some (.lst (R.map rowT))) (some (.lst (Q.map rowT))) (some (pgT b.asp (pgGo 0 none ((R.zip Q).take i)))) n r q c d t) [(6, .int i), (7, rowT z.1), (8, rowT z.2)] = PF12 (some (bT b)) (some (SF.tS xs)) (some (SF.tS ys)) (some (.lst (R.map rowT))) (some (.lst (Q.map rowT))) (some (pgT b.asp (pgGo 0 none ((R.zip Q).take i)))) (some (.int i)) (some (rowT z.1)) (some (rowT z.2)) c d t from rfl, e]
      have hi := (List.getElem?_eq_some_iff.mp hz).1
      have tk : pgGo 0 none ((R.zip Q).take (i + 1)) = (z.1.zip z.2).foldl (pgStep i) (pgGo 0 none ((R.zip Q).take i)) := by
        rw [List.take_add_one, hz]
        show pgGo 0 none ((R.zip Q).take i ++ [z]) = _
        rw [pgGo_app, List.length_take, Nat.min_eq_left (by omega), Nat.zero_add]
      rw [tk]
      exact goes_nx ⟨_, _, _, _, _, _, rfl, rfl⟩)
    have el : (numbT (pairT (R.map rowT) (Q.map rowT))).length = (R.zip Q).length := by
      rw [pair_map]
      simp [numbT]
    rw [el, List.take_length] at h1
    subst e h1 h2
    exact ⟨n, r, q, c, d, t, rfl⟩
  obtain ⟨n, r, q, c, d, t, e⟩ := key
  unfold m_parted_k09 b_parted_k09
  have eb : (bFor (fiEZ (fCons (fVar 3) (fCons (fVar 4) fNil))) (sTup 2 (sCons (sName 6) (sCons (sTup 2 (sCons (sName 7) (sCons (sName 8) sNil))) sNil))) (bFor (fiZ (fCons (fVar 7) (fCons (fVar 8) fNil))) (sTup 2 (sCons (sName 9) (sCons (sName 10) sNil))) (bSeq (bSet 11 (fCall m_least_apart (fCons (fVar 9) (fCons (fVar 10) fNil)))) (bIf (fAndT (fTest (fBin notNT (fVar 11) (fC .non))) (fOrT (fTest (fBin isNT (fVar 5) (fC .non))) (fTest (fBin ltT (fBlt lenT (fCons (fVar 11) fNil)) (fBlt lenT (fCons (fBin ixT (fVar 5) (fC (.int 0))) fNil)))))) (bSet 5 (fTup (fCons (fVar 11) (fCons (fCall m_parting_entry_k09 (fCons (fVar 0) (fCons (fVar 9) (fCons (fVar 10) (fCons (fVar 11) fNil))))) (fCons (fVar 6) fNil))))) bNext)))) = bFor (fiEZ (fCons (fVar 3) (fCons (fVar 4) fNil))) (sTup 2 (sCons (sName 6) (sCons (sTup 2 (sCons (sName 7) (sCons (sName 8) sNil))) sNil))) ouB := rfl
  rw [eb]
  generalize bFor (fiEZ _) _ ouB = BF at e ⊢
  unfold PF12 at e
  generalize m_need_same_signs = f1 at ss ⊢
  generalize m_chains_shown = f2 at c1 c2 ⊢
  generalize bT b = bt at *
  generalize SF.tS xs = x1 at *
  generalize SF.tS ys = x2 at *
  generalize pgT b.asp _ = pt at *
  simp_arith [ss, c1, c2, e]
end SC
set_option Elab.async false
set_option linter.all false
set_option maxRecDepth 100000
set_option maxHeartbeats 4000000
namespace SB
open PySem PySem.Spec L2 TL SF
open PyProof.Rows hiding St
open SC (Pg pgStep pgGo lessP partS pgT parted_ok)
def szL (p : Ch × Ch) : Option Nat := (leastU p.1 p.2).map List.length
def pairsF (R Q : List (List Ch)) : List (Ch × Ch) := (R.zip Q).flatMap fun z => z.1.zip z.2
def stepS (a : Option Nat) (n : Nat) : Option Nat := match a with
  | none => some n
  | some m => if n < m then some n else some m
def sizeF (R Q : List (List Ch)) : Option Nat := ((pairsF R Q).filterMap szL).foldl stepS none
theorem step_sz (n : Nat) (a : Option Pg) (p : Ch × Ch) : (pgStep n a p).map (·.1.length) = match szL p with
    | none => a.map (·.1.length)
    | some k => stepS (a.map (·.1.length)) k := by
  unfold pgStep szL
  cases leastU p.1 p.2 with
  | none => rfl
  | some t =>
    cases a with
    | none => rfl
    | some g =>
      have e : lessP t (some g) = decide (t.length < g.1.length) := rfl
      simp only [e, Option.map_some, stepS, decide_eq_true_eq]
      split <;> rfl
theorem fold_sz (n : Nat) : ∀ (l : List (Ch × Ch)) (a : Option Pg), (l.foldl (pgStep n) a).map (·.1.length) = (l.filterMap szL).foldl stepS (a.map (·.1.length))
  | [], a => rfl
  | p :: l, a => by
    rw [List.foldl_cons, fold_sz n l, step_sz, List.filterMap_cons]
    cases szL p with
    | none => rfl
    | some k => rfl
theorem go_sz : ∀ (l : List (List Ch × List Ch)) (n : Nat) (a : Option Pg), (pgGo n a l).map (·.1.length) = ((l.flatMap fun z => z.1.zip z.2).filterMap szL).foldl stepS (a.map (·.1.length))
  | [], n, a => rfl
  | z :: l, n, a => by
    rw [pgGo, go_sz l, fold_sz, List.flatMap_cons, List.filterMap_append, List.foldl_append]
theorem part_sz (b : Bk) (xs ys : List Str) : (partS b xs ys).map (·.1.length) = sizeF (rowsF b f0 xs) (rowsF b f0 ys) := go_sz _ _ _
theorem step_some (a : Option Nat) (n : Nat) : (stepS a n).isSome = true := by
  cases a with
  | none => rfl
  | some m =>
    unfold stepS
    simp only
    split <;> rfl
theorem fold_none : ∀ (l : List Nat) (a : Option Nat), l.foldl stepS a = none ↔ a = none ∧ l = []
  | [], a => by simp
  | n :: l, a => by
    rw [List.foldl_cons, fold_none l]
    have := step_some a n
    constructor
    · rintro ⟨h, _⟩
      rw [h] at this
      cases this
    · rintro ⟨_, h⟩
      cases h
theorem size_none {R Q : List (List Ch)} (hl : R.map List.length = Q.map List.length) (hR : ∀ r ∈ R, ∀ c ∈ r, GH c) (hQ : ∀ r ∈ Q, ∀ c ∈ r, GH c) : sizeF R Q = none ↔ likeR R Q := by
  unfold sizeF
  rw [fold_none]
  simp only [true_and]
  rw [List.filterMap_eq_nil_iff]
  have key : ∀ p ∈ pairsF R Q, (szL p = none ↔ formS p.1 = formS p.2) := fun p hp => by
    obtain ⟨z, hz, hp⟩ := List.mem_flatMap.mp hp
    have m := List.of_mem_zip hz
    have n := List.of_mem_zip hp
    unfold szL
    rw [Option.map_eq_none_iff, least_form (hR _ m.1 _ n.1).nd (hQ _ m.2 _ n.2).nd]
  have e : (∀ p ∈ pairsF R Q, szL p = none) ↔ ∀ p ∈ pairsF R Q, formS p.1 = formS p.2 := ⟨fun h p hp => (key p hp).mp (h p hp), fun h p hp => (key p hp).mpr (h p hp)⟩
  rw [e]
  clear key e hR hQ
  unfold likeR pairsF
  induction R generalizing Q with
  | nil =>
    cases Q with
    | nil => simp
    | cons q Q => simp at hl
  | cons r R ih =>
    cases Q with
    | nil => simp at hl
    | cons q Q =>
      simp only [List.map_cons, List.cons.injEq] at hl ⊢
      rw [List.zip_cons_cons, List.flatMap_cons]
      refine Iff.trans ?_ (and_congr Iff.rfl (ih hl.2))
      have z := zip_all hl.1
      simp only [List.mem_append]
      constructor
      · intro h
        refine ⟨?_, fun p hp => h p (.inr hp)⟩
        rw [← decide_eq_true_eq (p := r.map formS = q.map formS), ← z, List.all_eq_true]
        exact fun p hp => decide_eq_true (h p (.inl hp))
      · rintro ⟨h1, h2⟩ p hp
        rcases hp with hp | hp
        · rw [← decide_eq_true_eq (p := r.map formS = q.map formS), ← z, List.all_eq_true] at h1
          exact of_decide_eq_true (h1 p hp)
        · exact h2 p hp
def toldT (n : Option Nat) : T := .lst [.bl n.isNone, .int (match n with | none => -1 | some k => (k : Int))]
theorem told_ok {b : Bk} (G : GC b) {xs ys : List Str} (X : GX b xs) (Y : GX b ys) (h : signS b xs = signS b ys) : Pu m__law_told [bT b, SF.tS xs, SF.tS ys] (toldT (sizeF (rowsF b f0 xs) (rowsF b f0 ys))) := by
  intro S
  have p := parted_ok G X Y h S
  have al := alike_ok G X Y h S
  have e1 := part_sz b xs ys
  have e2 := size_none (rows_lens h) (fun r hr => (rows_good G r hr).2) (fun r hr => (rows_good G r hr).2)
  have e3 : decide (likeS b xs ys) = (sizeF (rowsF b f0 xs) (rowsF b f0 ys)).isNone := by
    rw [Bool.eq_iff_iff, decide_eq_true_eq, Option.isNone_iff_eq_none]
    exact e2.symm
  rw [e3] at al
  rw [← e1] at al ⊢
  have ng : negT S (.int 1) = some (.int (-1)) := by kernel_rfl
  unfold m__law_told b__law_told
  generalize m_parted_k09 = f1 at p ⊢
  generalize m_alike = f2 at al ⊢
  generalize bT b = bt at *
  generalize SF.tS xs = x1 at *
  generalize SF.tS ys = x2 at *
  cases hp : partS b xs ys with
  | none =>
    rw [hp] at p al
    rw [show pgT b.asp none = T.non from rfl] at p
    simp_arith [p, al, fIf, ng, show isNT S .non .non = some (.bl true) from rfl, small16 (show 2 ≤ 200 by omega)]
    rfl
  | some g =>
    obtain ⟨t, e, n⟩ := g
    rw [hp] at p al
    have nn := SC.pg_non b.asp (some (t, e, n)) S
    have i0 : ixT S (pgT b.asp (some (t, e, n))) (.int 0) = some (SF.tS t) := rfl
    have ln : lenT S [SF.tS t] = some (.int t.length) := by
      show some (T.int (t.map T.str).length) = _
      rw [List.length_map]
    generalize pgT b.asp (some (t, e, n)) = pt at *
    generalize SF.tS t = tt at *
    simp_arith [p, al, fIf, nn, Option.isNone_some, i0, ln, small16 (show 2 ≤ 200 by omega)]
    rfl
end SB
set_option Elab.async false
set_option linter.all false
set_option maxRecDepth 100000
namespace SB
open PySem PySem.Spec L2 TL SF
open PyProof.Rows hiding St
def ro (x : Str) : Str := if x = "j" then "k" else if x = "k" then "long" else if x = "long" then "l" else if x = "l" then "j" else if x = "u" then "v" else if x = "v" then "plain" else if x = "plain" then "u" else x
def ri (x : Str) : Str := if x = "k" then "j" else if x = "long" then "k" else if x = "l" then "long" else if x = "j" then "l" else if x = "v" then "u" else if x = "plain" then "v" else if x = "u" then "plain" else x
theorem ri_ro (x : Str) : ri (ro x) = x := by
  by_cases h1 : x = "j"
  · subst h1; decide +kernel
  by_cases h2 : x = "k"
  · subst h2; decide +kernel
  by_cases h3 : x = "long"
  · subst h3; decide +kernel
  by_cases h4 : x = "l"
  · subst h4; decide +kernel
  by_cases h5 : x = "u"
  · subst h5; decide +kernel
  by_cases h6 : x = "v"
  · subst h6; decide +kernel
  by_cases h7 : x = "plain"
  · subst h7; decide +kernel
  unfold ro
  rw [if_neg h1, if_neg h2, if_neg h3, if_neg h4, if_neg h5, if_neg h6, if_neg h7]
  unfold ri
  rw [if_neg h2, if_neg h3, if_neg h4, if_neg h1, if_neg h6, if_neg h7, if_neg h5]
theorem ro_ri (x : Str) : ro (ri x) = x := by
  by_cases h1 : x = "j"
  · subst h1; decide +kernel
  by_cases h2 : x = "k"
  · subst h2; decide +kernel
  by_cases h3 : x = "long"
  · subst h3; decide +kernel
  by_cases h4 : x = "l"
  · subst h4; decide +kernel
  by_cases h5 : x = "u"
  · subst h5; decide +kernel
  by_cases h6 : x = "v"
  · subst h6; decide +kernel
  by_cases h7 : x = "plain"
  · subst h7; decide +kernel
  unfold ri
  rw [if_neg h2, if_neg h3, if_neg h4, if_neg h1, if_neg h6, if_neg h7, if_neg h5]
  unfold ro
  rw [if_neg h1, if_neg h2, if_neg h3, if_neg h4, if_neg h5, if_neg h6, if_neg h7]
theorem ro_inj {x y : Str} (h : ro x = ro y) : x = y := by rw [← ri_ro x, h, ri_ro]
theorem ro_iff {x y : Str} : ro x = ro y ↔ x = y := ⟨ro_inj, fun h => by rw [h]⟩
def sg (c : Ch) : Ch := c.map fun p => (ro p.1, ro p.2)
theorem worth_sg (t : List Str) : ∀ c : Ch, worthS (t.map ro) (sg c) = (worthS t c).map ro
  | [] => rfl
  | p :: c => by
    have ih := worth_sg t c
    unfold sg at ih ⊢
    simp only [List.map_cons, worthS]
    have e : ro p.1 ∈ t.map ro ↔ p.1 ∈ t := by
      constructor
      · intro h
        obtain ⟨q, hq, e⟩ := List.mem_map.mp h
        exact ro_inj e ▸ hq
      · exact fun h => List.mem_map_of_mem h
    by_cases h : p.1 ∈ t
    · rw [if_pos (e.mpr h), if_pos h]
      rfl
    · rw [if_neg (fun z => h (e.mp z)), if_neg h]
      exact ih
theorem worth_sg2 (s : List Str) (c : Ch) : worthS s (sg c) = (worthS (s.map ri) c).map ro := by
  rw [← worth_sg, List.map_map]
  congr 1
  exact (List.map_id s).symm.trans (List.map_congr_left fun x _ => (ro_ri x).symm)
theorem map_ro {a b : Option Str} (h : a.map ro = b.map ro) : a = b := by
  cases a with
  | none =>
    cases b with
    | none => rfl
    | some y => cases h
  | some x =>
    cases b with
    | none => cases h
    | some y => rw [ro_inj (Option.some.inj h)]
theorem keys_sg {c : Ch} (h : (c.map (·.1)).Nodup) : ((sg c).map (·.1)).Nodup := by
  have e : (sg c).map (·.1) = (c.map (·.1)).map ro := by
    unfold sg
    rw [List.map_map, List.map_map]
    rfl
  rw [e]
  exact List.pairwise_map.mpr (List.Pairwise.imp (fun hne he => hne (ro_inj he)) h)
theorem sz_sg {c d : Ch} (hc : (c.map (·.1)).Nodup) (hd : (d.map (·.1)).Nodup) : szL (sg c, sg d) = szL (c, d) := by
  unfold szL
  simp only
  cases h1 : leastU c d with
  | none =>
    have a := (least_none_iff hc hd).mp h1
    rw [(least_none_iff (keys_sg hc) (keys_sg hd)).mpr fun t => by rw [worth_sg2, worth_sg2, a]]
  | some t =>
    obtain ⟨n1, _, m1⟩ := least_some h1
    cases h2 : leastU (sg c) (sg d) with
    | none =>
      have a := (least_none_iff (keys_sg hc) (keys_sg hd)).mp h2 (t.map ro)
      rw [worth_sg, worth_sg] at a
      exact absurd (map_ro a) n1
    | some s =>
      obtain ⟨n2, _, m2⟩ := least_some h2
      have a1 := m1 (s.map ri) (fun e => n2 (by rw [worth_sg2, worth_sg2, e]))
      have a2 := m2 (t.map ro) (fun e => n1 (map_ro (by rw [← worth_sg, ← worth_sg, e])))
      rw [List.length_map] at a1 a2
      simp only [Option.map_some, Option.some.injEq]
      omega
theorem behind_sg (c : Ch) (k v : Str) : behindS (sg c) (ro k) (ro v) = sg (behindS c k v) := by
  unfold behindS sg
  rw [List.map_cons, List.filter_map]
  congr 2
  refine List.filter_congr fun p _ => ?_
  simp only [Function.comp_apply, ro_iff]
def ag (g : List (Str × Str)) : List (Str × Str) := g.map fun p => (p.1, ro p.2)
theorem give_sg (k : Str) : ∀ (g : List (Str × Str)) (f f' : Str → Ch), (∀ a, f' a = sg (f a)) → ∀ a, giveF f' (ro k) (ag g) a = sg (giveF f k g a)
  | [], f, f', h, a => h a
  | p :: g, f, f', h, a => by
    refine give_sg k g (fun a => if a = p.1 then behindS (f a) k p.2 else f a) (fun a => if a = p.1 then behindS (f' a) (ro k) (ro p.2) else f' a) (fun b => ?_) a
    show (if b = p.1 then behindS (f' b) (ro k) (ro p.2) else f' b) = sg (if b = p.1 then behindS (f b) k p.2 else f b)
    by_cases e : b = p.1
    · rw [if_pos e, if_pos e, h, behind_sg]
    · rw [if_neg e, if_neg e, h]
structure RN (b b' : Bk) (rx : Str → Str) (xs : List Str) : Prop where
  fc : ∀ x ∈ xs, ∀ c, findC b.cs x = some c → ∃ w, findC b'.cs (rx x) = some ⟨w, ro c.k, ag c.g⟩
  fn : ∀ x ∈ xs, findC b.cs x = none → findC b'.cs (rx x) = none ∧ shownS b' (rx x) = shownS b x
theorem RN.tail {b b' : Bk} {rx : Str → Str} {x : Str} {xs : List Str} (h : RN b b' rx (x :: xs)) : RN b b' rx xs := ⟨fun y hy => h.fc y (List.mem_cons_of_mem _ hy), fun y hy => h.fn y (List.mem_cons_of_mem _ hy)⟩
theorem rows_sg {b b' : Bk} {rx : Str → Str} : ∀ {xs : List Str} {f f' : Str → Ch}, RN b b' rx xs → (∀ a, f' a = sg (f a)) → rowsF b' f' (xs.map rx) = (rowsF b f xs).map (·.map sg)
  | [], f, f', _, _ => rfl
  | x :: xs, f, f', R, h => by
    rw [List.map_cons]
    simp only [rowsF]
    cases e : findC b.cs x with
    | some c =>
      obtain ⟨w, e2⟩ := R.fc x List.mem_cons_self c e
      rw [e2]
      exact rows_sg R.tail (give_sg c.k c.g f f' h)
    | none =>
      obtain ⟨e2, e3⟩ := R.fn x List.mem_cons_self e
      rw [e2]
      simp only [List.map_cons]
      rw [rows_sg R.tail h, e3, List.map_map]
      congr 1
      exact List.map_congr_left fun a _ => h a
theorem signs_rn {b b' : Bk} {rx : Str → Str} : ∀ {xs : List Str}, RN b b' rx xs → signS b' (xs.map rx) = (signS b xs).map rx
  | [], _ => rfl
  | x :: xs, R => by
    have ih := signs_rn R.tail
    unfold signS at ih ⊢
    rw [List.map_cons]
    cases e : findC b.cs x with
    | some c =>
      obtain ⟨w, e2⟩ := R.fc x List.mem_cons_self c e
      rw [List.filter_cons_of_neg (by simp [e2]), List.filter_cons_of_neg (by simp [e]), ih]
    | none =>
      obtain ⟨e2, _⟩ := R.fn x List.mem_cons_self e
      rw [List.filter_cons_of_pos (by simp [e2]), List.filter_cons_of_pos (by simp [e]), ih, List.map_cons]
theorem pairs_map (F : Ch → Ch) : ∀ R Q : List (List Ch), pairsF (R.map (·.map F)) (Q.map (·.map F)) = (pairsF R Q).map fun p => (F p.1, F p.2)
  | [], Q => rfl
  | r :: R, [] => rfl
  | r :: R, q :: Q => by
    have ih := pairs_map F R Q
    unfold pairsF at ih ⊢
    rw [List.map_cons, List.map_cons, List.zip_cons_cons, List.flatMap_cons, ih, List.zip_cons_cons, List.flatMap_cons, List.map_append]
    congr 1
    rw [List.zip_map]
    rfl
theorem size_sg {R Q : List (List Ch)} (hR : ∀ r ∈ R, ∀ c ∈ r, (c.map (·.1)).Nodup) (hQ : ∀ r ∈ Q, ∀ c ∈ r, (c.map (·.1)).Nodup) : sizeF (R.map (·.map sg)) (Q.map (·.map sg)) = sizeF R Q := by
  unfold sizeF
  rw [pairs_map, List.filterMap_map]
  congr 1
  have key : ∀ p ∈ pairsF R Q, (szL ∘ fun p : Ch × Ch => (sg p.1, sg p.2)) p = szL p := fun p hp => by
    obtain ⟨z, hz, hp⟩ := List.mem_flatMap.mp hp
    have m := List.of_mem_zip hz
    have n := List.of_mem_zip hp
    exact sz_sg (hR _ m.1 _ n.1) (hQ _ m.2 _ n.2)
  revert key
  generalize pairsF R Q = l
  intro key
  induction l with
  | nil => rfl
  | cons p l ih =>
    rw [List.filterMap_cons, List.filterMap_cons, key p List.mem_cons_self, ih fun q hq => key q (List.mem_cons_of_mem _ hq)]
def moreB (b : Bk) : Bk := ⟨b.asp ++ [("zz" : Str)], b.sh ++ [("zz" : Str)], b.cs⟩
def gz (x : Str) (r : List Ch) : List Ch := if x = "\n" then r else r ++ [[]]
theorem give_zz (k : Str) : ∀ (g : List (Str × Str)) (f : Str → Ch), (∀ p ∈ g, p.1 ≠ "zz") → giveF f k g "zz" = f "zz"
  | [], f, _ => rfl
  | p :: g, f, h => by
    have e : giveF f k (p :: g) = giveF (fun a => if a = p.1 then behindS (f a) k p.2 else f a) k g := rfl
    rw [e, give_zz k g _ fun q hq => h q (List.mem_cons_of_mem _ hq)]
    exact if_neg fun z => h p List.mem_cons_self z.symm
theorem rows_more {b : Bk} (hz : ∀ c ∈ b.cs, ∀ p ∈ c.g, p.1 ≠ "zz") : ∀ (xs : List Str) (f : Str → Ch), f "zz" = [] → rowsF (moreB b) f xs = List.zipWith gz (signS b xs) (rowsF b f xs)
  | [], f, _ => rfl
  | x :: xs, f, h => by
    simp only [rowsF]
    unfold signS
    show (match findC b.cs x with | some c => _ | none => _) = _
    cases e : findC b.cs x with
    | some c =>
      rw [List.filter_cons_of_neg (by simp [e])]
      exact rows_more hz xs _ (by rw [give_zz _ _ _ (hz c (findC_mem e).1), h])
    | none =>
      rw [List.filter_cons_of_pos (by simp [e])]
      simp only [List.zipWith_cons_cons]
      rw [rows_more hz xs f h]
      congr 1
      unfold shownS gz moreB
      simp only
      by_cases e1 : x = "\n"
      · rw [if_pos e1, if_pos e1, if_pos e1]
      · rw [if_neg e1, if_neg e1, if_neg e1]
        by_cases e2 : x = " "
        · rw [if_pos e2, if_pos e2, List.map_append, List.map_singleton, h]
        · rw [if_neg e2, if_neg e2, List.map_append, List.map_singleton, h]
theorem rows_length (b : Bk) : ∀ (xs : List Str) (f : Str → Ch), (rowsF b f xs).length = (signS b xs).length
  | [], f => rfl
  | x :: xs, f => by
    simp only [rowsF]
    unfold signS
    cases e : findC b.cs x with
    | some c =>
      rw [List.filter_cons_of_neg (by simp [e])]
      exact rows_length b xs _
    | none =>
      rw [List.filter_cons_of_pos (by simp [e])]
      simp only [List.length_cons]
      rw [rows_length b xs f]
      rfl
theorem sz_nil : szL ([], []) = none := by
  unfold szL
  rw [(least_none_iff (c := []) (d := []) List.nodup_nil List.nodup_nil).mpr fun _ => rfl]
  rfl
theorem pairs_gz : ∀ (s : List Str) (R Q : List (List Ch)), R.map List.length = Q.map List.length → s.length = R.length → (pairsF (List.zipWith gz s R) (List.zipWith gz s Q)).filterMap szL = (pairsF R Q).filterMap szL
  | [], [], [], _, _ => rfl
  | [], [], q :: Q, h, _ => by simp at h
  | [], r :: R, Q, _, h => by simp at h
  | x :: s, [], Q, _, h => by simp at h
  | x :: s, r :: R, [], h, _ => by simp at h
  | x :: s, r :: R, q :: Q, h1, h2 => by
    simp only [List.map_cons, List.cons.injEq, List.length_cons, Nat.add_right_cancel_iff] at h1 h2
    have ih := pairs_gz s R Q h1.2 h2
    unfold pairsF at ih ⊢
    simp only [List.zipWith_cons_cons, List.zip_cons_cons, List.flatMap_cons, List.filterMap_append]
    rw [ih]
    congr 1
    unfold gz
    by_cases e : x = "\n"
    · rw [if_pos e, if_pos e]
    · rw [if_neg e, if_neg e, List.zip_append h1.1, List.filterMap_append]
      show _ ++ List.filterMap szL [([], [])] = _
      rw [List.filterMap_cons_none sz_nil, List.filterMap_nil, List.append_nil]
theorem size_more {b : Bk} (hz : ∀ c ∈ b.cs, ∀ p ∈ c.g, p.1 ≠ "zz") {xs ys : List Str} (h : signS b xs = signS b ys) : sizeF (rowsF (moreB b) f0 xs) (rowsF (moreB b) f0 ys) = sizeF (rowsF b f0 xs) (rowsF b f0 ys) := by
  unfold sizeF
  rw [rows_more hz xs f0 rfl, rows_more hz ys f0 rfl, ← h, pairs_gz _ _ _ (rows_lens h) (rows_length b xs f0).symm]
end SB
set_option Elab.async false
set_option linter.all false
set_option maxRecDepth 100000
namespace SB
open PySem PySem.Spec L2 TL SF
open PyProof.Rows hiding St
abbrev Cn := SF.Code × Nat
def wS (n k : Nat) : Str := PySem.Str.ofString (toString (n : Int)) ++ ";" ++ PySem.Str.ofString (toString (k : Int))
def offs : Nat → List SF.Code → List Cn
  | _, [] => []
  | n, c :: cs => (c, n) :: offs (n + c.g.length) cs
def spR (kd : Str) (n : Nat) : Nat → List (Str × Str) → List SF.Code
  | _, [] => []
  | j, p :: g => ⟨wS (n + j) j, kd, [p]⟩ :: spR kd n (j + 1) g
def splC (z : Cn) : List SF.Code := spR z.1.k z.2 0 z.1.g
def splW (z : Cn) : List Str := (splC z).map (·.w)
def splL (cs : List SF.Code) : List SF.Code := (offs 0 cs).flatMap splC
def splB (b : Bk) : Bk := ⟨b.asp, b.sh, splL b.cs⟩
def findZ (zs : List Cn) (x : Str) : Option Cn := zs.find? fun z => decide (z.1.w = x)
def itemsX (b : Bk) (x : Str) : List Str := match findZ (offs 0 b.cs) x with
  | some z => splW z
  | none => [x]
def splX (b : Bk) (xs : List Str) : List Str := xs.flatMap (itemsX b)
theorem offs_fst : ∀ (n : Nat) (cs : List SF.Code), (offs n cs).map (·.1) = cs
  | _, [] => rfl
  | n, c :: cs => by rw [offs, List.map_cons, offs_fst]
theorem findZ_C (x : Str) : ∀ (n : Nat) (cs : List SF.Code), (findZ (offs n cs) x).map (·.1) = findC cs x
  | _, [] => rfl
  | n, c :: cs => by
    have ih := findZ_C x (n + c.g.length) cs
    unfold findZ findC at ih ⊢
    rw [offs, List.find?_cons, List.find?_cons]
    by_cases e : c.w = x
    · rw [decide_eq_true e]
      rfl
    · rw [decide_eq_false e]
      exact ih
theorem spR_len (kd : Str) (n : Nat) : ∀ (g : List (Str × Str)) (j : Nat), (spR kd n j g).length = g.length
  | [], _ => rfl
  | p :: g, j => by rw [spR, List.length_cons, spR_len kd n g, List.length_cons]
theorem spR_at (kd : Str) (n : Nat) : ∀ (g : List (Str × Str)) (j i : Nat), (spR kd n j g)[i]? = (g[i]?).map fun p => ⟨wS (n + (j + i)) (j + i), kd, [p]⟩
  | [], _, i => rfl
  | p :: g, j, 0 => rfl
  | p :: g, j, i + 1 => by
    rw [spR, List.getElem?_cons_succ, List.getElem?_cons_succ, spR_at kd n g (j + 1) i, show j + 1 + i = j + (i + 1) by omega]
theorem give_sp (kd : Str) (n : Nat) : ∀ (g : List (Str × Str)) (j : Nat) (f : Str → Ch), (spR kd n j g).foldl (fun f c => giveF f c.k c.g) f = giveF f kd g
  | [], _, _ => rfl
  | p :: g, j, f => by
    rw [spR, List.foldl_cons, give_sp kd n g]
    rfl
theorem rows_codes {B : Bk} : ∀ (l : List SF.Code) (f : Str → Ch) (r : List Str), (∀ c ∈ l, findC B.cs c.w = some c) → rowsF B f (l.map (·.w) ++ r) = rowsF B (l.foldl (fun f c => giveF f c.k c.g) f) r
  | [], _, _, _ => rfl
  | c :: l, f, r, h => by
    rw [List.map_cons, List.cons_append]
    simp only [rowsF, h c List.mem_cons_self]
    exact rows_codes l _ r fun d hd => h d (List.mem_cons_of_mem _ hd)
theorem signs_codes {B : Bk} : ∀ (l : List SF.Code) (r : List Str), (∀ c ∈ l, findC B.cs c.w = some c) → signS B (l.map (·.w) ++ r) = signS B r
  | [], _, _ => rfl
  | c :: l, r, h => by
    have ih := signs_codes l r fun d hd => h d (List.mem_cons_of_mem _ hd)
    unfold signS at ih ⊢
    rw [List.map_cons, List.cons_append, List.filter_cons_of_neg (by simp [h c List.mem_cons_self]), ih]
theorem findC_of {cs : List SF.Code} (h : (cs.map (·.w)).Nodup) {c : SF.Code} (hc : c ∈ cs) : findC cs c.w = some c := by
  induction cs with
  | nil => cases hc
  | cons d cs ih =>
    rw [List.map_cons, List.nodup_cons] at h
    unfold findC at ih ⊢
    rw [List.find?_cons]
    rcases List.mem_cons.mp hc with rfl | hc
    · rw [decide_eq_true rfl]
    · rw [decide_eq_false fun e => h.1 (by rw [e]; exact List.mem_map_of_mem hc)]
      exact ih h.2 hc
structure SN (b : Bk) (xs : List Str) : Prop where
  nd : ((splL b.cs).map (·.w)).Nodup
  no : ∀ x ∈ xs, findC b.cs x = none → findC (splL b.cs) x = none
theorem SN.tail {b : Bk} {x : Str} {xs : List Str} (h : SN b (x :: xs)) : SN b xs := ⟨h.nd, fun y hy => h.no y (List.mem_cons_of_mem _ hy)⟩
theorem item_some {b : Bk} {x : Str} {c : SF.Code} (e : findC b.cs x = some c) : ∃ z, z ∈ offs 0 b.cs ∧ z.1 = c ∧ itemsX b x = splW z := by
  have := findZ_C x 0 b.cs
  rw [e] at this
  unfold itemsX
  cases ez : findZ (offs 0 b.cs) x with
  | none => rw [ez] at this; cases this
  | some z =>
    rw [ez] at this
    exact ⟨z, List.mem_of_find?_eq_some ez, Option.some.inj this, rfl⟩
theorem item_none {b : Bk} {x : Str} (e : findC b.cs x = none) : itemsX b x = [x] := by
  have := findZ_C x 0 b.cs
  rw [e] at this
  unfold itemsX
  cases ez : findZ (offs 0 b.cs) x with
  | none => rfl
  | some z => rw [ez] at this; cases this
theorem rows_sp {b : Bk} : ∀ {xs : List Str} (f : Str → Ch), SN b xs → rowsF (splB b) f (splX b xs) = rowsF b f xs
  | [], f, _ => rfl
  | x :: xs, f, N => by
    have ce : splX b (x :: xs) = itemsX b x ++ splX b xs := List.flatMap_cons
    rw [ce]
    cases e : findC b.cs x with
    | some c =>
      obtain ⟨z, hz, rfl, e2⟩ := item_some e
      rw [e2]
      unfold splW
      rw [rows_codes _ _ _ fun c hc => findC_of N.nd (List.mem_flatMap.mpr ⟨z, hz, hc⟩)]
      unfold splC
      rw [give_sp, rows_sp _ N.tail]
      simp only [rowsF, e]
    | none =>
      have e3 : findC (splB b).cs x = none := N.no x List.mem_cons_self e
      rw [item_none e, List.singleton_append]
      simp only [rowsF, e, e3]
      rw [rows_sp _ N.tail]
      rfl
theorem signs_sp {b : Bk} : ∀ {xs : List Str}, SN b xs → signS (splB b) (splX b xs) = signS b xs
  | [], _ => rfl
  | x :: xs, N => by
    have ce : splX b (x :: xs) = itemsX b x ++ splX b xs := List.flatMap_cons
    rw [ce]
    have ih := signs_sp N.tail
    cases e : findC b.cs x with
    | some c =>
      obtain ⟨z, hz, rfl, e2⟩ := item_some e
      rw [e2]
      unfold splW
      rw [signs_codes _ _ fun c hc => findC_of N.nd (List.mem_flatMap.mpr ⟨z, hz, hc⟩), ih]
      unfold signS
      rw [List.filter_cons_of_neg (by simp [e])]
    | none =>
      have e3 : findC (splB b).cs x = none := N.no x List.mem_cons_self e
      rw [item_none e, List.singleton_append]
      unfold signS at ih ⊢
      rw [List.filter_cons_of_pos (by simp [e3]), List.filter_cons_of_pos (by simp [e]), ih]
def spP (n : Nat) : Nat → List (Str × Str) → List (Nat × Nat)
  | _, [] => []
  | j, _ :: g => (n + j, j) :: spP n (j + 1) g
def offP (cs : List Cn) : List (Nat × Nat) := cs.flatMap fun z => spP z.2 0 z.1.g
def wP (q : Nat × Nat) : Str := wS q.1 q.2
theorem spR_w (kd : Str) (n : Nat) : ∀ (g : List (Str × Str)) (j : Nat), (spR kd n j g).map (·.w) = (spP n j g).map wP
  | [], _ => rfl
  | p :: g, j => by
    rw [spR, spP, List.map_cons, List.map_cons, spR_w kd n g]
    rfl
theorem splL_w (zs : List Cn) : (zs.flatMap splC).map (·.w) = (offP zs).map wP := by
  induction zs with
  | nil => rfl
  | cons z zs ih =>
    unfold offP at ih ⊢
    rw [List.flatMap_cons, List.map_append, ih, List.flatMap_cons, List.map_append]
    unfold splC
    rw [spR_w]
theorem spP_fst (n : Nat) : ∀ (g : List (Str × Str)) (j : Nat), (spP n j g).map (·.1) = List.range' (n + j) g.length
  | [], _ => rfl
  | p :: g, j => by rw [spP, List.map_cons, spP_fst n g, List.length_cons, List.range'_succ, Nat.add_assoc]
theorem spP_snd (n : Nat) : ∀ (g : List (Str × Str)) (j : Nat), ∀ q ∈ spP n j g, q.2 < j + g.length
  | [], _, q, h => nomatch h
  | p :: g, j, q, h => by
    rw [spP] at h
    rw [List.length_cons]
    rcases List.mem_cons.mp h with rfl | h
    · show j < _
      omega
    · have := spP_snd n g (j + 1) q h
      omega
def totC : List SF.Code → Nat
  | [] => 0
  | c :: cs => c.g.length + totC cs
theorem offP_fst : ∀ (n : Nat) (cs : List SF.Code), (offP (offs n cs)).map (·.1) = List.range' n (totC cs)
  | _, [] => rfl
  | n, c :: cs => by
    have ih := offP_fst (n + c.g.length) cs
    unfold offP at ih ⊢
    rw [offs, List.flatMap_cons, List.map_append, ih, spP_fst, totC, ← List.range'_append_1]
    rfl
theorem splL_len : ∀ (n : Nat) (cs : List SF.Code), ((offs n cs).flatMap splC).length = totC cs
  | _, [] => rfl
  | n, c :: cs => by
    rw [offs, List.flatMap_cons, List.length_append, splL_len]
    unfold splC
    rw [spR_len, totC]
theorem wP_inj : ∀ a ∈ List.range 17, ∀ b ∈ List.range 3, ∀ c ∈ List.range 17, ∀ d ∈ List.range 3, wS a b = wS c d → a = c := by decide +kernel
theorem offP_mem {cs : List SF.Code} (h3 : ∀ c ∈ cs, c.g.length ≤ 3) (h17 : totC cs < 17) {q : Nat × Nat} (hq : q ∈ offP (offs 0 cs)) : q.1 ∈ List.range 17 ∧ q.2 ∈ List.range 3 := by
  have h1 : q.1 ∈ (offP (offs 0 cs)).map (·.1) := List.mem_map_of_mem hq
  rw [offP_fst, List.mem_range'_1] at h1
  obtain ⟨z, hz, hq⟩ := List.mem_flatMap.mp hq
  have h2 := spP_snd _ _ _ _ hq
  have h4 : z.1 ∈ cs := by
    rw [← offs_fst 0 cs]
    exact List.mem_map_of_mem hz
  have h5 := h3 _ h4
  rw [List.mem_range, List.mem_range]
  omega
theorem spl_nodup {cs : List SF.Code} (h3 : ∀ c ∈ cs, c.g.length ≤ 3) (h17 : totC cs < 17) : ((splL cs).map (·.w)).Nodup := by
  unfold splL
  rw [splL_w]
  have nd : ((offP (offs 0 cs)).map (·.1)).Nodup := by
    rw [offP_fst]
    exact List.nodup_range'
  have key : ∀ q ∈ offP (offs 0 cs), q.1 ∈ List.range 17 ∧ q.2 ∈ List.range 3 := fun q hq => offP_mem h3 h17 hq
  revert nd key
  generalize offP (offs 0 cs) = P
  intro nd key
  refine List.pairwise_map.mpr ?_
  refine List.Pairwise.imp_of_mem ?_ (List.pairwise_map.mp nd)
  intro p q hp hq hne he
  exact hne (wP_inj _ (key p hp).1 _ (key p hp).2 _ (key q hq).1 _ (key q hq).2 he)
end SB
set_option Elab.async false
set_option linter.all false
set_option maxRecDepth 100000
namespace SB
open PySem PySem.Spec L2 TL SF
open PyProof.Rows hiding St
def V3 : List Str := ["plain", "u", "v"]
theorem v34 : ∀ x ∈ V3, x ∈ V4 := by decide +kernel
theorem value_dq3 {cs : List Int} {R : Sto} (hc : cs ≠ []) : Dq cs R 1 (fun t => ∃ x ∈ V3, t = .str x) (m__law_value [.ref 1]) := fun ls a hl ha => by
  obtain ⟨_, ls', a', e, ⟨r, rfl, hr⟩, h2, h3⟩ := draw_dq (R := R) hc (m := 4) (by decide) ls a hl ha
  obtain ⟨x, hx, ex⟩ := pick ["plain", "u", "v", "u"] (r := r) (by simp; omega)
  have ex2 : ∀ S, ixT S (.lst [.str "plain", .str "u", .str "v", .str "u"]) (.int r) = some (.str x) := ex
  refine ⟨.str x, ls', a', ?_, ⟨x, ?_, rfl⟩, h2, h3⟩
  · unfold m__law_value b__law_value
    generalize m__law_draw = f1 at e ⊢
    simp_arith [e, ex2, small16 (show 4 ≤ 200 by omega)]
  · exact (show ∀ y ∈ (["plain", "u", "v", "u"] : List Str), y ∈ V3 by decide +kernel) x hx
theorem gifts_of3 : ∀ {prs : List (Str × T)}, (∀ p ∈ prs, ∃ v ∈ V3, p.2 = .tup [.str p.1, .str v]) → ∃ g : List (Str × Str), g.map (·.1) = prs.map (·.1) ∧ (∀ p ∈ g, p.2 ∈ V3) ∧ prs.map (·.2) = g.map pT
  | [], _ => ⟨[], rfl, (fun v hv => nomatch hv), rfl⟩
  | p :: prs, h => by
    obtain ⟨v, hv, e⟩ := h p List.mem_cons_self
    obtain ⟨g, h1, h2, h3⟩ := gifts_of3 fun q hq => h q (List.mem_cons_of_mem _ hq)
    refine ⟨(p.1, v) :: g, by simp [h1], fun w hw => ?_, by simp [h3, pT, e]⟩
    rcases List.mem_cons.mp hw with rfl | hw
    · exact hv
    · exact h2 w hw
theorem book_dr13 {cs : List Int} (hc : cs ≠ []) {most : Nat} (m0 : 0 < most) (m9 : most ≤ 8) : Dr cs 100 (fun t => ∃ b, (BL b ∧ (∀ c ∈ b.cs, ∀ p ∈ c.g, p.2 ∈ V3)) ∧ t = bT b) (m__law_book [.ref 1, .int most]) := by
  unfold m__law_book
  refine db_gc (fun R ls a hl ha => ?_) fun t ht => by obtain ⟨b, _, rfl⟩ := ht; exact nr_bT b
  unfold b__law_book
  have dr := fun (R : Sto) {m : Int} (hm : 0 < m ∧ m < 1073741824) => draw_dq (R := R) hc hm
  have va := fun (R : Sto) => value_dq3 (R := R) hc
  generalize m__law_draw = f1 at dr ⊢
  generalize m__law_value = f2 at va ⊢
  have tst : ∀ (R : Sto) (τ : TL.Fr), τ[0]? = some (some (.ref 1)) → Dq cs R 1 (fun _ => True) (fTest (fBin TL.eqT (fCall f1 (fCons (fVar 0) (fCons (fC (.int 2)) fNil))) (fC (.int 0))) τ) := fun R τ hτ ls a hl ha => by
    obtain ⟨_, ls1, a1, d1, ⟨r1, rfl, hr1⟩, l1, b1⟩ := dr R (m := 2) (by decide) ls a hl ha
    refine ⟨decide ((r1 : Int) = 0), ls1, a1, ?_, trivial, l1, b1⟩
    simp_arith [hτ, d1]
  obtain ⟨_, ls1, a1, d1, ⟨r1, rfl, hr1⟩, l1, b1⟩ := dr R (m := 4) (by decide) ls a hl (by omega)
  obtain ⟨asp, hasp, hal, ha0⟩ : ∃ asp : List Str, (∀ S, ixT S (.lst [.tup [.str "a"], .tup [.str "a", .str "b"], .tup [.str "a", .str "b", .str "c"], .tup [.str "a", .str "b"]]) (.int r1) = some (SF.tS asp)) ∧ asp.Sublist L3 ∧ asp ≠ [] := by
    have h4 : r1 = 0 ∨ r1 = 1 ∨ r1 = 2 ∨ r1 = 3 := by omega
    rcases h4 with rfl | rfl | rfl | rfl
    · exact ⟨["a"], fun _ => rfl, by decide +kernel, by simp⟩
    · exact ⟨["a", "b"], fun _ => rfl, by decide +kernel, by simp⟩
    · exact ⟨["a", "b", "c"], fun _ => rfl, by decide +kernel, by simp⟩
    · exact ⟨["a", "b"], fun _ => rfl, by decide +kernel, by simp⟩
  have al3 : asp.length ≤ 3 := hal.length_le
  obtain ⟨a0, as0, i0⟩ : ∃ a0, [a0].Sublist asp ∧ ∀ S, ixT S (SF.tS asp) (.int 0) = some (.str a0) := by
    cases asp with
    | nil => exact absurd rfl ha0
    | cons a0 ar => exact ⟨a0, (List.nil_sublist ar).cons₂ a0, fun S => ix_0 _ _ S⟩
  have q1 := lc_sub (cs := cs) (R := R) (i := 8) (τ := [some (.ref 1), some (.int most), some (SF.tS asp), none, none, none, none, none, none]) (al := asp)
    (Ft := fTest (fBin TL.eqT (fCall f1 (fCons (fVar 0) (fCons (fC (.int 2)) fNil))) (fC (.int 0)))) (Fe := fVar 8) (Q := fun x y => y = .str x)
    (fun x hx => tst R _ rfl) (fun x hx ls a hl ha => ⟨.str x, ls, a, rfl, rfl, hl, by omega⟩)
  obtain ⟨_, ls2, a2, e2, ⟨prs, hp1, hp2, rfl⟩, l2, b2⟩ := q1 ls1 a1 l1 (by omega)
  have sh1 : prs.map (·.2) = (prs.map (·.1)).map T.str := by
    rw [List.map_map]
    exact List.map_congr_left fun p hp => hp2 p hp
  rw [sh1] at e2
  generalize prs.map (·.1) = sh at hp1 e2
  obtain ⟨_, ls3, a3, d3, ⟨r3, rfl, hr3⟩, l3, b3⟩ := dr (R ++ [.lst []]) (m := (most : Int)) (by omega) ls2 a2 l2 (by omega)
  simp_arith [d1, hasp, small16 (show 4 ≤ 200 by omega), small16 (show 2 ≤ 200 by omega), small16 (show 3 ≤ 200 by omega), small16 (show 1 ≤ 200 by omega), List.length_map, small16 (show asp.length ≤ 200 by omega), e2, S2_app, S2_len, d3, SF.add_int, inR_small (show (0 : Int) ≤ 1 + r3 by omega) (by omega)]
  have er : (1 + (r3 : Int)) = ((1 + r3 : Nat) : Int) := by omega
  rw [er]
  generalize hF : forF _ _ _ _ _ = R2
  obtain ⟨τ2, S3, e, ls4, a4, bs, h4, h5, h6, h7, h8, h9, x5, x6, x7, x8, h10⟩ := for_go hF (fun i τ T1 => ∃ ls' a' bs, T1 = S2 ls' cs a' (R ++ [.lst (bs.map cT)]) ∧ ls'.length = cs.length ∧ a' ≤ a + 8 + 8 * i ∧ bs.length = i ∧ bs.map (·.w) = W8.take i ∧ (∀ c ∈ bs, CL asp c ∧ ∀ p ∈ c.g, p.2 ∈ V3) ∧
      ∃ x5 x6 x7 x8, τ = [some (.ref 1), some (.int most), some (SF.tS asp), some (SF.tS sh), some (.ref (R.length + 2)), x5, x6, x7, x8])
    ⟨ls3, a3, [], rfl, l3, by omega, rfl, rfl, fun x hx => (nomatch hx), none, none, none, none, rfl⟩ (by
    intro i y τ T1 hx hI
    obtain ⟨ls', a', bs, rfl, hl', ha', hbl, hbw, hbc, x5, x6, x7, x8, rfl⟩ := hI
    obtain ⟨hi, rfl⟩ := rng_at hx
    refine ⟨_, rfl, ?_⟩
    have q2 := lc_sub (cs := cs) (R := R ++ [.lst (bs.map cT)]) (i := 8) (τ := [some (.ref 1), some (.int most), some (SF.tS asp), some (SF.tS sh), some (.ref (R.length + 2)), some (.int i), x6, x7, none]) (al := asp)
      (Ft := fTest (fBin TL.eqT (fCall f1 (fCons (fVar 0) (fCons (fC (.int 2)) fNil))) (fC (.int 0)))) (Fe := fTup (fCons (fVar 8) (fCons (fCall f2 (fCons (fVar 0) fNil)) fNil))) (Q := fun x y => ∃ v ∈ V3, y = .tup [.str x, .str v])
      (fun x hx => tst _ _ rfl) (fun x hx ls a hl ha => by
        obtain ⟨_, ls1, a1, d1, ⟨v, hv, rfl⟩, l1, b1⟩ := va (R ++ [.lst (bs.map cT)]) ls a hl ha
        refine ⟨.tup [.str x, .str v], ls1, a1, ?_, ⟨v, hv, rfl⟩, l1, b1⟩
        simp_arith [d1, small16 (show 2 ≤ 200 by omega)])
    obtain ⟨_, ls5, a5, e5, ⟨prs, hp1, hp2, rfl⟩, l5, b5⟩ := q2 ls' a' hl' (by omega)
    obtain ⟨g, g1, g2, g3⟩ := gifts_of3 hp2
    rw [g3] at e5
    rw [← g1] at hp1
    have gl3 : g.length ≤ 3 := by
      have := hp1.length_le
      rw [List.length_map] at this
      omega
    -- what the code gives
    obtain ⟨ls6, a6, g', gs, g0, gv, eg, l6, b6⟩ : ∃ (ls6 : List Int) (a6 : Nat) (g' : List (Str × Str)), (g'.map (·.1)).Sublist asp ∧ g' ≠ [] ∧ (∀ p ∈ g', p.2 ∈ V3) ∧
        (bSeq (bSet 6 (fBlt tupT (fCons (fPure (fLc (fiA (fVar 2)) (sName 8) (fTest (fBin TL.eqT (fCall f1 (fCons (fVar 0) (fCons (fC (.int 2)) fNil))) (fC (.int 0)))) (fTup (fCons (fVar 8) (fCons (fCall f2 (fCons (fVar 0) fNil)) fNil))) [8])) fNil)))
          (bIf (fTest (fBin TL.eqT (fVar 6) (fTup fNil))) (bSet 6 (fTup (fCons (fTup (fCons (fBin ixT (fVar 2) (fC (.int 0))) (fCons (fCall f2 (fCons (fVar 0) fNil)) fNil))) fNil))) bNext))
          [some (.ref 1), some (.int most), some (SF.tS asp), some (SF.tS sh), some (.ref (R.length + 2)), some (.int i), x6, x7, x8] (S2 ls' cs a' (R ++ [.lst (bs.map cT)])) =
        .nx [some (.ref 1), some (.int most), some (SF.tS asp), some (SF.tS sh), some (.ref (R.length + 2)), some (.int i), some (.tup (g'.map pT)), x7, x8] (S2 ls6 cs a6 (R ++ [.lst (bs.map cT)])) ∧ ls6.length = cs.length ∧ a6 ≤ a' + 7 := by
      by_cases hg : g = []
      · subst hg
        obtain ⟨_, ls6, a6, d6, ⟨v, hv, rfl⟩, l6, b6⟩ := va (R ++ [.lst (bs.map cT)]) ls5 a5 l5 (by omega)
        refine ⟨ls6, a6, [(a0, v)], as0, by simp, fun p hp => ?_, ?_, l6, by omega⟩
        · rw [List.mem_singleton.mp hp]; exact hv
        · simp_arith [List.length_map, small16 (show asp.length ≤ 200 by omega), e5, eq_nil0, i0, d6, small16 (show 2 ≤ 200 by omega), small16 (show 1 ≤ 200 by omega), pT]
      · have nz := eq_nil (gifts_nice (fun p hp => hal.subset (hp1.subset (List.mem_map_of_mem hp))) (fun p hp => v34 _ (g2 p hp)) (by omega)) (by decide) (fun z => hg (List.map_eq_nil_iff.mp z))
        refine ⟨ls5, a5, g, hp1, hg, g2, ?_, l5, by omega⟩
        simp_arith [List.length_map, small16 (show asp.length ≤ 200 by omega), e5, nz]
    obtain ⟨_, ls7, a7, d7, ⟨r7, rfl, hr7⟩, l7, b7⟩ := dr (R ++ [.lst (bs.map cT)]) (m := 4) (by decide) ls6 a6 l6 (by omega)
    obtain ⟨kk, hk, ex⟩ := pick ["j", "k", "k", "l"] (r := r7) (by simp; omega)
    have ex2 : ∀ S, ixT S (.lst [.str "j", .str "k", .str "k", .str "l"]) (.int r7) = some (.str kk) := ex
    have hk3 : kk ∈ K3 := (show ∀ y ∈ (["j", "k", "k", "l"] : List Str), y ∈ K3 by decide +kernel) kk hk
    have i8 : i < W8.length := by
      have : W8.length = 8 := rfl
      omega
    have ew : ∀ S, ixT S (.lst [.str "1", .str "2", .str "22", .str "3;4", .str "0", .str "38;5;1", .str "9", .str "44"]) (.int i) = some (.str (W8[i])) := fun S => by
      have := ix_lst (ts := W8.map T.str) (r := i) (by rw [List.length_map]; exact i8) S
      rw [List.getElem_map] at this
      exact this
    have z4 : bs.length < sizeLine := small16' (by omega)
    have sn : bs.map cT ++ [.tup [.str (W8[i]), .str kk, .tup (g'.map pT)]] = (bs ++ [(⟨W8[i], kk, g'⟩ : SF.Code)]).map cT := by
      rw [List.map_append]
      rfl
    have split : ∀ (B1 B2 C : BS) τ S, bSeq B1 (bSeq B2 C) τ S = bSeq (bSeq B1 B2) C τ S := fun B1 B2 C τ S => by
      unfold bSeq
      cases B1 τ S <;> rfl
    rw [split]
    show Goes (match bSeq _ _ [some (.ref 1), some (.int most), some (SF.tS asp), some (SF.tS sh), some (.ref (R.length + 2)), some (.int i), x6, x7, x8] (S2 ls' cs a' (R ++ [.lst (bs.map cT)])) with | .nx τ1 S1 => _ | r => r) _
    rw [eg]
    simp_arith [ew, d7, ex2, lst_S2, List.length_map, z4, set_S2, sn, small16 (show 8 ≤ 200 by omega), small16 (show 4 ≤ 200 by omega), small16 (show 3 ≤ 200 by omega)]
    refine goes_nx ⟨ls7, a7, bs ++ [⟨W8[i], kk, g'⟩], rfl, l7, by omega, by simp [hbl], ?_, fun c hc => ?_, _, _, _, _, rfl⟩
    · rw [List.map_append, hbw, List.take_add_one, List.getElem?_eq_getElem i8]
      rfl
    · rcases List.mem_append.mp hc with hc | hc
      · exact hbc c hc
      · rw [List.mem_singleton.mp hc]
        exact ⟨⟨hk3, g0, gs, fun p hp => v34 _ (gv p hp)⟩, gv⟩)
  subst e h4 h10
  rw [rng_len] at h6 h7 h8
  simp_arith [tup_S2, small16 (show 3 ≤ 200 by omega)]
  have B : BL ⟨asp, sh, bs⟩ := by
    refine ⟨hal, ha0, hp1, by rw [h8, h7], by show bs.length ≤ 8; omega, fun z => ?_, fun c hc => (h9 c hc).1⟩
    have z2 : bs = [] := z
    rw [z2] at h7
    simp at h7
    omega
  exact ⟨bT ⟨asp, sh, bs⟩, ls4, a4, [.lst (bs.map cT)], rfl, ⟨⟨asp, sh, bs⟩, ⟨B, fun c hc => (h9 c hc).2⟩, rfl⟩, h5, by omega⟩
end SB
set_option Elab.async false
set_option linter.all false
set_option maxRecDepth 100000
set_option maxHeartbeats 4000000
namespace SB
open PySem PySem.Spec L2 TL SF
open PyProof.Rows hiding St
def L4 : List Str := ["a", "b", "c", "zz"]
def K4 : List Str := ["j", "k", "l", "long"]
def R8 : List Str := ["7", "77", "1", "2;2", "22", "0", "9;9", "4"]
def G8 : List Str := ["x", "y", " ", "z", "\n", "a", "q"]
def Wa : List Str := ["1", "2", "22", "3;4", "0", "38;5;1", "9", "44", "7", "77", "2;2", "9;9", "4", "0;0", "0;1", "0;2", "1;0", "1;1", "1;2", "2;0", "2;1", "3;0", "3;1", "3;2", "4;0"]
def Wb : List Str := ["4;1", "4;2", "5;0", "5;1", "5;2", "6;0", "6;1", "6;2", "7;0", "7;1", "7;2", "8;0", "8;1", "8;2", "9;0", "9;1", "9;2", "10;0", "10;1", "10;2", "11;0", "11;1", "11;2", "12;0", "12;1"]
def Wc : List Str := ["12;2", "13;0", "13;1", "13;2", "14;0", "14;1", "14;2", "15;0", "15;1", "15;2", "16;0", "16;1", "16;2"]
def WW : List Str := Wa ++ (Wb ++ Wc)
theorem nm4 : ∀ x ∈ L4 ++ V4 ++ K4, Nm x := all_of (by
  repeat' apply And.intro
  all_goals first | exact trivial | (intro S; kernel_rfl))
theorem wda : ∀ x ∈ Wa, Wd x ∧ Sg x false := all_of (by
  repeat' apply And.intro
  all_goals first | exact trivial | (intro S; kernel_rfl))
theorem wdb : ∀ x ∈ Wb, Wd x ∧ Sg x false := all_of (by
  repeat' apply And.intro
  all_goals first | exact trivial | (intro S; kernel_rfl))
theorem wdc : ∀ x ∈ Wc, Wd x ∧ Sg x false := all_of (by
  repeat' apply And.intro
  all_goals first | exact trivial | (intro S; kernel_rfl))
theorem wd4 : ∀ x ∈ WW, Wd x ∧ Sg x false := fun x hx => by
  rcases List.mem_append.mp hx with h | h
  · exact wda x h
  rcases List.mem_append.mp h with h | h
  · exact wdb x h
  · exact wdc x h
theorem si8 : ∀ x ∈ G8, Si x := all_of ⟨⟨fun _ => by kernel_rfl, fun _ _ => by kernel_rfl, fun _ => by kernel_rfl, fun _ => by kernel_rfl⟩, ⟨fun _ => by kernel_rfl, fun _ _ => by kernel_rfl, fun _ => by kernel_rfl, fun _ => by kernel_rfl⟩, ⟨fun _ => by kernel_rfl, fun _ _ => by kernel_rfl, fun _ => by kernel_rfl, fun _ => by kernel_rfl⟩, ⟨fun _ => by kernel_rfl, fun _ _ => by kernel_rfl, fun _ => by kernel_rfl, fun _ => by kernel_rfl⟩, ⟨fun _ => by kernel_rfl, fun _ _ => by kernel_rfl, fun _ => by kernel_rfl, fun _ => by kernel_rfl⟩, ⟨fun _ => by kernel_rfl, fun _ _ => by kernel_rfl, fun _ => by kernel_rfl, fun _ => by kernel_rfl⟩, ⟨fun _ => by kernel_rfl, fun _ _ => by kernel_rfl, fun _ => by kernel_rfl, fun _ => by kernel_rfl⟩, trivial⟩
theorem so8 : ∀ x ∈ L4 ++ V4 ++ K4 ++ G8, So x := fun x hx => List.all_eq_true.mp (show (L4 ++ V4 ++ K4 ++ G8).all PyData.strOk = true by decide +kernel) x hx
theorem asp4 : ∀ l ∈ subls L4, ∀ S, m_are_names [SF.tS l, .int 6] S = .ok (.bl true) S := all_of (by
  repeat' apply And.intro
  all_goals first | exact trivial | (intro S; kernel_rfl))
theorem asc4 : ∀ l ∈ subls L4, ∀ S, m_ascend [.lst (l.map T.str)] S = .ok (.bl true) S := all_of (by
  repeat' apply And.intro
  all_goals first | exact trivial | (intro S; kernel_rfl))
structure WB (b : Bk) : Prop where
  asp : b.asp.Sublist L4
  a0 : b.asp ≠ []
  sh : b.sh.Sublist b.asp
  ws : ∀ c ∈ b.cs, c.w ∈ WW
  nd : (b.cs.map (·.w)).Nodup
  n16 : b.cs.length ≤ 16
  k : ∀ c ∈ b.cs, c.k ∈ K4
  g0 : ∀ c ∈ b.cs, c.g ≠ []
  gs : ∀ c ∈ b.cs, (c.g.map (·.1)).Sublist b.asp
  gv : ∀ c ∈ b.cs, ∀ p ∈ c.g, p.2 ∈ V4
theorem nd_L4 : L4.Nodup := by decide +kernel
theorem inL {x : Str} (h : x ∈ L4) : x ∈ L4 ++ V4 ++ K4 := List.mem_append_left _ (List.mem_append_left _ h)
theorem inV {x : Str} (h : x ∈ V4) : x ∈ L4 ++ V4 ++ K4 := List.mem_append_left _ (List.mem_append_right _ h)
theorem inK {x : Str} (h : x ∈ K4) : x ∈ L4 ++ V4 ++ K4 := List.mem_append_right _ h
theorem WB.gc {b : Bk} (B : WB b) : GC b := by
  have gl6 : ∀ c ∈ b.cs, c.g.length ≤ 6 := fun c hc => by
    have h1 := ((B.gs c hc).trans B.asp).length_le
    rw [List.length_map] at h1
    have h2 : L4.length = 4 := rfl
    omega
  have gin : ∀ c ∈ b.cs, ∀ p ∈ c.g, p.1 ∈ b.asp := fun c hc p hp => (B.gs c hc).subset (List.mem_map_of_mem hp)
  have l3 : b.asp.length ≤ 4 := B.asp.length_le
  have l4 := B.sh.length_le
  have l8 := B.n16
  refine ⟨⟨⟨asp4 _ (mem_subs B.asp), B.a0, asp4 _ (mem_subs (B.sh.trans B.asp)), fun x hx => B.sh.subset hx, by omega, by omega, fun c hc => ?_, B.nd, ⟨K4, by decide, B.k⟩⟩, fun c hc => (wd4 _ (B.ws c hc)).2, gin, nd_L4.sublist B.asp, gl6, by omega⟩, fun c hc => so8 _ (List.mem_append_left _ (inK (B.k c hc))), fun c hc p hp => so8 _ (List.mem_append_left _ (inV (B.gv c hc p hp))), ⟨K4, by decide, B.k⟩⟩
  have a1 := asc4 _ (mem_subs ((B.gs c hc).trans B.asp))
  rw [List.map_map] at a1
  exact is_code_ok (small16 (by have := gl6 c hc; omega)) (wd4 _ (B.ws c hc)).1 (nm4 _ (inK (B.k c hc))) (are_gifts_ok (B.g0 c hc) (small16 (by have := gl6 c hc; omega)) (fun p hp => ⟨nm4 _ (inL (B.asp.subset (gin c hc p hp))), nm4 _ (inV (B.gv c hc p hp))⟩) a1) (gin c hc)
structure XW (b : Bk) (xs : List Str) : Prop where
  len : xs.length ≤ 200
  it : ∀ x ∈ xs, x ∈ b.cs.map (·.w) ∨ x ∈ G8
theorem XW.gx {b : Bk} {xs : List Str} (X : XW b xs) : GX b xs := ⟨⟨X.len, fun x hx => (X.it x hx).imp (fun h => by
  obtain ⟨c, hc, e⟩ := List.mem_map.mp h
  exact ⟨c, hc, e⟩) (si8 x)⟩, fun x hx e => by
  rcases X.it x hx with h | h
  · obtain ⟨c, hc, e2⟩ := List.mem_map.mp h
    exact absurd e2 (findC_none e c hc)
  · exact so8 _ (List.mem_append_right _ h)⟩
structure DB (b : Bk) : Prop where
  bl : BL b
  v : ∀ c ∈ b.cs, ∀ p ∈ c.g, p.2 ∈ V3
theorem g58 : ∀ x ∈ G5, x ∈ G8 := by decide +kernel
theorem ww8 : ∀ x ∈ W8, x ∈ WW := by decide +kernel
section
variable {b : Bk} (D : DB b)
include D
theorem DB.w8 : ∀ c ∈ b.cs, c.w ∈ W8 := fun c hc => by
  have : c.w ∈ b.cs.map (·.w) := List.mem_map_of_mem hc
  rw [D.bl.ws] at this
  exact List.mem_of_mem_take this
theorem DB.nd : (b.cs.map (·.w)).Nodup := by
  rw [D.bl.ws]
  exact (show W8.Nodup by decide +kernel).sublist (List.take_sublist _ _)
theorem DB.more : WB (moreB b) := by
  have B := D.bl
  refine ⟨List.Sublist.append B.asp (List.Sublist.refl [("zz" : Str)]), by simp [moreB], List.Sublist.append B.sh (List.Sublist.refl _), fun c hc => ww8 _ (D.w8 c hc), D.nd, by have := B.n8; show b.cs.length ≤ 16; omega, fun c hc => (show ∀ x ∈ K3, x ∈ K4 by decide +kernel) _ (B.cl c hc).k, fun c hc => (B.cl c hc).g0, fun c hc => (B.cl c hc).gs.trans (List.sublist_append_left _ _), fun c hc => (B.cl c hc).gv⟩
omit D in
theorem more_x {xs : List Str} (X : XL b xs) : XW (moreB b) xs := ⟨X.len, fun x hx => (X.it x hx).imp id (g58 x)⟩
theorem DB.nzz : ∀ c ∈ b.cs, ∀ p ∈ c.g, p.1 ≠ "zz" := fun c hc p hp e => by
  have h : p.1 ∈ L3 := D.bl.asp.subset ((D.bl.cl c hc).gs.subset (List.mem_map_of_mem hp))
  rw [e] at h
  exact absurd h (by decide +kernel)
end
def wr (x : Str) : Str := ((W8.zip R8).lookup x).getD x
def lx (x : Str) : Str := if x = "x" then "a" else if x = "y" then "x" else if x = "z" then "q" else x
def rx (x : Str) : Str := if x ∈ W8 then wr x else lx x
def rc (c : SF.Code) : SF.Code := ⟨wr c.w, ro c.k, ag c.g⟩
def renB (b : Bk) : Bk := ⟨b.asp, b.sh, (b.cs.map rc).reverse⟩
section
variable {b : Bk} (D : DB b)
include D
theorem DB.rnd : ((renB b).cs.map (·.w)).Nodup := by
  have e : (renB b).cs.map (·.w) = ((b.cs.map (·.w)).map wr).reverse := by
    show ((b.cs.map rc).reverse).map (·.w) = _
    rw [List.map_reverse, List.map_map, List.map_map]
    rfl
  rw [e, D.bl.ws]
  refine (List.reverse_perm _).nodup_iff.mpr ?_
  exact (show (W8.map wr).Nodup by decide +kernel).sublist ((List.take_sublist _ _).map wr)
omit D in
theorem ren_mem {c : SF.Code} (hc : c ∈ (renB b).cs) : ∃ d ∈ b.cs, c = rc d := by
  obtain ⟨d, hd, e⟩ := List.mem_map.mp (List.mem_reverse.mp hc)
  exact ⟨d, hd, e.symm⟩
omit D in
theorem ag_fst (g : List (Str × Str)) : (ag g).map (·.1) = g.map (·.1) := by
  unfold ag
  rw [List.map_map]
  rfl
theorem DB.ren : WB (renB b) := by
  have B := D.bl
  refine ⟨B.asp.trans (show L3.Sublist L4 by decide +kernel), B.a0, B.sh, fun c hc => ?_, D.rnd, ?_, fun c hc => ?_, fun c hc => ?_, fun c hc => ?_, fun c hc p hp => ?_⟩
  · obtain ⟨d, hd, rfl⟩ := ren_mem hc
    exact (show ∀ x ∈ W8, wr x ∈ WW by decide +kernel) _ (D.w8 d hd)
  · show ((b.cs.map rc).reverse).length ≤ 16
    have := B.n8
    rw [List.length_reverse, List.length_map]
    omega
  · obtain ⟨d, hd, rfl⟩ := ren_mem hc
    exact (show ∀ x ∈ K3, ro x ∈ K4 by decide +kernel) _ (B.cl d hd).k
  · obtain ⟨d, hd, rfl⟩ := ren_mem hc
    exact fun z => (B.cl d hd).g0 (List.map_eq_nil_iff.mp z)
  · obtain ⟨d, hd, rfl⟩ := ren_mem hc
    show ((ag d.g).map (·.1)).Sublist b.asp
    rw [ag_fst]
    exact (B.cl d hd).gs
  · obtain ⟨d, hd, rfl⟩ := ren_mem hc
    obtain ⟨q, hq, rfl⟩ := List.mem_map.mp hp
    exact (show ∀ x ∈ V3, ro x ∈ V4 by decide +kernel) _ (D.v d hd q hq)
omit D in
theorem x_cases {xs : List Str} (X : XL b xs) {x : Str} (hx : x ∈ xs) (e : findC b.cs x = none) : x ∈ G5 := by
  rcases X.it x hx with h | h
  · obtain ⟨c, hc, e2⟩ := List.mem_map.mp h
    exact absurd e2 (findC_none e c hc)
  · exact h
theorem DB.rn {xs : List Str} (X : XL b xs) : RN b (renB b) rx xs := by
  refine ⟨fun x hx c e => ?_, fun x hx e => ?_⟩
  · obtain ⟨hc, rfl⟩ := findC_mem e
    refine ⟨wr c.w, ?_⟩
    unfold rx
    rw [if_pos (D.w8 c hc)]
    exact findC_of (c := rc c) D.rnd (List.mem_reverse.mpr (List.mem_map_of_mem hc))
  · have g := x_cases X hx e
    have q := (show ∀ x ∈ G5, rx x ∉ W8.map wr ∧ (rx x = "\n" ↔ x = "\n") ∧ (rx x = " " ↔ x = " ") by decide +kernel) x g
    refine ⟨?_, ?_⟩
    · cases e2 : findC (renB b).cs (rx x) with
      | none => rfl
      | some c =>
        obtain ⟨hc, e3⟩ := findC_mem e2
        obtain ⟨d, hd, rfl⟩ := ren_mem hc
        refine absurd ?_ q.1
        rw [← e3]
        exact List.mem_map_of_mem (D.w8 d hd)
    · unfold shownS
      simp only [q.2.1, q.2.2]
      rfl
theorem DB.ren_x {xs : List Str} (X : XL b xs) : XW (renB b) (xs.map rx) := by
  refine ⟨by rw [List.length_map]; exact X.len, fun y hy => ?_⟩
  obtain ⟨x, hx, rfl⟩ := List.mem_map.mp hy
  cases e : findC b.cs x with
  | some c =>
    obtain ⟨w, e2⟩ := (D.rn X).fc x hx c e
    obtain ⟨h1, h2⟩ := findC_mem e2
    rw [← h2]
    exact .inl (List.mem_map_of_mem h1)
  | none => exact .inr ((show ∀ x ∈ G5, rx x ∈ G8 by decide +kernel) x (x_cases X hx e))
theorem DB.ren_size {xs ys : List Str} (X : XL b xs) (Y : XL b ys) : sizeF (rowsF (renB b) f0 (xs.map rx)) (rowsF (renB b) f0 (ys.map rx)) = sizeF (rowsF b f0 xs) (rowsF b f0 ys) := by
  rw [rows_sg (D.rn X) (f := f0) (f' := f0) fun _ => rfl, rows_sg (D.rn Y) (f := f0) (f' := f0) fun _ => rfl]
  exact size_sg (fun r hr c hc => ((rows_good D.bl.gc r hr).2 c hc).nd) fun r hr c hc => ((rows_good D.bl.gc r hr).2 c hc).nd
theorem DB.ren_sign {xs ys : List Str} (X : XL b xs) (Y : XL b ys) (h : signS b xs = signS b ys) : signS (renB b) (xs.map rx) = signS (renB b) (ys.map rx) := by
  rw [signs_rn (D.rn X), signs_rn (D.rn Y), h]
end
theorem spR_mem {kd : Str} {n : Nat} : ∀ {g : List (Str × Str)} {j : Nat} {c : SF.Code}, c ∈ spR kd n j g → c.k = kd ∧ ∃ p ∈ g, c.g = [p]
  | [], _, _, h => nomatch h
  | p :: g, j, c, h => by
    rw [spR] at h
    rcases List.mem_cons.mp h with rfl | h
    · exact ⟨rfl, p, List.mem_cons_self, rfl⟩
    · obtain ⟨h1, q, h2, h3⟩ := spR_mem h
      exact ⟨h1, q, List.mem_cons_of_mem _ h2, h3⟩
section
variable {b : Bk} (D : DB b)
include D
theorem DB.g3 : ∀ c ∈ b.cs, c.g.length ≤ 3 := fun c hc => by
  have h1 := ((D.bl.cl c hc).gs.trans D.bl.asp).length_le
  rw [List.length_map] at h1
  exact h1
omit D in
theorem spl_mem {c : SF.Code} (hc : c ∈ splL b.cs) : ∃ d ∈ b.cs, c.k = d.k ∧ ∃ p ∈ d.g, c.g = [p] := by
  obtain ⟨z, hz, hc⟩ := List.mem_flatMap.mp hc
  have h4 : z.1 ∈ b.cs := by
    have : z.1 ∈ (offs 0 b.cs).map (·.1) := List.mem_map_of_mem hz
    rw [offs_fst] at this
    exact this
  obtain ⟨h1, h2⟩ := spR_mem hc
  exact ⟨z.1, h4, h1, h2⟩
theorem DB.spl_w (h : totC b.cs < 17) {c : SF.Code} (hc : c ∈ splL b.cs) : c.w ∈ WW := by
  have h1 : c.w ∈ (splL b.cs).map (·.w) := List.mem_map_of_mem hc
  unfold splL at h1
  rw [splL_w] at h1
  obtain ⟨q, hq, e⟩ := List.mem_map.mp h1
  rw [← e]
  have h2 := offP_mem D.g3 h hq
  exact (show ∀ a ∈ List.range 17, ∀ b ∈ List.range 3, wS a b ∈ WW by decide +kernel) _ h2.1 _ h2.2
theorem DB.spl (h : totC b.cs < 17) : WB (splB b) := by
  have B := D.bl
  refine ⟨B.asp.trans (show L3.Sublist L4 by decide +kernel), B.a0, B.sh, fun c hc => D.spl_w h hc, spl_nodup D.g3 h, ?_, fun c hc => ?_, fun c hc => ?_, fun c hc => ?_, fun c hc p hp => ?_⟩
  · show (splL b.cs).length ≤ 16
    unfold splL
    rw [splL_len]
    omega
  · obtain ⟨d, hd, e, _⟩ := spl_mem hc
    rw [e]
    exact (show ∀ x ∈ K3, x ∈ K4 by decide +kernel) _ (B.cl d hd).k
  · obtain ⟨d, hd, _, p, _, e⟩ := spl_mem hc
    rw [e]
    simp
  · obtain ⟨d, hd, _, p, hp, e⟩ := spl_mem hc
    rw [e]
    exact List.singleton_sublist.mpr ((B.cl d hd).gs.subset (List.mem_map_of_mem hp))
  · obtain ⟨d, hd, _, q, hq, e⟩ := spl_mem hc
    rw [e] at hp
    rw [List.mem_singleton.mp hp]
    exact (B.cl d hd).gv q hq
theorem DB.sn (h : totC b.cs < 17) {xs : List Str} (X : XL b xs) : SN b xs := by
  refine ⟨spl_nodup D.g3 h, fun x hx e => ?_⟩
  have g := x_cases X hx e
  cases e2 : findC (splL b.cs) x with
  | none => rfl
  | some c =>
    obtain ⟨hc, e3⟩ := findC_mem e2
    have := D.spl_w h hc
    rw [e3] at this
    exact absurd this ((show ∀ x ∈ G5, x ∉ WW by decide +kernel) x g)
theorem DB.items {x : Str} : (itemsX b x).length ≤ 3 := by
  cases e : findC b.cs x with
  | none =>
    rw [item_none e]
    exact (by decide : 1 ≤ 3)
  | some c =>
    obtain ⟨z, hz, rfl, e2⟩ := item_some e
    rw [e2]
    unfold splW splC
    rw [List.length_map, spR_len]
    exact D.g3 _ (findC_mem e).1
theorem DB.spl_len : ∀ xs : List Str, (splX b xs).length ≤ 3 * xs.length
  | [] => Nat.le_refl _
  | x :: xs => by
    have ce : splX b (x :: xs) = itemsX b x ++ splX b xs := List.flatMap_cons
    have := DB.spl_len xs
    have h := D.items (x := x)
    rw [ce, List.length_append, List.length_cons]
    omega
theorem DB.spl_x {xs : List Str} (X : XL b xs) (h : xs.length ≤ 60) : XW (splB b) (splX b xs) := by
  refine ⟨by have := D.spl_len xs; omega, fun y hy => ?_⟩
  obtain ⟨x, hx, hy⟩ := List.mem_flatMap.mp hy
  cases e : findC b.cs x with
  | none =>
    rw [item_none e] at hy
    rw [List.mem_singleton.mp hy]
    exact .inr (g58 _ (x_cases X hx e))
  | some c =>
    obtain ⟨z, hz, rfl, e2⟩ := item_some e
    rw [e2] at hy
    obtain ⟨d, hd, rfl⟩ := List.mem_map.mp hy
    exact .inl (List.mem_map_of_mem (List.mem_flatMap.mpr ⟨z, hz, hd⟩))
end
section
variable {b : Bk} (D : DB b) {xs ys : List Str} (X : XL b xs) (Y : XL b ys) (h : signS b xs = signS b ys)
include D X Y h
theorem told_0 : Pu m__law_told [bT b, SF.tS xs, SF.tS ys] (toldT (sizeF (rowsF b f0 xs) (rowsF b f0 ys))) := told_ok D.bl.gc X.gx Y.gx h
theorem told_1 : Pu m__law_told [bT (moreB b), SF.tS xs, SF.tS ys] (toldT (sizeF (rowsF b f0 xs) (rowsF b f0 ys))) := by
  have := told_ok D.more.gc (more_x X).gx (more_x Y).gx h
  rw [size_more D.nzz h] at this
  exact this
theorem told_2 : Pu m__law_told [bT (renB b), SF.tS (xs.map rx), SF.tS (ys.map rx)] (toldT (sizeF (rowsF b f0 xs) (rowsF b f0 ys))) := by
  have := told_ok D.ren.gc (D.ren_x X).gx (D.ren_x Y).gx (D.ren_sign X Y h)
  rw [D.ren_size X Y] at this
  exact this
theorem told_3 (hx : xs.length ≤ 60) (hy : ys.length ≤ 60) (h17 : totC b.cs < 17) : Pu m__law_told [bT (splB b), SF.tS (splX b xs), SF.tS (splX b ys)] (toldT (sizeF (rowsF b f0 xs) (rowsF b f0 ys))) := by
  have N1 := D.sn h17 X
  have N2 := D.sn h17 Y
  have := told_ok (D.spl h17).gc (D.spl_x X hx).gx (D.spl_x Y hy).gx (by rw [signs_sp N1, signs_sp N2, h])
  rw [rows_sp _ N1, rows_sp _ N2] at this
  exact this
end
end SB
set_option Elab.async false
set_option linter.all false
set_option maxRecDepth 100000
set_option maxHeartbeats 4000000
namespace SB
open PySem PySem.Spec L2 TL SF
open PyProof.Rows hiding St
def NK : List Str := ["j", "k", "l", "u", "v", "plain", "x", "y", "z"]
def NV : List Str := ["k", "long", "j", "v", "plain", "u", "a", "x", "q"]
def dW : T := .dct (kS W8) (R8.map T.str)
def dN : T := .dct (kS NK) (NV.map T.str)
theorem ix_dW : ∀ w ∈ W8, ∀ S, ixT S dW (.str w) = some (.str (wr w)) := all_of (by
  repeat' apply And.intro
  all_goals first | exact trivial | (intro S; kernel_rfl))
theorem ix_dN : ∀ x ∈ K3 ++ V3, ∀ S, ixT S dN (.str x) = some (.str (ro x)) := all_of (by
  repeat' apply And.intro
  all_goals first | exact trivial | (intro S; kernel_rfl))
theorem get_dN : ∀ x ∈ W8 ++ G5, ∀ S, (getD3 S dN (.str x) (.str x)).bind (fun y => getD3 S dW (.str x) y) = some (.str (rx x)) := all_of (by
  repeat' apply And.intro
  all_goals first | exact trivial | (intro S; kernel_rfl))
noncomputable def rn_0 : BS := (bSet 2 (fPure (fDisp (((fC (.str "1")), (fC (.str "7"))) :: (((fC (.str "2")), (fC (.str "77"))) :: (((fC (.str "22")), (fC (.str "1"))) :: (((fC (.str "3;4")), (fC (.str "2;2"))) :: (((fC (.str "0")), (fC (.str "22"))) :: (((fC (.str "38;5;1")), (fC (.str "0"))) :: (((fC (.str "9")), (fC (.str "9;9"))) :: (((fC (.str "44")), (fC (.str "4"))) :: [])))))))))))
noncomputable def rn_1 : BS := (bSet 3 (fPure (fDisp (((fC (.str "j")), (fC (.str "k"))) :: (((fC (.str "k")), (fC (.str "long"))) :: (((fC (.str "l")), (fC (.str "j"))) :: (((fC (.str "u")), (fC (.str "v"))) :: (((fC (.str "v")), (fC (.str "plain"))) :: (((fC (.str "plain")), (fC (.str "u"))) :: (((fC (.str "x")), (fC (.str "a"))) :: (((fC (.str "y")), (fC (.str "x"))) :: (((fC (.str "z")), (fC (.str "q"))) :: []))))))))))))
noncomputable def rn_2 : BS := (bSet 4 (fCell (fLstN fNil)))
noncomputable def rn_3 : BS := (bFor (fiA (fBin ixT (fVar 0) (fC (.int 2)))) (sTup 3 (sCons (sName 6) (sCons (sName 7) (sCons (sName 8) sNil)))) (bExpr (fApp (fVar 4) (fCons (fTup (fCons (fBin ixT (fVar 2) (fVar 6)) (fCons (fBin ixT (fVar 3) (fVar 7)) (fCons (fBlt tupT (fCons (fPure (fLc (fiA (fVar 8)) (sTup 2 (sCons (sName 11) (sCons (sName 12) sNil))) fYes (fTup (fCons (fVar 11) (fCons (fBin ixT (fVar 3) (fVar 12)) fNil))) [11, 12])) fNil)) fNil)))) fNil))))
noncomputable def rn_4 : BS := (bSet 5 (fPure (fLc (fiA (fVar 1)) (sName 9) fYes (fBlt tupT (fCons (fPure (fLc (fiA (fVar 9)) (sName 10) fYes (fGet (fVar 2) (fVar 10) (fGet (fVar 3) (fVar 10) (fVar 10))) [10])) fNil)) [9])))
noncomputable def rn_5 : BS := (bRet (fTup (fCons (fTup (fCons (fBin ixT (fVar 0) (fC (.int 0))) (fCons (fBin ixT (fVar 0) (fC (.int 1))) (fCons (fBlt tupT (fCons (fRev (fVar 4) (fUn negT (fC (.int 1)))) fNil)) fNil)))) (fCons (fVar 5) fNil))))
theorem rn_all : b__law_renamed = (bSeq rn_0 (bSeq rn_1 (bSeq rn_2 (bSeq rn_3 (bSeq rn_4 rn_5))))) := rfl
abbrev RF (B L w n c t x6 x7 x8 : Option T) : Fr := [B, L, w, n, c, t, x6, x7, x8, none, none, none, none]
section
variable {B L : Option T} {S : Sto}
theorem rn0 : rn_0 (RF B L none none none none none none none) S = .nx (RF B L (some dW) none none none none none none) S := by kernel_rfl
theorem rn1 : rn_1 (RF B L (some dW) none none none none none none) S = .nx (RF B L (some dW) (some dN) none none none none none) S := by kernel_rfl
theorem rn2 {w n : Option T} : rn_2 (RF B L w n none none none none none) S = .nx (RF B L w n (some (.ref S.length)) none none none none) (S ++ [.lst []]) := by
  unfold rn_2
  simp_arith
end
theorem rn3 {b : Bk} (D : DB b) {L : Option T} {S : Sto} : ∃ x6 x7 x8, rn_3 (RF (some (bT b)) L (some dW) (some dN) (some (.ref S.length)) none none none none) (S ++ [.lst []]) = .nx (RF (some (bT b)) L (some dW) (some dN) (some (.ref S.length)) none x6 x7 x8) (S ++ [.lst ((b.cs.map rc).map cT)]) := by
  have i2 : ∀ S, ixT S (bT b) (.int 2) = some (.tup (b.cs.map cT)) := fun S => rfl
  have hw := ix_dW
  have hn := ix_dN
  have hB := D.bl.n8
  have hcl := D.bl.cl
  have hv := D.v
  have h8 := D.w8
  have g3 := D.g3
  unfold rn_3 bFor
  have z : ∀ U, fiA (fBin ixT (fVar 0) (fC (.int 2))) (RF (some (bT b)) L (some dW) (some dN) (some (.ref S.length)) none none none none) U = .ok (b.cs.map cT) U := fun U => by simp_arith [i2]
  rw [z]
  show ∃ x6 x7 x8, forF _ _ _ _ _ = _
  generalize bT b = bt at *
  generalize dW = w at *
  generalize dN = n at *
  generalize hF : forF _ _ _ _ _ = R2
  obtain ⟨τ2, S3, e, x6, x7, x8, h1, h2⟩ := for_at hF (fun i τ T1 => ∃ x6 x7 x8, τ = RF (some bt) L (some w) (some n) (some (.ref S.length)) none x6 x7 x8 ∧ T1 = S ++ [.lst (((b.cs.take i).map rc).map cT)]) ⟨none, none, none, rfl, rfl⟩ (by
    intro i c τ T1 ex hI
    obtain ⟨x6, x7, x8, rfl, rfl⟩ := hI
    have hc := List.mem_of_getElem? ex
    have e1 := hw _ (h8 c hc)
    have e2 := hn _ (List.mem_append_left _ (hcl c hc).k)
    have gl := g3 c hc
    have lz : (((b.cs.take i).map rc).map cT).length < sizeLine := small16' (by rw [List.length_map, List.length_map, List.length_take]; omega)
    have tk : (b.cs.take (i + 1)).map rc = (b.cs.take i).map rc ++ [rc c] := by
      rw [List.take_add_one, ex]
      simp
    rw [tk]
    generalize (b.cs.take i).map rc = acc at *
    refine ⟨[(6, .str c.w), (7, .str c.k), (8, .tup (c.g.map pT))], rfl, ?_⟩
    simp_arith [e1, e2, List.length_map, small16 (show c.g.length ≤ 200 by omega)]
    rw [lc_each1 (F := pT) (r := fun p => .tup [.str p.1, .str (ro p.2)]) fun p hp => ⟨[(11, .str p.1), (12, .str p.2)], rfl, rfl, rfl, by
      have e3 := hn _ (List.mem_append_right _ (hv c hc p hp))
      simp_arith [e3, small16 (show 2 ≤ 200 by omega)]⟩]
    have lz2 : acc.length < sizeLine := by
      rw [List.length_map] at lz
      exact lz
    simp_arith [List.length_map, small16 (show c.g.length ≤ 200 by omega), small16 (show 3 ≤ 200 by omega), lz2]
    refine goes_nx ⟨_, _, _, rfl, ?_⟩
    rw [List.map_append]
    simp [rc, cT, ag, pT, Function.comp_def])
  subst e h1 h2
  rw [List.take_length]
  exact ⟨x6, x7, x8, rfl⟩
theorem rn4 {b : Bk} {B : Option T} {c x6 x7 x8 : Option T} {S : Sto} {L : List (List Str)} (hL : ∀ xs ∈ L, XL b xs) (hB : ∀ w ∈ b.cs.map (·.w), w ∈ W8) (hl : L.length ≤ 100) : rn_4 (RF B (some (.lst (L.map SF.tS))) (some dW) (some dN) c none x6 x7 x8) S = .nx (RF B (some (.lst (L.map SF.tS))) (some dW) (some dN) c (some (.lst (L.map fun xs => SF.tS (xs.map rx)))) x6 x7 x8) S := by
  have hg : ∀ xs ∈ L, ∀ x ∈ xs, ∀ S, ∃ y, getD3 S dN (.str x) (.str x) = some y ∧ getD3 S dW (.str x) y = some (.str (rx x)) := fun xs hxs x hx S => by
    have h : x ∈ W8 ++ G5 := by
      rcases (hL xs hxs).it x hx with h | h
      · exact List.mem_append_left _ (hB x h)
      · exact List.mem_append_right _ h
    exact Option.bind_eq_some_iff.mp (get_dN x h S)
  have dd : ∀ S o, dOk S dW o = o ∧ dOk S dN o = o := fun S o => ⟨rfl, rfl⟩
  unfold rn_4
  generalize dW = w at *
  generalize dN = n at *
  have lz : (L.map SF.tS).length ≤ sizeLine := small16 (by rw [List.length_map]; omega)
  simp_arith [List.length_map, small16 (show L.length ≤ 200 by omega)]
  rw [lc_each1 (F := SF.tS) (r := fun xs => SF.tS (xs.map rx)) fun xs hxs => ⟨[(9, SF.tS xs)], rfl, rfl, rfl, by
    have h200 := (hL xs hxs).len
    simp_arith [List.length_map, small16 h200]
    rw [lc_each1 (F := T.str) (r := fun x => T.str (rx x)) fun x hx => ⟨[(10, .str x)], rfl, rfl, rfl, by
      obtain ⟨y, h1, h2⟩ := hg xs hxs x hx S
      simp_arith [fGet, h1, h2, dd, okT]⟩]
    simp_arith [List.length_map, small16 h200]
    show Res.ok (T.tup _) S = Res.ok (T.tup ((xs.map rx).map T.str)) S
    rw [List.map_map]
    rfl⟩]
  simp_arith
theorem rn5 {b : Bk} {w n t x6 x7 x8 : Option T} {tt L : T} {S : Sto} (hb : b.cs.length ≤ 16) : rn_5 (RF (some (bT b)) (some L) w n (some (.ref S.length)) (some tt) x6 x7 x8) (S ++ [.lst ((b.cs.map rc).map cT)]) = .rt (.tup [bT (renB b), tt]) (S ++ [.lst ((b.cs.map rc).map cT)]) := by
  have i0 : ∀ S, ixT S (bT b) (.int 0) = some (SF.tS b.asp) := fun S => rfl
  have i1 : ∀ S, ixT S (bT b) (.int 1) = some (SF.tS b.sh) := fun S => rfl
  have ng : ∀ S, negT S (.int 1) = some (.int (-1)) := fun S => by kernel_rfl
  have er : bT (renB b) = .tup [SF.tS b.asp, SF.tS b.sh, .tup ((b.cs.map rc).map cT).reverse] := by
    show T.tup [SF.tS b.asp, SF.tS b.sh, .tup (((b.cs.map rc).reverse).map cT)] = _
    rw [List.map_reverse]
  have lz : ((b.cs.map rc).map cT).reverse.length ≤ 200 := by
    rw [List.length_reverse, List.length_map, List.length_map]
    omega
  have rv : revT (S ++ [.lst ((b.cs.map rc).map cT)]) (.ref S.length) = some (.lst ((b.cs.map rc).map cT).reverse) := by
    show (seqL (S ++ [.lst ((b.cs.map rc).map cT)]) (.ref S.length)).map (fun ts => T.lst ts.reverse) = _
    simp only [seqL, sto_end, Option.map_some]
  rw [er]
  unfold rn_5
  generalize bT b = bt at *
  generalize (b.cs.map rc).map cT = cc at *
  simp_arith [i0, i1, ng, fRev, rv, ofO, small16 lz, small16 (show 3 ≤ 200 by omega), small16 (show 2 ≤ 200 by omega)]
theorem renamed_ok {b : Bk} (D : DB b) {xs ys : List Str} (X : XL b xs) (Y : XL b ys) : Pu m__law_renamed [bT b, .lst [SF.tS xs, SF.tS ys]] (.tup [bT (renB b), .lst [SF.tS (xs.map rx), SF.tS (ys.map rx)]]) := by
  intro S
  unfold m__law_renamed
  refine gc_pure ⟨[.lst ((b.cs.map rc).map cT)], ?_⟩ ?_
  · refine SQ.body_rt rfl ?_
    obtain ⟨x6, x7, x8, e3⟩ := rn3 D (L := some (.lst [SF.tS xs, SF.tS ys])) (S := S)
    have e4 := rn4 (b := b) (B := some (bT b)) (c := some (.ref S.length)) (x6 := x6) (x7 := x7) (x8 := x8) (S := S ++ [.lst ((b.cs.map rc).map cT)]) (L := [xs, ys]) (fun z hz => by
      rcases List.mem_cons.mp hz with rfl | hz
      · exact X
      · rw [List.mem_singleton.mp hz]; exact Y) (fun w hw => by
      obtain ⟨c, hc, rfl⟩ := List.mem_map.mp hw
      exact D.w8 c hc) (by simp)
    simp only [List.map_cons, List.map_nil] at e4
    rw [rn_all]
    show bSeq _ _ (RF (some (bT b)) (some (.lst [SF.tS xs, SF.tS ys])) none none none none none none none) _ = _
    rw [SQ.seq_nx rn0, SQ.seq_nx rn1, SQ.seq_nx rn2, SQ.seq_nx e3, SQ.seq_nx e4]
    have hb16 : b.cs.length ≤ 16 := by have := D.bl.n8; omega
    have e5 := rn5 (b := b) (w := some dW) (n := some dN) (t := none) (x6 := x6) (x7 := x7) (x8 := x8) (tt := .lst [SF.tS (xs.map rx), SF.tS (ys.map rx)]) (L := .lst [SF.tS xs, SF.tS ys]) (S := S) hb16
    exact e5
  · simp only [nr, nrs, nr_bT, nrs_str, Bool.and_true]
end SB
set_option Elab.async false
set_option linter.all false
set_option maxRecDepth 100000
set_option maxHeartbeats 4000000
namespace SB
open PySem PySem.Spec L2 TL SF
open PyProof.Rows hiding St
noncomputable def sp_0 : BS := (bAsg (sTup 2 (sCons (sName 4) (sCons (sName 5) sNil))) (fTup (fCons (fCell (fLstN fNil)) (fCons (fCell (fun _ S => .ok (.dct [] []) S)) fNil))))
noncomputable def sp_1 : BS := (bFor (fiA (fBin ixT (fVar 0) (fC (.int 2)))) (sTup 3 (sCons (sName 6) (sCons (sName 7) (sCons (sName 8) sNil)))) (bSeq (bStore (fVar 5) (fVar 6) (fPure (fLc (fiR1 (fCons (fBlt lenT (fCons (fVar 8) fNil)) fNil)) (sName 11) fYes (fBin addT (fBin addT (fBlt strT (fCons (fBin addT (fBlt lenT (fCons (fVar 4) fNil)) (fVar 11)) fNil)) (fC (.str ";"))) (fBlt strT (fCons (fVar 11) fNil))) [11]))) (bExpr (fCM opExt (fVar 4) (fCons (fPure (fLc (fiR1 (fCons (fBlt lenT (fCons (fVar 8) fNil)) fNil)) (sName 11) fYes (fTup (fCons (fBin ixT (fBin ixT (fVar 5) (fVar 6)) (fVar 11)) (fCons (fVar 7) (fCons (fTup (fCons (fBin ixT (fVar 8) (fVar 11)) fNil)) fNil)))) [11])) fNil)))))
noncomputable def sp_2 : BS := (bSet 2 (fCell (fLstN fNil)))
noncomputable def sp_3 : BS := (bFor (fiA (fVar 1)) (sName 3) (bSeq (bSet 9 (fCell (fLstN fNil))) (bSeq (bFor (fiA (fVar 3)) (sName 10) (bExpr (fCM opExt (fVar 9) (fCons (fGet (fVar 5) (fVar 10) (fPure (fLstN (fCons (fVar 10) fNil)))) fNil)))) (bExpr (fApp (fVar 2) (fCons (fBlt tupT (fCons (fVar 9) fNil)) fNil))))))
noncomputable def sp_4 : BS := (bRet (fTup (fCons (fTup (fCons (fBin ixT (fVar 0) (fC (.int 0))) (fCons (fBin ixT (fVar 0) (fC (.int 1))) (fCons (fBlt tupT (fCons (fVar 4) fNil)) fNil)))) (fCons (fVar 2) fNil))))
theorem sp_all : b__law_split = (bSeq sp_0 (bSeq sp_1 (bSeq sp_2 (bSeq sp_3 sp_4)))) := rfl
theorem putK_new {ks : List Key} {ts : List T} {k : Key} (h : k ∉ ks) (t : T) : putK' ks ts k t = (ks ++ [k], ts ++ [t]) := by
  unfold putK'
  rw [if_neg]
  rw [List.any_eq_true]
  rintro ⟨x, hx, e⟩
  exact h (of_decide_eq_true e ▸ hx)
theorem getK_new {k : Key} (t : T) : ∀ {ks : List Key} {ts : List T}, ts.length = ks.length → k ∉ ks → getK (ks ++ [k]) (ts ++ [t]) k = some t
  | [], [], _, _ => by
    show (if k = k then some t else _) = _
    rw [if_pos rfl]
  | [], u :: ts, h, _ => by simp at h
  | k' :: ks, [], h, _ => by simp at h
  | k' :: ks, u :: ts, h, hk => by
    show (if k' = k then some u else getK (ks ++ [k]) (ts ++ [t]) k) = _
    rw [if_neg fun e => hk (by rw [e]; exact List.mem_cons_self), getK_new t (by simpa using h) fun z => hk (List.mem_cons_of_mem _ z)]
theorem getK_Z (f : Cn → T) (x : Str) : ∀ zs : List Cn, getK (zs.map fun z => Sum.inr z.1.w) (zs.map f) (.inr x) = (findZ zs x).map f
  | [] => rfl
  | z :: zs => by
    simp only [List.map_cons, getK, findZ, inr_eq, List.find?_cons]
    by_cases e : z.1.w = x
    · rw [if_pos e, decide_eq_true e]
      rfl
    · rw [if_neg e, decide_eq_false e]
      exact getK_Z f x zs
theorem ix_somL {ts : List T} {i : Nat} {t : T} (h : ts[i]? = some t) (S : Sto) : ixT S (.lst ts) (.int i) = some t := by
  have hi := (List.getElem?_eq_some_iff.mp h).1
  rw [ix_lst hi]
  rw [List.getElem?_eq_getElem hi] at h
  exact h
theorem ix_somT {ts : List T} {i : Nat} {t : T} (h : ts[i]? = some t) (S : Sto) : ixT S (.tup ts) (.int i) = some t := by
  have hi := (List.getElem?_eq_some_iff.mp h).1
  rw [ix_tupn hi]
  rw [List.getElem?_eq_getElem hi] at h
  exact h
theorem nS_len : ∀ n ∈ List.range 40, (PySem.Str.ofString (toString (n : Int))).length ≤ 10 ∧ (PySem.Str.ofString (toString (n : Int)) ++ ";").length ≤ 20 := by decide +kernel
theorem str_n {n : Nat} (h : n < 40) (S : Sto) : strT S [.int (n : Nat)] = some (.str (PySem.Str.ofString (toString (n : Int)))) := by
  show (if decide (0 ≤ (n : Int) ∧ (n : Int) ≤ 1000) = true then some (T.str (PySem.Str.ofString (toString (n : Int)))) else none) = _
  rw [if_pos (decide_eq_true ⟨by omega, by omega⟩)]
theorem str_add {a b : Str} (h : a.length + b.length ≤ 200) (S : Sto) : addT S (.str a) (.str b) = some (.str (a ++ b)) := by
  show (if a.length + b.length ≤ sizeLine then some (T.str (a ++ b)) else none) = _
  rw [if_pos (small16 h)]
noncomputable def eW : FE := (fBin addT (fBin addT (fBlt strT (fCons (fBin addT (fBlt lenT (fCons (fVar 4) fNil)) (fVar 11)) fNil)) (fC (.str ";"))) (fBlt strT (fCons (fVar 11) fNil)))
theorem eW_ok {τ : Fr} {S : Sto} {r : T} {n k : Nat} (h4 : τ[4]? = some (some r)) (hl : lenT S [r] = some (.int (n : Nat))) (h11 : τ[11]? = some (some (.int (k : Nat)))) (hn : n + k < 40) (hk : k < 40) : eW τ S = .ok (.str (wS (n + k) k)) S := by
  have ad : addT S (.int (n : Nat)) (.int (k : Nat)) = some (.int ((n + k : Nat) : Int)) := by
    rw [SF.add_int, Int.natCast_add]
    try rfl
  have s1 := str_n hn S
  have s2 := str_n hk S
  have z1 := nS_len (n + k) (List.mem_range.mpr hn)
  have z2 := nS_len k (List.mem_range.mpr hk)
  have o : (";" : Str).length = 1 := by decide +kernel
  have a1 := str_add (a := PySem.Str.ofString (toString ((n + k : Nat) : Int))) (b := ";") (by omega) S
  have a2 := str_add (a := PySem.Str.ofString (toString ((n + k : Nat) : Int)) ++ ";") (b := PySem.Str.ofString (toString (k : Int))) (by omega) S
  have e : wS (n + k) k = PySem.Str.ofString (toString ((n + k : Nat) : Int)) ++ ";" ++ PySem.Str.ofString (toString (k : Int)) := rfl
  rw [e]
  generalize PySem.Str.ofString (toString ((n + k : Nat) : Int)) = A at *
  generalize PySem.Str.ofString (toString (k : Int)) = B at *
  unfold eW
  simp_arith [h4, hl, h11, ad, s1, s2, a1, a2]
theorem offs_at : ∀ (n : Nat) (cs : List SF.Code) (i : Nat) (z : Cn), (offs n cs)[i]? = some z → z.2 = n + (((offs n cs).take i).flatMap splC).length
  | n, [], i, z, h => by simp [offs] at h
  | n, c :: cs, 0, z, h => by
    rw [offs, List.getElem?_cons_zero] at h
    rw [← Option.some.inj h]
    simp
  | n, c :: cs, i + 1, z, h => by
    rw [offs, List.getElem?_cons_succ] at h
    have := offs_at (n + c.g.length) cs i z h
    rw [offs, List.take_succ_cons, List.flatMap_cons, List.length_append]
    have e : (splC (c, n)).length = c.g.length := spR_len ..
    omega
theorem flat_len3 : ∀ {l : List Cn}, (∀ z ∈ l, z.1.g.length ≤ 3) → (l.flatMap splC).length ≤ 3 * l.length
  | [], _ => Nat.le_refl _
  | z :: l, h => by
    have ih := flat_len3 fun y hy => h y (List.mem_cons_of_mem _ hy)
    have e : (splC z).length = z.1.g.length := spR_len ..
    have := h z List.mem_cons_self
    rw [List.flatMap_cons, List.length_append, List.length_cons]
    omega
theorem seqW (z : Cn) : ((List.range z.1.g.length).map fun k => T.str (wS (z.2 + k) k)) = (splW z).map T.str := by
  refine List.ext_getElem? fun i => ?_
  unfold splW splC
  rw [List.getElem?_map, List.getElem?_map, List.getElem?_map, spR_at]
  by_cases h : i < z.1.g.length
  · rw [List.getElem?_range h, List.getElem?_eq_getElem h]
    simp
  · rw [List.getElem?_eq_none (by rw [List.length_range]; omega), List.getElem?_eq_none (by omega)]
    rfl
theorem seqC (z : Cn) : ((List.range z.1.g.length).map fun k => T.tup [.str (wS (z.2 + k) k), .str z.1.k, .tup ((z.1.g[k]?).toList.map pT)]) = (splC z).map cT := by
  refine List.ext_getElem? fun i => ?_
  unfold splC
  rw [List.getElem?_map, List.getElem?_map, spR_at]
  by_cases h : i < z.1.g.length
  · rw [List.getElem?_range h, List.getElem?_eq_getElem h]
    simp only [Option.map_some, Nat.zero_add, cT]
    rw [List.getElem?_eq_getElem h]
    try rfl
  · rw [List.getElem?_eq_none (by rw [List.length_range]; omega), List.getElem?_eq_none (by omega)]
    rfl
theorem sto_2 (S : Sto) (a b x : T) (J : Sto) : (S ++ a :: b :: x :: J)[S.length + 2]? = some x := by simp
theorem sto_set2 (S : Sto) (a b x y : T) (J : Sto) : (S ++ a :: b :: x :: J).set (S.length + 2) y = S ++ a :: b :: y :: J := by simp
abbrev SFm (B L f x c d w k g it i : Option T) : Fr := [B, L, f, x, c, d, w, k, g, it, i, none]
theorem sp0 {B L : Option T} {S : Sto} : sp_0 (SFm B L none none none none none none none none none) S = .nx (SFm B L none none (some (.ref S.length)) (some (.ref (S.length + 1))) none none none none none) (S ++ [.lst [], .dct [] []]) := by
  unfold sp_0
  simp_arith [List.length_append, List.append_assoc, small16 (show 2 ≤ 200 by omega)]
noncomputable def oB : BS := (bSeq (bStore (fVar 5) (fVar 6) (fPure (fLc (fiR1 (fCons (fBlt lenT (fCons (fVar 8) fNil)) fNil)) (sName 11) fYes eW [11]))) (bExpr (fCM opExt (fVar 4) (fCons (fPure (fLc (fiR1 (fCons (fBlt lenT (fCons (fVar 8) fNil)) fNil)) (sName 11) fYes (fTup (fCons (fBin ixT (fBin ixT (fVar 5) (fVar 6)) (fVar 11)) (fCons (fVar 7) (fCons (fTup (fCons (fBin ixT (fVar 8) (fVar 11)) fNil)) fNil)))) [11])) fNil))))
theorem sp_1e : sp_1 = bFor (fiA (fBin ixT (fVar 0) (fC (.int 2)))) (sTup 3 (sCons (sName 6) (sCons (sName 7) (sCons (sName 8) sNil)))) oB := rfl
noncomputable def cW : FE := fPure (fLc (fiR1 (fCons (fBlt lenT (fCons (fVar 8) fNil)) fNil)) (sName 11) fYes eW [11])
noncomputable def eC : FE := fTup (fCons (fBin ixT (fBin ixT (fVar 5) (fVar 6)) (fVar 11)) (fCons (fVar 7) (fCons (fTup (fCons (fBin ixT (fVar 8) (fVar 11)) fNil)) fNil)))
noncomputable def cC : FE := fPure (fLc (fiR1 (fCons (fBlt lenT (fCons (fVar 8) fNil)) fNil)) (sName 11) fYes eC [11])
theorem oB_e : oB = bSeq (bStore (fVar 5) (fVar 6) cW) (bExpr (fCM opExt (fVar 4) (fCons cC fNil))) := rfl
theorem lc_nat {τ : Fr} {U : Sto} {e : FE} {g8 : T} {m : Nat} {r : Nat → T} (hm : m ≤ 100) (h8 : τ[8]? = some (some g8)) (l8 : lenT U [g8] = some (.int (m : Nat))) (he : ∀ k, k < m → e (setsT (wipeT τ [11]) [(11, .int (k : Nat))]) U = .ok (r k) U) :
    fPure (fLc (fiR1 (fCons (fBlt lenT (fCons (fVar 8) fNil)) fNil)) (sName 11) fYes e [11]) τ U = .ok (.lst ((List.range m).map r)) U := by
  have rl : (rng 0 (m : Int)).length ≤ sizeLine := by
    rw [rng_len]
    exact small16 (by omega)
  have fi : fiR1 (fCons (fBlt lenT (fCons (fVar 8) fNil)) fNil) τ U = .ok (rng 0 (m : Nat)) U := fiR1_ok (by omega) (by simp_arith [h8, l8])
  have lc := lc_each1 (F := fun k : Nat => T.int k) (r := r) (g := sName 11) (Ft := fYes) (Fe := e) (vs := [11]) (τ := wipeT τ [11]) (S := U) (l := List.range m) fun k hk => ⟨[(11, .int k)], rfl, rfl, rfl, he k (List.mem_range.mp hk)⟩
  rw [← rng_nat] at lc
  unfold fPure fLc
  rw [fi]
  simp only [bind_ok]
  rw [if_pos rl, lc]
  rfl
section
variable {B L : Option T} {c d w k8 g8 : T} {U : Sto} {z : Cn}
theorem cW_ok (l4 : lenT U [c] = some (.int (z.2 : Nat))) (l8 : lenT U [g8] = some (.int (z.1.g.length : Nat))) (hz : z.2 ≤ 24) (hg : z.1.g.length ≤ 3) :
    cW (SFm B L none none (some c) (some d) (some w) (some k8) (some g8) none none) U = .ok (.lst ((splW z).map T.str)) U := by
  unfold cW
  rw [lc_nat (r := fun k => T.str (wS (z.2 + k) k)) (by omega) rfl l8 fun k hk => eW_ok rfl l4 rfl (by omega) (by omega), seqW]
theorem cC_ok {v : T} (ixd : ixT U d w = some v) (l8 : lenT U [g8] = some (.int (z.1.g.length : Nat))) (hg : z.1.g.length ≤ 3) (hv : v = .lst ((splW z).map T.str)) (hg8 : g8 = .tup (z.1.g.map pT)) :
    cC (SFm B L none none (some c) (some d) (some w) (some (.str z.1.k)) (some g8) none none) U = .ok (.lst ((splC z).map cT)) U := by
  unfold cC
  rw [lc_nat (r := fun k => T.tup [.str (wS (z.2 + k) k), .str z.1.k, .tup ((z.1.g[k]?).toList.map pT)]) (by omega) rfl l8 fun k hk => ?_, seqC]
  have i1 : ixT U v (.int k) = some (.str (wS (z.2 + k) k)) := by
    rw [hv]
    refine ix_somL ?_ U
    rw [← seqW, List.getElem?_map, List.getElem?_range hk]
    rfl
  have i2 : ixT U g8 (.int k) = some (pT z.1.g[k]) := by
    rw [hg8]
    refine ix_somT ?_ U
    rw [List.getElem?_map, List.getElem?_eq_getElem hk]
    rfl
  have e : (z.1.g[k]?).toList.map pT = [pT z.1.g[k]] := by
    rw [List.getElem?_eq_getElem hk]
    rfl
  rw [e]
  clear hv hg8
  generalize pT z.1.g[k] = y at *
  generalize z.1.k = kd at *
  generalize wS (z.2 + k) k = tx at *
  unfold eC
  simp_arith [ixd, i1, i2, small16 (show 3 ≤ 200 by omega), small16 (show 1 ≤ 200 by omega)]
theorem oB_run {S : Sto} {a m : List T} {d0 d1 v : T} (q1 : cW (SFm B L none none (some (.ref S.length)) (some d) (some w) (some k8) (some g8) none none) (S ++ [.lst a, d0]) = .ok v (S ++ [.lst a, d0]))
    (st : setT (S ++ [.lst a, d0]) d w v = some (S ++ [.lst a, d1])) (q2 : cC (SFm B L none none (some (.ref S.length)) (some d) (some w) (some k8) (some g8) none none) (S ++ [.lst a, d1]) = .ok (.lst m) (S ++ [.lst a, d1]))
    (ex : opExt (S ++ [.lst a, d1]) a [.lst m] = some (.non, a ++ m)) : oB (SFm B L none none (some (.ref S.length)) (some d) (some w) (some k8) (some g8) none none) (S ++ [.lst a, d0]) = .nx (SFm B L none none (some (.ref S.length)) (some d) (some w) (some k8) (some g8) none none) (S ++ [.lst (a ++ m), d1]) := by
  rw [oB_e]
  generalize cW = f1 at *
  generalize cC = f2 at *
  have l1 := lstAt_end S a [d1]
  simp_arith [bStore, q1, st, q2, fCM, refD_ref, l1, lstD_some, ex, cmEnd_some, sto_set]
end
theorem ix_dct {U : Sto} {n : Nat} {ks : List Key} {ts : List T} {x : Str} (h : U[n]? = some (.dct ks ts)) : ixT U (.ref n) (.str x) = getK ks ts (.inr x) := by
  unfold ixT
  simp only [dctT, h, keyT, Option.bind_some]
theorem oB_ok {B L : Option T} {S : Sto} {z : Cn} {acc : List SF.Code} {ks : List Key} {ts : List T} (hz : z.2 = acc.length) (ha : acc.length ≤ 24) (hg : z.1.g.length ≤ 3) (hk : ks.length ≤ 8) (ht : ts.length = ks.length) (hn : (Sum.inr z.1.w : Key) ∉ ks) :
    oB (SFm B L none none (some (.ref S.length)) (some (.ref (S.length + 1))) (some (.str z.1.w)) (some (.str z.1.k)) (some (.tup (z.1.g.map pT))) none none) (S ++ [.lst (acc.map cT), .dct ks ts]) =
    .nx (SFm B L none none (some (.ref S.length)) (some (.ref (S.length + 1))) (some (.str z.1.w)) (some (.str z.1.k)) (some (.tup (z.1.g.map pT))) none none) (S ++ [.lst ((acc ++ splC z).map cT), .dct (ks ++ [.inr z.1.w]) (ts ++ [.lst ((splW z).map T.str)])]) := by
  have l4 : ∀ d, lenT (S ++ [.lst (acc.map cT), d]) [.ref S.length] = some (.int (z.2 : Nat)) := fun d => by
    rw [len_ref (sto_end S _ [d]), List.length_map, hz]
  have l8 : ∀ S, lenT S [.tup (z.1.g.map pT)] = some (.int (z.1.g.length : Nat)) := fun S => by
    show some (T.int (z.1.g.map pT).length) = _
    rw [List.length_map]
  have st : setT (S ++ [.lst (acc.map cT), .dct ks ts]) (.ref (S.length + 1)) (.str z.1.w) (.lst ((splW z).map T.str)) = some (S ++ [.lst (acc.map cT), .dct (ks ++ [.inr z.1.w]) (ts ++ [.lst ((splW z).map T.str)])]) := by
    unfold setT
    simp only [sto_1, keyT, Option.bind_some, small16' (show ks.length ≤ 200 by omega), if_true, putK_new hn, sto_set1]
  have ixd : ixT (S ++ [.lst (acc.map cT), .dct (ks ++ [.inr z.1.w]) (ts ++ [.lst ((splW z).map T.str)])]) (.ref (S.length + 1)) (.str z.1.w) = some (.lst ((splW z).map T.str)) := by
    rw [ix_dct (sto_1 S _ _ []), getK_new _ ht hn]
  have sl : (splC z).length ≤ 3 := by
    unfold splC
    rw [spR_len]
    exact hg
  have ex : ∀ U, opExt U (acc.map cT) [.lst ((splC z).map cT)] = some (.non, acc.map cT ++ (splC z).map cT) := fun U => ext_at U (by rw [List.length_map, List.length_map]; omega)
  rw [List.map_append]
  exact oB_run (cW_ok (l4 _) (l8 _) (by omega) hg) st (cC_ok ixd (l8 _) hg rfl rfl) (ex _)
theorem fst_take {l : List Cn} {i : Nat} {z : Cn} (h : (l.map fun z => z.1.w).Nodup) (e : l[i]? = some z) : (Sum.inr z.1.w : Key) ∉ (l.take i).map fun z => (Sum.inr z.1.w : Key) := by
  intro hm
  obtain ⟨y, hy, e2⟩ := List.mem_map.mp hm
  have e2 : y.1.w = z.1.w := Sum.inr.inj e2
  obtain ⟨hi, ez⟩ := List.getElem?_eq_some_iff.mp e
  have h2 : ((l.take i ++ l.drop i).map fun z => z.1.w).Nodup := by rw [List.take_append_drop]; exact h
  rw [List.map_append, List.nodup_append] at h2
  refine h2.2.2 _ (List.mem_map_of_mem hy) _ (List.mem_map_of_mem (a := z) ?_) e2
  rw [List.drop_eq_getElem_cons hi, ez]
  exact List.mem_cons_self
theorem sp1 {b : Bk} (D : DB b) {L : Option T} {S : Sto} : ∃ w k g, sp_1 (SFm (some (bT b)) L none none (some (.ref S.length)) (some (.ref (S.length + 1))) none none none none none) (S ++ [.lst [], .dct [] []]) =
    .nx (SFm (some (bT b)) L none none (some (.ref S.length)) (some (.ref (S.length + 1))) w k g none none) (S ++ [.lst ((splL b.cs).map cT), .dct ((offs 0 b.cs).map fun z => .inr z.1.w) ((offs 0 b.cs).map fun z => .lst ((splW z).map T.str))]) := by
  have i2 : ∀ S, ixT S (bT b) (.int 2) = some (.tup ((offs 0 b.cs).map fun z => cT z.1)) := fun S => by
    have e : ((offs 0 b.cs).map fun z => cT z.1) = b.cs.map cT := by
      have := congrArg (List.map cT) (offs_fst 0 b.cs)
      rw [List.map_map] at this
      exact this
    rw [e]
    rfl
  have nd : ((offs 0 b.cs).map fun z => z.1.w).Nodup := by
    have e : ((offs 0 b.cs).map fun z => z.1.w) = b.cs.map (·.w) := by
      have := congrArg (List.map (·.w)) (offs_fst 0 b.cs)
      rw [List.map_map] at this
      exact this
    rw [e]
    exact D.nd
  have g3 : ∀ z ∈ offs 0 b.cs, z.1.g.length ≤ 3 := fun z hz => D.g3 _ (by
    have : z.1 ∈ (offs 0 b.cs).map (·.1) := List.mem_map_of_mem hz
    rw [offs_fst] at this
    exact this)
  have ol : (offs 0 b.cs).length ≤ 8 := by
    have := congrArg List.length (offs_fst 0 b.cs)
    rw [List.length_map] at this
    have := D.bl.n8
    omega
  have oa := fun i z h => offs_at 0 b.cs i z h
  rw [sp_1e]
  unfold bFor splL
  have zz : ∀ U, fiA (fBin ixT (fVar 0) (fC (.int 2))) (SFm (some (bT b)) L none none (some (.ref S.length)) (some (.ref (S.length + 1))) none none none none none) U = .ok ((offs 0 b.cs).map fun z => cT z.1) U := fun U => by
    generalize bT b = bt at *
    simp_arith [i2]
  rw [zz]
  show ∃ w k g, forF _ _ _ _ _ = _
  generalize bT b = bt at *
  generalize offs 0 b.cs = zs at *
  generalize hF : forF _ _ _ _ _ = R2
  obtain ⟨τ2, S3, e, w, k, g, h1, h2⟩ := for_at hF (fun i τ T1 => ∃ w k g, τ = SFm (some bt) L none none (some (.ref S.length)) (some (.ref (S.length + 1))) w k g none none ∧
      T1 = S ++ [.lst (((zs.take i).flatMap splC).map cT), .dct ((zs.take i).map fun z => .inr z.1.w) ((zs.take i).map fun z => .lst ((splW z).map T.str))]) ⟨none, none, none, rfl, rfl⟩ (by
    intro i z τ T1 ex hI
    obtain ⟨w, k, g, rfl, rfl⟩ := hI
    have hz := List.mem_of_getElem? ex
    have hi := (List.getElem?_eq_some_iff.mp ex).1
    have tk : zs.take (i + 1) = zs.take i ++ [z] := by
      rw [List.take_add_one, ex]
      rfl
    have fl := flat_len3 (l := zs.take i) fun y hy => g3 y (List.mem_of_mem_take hy)
    have tl : (zs.take i).length = i := by
      rw [List.length_take]
      omega
    have q := oB_ok (B := some bt) (L := L) (S := S) (z := z) (acc := (zs.take i).flatMap splC) (ks := (zs.take i).map fun z => .inr z.1.w) (ts := (zs.take i).map fun z => .lst ((splW z).map T.str)) (by have := oa i z ex; omega) (by omega) (g3 z hz) (by rw [List.length_map]; omega) (by rw [List.length_map, List.length_map]) (fst_take nd ex)
    refine ⟨[(6, .str z.1.w), (7, .str z.1.k), (8, .tup (z.1.g.map pT))], rfl, ?_⟩
    show Goes (oB (SFm (some bt) L none none (some (.ref S.length)) (some (.ref (S.length + 1))) (some (.str z.1.w)) (some (.str z.1.k)) (some (.tup (z.1.g.map pT))) none none) _) _
    rw [q]
    refine goes_nx ⟨_, _, _, rfl, ?_⟩
    rw [tk, List.flatMap_append, List.map_append (f := fun z : Cn => (Sum.inr z.1.w : Key)), List.map_append (f := fun z : Cn => T.lst ((splW z).map T.str)), List.flatMap_singleton]
    rfl)
  subst e h1 h2
  rw [List.take_length]
  exact ⟨w, k, g, rfl⟩
noncomputable def iB : BS := bExpr (fCM opExt (fVar 9) (fCons (fGet (fVar 5) (fVar 10) (fPure (fLstN (fCons (fVar 10) fNil)))) fNil))
noncomputable def xB : BS := bSeq (bSet 9 (fCell (fLstN fNil))) (bSeq (bFor (fiA (fVar 3)) (sName 10) iB) (bExpr (fApp (fVar 2) (fCons (fBlt tupT (fCons (fVar 9) fNil)) fNil))))
theorem sp_3e : sp_3 = bFor (fiA (fVar 1)) (sName 3) xB := rfl
theorem iB_run {B L f x c w k g : Option T} {U : Sto} {q : Nat} {a m : List T} {d t : T} (gd : getD3 (U ++ [.lst a]) d t (.lst [t]) = some (.lst m)) (hd : ∀ r, dOk (U ++ [.lst a]) d r = r) (hz : a.length + m.length ≤ 200) :
    iB (SFm B L f x c (some d) w k g (some (.ref U.length)) (some t)) (U ++ [.lst a]) = .nx (SFm B L f x c (some d) w k g (some (.ref U.length)) (some t)) (U ++ [.lst (a ++ m)]) := by
  have l1 := lstAt_end U a []
  have ex := ext_at (U ++ [.lst a]) hz
  unfold iB
  simp_arith [fCM, refD_ref, l1, lstD_some, fGet, hd, small16 (show 1 ≤ 200 by omega), gd, okT, ex, cmEnd_some, sto_set]
theorem inn {b : Bk} {B L f x c w k g : Option T} {U : Sto} {d : T} {xs : List Str} (gd : ∀ y W, getD3 (U ++ W) d (.str y) (.lst [.str y]) = some (.lst ((itemsX b y).map T.str))) (hd : ∀ W r, dOk (U ++ W) d r = r) (hi : ∀ y, (itemsX b y).length ≤ 3) (hx : xs.length ≤ 60) :
    ∃ x10, bFor (fiA (fVar 3)) (sName 10) iB (SFm B L f (some (SF.tS xs)) c (some d) w k g (some (.ref U.length)) x) (U ++ [.lst []]) = .nx (SFm B L f (some (SF.tS xs)) c (some d) w k g (some (.ref U.length)) x10) (U ++ [.lst ((splX b xs).map T.str)]) := by
  unfold bFor
  have zz : ∀ V, fiA (fVar 3) (SFm B L f (some (SF.tS xs)) c (some d) w k g (some (.ref U.length)) x) V = .ok (xs.map T.str) V := fun V => by simp_arith
  rw [zz]
  show ∃ x10, forF _ _ _ _ _ = _
  generalize SF.tS xs = tx at *
  generalize hF : forF _ _ _ _ _ = R2
  obtain ⟨τ2, S3, e, x10, h1, h2⟩ := for_at hF (fun i τ T1 => ∃ x10, τ = SFm B L f (some tx) c (some d) w k g (some (.ref U.length)) x10 ∧ T1 = U ++ [.lst ((splX b (xs.take i)).map T.str)]) ⟨x, rfl, rfl⟩ (by
    intro i y τ T1 ex hI
    obtain ⟨x10, rfl, rfl⟩ := hI
    have hl := (List.getElem?_eq_some_iff.mp ex).1
    have tk : xs.take (i + 1) = xs.take i ++ [y] := by
      rw [List.take_add_one, ex]
      rfl
    have tl : (xs.take i).length = i := by
      rw [List.length_take]
      omega
    have sl : ∀ l : List Str, (splX b l).length ≤ 3 * l.length := fun l => by
      induction l with
      | nil => exact Nat.le_refl _
      | cons u l ih =>
        have ce : splX b (u :: l) = itemsX b u ++ splX b l := List.flatMap_cons
        have := hi u
        rw [ce, List.length_append, List.length_cons]
        omega
    have l1 := sl (xs.take i)
    have l2 := hi y
    have q := iB_run (B := B) (L := L) (f := f) (x := some tx) (c := c) (w := w) (k := k) (g := g) (q := 0) (gd y [.lst ((splX b (xs.take i)).map T.str)]) (hd [.lst ((splX b (xs.take i)).map T.str)]) (by rw [List.length_map, List.length_map]; omega)
    refine ⟨[(10, .str y)], rfl, ?_⟩
    show Goes (iB (SFm B L f (some tx) c (some d) w k g (some (.ref U.length)) (some (.str y))) _) _
    rw [q]
    refine goes_nx ⟨_, rfl, ?_⟩
    have se : splX b (xs.take i ++ [y]) = splX b (xs.take i) ++ itemsX b y := by
      unfold splX
      rw [List.flatMap_append, List.flatMap_singleton]
    rw [tk, se, List.map_append])
  subst e h1 h2
  rw [List.take_length]
  exact ⟨x10, rfl⟩
theorem dct_1 (S : Sto) (c : T) (ks : List Key) (ts : List T) (J : Sto) : dctT (S ++ c :: .dct ks ts :: J) (.ref (S.length + 1)) = some (ks, ts) := by
  unfold dctT
  simp only [sto_1]
theorem app_2 {τ : Fr} {S J : Sto} {c d : T} {a : List T} {E : FE} {t : T} (h2 : τ[2]? = some (some (.ref (S.length + 2)))) (hE : ∀ U, U = S ++ c :: d :: .lst a :: J → E τ U = .ok t U) (hz : a.length ≤ 100) :
    bExpr (fApp (fVar 2) (fCons E fNil)) τ (S ++ c :: d :: .lst a :: J) = .nx τ (S ++ c :: d :: .lst (a ++ [t]) :: J) := by
  have l2 : lstAt (S ++ c :: d :: .lst a :: J) (S.length + 2) = some a := by
    unfold lstAt
    simp only [sto_2]
  have q := hE _ rfl
  have st := sto_set2 S c d (.lst a) (.lst (a ++ [t])) J
  generalize S ++ c :: d :: .lst a :: J = U at *
  generalize S ++ c :: d :: .lst (a ++ [t]) :: J = U2 at *
  simp_arith [h2, l2, q, small16' (show a.length ≤ 200 by omega), st]
end SB
set_option Elab.async false
set_option linter.all false
set_option maxRecDepth 100000
set_option maxHeartbeats 4000000
namespace SB
open PySem PySem.Spec L2 TL SF
open PyProof.Rows hiding St
theorem xB_ok {b : Bk} {B L c w k g it i : Option T} {S J : Sto} {c0 : T} {done : List T} {xs : List Str} (hi : ∀ y, (itemsX b y).length ≤ 3) (hx : xs.length ≤ 60) (hd : done.length ≤ 100) :
    ∃ it' i', xB (SFm B L (some (.ref (S.length + 2))) (some (SF.tS xs)) c (some (.ref (S.length + 1))) w k g it i) (S ++ c0 :: .dct ((offs 0 b.cs).map fun z => .inr z.1.w) ((offs 0 b.cs).map fun z => .lst ((splW z).map T.str)) :: .lst done :: J) =
      .nx (SFm B L (some (.ref (S.length + 2))) (some (SF.tS xs)) c (some (.ref (S.length + 1))) w k g it' i') (S ++ c0 :: .dct ((offs 0 b.cs).map fun z => .inr z.1.w) ((offs 0 b.cs).map fun z => .lst ((splW z).map T.str)) :: .lst (done ++ [SF.tS (splX b xs)]) :: (J ++ [.lst ((splX b xs).map T.str)])) := by
  have gk := fun y => getK_Z (fun z => T.lst ((splW z).map T.str)) y (offs 0 b.cs)
  have gx : ∀ y, ((getK ((offs 0 b.cs).map fun z => Sum.inr z.1.w) ((offs 0 b.cs).map fun z => T.lst ((splW z).map T.str)) (.inr y)).getD (.lst [.str y])) = .lst ((itemsX b y).map T.str) := fun y => by
    rw [gk]
    unfold itemsX
    cases findZ (offs 0 b.cs) y <;> rfl
  generalize ((offs 0 b.cs).map fun z => (Sum.inr z.1.w : Key)) = ks at *
  generalize ((offs 0 b.cs).map fun z => T.lst ((splW z).map T.str)) = ts at *
  have as : ∀ (d : List T) W, (S ++ c0 :: .dct ks ts :: .lst d :: J) ++ W = S ++ c0 :: .dct ks ts :: .lst d :: (J ++ W) := fun d W => by
    rw [List.append_assoc]
    rfl
  have dc : ∀ W, dctT ((S ++ c0 :: .dct ks ts :: .lst done :: J) ++ W) (.ref (S.length + 1)) = some (ks, ts) := fun W => by
    rw [as]
    exact dct_1 S c0 ks ts _
  have gd : ∀ y W, getD3 ((S ++ c0 :: .dct ks ts :: .lst done :: J) ++ W) (.ref (S.length + 1)) (.str y) (.lst [.str y]) = some (.lst ((itemsX b y).map T.str)) := fun y W => by
    unfold getD3
    rw [dc]
    simp only [keyT]
    rw [gx]
  have hD : ∀ W r, dOk ((S ++ c0 :: .dct ks ts :: .lst done :: J) ++ W) (.ref (S.length + 1)) r = r := fun W r => by
    unfold dOk
    rw [dc]
  have e1 : bSet 9 (fCell (fLstN fNil)) (SFm B L (some (.ref (S.length + 2))) (some (SF.tS xs)) c (some (.ref (S.length + 1))) w k g it i) (S ++ c0 :: .dct ks ts :: .lst done :: J) = .nx (SFm B L (some (.ref (S.length + 2))) (some (SF.tS xs)) c (some (.ref (S.length + 1))) w k g (some (.ref (S ++ c0 :: .dct ks ts :: .lst done :: J).length)) i) ((S ++ c0 :: .dct ks ts :: .lst done :: J) ++ [.lst []]) := by
    generalize S ++ c0 :: .dct ks ts :: .lst done :: J = U
    simp_arith
  obtain ⟨x10, e2⟩ := inn (b := b) (B := B) (L := L) (f := some (.ref (S.length + 2))) (x := i) (c := c) (w := w) (k := k) (g := g) (xs := xs) gd hD hi hx
  have tu : tupT ((S ++ c0 :: .dct ks ts :: .lst done :: J) ++ [.lst ((splX b xs).map T.str)]) [.ref (S ++ c0 :: .dct ks ts :: .lst done :: J).length] = some (SF.tS (splX b xs)) := by
    generalize S ++ c0 :: .dct ks ts :: .lst done :: J = U
    have sq : seqL (U ++ [.lst ((splX b xs).map T.str)]) (.ref U.length) = some ((splX b xs).map T.str) := by
      simp only [seqL, sto_end]
    show (seqL (U ++ [.lst ((splX b xs).map T.str)]) (.ref U.length)).map T.tup = _
    rw [sq]
    rfl
  have e3 := app_2 (τ := SFm B L (some (.ref (S.length + 2))) (some (SF.tS xs)) c (some (.ref (S.length + 1))) w k g (some (.ref (S ++ c0 :: .dct ks ts :: .lst done :: J).length)) x10) (S := S) (J := J ++ [.lst ((splX b xs).map T.str)]) (c := c0) (d := .dct ks ts) (a := done) (E := fBlt tupT (fCons (fVar 9) fNil)) (t := SF.tS (splX b xs)) rfl (fun U hU => by
    rw [as] at tu
    rw [← hU] at tu
    generalize (S ++ c0 :: .dct ks ts :: .lst done :: J).length = m at *
    generalize SF.tS (splX b xs) = y at *
    simp_arith [tu]) hd
  refine ⟨some (.ref (S ++ c0 :: .dct ks ts :: .lst done :: J).length), x10, ?_⟩
  unfold xB
  rw [SQ.seq_nx e1, SQ.seq_nx e2, as, e3]
theorem for_cons {g : GT} {B : BS} {x : T} {xs : List T} {l : List (Nat × T)} {τ τ1 : Fr} {S S1 : Sto} (h : g x = some l) (hB : B (setsT τ l) S = .nx τ1 S1) : forF g B (x :: xs) τ S = forF g B xs τ1 S1 := by
  conv => lhs; unfold forF
  simp only [h, hB]
theorem sp4 {b : Bk} {L x d w k g it i : Option T} {S J : Sto} {c1 : T} {cc : List T} {F : T} (hc : cc.length ≤ 200) :
    sp_4 (SFm (some (bT b)) L (some (.ref (S.length + 2))) x (some (.ref S.length)) d w k g it i) (S ++ .lst cc :: c1 :: F :: J) = .rt (.tup [.tup [SF.tS b.asp, SF.tS b.sh, .tup cc], .ref (S.length + 2)]) (S ++ .lst cc :: c1 :: F :: J) := by
  have i0 : ∀ S, ixT S (bT b) (.int 0) = some (SF.tS b.asp) := fun S => rfl
  have i1 : ∀ S, ixT S (bT b) (.int 1) = some (SF.tS b.sh) := fun S => rfl
  have tu : tupT (S ++ .lst cc :: c1 :: F :: J) [.ref S.length] = some (.tup cc) := by
    have sq : seqL (S ++ .lst cc :: c1 :: F :: J) (.ref S.length) = some cc := by
      simp only [seqL, sto_end]
    show (seqL (S ++ .lst cc :: c1 :: F :: J) (.ref S.length)).map T.tup = _
    rw [sq]
    rfl
  generalize S ++ .lst cc :: c1 :: F :: J = U at *
  generalize bT b = bt at *
  unfold sp_4
  simp_arith [i0, i1, tu, small16 (show 3 ≤ 200 by omega), small16 (show 2 ≤ 200 by omega)]
theorem split_ok {b : Bk} (D : DB b) {xs ys : List Str} (hx : xs.length ≤ 60) (hy : ys.length ≤ 60) : Pu m__law_split [bT b, .lst [SF.tS xs, SF.tS ys]] (.tup [bT (splB b), .lst [SF.tS (splX b xs), SF.tS (splX b ys)]]) := by
  intro S
  obtain ⟨w, k, g, e1⟩ := sp1 D (L := some (.lst [SF.tS xs, SF.tS ys])) (S := S)
  have hi : ∀ y, (itemsX b y).length ≤ 3 := fun y => D.items
  have lc : ((splL b.cs).map cT).length ≤ 200 := by
    have e := flat_len3 (l := offs 0 b.cs) fun z hz => D.g3 _ (by
      have : z.1 ∈ (offs 0 b.cs).map (·.1) := List.mem_map_of_mem hz
      rw [offs_fst] at this
      exact this)
    have o := congrArg List.length (offs_fst 0 b.cs)
    rw [List.length_map] at o
    have := D.bl.n8
    rw [List.length_map]
    unfold splL
    omega
  have e2 : sp_2 (SFm (some (bT b)) (some (.lst [SF.tS xs, SF.tS ys])) none none (some (.ref S.length)) (some (.ref (S.length + 1))) w k g none none) (S ++ [.lst ((splL b.cs).map cT), .dct ((offs 0 b.cs).map fun z => .inr z.1.w) ((offs 0 b.cs).map fun z => .lst ((splW z).map T.str))]) =
      .nx (SFm (some (bT b)) (some (.lst [SF.tS xs, SF.tS ys])) (some (.ref (S.length + 2))) none (some (.ref S.length)) (some (.ref (S.length + 1))) w k g none none) (S ++ .lst ((splL b.cs).map cT) :: .dct ((offs 0 b.cs).map fun z => .inr z.1.w) ((offs 0 b.cs).map fun z => .lst ((splW z).map T.str)) :: .lst [] :: []) := by
    generalize T.lst ((splL b.cs).map cT) = c0
    generalize T.dct ((offs 0 b.cs).map fun z => .inr z.1.w) ((offs 0 b.cs).map fun z => .lst ((splW z).map T.str)) = c1
    generalize T.lst [SF.tS xs, SF.tS ys] = L
    generalize bT b = bt
    have ll : (S ++ [c0, c1]).length = S.length + 2 := by rw [List.length_append]; rfl
    have aa : S ++ [c0, c1] ++ [.lst []] = S ++ c0 :: c1 :: .lst [] :: [] := by rw [List.append_assoc]; rfl
    rw [← aa, ← ll]
    generalize S ++ [c0, c1] = U
    unfold sp_2
    simp_arith
  have nn : nrs [SF.tS (splX b xs), SF.tS (splX b ys)] = true := by
    simp only [nrs, nr, nrs_str, Bool.and_true]
  have n2 : nr (.tup [SF.tS b.asp, SF.tS b.sh, .tup ((splL b.cs).map cT)]) = true := nr_bT (splB b)
  have er : bT (splB b) = .tup [SF.tS b.asp, SF.tS b.sh, .tup ((splL b.cs).map cT)] := rfl
  rw [er]
  obtain ⟨t1, i1, x1⟩ := xB_ok (b := b) (B := some (bT b)) (L := some (.lst [SF.tS xs, SF.tS ys])) (c := some (.ref S.length)) (w := w) (k := k) (g := g) (it := none) (i := none) (S := S) (J := []) (c0 := .lst ((splL b.cs).map cT)) (done := []) (xs := xs) hi hx (by simp)
  obtain ⟨t2, i2, x2⟩ := xB_ok (b := b) (B := some (bT b)) (L := some (.lst [SF.tS xs, SF.tS ys])) (c := some (.ref S.length)) (w := w) (k := k) (g := g) (it := t1) (i := i1) (S := S) (J := [] ++ [.lst ((splX b xs).map T.str)]) (c0 := .lst ((splL b.cs).map cT)) (done := [] ++ [SF.tS (splX b xs)]) (xs := ys) hi hy (by simp)
  have e4 := fun x it i => sp4 (b := b) (L := some (.lst [SF.tS xs, SF.tS ys])) (x := x) (d := some (.ref (S.length + 1))) (w := w) (k := k) (g := g) (it := it) (i := i) (S := S) (J := [] ++ [.lst ((splX b xs).map T.str)] ++ [.lst ((splX b ys).map T.str)]) (c1 := .dct ((offs 0 b.cs).map fun z => .inr z.1.w) ((offs 0 b.cs).map fun z => .lst ((splW z).map T.str))) (F := .lst ([] ++ [SF.tS (splX b xs)] ++ [SF.tS (splX b ys)])) lc
  clear lc hi D
  generalize (splL b.cs).map cT = cc at *
  generalize T.dct ((offs 0 b.cs).map fun z => .inr z.1.w) ((offs 0 b.cs).map fun z => .lst ((splW z).map T.str)) = c1 at *
  generalize SF.tS (splX b xs) = r1 at *
  generalize SF.tS (splX b ys) = r2 at *
  generalize T.lst ((splX b xs).map T.str) = j1 at *
  generalize T.lst ((splX b ys).map T.str) = j2 at *
  generalize bT b = bt at *
  generalize T.tup [SF.tS b.asp, SF.tS b.sh, .tup cc] = rb at *
  generalize SF.tS xs = q1 at *
  generalize SF.tS ys = q2 at *
  unfold m__law_split
  refine gc_eq (J := .lst cc :: c1 :: .lst ([] ++ [r1] ++ [r2]) :: ([] ++ [j1] ++ [j2])) (t := .tup [rb, .ref (S.length + 2)]) ?_ ?_
  · refine SQ.body_rt rfl ?_
    rw [sp_all]
    show bSeq _ _ (SFm (some bt) (some (.lst [q1, q2])) none none none none none none none none none) _ = _
    have e3 : sp_3 (SFm (some bt) (some (.lst [q1, q2])) (some (.ref (S.length + 2))) none (some (.ref S.length)) (some (.ref (S.length + 1))) w k g none none) (S ++ .lst cc :: c1 :: .lst [] :: []) =
        .nx (SFm (some bt) (some (.lst [q1, q2])) (some (.ref (S.length + 2))) (some q2) (some (.ref S.length)) (some (.ref (S.length + 1))) w k g t2 i2) (S ++ .lst cc :: c1 :: .lst ([] ++ [r1] ++ [r2]) :: ([] ++ [j1] ++ [j2])) := by
      rw [sp_3e]
      unfold bFor
      generalize xB = xb at *
      have zz : ∀ V, fiA (fVar 1) (SFm (some bt) (some (.lst [q1, q2])) (some (.ref (S.length + 2))) none (some (.ref S.length)) (some (.ref (S.length + 1))) w k g none none) V = .ok [q1, q2] V := fun V => by simp_arith
      rw [zz]
      show forF _ _ _ _ _ = _
      rw [for_cons (l := [(3, q1)]) rfl x1, for_cons (l := [(3, q2)]) rfl x2]
      rfl
    rw [SQ.seq_nx sp0, SQ.seq_nx e1, SQ.seq_nx e2, SQ.seq_nx e3]
    exact e4 (some q2) t2 i2
  · have h2 : (S ++ .lst cc :: c1 :: .lst ([] ++ [r1] ++ [r2]) :: ([] ++ [j1] ++ [j2]))[S.length + 2]? = some (.lst [r1, r2]) := sto_2 ..
    have hr : sub (frzR S.length (S ++ .lst cc :: c1 :: .lst ([] ++ [r1] ++ [r2]) :: ([] ++ [j1] ++ [j2])) 3) (.ref (S.length + 2)) = some (.lst [r1, r2]) := by
      simp only [sub, frzR]
      rw [if_neg (by omega), h2]
      simp only [subs_nr _ nn, Option.map_some]
    have hb := sub_nr (frzR S.length (S ++ .lst cc :: c1 :: .lst ([] ++ [r1] ++ [r2]) :: ([] ++ [j1] ++ [j2])) 3) n2
    show ((sub _ rb).bind fun u => ((sub _ (.ref (S.length + 2))).bind fun v => (some [] : Option (List T)).bind fun us => some (v :: us)).bind fun us => some (u :: us)).map T.tup = _
    rw [hb, hr]
    rfl
theorem told_ne (n : Option Nat) (S : Sto) : TL.neT S (toldT n) (toldT n) = some (.bl false) := by
  have key : ∀ (c : Bool) (i : Int), TL.neT S (.lst [.bl c, .int i]) (.lst [.bl c, .int i]) = some (.bl false) := fun c i => by
    have e1 : toD1 S (.lst [.bl c, .int i]) = some (.list [.bool c, .int i]) := rfl
    have sh : SeqAt.shaped (.list [.bool c, .int i]) = true := by kernel_rfl
    have ev1 : PyData.eqv (.list [.bool c, .int i]) (.list [.bool c, .int i]) = true := by
      cases c <;> simp [PyData.eqv, PyData.eqvAll]
    unfold TL.neT eqB
    rw [e1]
    simp only [sh, Bool.and_self, if_true, ev1]
    rfl
  exact key _ _
noncomputable def lwC : BS := (bSeq (bSet 3 (fCall m__law_book (fCons (fVar 1) (fCons (fC (.int 8)) fNil)))) (bSeq (bSet 4 (fCall m__law_stream (fCons (fVar 1) (fCons (fVar 3) (fCons (fC (.int 12)) fNil))))) (bSeq (bSet 5 (fCall m__law_near (fCons (fVar 1) (fCons (fVar 3) (fCons (fVar 4) fNil))))) (bSeq (bSet 6 (fCall m__law_told (fCons (fVar 3) (fCons (fVar 4) (fCons (fVar 5) fNil))))) (bSeq (bSet 7 (fTup (fCons (fBin addT (fBin ixT (fVar 3) (fC (.int 0))) (fTup (fCons (fC (.str "zz")) fNil))) (fCons (fBin addT (fBin ixT (fVar 3) (fC (.int 1))) (fTup (fCons (fC (.str "zz")) fNil))) (fCons (fBin ixT (fVar 3) (fC (.int 2))) fNil))))) (bSeq (bIf (fTest (fBin neT (fCall m__law_told (fCons (fVar 7) (fCons (fVar 4) (fCons (fVar 5) fNil)))) (fVar 6))) (bRet (fC (.bl false))) bNext) (bSeq (bAsg (sTup 2 (sCons (sName 8) (sCons (sName 9) sNil))) (fCall m__law_renamed (fCons (fVar 3) (fCons (fPure (fLstN (fCons (fVar 4) (fCons (fVar 5) fNil)))) fNil)))) (bSeq (bIf (fTest (fBin neT (fCall m__law_told (fCons (fVar 8) (fCons (fBin ixT (fVar 9) (fC (.int 0))) (fCons (fBin ixT (fVar 9) (fC (.int 1))) fNil)))) (fVar 6))) (bRet (fC (.bl false))) bNext) (bSeq (bAsg (sTup 2 (sCons (sName 10) (sCons (sName 11) sNil))) (fCall m__law_split (fCons (fVar 3) (fCons (fPure (fLstN (fCons (fVar 4) (fCons (fVar 5) fNil)))) fNil)))) (bIf (fAndT (fTest (fBin ltT (fBlt lenT (fCons (fBin ixT (fVar 10) (fC (.int 2))) fNil)) (fC (.int 17)))) (fTest (fBin neT (fCall m__law_told (fCons (fVar 10) (fCons (fBin ixT (fVar 11) (fC (.int 0))) (fCons (fBin ixT (fVar 11) (fC (.int 1))) fNil)))) (fVar 6)))) (bRet (fC (.bl false))) bNext))))))))))
noncomputable def tn_0 : BS := (bSet 3 (fCall m__law_book (fCons (fVar 1) (fCons (fC (.int 8)) fNil))))
noncomputable def tn_1 : BS := (bSet 4 (fCall m__law_stream (fCons (fVar 1) (fCons (fVar 3) (fCons (fC (.int 12)) fNil)))))
noncomputable def tn_2 : BS := (bSet 5 (fCall m__law_near (fCons (fVar 1) (fCons (fVar 3) (fCons (fVar 4) fNil)))))
noncomputable def tn_3 : BS := (bSet 6 (fCall m__law_told (fCons (fVar 3) (fCons (fVar 4) (fCons (fVar 5) fNil)))))
noncomputable def tn_4 : BS := (bSet 7 (fTup (fCons (fBin addT (fBin ixT (fVar 3) (fC (.int 0))) (fTup (fCons (fC (.str "zz")) fNil))) (fCons (fBin addT (fBin ixT (fVar 3) (fC (.int 1))) (fTup (fCons (fC (.str "zz")) fNil))) (fCons (fBin ixT (fVar 3) (fC (.int 2))) fNil)))))
noncomputable def tn_5 : BS := (bIf (fTest (fBin neT (fCall m__law_told (fCons (fVar 7) (fCons (fVar 4) (fCons (fVar 5) fNil)))) (fVar 6))) (bRet (fC (.bl false))) bNext)
noncomputable def tn_6 : BS := (bAsg (sTup 2 (sCons (sName 8) (sCons (sName 9) sNil))) (fCall m__law_renamed (fCons (fVar 3) (fCons (fPure (fLstN (fCons (fVar 4) (fCons (fVar 5) fNil)))) fNil))))
noncomputable def tn_7 : BS := (bIf (fTest (fBin neT (fCall m__law_told (fCons (fVar 8) (fCons (fBin ixT (fVar 9) (fC (.int 0))) (fCons (fBin ixT (fVar 9) (fC (.int 1))) fNil)))) (fVar 6))) (bRet (fC (.bl false))) bNext)
noncomputable def tn_8 : BS := (bAsg (sTup 2 (sCons (sName 10) (sCons (sName 11) sNil))) (fCall m__law_split (fCons (fVar 3) (fCons (fPure (fLstN (fCons (fVar 4) (fCons (fVar 5) fNil)))) fNil))))
noncomputable def tn_9 : BS := (bIf (fAndT (fTest (fBin ltT (fBlt lenT (fCons (fBin ixT (fVar 10) (fC (.int 2))) fNil)) (fC (.int 17)))) (fTest (fBin neT (fCall m__law_told (fCons (fVar 10) (fCons (fBin ixT (fVar 11) (fC (.int 0))) (fCons (fBin ixT (fVar 11) (fC (.int 1))) fNil)))) (fVar 6)))) (bRet (fC (.bl false))) bNext)
theorem tn_all : lwC = (bSeq tn_0 (bSeq tn_1 (bSeq tn_2 (bSeq tn_3 (bSeq tn_4 (bSeq tn_5 (bSeq tn_6 (bSeq tn_7 (bSeq tn_8 tn_9))))))))) := rfl
noncomputable def lw13_0 : BS := (bSet 1 (fCall m__law_begin (fCons (fVar 0) fNil)))
noncomputable def lw13_1 : BS := (bFor (fiR1 (fCons (fC (.int 3)) fNil)) (sName 2) (bSeq (bSet 3 (fCall m__law_book (fCons (fVar 1) (fCons (fC (.int 8)) fNil)))) (bSeq (bSet 4 (fCall m__law_stream (fCons (fVar 1) (fCons (fVar 3) (fCons (fC (.int 12)) fNil))))) (bSeq (bSet 5 (fCall m__law_near (fCons (fVar 1) (fCons (fVar 3) (fCons (fVar 4) fNil))))) (bSeq (bSet 6 (fCall m__law_told (fCons (fVar 3) (fCons (fVar 4) (fCons (fVar 5) fNil))))) (bSeq (bSet 7 (fTup (fCons (fBin addT (fBin ixT (fVar 3) (fC (.int 0))) (fTup (fCons (fC (.str "zz")) fNil))) (fCons (fBin addT (fBin ixT (fVar 3) (fC (.int 1))) (fTup (fCons (fC (.str "zz")) fNil))) (fCons (fBin ixT (fVar 3) (fC (.int 2))) fNil))))) (bSeq (bIf (fTest (fBin neT (fCall m__law_told (fCons (fVar 7) (fCons (fVar 4) (fCons (fVar 5) fNil)))) (fVar 6))) (bRet (fC (.bl false))) bNext) (bSeq (bAsg (sTup 2 (sCons (sName 8) (sCons (sName 9) sNil))) (fCall m__law_renamed (fCons (fVar 3) (fCons (fPure (fLstN (fCons (fVar 4) (fCons (fVar 5) fNil)))) fNil)))) (bSeq (bIf (fTest (fBin neT (fCall m__law_told (fCons (fVar 8) (fCons (fBin ixT (fVar 9) (fC (.int 0))) (fCons (fBin ixT (fVar 9) (fC (.int 1))) fNil)))) (fVar 6))) (bRet (fC (.bl false))) bNext) (bSeq (bAsg (sTup 2 (sCons (sName 10) (sCons (sName 11) sNil))) (fCall m__law_split (fCons (fVar 3) (fCons (fPure (fLstN (fCons (fVar 4) (fCons (fVar 5) fNil)))) fNil)))) (bIf (fAndT (fTest (fBin ltT (fBlt lenT (fCons (fBin ixT (fVar 10) (fC (.int 2))) fNil)) (fC (.int 17)))) (fTest (fBin neT (fCall m__law_told (fCons (fVar 10) (fCons (fBin ixT (fVar 11) (fC (.int 0))) (fCons (fBin ixT (fVar 11) (fC (.int 1))) fNil)))) (fVar 6)))) (bRet (fC (.bl false))) bNext)))))))))))
noncomputable def lw13_2 : BS := (bRet (fC (.bl true)))
theorem lw13_all : b_law_k13 = (bSeq lw13_0 (bSeq lw13_1 lw13_2)) := rfl
end SB
set_option Elab.async false
set_option linter.all false
set_option maxRecDepth 100000
set_option maxHeartbeats 4000000
namespace SB
open PySem PySem.Spec L2 TL SF
open PyProof.Rows hiding St
abbrev N13 (sc t bk one oth due mo re tu sp it : Option T) : Fr := [sc, some (.ref 1), t, bk, one, oth, due, mo, re, tu, sp, it]
section
variable {sc t one oth due mo re tu sp it : Option T} {S S1 : Sto}
theorem tn0 {bk : Option T} {B : T} (h : m__law_book [.ref 1, .int 8] S = .ok B S1) : tn_0 (N13 sc t bk one oth due mo re tu sp it) S = .nx (N13 sc t (some B) one oth due mo re tu sp it) S1 := by
  unfold tn_0
  generalize m__law_book = f at *
  simp_arith [h]
theorem tn1 {B X : T} (h : m__law_stream [.ref 1, B, .int 12] S = .ok X S1) : tn_1 (N13 sc t (some B) one oth due mo re tu sp it) S = .nx (N13 sc t (some B) (some X) oth due mo re tu sp it) S1 := by
  unfold tn_1
  generalize m__law_stream = f at *
  simp_arith [h]
theorem tn2 {B X Y : T} (h : m__law_near [.ref 1, B, X] S = .ok Y S1) : tn_2 (N13 sc t (some B) (some X) oth due mo re tu sp it) S = .nx (N13 sc t (some B) (some X) (some Y) due mo re tu sp it) S1 := by
  unfold tn_2
  generalize m__law_near = f at *
  simp_arith [h]
theorem tn3 {B X Y D : T} (h : m__law_told [B, X, Y] S = .ok D S) : tn_3 (N13 sc t (some B) (some X) (some Y) due mo re tu sp it) S = .nx (N13 sc t (some B) (some X) (some Y) (some D) mo re tu sp it) S := by
  unfold tn_3
  generalize m__law_told = f at *
  simp_arith [h]
theorem add_zz {l : List Str} (h : l.length ≤ 100) (S : Sto) : addT S (SF.tS l) (.tup [.str "zz"]) = some (SF.tS (l ++ [("zz" : Str)])) := by
  show (if (l.map T.str).length + [T.str "zz"].length ≤ sizeLine then some (T.tup (l.map T.str ++ [T.str "zz"])) else none) = _
  rw [if_pos (small16 (by rw [List.length_map]; show l.length + 1 ≤ 200; omega))]
  show some (T.tup _) = some (T.tup ((l ++ [("zz" : Str)]).map T.str))
  rw [List.map_append]
  rfl
theorem tn4 {b : Bk} {X Y D : T} (h1 : b.asp.length ≤ 100) (h2 : b.sh.length ≤ 100) : tn_4 (N13 sc t (some (bT b)) (some X) (some Y) (some D) mo re tu sp it) S = .nx (N13 sc t (some (bT b)) (some X) (some Y) (some D) (some (bT (moreB b))) re tu sp it) S := by
  have i0 : ∀ S, ixT S (bT b) (.int 0) = some (SF.tS b.asp) := fun S => rfl
  have i1 : ∀ S, ixT S (bT b) (.int 1) = some (SF.tS b.sh) := fun S => rfl
  have i2 : ∀ S, ixT S (bT b) (.int 2) = some (.tup (b.cs.map cT)) := fun S => rfl
  have a1 := add_zz h1
  have a2 := add_zz h2
  have er : bT (moreB b) = .tup [SF.tS (b.asp ++ [("zz" : Str)]), SF.tS (b.sh ++ [("zz" : Str)]), .tup (b.cs.map cT)] := rfl
  rw [er]
  generalize bT b = bt at *
  generalize SF.tS (b.asp ++ [("zz" : Str)]) = x1 at *
  generalize SF.tS (b.sh ++ [("zz" : Str)]) = x2 at *
  generalize SF.tS b.asp = y1 at *
  generalize SF.tS b.sh = y2 at *
  unfold tn_4
  simp_arith [i0, i1, i2, a1, a2, small16 (show 3 ≤ 200 by omega), small16 (show 1 ≤ 200 by omega)]
theorem tn5 {B X Y D M : T} (h : m__law_told [M, X, Y] S = .ok D S) (hn : TL.neT S D D = some (.bl false)) : tn_5 (N13 sc t (some B) (some X) (some Y) (some D) (some M) re tu sp it) S = .nx (N13 sc t (some B) (some X) (some Y) (some D) (some M) re tu sp it) S := by
  unfold tn_5
  generalize m__law_told = f at *
  simp_arith [h, hn]
theorem tn6 {B X Y D M B' L : T} (h : m__law_renamed [B, .lst [X, Y]] S = .ok (.tup [B', L]) S) : tn_6 (N13 sc t (some B) (some X) (some Y) (some D) (some M) re tu sp it) S = .nx (N13 sc t (some B) (some X) (some Y) (some D) (some M) (some B') (some L) sp it) S := by
  unfold tn_6
  generalize m__law_renamed = f at *
  simp_arith [h, small16 (show 2 ≤ 200 by omega)]
theorem tn7 {B X Y D M B' X' Y' : T} (h : m__law_told [B', X', Y'] S = .ok D S) (hn : TL.neT S D D = some (.bl false)) : tn_7 (N13 sc t (some B) (some X) (some Y) (some D) (some M) (some B') (some (.lst [X', Y'])) sp it) S = .nx (N13 sc t (some B) (some X) (some Y) (some D) (some M) (some B') (some (.lst [X', Y'])) sp it) S := by
  have i0 : ∀ S, ixT S (.lst [X', Y']) (.int 0) = some X' := fun S => rfl
  have i1 : ∀ S, ixT S (.lst [X', Y']) (.int 1) = some Y' := fun S => rfl
  generalize T.lst [X', Y'] = L at *
  unfold tn_7
  generalize m__law_told = f at *
  simp_arith [h, hn, i0, i1]
theorem tn8 {B X Y D M B' L' B2 L2 : T} (h : m__law_split [B, .lst [X, Y]] S = .ok (.tup [B2, L2]) S) : tn_8 (N13 sc t (some B) (some X) (some Y) (some D) (some M) (some B') (some L') sp it) S = .nx (N13 sc t (some B) (some X) (some Y) (some D) (some M) (some B') (some L') (some B2) (some L2)) S := by
  unfold tn_8
  generalize m__law_split = f at *
  simp_arith [h, small16 (show 2 ≤ 200 by omega)]
theorem tn9 {B X Y D M B' L' B2 X2 Y2 C2 : T} {n : Nat} (i2 : ∀ S, ixT S B2 (.int 2) = some C2) (ln : ∀ S, lenT S [C2] = some (.int (n : Nat))) (h : n < 17 → m__law_told [B2, X2, Y2] S = .ok D S) (hn : TL.neT S D D = some (.bl false)) : tn_9 (N13 sc t (some B) (some X) (some Y) (some D) (some M) (some B') (some L') (some B2) (some (.lst [X2, Y2]))) S = .nx (N13 sc t (some B) (some X) (some Y) (some D) (some M) (some B') (some L') (some B2) (some (.lst [X2, Y2]))) S := by
  have i0 : ∀ S, ixT S (.lst [X2, Y2]) (.int 0) = some X2 := fun S => rfl
  have i1 : ∀ S, ixT S (.lst [X2, Y2]) (.int 1) = some Y2 := fun S => rfl
  have lt : ∀ S, ltT S (.int (n : Nat)) (.int 17) = some (.bl (decide (n < 17))) := fun S => by
    show some (T.bl (decide ((n : Int) < 17))) = _
    congr 2
    rw [decide_eq_decide]
    omega
  generalize T.lst [X2, Y2] = L at *
  unfold tn_9
  generalize m__law_told = f at *
  by_cases z : n < 17
  · have h := h z
    rw [decide_eq_true z] at lt
    simp_arith [i2, ln, lt, fAndT, h, hn, i0, i1]
  · rw [decide_eq_false z] at lt
    simp_arith [i2, ln, lt, fAndT]
end
theorem turn13 {cs ls : List Int} {n : Int} {a : Nat} {sc : Option T} (hc : cs ≠ []) (hl : ls.length = cs.length) (ha : a + 400 ≤ 2 ^ 60) (bk one oth due mo re tu sp it : Option T) :
    ∃ bk' one' oth' due' mo' re' tu' sp' it' ls' a', lwC (N13 sc (some (.int n)) bk one oth due mo re tu sp it) (S2 ls cs a []) = .nx (N13 sc (some (.int n)) bk' one' oth' due' mo' re' tu' sp' it') (S2 ls' cs a' []) ∧ ls'.length = cs.length ∧ a' ≤ a + 400 := by
  obtain ⟨_, ls1, a1, d1, ⟨b, ⟨B, v⟩, rfl⟩, l1, b1⟩ := book_dr13 hc (most := 8) (by decide) (by decide) [] ls a hl (by omega)
  obtain ⟨_, ls2, a2, d2, ⟨xs, X, hx, rfl⟩, l2, b2⟩ := stream_dr hc B (most := 12) (by decide) [] ls1 a1 l1 (by omega)
  obtain ⟨_, ls3, a3, d3, ⟨ys, Y, N, rfl⟩, l3, b3⟩ := near_dr hc B X (by omega) [] ls2 a2 l2 (by omega)
  have d1 : m__law_book [.ref 1, .int 8] (S2 ls cs a []) = .ok (bT b) (S2 ls1 cs a1 []) := d1
  have d2 : m__law_stream [.ref 1, bT b, .int 12] (S2 ls1 cs a1 []) = .ok (SF.tS xs) (S2 ls2 cs a2 []) := d2
  have d3 : m__law_near [.ref 1, bT b, SF.tS xs] (S2 ls2 cs a2 []) = .ok (SF.tS ys) (S2 ls3 cs a3 []) := d3
  have D : DB b := ⟨B, v⟩
  have h := N.sg.symm
  have hy : ys.length ≤ 60 := by have := N.len; omega
  have al : b.asp.length ≤ 3 := B.asp.length_le
  have sl := B.sh.length_le
  have t0 := told_0 D X Y h (S2 ls3 cs a3 [])
  have t1 := told_1 D X Y h (S2 ls3 cs a3 [])
  have t2 := told_2 D X Y h (S2 ls3 cs a3 [])
  have t3 := fun z => told_3 D X Y h (by omega) hy z (S2 ls3 cs a3 [])
  have ne := told_ne (sizeF (rowsF b f0 xs) (rowsF b f0 ys)) (S2 ls3 cs a3 [])
  have r1 := renamed_ok D X Y (S2 ls3 cs a3 [])
  have r2 := split_ok D (xs := xs) (ys := ys) (by omega) hy (S2 ls3 cs a3 [])
  have i2 : ∀ S, ixT S (bT (splB b)) (.int 2) = some (.tup ((splL b.cs).map cT)) := fun S => rfl
  have ln : ∀ S, lenT S [.tup ((splL b.cs).map cT)] = some (.int (totC b.cs : Nat)) := fun S => by
    show some (T.int ((splL b.cs).map cT).length) = _
    rw [List.length_map]
    unfold splL
    rw [splL_len]
  refine ⟨some (bT b), some (SF.tS xs), some (SF.tS ys), some (toldT (sizeF (rowsF b f0 xs) (rowsF b f0 ys))), some (bT (moreB b)), some (bT (renB b)), some (.lst [SF.tS (xs.map rx), SF.tS (ys.map rx)]), some (bT (splB b)), some (.lst [SF.tS (splX b xs), SF.tS (splX b ys)]), ls3, a3, ?_, l3, by omega⟩
  rw [tn_all, SQ.seq_nx (tn0 d1), SQ.seq_nx (tn1 d2), SQ.seq_nx (tn2 d3), SQ.seq_nx (tn3 t0), SQ.seq_nx (tn4 (by omega) (by omega)), SQ.seq_nx (tn5 t1 ne), SQ.seq_nx (tn6 r1), SQ.seq_nx (tn7 t2 ne), SQ.seq_nx (tn8 r2)]
  exact tn9 i2 ln t3 ne
end SB
set_option Elab.async false
set_option linter.all false
set_option maxRecDepth 100000
set_option maxHeartbeats 4000000
namespace SF
open PySem PySem.Spec L2 TL
open PyProof.Rows hiding St
theorem law13_true (ns : List Int) (hns : ns.length ≤ 63) : ∃ S, m_law_k13 [.sls (ns.map T.int)] [] = .ok (.bl true) S := by
  obtain ⟨ls0, cs, hb, hl0, hc⟩ := begin_ok hns
  have e0 : SB.lw13_0 [some (.sls (ns.map T.int)), none, none, none, none, none, none, none, none, none, none, none] [] = .nx (SB.N13 (some (.sls (ns.map T.int))) none none none none none none none none none none) (S2 ls0 cs 0 []) := by
    unfold SB.lw13_0 SB.N13
    generalize m__law_begin = f1 at hb ⊢
    simp_arith [hb]
  have e1 : ∃ t bk one oth due mo re tu sp it ls a, SB.lw13_1 (SB.N13 (some (.sls (ns.map T.int))) none none none none none none none none none none) (S2 ls0 cs 0 []) = .nx (SB.N13 (some (.sls (ns.map T.int))) t bk one oth due mo re tu sp it) (S2 ls cs a []) := by
    have e2 : SB.lw13_1 (SB.N13 (some (.sls (ns.map T.int))) none none none none none none none none none none) (S2 ls0 cs 0 []) = forF (sName 2) SB.lwC (rng 0 ((3 : Nat) : Int)) (SB.N13 (some (.sls (ns.map T.int))) none none none none none none none none none none) (S2 ls0 cs 0 []) := rfl
    rw [e2]
    generalize hF : forF _ _ _ _ _ = R2
    obtain ⟨τ2, S3, e, t, bk, one, oth, due, mo, re, tu, sp, it, ls1, a1, h1, h2, h3, h4⟩ := for_go hF (fun k τ T1 => ∃ t bk one oth due mo re tu sp it ls a, τ = SB.N13 (some (.sls (ns.map T.int))) t bk one oth due mo re tu sp it ∧ T1 = S2 ls cs a [] ∧ ls.length = cs.length ∧ a ≤ 400 * k)
      ⟨none, none, none, none, none, none, none, none, none, none, ls0, 0, rfl, rfl, hl0, Nat.le_refl _⟩ (by
      intro k y τ T1 hx hI
      obtain ⟨t, bk, one, oth, due, mo, re, tu, sp, it, ls, a, rfl, rfl, hl, ha⟩ := hI
      obtain ⟨hi, rfl⟩ := rng_at hx
      obtain ⟨bk', one', oth', due', mo', re', tu', sp', it', ls', a', z, l', h'⟩ := SB.turn13 (n := (k : Int)) (a := a) (sc := some (.sls (ns.map T.int))) hc hl (by omega) bk one oth due mo re tu sp it
      refine ⟨[(2, .int k)], rfl, ?_⟩
      rw [show (setsT (SB.N13 (some (.sls (ns.map T.int))) t bk one oth due mo re tu sp it) [(2, .int k)]) = SB.N13 (some (.sls (ns.map T.int))) (some (.int k)) bk one oth due mo re tu sp it from rfl, z]
      exact goes_nx ⟨_, bk', one', oth', due', mo', re', tu', sp', it', ls', a', rfl, rfl, l', by omega⟩)
    subst e h1 h2
    exact ⟨t, bk, one, oth, due, mo, re, tu, sp, it, ls1, a1, rfl⟩
  obtain ⟨t, bk, one, oth, due, mo, re, tu, sp, it, ls, a, e1⟩ := e1
  refine ⟨S2 ls cs a [], ?_⟩
  unfold m_law_k13
  refine SQ.body_rt rfl ?_
  rw [SB.lw13_all]
  show bSeq _ _ [some (.sls (ns.map T.int)), none, none, none, none, none, none, none, none, none, none, none] _ = _
  rw [SQ.seq_nx e0, SQ.seq_nx e1]
  rfl
end SF
set_option Elab.async false
set_option linter.all false
set_option maxRecDepth 100000
set_option maxHeartbeats 2000000
namespace Dk13
open PySem PySem.Spec L2 TL
open PyProof.Rows hiding St
def top (i : Nat) : Stmt := PySem.Challenge.pw_stylefall_k13_whole_under_other_names.main.body.getD i (.Pass ⟨0, 0, 0, 0⟩)
section
variable {P : Program} {w : World} {K : PySem.W.Frag} {mg : Str → Option Value} {base : Heap}
theorem sc__law_begin : FnScope ["script", "cells", "cell"] ["script"] (defScope (top 48)) := ⟨rfl, rfl, rfl, by decide +kernel, rfl, by decide +kernel, by decide +kernel⟩
theorem d__law_begin {f : Addr} {fd : FuncData} (Fd : Fun K "_law_begin" "_law_begin" (top 48) f fd) (h_list : mg "list" = none) : Df P w K mg base 1 f fd ["script"] SF.m__law_begin := by
  refine df_mk (N := ["script", "cells", "cell"]) (ps := ["script"]) Fd sc__law_begin fun cdv A fs s H hr hgd => ?_
  have hu := hr.units
  exact (pfss_cons (pfs_set (i := 1) sc__law_begin.nd (pf_if (pft_cmp (o_ne hu) (pf_var 0) (pf_pure (pfn_lst pfa_nil))) (pf_pure (pfn_bltTy (c_list rfl) h_list rfl (pfa_cons (pf_var 0) pfa_nil))) (pf_pure (pfn_lst (pfa_cons pf_int pfa_nil))))) (pfss_one (pfs_ret (pf_cell (pfn_disp (pfps_cons pf_str (pf_var 1) (pfps_cons pf_str (pf_cell (pfn_lc (own := [("cell", 2)]) rfl sc__law_begin.nd (pfi_any (pf_var 1)) (blkOk_by (N := ["script", "cells", "cell"]) (sc := defScope (top 48)) (by decide +kernel)) (fun _ _ _ _ _ => (pfg_name sc__law_begin.nd)) (fun _ _ _ _ _ => pfts_nil) (fun _ _ _ _ _ => (pf_if (pft_cmp o_ge (pf_var 2) (pf_bin o_pow pf_int pf_int)) (pf_var 2) pf_int)))) (pfps_cons pf_str pf_int (pfps_cons pf_str pf_int pfps_nil)))))))))
theorem sc__law_mixed : FnScope ["cell", "k"] ["cell", "k"] (defScope (top 47)) := ⟨rfl, rfl, rfl, by decide +kernel, rfl, by decide +kernel, by decide +kernel⟩
theorem d__law_mixed {f : Addr} {fd : FuncData} (Fd : Fun K "_law_mixed" "_law_mixed" (top 47) f fd) (h_int : mg "int" = none) : Df P w K mg base 1 f fd ["cell", "k"] SF.m__law_mixed := by
  refine df_mk (N := ["cell", "k"]) (ps := ["cell", "k"]) Fd sc__law_mixed fun cdv A fs s H hr hgd => ?_
  have hu := hr.units
  exact (pfss_cons (pfs_set (i := 0) sc__law_mixed.nd (pf_bin o_mod (pf_bltTy c_int h_int rfl (pfa_cons (pf_var 0) pfa_nil)) pf_int)) (pfss_one (pfs_ret (pf_bin o_mod (pf_bin o_mul (pf_bin o_mod (pf_bin o_add (pf_bin o_add (pf_bin o_mul (pf_var 0) (pf_bin o_add pf_int (pf_bin o_mul (pf_bin o_mul pf_int (pf_var 1)) (pf_var 1)))) (pf_bin o_mul pf_int (pf_var 1))) pf_int) pf_int) pf_int) pf_int))))
theorem sc_is_short : FnScope ["thing"] ["thing"] (defScope (top 13)) := ⟨rfl, rfl, rfl, by decide +kernel, rfl, by decide +kernel, by decide +kernel⟩
theorem d_is_short {f : Addr} {fd : FuncData} (Fd : Fun K "is_short" "is_short" (top 13) f fd) (h_LONGEST : ∃ t, mg "LONGEST" = some (.int 8 t)) (h_isinstance : mg "isinstance" = none) (h_str : mg "str" = none) (h_len : mg "len" = none) : Df P w K mg base 1 f fd ["thing"] SF.m_is_short := by
  obtain ⟨_, h_LONGEST⟩ := h_LONGEST
  refine df_mk (N := ["thing"]) (ps := ["thing"]) Fd sc_is_short fun cdv A fs s H hr hgd => ?_
  have hu := hr.units
  exact (pfss_one (pfs_ret (pf_and (pf_blt c_isi h_isinstance rfl (pfa_cons (pf_var 0) (pfa_cons (pf_ty h_str rfl) pfa_nil))) (pf_one (pf_chain o_le o_le pf_int (pf_blt c_len h_len rfl (pfa_cons (pf_var 0) pfa_nil)) (pf_globI h_LONGEST))))))
theorem sc_ascend : FnScope ["names", "at"] ["names"] (defScope (top 16)) := ⟨rfl, rfl, rfl, by decide +kernel, rfl, by decide +kernel, by decide +kernel⟩
theorem d_ascend {f : Addr} {fd : FuncData} (Fd : Fun K "ascend" "ascend" (top 16) f fd) (h_all : mg "all" = none) (h_range : mg "range" = none) (h_len : mg "len" = none) : Df P w K mg base 1 f fd ["names"] SF.m_ascend := by
  refine df_mk (N := ["names", "at"]) (ps := ["names"]) Fd sc_ascend fun cdv A fs s H hr hgd => ?_
  have hu := hr.units
  exact (pfss_one (pfs_ret (pf_blt (c_all rfl) h_all rfl (pfa_cons (pf_pure (pfn_lc (own := [("at", 1)]) rfl sc_ascend.nd (pfi_range2 h_range (pfa_cons pf_int (pfa_cons (pf_blt c_len h_len rfl (pfa_cons (pf_var 0) pfa_nil)) pfa_nil))) (blkOk_by (N := ["names", "at"]) (sc := defScope (top 16)) (by decide +kernel)) (fun _ _ _ _ _ => (pfg_name sc_ascend.nd)) (fun _ _ _ _ _ => pfts_nil) (fun _ _ _ _ _ => (pf_cmp o_lt (pf_ix hu (pf_var 0) (pf_bin o_sub (pf_var 1) pf_int)) (pf_ix hu (pf_var 0) (pf_var 1)))))) pfa_nil))))
theorem sc_words_of : FnScope ["book", "code"] ["book"] (defScope (top 23)) := ⟨rfl, rfl, rfl, by decide +kernel, rfl, by decide +kernel, by decide +kernel⟩
theorem d_words_of {f : Addr} {fd : FuncData} (Fd : Fun K "words_of" "words_of" (top 23) f fd) : Df P w K mg base 1 f fd ["book"] SF.m_words_of := by
  refine df_mk (N := ["book", "code"]) (ps := ["book"]) Fd sc_words_of fun cdv A fs s H hr hgd => ?_
  have hu := hr.units
  exact (pfss_one (pfs_ret (pf_pure (pfn_lc (own := [("code", 1)]) rfl sc_words_of.nd (pfi_any (pf_ix hu (pf_var 0) pf_int)) (blkOk_by (N := ["book", "code"]) (sc := defScope (top 23)) (by decide +kernel)) (fun _ _ _ _ _ => (pfg_name sc_words_of.nd)) (fun _ _ _ _ _ => pfts_nil) (fun _ _ _ _ _ => (pf_ix hu (pf_var 1) pf_int))))))
theorem sc_is_letter : FnScope ["item"] ["item"] (defScope (top 25)) := ⟨rfl, rfl, rfl, by decide +kernel, rfl, by decide +kernel, by decide +kernel⟩
theorem d_is_letter {f : Addr} {fd : FuncData} (Fd : Fun K "is_letter" "is_letter" (top 25) f fd) (h_LETTERS : ∃ t, mg "LETTERS" = some (.str "abcdefghijklmnopqrstuvwxyz" t)) (h_len : mg "len" = none) : Df P w K mg base 1 f fd ["item"] SF.m_is_letter := by
  obtain ⟨_, h_LETTERS⟩ := h_LETTERS
  refine df_mk (N := ["item"]) (ps := ["item"]) Fd sc_is_letter fun cdv A fs s H hr hgd => ?_
  have hu := hr.units
  exact (pfss_one (pfs_ret (pf_and (pf_cmp (o_eq hu) (pf_blt c_len h_len rfl (pfa_cons (pf_var 0) pfa_nil)) pf_int) (pf_one (pf_cmp (o_in hu) (pf_var 0) (pf_globS h_LETTERS))))))
theorem sc_codes_by_word : FnScope ["book", "code"] ["book"] (defScope (top 24)) := ⟨rfl, rfl, rfl, by decide +kernel, rfl, by decide +kernel, by decide +kernel⟩
theorem d_codes_by_word {f : Addr} {fd : FuncData} (Fd : Fun K "codes_by_word" "codes_by_word" (top 24) f fd) : Df P w K mg base 1 f fd ["book"] SF.m_codes_by_word := by
  refine df_mk (N := ["book", "code"]) (ps := ["book"]) Fd sc_codes_by_word fun cdv A fs s H hr hgd => ?_
  have hu := hr.units
  exact (pfss_one (pfs_ret (pf_pure (pfn_dc (own := [("code", 1)]) rfl sc_codes_by_word.nd (pfi_any (pf_ix hu (pf_var 0) pf_int)) (blkOk_by (N := ["book", "code"]) (sc := defScope (top 24)) (by decide +kernel)) (fun _ _ _ _ _ => (pfg_name sc_codes_by_word.nd)) (fun _ _ _ _ _ => pfts_nil) (fun _ _ _ _ _ => (pf_ix hu (pf_var 1) pf_int)) (fun _ _ _ _ _ => (pf_var 1))))))
theorem sc_no_chains : FnScope ["book", "aspect"] ["book"] (defScope (top 37)) := ⟨rfl, rfl, rfl, by decide +kernel, rfl, by decide +kernel, by decide +kernel⟩
theorem d_no_chains {f : Addr} {fd : FuncData} (Fd : Fun K "no_chains" "no_chains" (top 37) f fd) : Df P w K mg base 1 f fd ["book"] SF.m_no_chains := by
  refine df_mk (N := ["book", "aspect"]) (ps := ["book"]) Fd sc_no_chains fun cdv A fs s H hr hgd => ?_
  have hu := hr.units
  exact (pfss_one (pfs_ret (pf_cell (pfn_dc (own := [("aspect", 1)]) rfl sc_no_chains.nd (pfi_any (pf_ix hu (pf_var 0) pf_int)) (blkOk_by (N := ["book", "aspect"]) (sc := defScope (top 37)) (by decide +kernel)) (fun _ _ _ _ _ => (pfg_name sc_no_chains.nd)) (fun _ _ _ _ _ => pfts_nil) (fun _ _ _ _ _ => (pf_var 1)) (fun _ _ _ _ _ => (pf_tup pfa_nil))))))
theorem sc_behind : FnScope ["chain", "kind", "value", "pair"] ["chain", "kind", "value"] (defScope (top 36)) := ⟨rfl, rfl, rfl, by decide +kernel, rfl, by decide +kernel, by decide +kernel⟩
theorem d_behind {f : Addr} {fd : FuncData} (Fd : Fun K "behind" "behind" (top 36) f fd) (h_tuple : mg "tuple" = none) : Df P w K mg base 1 f fd ["chain", "kind", "value"] SF.m_behind := by
  refine df_mk (N := ["chain", "kind", "value", "pair"]) (ps := ["chain", "kind", "value"]) Fd sc_behind fun cdv A fs s H hr hgd => ?_
  have hu := hr.units
  exact (pfss_one (pfs_ret (pf_bin o_add (pf_tup (pfa_cons (pf_tup (pfa_cons (pf_var 1) (pfa_cons (pf_var 2) pfa_nil))) pfa_nil)) (pf_bltTy c_tup h_tuple rfl (pfa_cons (pf_pure (pfn_lc (own := [("pair", 3)]) rfl sc_behind.nd (pfi_any (pf_var 0)) (blkOk_by (N := ["chain", "kind", "value", "pair"]) (sc := defScope (top 36)) (by decide +kernel)) (fun _ _ _ _ _ => (pfg_name sc_behind.nd)) (fun _ _ _ _ _ => (pfts_one (pft_cmp (o_ne hu) (pf_ix hu (pf_var 3) pf_int) (pf_var 1)))) (fun _ _ _ _ _ => (pf_var 3)))) pfa_nil)))))
theorem sc_worth_among : FnScope ["chain", "kinds", "kind", "value"] ["chain", "kinds"] (defScope (top 32)) := ⟨rfl, rfl, rfl, by decide +kernel, rfl, by decide +kernel, by decide +kernel⟩
theorem d_worth_among {f : Addr} {fd : FuncData} (Fd : Fun K "worth_among" "worth_among" (top 32) f fd) : Df P w K mg base 1 f fd ["chain", "kinds"] SF.m_worth_among := by
  refine df_mk (N := ["chain", "kinds", "kind", "value"]) (ps := ["chain", "kinds"]) Fd sc_worth_among fun cdv A fs s H hr hgd => ?_
  have hu := hr.units
  exact (pfss_cons (pfs_for PassesOwn.never rfl (pfi_any (pf_var 0)) (pfg_tup rfl (pfgs_cons (pfg_name sc_worth_among.nd) (pfgs_cons (pfg_name sc_worth_among.nd) pfgs_nil))) (pfss_one (pfs_if (pft_cmp (o_in hu) (pf_var 2) (pf_var 1)) (pfss_one (pfs_ret (pf_var 3))) pfss_nil))) (pfss_one (pfs_ret pf_non)))
theorem sc_runs_of : FnScope ["chain", "runs", "kind", "value", "kinds"] ["chain"] (defScope (top 33)) := ⟨rfl, rfl, rfl, by decide +kernel, rfl, by decide +kernel, by decide +kernel⟩
theorem d_runs_of {f : Addr} {fd : FuncData} (Fd : Fun K "runs_of" "runs_of" (top 33) f fd) (h_len : mg "len" = none) (h_tuple : mg "tuple" = none) (h_sorted : mg "sorted" = none) : Df P w K mg base 1 f fd ["chain"] SF.m_runs_of := by
  refine df_gc ?_
  refine df_mk (N := ["chain", "runs", "kind", "value", "kinds"]) (ps := ["chain"]) Fd sc_runs_of fun cdv A fs s H hr hgd => ?_
  have hu := hr.units
  exact (pfss_cons (pfs_set (i := 1) sc_runs_of.nd (pf_cell (pfn_lst pfa_nil))) (pfss_cons (pfs_for PassesOwn.never rfl (pfi_any (pf_var 0)) (pfg_tup rfl (pfgs_cons (pfg_name sc_runs_of.nd) (pfgs_cons (pfg_name sc_runs_of.nd) pfgs_nil))) (pfss_one (pfs_if (pfw_pt (pfw_and (pft_cmp o_gt (pf_blt c_len h_len rfl (pfa_cons (pf_var 1) pfa_nil)) pf_int) (pfw_and1 (pft_cmp (o_eq hu) (pf_ix hu (pf_ix hu (pf_var 1) (pf_un o_neg pf_int)) pf_int) (pf_var 3))))) (pfss_one (pfs_expr (pf_append (pf_ix hu (pf_ix hu (pf_var 1) (pf_un o_neg pf_int)) pf_int) (pfa_cons (pf_var 2) pfa_nil)))) (pfss_one (pfs_expr (pf_append (pf_var 1) (pfa_cons (pf_tup (pfa_cons (pf_var 3) (pfa_cons (pf_cell (pfn_lst (pfa_cons (pf_var 2) pfa_nil))) pfa_nil))) pfa_nil))))))) (pfss_one (pfs_ret (pf_bltTy c_tup h_tuple rfl (pfa_cons (pf_pure (pfn_lcC (own := [("value", 3), ("kinds", 4)]) rfl sc_runs_of.nd (pfi_cell (pf_var 1)) (blkOk_by (N := ["chain", "runs", "kind", "value", "kinds"]) (sc := defScope (top 33)) (by decide +kernel)) (fun _ _ _ _ _ => (pfg_tup rfl (pfgs_cons (pfg_name sc_runs_of.nd) (pfgs_cons (pfg_name sc_runs_of.nd) pfgs_nil)))) (fun _ _ _ _ _ => pfts_nil) (fun _ _ _ _ _ => (pf_tup (pfa_cons (pf_var 3) (pfa_cons (pf_bltTy c_tup h_tuple rfl (pfa_cons (pf_pure (pfn_blt (c_sorted rfl) h_sorted rfl (pfa_cons (pf_var 4) pfa_nil))) pfa_nil)) pfa_nil)))))) pfa_nil))))))
theorem sc__law_renamed : FnScope ["book", "streams", "words", "names", "codes", "turned", "word", "kind", "gives", "stream", "item", "aspect", "value"] ["book", "streams"] (defScope (top 55)) := ⟨rfl, rfl, rfl, by decide +kernel, rfl, by decide +kernel, by decide +kernel⟩
theorem d__law_renamed {f : Addr} {fd : FuncData} (Fd : Fun K "_law_renamed" "_law_renamed" (top 55) f fd) (h_tuple : mg "tuple" = none) : Df P w K mg base 1 f fd ["book", "streams"] SF.m__law_renamed := by
  refine df_gc ?_
  refine df_mk (N := ["book", "streams", "words", "names", "codes", "turned", "word", "kind", "gives", "stream", "item", "aspect", "value"]) (ps := ["book", "streams"]) Fd sc__law_renamed fun cdv A fs s H hr hgd => ?_
  have hu := hr.units
  exact (pfss_cons (pfs_set (i := 2) sc__law_renamed.nd (pf_pure (pfn_disp (pfps_cons pf_str pf_str (pfps_cons pf_str pf_str (pfps_cons pf_str pf_str (pfps_cons pf_str pf_str (pfps_cons pf_str pf_str (pfps_cons pf_str pf_str (pfps_cons pf_str pf_str (pfps_cons pf_str pf_str pfps_nil))))))))))) (pfss_cons (pfs_set (i := 3) sc__law_renamed.nd (pf_pure (pfn_disp (pfps_cons pf_str pf_str (pfps_cons pf_str pf_str (pfps_cons pf_str pf_str (pfps_cons pf_str pf_str (pfps_cons pf_str pf_str (pfps_cons pf_str pf_str (pfps_cons pf_str pf_str (pfps_cons pf_str pf_str (pfps_cons pf_str pf_str pfps_nil)))))))))))) (pfss_cons (pfs_set (i := 4) sc__law_renamed.nd (pf_cell (pfn_lst pfa_nil))) (pfss_cons (pfs_for PassesOwn.never rfl (pfi_any (pf_ix hu (pf_var 0) pf_int)) (pfg_tup rfl (pfgs_cons (pfg_name sc__law_renamed.nd) (pfgs_cons (pfg_name sc__law_renamed.nd) (pfgs_cons (pfg_name sc__law_renamed.nd) pfgs_nil)))) (pfss_one (pfs_expr (pf_append (pf_var 4) (pfa_cons (pf_tup (pfa_cons (pf_ix hu (pf_var 2) (pf_var 6)) (pfa_cons (pf_ix hu (pf_var 3) (pf_var 7)) (pfa_cons (pf_bltTy c_tup h_tuple rfl (pfa_cons (pf_pure (pfn_lc (own := [("aspect", 11), ("value", 12)]) rfl sc__law_renamed.nd (pfi_any (pf_var 8)) (blkOk_by (N := ["book", "streams", "words", "names", "codes", "turned", "word", "kind", "gives", "stream", "item", "aspect", "value"]) (sc := defScope (top 55)) (by decide +kernel)) (fun _ _ _ _ _ => (pfg_tup rfl (pfgs_cons (pfg_name sc__law_renamed.nd) (pfgs_cons (pfg_name sc__law_renamed.nd) pfgs_nil)))) (fun _ _ _ _ _ => pfts_nil) (fun _ _ _ _ _ => (pf_tup (pfa_cons (pf_var 11) (pfa_cons (pf_ix hu (pf_var 3) (pf_var 12)) pfa_nil)))))) pfa_nil)) pfa_nil)))) pfa_nil))))) (pfss_cons (pfs_setLc (own := [("stream", 9)]) rfl sc__law_renamed.nd rfl rfl (sw_true rfl rfl rfl (by decide +kernel)) (pfi_any (pf_var 1)) (blkOk_by (N := ["book", "streams", "words", "names", "codes", "turned", "word", "kind", "gives", "stream", "item", "aspect", "value"]) (sc := defScope (top 55)) (by decide +kernel)) (fun _ _ _ _ _ => (pfg_name sc__law_renamed.nd)) (fun _ _ _ _ _ => pfts_nil) (fun _ _ _ _ _ => (pf_bltTy c_tup h_tuple rfl (pfa_cons (pf_pure (pfn_lc (own := [("item", 10)]) rfl sc__law_renamed.nd (pfi_any (pf_var 9)) (blkOk_by (by kernel_rfl)) (fun _ _ _ _ _ => (pfg_name sc__law_renamed.nd)) (fun _ _ _ _ _ => pfts_nil) (fun _ _ _ _ _ => (pf_get hu (pf_var 2) (pf_var 10) (pf_get hu (pf_var 3) (pf_var 10) (pf_var 10)))))) pfa_nil)))) (pfss_one (pfs_ret (pf_tup (pfa_cons (pf_tup (pfa_cons (pf_ix hu (pf_var 0) pf_int) (pfa_cons (pf_ix hu (pf_var 0) pf_int) (pfa_cons (pf_bltTy c_tup h_tuple rfl (pfa_cons (pf_rev (pf_var 4) (pf_un o_neg pf_int)) pfa_nil)) pfa_nil)))) (pfa_cons (pf_var 5) pfa_nil))))))))))
theorem sc__law_split : FnScope ["book", "streams", "found", "stream", "codes", "by", "word", "kind", "gives", "items", "item", "k"] ["book", "streams"] (defScope (top 56)) := ⟨rfl, rfl, rfl, by decide +kernel, rfl, by decide +kernel, by decide +kernel⟩
theorem d__law_split {f : Addr} {fd : FuncData} (Fd : Fun K "_law_split" "_law_split" (top 56) f fd) (h_range : mg "range" = none) (h_len : mg "len" = none) (h_str : mg "str" = none) (h_tuple : mg "tuple" = none) : Df P w K mg base 1 f fd ["book", "streams"] SF.m__law_split := by
  refine df_gc ?_
  refine df_mk (N := ["book", "streams", "found", "stream", "codes", "by", "word", "kind", "gives", "items", "item", "k"]) (ps := ["book", "streams"]) Fd sc__law_split fun cdv A fs s H hr hgd => ?_
  have hu := hr.units
  exact (pfss_cons (pfs_asg (pf_tup (pfa_cons (pf_cell (pfn_lst pfa_nil)) (pfa_cons (pf_cell pfn_dict0) pfa_nil))) (pfg_tup rfl (pfgs_cons (pfg_name sc__law_split.nd) (pfgs_cons (pfg_name sc__law_split.nd) pfgs_nil)))) (pfss_cons (pfs_for PassesOwn.never rfl (pfi_any (pf_ix hu (pf_var 0) pf_int)) (pfg_tup rfl (pfgs_cons (pfg_name sc__law_split.nd) (pfgs_cons (pfg_name sc__law_split.nd) (pfgs_cons (pfg_name sc__law_split.nd) pfgs_nil)))) (pfss_cons (pfs_store hu (pf_pure (pfn_lc (own := [("k", 11)]) rfl sc__law_split.nd (pfi_range1 h_range (pfa_cons (pf_blt c_len h_len rfl (pfa_cons (pf_var 8) pfa_nil)) pfa_nil)) (blkOk_by (N := ["book", "streams", "found", "stream", "codes", "by", "word", "kind", "gives", "items", "item", "k"]) (sc := defScope (top 56)) (by decide +kernel)) (fun _ _ _ _ _ => (pfg_name sc__law_split.nd)) (fun _ _ _ _ _ => pfts_nil) (fun _ _ _ _ _ => (pf_bin o_add (pf_bin o_add (pf_bltTy c_strT h_str rfl (pfa_cons (pf_bin o_add (pf_blt c_len h_len rfl (pfa_cons (pf_var 4) pfa_nil)) (pf_var 11)) pfa_nil)) pf_str) (pf_bltTy c_strT h_str rfl (pfa_cons (pf_var 11) pfa_nil)))))) (pf_var 5) (pf_var 6)) (pfss_one (pfs_expr (pf_extend (pf_var 4) (pfa_cons (pf_pure (pfn_lc (own := [("k", 11)]) rfl sc__law_split.nd (pfi_range1 h_range (pfa_cons (pf_blt c_len h_len rfl (pfa_cons (pf_var 8) pfa_nil)) pfa_nil)) (blkOk_by (N := ["book", "streams", "found", "stream", "codes", "by", "word", "kind", "gives", "items", "item", "k"]) (sc := defScope (top 56)) (by decide +kernel)) (fun _ _ _ _ _ => (pfg_name sc__law_split.nd)) (fun _ _ _ _ _ => pfts_nil) (fun _ _ _ _ _ => (pf_tup (pfa_cons (pf_ix hu (pf_ix hu (pf_var 5) (pf_var 6)) (pf_var 11)) (pfa_cons (pf_var 7) (pfa_cons (pf_tup (pfa_cons (pf_ix hu (pf_var 8) (pf_var 11)) pfa_nil)) pfa_nil))))))) pfa_nil)))))) (pfss_cons (pfs_set (i := 2) sc__law_split.nd (pf_cell (pfn_lst pfa_nil))) (pfss_cons (pfs_for PassesOwn.never rfl (pfi_any (pf_var 1)) (pfg_name sc__law_split.nd) (pfss_cons (pfs_set (i := 9) sc__law_split.nd (pf_cell (pfn_lst pfa_nil))) (pfss_cons (pfs_for PassesOwn.never rfl (pfi_any (pf_var 3)) (pfg_name sc__law_split.nd) (pfss_one (pfs_expr (pf_extend (pf_var 9) (pfa_cons (pf_get hu (pf_var 5) (pf_var 10) (pf_pure (pfn_lst (pfa_cons (pf_var 10) pfa_nil)))) pfa_nil))))) (pfss_one (pfs_expr (pf_append (pf_var 2) (pfa_cons (pf_bltTy c_tup h_tuple rfl (pfa_cons (pf_var 9) pfa_nil)) pfa_nil))))))) (pfss_one (pfs_ret (pf_tup (pfa_cons (pf_tup (pfa_cons (pf_ix hu (pf_var 0) pf_int) (pfa_cons (pf_ix hu (pf_var 0) pf_int) (pfa_cons (pf_bltTy c_tup h_tuple rfl (pfa_cons (pf_var 4) pfa_nil)) pfa_nil)))) (pfa_cons (pf_var 2) pfa_nil)))))))))
theorem sc__law_draw : FnScope ["state", "many", "at", "place", "left", "number"] ["state", "many"] (defScope (top 49)) := ⟨rfl, rfl, rfl, by decide +kernel, rfl, by decide +kernel, by decide +kernel⟩
theorem d__law_draw {f : Addr} {fd : FuncData} (Fd : Fun K "_law_draw" "_law_draw" (top 49) f fd) (h_int : mg "int" = none) (h_len : mg "len" = none) {f__law_mixed : Addr} {fd__law_mixed : FuncData} (G__law_mixed : Gd K mg "_law_mixed" (top 47) ["cell", "k"] f__law_mixed fd__law_mixed) (D__law_mixed : Df P w K mg base 1 f__law_mixed fd__law_mixed ["cell", "k"] SF.m__law_mixed) : Df P w K mg base 2 f fd ["state", "many"] SF.m__law_draw := by
  refine df_mk (N := ["state", "many", "at", "place", "left", "number"]) (ps := ["state", "many"]) Fd sc__law_draw fun cdv A fs s H hr hgd => ?_
  have hu := hr.units
  exact (pfss_cons (pfs_set (i := 2) sc__law_draw.nd (pf_ix hu (pf_var 0) pf_str)) (pfss_cons (pfs_store hu (pf_bin o_add (pf_var 2) pf_int) (pf_var 0) pf_str) (pfss_cons (pfs_set (i := 3) sc__law_draw.nd (pf_bin o_mod (pf_bltTy c_int h_int rfl (pfa_cons (pf_var 2) pfa_nil)) (pf_blt c_len h_len rfl (pfa_cons (pf_ix hu (pf_var 0) pf_str) pfa_nil)))) (pfss_cons (pfs_set (i := 4) sc__law_draw.nd (pf_ix hu (pf_ix hu (pf_var 0) pf_str) (pf_var 3))) (pfss_cons (pfs_if (pft_cmp o_gt (pf_var 4) pf_int) (pfss_cons (pfs_store hu (pf_bin o_fdiv (pf_var 4) (pf_var 1)) (pf_ix hu (pf_var 0) pf_str) (pf_var 3)) (pfss_one (pfs_ret (pf_bin o_mod (pf_bltTy c_int h_int rfl (pfa_cons (pf_var 4) pfa_nil)) (pf_var 1))))) pfss_nil) (pfss_cons (pfs_set (i := 5) sc__law_draw.nd (pf_call D__law_mixed (hr.mono (by decide)) hgd G__law_mixed.m G__law_mixed.kp G__law_mixed.b (pfa_cons (pf_call D__law_mixed (hr.mono (by decide)) hgd G__law_mixed.m G__law_mixed.kp G__law_mixed.b (pfa_cons (pf_ix hu (pf_ix hu (pf_var 0) pf_str) (pf_var 3)) (pfa_cons (pf_var 2) pfa_nil))) (pfa_cons (pf_bin o_add pf_int (pf_var 2)) pfa_nil)))) (pfss_one (pfs_ret (pf_bin o_mod (pf_bin o_fdiv (pf_bltTy c_int h_int rfl (pfa_cons (pf_bin o_add (pf_bin o_mul (pf_var 5) pf_int) (pf_call D__law_mixed (hr.mono (by decide)) hgd G__law_mixed.m G__law_mixed.kp G__law_mixed.b (pfa_cons (pf_var 5) (pfa_cons (pf_bin o_add pf_int (pf_var 2)) pfa_nil)))) pfa_nil)) pf_int) (pf_var 1))))))))))
theorem sc_is_word : FnScope ["thing", "sign"] ["thing"] (defScope (top 15)) := ⟨rfl, rfl, rfl, by decide +kernel, rfl, by decide +kernel, by decide +kernel⟩
theorem d_is_word {f : Addr} {fd : FuncData} (Fd : Fun K "is_word" "is_word" (top 15) f fd) (h_FIGURES : ∃ t, mg "FIGURES" = some (.str "0123456789" t)) (h_all : mg "all" = none) {f_is_short : Addr} {fd_is_short : FuncData} (G_is_short : Gd K mg "is_short" (top 13) ["thing"] f_is_short fd_is_short) (D_is_short : Df P w K mg base 1 f_is_short fd_is_short ["thing"] SF.m_is_short) : Df P w K mg base 2 f fd ["thing"] SF.m_is_word := by
  obtain ⟨_, h_FIGURES⟩ := h_FIGURES
  refine df_mk (N := ["thing", "sign"]) (ps := ["thing"]) Fd sc_is_word fun cdv A fs s H hr hgd => ?_
  have hu := hr.units
  exact (pfss_cons (pfs_if (pfw_pt (pfw_or (pft_not (pft_val (pf_call D_is_short (hr.mono (by decide)) hgd G_is_short.m G_is_short.kp G_is_short.b (pfa_cons (pf_var 0) pfa_nil)))) (pfw_or (pft_cmp (o_eq hu) (pf_ix hu (pf_var 0) pf_int) pf_str) (pfw_or1 (pft_cmp (o_eq hu) (pf_ix hu (pf_var 0) (pf_un o_neg pf_int)) pf_str))))) (pfss_one (pfs_ret pf_bl)) pfss_nil) (pfss_one (pfs_ret (pf_blt (c_all rfl) h_all rfl (pfa_cons (pf_pure (pfn_lc (own := [("sign", 1)]) rfl sc_is_word.nd (pfi_any (pf_var 0)) (blkOk_by (N := ["thing", "sign"]) (sc := defScope (top 15)) (by decide +kernel)) (fun _ _ _ _ _ => (pfg_name sc_is_word.nd)) (fun _ _ _ _ _ => pfts_nil) (fun _ _ _ _ _ => (pf_or (pf_cmp (o_in hu) (pf_var 1) (pf_globS h_FIGURES)) (pf_one (pf_cmp (o_eq hu) (pf_var 1) pf_str)))))) pfa_nil)))))
theorem sc_is_name : FnScope ["thing", "sign"] ["thing"] (defScope (top 14)) := ⟨rfl, rfl, rfl, by decide +kernel, rfl, by decide +kernel, by decide +kernel⟩
theorem d_is_name {f : Addr} {fd : FuncData} (Fd : Fun K "is_name" "is_name" (top 14) f fd) (h_LETTERS : ∃ t, mg "LETTERS" = some (.str "abcdefghijklmnopqrstuvwxyz" t)) (h_all : mg "all" = none) {f_is_short : Addr} {fd_is_short : FuncData} (G_is_short : Gd K mg "is_short" (top 13) ["thing"] f_is_short fd_is_short) (D_is_short : Df P w K mg base 1 f_is_short fd_is_short ["thing"] SF.m_is_short) : Df P w K mg base 2 f fd ["thing"] SF.m_is_name := by
  obtain ⟨_, h_LETTERS⟩ := h_LETTERS
  refine df_mk (N := ["thing", "sign"]) (ps := ["thing"]) Fd sc_is_name fun cdv A fs s H hr hgd => ?_
  have hu := hr.units
  exact (pfss_one (pfs_ret (pf_and (pf_call D_is_short (hr.mono (by decide)) hgd G_is_short.m G_is_short.kp G_is_short.b (pfa_cons (pf_var 0) pfa_nil)) (pf_one (pf_blt (c_all rfl) h_all rfl (pfa_cons (pf_pure (pfn_lc (own := [("sign", 1)]) rfl sc_is_name.nd (pfi_any (pf_var 0)) (blkOk_by (N := ["thing", "sign"]) (sc := defScope (top 14)) (by decide +kernel)) (fun _ _ _ _ _ => (pfg_name sc_is_name.nd)) (fun _ _ _ _ _ => pfts_nil) (fun _ _ _ _ _ => (pf_cmp (o_in hu) (pf_var 1) (pf_globS h_LETTERS))))) pfa_nil))))))
theorem sc_is_sign : FnScope ["item"] ["item"] (defScope (top 26)) := ⟨rfl, rfl, rfl, by decide +kernel, rfl, by decide +kernel, by decide +kernel⟩
theorem d_is_sign {f : Addr} {fd : FuncData} (Fd : Fun K "is_sign" "is_sign" (top 26) f fd) {f_is_letter : Addr} {fd_is_letter : FuncData} (G_is_letter : Gd K mg "is_letter" (top 25) ["item"] f_is_letter fd_is_letter) (D_is_letter : Df P w K mg base 1 f_is_letter fd_is_letter ["item"] SF.m_is_letter) : Df P w K mg base 2 f fd ["item"] SF.m_is_sign := by
  refine df_mk (N := ["item"]) (ps := ["item"]) Fd sc_is_sign fun cdv A fs s H hr hgd => ?_
  have hu := hr.units
  exact (pfss_one (pfs_ret (pf_or (pf_call D_is_letter (hr.mono (by decide)) hgd G_is_letter.m G_is_letter.kp G_is_letter.b (pfa_cons (pf_var 0) pfa_nil)) (pf_or (pf_cmp (o_eq hu) (pf_var 0) pf_str) (pf_one (pf_cmp (o_eq hu) (pf_var 0) pf_str))))))
theorem sc_pass_code : FnScope ["chains", "code", "_", "kind", "gives", "aspect", "value"] ["chains", "code"] (defScope (top 38)) := ⟨rfl, rfl, rfl, by decide +kernel, rfl, by decide +kernel, by decide +kernel⟩
theorem d_pass_code {f : Addr} {fd : FuncData} (Fd : Fun K "pass_code" "pass_code" (top 38) f fd) {f_behind : Addr} {fd_behind : FuncData} (G_behind : Gd K mg "behind" (top 36) ["chain", "kind", "value"] f_behind fd_behind) (D_behind : Df P w K mg base 1 f_behind fd_behind ["chain", "kind", "value"] SF.m_behind) : Df P w K mg base 2 f fd ["chains", "code"] SF.m_pass_code := by
  refine df_mk (N := ["chains", "code", "_", "kind", "gives", "aspect", "value"]) (ps := ["chains", "code"]) Fd sc_pass_code fun cdv A fs s H hr hgd => ?_
  have hu := hr.units
  exact (pfss_cons (pfs_asg (pf_var 1) (pfg_tup rfl (pfgs_cons (pfg_name sc_pass_code.nd) (pfgs_cons (pfg_name sc_pass_code.nd) (pfgs_cons (pfg_name sc_pass_code.nd) pfgs_nil))))) (pfss_one (pfs_for PassesOwn.never rfl (pfi_any (pf_var 4)) (pfg_tup rfl (pfgs_cons (pfg_name sc_pass_code.nd) (pfgs_cons (pfg_name sc_pass_code.nd) pfgs_nil))) (pfss_one (pfs_store hu (pf_call D_behind (hr.mono (by decide)) hgd G_behind.m G_behind.kp G_behind.b (pfa_cons (pf_ix hu (pf_var 0) (pf_var 5)) (pfa_cons (pf_var 3) (pfa_cons (pf_var 6) pfa_nil)))) (pf_var 0) (pf_var 5))))))
theorem sc_shown_at : FnScope ["book", "sign", "aspects", "shown", "_"] ["book", "sign"] (defScope (top 30)) := ⟨rfl, rfl, rfl, by decide +kernel, rfl, by decide +kernel, by decide +kernel⟩
theorem d_shown_at {f : Addr} {fd : FuncData} (Fd : Fun K "shown_at" "shown_at" (top 30) f fd) {f_is_letter : Addr} {fd_is_letter : FuncData} (G_is_letter : Gd K mg "is_letter" (top 25) ["item"] f_is_letter fd_is_letter) (D_is_letter : Df P w K mg base 1 f_is_letter fd_is_letter ["item"] SF.m_is_letter) : Df P w K mg base 2 f fd ["book", "sign"] SF.m_shown_at := by
  refine df_mk (N := ["book", "sign", "aspects", "shown", "_"]) (ps := ["book", "sign"]) Fd sc_shown_at fun cdv A fs s H hr hgd => ?_
  have hu := hr.units
  exact (pfss_cons (pfs_asg (pf_var 0) (pfg_tup rfl (pfgs_cons (pfg_name sc_shown_at.nd) (pfgs_cons (pfg_name sc_shown_at.nd) (pfgs_cons (pfg_name sc_shown_at.nd) pfgs_nil))))) (pfss_cons (pfs_if (pft_val (pf_call D_is_letter (hr.mono (by decide)) hgd G_is_letter.m G_is_letter.kp G_is_letter.b (pfa_cons (pf_var 1) pfa_nil))) (pfss_one (pfs_ret (pf_var 2))) pfss_nil) (pfss_cons (pfs_if (pft_cmp (o_eq hu) (pf_var 1) pf_str) (pfss_one (pfs_ret (pf_var 3))) pfss_nil) (pfss_one (pfs_ret (pf_tup pfa_nil))))))
theorem sc_least_apart : FnScope ["one", "other", "kinds", "singles", "twos", "terminal", "kind", "more", "pair"] ["one", "other"] (defScope (top 35)) := ⟨rfl, rfl, rfl, by decide +kernel, rfl, by decide +kernel, by decide +kernel⟩
theorem d_least_apart {f : Addr} {fd : FuncData} (Fd : Fun K "least_apart" "least_apart" (top 35) f fd) (h_sorted : mg "sorted" = none) {f_worth_among : Addr} {fd_worth_among : FuncData} (G_worth_among : Gd K mg "worth_among" (top 32) ["chain", "kinds"] f_worth_among fd_worth_among) (D_worth_among : Df P w K mg base 1 f_worth_among fd_worth_among ["chain", "kinds"] SF.m_worth_among) : Df P w K mg base 2 f fd ["one", "other"] SF.m_least_apart := by
  refine df_mk (N := ["one", "other", "kinds", "singles", "twos", "terminal", "kind", "more", "pair"]) (ps := ["one", "other"]) Fd sc_least_apart fun cdv A fs s H hr hgd => ?_
  have hu := hr.units
  exact (pfss_cons (pfs_set (i := 2) sc_least_apart.nd (pf_pure (pfn_sortX rfl h_sorted rfl (pfx_st (own := [("pair", 8)]) rfl sc_least_apart.nd (pfi_any (pf_bin o_add (pf_var 0) (pf_var 1))) (blkOk_by (N := ["one", "other", "kinds", "singles", "twos", "terminal", "kind", "more", "pair"]) (sc := defScope (top 35)) (by decide +kernel)) (fun _ _ _ _ _ => (pfg_name sc_least_apart.nd)) (fun _ _ _ _ _ => pfts_nil) (fun _ _ _ _ _ => (pf_ix hu (pf_var 8) pf_int)))))) (pfss_cons (pfs_setLc (own := [("kind", 6)]) rfl sc_least_apart.nd rfl rfl (sw_true rfl rfl rfl (by decide +kernel)) (pfi_any (pf_var 2)) (blkOk_by (N := ["one", "other", "kinds", "singles", "twos", "terminal", "kind", "more", "pair"]) (sc := defScope (top 35)) (by decide +kernel)) (fun _ _ _ _ _ => (pfg_name sc_least_apart.nd)) (fun _ _ _ _ _ => pfts_nil) (fun _ _ _ _ _ => (pf_tup (pfa_cons (pf_var 6) pfa_nil)))) (pfss_cons (pfs_setLc2 (own := [("kind", 6), ("more", 7)]) (vs1 := [7]) rfl sc_least_apart.nd rfl rfl (sw_true rfl rfl rfl (by decide +kernel)) (pfi_any (pf_var 2)) (blkOk_by (N := ["one", "other", "kinds", "singles", "twos", "terminal", "kind", "more", "pair"]) (sc := defScope (top 35)) (by decide +kernel)) (by decide) (fun _ _ _ _ _ => (pfg_name sc_least_apart.nd)) (fun _ _ _ _ _ => pfts_nil) (fun _ _ _ _ _ => (pfi2_list (pf_var 2))) (fun _ _ _ _ _ => (pfg_name sc_least_apart.nd)) (fun _ _ _ _ _ => (pfts_one (pft_cmp o_lt (pf_var 6) (pf_var 7)))) (fun _ _ _ _ _ => (pf_tup (pfa_cons (pf_var 6) (pfa_cons (pf_var 7) pfa_nil))))) (pfss_cons (pfs_for PassesOwn.never rfl (pfi_any (pf_bin o_add (pf_var 3) (pf_var 4))) (pfg_name sc_least_apart.nd) (pfss_one (pfs_if (pft_cmp (o_ne hu) (pf_call D_worth_among (hr.mono (by decide)) hgd G_worth_among.m G_worth_among.kp G_worth_among.b (pfa_cons (pf_var 0) (pfa_cons (pf_var 5) pfa_nil))) (pf_call D_worth_among (hr.mono (by decide)) hgd G_worth_among.m G_worth_among.kp G_worth_among.b (pfa_cons (pf_var 1) (pfa_cons (pf_var 5) pfa_nil)))) (pfss_one (pfs_ret (pf_var 5))) pfss_nil))) (pfss_one (pfs_ret pf_non))))))
theorem sc_parting_entry : FnScope ["book", "one", "other", "terminal", "aspect"] ["book", "one", "other", "terminal"] (defScope (top 44)) := ⟨rfl, rfl, rfl, by decide +kernel, rfl, by decide +kernel, by decide +kernel⟩
theorem d_parting_entry {f : Addr} {fd : FuncData} (Fd : Fun K "parting_entry" "parting_entry" (top 44) f fd) {f_worth_among : Addr} {fd_worth_among : FuncData} (G_worth_among : Gd K mg "worth_among" (top 32) ["chain", "kinds"] f_worth_among fd_worth_among) (D_worth_among : Df P w K mg base 1 f_worth_among fd_worth_among ["chain", "kinds"] SF.m_worth_among) : Df P w K mg base 2 f fd ["book", "one", "other", "terminal"] SF.m_parting_entry_k09 := by
  refine df_mk (N := ["book", "one", "other", "terminal", "aspect"]) (ps := ["book", "one", "other", "terminal"]) Fd sc_parting_entry fun cdv A fs s H hr hgd => ?_
  have hu := hr.units
  exact (pfss_cons (pfs_if (pft_cmp (o_in hu) pf_str (pf_tup (pfa_cons (pf_call D_worth_among (hr.mono (by decide)) hgd G_worth_among.m G_worth_among.kp G_worth_among.b (pfa_cons (pf_var 1) (pfa_cons (pf_var 3) pfa_nil))) (pfa_cons (pf_call D_worth_among (hr.mono (by decide)) hgd G_worth_among.m G_worth_among.kp G_worth_among.b (pfa_cons (pf_var 2) (pfa_cons (pf_var 3) pfa_nil))) pfa_nil)))) (pfss_one (pfs_ret (pf_pure (pfn_dc (own := [("aspect", 4)]) rfl sc_parting_entry.nd (pfi_any (pf_ix hu (pf_var 0) pf_int)) (blkOk_by (N := ["book", "one", "other", "terminal", "aspect"]) (sc := defScope (top 44)) (by decide +kernel)) (fun _ _ _ _ _ => (pfg_name sc_parting_entry.nd)) (fun _ _ _ _ _ => pfts_nil) (fun _ _ _ _ _ => (pf_var 4)) (fun _ _ _ _ _ => pf_str))))) pfss_nil) (pfss_one (pfs_ret (pf_pure (pfn_dc (own := [("aspect", 4)]) rfl sc_parting_entry.nd (pfi_any (pf_ix hu (pf_var 0) pf_int)) (blkOk_by (N := ["book", "one", "other", "terminal", "aspect"]) (sc := defScope (top 44)) (by decide +kernel)) (fun _ _ _ _ _ => (pfg_name sc_parting_entry.nd)) (fun _ _ _ _ _ => pfts_nil) (fun _ _ _ _ _ => (pf_var 4)) (fun _ _ _ _ _ => pf_str))))))
theorem sc_have_one_form : FnScope ["one", "other"] ["one", "other"] (defScope (top 34)) := ⟨rfl, rfl, rfl, by decide +kernel, rfl, by decide +kernel, by decide +kernel⟩
theorem d_have_one_form {f : Addr} {fd : FuncData} (Fd : Fun K "have_one_form" "have_one_form" (top 34) f fd) {f_runs_of : Addr} {fd_runs_of : FuncData} (G_runs_of : Gd K mg "runs_of" (top 33) ["chain"] f_runs_of fd_runs_of) (D_runs_of : Df P w K mg base 1 f_runs_of fd_runs_of ["chain"] SF.m_runs_of) : Df P w K mg base 2 f fd ["one", "other"] SF.m_have_one_form := by
  refine df_mk (N := ["one", "other"]) (ps := ["one", "other"]) Fd sc_have_one_form fun cdv A fs s H hr hgd => ?_
  have hu := hr.units
  exact (pfss_one (pfs_ret (pf_or (pf_cmp (o_eq hu) (pf_var 0) (pf_var 1)) (pf_one (pf_cmp (o_eq hu) (pf_call D_runs_of (hr.mono (by decide)) hgd G_runs_of.m G_runs_of.kp G_runs_of.b (pfa_cons (pf_var 0) pfa_nil)) (pf_call D_runs_of (hr.mono (by decide)) hgd G_runs_of.m G_runs_of.kp G_runs_of.b (pfa_cons (pf_var 1) pfa_nil)))))))
theorem sc__law_value : FnScope ["state"] ["state"] (defScope (top 51)) := ⟨rfl, rfl, rfl, by decide +kernel, rfl, by decide +kernel, by decide +kernel⟩
theorem d__law_value {f : Addr} {fd : FuncData} (Fd : Fun K "_law_value" "_law_value" (top 51) f fd) {f__law_draw : Addr} {fd__law_draw : FuncData} (G__law_draw : Gd K mg "_law_draw" (top 49) ["state", "many"] f__law_draw fd__law_draw) (D__law_draw : Df P w K mg base 2 f__law_draw fd__law_draw ["state", "many"] SF.m__law_draw) : Df P w K mg base 3 f fd ["state"] SF.m__law_value := by
  refine df_mk (N := ["state"]) (ps := ["state"]) Fd sc__law_value fun cdv A fs s H hr hgd => ?_
  have hu := hr.units
  exact (pfss_one (pfs_ret (pf_ix hu (pf_pure (pfn_lst (pfa_cons pf_str (pfa_cons pf_str (pfa_cons pf_str (pfa_cons pf_str pfa_nil)))))) (pf_call D__law_draw (hr.mono (by decide)) hgd G__law_draw.m G__law_draw.kp G__law_draw.b (pfa_cons (pf_var 0) (pfa_cons pf_int pfa_nil))))))
theorem sc__law_stream : FnScope ["state", "book", "most", "k", "words", "found", "code"] ["state", "book", "most"] (defScope (top 52)) := ⟨rfl, rfl, rfl, by decide +kernel, rfl, by decide +kernel, by decide +kernel⟩
theorem d__law_stream {f : Addr} {fd : FuncData} (Fd : Fun K "_law_stream" "_law_stream" (top 52) f fd) (h_range : mg "range" = none) (h_len : mg "len" = none) (h_tuple : mg "tuple" = none) {f__law_draw : Addr} {fd__law_draw : FuncData} (G__law_draw : Gd K mg "_law_draw" (top 49) ["state", "many"] f__law_draw fd__law_draw) (D__law_draw : Df P w K mg base 2 f__law_draw fd__law_draw ["state", "many"] SF.m__law_draw) : Df P w K mg base 3 f fd ["state", "book", "most"] SF.m__law_stream := by
  refine df_gc ?_
  refine df_mk (N := ["state", "book", "most", "k", "words", "found", "code"]) (ps := ["state", "book", "most"]) Fd sc__law_stream fun cdv A fs s H hr hgd => ?_
  have hu := hr.units
  exact (pfss_cons (pfs_par (i := 4) (j := 5) rfl sc__law_stream.nd (pfa_cons (pf_pure (pfn_lc (own := [("code", 6)]) rfl sc__law_stream.nd (pfi_any (pf_ix hu (pf_var 1) pf_int)) (blkOk_by (N := ["state", "book", "most", "k", "words", "found", "code"]) (sc := defScope (top 52)) (by decide +kernel)) (fun _ _ _ _ _ => (pfg_name sc__law_stream.nd)) (fun _ _ _ _ _ => pfts_nil) (fun _ _ _ _ _ => (pf_ix hu (pf_var 6) pf_int)))) (pfa_cons (pf_cell (pfn_lst pfa_nil)) pfa_nil))) (pfss_cons (pfs_for PassesOwn.never rfl (pfi_range1 h_range (pfa_cons (pf_call D__law_draw (hr.mono (by decide)) hgd G__law_draw.m G__law_draw.kp G__law_draw.b (pfa_cons (pf_var 0) (pfa_cons (pf_bin o_add (pf_var 2) pf_int) pfa_nil))) pfa_nil)) (pfg_name sc__law_stream.nd) (pfss_one (pfs_if (pft_cmp o_gt (pf_call D__law_draw (hr.mono (by decide)) hgd G__law_draw.m G__law_draw.kp G__law_draw.b (pfa_cons (pf_var 0) (pfa_cons pf_int pfa_nil))) pf_int) (pfss_one (pfs_expr (pf_append (pf_var 5) (pfa_cons (pf_ix hu (pf_var 4) (pf_call D__law_draw (hr.mono (by decide)) hgd G__law_draw.m G__law_draw.kp G__law_draw.b (pfa_cons (pf_var 0) (pfa_cons (pf_blt c_len h_len rfl (pfa_cons (pf_var 4) pfa_nil)) pfa_nil)))) pfa_nil)))) (pfss_one (pfs_expr (pf_append (pf_var 5) (pfa_cons (pf_ix hu (pf_pure (pfn_lst (pfa_cons pf_str (pfa_cons pf_str (pfa_cons pf_str (pfa_cons pf_str (pfa_cons pf_str (pfa_cons pf_str pfa_nil)))))))) (pf_call D__law_draw (hr.mono (by decide)) hgd G__law_draw.m G__law_draw.kp G__law_draw.b (pfa_cons (pf_var 0) (pfa_cons pf_int pfa_nil)))) pfa_nil))))))) (pfss_one (pfs_ret (pf_bltTy c_tup h_tuple rfl (pfa_cons (pf_var 5) pfa_nil))))))
theorem sc__law_near : FnScope ["state", "book", "stream", "some", "to", "words", "found", "at", "way", "code", "k", "item", "other"] ["state", "book", "stream"] (defScope (top 53)) := ⟨rfl, rfl, rfl, by decide +kernel, rfl, by decide +kernel, by decide +kernel⟩
theorem d__law_near {f : Addr} {fd : FuncData} (Fd : Fun K "_law_near" "_law_near" (top 53) f fd) (h_list : mg "list" = none) (h_enumerate : mg "enumerate" = none) (h_len : mg "len" = none) (h_tuple : mg "tuple" = none) (h_max : mg "max" = none) {f__law_draw : Addr} {fd__law_draw : FuncData} (G__law_draw : Gd K mg "_law_draw" (top 49) ["state", "many"] f__law_draw fd__law_draw) (D__law_draw : Df P w K mg base 2 f__law_draw fd__law_draw ["state", "many"] SF.m__law_draw) : Df P w K mg base 3 f fd ["state", "book", "stream"] SF.m__law_near := by
  refine df_gc ?_
  refine df_mk (N := ["state", "book", "stream", "some", "to", "words", "found", "at", "way", "code", "k", "item", "other"]) (ps := ["state", "book", "stream"]) Fd sc__law_near fun cdv A fs s H hr hgd => ?_
  have hu := hr.units
  exact (pfss_cons (pfs_asg (pf_tup (pfa_cons (pf_pure (pfn_lc (own := [("code", 9)]) rfl sc__law_near.nd (pfi_any (pf_ix hu (pf_var 1) pf_int)) (blkOk_by (N := ["state", "book", "stream", "some", "to", "words", "found", "at", "way", "code", "k", "item", "other"]) (sc := defScope (top 53)) (by decide +kernel)) (fun _ _ _ _ _ => (pfg_name sc__law_near.nd)) (fun _ _ _ _ _ => pfts_nil) (fun _ _ _ _ _ => (pf_ix hu (pf_var 9) pf_int)))) (pfa_cons (pf_cell (pfn_bltTy (c_list rfl) h_list rfl (pfa_cons (pf_var 2) pfa_nil))) pfa_nil))) (pfg_tup rfl (pfgs_cons (pfg_name sc__law_near.nd) (pfgs_cons (pfg_name sc__law_near.nd) pfgs_nil)))) (pfss_cons (pfs_setLcK (own := [("k", 10), ("item", 11)]) rfl sc__law_near.nd rfl rfl (sw_true rfl rfl rfl (by decide +kernel)) (pfi_enumC (pfa_cons (pf_var 6) pfa_nil) h_enumerate) (blkOk_by (N := ["state", "book", "stream", "some", "to", "words", "found", "at", "way", "code", "k", "item", "other"]) (sc := defScope (top 53)) (by decide +kernel)) (fun _ _ _ _ _ => (pfg_tup rfl (pfgs_cons (pfg_name sc__law_near.nd) (pfgs_cons (pfg_name sc__law_near.nd) pfgs_nil)))) (fun _ _ _ _ _ => (pfts_one (pft_cmp (o_in hu) (pf_var 11) (pf_var 5)))) (fun _ _ _ _ _ => (pf_var 10))) (pfss_cons (pfs_par (i := 7) (j := 8) rfl sc__law_near.nd (pfa_cons (pf_call D__law_draw (hr.mono (by decide)) hgd G__law_draw.m G__law_draw.kp G__law_draw.b (pfa_cons (pf_var 0) (pfa_cons (pf_bin o_add (pf_blt c_len h_len rfl (pfa_cons (pf_var 6) pfa_nil)) pf_int) pfa_nil))) (pfa_cons (pf_call D__law_draw (hr.mono (by decide)) hgd G__law_draw.m G__law_draw.kp G__law_draw.b (pfa_cons (pf_var 0) (pfa_cons pf_int pfa_nil))) pfa_nil))) (pfss_cons (pfs_if (pfw_pt (pfw_or (pft_cmp (o_eq hu) (pf_var 3) (pf_pure (pfn_lst pfa_nil))) (pfw_or1 (pft_cmp (o_eq hu) (pf_var 8) pf_int)))) (pfss_cons (pfs_expr (pf_insert (pf_var 6) (pfa_cons (pf_var 7) (pfa_cons (pf_ix hu (pf_var 5) (pf_call D__law_draw (hr.mono (by decide)) hgd G__law_draw.m G__law_draw.kp G__law_draw.b (pfa_cons (pf_var 0) (pfa_cons (pf_blt c_len h_len rfl (pfa_cons (pf_var 5) pfa_nil)) pfa_nil)))) pfa_nil)))) (pfss_one (pfs_ret (pf_bltTy c_tup h_tuple rfl (pfa_cons (pf_var 6) pfa_nil))))) pfss_nil) (pfss_cons (pfs_set (i := 4) sc__law_near.nd (pf_ix hu (pf_var 3) (pf_call D__law_draw (hr.mono (by decide)) hgd G__law_draw.m G__law_draw.kp G__law_draw.b (pfa_cons (pf_var 0) (pfa_cons (pf_blt c_len h_len rfl (pfa_cons (pf_var 3) pfa_nil)) pfa_nil))))) (pfss_cons (pfs_if (pft_cmp (o_eq hu) (pf_var 8) pf_int) (pfss_one (pfs_expr (pf_pop (pf_var 6) (pfa_cons (pf_var 4) pfa_nil)))) (pfss_one (pfs_if (pft_cmp (o_eq hu) (pf_var 8) pf_int) (pfss_one (pfs_store hu (pf_ix hu (pf_var 5) (pf_call D__law_draw (hr.mono (by decide)) hgd G__law_draw.m G__law_draw.kp G__law_draw.b (pfa_cons (pf_var 0) (pfa_cons (pf_blt c_len h_len rfl (pfa_cons (pf_var 5) pfa_nil)) pfa_nil)))) (pf_var 6) (pf_var 4))) (pfss_one (pfs_if (pft_cmp (o_eq hu) (pf_var 8) pf_int) (pfss_one (pfs_expr (pf_insert (pf_var 6) (pfa_cons (pf_blt (c_max rfl) h_max rfl (pfa_cons pf_int (pfa_cons (pf_bin o_sub (pf_bin o_sub (pf_var 4) pf_int) (pf_call D__law_draw (hr.mono (by decide)) hgd G__law_draw.m G__law_draw.kp G__law_draw.b (pfa_cons (pf_var 0) (pfa_cons pf_int pfa_nil)))) pfa_nil))) (pfa_cons (pf_pop (pf_var 6) (pfa_cons (pf_var 4) pfa_nil)) pfa_nil))))) (pfss_cons (pfs_set (i := 12) sc__law_near.nd (pf_ix hu (pf_var 3) (pf_call D__law_draw (hr.mono (by decide)) hgd G__law_draw.m G__law_draw.kp G__law_draw.b (pfa_cons (pf_var 0) (pfa_cons (pf_blt c_len h_len rfl (pfa_cons (pf_var 3) pfa_nil)) pfa_nil))))) (pfss_one (pfs_swap rfl hu (pf_tup (pfa_cons (pf_ix hu (pf_var 6) (pf_var 12)) (pfa_cons (pf_ix hu (pf_var 6) (pf_var 4)) pfa_nil))) (pf_var 6) (pf_var 4) (pf_var 6) (pf_var 12))))))))) (pfss_one (pfs_ret (pf_bltTy c_tup h_tuple rfl (pfa_cons (pf_var 6) pfa_nil))))))))))
theorem sc_is_name_pair : FnScope ["thing"] ["thing"] (defScope (top 18)) := ⟨rfl, rfl, rfl, by decide +kernel, rfl, by decide +kernel, by decide +kernel⟩
theorem d_is_name_pair {f : Addr} {fd : FuncData} (Fd : Fun K "is_name_pair" "is_name_pair" (top 18) f fd) (h_isinstance : mg "isinstance" = none) (h_tuple : mg "tuple" = none) (h_len : mg "len" = none) {f_is_name : Addr} {fd_is_name : FuncData} (G_is_name : Gd K mg "is_name" (top 14) ["thing"] f_is_name fd_is_name) (D_is_name : Df P w K mg base 2 f_is_name fd_is_name ["thing"] SF.m_is_name) : Df P w K mg base 3 f fd ["thing"] SF.m_is_name_pair := by
  refine df_mk (N := ["thing"]) (ps := ["thing"]) Fd sc_is_name_pair fun cdv A fs s H hr hgd => ?_
  have hu := hr.units
  exact (pfss_one (pfs_ret (pf_and (pf_blt c_isi h_isinstance rfl (pfa_cons (pf_var 0) (pfa_cons (pf_ty h_tuple rfl) pfa_nil))) (pf_and (pf_cmp (o_eq hu) (pf_blt c_len h_len rfl (pfa_cons (pf_var 0) pfa_nil)) pf_int) (pf_and (pf_call D_is_name (hr.mono (by decide)) hgd G_is_name.m G_is_name.kp G_is_name.b (pfa_cons (pf_ix hu (pf_var 0) pf_int) pfa_nil)) (pf_one (pf_call D_is_name (hr.mono (by decide)) hgd G_is_name.m G_is_name.kp G_is_name.b (pfa_cons (pf_ix hu (pf_var 0) pf_int) pfa_nil))))))))
theorem sc_are_names : FnScope ["thing", "most", "part"] ["thing", "most"] (defScope (top 17)) := ⟨rfl, rfl, rfl, by decide +kernel, rfl, by decide +kernel, by decide +kernel⟩
theorem d_are_names {f : Addr} {fd : FuncData} (Fd : Fun K "are_names" "are_names" (top 17) f fd) (h_isinstance : mg "isinstance" = none) (h_tuple : mg "tuple" = none) (h_len : mg "len" = none) (h_all : mg "all" = none) {f_is_name : Addr} {fd_is_name : FuncData} (G_is_name : Gd K mg "is_name" (top 14) ["thing"] f_is_name fd_is_name) (D_is_name : Df P w K mg base 2 f_is_name fd_is_name ["thing"] SF.m_is_name) {f_ascend : Addr} {fd_ascend : FuncData} (G_ascend : Gd K mg "ascend" (top 16) ["names"] f_ascend fd_ascend) (D_ascend : Df P w K mg base 1 f_ascend fd_ascend ["names"] SF.m_ascend) : Df P w K mg base 3 f fd ["thing", "most"] SF.m_are_names := by
  refine df_mk (N := ["thing", "most", "part"]) (ps := ["thing", "most"]) Fd sc_are_names fun cdv A fs s H hr hgd => ?_
  have hu := hr.units
  exact (pfss_cons (pfs_if (pfw_pt (pfw_or (pft_not (pft_val (pf_blt c_isi h_isinstance rfl (pfa_cons (pf_var 0) (pfa_cons (pf_ty h_tuple rfl) pfa_nil))))) (pfw_or1 (pft_cmp o_gt (pf_blt c_len h_len rfl (pfa_cons (pf_var 0) pfa_nil)) (pf_var 1))))) (pfss_one (pfs_ret pf_bl)) pfss_nil) (pfss_one (pfs_ret (pf_and (pf_blt (c_all rfl) h_all rfl (pfa_cons (pf_pure (pfn_lc (own := [("part", 2)]) rfl sc_are_names.nd (pfi_any (pf_var 0)) (blkOk_by (N := ["thing", "most", "part"]) (sc := defScope (top 17)) (by decide +kernel)) (fun _ _ _ _ _ => (pfg_name sc_are_names.nd)) (fun _ _ _ _ _ => pfts_nil) (fun _ _ _ _ _ => (pf_call D_is_name (hr.mono (by decide)) hgd G_is_name.m G_is_name.kp G_is_name.b (pfa_cons (pf_var 2) pfa_nil))))) pfa_nil)) (pf_one (pf_call D_ascend (hr.mono (by decide)) hgd G_ascend.m G_ascend.kp G_ascend.b (pfa_cons (pf_var 0) pfa_nil)))))))
theorem sc_chains_shown : FnScope ["book", "stream", "codes", "chains", "rows", "item", "aspect"] ["book", "stream"] (defScope (top 39)) := ⟨rfl, rfl, rfl, by decide +kernel, rfl, by decide +kernel, by decide +kernel⟩
theorem d_chains_shown {f : Addr} {fd : FuncData} (Fd : Fun K "chains_shown" "chains_shown" (top 39) f fd) (h_tuple : mg "tuple" = none) {f_codes_by_word : Addr} {fd_codes_by_word : FuncData} (G_codes_by_word : Gd K mg "codes_by_word" (top 24) ["book"] f_codes_by_word fd_codes_by_word) (D_codes_by_word : Df P w K mg base 1 f_codes_by_word fd_codes_by_word ["book"] SF.m_codes_by_word) {f_no_chains : Addr} {fd_no_chains : FuncData} (G_no_chains : Gd K mg "no_chains" (top 37) ["book"] f_no_chains fd_no_chains) (D_no_chains : Df P w K mg base 1 f_no_chains fd_no_chains ["book"] SF.m_no_chains) {f_is_sign : Addr} {fd_is_sign : FuncData} (G_is_sign : Gd K mg "is_sign" (top 26) ["item"] f_is_sign fd_is_sign) (D_is_sign : Df P w K mg base 2 f_is_sign fd_is_sign ["item"] SF.m_is_sign) {f_shown_at : Addr} {fd_shown_at : FuncData} (G_shown_at : Gd K mg "shown_at" (top 30) ["book", "sign"] f_shown_at fd_shown_at) (D_shown_at : Df P w K mg base 2 f_shown_at fd_shown_at ["book", "sign"] SF.m_shown_at) {f_pass_code : Addr} {fd_pass_code : FuncData} (G_pass_code : Gd K mg "pass_code" (top 38) ["chains", "code"] f_pass_code fd_pass_code) (D_pass_code : Df P w K mg base 2 f_pass_code fd_pass_code ["chains", "code"] SF.m_pass_code) : Df P w K mg base 3 f fd ["book", "stream"] SF.m_chains_shown := by
  refine df_gc ?_
  refine df_mk (N := ["book", "stream", "codes", "chains", "rows", "item", "aspect"]) (ps := ["book", "stream"]) Fd sc_chains_shown fun cdv A fs s H hr hgd => ?_
  have hu := hr.units
  exact (pfss_cons (pfs_set (i := 2) sc_chains_shown.nd (pf_call D_codes_by_word (hr.mono (by decide)) hgd G_codes_by_word.m G_codes_by_word.kp G_codes_by_word.b (pfa_cons (pf_var 0) pfa_nil))) (pfss_cons (pfs_set (i := 3) sc_chains_shown.nd (pf_call D_no_chains (hr.mono (by decide)) hgd G_no_chains.m G_no_chains.kp G_no_chains.b (pfa_cons (pf_var 0) pfa_nil))) (pfss_cons (pfs_set (i := 4) sc_chains_shown.nd (pf_cell (pfn_lst pfa_nil))) (pfss_cons (pfs_for PassesOwn.never rfl (pfi_any (pf_var 1)) (pfg_name sc_chains_shown.nd) (pfss_one (pfs_if (pft_val (pf_call D_is_sign (hr.mono (by decide)) hgd G_is_sign.m G_is_sign.kp G_is_sign.b (pfa_cons (pf_var 5) pfa_nil))) (pfss_one (pfs_expr (pf_append (pf_var 4) (pfa_cons (pf_bltTy c_tup h_tuple rfl (pfa_cons (pf_pure (pfn_lc (own := [("aspect", 6)]) rfl sc_chains_shown.nd (pfi_any (pf_call D_shown_at (hr.mono (by decide)) hgd G_shown_at.m G_shown_at.kp G_shown_at.b (pfa_cons (pf_var 0) (pfa_cons (pf_var 5) pfa_nil)))) (blkOk_by (N := ["book", "stream", "codes", "chains", "rows", "item", "aspect"]) (sc := defScope (top 39)) (by decide +kernel)) (fun _ _ _ _ _ => (pfg_name sc_chains_shown.nd)) (fun _ _ _ _ _ => pfts_nil) (fun _ _ _ _ _ => (pf_ix hu (pf_var 3) (pf_var 6))))) pfa_nil)) pfa_nil)))) (pfss_one (pfs_expr (pf_call D_pass_code (hr.mono (by decide)) hgd G_pass_code.m G_pass_code.kp G_pass_code.b (pfa_cons (pf_var 3) (pfa_cons (pf_ix hu (pf_var 2) (pf_var 5)) pfa_nil)))))))) (pfss_one (pfs_ret (pf_var 4)))))))
theorem sc_look_alike : FnScope ["rows", "others", "row", "more", "one", "other"] ["rows", "others"] (defScope (top 42)) := ⟨rfl, rfl, rfl, by decide +kernel, rfl, by decide +kernel, by decide +kernel⟩
theorem d_look_alike {f : Addr} {fd : FuncData} (Fd : Fun K "look_alike" "look_alike" (top 42) f fd) (h_zip : mg "zip" = none) (h_all : mg "all" = none) {f_have_one_form : Addr} {fd_have_one_form : FuncData} (G_have_one_form : Gd K mg "have_one_form" (top 34) ["one", "other"] f_have_one_form fd_have_one_form) (D_have_one_form : Df P w K mg base 2 f_have_one_form fd_have_one_form ["one", "other"] SF.m_have_one_form) : Df P w K mg base 3 f fd ["rows", "others"] SF.m_look_alike := by
  refine df_mk (N := ["rows", "others", "row", "more", "one", "other"]) (ps := ["rows", "others"]) Fd sc_look_alike fun cdv A fs s H hr hgd => ?_
  have hu := hr.units
  exact (pfss_cons (pfs_for PassesOwn.never rfl (pfi_zip (pfa_cons (pf_var 0) (pfa_cons (pf_var 1) pfa_nil)) h_zip) (pfg_tup rfl (pfgs_cons (pfg_name sc_look_alike.nd) (pfgs_cons (pfg_name sc_look_alike.nd) pfgs_nil))) (pfss_one (pfs_if (pft_not (pft_val (pf_blt (c_all rfl) h_all rfl (pfa_cons (pf_pure (pfn_lc (own := [("one", 4), ("other", 5)]) rfl sc_look_alike.nd (pfi_zip (pfa_cons (pf_var 2) (pfa_cons (pf_var 3) pfa_nil)) h_zip) (blkOk_by (N := ["rows", "others", "row", "more", "one", "other"]) (sc := defScope (top 42)) (by decide +kernel)) (fun _ _ _ _ _ => (pfg_tup rfl (pfgs_cons (pfg_name sc_look_alike.nd) (pfgs_cons (pfg_name sc_look_alike.nd) pfgs_nil)))) (fun _ _ _ _ _ => pfts_nil) (fun _ _ _ _ _ => (pf_call D_have_one_form (hr.mono (by decide)) hgd G_have_one_form.m G_have_one_form.kp G_have_one_form.b (pfa_cons (pf_var 4) (pfa_cons (pf_var 5) pfa_nil)))))) pfa_nil)))) (pfss_one (pfs_ret pf_bl)) pfss_nil))) (pfss_one (pfs_ret pf_bl)))
theorem sc__law_book : FnScope ["state", "most", "aspects", "blank", "codes", "k", "gives", "word", "aspect"] ["state", "most"] (defScope (top 50)) := ⟨rfl, rfl, rfl, by decide +kernel, rfl, by decide +kernel, by decide +kernel⟩
theorem d__law_book {f : Addr} {fd : FuncData} (Fd : Fun K "_law_book" "_law_book" (top 50) f fd) (h_tuple : mg "tuple" = none) (h_range : mg "range" = none) {f__law_draw : Addr} {fd__law_draw : FuncData} (G__law_draw : Gd K mg "_law_draw" (top 49) ["state", "many"] f__law_draw fd__law_draw) (D__law_draw : Df P w K mg base 2 f__law_draw fd__law_draw ["state", "many"] SF.m__law_draw) {f__law_value : Addr} {fd__law_value : FuncData} (G__law_value : Gd K mg "_law_value" (top 51) ["state"] f__law_value fd__law_value) (D__law_value : Df P w K mg base 3 f__law_value fd__law_value ["state"] SF.m__law_value) : Df P w K mg base 4 f fd ["state", "most"] SF.m__law_book := by
  refine df_gc ?_
  refine df_mk (N := ["state", "most", "aspects", "blank", "codes", "k", "gives", "word", "aspect"]) (ps := ["state", "most"]) Fd sc__law_book fun cdv A fs s H hr hgd => ?_
  have hu := hr.units
  exact (pfss_cons (pfs_set (i := 2) sc__law_book.nd (pf_ix hu (pf_pure (pfn_lst (pfa_cons (pf_tup (pfa_cons pf_str pfa_nil)) (pfa_cons (pf_tup (pfa_cons pf_str (pfa_cons pf_str pfa_nil))) (pfa_cons (pf_tup (pfa_cons pf_str (pfa_cons pf_str (pfa_cons pf_str pfa_nil)))) (pfa_cons (pf_tup (pfa_cons pf_str (pfa_cons pf_str pfa_nil))) pfa_nil)))))) (pf_call D__law_draw (hr.mono (by decide)) hgd G__law_draw.m G__law_draw.kp G__law_draw.b (pfa_cons (pf_var 0) (pfa_cons pf_int pfa_nil))))) (pfss_cons (pfs_set (i := 3) sc__law_book.nd (pf_bltTy c_tup h_tuple rfl (pfa_cons (pf_pure (pfn_lc (own := [("aspect", 8)]) rfl sc__law_book.nd (pfi_any (pf_var 2)) (blkOk_by (N := ["state", "most", "aspects", "blank", "codes", "k", "gives", "word", "aspect"]) (sc := defScope (top 50)) (by decide +kernel)) (fun _ _ _ _ _ => (pfg_name sc__law_book.nd)) (fun _ _ _ _ _ => (pfts_one (pft_cmp (o_eq hu) (pf_call D__law_draw (hr.mono (by decide)) hgd G__law_draw.m G__law_draw.kp G__law_draw.b (pfa_cons (pf_var 0) (pfa_cons pf_int pfa_nil))) pf_int))) (fun _ _ _ _ _ => (pf_var 8)))) pfa_nil))) (pfss_cons (pfs_set (i := 4) sc__law_book.nd (pf_cell (pfn_lst pfa_nil))) (pfss_cons (pfs_for PassesOwn.never rfl (pfi_range1 h_range (pfa_cons (pf_bin o_add pf_int (pf_call D__law_draw (hr.mono (by decide)) hgd G__law_draw.m G__law_draw.kp G__law_draw.b (pfa_cons (pf_var 0) (pfa_cons (pf_var 1) pfa_nil)))) pfa_nil)) (pfg_name sc__law_book.nd) (pfss_cons (pfs_set (i := 6) sc__law_book.nd (pf_bltTy c_tup h_tuple rfl (pfa_cons (pf_pure (pfn_lc (own := [("aspect", 8)]) rfl sc__law_book.nd (pfi_any (pf_var 2)) (blkOk_by (N := ["state", "most", "aspects", "blank", "codes", "k", "gives", "word", "aspect"]) (sc := defScope (top 50)) (by decide +kernel)) (fun _ _ _ _ _ => (pfg_name sc__law_book.nd)) (fun _ _ _ _ _ => (pfts_one (pft_cmp (o_eq hu) (pf_call D__law_draw (hr.mono (by decide)) hgd G__law_draw.m G__law_draw.kp G__law_draw.b (pfa_cons (pf_var 0) (pfa_cons pf_int pfa_nil))) pf_int))) (fun _ _ _ _ _ => (pf_tup (pfa_cons (pf_var 8) (pfa_cons (pf_call D__law_value (hr.mono (by decide)) hgd G__law_value.m G__law_value.kp G__law_value.b (pfa_cons (pf_var 0) pfa_nil)) pfa_nil)))))) pfa_nil))) (pfss_cons (pfs_if (pft_cmp (o_eq hu) (pf_var 6) (pf_tup pfa_nil)) (pfss_one (pfs_set (i := 6) sc__law_book.nd (pf_tup (pfa_cons (pf_tup (pfa_cons (pf_ix hu (pf_var 2) pf_int) (pfa_cons (pf_call D__law_value (hr.mono (by decide)) hgd G__law_value.m G__law_value.kp G__law_value.b (pfa_cons (pf_var 0) pfa_nil)) pfa_nil))) pfa_nil)))) pfss_nil) (pfss_cons (pfs_set (i := 7) sc__law_book.nd (pf_ix hu (pf_pure (pfn_lst (pfa_cons pf_str (pfa_cons pf_str (pfa_cons pf_str (pfa_cons pf_str (pfa_cons pf_str (pfa_cons pf_str (pfa_cons pf_str (pfa_cons pf_str pfa_nil)))))))))) (pf_var 5))) (pfss_one (pfs_expr (pf_append (pf_var 4) (pfa_cons (pf_tup (pfa_cons (pf_var 7) (pfa_cons (pf_ix hu (pf_pure (pfn_lst (pfa_cons pf_str (pfa_cons pf_str (pfa_cons pf_str (pfa_cons pf_str pfa_nil)))))) (pf_call D__law_draw (hr.mono (by decide)) hgd G__law_draw.m G__law_draw.kp G__law_draw.b (pfa_cons (pf_var 0) (pfa_cons pf_int pfa_nil)))) (pfa_cons (pf_var 6) pfa_nil)))) pfa_nil)))))))) (pfss_one (pfs_ret (pf_tup (pfa_cons (pf_var 2) (pfa_cons (pf_var 3) (pfa_cons (pf_bltTy c_tup h_tuple rfl (pfa_cons (pf_var 4) pfa_nil)) pfa_nil))))))))))
theorem sc_are_gifts : FnScope ["thing", "pair"] ["thing"] (defScope (top 19)) := ⟨rfl, rfl, rfl, by decide +kernel, rfl, by decide +kernel, by decide +kernel⟩
theorem d_are_gifts {f : Addr} {fd : FuncData} (Fd : Fun K "are_gifts" "are_gifts" (top 19) f fd) (h_isinstance : mg "isinstance" = none) (h_tuple : mg "tuple" = none) (h_len : mg "len" = none) (h_all : mg "all" = none) {f_is_name_pair : Addr} {fd_is_name_pair : FuncData} (G_is_name_pair : Gd K mg "is_name_pair" (top 18) ["thing"] f_is_name_pair fd_is_name_pair) (D_is_name_pair : Df P w K mg base 3 f_is_name_pair fd_is_name_pair ["thing"] SF.m_is_name_pair) {f_ascend : Addr} {fd_ascend : FuncData} (G_ascend : Gd K mg "ascend" (top 16) ["names"] f_ascend fd_ascend) (D_ascend : Df P w K mg base 1 f_ascend fd_ascend ["names"] SF.m_ascend) : Df P w K mg base 4 f fd ["thing"] SF.m_are_gifts := by
  refine df_mk (N := ["thing", "pair"]) (ps := ["thing"]) Fd sc_are_gifts fun cdv A fs s H hr hgd => ?_
  have hu := hr.units
  exact (pfss_cons (pfs_if (pfw_pt (pfw_or (pft_not (pft_val (pf_blt c_isi h_isinstance rfl (pfa_cons (pf_var 0) (pfa_cons (pf_ty h_tuple rfl) pfa_nil))))) (pfw_or1 (pft_cmp (o_eq hu) (pf_blt c_len h_len rfl (pfa_cons (pf_var 0) pfa_nil)) pf_int)))) (pfss_one (pfs_ret pf_bl)) pfss_nil) (pfss_one (pfs_ret (pf_and (pf_blt (c_all rfl) h_all rfl (pfa_cons (pf_pure (pfn_lc (own := [("pair", 1)]) rfl sc_are_gifts.nd (pfi_any (pf_var 0)) (blkOk_by (N := ["thing", "pair"]) (sc := defScope (top 19)) (by decide +kernel)) (fun _ _ _ _ _ => (pfg_name sc_are_gifts.nd)) (fun _ _ _ _ _ => pfts_nil) (fun _ _ _ _ _ => (pf_call D_is_name_pair (hr.mono (by decide)) hgd G_is_name_pair.m G_is_name_pair.kp G_is_name_pair.b (pfa_cons (pf_var 1) pfa_nil))))) pfa_nil)) (pf_one (pf_call D_ascend (hr.mono (by decide)) hgd G_ascend.m G_ascend.kp G_ascend.b (pfa_cons (pf_pure (pfn_lc (own := [("pair", 1)]) rfl sc_are_gifts.nd (pfi_any (pf_var 0)) (blkOk_by (N := ["thing", "pair"]) (sc := defScope (top 19)) (by decide +kernel)) (fun _ _ _ _ _ => (pfg_name sc_are_gifts.nd)) (fun _ _ _ _ _ => pfts_nil) (fun _ _ _ _ _ => (pf_ix hu (pf_var 1) pf_int)))) pfa_nil)))))))
theorem sc_is_code : FnScope ["thing", "aspects", "word", "kind", "gives", "pair"] ["thing", "aspects"] (defScope (top 20)) := ⟨rfl, rfl, rfl, by decide +kernel, rfl, by decide +kernel, by decide +kernel⟩
theorem d_is_code {f : Addr} {fd : FuncData} (Fd : Fun K "is_code" "is_code" (top 20) f fd) (h_isinstance : mg "isinstance" = none) (h_tuple : mg "tuple" = none) (h_len : mg "len" = none) (h_all : mg "all" = none) {f_is_word : Addr} {fd_is_word : FuncData} (G_is_word : Gd K mg "is_word" (top 15) ["thing"] f_is_word fd_is_word) (D_is_word : Df P w K mg base 2 f_is_word fd_is_word ["thing"] SF.m_is_word) {f_is_name : Addr} {fd_is_name : FuncData} (G_is_name : Gd K mg "is_name" (top 14) ["thing"] f_is_name fd_is_name) (D_is_name : Df P w K mg base 2 f_is_name fd_is_name ["thing"] SF.m_is_name) {f_are_gifts : Addr} {fd_are_gifts : FuncData} (G_are_gifts : Gd K mg "are_gifts" (top 19) ["thing"] f_are_gifts fd_are_gifts) (D_are_gifts : Df P w K mg base 4 f_are_gifts fd_are_gifts ["thing"] SF.m_are_gifts) : Df P w K mg base 5 f fd ["thing", "aspects"] SF.m_is_code := by
  refine df_mk (N := ["thing", "aspects", "word", "kind", "gives", "pair"]) (ps := ["thing", "aspects"]) Fd sc_is_code fun cdv A fs s H hr hgd => ?_
  have hu := hr.units
  exact (pfss_cons (pfs_if (pfw_pt (pfw_or (pft_not (pft_val (pf_blt c_isi h_isinstance rfl (pfa_cons (pf_var 0) (pfa_cons (pf_ty h_tuple rfl) pfa_nil))))) (pfw_or1 (pft_cmp (o_ne hu) (pf_blt c_len h_len rfl (pfa_cons (pf_var 0) pfa_nil)) pf_int)))) (pfss_one (pfs_ret pf_bl)) pfss_nil) (pfss_cons (pfs_asg (pf_var 0) (pfg_tup rfl (pfgs_cons (pfg_name sc_is_code.nd) (pfgs_cons (pfg_name sc_is_code.nd) (pfgs_cons (pfg_name sc_is_code.nd) pfgs_nil))))) (pfss_cons (pfs_if (pfw_pt (pfw_or (pft_not (pft_val (pf_call D_is_word (hr.mono (by decide)) hgd G_is_word.m G_is_word.kp G_is_word.b (pfa_cons (pf_var 2) pfa_nil)))) (pfw_or (pft_not (pft_val (pf_call D_is_name (hr.mono (by decide)) hgd G_is_name.m G_is_name.kp G_is_name.b (pfa_cons (pf_var 3) pfa_nil)))) (pfw_or1 (pft_not (pft_val (pf_call D_are_gifts (hr.mono (by decide)) hgd G_are_gifts.m G_are_gifts.kp G_are_gifts.b (pfa_cons (pf_var 4) pfa_nil)))))))) (pfss_one (pfs_ret pf_bl)) pfss_nil) (pfss_one (pfs_ret (pf_blt (c_all rfl) h_all rfl (pfa_cons (pf_pure (pfn_lc (own := [("pair", 5)]) rfl sc_is_code.nd (pfi_any (pf_var 4)) (blkOk_by (N := ["thing", "aspects", "word", "kind", "gives", "pair"]) (sc := defScope (top 20)) (by decide +kernel)) (fun _ _ _ _ _ => (pfg_name sc_is_code.nd)) (fun _ _ _ _ _ => pfts_nil) (fun _ _ _ _ _ => (pf_cmp (o_in hu) (pf_ix hu (pf_var 5) pf_int) (pf_var 1))))) pfa_nil)))))))
theorem sc_need_codes : FnScope ["aspects", "codes", "words", "kinds", "number", "code"] ["aspects", "codes"] (defScope (top 21)) := ⟨rfl, rfl, rfl, by decide +kernel, rfl, by decide +kernel, by decide +kernel⟩
theorem d_need_codes {f : Addr} {fd : FuncData} (Fd : Fun K "need_codes" "need_codes" (top 21) f fd) (h_MOST_KINDS : ∃ t, mg "MOST_KINDS" = some (.int 6 t)) (h_enumerate : mg "enumerate" = none) (h_len : mg "len" = none) {f_is_code : Addr} {fd_is_code : FuncData} (G_is_code : Gd K mg "is_code" (top 20) ["thing", "aspects"] f_is_code fd_is_code) (D_is_code : Df P w K mg base 5 f_is_code fd_is_code ["thing", "aspects"] SF.m_is_code) : Df P w K mg base 6 f fd ["aspects", "codes"] SF.m_need_codes := by
  obtain ⟨_, h_MOST_KINDS⟩ := h_MOST_KINDS
  refine df_gc ?_
  refine df_mk (N := ["aspects", "codes", "words", "kinds", "number", "code"]) (ps := ["aspects", "codes"]) Fd sc_need_codes fun cdv A fs s H hr hgd => ?_
  have hu := hr.units
  exact (pfss_cons (pfs_set (i := 2) sc_need_codes.nd (pf_cell (pfn_lst pfa_nil))) (pfss_cons (pfs_set (i := 3) sc_need_codes.nd (pf_cell (pfn_lst pfa_nil))) (pfss_one (pfs_for PassesOwn.never rfl (pfi_enumA (pfa_cons (pf_var 1) pfa_nil) h_enumerate) (pfg_tup rfl (pfgs_cons (pfg_name sc_need_codes.nd) (pfgs_cons (pfg_name sc_need_codes.nd) pfgs_nil))) (pfss_cons (pfs_if (pfw_pt (pfw_or (pft_not (pft_val (pf_call D_is_code (hr.mono (by decide)) hgd G_is_code.m G_is_code.kp G_is_code.b (pfa_cons (pf_var 5) (pfa_cons (pf_var 0) pfa_nil))))) (pfw_or1 (pft_cmp (o_in hu) (pf_ix hu (pf_var 5) pf_int) (pf_var 2))))) (pfss_one pfs_never) pfss_nil) (pfss_cons (pfs_expr (pf_append (pf_var 2) (pfa_cons (pf_ix hu (pf_var 5) pf_int) pfa_nil))) (pfss_cons (pfs_if (pft_cmp (o_nin hu) (pf_ix hu (pf_var 5) pf_int) (pf_var 3)) (pfss_one (pfs_expr (pf_append (pf_var 3) (pfa_cons (pf_ix hu (pf_var 5) pf_int) pfa_nil)))) pfss_nil) (pfss_one (pfs_if (pft_cmp o_gt (pf_blt c_len h_len rfl (pfa_cons (pf_var 3) pfa_nil)) (pf_globI h_MOST_KINDS)) (pfss_one pfs_never) pfss_nil)))))))))
theorem sc_need_book : FnScope ["thing", "aspects", "shown", "codes", "name"] ["thing"] (defScope (top 22)) := ⟨rfl, rfl, rfl, by decide +kernel, rfl, by decide +kernel, by decide +kernel⟩
theorem d_need_book {f : Addr} {fd : FuncData} (Fd : Fun K "need_book" "need_book" (top 22) f fd) (h_MOST_ASPECTS : ∃ t, mg "MOST_ASPECTS" = some (.int 6 t)) (h_MOST_CODES : ∃ t, mg "MOST_CODES" = some (.int 16 t)) (h_isinstance : mg "isinstance" = none) (h_tuple : mg "tuple" = none) (h_len : mg "len" = none) (h_all : mg "all" = none) {f_are_names : Addr} {fd_are_names : FuncData} (G_are_names : Gd K mg "are_names" (top 17) ["thing", "most"] f_are_names fd_are_names) (D_are_names : Df P w K mg base 3 f_are_names fd_are_names ["thing", "most"] SF.m_are_names) {f_need_codes : Addr} {fd_need_codes : FuncData} (G_need_codes : Gd K mg "need_codes" (top 21) ["aspects", "codes"] f_need_codes fd_need_codes) (D_need_codes : Df P w K mg base 6 f_need_codes fd_need_codes ["aspects", "codes"] SF.m_need_codes) : Df P w K mg base 7 f fd ["thing"] SF.m_need_book := by
  obtain ⟨_, h_MOST_ASPECTS⟩ := h_MOST_ASPECTS
  obtain ⟨_, h_MOST_CODES⟩ := h_MOST_CODES
  refine df_mk (N := ["thing", "aspects", "shown", "codes", "name"]) (ps := ["thing"]) Fd sc_need_book fun cdv A fs s H hr hgd => ?_
  have hu := hr.units
  exact (pfss_cons (pfs_if (pfw_pt (pfw_or (pft_not (pft_val (pf_blt c_isi h_isinstance rfl (pfa_cons (pf_var 0) (pfa_cons (pf_ty h_tuple rfl) pfa_nil))))) (pfw_or1 (pft_cmp (o_ne hu) (pf_blt c_len h_len rfl (pfa_cons (pf_var 0) pfa_nil)) pf_int)))) (pfss_one pfs_never) pfss_nil) (pfss_cons (pfs_asg (pf_var 0) (pfg_tup rfl (pfgs_cons (pfg_name sc_need_book.nd) (pfgs_cons (pfg_name sc_need_book.nd) (pfgs_cons (pfg_name sc_need_book.nd) pfgs_nil))))) (pfss_cons (pfs_if (pfw_pt (pfw_or (pft_not (pft_val (pf_call D_are_names (hr.mono (by decide)) hgd G_are_names.m G_are_names.kp G_are_names.b (pfa_cons (pf_var 1) (pfa_cons (pf_globI h_MOST_ASPECTS) pfa_nil))))) (pfw_or1 (pft_cmp (o_eq hu) (pf_blt c_len h_len rfl (pfa_cons (pf_var 1) pfa_nil)) pf_int)))) (pfss_one pfs_never) pfss_nil) (pfss_cons (pfs_if (pfw_pt (pfw_or (pft_not (pft_val (pf_call D_are_names (hr.mono (by decide)) hgd G_are_names.m G_are_names.kp G_are_names.b (pfa_cons (pf_var 2) (pfa_cons (pf_globI h_MOST_ASPECTS) pfa_nil))))) (pfw_or1 (pft_not (pft_val (pf_blt (c_all rfl) h_all rfl (pfa_cons (pf_pure (pfn_lc (own := [("name", 4)]) rfl sc_need_book.nd (pfi_any (pf_var 2)) (blkOk_by (N := ["thing", "aspects", "shown", "codes", "name"]) (sc := defScope (top 22)) (by decide +kernel)) (fun _ _ _ _ _ => (pfg_name sc_need_book.nd)) (fun _ _ _ _ _ => pfts_nil) (fun _ _ _ _ _ => (pf_cmp (o_in hu) (pf_var 4) (pf_var 1))))) pfa_nil))))))) (pfss_one pfs_never) pfss_nil) (pfss_cons (pfs_if (pfw_pt (pfw_or (pft_not (pft_val (pf_blt c_isi h_isinstance rfl (pfa_cons (pf_var 3) (pfa_cons (pf_ty h_tuple rfl) pfa_nil))))) (pfw_or1 (pft_cmp o_gt (pf_blt c_len h_len rfl (pfa_cons (pf_var 3) pfa_nil)) (pf_globI h_MOST_CODES))))) (pfss_one pfs_never) pfss_nil) (pfss_cons (pfs_expr (pf_call D_need_codes (hr.mono (by decide)) hgd G_need_codes.m G_need_codes.kp G_need_codes.b (pfa_cons (pf_var 1) (pfa_cons (pf_var 3) pfa_nil)))) (pfss_one (pfs_ret (pf_var 0)))))))))
theorem sc_need_stream : FnScope ["book", "thing", "words", "number", "item"] ["book", "thing"] (defScope (top 27)) := ⟨rfl, rfl, rfl, by decide +kernel, rfl, by decide +kernel, by decide +kernel⟩
theorem d_need_stream {f : Addr} {fd : FuncData} (Fd : Fun K "need_stream" "need_stream" (top 27) f fd) (h_MOST_ITEMS : ∃ t, mg "MOST_ITEMS" = some (.int 200 t)) (h_isinstance : mg "isinstance" = none) (h_tuple : mg "tuple" = none) (h_len : mg "len" = none) (h_enumerate : mg "enumerate" = none) (h_str : mg "str" = none) {f_need_book : Addr} {fd_need_book : FuncData} (G_need_book : Gd K mg "need_book" (top 22) ["thing"] f_need_book fd_need_book) (D_need_book : Df P w K mg base 7 f_need_book fd_need_book ["thing"] SF.m_need_book) {f_words_of : Addr} {fd_words_of : FuncData} (G_words_of : Gd K mg "words_of" (top 23) ["book"] f_words_of fd_words_of) (D_words_of : Df P w K mg base 1 f_words_of fd_words_of ["book"] SF.m_words_of) {f_is_sign : Addr} {fd_is_sign : FuncData} (G_is_sign : Gd K mg "is_sign" (top 26) ["item"] f_is_sign fd_is_sign) (D_is_sign : Df P w K mg base 2 f_is_sign fd_is_sign ["item"] SF.m_is_sign) : Df P w K mg base 8 f fd ["book", "thing"] SF.m_need_stream := by
  obtain ⟨_, h_MOST_ITEMS⟩ := h_MOST_ITEMS
  refine df_mk (N := ["book", "thing", "words", "number", "item"]) (ps := ["book", "thing"]) Fd sc_need_stream fun cdv A fs s H hr hgd => ?_
  have hu := hr.units
  exact (pfss_cons (pfs_expr (pf_call D_need_book (hr.mono (by decide)) hgd G_need_book.m G_need_book.kp G_need_book.b (pfa_cons (pf_var 0) pfa_nil))) (pfss_cons (pfs_if (pfw_pt (pfw_or (pft_not (pft_val (pf_blt c_isi h_isinstance rfl (pfa_cons (pf_var 1) (pfa_cons (pf_ty h_tuple rfl) pfa_nil))))) (pfw_or1 (pft_cmp o_gt (pf_blt c_len h_len rfl (pfa_cons (pf_var 1) pfa_nil)) (pf_globI h_MOST_ITEMS))))) (pfss_one pfs_never) pfss_nil) (pfss_cons (pfs_set (i := 2) sc_need_stream.nd (pf_call D_words_of (hr.mono (by decide)) hgd G_words_of.m G_words_of.kp G_words_of.b (pfa_cons (pf_var 0) pfa_nil))) (pfss_cons (pfs_for PassesOwn.never rfl (pfi_enumA (pfa_cons (pf_var 1) pfa_nil) h_enumerate) (pfg_tup rfl (pfgs_cons (pfg_name sc_need_stream.nd) (pfgs_cons (pfg_name sc_need_stream.nd) pfgs_nil))) (pfss_one (pfs_if (pfw_pt (pfw_or (pft_not (pft_val (pf_blt c_isi h_isinstance rfl (pfa_cons (pf_var 4) (pfa_cons (pf_ty h_str rfl) pfa_nil))))) (pfw_or1 (pft_not (pfw_pt (pfw_or (pft_val (pf_call D_is_sign (hr.mono (by decide)) hgd G_is_sign.m G_is_sign.kp G_is_sign.b (pfa_cons (pf_var 4) pfa_nil))) (pfw_or1 (pft_cmp (o_in hu) (pf_var 4) (pf_var 2))))))))) (pfss_one pfs_never) pfss_nil))) (pfss_one (pfs_ret (pf_var 1)))))))
theorem sc_signs_of : FnScope ["book", "stream", "item"] ["book", "stream"] (defScope (top 28)) := ⟨rfl, rfl, rfl, by decide +kernel, rfl, by decide +kernel, by decide +kernel⟩
theorem d_signs_of {f : Addr} {fd : FuncData} (Fd : Fun K "signs_of" "signs_of" (top 28) f fd) (h_tuple : mg "tuple" = none) {f_need_stream : Addr} {fd_need_stream : FuncData} (G_need_stream : Gd K mg "need_stream" (top 27) ["book", "thing"] f_need_stream fd_need_stream) (D_need_stream : Df P w K mg base 8 f_need_stream fd_need_stream ["book", "thing"] SF.m_need_stream) {f_is_sign : Addr} {fd_is_sign : FuncData} (G_is_sign : Gd K mg "is_sign" (top 26) ["item"] f_is_sign fd_is_sign) (D_is_sign : Df P w K mg base 2 f_is_sign fd_is_sign ["item"] SF.m_is_sign) : Df P w K mg base 9 f fd ["book", "stream"] SF.m_signs_of := by
  refine df_mk (N := ["book", "stream", "item"]) (ps := ["book", "stream"]) Fd sc_signs_of fun cdv A fs s H hr hgd => ?_
  have hu := hr.units
  exact (pfss_cons (pfs_expr (pf_call D_need_stream (hr.mono (by decide)) hgd G_need_stream.m G_need_stream.kp G_need_stream.b (pfa_cons (pf_var 0) (pfa_cons (pf_var 1) pfa_nil)))) (pfss_one (pfs_ret (pf_bltTy c_tup h_tuple rfl (pfa_cons (pf_pure (pfn_lc (own := [("item", 2)]) rfl sc_signs_of.nd (pfi_any (pf_var 1)) (blkOk_by (N := ["book", "stream", "item"]) (sc := defScope (top 28)) (by decide +kernel)) (fun _ _ _ _ _ => (pfg_name sc_signs_of.nd)) (fun _ _ _ _ _ => (pfts_one (pft_val (pf_call D_is_sign (hr.mono (by decide)) hgd G_is_sign.m G_is_sign.kp G_is_sign.b (pfa_cons (pf_var 2) pfa_nil))))) (fun _ _ _ _ _ => (pf_var 2)))) pfa_nil)))))
theorem sc_need_same_signs : FnScope ["book", "one", "other"] ["book", "one", "other"] (defScope (top 41)) := ⟨rfl, rfl, rfl, by decide +kernel, rfl, by decide +kernel, by decide +kernel⟩
theorem d_need_same_signs {f : Addr} {fd : FuncData} (Fd : Fun K "need_same_signs" "need_same_signs" (top 41) f fd) {f_need_stream : Addr} {fd_need_stream : FuncData} (G_need_stream : Gd K mg "need_stream" (top 27) ["book", "thing"] f_need_stream fd_need_stream) (D_need_stream : Df P w K mg base 8 f_need_stream fd_need_stream ["book", "thing"] SF.m_need_stream) {f_signs_of : Addr} {fd_signs_of : FuncData} (G_signs_of : Gd K mg "signs_of" (top 28) ["book", "stream"] f_signs_of fd_signs_of) (D_signs_of : Df P w K mg base 9 f_signs_of fd_signs_of ["book", "stream"] SF.m_signs_of) : Df P w K mg base 10 f fd ["book", "one", "other"] SF.m_need_same_signs := by
  refine df_mk (N := ["book", "one", "other"]) (ps := ["book", "one", "other"]) Fd sc_need_same_signs fun cdv A fs s H hr hgd => ?_
  have hu := hr.units
  exact (pfss_cons (pfs_expr (pf_call D_need_stream (hr.mono (by decide)) hgd G_need_stream.m G_need_stream.kp G_need_stream.b (pfa_cons (pf_var 0) (pfa_cons (pf_var 1) pfa_nil)))) (pfss_cons (pfs_expr (pf_call D_need_stream (hr.mono (by decide)) hgd G_need_stream.m G_need_stream.kp G_need_stream.b (pfa_cons (pf_var 0) (pfa_cons (pf_var 2) pfa_nil)))) (pfss_one (pfs_if (pft_cmp (o_ne hu) (pf_call D_signs_of (hr.mono (by decide)) hgd G_signs_of.m G_signs_of.kp G_signs_of.b (pfa_cons (pf_var 0) (pfa_cons (pf_var 1) pfa_nil))) (pf_call D_signs_of (hr.mono (by decide)) hgd G_signs_of.m G_signs_of.kp G_signs_of.b (pfa_cons (pf_var 0) (pfa_cons (pf_var 2) pfa_nil)))) (pfss_one pfs_never) pfss_nil))))
theorem sc_parted : FnScope ["book", "one", "other", "rows", "others", "least", "number", "row", "more", "first", "second", "terminal"] ["book", "one", "other"] (defScope (top 45)) := ⟨rfl, rfl, rfl, by decide +kernel, rfl, by decide +kernel, by decide +kernel⟩
theorem d_parted {f : Addr} {fd : FuncData} (Fd : Fun K "parted" "parted" (top 45) f fd) (h_enumerate : mg "enumerate" = none) (h_zip : mg "zip" = none) (h_len : mg "len" = none) {f_need_same_signs : Addr} {fd_need_same_signs : FuncData} (G_need_same_signs : Gd K mg "need_same_signs" (top 41) ["book", "one", "other"] f_need_same_signs fd_need_same_signs) (D_need_same_signs : Df P w K mg base 10 f_need_same_signs fd_need_same_signs ["book", "one", "other"] SF.m_need_same_signs) {f_chains_shown : Addr} {fd_chains_shown : FuncData} (G_chains_shown : Gd K mg "chains_shown" (top 39) ["book", "stream"] f_chains_shown fd_chains_shown) (D_chains_shown : Df P w K mg base 3 f_chains_shown fd_chains_shown ["book", "stream"] SF.m_chains_shown) {f_least_apart : Addr} {fd_least_apart : FuncData} (G_least_apart : Gd K mg "least_apart" (top 35) ["one", "other"] f_least_apart fd_least_apart) (D_least_apart : Df P w K mg base 2 f_least_apart fd_least_apart ["one", "other"] SF.m_least_apart) {f_parting_entry : Addr} {fd_parting_entry : FuncData} (G_parting_entry : Gd K mg "parting_entry" (top 44) ["book", "one", "other", "terminal"] f_parting_entry fd_parting_entry) (D_parting_entry : Df P w K mg base 2 f_parting_entry fd_parting_entry ["book", "one", "other", "terminal"] SF.m_parting_entry_k09) : Df P w K mg base 11 f fd ["book", "one", "other"] SF.m_parted_k09 := by
  refine df_mk (N := ["book", "one", "other", "rows", "others", "least", "number", "row", "more", "first", "second", "terminal"]) (ps := ["book", "one", "other"]) Fd sc_parted fun cdv A fs s H hr hgd => ?_
  have hu := hr.units
  exact (pfss_cons (pfs_expr (pf_call D_need_same_signs (hr.mono (by decide)) hgd G_need_same_signs.m G_need_same_signs.kp G_need_same_signs.b (pfa_cons (pf_var 0) (pfa_cons (pf_var 1) (pfa_cons (pf_var 2) pfa_nil))))) (pfss_cons (pfs_set (i := 3) sc_parted.nd (pf_call D_chains_shown (hr.mono (by decide)) hgd G_chains_shown.m G_chains_shown.kp G_chains_shown.b (pfa_cons (pf_var 0) (pfa_cons (pf_var 1) pfa_nil)))) (pfss_cons (pfs_set (i := 4) sc_parted.nd (pf_call D_chains_shown (hr.mono (by decide)) hgd G_chains_shown.m G_chains_shown.kp G_chains_shown.b (pfa_cons (pf_var 0) (pfa_cons (pf_var 2) pfa_nil)))) (pfss_cons (pfs_set (i := 5) sc_parted.nd pf_non) (pfss_cons (pfs_for PassesOwn.never rfl (pfi_enumZip (pfa_cons (pf_var 3) (pfa_cons (pf_var 4) pfa_nil)) h_enumerate h_zip) (pfg_tup rfl (pfgs_cons (pfg_name sc_parted.nd) (pfgs_cons (pfg_tup rfl (pfgs_cons (pfg_name sc_parted.nd) (pfgs_cons (pfg_name sc_parted.nd) pfgs_nil))) pfgs_nil))) (pfss_one (pfs_for PassesOwn.never rfl (pfi_zip (pfa_cons (pf_var 7) (pfa_cons (pf_var 8) pfa_nil)) h_zip) (pfg_tup rfl (pfgs_cons (pfg_name sc_parted.nd) (pfgs_cons (pfg_name sc_parted.nd) pfgs_nil))) (pfss_cons (pfs_set (i := 11) sc_parted.nd (pf_call D_least_apart (hr.mono (by decide)) hgd G_least_apart.m G_least_apart.kp G_least_apart.b (pfa_cons (pf_var 9) (pfa_cons (pf_var 10) pfa_nil)))) (pfss_one (pfs_if (pfw_pt (pfw_and (pft_cmp o_isnot (pf_var 11) pf_non) (pfw_and1 (pfw_pt (pfw_or (pft_cmp o_is (pf_var 5) pf_non) (pfw_or1 (pft_cmp o_lt (pf_blt c_len h_len rfl (pfa_cons (pf_var 11) pfa_nil)) (pf_blt c_len h_len rfl (pfa_cons (pf_ix hu (pf_var 5) pf_int) pfa_nil))))))))) (pfss_one (pfs_set (i := 5) sc_parted.nd (pf_tup (pfa_cons (pf_var 11) (pfa_cons (pf_call D_parting_entry (hr.mono (by decide)) hgd G_parting_entry.m G_parting_entry.kp G_parting_entry.b (pfa_cons (pf_var 0) (pfa_cons (pf_var 9) (pfa_cons (pf_var 10) (pfa_cons (pf_var 11) pfa_nil))))) (pfa_cons (pf_var 6) pfa_nil)))))) pfss_nil)))))) (pfss_one (pfs_ret (pf_var 5))))))))
theorem sc_alike : FnScope ["book", "one", "other"] ["book", "one", "other"] (defScope (top 43)) := ⟨rfl, rfl, rfl, by decide +kernel, rfl, by decide +kernel, by decide +kernel⟩
theorem d_alike {f : Addr} {fd : FuncData} (Fd : Fun K "alike" "alike" (top 43) f fd) {f_need_same_signs : Addr} {fd_need_same_signs : FuncData} (G_need_same_signs : Gd K mg "need_same_signs" (top 41) ["book", "one", "other"] f_need_same_signs fd_need_same_signs) (D_need_same_signs : Df P w K mg base 10 f_need_same_signs fd_need_same_signs ["book", "one", "other"] SF.m_need_same_signs) {f_look_alike : Addr} {fd_look_alike : FuncData} (G_look_alike : Gd K mg "look_alike" (top 42) ["rows", "others"] f_look_alike fd_look_alike) (D_look_alike : Df P w K mg base 3 f_look_alike fd_look_alike ["rows", "others"] SF.m_look_alike) {f_chains_shown : Addr} {fd_chains_shown : FuncData} (G_chains_shown : Gd K mg "chains_shown" (top 39) ["book", "stream"] f_chains_shown fd_chains_shown) (D_chains_shown : Df P w K mg base 3 f_chains_shown fd_chains_shown ["book", "stream"] SF.m_chains_shown) : Df P w K mg base 11 f fd ["book", "one", "other"] SF.m_alike := by
  refine df_mk (N := ["book", "one", "other"]) (ps := ["book", "one", "other"]) Fd sc_alike fun cdv A fs s H hr hgd => ?_
  have hu := hr.units
  exact (pfss_cons (pfs_expr (pf_call D_need_same_signs (hr.mono (by decide)) hgd G_need_same_signs.m G_need_same_signs.kp G_need_same_signs.b (pfa_cons (pf_var 0) (pfa_cons (pf_var 1) (pfa_cons (pf_var 2) pfa_nil))))) (pfss_one (pfs_ret (pf_call D_look_alike (hr.mono (by decide)) hgd G_look_alike.m G_look_alike.kp G_look_alike.b (pfa_cons (pf_call D_chains_shown (hr.mono (by decide)) hgd G_chains_shown.m G_chains_shown.kp G_chains_shown.b (pfa_cons (pf_var 0) (pfa_cons (pf_var 1) pfa_nil))) (pfa_cons (pf_call D_chains_shown (hr.mono (by decide)) hgd G_chains_shown.m G_chains_shown.kp G_chains_shown.b (pfa_cons (pf_var 0) (pfa_cons (pf_var 2) pfa_nil))) pfa_nil))))))
theorem sc__law_told : FnScope ["book", "one", "other", "found"] ["book", "one", "other"] (defScope (top 54)) := ⟨rfl, rfl, rfl, by decide +kernel, rfl, by decide +kernel, by decide +kernel⟩
theorem d__law_told {f : Addr} {fd : FuncData} (Fd : Fun K "_law_told" "_law_told" (top 54) f fd) (h_len : mg "len" = none) {f_parted : Addr} {fd_parted : FuncData} (G_parted : Gd K mg "parted" (top 45) ["book", "one", "other"] f_parted fd_parted) (D_parted : Df P w K mg base 11 f_parted fd_parted ["book", "one", "other"] SF.m_parted_k09) {f_alike : Addr} {fd_alike : FuncData} (G_alike : Gd K mg "alike" (top 43) ["book", "one", "other"] f_alike fd_alike) (D_alike : Df P w K mg base 11 f_alike fd_alike ["book", "one", "other"] SF.m_alike) : Df P w K mg base 12 f fd ["book", "one", "other"] SF.m__law_told := by
  refine df_mk (N := ["book", "one", "other", "found"]) (ps := ["book", "one", "other"]) Fd sc__law_told fun cdv A fs s H hr hgd => ?_
  have hu := hr.units
  exact (pfss_cons (pfs_set (i := 3) sc__law_told.nd (pf_call D_parted (hr.mono (by decide)) hgd G_parted.m G_parted.kp G_parted.b (pfa_cons (pf_var 0) (pfa_cons (pf_var 1) (pfa_cons (pf_var 2) pfa_nil))))) (pfss_one (pfs_ret (pf_pure (pfn_lst (pfa_cons (pf_call D_alike (hr.mono (by decide)) hgd G_alike.m G_alike.kp G_alike.b (pfa_cons (pf_var 0) (pfa_cons (pf_var 1) (pfa_cons (pf_var 2) pfa_nil)))) (pfa_cons (pf_if (pft_cmp o_is (pf_var 3) pf_non) (pf_un o_neg pf_int) (pf_blt c_len h_len rfl (pfa_cons (pf_ix hu (pf_var 3) pf_int) pfa_nil))) pfa_nil)))))))
theorem sc_law : FnScope ["script", "state", "turn", "book", "one", "other", "due", "more", "renamed", "turned", "split", "items"] ["script"] (defScope (top 57)) := ⟨rfl, rfl, rfl, by decide +kernel, rfl, by decide +kernel, by decide +kernel⟩
theorem d_law {f : Addr} {fd : FuncData} (Fd : Fun K "law" "law" (top 57) f fd) (h_range : mg "range" = none) (h_len : mg "len" = none) {f__law_begin : Addr} {fd__law_begin : FuncData} (G__law_begin : Gd K mg "_law_begin" (top 48) ["script"] f__law_begin fd__law_begin) (D__law_begin : Df P w K mg base 1 f__law_begin fd__law_begin ["script"] SF.m__law_begin) {f__law_book : Addr} {fd__law_book : FuncData} (G__law_book : Gd K mg "_law_book" (top 50) ["state", "most"] f__law_book fd__law_book) (D__law_book : Df P w K mg base 4 f__law_book fd__law_book ["state", "most"] SF.m__law_book) {f__law_stream : Addr} {fd__law_stream : FuncData} (G__law_stream : Gd K mg "_law_stream" (top 52) ["state", "book", "most"] f__law_stream fd__law_stream) (D__law_stream : Df P w K mg base 3 f__law_stream fd__law_stream ["state", "book", "most"] SF.m__law_stream) {f__law_near : Addr} {fd__law_near : FuncData} (G__law_near : Gd K mg "_law_near" (top 53) ["state", "book", "stream"] f__law_near fd__law_near) (D__law_near : Df P w K mg base 3 f__law_near fd__law_near ["state", "book", "stream"] SF.m__law_near) {f__law_told : Addr} {fd__law_told : FuncData} (G__law_told : Gd K mg "_law_told" (top 54) ["book", "one", "other"] f__law_told fd__law_told) (D__law_told : Df P w K mg base 12 f__law_told fd__law_told ["book", "one", "other"] SF.m__law_told) {f__law_renamed : Addr} {fd__law_renamed : FuncData} (G__law_renamed : Gd K mg "_law_renamed" (top 55) ["book", "streams"] f__law_renamed fd__law_renamed) (D__law_renamed : Df P w K mg base 1 f__law_renamed fd__law_renamed ["book", "streams"] SF.m__law_renamed) {f__law_split : Addr} {fd__law_split : FuncData} (G__law_split : Gd K mg "_law_split" (top 56) ["book", "streams"] f__law_split fd__law_split) (D__law_split : Df P w K mg base 1 f__law_split fd__law_split ["book", "streams"] SF.m__law_split) : Df P w K mg base 13 f fd ["script"] SF.m_law_k13 := by
  refine df_mk (N := ["script", "state", "turn", "book", "one", "other", "due", "more", "renamed", "turned", "split", "items"]) (ps := ["script"]) Fd sc_law fun cdv A fs s H hr hgd => ?_
  have hu := hr.units
  exact (pfss_cons (pfs_set (i := 1) sc_law.nd (pf_call D__law_begin (hr.mono (by decide)) hgd G__law_begin.m G__law_begin.kp G__law_begin.b (pfa_cons (pf_var 0) pfa_nil))) (pfss_cons (pfs_for PassesOwn.never rfl (pfi_range1 h_range (pfa_cons pf_int pfa_nil)) (pfg_name sc_law.nd) (pfss_cons (pfs_set (i := 3) sc_law.nd (pf_call D__law_book (hr.mono (by decide)) hgd G__law_book.m G__law_book.kp G__law_book.b (pfa_cons (pf_var 1) (pfa_cons pf_int pfa_nil)))) (pfss_cons (pfs_set (i := 4) sc_law.nd (pf_call D__law_stream (hr.mono (by decide)) hgd G__law_stream.m G__law_stream.kp G__law_stream.b (pfa_cons (pf_var 1) (pfa_cons (pf_var 3) (pfa_cons pf_int pfa_nil))))) (pfss_cons (pfs_set (i := 5) sc_law.nd (pf_call D__law_near (hr.mono (by decide)) hgd G__law_near.m G__law_near.kp G__law_near.b (pfa_cons (pf_var 1) (pfa_cons (pf_var 3) (pfa_cons (pf_var 4) pfa_nil))))) (pfss_cons (pfs_set (i := 6) sc_law.nd (pf_call D__law_told (hr.mono (by decide)) hgd G__law_told.m G__law_told.kp G__law_told.b (pfa_cons (pf_var 3) (pfa_cons (pf_var 4) (pfa_cons (pf_var 5) pfa_nil))))) (pfss_cons (pfs_set (i := 7) sc_law.nd (pf_tup (pfa_cons (pf_bin o_add (pf_ix hu (pf_var 3) pf_int) (pf_tup (pfa_cons pf_str pfa_nil))) (pfa_cons (pf_bin o_add (pf_ix hu (pf_var 3) pf_int) (pf_tup (pfa_cons pf_str pfa_nil))) (pfa_cons (pf_ix hu (pf_var 3) pf_int) pfa_nil))))) (pfss_cons (pfs_if (pft_cmp (o_ne hu) (pf_call D__law_told (hr.mono (by decide)) hgd G__law_told.m G__law_told.kp G__law_told.b (pfa_cons (pf_var 7) (pfa_cons (pf_var 4) (pfa_cons (pf_var 5) pfa_nil)))) (pf_var 6)) (pfss_one (pfs_ret pf_bl)) pfss_nil) (pfss_cons (pfs_asg (pf_call D__law_renamed (hr.mono (by decide)) hgd G__law_renamed.m G__law_renamed.kp G__law_renamed.b (pfa_cons (pf_var 3) (pfa_cons (pf_pure (pfn_lst (pfa_cons (pf_var 4) (pfa_cons (pf_var 5) pfa_nil)))) pfa_nil))) (pfg_tup rfl (pfgs_cons (pfg_name sc_law.nd) (pfgs_cons (pfg_name sc_law.nd) pfgs_nil)))) (pfss_cons (pfs_if (pft_cmp (o_ne hu) (pf_call D__law_told (hr.mono (by decide)) hgd G__law_told.m G__law_told.kp G__law_told.b (pfa_cons (pf_var 8) (pfa_cons (pf_ix hu (pf_var 9) pf_int) (pfa_cons (pf_ix hu (pf_var 9) pf_int) pfa_nil)))) (pf_var 6)) (pfss_one (pfs_ret pf_bl)) pfss_nil) (pfss_cons (pfs_asg (pf_call D__law_split (hr.mono (by decide)) hgd G__law_split.m G__law_split.kp G__law_split.b (pfa_cons (pf_var 3) (pfa_cons (pf_pure (pfn_lst (pfa_cons (pf_var 4) (pfa_cons (pf_var 5) pfa_nil)))) pfa_nil))) (pfg_tup rfl (pfgs_cons (pfg_name sc_law.nd) (pfgs_cons (pfg_name sc_law.nd) pfgs_nil)))) (pfss_one (pfs_if (pfw_pt (pfw_and (pft_cmp o_lt (pf_blt c_len h_len rfl (pfa_cons (pf_ix hu (pf_var 10) pf_int) pfa_nil)) pf_int) (pfw_and1 (pft_cmp (o_ne hu) (pf_call D__law_told (hr.mono (by decide)) hgd G__law_told.m G__law_told.kp G__law_told.b (pfa_cons (pf_var 10) (pfa_cons (pf_ix hu (pf_var 11) pf_int) (pfa_cons (pf_ix hu (pf_var 11) pf_int) pfa_nil)))) (pf_var 6))))) (pfss_one (pfs_ret pf_bl)) pfss_nil)))))))))))) (pfss_one (pfs_ret pf_bl))))
theorem all_mk {w : World} {K : PySem.W.Frag} {h : Heap} {mg : Str → Option Value} {fa : Addr} (X : K.In h) (G : h.Ns mainGlobals mg) (hfa : mg "law" = some (.ref fa))
  (e__law_begin : FnIn K "_law_begin" (top 48))
  (e__law_mixed : FnIn K "_law_mixed" (top 47))
  (e_is_short : FnIn K "is_short" (top 13))
  (e_ascend : FnIn K "ascend" (top 16))
  (e_words_of : FnIn K "words_of" (top 23))
  (e_is_letter : FnIn K "is_letter" (top 25))
  (e_codes_by_word : FnIn K "codes_by_word" (top 24))
  (e_no_chains : FnIn K "no_chains" (top 37))
  (e_behind : FnIn K "behind" (top 36))
  (e_worth_among : FnIn K "worth_among" (top 32))
  (e_runs_of : FnIn K "runs_of" (top 33))
  (e__law_renamed : FnIn K "_law_renamed" (top 55))
  (e__law_split : FnIn K "_law_split" (top 56))
  (e__law_draw : FnIn K "_law_draw" (top 49))
  (e_is_word : FnIn K "is_word" (top 15))
  (e_is_name : FnIn K "is_name" (top 14))
  (e_is_sign : FnIn K "is_sign" (top 26))
  (e_pass_code : FnIn K "pass_code" (top 38))
  (e_shown_at : FnIn K "shown_at" (top 30))
  (e_least_apart : FnIn K "least_apart" (top 35))
  (e_parting_entry : FnIn K "parting_entry" (top 44))
  (e_have_one_form : FnIn K "have_one_form" (top 34))
  (e__law_value : FnIn K "_law_value" (top 51))
  (e__law_stream : FnIn K "_law_stream" (top 52))
  (e__law_near : FnIn K "_law_near" (top 53))
  (e_is_name_pair : FnIn K "is_name_pair" (top 18))
  (e_are_names : FnIn K "are_names" (top 17))
  (e_chains_shown : FnIn K "chains_shown" (top 39))
  (e_look_alike : FnIn K "look_alike" (top 42))
  (e__law_book : FnIn K "_law_book" (top 50))
  (e_are_gifts : FnIn K "are_gifts" (top 19))
  (e_is_code : FnIn K "is_code" (top 20))
  (e_need_codes : FnIn K "need_codes" (top 21))
  (e_need_book : FnIn K "need_book" (top 22))
  (e_need_stream : FnIn K "need_stream" (top 27))
  (e_signs_of : FnIn K "signs_of" (top 28))
  (e_need_same_signs : FnIn K "need_same_signs" (top 41))
  (e_parted : FnIn K "parted" (top 45))
  (e_alike : FnIn K "alike" (top 43))
  (e__law_told : FnIn K "_law_told" (top 54))
  (e_law : FnIn K "law" (top 57))
  (g_LONGEST : ∃ t, PySem.W.nsIn K mainGlobals "LONGEST" = some (some (.int 8 t)))
  (g_LETTERS : ∃ t, PySem.W.nsIn K mainGlobals "LETTERS" = some (some (.str "abcdefghijklmnopqrstuvwxyz" t)))
  (g_FIGURES : ∃ t, PySem.W.nsIn K mainGlobals "FIGURES" = some (some (.str "0123456789" t)))
  (g_MOST_KINDS : ∃ t, PySem.W.nsIn K mainGlobals "MOST_KINDS" = some (some (.int 6 t)))
  (g_MOST_ASPECTS : ∃ t, PySem.W.nsIn K mainGlobals "MOST_ASPECTS" = some (some (.int 6 t)))
  (g_MOST_CODES : ∃ t, PySem.W.nsIn K mainGlobals "MOST_CODES" = some (some (.int 16 t)))
  (g_MOST_ITEMS : ∃ t, PySem.W.nsIn K mainGlobals "MOST_ITEMS" = some (some (.int 200 t)))
  (z_list : PySem.W.nsIn K mainGlobals "list" = some none)
  (z_int : PySem.W.nsIn K mainGlobals "int" = some none)
  (z_isinstance : PySem.W.nsIn K mainGlobals "isinstance" = some none)
  (z_str : PySem.W.nsIn K mainGlobals "str" = some none)
  (z_len : PySem.W.nsIn K mainGlobals "len" = some none)
  (z_all : PySem.W.nsIn K mainGlobals "all" = some none)
  (z_range : PySem.W.nsIn K mainGlobals "range" = some none)
  (z_tuple : PySem.W.nsIn K mainGlobals "tuple" = some none)
  (z_sorted : PySem.W.nsIn K mainGlobals "sorted" = some none)
  (z_enumerate : PySem.W.nsIn K mainGlobals "enumerate" = some none)
  (z_max : PySem.W.nsIn K mainGlobals "max" = some none)
  (z_zip : PySem.W.nsIn K mainGlobals "zip" = some none) :
    ∃ fd : FuncData, (∀ (s : Shared) (v : Value), BindsTo s fd ⟨[v], []⟩ [("script", v)]) ∧ ∀ base : Heap, K.In base → base.Ns mainGlobals mg → Df PySem.Challenge.pw_stylefall_k13_whole_under_other_names w K mg base 13 fa fd ["script"] SF.m_law_k13 := by
  have h_LONGEST := g_LONGEST.imp fun _ z => PySem.W.mg_of X G z
  have h_LETTERS := g_LETTERS.imp fun _ z => PySem.W.mg_of X G z
  have h_FIGURES := g_FIGURES.imp fun _ z => PySem.W.mg_of X G z
  have h_MOST_KINDS := g_MOST_KINDS.imp fun _ z => PySem.W.mg_of X G z
  have h_MOST_ASPECTS := g_MOST_ASPECTS.imp fun _ z => PySem.W.mg_of X G z
  have h_MOST_CODES := g_MOST_CODES.imp fun _ z => PySem.W.mg_of X G z
  have h_MOST_ITEMS := g_MOST_ITEMS.imp fun _ z => PySem.W.mg_of X G z
  have h_list := PySem.W.mg_none_of X G z_list
  have h_int := PySem.W.mg_none_of X G z_int
  have h_isinstance := PySem.W.mg_none_of X G z_isinstance
  have h_str := PySem.W.mg_none_of X G z_str
  have h_len := PySem.W.mg_none_of X G z_len
  have h_all := PySem.W.mg_none_of X G z_all
  have h_range := PySem.W.mg_none_of X G z_range
  have h_tuple := PySem.W.mg_none_of X G z_tuple
  have h_sorted := PySem.W.mg_none_of X G z_sorted
  have h_enumerate := PySem.W.mg_none_of X G z_enumerate
  have h_max := PySem.W.mg_none_of X G z_max
  have h_zip := PySem.W.mg_none_of X G z_zip
  obtain ⟨f__law_begin, fd__law_begin, G__law_begin⟩ := e__law_begin.gd (ps := ["script"]) X G fun F => F.binds (ps := ["script"]) fun _ _ _ _ _ _ us hl => match us, hl with | [_], _ => rfl
  obtain ⟨f__law_mixed, fd__law_mixed, G__law_mixed⟩ := e__law_mixed.gd (ps := ["cell", "k"]) X G fun F => F.binds (ps := ["cell", "k"]) fun _ _ _ _ _ _ us hl => match us, hl with | [_, _], _ => rfl
  obtain ⟨f_is_short, fd_is_short, G_is_short⟩ := e_is_short.gd (ps := ["thing"]) X G fun F => F.binds (ps := ["thing"]) fun _ _ _ _ _ _ us hl => match us, hl with | [_], _ => rfl
  obtain ⟨f_ascend, fd_ascend, G_ascend⟩ := e_ascend.gd (ps := ["names"]) X G fun F => F.binds (ps := ["names"]) fun _ _ _ _ _ _ us hl => match us, hl with | [_], _ => rfl
  obtain ⟨f_words_of, fd_words_of, G_words_of⟩ := e_words_of.gd (ps := ["book"]) X G fun F => F.binds (ps := ["book"]) fun _ _ _ _ _ _ us hl => match us, hl with | [_], _ => rfl
  obtain ⟨f_is_letter, fd_is_letter, G_is_letter⟩ := e_is_letter.gd (ps := ["item"]) X G fun F => F.binds (ps := ["item"]) fun _ _ _ _ _ _ us hl => match us, hl with | [_], _ => rfl
  obtain ⟨f_codes_by_word, fd_codes_by_word, G_codes_by_word⟩ := e_codes_by_word.gd (ps := ["book"]) X G fun F => F.binds (ps := ["book"]) fun _ _ _ _ _ _ us hl => match us, hl with | [_], _ => rfl
  obtain ⟨f_no_chains, fd_no_chains, G_no_chains⟩ := e_no_chains.gd (ps := ["book"]) X G fun F => F.binds (ps := ["book"]) fun _ _ _ _ _ _ us hl => match us, hl with | [_], _ => rfl
  obtain ⟨f_behind, fd_behind, G_behind⟩ := e_behind.gd (ps := ["chain", "kind", "value"]) X G fun F => F.binds (ps := ["chain", "kind", "value"]) fun _ _ _ _ _ _ us hl => match us, hl with | [_, _, _], _ => rfl
  obtain ⟨f_worth_among, fd_worth_among, G_worth_among⟩ := e_worth_among.gd (ps := ["chain", "kinds"]) X G fun F => F.binds (ps := ["chain", "kinds"]) fun _ _ _ _ _ _ us hl => match us, hl with | [_, _], _ => rfl
  obtain ⟨f_runs_of, fd_runs_of, G_runs_of⟩ := e_runs_of.gd (ps := ["chain"]) X G fun F => F.binds (ps := ["chain"]) fun _ _ _ _ _ _ us hl => match us, hl with | [_], _ => rfl
  obtain ⟨f__law_renamed, fd__law_renamed, G__law_renamed⟩ := e__law_renamed.gd (ps := ["book", "streams"]) X G fun F => F.binds (ps := ["book", "streams"]) fun _ _ _ _ _ _ us hl => match us, hl with | [_, _], _ => rfl
  obtain ⟨f__law_split, fd__law_split, G__law_split⟩ := e__law_split.gd (ps := ["book", "streams"]) X G fun F => F.binds (ps := ["book", "streams"]) fun _ _ _ _ _ _ us hl => match us, hl with | [_, _], _ => rfl
  obtain ⟨f__law_draw, fd__law_draw, G__law_draw⟩ := e__law_draw.gd (ps := ["state", "many"]) X G fun F => F.binds (ps := ["state", "many"]) fun _ _ _ _ _ _ us hl => match us, hl with | [_, _], _ => rfl
  obtain ⟨f_is_word, fd_is_word, G_is_word⟩ := e_is_word.gd (ps := ["thing"]) X G fun F => F.binds (ps := ["thing"]) fun _ _ _ _ _ _ us hl => match us, hl with | [_], _ => rfl
  obtain ⟨f_is_name, fd_is_name, G_is_name⟩ := e_is_name.gd (ps := ["thing"]) X G fun F => F.binds (ps := ["thing"]) fun _ _ _ _ _ _ us hl => match us, hl with | [_], _ => rfl
  obtain ⟨f_is_sign, fd_is_sign, G_is_sign⟩ := e_is_sign.gd (ps := ["item"]) X G fun F => F.binds (ps := ["item"]) fun _ _ _ _ _ _ us hl => match us, hl with | [_], _ => rfl
  obtain ⟨f_pass_code, fd_pass_code, G_pass_code⟩ := e_pass_code.gd (ps := ["chains", "code"]) X G fun F => F.binds (ps := ["chains", "code"]) fun _ _ _ _ _ _ us hl => match us, hl with | [_, _], _ => rfl
  obtain ⟨f_shown_at, fd_shown_at, G_shown_at⟩ := e_shown_at.gd (ps := ["book", "sign"]) X G fun F => F.binds (ps := ["book", "sign"]) fun _ _ _ _ _ _ us hl => match us, hl with | [_, _], _ => rfl
  obtain ⟨f_least_apart, fd_least_apart, G_least_apart⟩ := e_least_apart.gd (ps := ["one", "other"]) X G fun F => F.binds (ps := ["one", "other"]) fun _ _ _ _ _ _ us hl => match us, hl with | [_, _], _ => rfl
  obtain ⟨f_parting_entry, fd_parting_entry, G_parting_entry⟩ := e_parting_entry.gd (ps := ["book", "one", "other", "terminal"]) X G fun F => F.binds (ps := ["book", "one", "other", "terminal"]) fun _ _ _ _ _ _ us hl => match us, hl with | [_, _, _, _], _ => rfl
  obtain ⟨f_have_one_form, fd_have_one_form, G_have_one_form⟩ := e_have_one_form.gd (ps := ["one", "other"]) X G fun F => F.binds (ps := ["one", "other"]) fun _ _ _ _ _ _ us hl => match us, hl with | [_, _], _ => rfl
  obtain ⟨f__law_value, fd__law_value, G__law_value⟩ := e__law_value.gd (ps := ["state"]) X G fun F => F.binds (ps := ["state"]) fun _ _ _ _ _ _ us hl => match us, hl with | [_], _ => rfl
  obtain ⟨f__law_stream, fd__law_stream, G__law_stream⟩ := e__law_stream.gd (ps := ["state", "book", "most"]) X G fun F => F.binds (ps := ["state", "book", "most"]) fun _ _ _ _ _ _ us hl => match us, hl with | [_, _, _], _ => rfl
  obtain ⟨f__law_near, fd__law_near, G__law_near⟩ := e__law_near.gd (ps := ["state", "book", "stream"]) X G fun F => F.binds (ps := ["state", "book", "stream"]) fun _ _ _ _ _ _ us hl => match us, hl with | [_, _, _], _ => rfl
  obtain ⟨f_is_name_pair, fd_is_name_pair, G_is_name_pair⟩ := e_is_name_pair.gd (ps := ["thing"]) X G fun F => F.binds (ps := ["thing"]) fun _ _ _ _ _ _ us hl => match us, hl with | [_], _ => rfl
  obtain ⟨f_are_names, fd_are_names, G_are_names⟩ := e_are_names.gd (ps := ["thing", "most"]) X G fun F => F.binds (ps := ["thing", "most"]) fun _ _ _ _ _ _ us hl => match us, hl with | [_, _], _ => rfl
  obtain ⟨f_chains_shown, fd_chains_shown, G_chains_shown⟩ := e_chains_shown.gd (ps := ["book", "stream"]) X G fun F => F.binds (ps := ["book", "stream"]) fun _ _ _ _ _ _ us hl => match us, hl with | [_, _], _ => rfl
  obtain ⟨f_look_alike, fd_look_alike, G_look_alike⟩ := e_look_alike.gd (ps := ["rows", "others"]) X G fun F => F.binds (ps := ["rows", "others"]) fun _ _ _ _ _ _ us hl => match us, hl with | [_, _], _ => rfl
  obtain ⟨f__law_book, fd__law_book, G__law_book⟩ := e__law_book.gd (ps := ["state", "most"]) X G fun F => F.binds (ps := ["state", "most"]) fun _ _ _ _ _ _ us hl => match us, hl with | [_, _], _ => rfl
  obtain ⟨f_are_gifts, fd_are_gifts, G_are_gifts⟩ := e_are_gifts.gd (ps := ["thing"]) X G fun F => F.binds (ps := ["thing"]) fun _ _ _ _ _ _ us hl => match us, hl with | [_], _ => rfl
  obtain ⟨f_is_code, fd_is_code, G_is_code⟩ := e_is_code.gd (ps := ["thing", "aspects"]) X G fun F => F.binds (ps := ["thing", "aspects"]) fun _ _ _ _ _ _ us hl => match us, hl with | [_, _], _ => rfl
  obtain ⟨f_need_codes, fd_need_codes, G_need_codes⟩ := e_need_codes.gd (ps := ["aspects", "codes"]) X G fun F => F.binds (ps := ["aspects", "codes"]) fun _ _ _ _ _ _ us hl => match us, hl with | [_, _], _ => rfl
  obtain ⟨f_need_book, fd_need_book, G_need_book⟩ := e_need_book.gd (ps := ["thing"]) X G fun F => F.binds (ps := ["thing"]) fun _ _ _ _ _ _ us hl => match us, hl with | [_], _ => rfl
  obtain ⟨f_need_stream, fd_need_stream, G_need_stream⟩ := e_need_stream.gd (ps := ["book", "thing"]) X G fun F => F.binds (ps := ["book", "thing"]) fun _ _ _ _ _ _ us hl => match us, hl with | [_, _], _ => rfl
  obtain ⟨f_signs_of, fd_signs_of, G_signs_of⟩ := e_signs_of.gd (ps := ["book", "stream"]) X G fun F => F.binds (ps := ["book", "stream"]) fun _ _ _ _ _ _ us hl => match us, hl with | [_, _], _ => rfl
  obtain ⟨f_need_same_signs, fd_need_same_signs, G_need_same_signs⟩ := e_need_same_signs.gd (ps := ["book", "one", "other"]) X G fun F => F.binds (ps := ["book", "one", "other"]) fun _ _ _ _ _ _ us hl => match us, hl with | [_, _, _], _ => rfl
  obtain ⟨f_parted, fd_parted, G_parted⟩ := e_parted.gd (ps := ["book", "one", "other"]) X G fun F => F.binds (ps := ["book", "one", "other"]) fun _ _ _ _ _ _ us hl => match us, hl with | [_, _, _], _ => rfl
  obtain ⟨f_alike, fd_alike, G_alike⟩ := e_alike.gd (ps := ["book", "one", "other"]) X G fun F => F.binds (ps := ["book", "one", "other"]) fun _ _ _ _ _ _ us hl => match us, hl with | [_, _, _], _ => rfl
  obtain ⟨f__law_told, fd__law_told, G__law_told⟩ := e__law_told.gd (ps := ["book", "one", "other"]) X G fun F => F.binds (ps := ["book", "one", "other"]) fun _ _ _ _ _ _ us hl => match us, hl with | [_, _, _], _ => rfl
  obtain ⟨fd, F, bd⟩ := e_law.law (y := "script") X G hfa fun _ _ _ _ _ _ _ => rfl
  refine ⟨fd, bd, fun base _ _ => ?_⟩
  have D__law_begin := d__law_begin (P := PySem.Challenge.pw_stylefall_k13_whole_under_other_names) (w := w) (base := base) (mg := mg) G__law_begin.F h_list
  have D__law_mixed := d__law_mixed (P := PySem.Challenge.pw_stylefall_k13_whole_under_other_names) (w := w) (base := base) (mg := mg) G__law_mixed.F h_int
  have D_is_short := d_is_short (P := PySem.Challenge.pw_stylefall_k13_whole_under_other_names) (w := w) (base := base) (mg := mg) G_is_short.F h_LONGEST h_isinstance h_str h_len
  have D_ascend := d_ascend (P := PySem.Challenge.pw_stylefall_k13_whole_under_other_names) (w := w) (base := base) (mg := mg) G_ascend.F h_all h_range h_len
  have D_words_of := d_words_of (P := PySem.Challenge.pw_stylefall_k13_whole_under_other_names) (w := w) (base := base) (mg := mg) G_words_of.F
  have D_is_letter := d_is_letter (P := PySem.Challenge.pw_stylefall_k13_whole_under_other_names) (w := w) (base := base) (mg := mg) G_is_letter.F h_LETTERS h_len
  have D_codes_by_word := d_codes_by_word (P := PySem.Challenge.pw_stylefall_k13_whole_under_other_names) (w := w) (base := base) (mg := mg) G_codes_by_word.F
  have D_no_chains := d_no_chains (P := PySem.Challenge.pw_stylefall_k13_whole_under_other_names) (w := w) (base := base) (mg := mg) G_no_chains.F
  have D_behind := d_behind (P := PySem.Challenge.pw_stylefall_k13_whole_under_other_names) (w := w) (base := base) (mg := mg) G_behind.F h_tuple
  have D_worth_among := d_worth_among (P := PySem.Challenge.pw_stylefall_k13_whole_under_other_names) (w := w) (base := base) (mg := mg) G_worth_among.F
  have D_runs_of := d_runs_of (P := PySem.Challenge.pw_stylefall_k13_whole_under_other_names) (w := w) (base := base) (mg := mg) G_runs_of.F h_len h_tuple h_sorted
  have D__law_renamed := d__law_renamed (P := PySem.Challenge.pw_stylefall_k13_whole_under_other_names) (w := w) (base := base) (mg := mg) G__law_renamed.F h_tuple
  have D__law_split := d__law_split (P := PySem.Challenge.pw_stylefall_k13_whole_under_other_names) (w := w) (base := base) (mg := mg) G__law_split.F h_range h_len h_str h_tuple
  have D__law_draw := d__law_draw (P := PySem.Challenge.pw_stylefall_k13_whole_under_other_names) (w := w) (base := base) (mg := mg) G__law_draw.F h_int h_len G__law_mixed D__law_mixed
  have D_is_word := d_is_word (P := PySem.Challenge.pw_stylefall_k13_whole_under_other_names) (w := w) (base := base) (mg := mg) G_is_word.F h_FIGURES h_all G_is_short D_is_short
  have D_is_name := d_is_name (P := PySem.Challenge.pw_stylefall_k13_whole_under_other_names) (w := w) (base := base) (mg := mg) G_is_name.F h_LETTERS h_all G_is_short D_is_short
  have D_is_sign := d_is_sign (P := PySem.Challenge.pw_stylefall_k13_whole_under_other_names) (w := w) (base := base) (mg := mg) G_is_sign.F G_is_letter D_is_letter
  have D_pass_code := d_pass_code (P := PySem.Challenge.pw_stylefall_k13_whole_under_other_names) (w := w) (base := base) (mg := mg) G_pass_code.F G_behind D_behind
  have D_shown_at := d_shown_at (P := PySem.Challenge.pw_stylefall_k13_whole_under_other_names) (w := w) (base := base) (mg := mg) G_shown_at.F G_is_letter D_is_letter
  have D_least_apart := d_least_apart (P := PySem.Challenge.pw_stylefall_k13_whole_under_other_names) (w := w) (base := base) (mg := mg) G_least_apart.F h_sorted G_worth_among D_worth_among
  have D_parting_entry := d_parting_entry (P := PySem.Challenge.pw_stylefall_k13_whole_under_other_names) (w := w) (base := base) (mg := mg) G_parting_entry.F G_worth_among D_worth_among
  have D_have_one_form := d_have_one_form (P := PySem.Challenge.pw_stylefall_k13_whole_under_other_names) (w := w) (base := base) (mg := mg) G_have_one_form.F G_runs_of D_runs_of
  have D__law_value := d__law_value (P := PySem.Challenge.pw_stylefall_k13_whole_under_other_names) (w := w) (base := base) (mg := mg) G__law_value.F G__law_draw D__law_draw
  have D__law_stream := d__law_stream (P := PySem.Challenge.pw_stylefall_k13_whole_under_other_names) (w := w) (base := base) (mg := mg) G__law_stream.F h_range h_len h_tuple G__law_draw D__law_draw
  have D__law_near := d__law_near (P := PySem.Challenge.pw_stylefall_k13_whole_under_other_names) (w := w) (base := base) (mg := mg) G__law_near.F h_list h_enumerate h_len h_tuple h_max G__law_draw D__law_draw
  have D_is_name_pair := d_is_name_pair (P := PySem.Challenge.pw_stylefall_k13_whole_under_other_names) (w := w) (base := base) (mg := mg) G_is_name_pair.F h_isinstance h_tuple h_len G_is_name D_is_name
  have D_are_names := d_are_names (P := PySem.Challenge.pw_stylefall_k13_whole_under_other_names) (w := w) (base := base) (mg := mg) G_are_names.F h_isinstance h_tuple h_len h_all G_is_name D_is_name G_ascend D_ascend
  have D_chains_shown := d_chains_shown (P := PySem.Challenge.pw_stylefall_k13_whole_under_other_names) (w := w) (base := base) (mg := mg) G_chains_shown.F h_tuple G_codes_by_word D_codes_by_word G_no_chains D_no_chains G_is_sign D_is_sign G_shown_at D_shown_at G_pass_code D_pass_code
  have D_look_alike := d_look_alike (P := PySem.Challenge.pw_stylefall_k13_whole_under_other_names) (w := w) (base := base) (mg := mg) G_look_alike.F h_zip h_all G_have_one_form D_have_one_form
  have D__law_book := d__law_book (P := PySem.Challenge.pw_stylefall_k13_whole_under_other_names) (w := w) (base := base) (mg := mg) G__law_book.F h_tuple h_range G__law_draw D__law_draw G__law_value D__law_value
  have D_are_gifts := d_are_gifts (P := PySem.Challenge.pw_stylefall_k13_whole_under_other_names) (w := w) (base := base) (mg := mg) G_are_gifts.F h_isinstance h_tuple h_len h_all G_is_name_pair D_is_name_pair G_ascend D_ascend
  have D_is_code := d_is_code (P := PySem.Challenge.pw_stylefall_k13_whole_under_other_names) (w := w) (base := base) (mg := mg) G_is_code.F h_isinstance h_tuple h_len h_all G_is_word D_is_word G_is_name D_is_name G_are_gifts D_are_gifts
  have D_need_codes := d_need_codes (P := PySem.Challenge.pw_stylefall_k13_whole_under_other_names) (w := w) (base := base) (mg := mg) G_need_codes.F h_MOST_KINDS h_enumerate h_len G_is_code D_is_code
  have D_need_book := d_need_book (P := PySem.Challenge.pw_stylefall_k13_whole_under_other_names) (w := w) (base := base) (mg := mg) G_need_book.F h_MOST_ASPECTS h_MOST_CODES h_isinstance h_tuple h_len h_all G_are_names D_are_names G_need_codes D_need_codes
  have D_need_stream := d_need_stream (P := PySem.Challenge.pw_stylefall_k13_whole_under_other_names) (w := w) (base := base) (mg := mg) G_need_stream.F h_MOST_ITEMS h_isinstance h_tuple h_len h_enumerate h_str G_need_book D_need_book G_words_of D_words_of G_is_sign D_is_sign
  have D_signs_of := d_signs_of (P := PySem.Challenge.pw_stylefall_k13_whole_under_other_names) (w := w) (base := base) (mg := mg) G_signs_of.F h_tuple G_need_stream D_need_stream G_is_sign D_is_sign
  have D_need_same_signs := d_need_same_signs (P := PySem.Challenge.pw_stylefall_k13_whole_under_other_names) (w := w) (base := base) (mg := mg) G_need_same_signs.F G_need_stream D_need_stream G_signs_of D_signs_of
  have D_parted := d_parted (P := PySem.Challenge.pw_stylefall_k13_whole_under_other_names) (w := w) (base := base) (mg := mg) G_parted.F h_enumerate h_zip h_len G_need_same_signs D_need_same_signs G_chains_shown D_chains_shown G_least_apart D_least_apart G_parting_entry D_parting_entry
  have D_alike := d_alike (P := PySem.Challenge.pw_stylefall_k13_whole_under_other_names) (w := w) (base := base) (mg := mg) G_alike.F G_need_same_signs D_need_same_signs G_look_alike D_look_alike G_chains_shown D_chains_shown
  have D__law_told := d__law_told (P := PySem.Challenge.pw_stylefall_k13_whole_under_other_names) (w := w) (base := base) (mg := mg) G__law_told.F h_len G_parted D_parted G_alike D_alike
  exact d_law F h_range h_len G__law_begin D__law_begin G__law_book D__law_book G__law_stream D__law_stream G__law_near D__law_near G__law_told D__law_told G__law_renamed D__law_renamed G__law_split D__law_split
end
end Dk13
end
set_option Elab.async false
set_option linter.all false
set_option maxRecDepth 100000
open PySem PySem.W PyProof.Rows
set_option maxHeartbeats 0 in
theorem PySem.Challenge.cw_stylefall_k13_whole_under_other_names_holds : PySem.Challenge.rw_stylefall_k13_whole_under_other_names.Holds := by
  w_on; o_law; k_head; (case hw => w_witness2)
  k_fill
  refine TL.walk_T (l := PySem.Challenge.rw_stylefall_k13_whole_under_other_names) (n := 63) (k := 13) (x := "script") (F := SF.m_law_k13) rfl (by decide) rfl ⟨rfl, by decide, by decide⟩ (fun w h Y => PySem.W.kIn_of Y) ?F SF.law13_true
  case F =>
    intro w mg fa h KX G hmg
    refine' Dk13.all_mk KX G hmg ?e__law_begin ?e__law_mixed ?e_is_short ?e_ascend ?e_words_of ?e_is_letter ?e_codes_by_word ?e_no_chains ?e_behind ?e_worth_among ?e_runs_of ?e__law_renamed ?e__law_split ?e__law_draw ?e_is_word ?e_is_name ?e_is_sign ?e_pass_code ?e_shown_at ?e_least_apart ?e_parting_entry ?e_have_one_form ?e__law_value ?e__law_stream ?e__law_near ?e_is_name_pair ?e_are_names ?e_chains_shown ?e_look_alike ?e__law_book ?e_are_gifts ?e_is_code ?e_need_codes ?e_need_book ?e_need_stream ?e_signs_of ?e_need_same_signs ?e_parted ?e_alike ?e__law_told ?e_law ?g_LONGEST ?g_LETTERS ?g_FIGURES ?g_MOST_KINDS ?g_MOST_ASPECTS ?g_MOST_CODES ?g_MOST_ITEMS ?z_list ?z_int ?z_isinstance ?z_str ?z_len ?z_all ?z_range ?z_tuple ?z_sorted ?z_enumerate ?z_max ?z_zip
    (case e__law_begin => (refine' TL.fnIn_mk ?a ?l ?c ?k; (case a => k_is); (case l => k_is); (case c => k_is); (case k => k_is)))
    (case e__law_mixed => (refine' TL.fnIn_mk ?a ?l ?c ?k; (case a => k_is); (case l => k_is); (case c => k_is); (case k => k_is)))
    (case e_is_short => (refine' TL.fnIn_mk ?a ?l ?c ?k; (case a => k_is); (case l => k_is); (case c => k_is); (case k => k_is)))
    (case e_ascend => (refine' TL.fnIn_mk ?a ?l ?c ?k; (case a => k_is); (case l => k_is); (case c => k_is); (case k => k_is)))
    (case e_words_of => (refine' TL.fnIn_mk ?a ?l ?c ?k; (case a => k_is); (case l => k_is); (case c => k_is); (case k => k_is)))
    (case e_is_letter => (refine' TL.fnIn_mk ?a ?l ?c ?k; (case a => k_is); (case l => k_is); (case c => k_is); (case k => k_is)))
    (case e_codes_by_word => (refine' TL.fnIn_mk ?a ?l ?c ?k; (case a => k_is); (case l => k_is); (case c => k_is); (case k => k_is)))
    (case e_no_chains => (refine' TL.fnIn_mk ?a ?l ?c ?k; (case a => k_is); (case l => k_is); (case c => k_is); (case k => k_is)))
    (case e_behind => (refine' TL.fnIn_mk ?a ?l ?c ?k; (case a => k_is); (case l => k_is); (case c => k_is); (case k => k_is)))
    (case e_worth_among => (refine' TL.fnIn_mk ?a ?l ?c ?k; (case a => k_is); (case l => k_is); (case c => k_is); (case k => k_is)))
    (case e_runs_of => (refine' TL.fnIn_mk ?a ?l ?c ?k; (case a => k_is); (case l => k_is); (case c => k_is); (case k => k_is)))
    (case e__law_renamed => (refine' TL.fnIn_mk ?a ?l ?c ?k; (case a => k_is); (case l => k_is); (case c => k_is); (case k => k_is)))
    (case e__law_split => (refine' TL.fnIn_mk ?a ?l ?c ?k; (case a => k_is); (case l => k_is); (case c => k_is); (case k => k_is)))
    (case e__law_draw => (refine' TL.fnIn_mk ?a ?l ?c ?k; (case a => k_is); (case l => k_is); (case c => k_is); (case k => k_is)))
    (case e_is_word => (refine' TL.fnIn_mk ?a ?l ?c ?k; (case a => k_is); (case l => k_is); (case c => k_is); (case k => k_is)))
    (case e_is_name => (refine' TL.fnIn_mk ?a ?l ?c ?k; (case a => k_is); (case l => k_is); (case c => k_is); (case k => k_is)))
    (case e_is_sign => (refine' TL.fnIn_mk ?a ?l ?c ?k; (case a => k_is); (case l => k_is); (case c => k_is); (case k => k_is)))
    (case e_pass_code => (refine' TL.fnIn_mk ?a ?l ?c ?k; (case a => k_is); (case l => k_is); (case c => k_is); (case k => k_is)))
    (case e_shown_at => (refine' TL.fnIn_mk ?a ?l ?c ?k; (case a => k_is); (case l => k_is); (case c => k_is); (case k => k_is)))
    (case e_least_apart => (refine' TL.fnIn_mk ?a ?l ?c ?k; (case a => k_is); (case l => k_is); (case c => k_is); (case k => k_is)))
    (case e_parting_entry => (refine' TL.fnIn_mk ?a ?l ?c ?k; (case a => k_is); (case l => k_is); (case c => k_is); (case k => k_is)))
    (case e_have_one_form => (refine' TL.fnIn_mk ?a ?l ?c ?k; (case a => k_is); (case l => k_is); (case c => k_is); (case k => k_is)))
    (case e__law_value => (refine' TL.fnIn_mk ?a ?l ?c ?k; (case a => k_is); (case l => k_is); (case c => k_is); (case k => k_is)))
    (case e__law_stream => (refine' TL.fnIn_mk ?a ?l ?c ?k; (case a => k_is); (case l => k_is); (case c => k_is); (case k => k_is)))
    (case e__law_near => (refine' TL.fnIn_mk ?a ?l ?c ?k; (case a => k_is); (case l => k_is); (case c => k_is); (case k => k_is)))
    (case e_is_name_pair => (refine' TL.fnIn_mk ?a ?l ?c ?k; (case a => k_is); (case l => k_is); (case c => k_is); (case k => k_is)))
    (case e_are_names => (refine' TL.fnIn_mk ?a ?l ?c ?k; (case a => k_is); (case l => k_is); (case c => k_is); (case k => k_is)))
    (case e_chains_shown => (refine' TL.fnIn_mk ?a ?l ?c ?k; (case a => k_is); (case l => k_is); (case c => k_is); (case k => k_is)))
    (case e_look_alike => (refine' TL.fnIn_mk ?a ?l ?c ?k; (case a => k_is); (case l => k_is); (case c => k_is); (case k => k_is)))
    (case e__law_book => (refine' TL.fnIn_mk ?a ?l ?c ?k; (case a => k_is); (case l => k_is); (case c => k_is); (case k => k_is)))
    (case e_are_gifts => (refine' TL.fnIn_mk ?a ?l ?c ?k; (case a => k_is); (case l => k_is); (case c => k_is); (case k => k_is)))
    (case e_is_code => (refine' TL.fnIn_mk ?a ?l ?c ?k; (case a => k_is); (case l => k_is); (case c => k_is); (case k => k_is)))
    (case e_need_codes => (refine' TL.fnIn_mk ?a ?l ?c ?k; (case a => k_is); (case l => k_is); (case c => k_is); (case k => k_is)))
    (case e_need_book => (refine' TL.fnIn_mk ?a ?l ?c ?k; (case a => k_is); (case l => k_is); (case c => k_is); (case k => k_is)))
    (case e_need_stream => (refine' TL.fnIn_mk ?a ?l ?c ?k; (case a => k_is); (case l => k_is); (case c => k_is); (case k => k_is)))
    (case e_signs_of => (refine' TL.fnIn_mk ?a ?l ?c ?k; (case a => k_is); (case l => k_is); (case c => k_is); (case k => k_is)))
    (case e_need_same_signs => (refine' TL.fnIn_mk ?a ?l ?c ?k; (case a => k_is); (case l => k_is); (case c => k_is); (case k => k_is)))
    (case e_parted => (refine' TL.fnIn_mk ?a ?l ?c ?k; (case a => k_is); (case l => k_is); (case c => k_is); (case k => k_is)))
    (case e_alike => (refine' TL.fnIn_mk ?a ?l ?c ?k; (case a => k_is); (case l => k_is); (case c => k_is); (case k => k_is)))
    (case e__law_told => (refine' TL.fnIn_mk ?a ?l ?c ?k; (case a => k_is); (case l => k_is); (case c => k_is); (case k => k_is)))
    (case e_law => (refine' TL.fnIn_mk ?a ?l ?c ?k; (case a => k_is); (case l => k_is); (case c => k_is); (case k => k_is)))
    (case g_LONGEST => (refine' TL.some_mk ?a; (case a => k_is)))
    (case g_LETTERS => (refine' TL.some_mk ?a; (case a => k_is)))
    (case g_FIGURES => (refine' TL.some_mk ?a; (case a => k_is)))
    (case g_MOST_KINDS => (refine' TL.some_mk ?a; (case a => k_is)))
    (case g_MOST_ASPECTS => (refine' TL.some_mk ?a; (case a => k_is)))
    (case g_MOST_CODES => (refine' TL.some_mk ?a; (case a => k_is)))
    (case g_MOST_ITEMS => (refine' TL.some_mk ?a; (case a => k_is)))
    (case z_list => k_is)
    (case z_int => k_is)
    (case z_isinstance => k_is)
    (case z_str => k_is)
    (case z_len => k_is)
    (case z_all => k_is)
    (case z_range => k_is)
    (case z_tuple => k_is)
    (case z_sorted => k_is)
    (case z_enumerate => k_is)
    (case z_max => k_is)
    (case z_zip => k_is)
