import PyProof.Rows.All
import Wide.All
import OpenK.AllK
import Wide.FinOn
import HandS.ForMost
import HandS.ForExc
import HandS.Lambda
import KE.KDflt
import HandS.TryMany
import HandS.IsInst
import HandS.TupSets
import HandS.SetBool
import HandS.TupMul
import HandS.TupAny
import HandS.Small
import HandS.EndTab
import HandS.Conv
import HandS.ExcIs
import PySem.Challenge.RW_dartwebs_k01_webs_refused
set_option Elab.async false
set_option linter.all false
set_option maxRecDepth 100000
set_option maxHeartbeats 2000000
namespace Vai
open PySem L2

inductive A where
  | non | bl (b : Bool) | int (i : Int) | str (z : Str) | ref (l : Nat) | ty (n : String)
  deriving DecidableEq
inductive O where
  | lst (xs : List A) | tup (xs : List A) | scr (ns : List Int) | dic (kvs : List (Key × A)) | set (es : List (Nat × List Int)) | code | clo (id c : Nat) (d : Option Nat)
  deriving DecidableEq
/-- what never changes -/
def O.isScr : O → Bool
  | .lst _ => false
  | .dic _ => false
  | .set _ => false
  | _ => true
/-- a lambda of the text -/
structure LamI where
  params : Arguments
  body : Expr
  scope : Scope
/-- a value of ours, and one of the layer's, at the places r -/
def RA (r : List Addr) : A → V → Prop
  | .non, v => v = .non
  | .bl b, v => v = .bl b
  | .int i, v => v = .int i
  | .str z, v => v = .str z
  | .ty n, v => v = .ty n
  | .ref l, v => ∃ p, r[l]? = some p ∧ v = .ref p
/-- what the text gives: its written part, the tables of its code objects, its classes of errors -/
structure Tx where
  P : Program
  w : World
  K : PySem.W.Frag
  T : List (Addr × Str)
  cl : Nat → Addr
  ql : Str
  cells : List (Str × Addr)
  lam : Nat → LamI
/-- a lambda's object -/
def CloO (t : Tx) (p : Addr) (i : LamI) (dV : Value) (c' : Addr) : HO := .ext fun h => ∃ (doc pm ctv : Value), h.get? p = some (PySem.W.kdv_obj "<lambda>" t.ql i.params (.expr i.body) i.scope (L2.cloFrom t.cells i.scope.names []) dV doc pm c' ctv)
def RO (t : Tx) (r : List Addr) (H : Hp) (p : Addr) : O → Prop
  | .lst xs => ∃ vs, H p = some (.lst vs) ∧ Paired (RA r) xs vs
  | .tup xs => ∃ vs, H p = some (.tup vs) ∧ Paired (RA r) xs vs
  | .scr ns => (∃ o, H p = some (.frz o (.lst (ns.map V.int)))) ∨ SqL t.K (fun _ => none) p (ns.map V.int)
  | .dic ks => ∃ ws, H p = some (.dK ws) ∧ Paired (fun (a : Key × A) (b : Key × V) => a.1 = b.1 ∧ RA r a.2 b.2) ks ws
  | .set es => ∃ L L0, H p = some (SetTO t.P t.w p L) ∧ Paired (fun (e : Nat × List Int) (q : Addr × List Int) => r[e.1]? = some q.1 ∧ e.2 = q.2) es L0 ∧ L.Perm L0
  | .code => H p = some (LamX.CodeO p t.ql)
  | .clo i c d => ∃ c' dV, r[c]? = some c' ∧ (match d with
      | none => dV = Value.none
      | some j => ∃ T0, r[j]? = some T0 ∧ dV = .ref T0) ∧ H p = some (CloO t p (t.lam i) dV c')
structure Rel (t : Tx) (r : List Addr) (S : List O) (H : Hp) : Prop where
  inj : ∀ (l m : Nat) (p : Addr) (o u : O), r[l]? = some p → r[m]? = some p → S[l]? = some o → S[m]? = some u → o.isScr = false → u.isScr = false → l = m
  len : r.length = S.length
  ob : ∀ (l : Nat) (p : Addr) (o : O), r[l]? = some p → S[l]? = some o → RO t r H p o
  tb : LamX.Tabs t.T H
abbrev Sa := List (Option A)
def RS (r : List Addr) (sa : Sa) (σ : St) : Prop := Paired (fun a v => ∀ x, a = some x → ∃ y, v = some y ∧ RA r x y) sa σ

/-- r' goes on behind r -/
def Ext (r r' : List Addr) : Prop := ∃ q, r' = r ++ q
theorem Ext.refl (r : List Addr) : Ext r r := ⟨[], (List.append_nil r).symm⟩
theorem Ext.trans {r s t : List Addr} (a : Ext r s) (b : Ext s t) : Ext r t := by
  obtain ⟨x, rfl⟩ := a
  obtain ⟨y, rfl⟩ := b
  exact ⟨x ++ y, List.append_assoc _ _ _⟩
theorem Ext.get {r r' : List Addr} (e : Ext r r') {l : Nat} {p : Addr} (h : r[l]? = some p) : r'[l]? = some p := by
  obtain ⟨q, rfl⟩ := e
  have hl : l < r.length := (List.getElem?_eq_some_iff.mp h).1
  rw [List.getElem?_append_left hl]
  exact h
theorem RA.ext {r r' : List Addr} (e : Ext r r') : ∀ {a : A} {v : V}, RA r a v → RA r' a v
  | .non, _, h => h
  | .bl _, _, h => h
  | .int _, _, h => h
  | .str _, _, h => h
  | .ty _, _, h => h
  | .ref _, _, ⟨p, h, q⟩ => ⟨p, e.get h, q⟩
theorem pr_mono {α β : Type} {F G : α → β → Prop} (k : ∀ a b, F a b → G a b) : ∀ {xs : List α} {ys : List β}, Paired F xs ys → Paired G xs ys
  | _, _, .nil => .nil
  | _, _, .cons h t => .cons (k _ _ h) (pr_mono k t)
theorem RAs.ext {r r' : List Addr} (e : Ext r r') {xs : List A} {vs : List V} (h : Paired (RA r) xs vs) : Paired (RA r') xs vs := pr_mono (fun _ _ => RA.ext e) h
theorem RS.ext {r r' : List Addr} (e : Ext r r') {sa : Sa} {σ : St} (h : RS r sa σ) : RS r' sa σ :=
  pr_mono (fun a v q x hx => by obtain ⟨y, h1, h2⟩ := q x hx; exact ⟨y, h1, h2.ext e⟩) h
theorem pr_get {α β : Type} {F : α → β → Prop} : ∀ {xs : List α} {ys : List β} {i : Nat} {x : α}, Paired F xs ys → xs[i]? = some x → ∃ y, ys[i]? = some y ∧ F x y
  | _, _, 0, x, .cons (b := b) h t, e => ⟨b, rfl, by cases e; exact h⟩
  | _, _, i + 1, x, .cons h t, e => by
    obtain ⟨y, h1, h2⟩ := pr_get (i := i) t e
    exact ⟨y, h1, h2⟩
theorem pr_set {α β : Type} {F : α → β → Prop} {x : α} {y : β} (q : F x y) : ∀ {xs : List α} {ys : List β} (i : Nat), Paired F xs ys → Paired F (xs.set i x) (ys.set i y)
  | _, _, _, .nil => .nil
  | _, _, 0, .cons h t => .cons q t
  | _, _, i + 1, .cons h t => .cons h (pr_set q i t)
theorem pr_app {α β : Type} {F : α → β → Prop} : ∀ {xs xs' : List α} {ys ys' : List β}, Paired F xs ys → Paired F xs' ys' → Paired F (xs ++ xs') (ys ++ ys')
  | _, _, _, _, .nil, t => t
  | _, _, _, _, .cons h q, t => .cons h (pr_app q t)
theorem pr_len {α β : Type} {F : α → β → Prop} : ∀ {xs : List α} {ys : List β}, Paired F xs ys → xs.length = ys.length
  | _, _, .nil => rfl
  | _, _, .cons h t => congrArg (· + 1) (pr_len t)
theorem RS.get {r : List Addr} {sa : Sa} {σ : St} (h : RS r sa σ) {i : Nat} {a : A} (e : sa[i]? = some (some a)) : ∃ v, σ[i]? = some (some v) ∧ RA r a v := by
  obtain ⟨y, h1, h2⟩ := pr_get h e
  obtain ⟨v, rfl, h3⟩ := h2 a rfl
  exact ⟨v, h1, h3⟩
theorem RS.set {r : List Addr} {sa : Sa} {σ : St} (h : RS r sa σ) {a : A} {v : V} (q : RA r a v) (i : Nat) : RS r (sa.set i (some a)) (σ.set i (some v)) :=
  pr_set (fun x e => by cases e; exact ⟨v, rfl, q⟩) i h

/-! ### what is new, what is written -/
theorem RO.ext {t : Tx} {r r' : List Addr} {H : Hp} {p : Addr} (e : Ext r r') : ∀ {o : O}, RO t r H p o → RO t r' H p o
  | .lst _, ⟨vs, h, q⟩ => ⟨vs, h, RAs.ext e q⟩
  | .tup _, ⟨vs, h, q⟩ => ⟨vs, h, RAs.ext e q⟩
  | .scr _, h => h
  | .dic _, ⟨ws, h, q⟩ => ⟨ws, h, pr_mono (fun _ _ z => ⟨z.1, z.2.ext e⟩) q⟩
  | .set _, ⟨L, L0, h, q, pm⟩ => ⟨L, L0, h, pr_mono (fun _ _ z => ⟨e.get z.1, z.2⟩) q, pm⟩
  | .code, h => h
  | .clo _ _ none, ⟨c', dV, h1, h2, h3⟩ => ⟨c', dV, e.get h1, h2, h3⟩
  | .clo _ _ (some _), ⟨c', dV, h1, ⟨T0, h2, h4⟩, h3⟩ => ⟨c', dV, e.get h1, ⟨T0, e.get h2, h4⟩, h3⟩
/-- the heap changed elsewhere -/
theorem RO.heap {t : Tx} {r : List Addr} {H H' : Hp} {p : Addr} : ∀ {o : O}, RO t r H p o → (∀ u, H p = some u → H' p = some u) → RO t r H' p o
  | .lst _, ⟨vs, h, q⟩, k => ⟨vs, k _ h, q⟩
  | .tup _, ⟨vs, h, q⟩, k => ⟨vs, k _ h, q⟩
  | .scr _, h, k => h.imp (fun ⟨o, z⟩ => ⟨o, k _ z⟩) id
  | .dic _, ⟨ws, h, q⟩, k => ⟨ws, k _ h, q⟩
  | .set _, ⟨L, L0, h, q⟩, k => ⟨L, L0, k _ h, q⟩
  | .code, h, k => k _ h
  | .clo _ _ _, ⟨c', dV, h1, h2, h3⟩, k => ⟨c', dV, h1, h2, k _ h3⟩
theorem RO.there {t : Tx} {r : List Addr} {H : Hp} {p : Addr} : ∀ {o : O}, RO t r H p o → o.isScr = false → ∃ u, H p = some u ∧ ∀ ps, u ≠ .tbl ps
  | .lst _, ⟨vs, h, q⟩, _ => ⟨_, h, fun _ z => by cases z⟩
  | .tup _, _, k => by cases k
  | .code, _, k => by cases k
  | .clo _ _ _, _, k => by cases k
  | .scr _, h, k => by cases k
  | .dic _, ⟨ws, h, q⟩, _ => ⟨_, h, fun _ z => by cases z⟩
  | .set _, ⟨L, L0, h, q⟩, _ => ⟨_, h, fun _ z => by unfold SetTO at z; cases z⟩
/-- a code object is no set of tuples -/
theorem code_not_set {P : Program} {w : World} {c p : Addr} {q : Str} {L : List (Addr × List Int)} (e : LamX.CodeO c q = SetTO P w p L) : c ≠ p := fun hc => by
  subst hc
  unfold LamX.CodeO SetTO at e
  have e2 := HO.ext.inj e
  let oc : Obj := { cls := .none, data := .fields #[.none, .str q 0] }
  let h : Heap := { objs := (List.replicate c oc ++ [oc]).toArray }
  have hg : h.get? c = some oc := by
    have g0 : h.objs[c]? = some oc := by
      show (List.replicate c oc ++ [oc]).toArray[c]? = some oc
      simp
    unfold Heap.get?
    rw [g0]
  have h1 : ∃ (oc : Obj) (vs : Array Value) (t : Tok), h.get? c = some oc ∧ oc.data = .fields vs ∧ vs[1]? = some (.str q t) := ⟨oc, #[.none, .str q 0], 0, hg, rfl, rfl⟩
  have h2 : SetT0 P w h c L := (congrFun e2 h) ▸ h1
  obtain ⟨es, ep, t, ⟨o, ho, _, hd⟩, _⟩ := h2.ex
  rw [hg] at ho
  cases ho
  cases hd
theorem clo_not_set {t : Tx} {P : Program} {w : World} {p : Addr} {i : LamI} {dV : Value} {c' : Addr} {L : List (Addr × List Int)} (e : CloO t p i dV c' = SetTO P w p L) : False := by
  unfold CloO SetTO at e
  have e2 := HO.ext.inj e
  let oc : Obj := PySem.W.kdv_obj "<lambda>" t.ql i.params (.expr i.body) i.scope (L2.cloFrom t.cells i.scope.names []) dV .none .none c' .none
  let h : Heap := { objs := (List.replicate p oc ++ [oc]).toArray }
  have hg : h.get? p = some oc := by
    have g0 : h.objs[p]? = some oc := by
      show (List.replicate p oc ++ [oc]).toArray[p]? = some oc
      simp
    unfold Heap.get?
    rw [g0]
  have h2 : SetT0 P w h p L := (congrFun e2 h) ▸ (⟨.none, .none, .none, hg⟩ : ∃ (doc pm ctv : Value), h.get? p = some (PySem.W.kdv_obj "<lambda>" t.ql i.params (.expr i.body) i.scope (L2.cloFrom t.cells i.scope.names []) dV doc pm c' ctv))
  obtain ⟨es, ep, tb, ⟨o, ho, _, hd⟩, _⟩ := h2.ex
  rw [hg] at ho
  cases ho
  cases hd
theorem Ext.snoc (r : List Addr) (p : Addr) : Ext r (r ++ [p]) := ⟨[p], rfl⟩
theorem get_snoc {α : Type} {xs : List α} {x y : α} {i : Nat} (h : (xs ++ [x])[i]? = some y) : xs[i]? = some y ∨ (i = xs.length ∧ y = x) := by
  by_cases hi : i < xs.length
  · rw [List.getElem?_append_left hi] at h
    exact .inl h
  · rw [List.getElem?_append_right (by omega)] at h
    by_cases h2 : i = xs.length
    · subst h2
      simp at h
      exact .inr ⟨rfl, h.symm⟩
    · rw [List.getElem?_eq_none (by simp; omega)] at h
      cases h
theorem get_snoc_new {α : Type} (xs : List α) (x : α) : (xs ++ [x])[xs.length]? = some x := by simp
/-- a new object -/
theorem Rel.new {t : Tx} {r : List Addr} {S : List O} {H : Hp} {p : Addr} {u : HO} {o : O} (R : Rel t r S H) (hp : H p = none) (ho : RO t (r ++ [p]) (upd H p u) p o) : Rel t (r ++ [p]) (S ++ [o]) (upd H p u) := by
  have old : ∀ (l : Nat) (q : Addr) (v : O), r[l]? = some q → S[l]? = some v → v.isScr = false → q ≠ p := fun l q v h1 h2 h3 z => by
    obtain ⟨w, e, _⟩ := (R.ob l q v h1 h2).there h3
    rw [z, hp] at e
    cases e
  refine ⟨fun l m q a b h1 h2 h3 h4 s1 s2 => ?_, by rw [List.length_append, List.length_append, R.len]; rfl, fun l q a h1 h2 => ?_, R.tb.ext fun b w e => by rw [upd_ne (ne_of_none e hp)]; exact e⟩
  · rcases get_snoc h1 with h1 | ⟨h1, e1⟩ <;> rcases get_snoc h2 with h2 | ⟨h2, e2⟩
    · rcases get_snoc h3 with h3 | ⟨h3, _⟩
      · rcases get_snoc h4 with h4 | ⟨h4, _⟩
        · exact R.inj l m q a b h1 h2 h3 h4 s1 s2
        · have := (List.getElem?_eq_some_iff.mp h2).1
          rw [R.len] at this
          omega
      · have := (List.getElem?_eq_some_iff.mp h1).1
        rw [R.len] at this
        omega
    · rcases get_snoc h3 with h3 | ⟨h3, _⟩
      · exact absurd e2 (old l q a h1 h3 s1)
      · have := (List.getElem?_eq_some_iff.mp h1).1
        rw [R.len] at this
        omega
    · rcases get_snoc h4 with h4 | ⟨h4, _⟩
      · exact absurd e1 (old m q b h2 h4 s2)
      · have := (List.getElem?_eq_some_iff.mp h2).1
        rw [R.len] at this
        omega
    · rw [h1, h2]
  · rcases get_snoc h1 with h1 | ⟨h1, e1⟩
    · rcases get_snoc h2 with h2 | ⟨h2, _⟩
      · exact ((R.ob l q a h1 h2).ext (Ext.snoc r p)).heap fun w e => by rw [upd_ne (ne_of_none e hp)]; exact e
      · have := (List.getElem?_eq_some_iff.mp h1).1
        rw [R.len] at this
        omega
    · rcases get_snoc h2 with h2 | ⟨h2, e2⟩
      · have := (List.getElem?_eq_some_iff.mp h2).1
        rw [← R.len] at this
        omega
      · rw [e1, e2]
        exact ho
/-- an object changed -/
theorem Rel.put {t : Tx} {r : List Addr} {S : List O} {H : Hp} {p : Addr} {u w : HO} {o o' : O} {l : Nat} (R : Rel t r S H) (hl : r[l]? = some p) (ho : S[l]? = some o) (hs : o.isScr = false) (hs' : o'.isScr = false) (hw : H p = some w) (hf : ∀ x y, w ≠ .frz x y)
    (hn : RO t r (upd H p u) p o') : Rel t r (S.set l o') (upd H p u) := by
  have hlt : l < S.length := (List.getElem?_eq_some_iff.mp ho).1
  obtain ⟨w', e', nt⟩ := (R.ob l p o hl ho).there hs
  refine ⟨fun i m q a b h1 h2 h3 h4 s1 s2 => ?_, by rw [List.length_set]; exact R.len, fun i q a h1 h2 => ?_, fun z hz => ?_⟩
  · have back : ∀ (j : Nat) (c : O), (S.set l o')[j]? = some c → c.isScr = false → ∃ d, S[j]? = some d ∧ d.isScr = false := fun j c h s => by
      by_cases hj : l = j
      · subst hj
        exact ⟨o, ho, hs⟩
      · rw [List.getElem?_set_ne hj] at h
        exact ⟨c, h, s⟩
    obtain ⟨a', g1, g2⟩ := back i a h3 s1
    obtain ⟨b', g3, g4⟩ := back m b h4 s2
    exact R.inj i m q a' b' h1 h2 g1 g3 g2 g4
  · by_cases hj : l = i
    · subst hj
      rw [List.getElem?_set_self hlt] at h2
      cases h2
      rw [hl] at h1
      cases h1
      exact hn
    · rw [List.getElem?_set_ne hj] at h2
      have x := R.ob i q a h1 h2
      by_cases hq : q = p
      · subst hq
        cases hsc : a.isScr with
        | false => exact absurd (R.inj l i q o a hl h1 ho h2 hs hsc) hj
        | true =>
          have y := R.ob l q o hl ho
          cases a with
          | scr ns =>
            rcases x with ⟨ob, z⟩ | z
            · rw [hw] at z
              cases z
              exact absurd rfl (hf _ _)
            · exact .inr z
          | tup as =>
            obtain ⟨vs, z, _⟩ := x
            cases o with
            | lst _ => obtain ⟨us, z2, _⟩ := y; rw [z2] at z; cases z
            | dic _ => obtain ⟨us, z2, _⟩ := y; rw [z2] at z; cases z
            | set _ => obtain ⟨L, L0, z2, _⟩ := y; rw [z2] at z; unfold SetTO at z; cases z
            | _ => cases hs
          | code =>
            have z : H q = some (LamX.CodeO q t.ql) := x
            cases o with
            | lst _ => obtain ⟨us, z2, _⟩ := y; rw [z2] at z; unfold LamX.CodeO at z; cases z
            | dic _ => obtain ⟨us, z2, _⟩ := y; rw [z2] at z; unfold LamX.CodeO at z; cases z
            | set _ => obtain ⟨L, L0, z2, _⟩ := y; rw [z2] at z; exact absurd rfl (code_not_set (Option.some.inj z.symm))
            | _ => cases hs
          | clo i c d =>
            obtain ⟨c', dV, _, _, z⟩ := x
            cases o with
            | lst _ => obtain ⟨us, z2, _⟩ := y; rw [z2] at z; unfold CloO at z; cases z
            | dic _ => obtain ⟨us, z2, _⟩ := y; rw [z2] at z; unfold CloO at z; cases z
            | set _ => obtain ⟨L, L0, z2, _⟩ := y; rw [z2] at z; exact (clo_not_set (Option.some.inj z.symm)).elim
            | _ => cases hs
          | _ => cases hsc
      · exact x.heap fun w e => by rw [upd_ne hq]; exact e
  · obtain ⟨ps, h1, h2, h3⟩ := R.tb z hz
    have n1 : z.1 ≠ p := fun q => by
      rw [q, e'] at h1
      exact nt ps (Option.some.inj h1)
    refine ⟨ps, by rw [upd_ne n1]; exact h1, h2, fun pos cv hc => ?_⟩
    obtain ⟨c, e1, e2⟩ := h3 pos cv hc
    refine ⟨c, e1, ?_⟩
    have n2 : c ≠ p := fun q => by
      rw [q] at e2
      have y := R.ob l p o hl ho
      cases o with
      | lst xs => obtain ⟨vs, a, _⟩ := y; rw [e2] at a; unfold LamX.CodeO at a; cases a
      | tup xs => cases hs
      | scr ns => cases hs
      | code => cases hs
      | clo _ _ _ => cases hs
      | dic ks => obtain ⟨vs, a, _⟩ := y; rw [e2] at a; unfold LamX.CodeO at a; cases a
      | set es => obtain ⟨L, L0, a, _⟩ := y; rw [e2] at a; exact code_not_set (Option.some.inj a) rfl
    rw [upd_ne n2]
    exact e2
end Vai
set_option maxRecDepth 100000
set_option maxHeartbeats 2000000
namespace Vai
open PySem L2

/-! ### results -/
inductive R where
  | ok (a : A) (S : List O)
  | er (c : Nat) (S : List O)
inductive RL where
  | ok (as : List A) (S : List O)
  | er (c : Nat) (S : List O)
inductive RF where
  | nx (sa : Sa) (S : List O)
  | rt (a : A) (S : List O)
  | bk (sa : Sa) (S : List O)
  | ct (sa : Sa) (S : List O)
  | er (c : Nat) (sa : Sa) (S : List O)
abbrev F := Sa → List O → Option R
abbrev FL := Sa → List O → Option RL
abbrev FS := Sa → List O → Option RF
/-- what a def does: of its arguments and the store -/
abbrev FD := List A → List O → Option R
def PostE (t : Tx) (W : WX) (σ : St) (Q : VK) (r : List Addr) : R → Prop
  | .ok a S => ∀ (r' : List Addr) (H : Hp) (v : V), Ext r r' → Rel t r' S H → RA r' a v → Q v H
  | .er c S => ∀ (r' : List Addr) (H : Hp), Ext r r' → Rel t r' S H → W (.ref (t.cl c)) none σ H
def PostL (t : Tx) (W : WX) (σ : St) (Q : List V → Hp → Prop) (r : List Addr) : RL → Prop
  | .ok as S => ∀ (r' : List Addr) (H : Hp) (vs : List V), Ext r r' → Rel t r' S H → Paired (RA r') as vs → Q vs H
  | .er c S => ∀ (r' : List Addr) (H : Hp), Ext r r' → Rel t r' S H → W (.ref (t.cl c)) none σ H
def PostS (t : Tx) (W : WX) (D : Ends) (r : List Addr) : RF → Prop
  | .nx sa S => ∀ (r' : List Addr) (H : Hp) (σ : St), Ext r r' → Rel t r' S H → RS r' sa σ → D.nx σ H
  | .rt a S => ∀ (r' : List Addr) (H : Hp) (v : V), Ext r r' → Rel t r' S H → RA r' a v → D.rt v H
  | .bk sa S => ∀ (r' : List Addr) (H : Hp) (σ : St), Ext r r' → Rel t r' S H → RS r' sa σ → D.bk σ H
  | .ct sa S => ∀ (r' : List Addr) (H : Hp) (σ : St), Ext r r' → Rel t r' S H → RS r' sa σ → D.ct σ H
  | .er c sa S => ∀ (r' : List Addr) (H : Hp) (σ : St), Ext r r' → Rel t r' S H → RS r' sa σ → W (.ref (t.cl c)) none σ H
def lift (t : Tx) (W : WX) (f : F) : TE := fun σ H Q => ∃ r sa S x, Rel t r S H ∧ RS r sa σ ∧ f sa S = some x ∧ PostE t W σ Q r x
def liftL (t : Tx) (W : WX) (f : FL) : TA := fun σ H Q => ∃ r sa S x, Rel t r S H ∧ RS r sa σ ∧ f sa S = some x ∧ PostL t W σ Q r x
def liftS (t : Tx) (W : WX) (f : FS) : TS := fun D σ H => ∃ r sa S x, Rel t r S H ∧ RS r sa σ ∧ f sa S = some x ∧ PostS t W D r x
/-- a test -/
abbrev liftB (t : Tx) (W : WX) (f : F) : TT := tB (lift t W f)
theorem PostE.ext {t : Tx} {W : WX} {σ : St} {Q : VK} {r r' : List Addr} (e : Ext r r') : ∀ {x : R}, PostE t W σ Q r x → PostE t W σ Q r' x
  | .ok _ _, h => fun r2 H v e2 => h r2 H v (e.trans e2)
  | .er _ _, h => fun r2 H e2 => h r2 H (e.trans e2)
theorem PostL.ext {t : Tx} {W : WX} {σ : St} {Q : List V → Hp → Prop} {r r' : List Addr} (e : Ext r r') : ∀ {x : RL}, PostL t W σ Q r x → PostL t W σ Q r' x
  | .ok _ _, h => fun r2 H v e2 => h r2 H v (e.trans e2)
  | .er _ _, h => fun r2 H e2 => h r2 H (e.trans e2)
theorem PostS.ext {t : Tx} {W : WX} {D : Ends} {r r' : List Addr} (e : Ext r r') : ∀ {x : RF}, PostS t W D r x → PostS t W D r' x
  | .nx _ _, h => fun r2 H v e2 => h r2 H v (e.trans e2)
  | .rt _ _, h => fun r2 H v e2 => h r2 H v (e.trans e2)
  | .bk _ _, h => fun r2 H v e2 => h r2 H v (e.trans e2)
  | .ct _ _, h => fun r2 H v e2 => h r2 H v (e.trans e2)
  | .er _ _ _, h => fun r2 H v e2 => h r2 H v (e.trans e2)

/-! ### one behind another -/
def bnd (f : F) (k : A → F) : F := fun sa S => match f sa S with
  | some (.ok a S') => k a sa S'
  | some (.er c S') => some (.er c S')
  | none => none
section
variable {t : Tx} {W : WX} {σ : St} {H : Hp} {Q : VK} {r : List Addr} {sa : Sa} {S : List O} {x : R}
theorem go_bnd {f : F} {k : A → F} (R : Rel t r S H) (rs : RS r sa σ) (e : bnd f k sa S = some x) (p : PostE t W σ Q r x) :
    lift t W f σ H (fun v H2 => ∃ r' S' a, Ext r r' ∧ Rel t r' S' H2 ∧ RS r' sa σ ∧ RA r' a v ∧ k a sa S' = some x ∧ PostE t W σ Q r' x) := by
  unfold bnd at e
  cases hf : f sa S with
  | none =>
    rw [hf] at e
    cases e
  | some y =>
    rw [hf] at e
    cases y with
    | ok a S' => exact ⟨r, sa, S, _, R, rs, hf, fun r' H' v ex R' ra => ⟨r', S', a, ex, R', rs.ext ex, ra, e, p.ext ex⟩⟩
    | er c S' =>
      cases e
      exact ⟨r, sa, S, _, R, rs, hf, p⟩
end
theorem _root_.L2.PE.weak {X : Cx} {e : Expr} {t1 t2 : TE} (h : PE X e t1) (k : ∀ σ H Q, t2 σ H Q → t1 σ H Q) : PE X e t2 := ⟨fun pins s σ H Q I q => h.run pins s σ H Q I (k _ _ _ q)⟩
theorem _root_.L2.PT.weak {X : Cx} {e : Expr} {t1 t2 : TT} (h : PT X e t1) (k : ∀ σ H Q, t2 σ H Q → t1 σ H Q) : PT X e t2 := ⟨fun pins s σ H Q I q => h.run pins s σ H Q I (k _ _ _ q)⟩
theorem _root_.L2.PW.weak {X : Cx} {e : Expr} {t1 t2 : TT} (h : PW X e t1) (k : ∀ σ H Q, t2 σ H Q → t1 σ H Q) : PW X e t2 := ⟨fun wh pins s σ H Q I q => h.run wh pins s σ H Q I (k _ _ _ q)⟩
theorem _root_.L2.PA.weak {X : Cx} {es : List Expr} {t1 t2 : TA} (h : PA X es t1) (k : ∀ σ H Q, t2 σ H Q → t1 σ H Q) : PA X es t2 := ⟨fun pos pins s σ H Q I q => h.run pos pins s σ H Q I (k _ _ _ q)⟩
theorem _root_.L2.PS.weak {X : Cx} {e : Stmt} {t1 t2 : TS} (h : PS X e t1) (k : ∀ D σ H, t2 D σ H → t1 D σ H) : PS X e t2 := ⟨fun pins s σ H D I q => h.run pins s σ H D I (k _ _ _ q)⟩
theorem _root_.L2.PSs.weak {X : Cx} {e : List Stmt} {t1 t2 : TS} (h : PSs X e t1) (k : ∀ D σ H, t2 D σ H → t1 D σ H) : PSs X e t2 := ⟨fun pins s σ H D I q => h.run pins s σ H D I (k _ _ _ q)⟩

/-! ### names, constants -/
def varF (i : Nat) : F := fun sa S => match sa[i]? with
  | some (some a) => some (.ok a S)
  | _ => none
def conF (a : A) : F := fun _ S => some (.ok a S)
section
variable {X : Cx} {t : Tx} {W : WX}
theorem v_var (i : Nat) {x : Str} {pos : Pos} (hN : X.N[i]? = some x := by rfl) (hv : Vis X.env.scope x := by first | exact Or.inl rfl | exact Or.inr (Or.inl rfl) | exact Or.inr (Or.inr rfl)) (hd : (x == ("__debug__" : Str)) = false := by decide)
    (hcd : (x == ("__classdict__" : Str)) = false := by decide) : PE X (.Name x pos) (lift t W (varF i)) := (pe_var hN hv hd hcd).weak fun σ H Q h => by
  obtain ⟨r, sa, S, y, R, rs, e, p⟩ := h
  unfold varF at e
  split at e
  · rename_i a ha
    cases e
    obtain ⟨v, h1, h2⟩ := rs.get ha
    exact ⟨v, h1, p r H v (Ext.refl r) R h2⟩
  · cases e
theorem con_ok {a : A} {v : V} (h : ∀ r : List Addr, RA r a v) {σ : St} {H : Hp} {Q : VK} (q : lift t W (conF a) σ H Q) : tC v σ H Q := by
  obtain ⟨r, sa, S, y, R, rs, e, p⟩ := q
  cases e
  exact p r H v (Ext.refl r) R (h r)
theorem v_int {i : Int} {j pos} : PE X (.Constant (.int i) j pos) (lift t W (conF (.int i))) := pe_int.weak fun _ _ _ h => con_ok (a := .int i) (v := .int i) (fun _ => rfl) h
theorem v_bl {b : Bool} {j pos} : PE X (.Constant (.bool b) j pos) (lift t W (conF (.bl b))) := pe_bl.weak fun _ _ _ h => con_ok (a := .bl b) (v := .bl b) (fun _ => rfl) h
theorem v_non {j pos} : PE X (.Constant .none j pos) (lift t W (conF .non)) := pe_non.weak fun _ _ _ h => con_ok (a := .non) (v := .non) (fun _ => rfl) h
theorem v_str {z : Str} {j pos} : PE X (.Constant (.str z) j pos) (lift t W (conF (.str z))) := pe_str.weak fun _ _ _ h => con_ok (a := .str z) (v := .str z) (fun _ => rfl) h
/-- a module's constant that is an int -/
theorem v_gint {x : Str} {i : Int} {u : Value} {pos : Pos} (hm : X.mg x = some u) (r : RelV (.int i) u) (hg : Gl X x := by rfl) (hd : (x == ("__debug__" : Str)) = false := by decide) : PE X (.Name x pos) (lift t W (conF (.int i))) :=
  (pe_glob hg hm r hd).weak fun _ _ _ h => con_ok (a := .int i) (v := .int i) (fun _ => rfl) h
/-- a built-in class as a value -/
theorem v_ty {x : Str} {n : String} {pos : Pos} (hm : X.mg x = none) (hv : bootBuiltins x = some (.type n)) (hg : Gl X x := by rfl) (hn : x ≠ "__name__" := by decide) (hd : (x == ("__debug__" : Str)) = false := by decide) : PE X (.Name x pos) (lift t W (conF (.ty n))) :=
  (pe_bltn (v := .ty n) hg hm hv rfl hn hd).weak fun _ _ _ h => con_ok (a := .ty n) (v := .ty n) (fun _ => rfl) h

/-! ### operators, comparisons -/
/-- what comes of values, without an error -/
abbrev G1 := A → List O → Option (A × List O)
abbrev G2 := A → A → List O → Option (A × List O)
def PostG (t : Tx) (Q : VK) (r : List Addr) (x : A × List O) : Prop := ∀ (r' : List Addr) (H : Hp) (v : V), Ext r r' → Rel t r' x.2 H → RA r' x.1 v → Q v H
def toR (x : Option (A × List O)) : Option R := match x with
  | some p => some (.ok p.1 p.2)
  | none => none
theorem toR_some {x : Option (A × List O)} {y : R} (e : toR x = some y) : ∃ p, x = some p ∧ y = .ok p.1 p.2 := by
  cases x with
  | none => cases e
  | some p =>
    cases e
    exact ⟨p, rfl, rfl⟩
def Sem2 (t : Tx) (g : G2) (ro : R2) : Prop := ∀ (r : List Addr) (S : List O) (H : Hp) (a b : A) (x y : V) (p : A × List O) (Q : VK), Rel t r S H → RA r a x → RA r b y → g a b S = some p → PostG t Q r p → ro x y H Q
def opF (g : G2) (fa fb : F) : F := bnd fa fun a => bnd fb fun b => fun _ S => toR (g a b S)
theorem op_ok {g : G2} {ro : R2} (hs : Sem2 t g ro) {fa fb : F} {σ : St} {H : Hp} {Q : VK} (h : lift t W (opF g fa fb) σ H Q) : tOp ro (lift t W fa) (lift t W fb) σ H Q := by
  obtain ⟨r, sa, S, x, R, rs, e, p⟩ := h
  obtain ⟨r1, sa1, S1, y, R1, rs1, e1, p1⟩ := go_bnd R rs e p
  refine ⟨r1, sa1, S1, y, R1, rs1, e1, ?_⟩
  cases y with
  | er c S' => exact p1
  | ok a0 S0 =>
    intro r' H' v ex R' ra
    obtain ⟨r2, S2, a, e2, R2, rs2, ra2, ek, p2⟩ := p1 r' H' v ex R' ra
    obtain ⟨r3, sa3, S3, z, R3, rs3, e3, p3⟩ := go_bnd R2 rs2 ek p2
    refine ⟨r3, sa3, S3, z, R3, rs3, e3, ?_⟩
    cases z with
    | er c S' => exact p3
    | ok b0 S4 =>
      intro r4 H4 u ex4 R4 rb
      obtain ⟨r5, S5, b, e5, R5, rs5, rb5, ek5, p5⟩ := p3 r4 H4 u ex4 R4 rb
      obtain ⟨q, h1, h2⟩ := toR_some ek5
      subst h2
      exact hs r5 S5 H4 a b v u q Q R5 (ra2.ext e5) rb5 h1 p5
theorem v_op {op : Operator} {ro : R2} {g : G2} {a b : Expr} {fa fb : F} {pos : Pos} (ho : OpR X (binaryOp op) ro) (hs : Sem2 t g ro) (ha : PE X a (lift t W fa)) (hb : PE X b (lift t W fb)) : PE X (.BinOp a op b pos) (lift t W (opF g fa fb)) :=
  (pe_op ho ha hb).weak fun _ _ _ h => op_ok hs h
theorem v_cmp {op : CmpOp} {ro : R2} {g : G2} {a b : Expr} {fa fb : F} {pos : Pos} (ho : OpR X (compareOp op) ro) (hs : Sem2 t g ro) (ha : PE X a (lift t W fa)) (hb : PE X b (lift t W fb)) (hm : behindInMarks op b = false := by first | exact nomark _ | rfl) :
    PE X (.Compare a [op] [b] pos) (lift t W (opF g fa fb)) := (pe_cmpR ho ha hb hm).weak fun _ _ _ h => op_ok hs h
theorem v_cmpT {op : CmpOp} {ro : R2} {g : G2} {a b : Expr} {fa fb : F} {pos : Pos} (ho : OpR X (compareOp op) ro) (hs : Sem2 t g ro) (ha : PE X a (lift t W fa)) (hb : PE X b (lift t W fb)) (hm : behindInMarks op b = false := by first | exact nomark _ | rfl) :
    PT X (.Compare a [op] [b] pos) (liftB t W (opF g fa fb)) := (pt_cmpR ho ha hb hm).weak fun _ _ _ h => op_ok hs h
theorem v_ix {ro : R2} {g : G2} {a b : Expr} {fa fb : F} {pos : Pos} (ho : IxR X ro) (hs : Sem2 t g ro) (ha : PE X a (lift t W fa)) (hb : PE X b (lift t W fb)) (hp : PlainIx b := by exact fun _ _ => rfl) : PE X (.Subscript a b pos) (lift t W (opF g fa fb)) :=
  (pe_ix ho ha hb hp).weak fun _ _ _ h => op_ok hs h
def Sem1 (t : Tx) (g : G1) (ro : V → Hp → VK → Prop) : Prop := ∀ (r : List Addr) (S : List O) (H : Hp) (a : A) (x : V) (p : A × List O) (Q : VK), Rel t r S H → RA r a x → g a S = some p → PostG t Q r p → ro x H Q
def unF (g : G1) (fa : F) : F := bnd fa fun a => fun _ S => toR (g a S)
theorem un_ok {g : G1} {ro : V → Hp → VK → Prop} (hs : Sem1 t g ro) {fa : F} {σ : St} {H : Hp} {Q : VK} (h : lift t W (unF g fa) σ H Q) : tUn ro (lift t W fa) σ H Q := by
  obtain ⟨r, sa, S, x, R, rs, e, p⟩ := h
  obtain ⟨r1, sa1, S1, y, R1, rs1, e1, p1⟩ := go_bnd R rs e p
  refine ⟨r1, sa1, S1, y, R1, rs1, e1, ?_⟩
  cases y with
  | er c S' => exact p1
  | ok a0 S0 =>
    intro r' H' v ex R' ra
    obtain ⟨r2, S2, a, e2, R2, rs2, ra2, ek, p2⟩ := p1 r' H' v ex R' ra
    obtain ⟨q, h1, h2⟩ := toR_some ek
    subst h2
    exact hs r2 S2 H' a v q Q R2 ra2 h1 p2
theorem v_neg {a : Expr} {fa : F} {pos : Pos} {g : G1} (hs : Sem1 t g (rU fun i => .int (-i))) (ha : PE X a (lift t W fa)) : PE X (.UnaryOp .USub a pos) (lift t W (unF g fa)) := (pe_un un_neg ha).weak fun _ _ _ h => un_ok hs h

/-! ### and, or, not, chains, if -/
def andF (fa fb : F) : F := bnd fa fun a => match a with
  | .bl true => fb
  | .bl false => conF (.bl false)
  | _ => fun _ _ => none
def orF (fa fb : F) : F := bnd fa fun a => match a with
  | .bl true => conF (.bl true)
  | .bl false => fb
  | _ => fun _ _ => none
def notF (fa : F) : F := bnd fa fun a => match a with
  | .bl b => conF (.bl (!b))
  | _ => fun _ _ => none
def ifF (ft fa fb : F) : F := bnd ft fun a => match a with
  | .bl true => fa
  | .bl false => fb
  | _ => fun _ _ => none
theorem step_bnd {f : F} {k : A → F} {σ : St} {H : Hp} {Q Q2 : VK} (h : lift t W (bnd f k) σ H Q) (hk : ∀ (r : List Addr) (S : List O) (sa : Sa) (a : A) (v : V) (H1 : Hp) (x : R), Rel t r S H1 → RS r sa σ → RA r a v → k a sa S = some x → PostE t W σ Q r x → Q2 v H1) : lift t W f σ H Q2 := by
  obtain ⟨r, sa, S, x, R, rs, e, p⟩ := h
  obtain ⟨r1, sa1, S1, y, R1, rs1, e1, p1⟩ := go_bnd R rs e p
  refine ⟨r1, sa1, S1, y, R1, rs1, e1, ?_⟩
  cases y with
  | er c S' => exact p1
  | ok a0 S0 =>
    intro r' H' v ex R' ra
    obtain ⟨r2, S2, a, e2, R2, rs2, ra2, ek, p2⟩ := p1 r' H' v ex R' ra
    exact hk r2 S2 sa a v H' x R2 rs2 ra2 ek p2
theorem and_okV {fa fb : F} {σ : St} {H : Hp} {Q : VK} (h : lift t W (andF fa fb) σ H Q) : tAndV (lift t W fa) (lift t W fb) σ H Q :=
  step_bnd h fun r S sa a v H1 x R rs ra e p => by
    cases a with
    | bl b =>
      cases ra
      refine ⟨b, rfl, ?_⟩
      cases b with
      | true => exact iteT ⟨r, sa, S, x, R, rs, e, p⟩
      | false =>
        cases e
        exact iteF (p r H1 _ (Ext.refl r) R rfl)
    | _ => cases e
theorem or_okV {fa fb : F} {σ : St} {H : Hp} {Q : VK} (h : lift t W (orF fa fb) σ H Q) : tOrV (lift t W fa) (lift t W fb) σ H Q :=
  step_bnd h fun r S sa a v H1 x R rs ra e p => by
    cases a with
    | bl b =>
      cases ra
      refine ⟨b, rfl, ?_⟩
      cases b with
      | false => exact iteF ⟨r, sa, S, x, R, rs, e, p⟩
      | true =>
        cases e
        exact iteT (p r H1 _ (Ext.refl r) R rfl)
    | _ => cases e
theorem v_and {a b : Expr} {rest : List Expr} {fa fb : F} {pos : Pos} (ha : PE X a (lift t W fa)) (hb : PE X (.BoolOp .And (b :: rest) pos) (lift t W fb)) : PE X (.BoolOp .And (a :: b :: rest) pos) (lift t W (andF fa fb)) := (pe_and ha hb).weak fun _ _ _ h => and_okV h
theorem v_or {a b : Expr} {rest : List Expr} {fa fb : F} {pos : Pos} (ha : PE X a (lift t W fa)) (hb : PE X (.BoolOp .Or (b :: rest) pos) (lift t W fb)) : PE X (.BoolOp .Or (a :: b :: rest) pos) (lift t W (orF fa fb)) := (pe_or ha hb).weak fun _ _ _ h => or_okV h
theorem v_one {op} {a : Expr} {fa : F} {pos : Pos} (ha : PE X a (lift t W fa)) : PE X (.BoolOp op [a] pos) (lift t W fa) := pe_one ha
theorem v_not {a : Expr} {fa : F} {pos : Pos} (ha : PE X a (lift t W fa)) : PE X (.UnaryOp .Not a pos) (lift t W (notF fa)) := (pe_not ha).weak fun _ _ _ h =>
  step_bnd h fun r S sa a v H1 x R rs ra e p => by
    cases a with
    | bl b =>
      cases ra
      cases e
      exact ⟨b, rfl, p r H1 _ (Ext.refl r) R rfl⟩
    | _ => cases e
/-- tests -/
theorem v_val {e : Expr} {f : F} (h : PE X e (lift t W f)) (he : ∀ whole, isTrue e X.env whole = (do let v ← whole; standAt e.pos; holding [v] (truthy v)) := by intro _; rfl) : PT X e (liftB t W f) := pt_val h he
theorem v_wand1 {a : Expr} {fa : F} {pos : Pos} (ha : PT X a (liftB t W fa)) : PW X (.BoolOp .And [a] pos) (liftB t W fa) := pw_and1 ha
theorem v_wor1 {a : Expr} {fa : F} {pos : Pos} (ha : PT X a (liftB t W fa)) : PW X (.BoolOp .Or [a] pos) (liftB t W fa) := pw_or1 ha
theorem v_wand {a b : Expr} {rest : List Expr} {fa fb : F} {pos : Pos} (ha : PT X a (liftB t W fa)) (hb : PW X (.BoolOp .And (b :: rest) pos) (liftB t W fb)) : PW X (.BoolOp .And (a :: b :: rest) pos) (liftB t W (andF fa fb)) :=
  (pw_and ha hb).weak fun _ _ _ h => step_bnd h fun r S sa a v H1 x R rs ra e p => by
    cases a with
    | bl b =>
      cases ra
      refine ⟨b, rfl, ?_⟩
      cases b with
      | true => exact iteT ⟨r, sa, S, x, R, rs, e, p⟩
      | false =>
        cases e
        obtain ⟨c, e, q⟩ := p r H1 _ (Ext.refl r) R rfl
        cases e
        exact iteF q
    | _ => cases e
theorem v_wor {a b : Expr} {rest : List Expr} {fa fb : F} {pos : Pos} (ha : PT X a (liftB t W fa)) (hb : PW X (.BoolOp .Or (b :: rest) pos) (liftB t W fb)) : PW X (.BoolOp .Or (a :: b :: rest) pos) (liftB t W (orF fa fb)) :=
  (pw_or ha hb).weak fun _ _ _ h => step_bnd h fun r S sa a v H1 x R rs ra e p => by
    cases a with
    | bl b =>
      cases ra
      refine ⟨b, rfl, ?_⟩
      cases b with
      | false => exact iteF ⟨r, sa, S, x, R, rs, e, p⟩
      | true =>
        cases e
        obtain ⟨c, e, q⟩ := p r H1 _ (Ext.refl r) R rfl
        cases e
        exact iteT q
    | _ => cases e
theorem v_notT {a : Expr} {fa : F} {pos : Pos} (ha : PT X a (liftB t W fa)) : PT X (.UnaryOp .Not a pos) (liftB t W (notF fa)) :=
  (pt_not ha).weak fun _ _ _ h => step_bnd h fun r S sa a v H1 x R rs ra e p => by
    cases a with
    | bl b =>
      cases ra
      cases e
      obtain ⟨c, e, q⟩ := p r H1 _ (Ext.refl r) R rfl
      cases e
      exact ⟨b, rfl, q⟩
    | _ => cases e
theorem v_ifE {c a b : Expr} {ft fa fb : F} {pos : Pos} (hc : PT X c (liftB t W ft)) (ha : PE X a (lift t W fa)) (hb : PE X b (lift t W fb)) : PE X (.IfExp c a b pos) (lift t W (ifF ft fa fb)) :=
  (pe_ifExp hc ha hb).weak fun _ _ _ h => step_bnd h fun r S sa a v H1 x R rs ra e p => by
    cases a with
    | bl b =>
      cases ra
      refine ⟨b, rfl, ?_⟩
      cases b with
      | true => exact iteT ⟨r, sa, S, x, R, rs, e, p⟩
      | false => exact iteF ⟨r, sa, S, x, R, rs, e, p⟩
    | _ => cases e
def chF (g g' : G2) (fa fb fc : F) : F := bnd fa fun a => bnd fb fun b => bnd (fun _ S => toR (g a b S)) fun d => match d with
  | .bl true => bnd fc fun c => fun _ S2 => toR (g' b c S2)
  | .bl false => conF (.bl false)
  | _ => fun _ _ => none
theorem step_go {f : F} {k : A → F} {r : List Addr} {sa : Sa} {S : List O} {x : R} {σ : St} {H : Hp} {Q Q2 : VK} (R : Rel t r S H) (rs : RS r sa σ) (e : bnd f k sa S = some x) (p : PostE t W σ Q r x)
    (hk : ∀ (r' : List Addr) (S' : List O) (a : A) (v : V) (H1 : Hp), Ext r r' → Rel t r' S' H1 → RS r' sa σ → RA r' a v → k a sa S' = some x → PostE t W σ Q r' x → Q2 v H1) : lift t W f σ H Q2 := by
  obtain ⟨r1, sa1, S1, y, R1, rs1, e1, p1⟩ := go_bnd R rs e p
  refine ⟨r1, sa1, S1, y, R1, rs1, e1, ?_⟩
  cases y with
  | er c S' => exact p1
  | ok a0 S0 =>
    intro r' H' v ex R' ra
    obtain ⟨r2, S2, a, e2, R2, rs2, ra2, ek, p2⟩ := p1 r' H' v ex R' ra
    exact hk r2 S2 a v H' e2 R2 rs2 ra2 ek p2
theorem ch_ok {g g' : G2} {ro ro' : R2} (hs : Sem2 t g ro) (hs' : Sem2 t g' ro') {fa fb fc : F} {σ : St} {H : Hp} {Q : VK} (h : lift t W (chF g g' fa fb fc) σ H Q) : tChain ro ro' (lift t W fa) (lift t W fb) (lift t W fc) σ H Q := by
  refine step_bnd h fun r S sa a v H1 x R rs ra e p => ?_
  refine step_go R rs e p fun r2 S2 b u H2 e2 R2 rs2 rb ek p2 => ?_
  have ra2 := ra.ext e2
  cases hg : g a b S2 with
  | none =>
    simp only [bnd, hg, toR] at ek
    cases ek
  | some q =>
    refine hs r2 S2 H2 a b v u q _ R2 ra2 rb hg fun r3 H3 z e3 R3 rz => ?_
    simp only [bnd, hg, toR] at ek
    obtain ⟨d, S3⟩ := q
    cases d with
    | bl k =>
      cases rz
      refine ⟨k, rfl, ?_⟩
      cases k with
      | false =>
        cases ek
        exact iteF (p2 r3 H3 _ e3 R3 rfl)
      | true =>
        refine iteT ?_
        refine step_go (x := x) (k := fun c => fun _ S2 => toR (g' b c S2)) R3 (rs2.ext e3) ek (p2.ext e3) fun r4 S4 c w H4 e4 R4 rs4 rc ek4 p4 => ?_
        obtain ⟨q, h1, h2⟩ := toR_some ek4
        subst h2
        exact hs' r4 S4 H4 b c u w q Q R4 ((rb.ext e3).ext e4) rc h1 p4
    | _ => cases ek
theorem v_chain {op op' : CmpOp} {ro ro' : R2} {g g' : G2} {a b c : Expr} {fa fb fc : F} {pos : Pos} (ho : OpR X (compareOp op) ro) (ho' : OpR X (compareOp op') ro') (hs : Sem2 t g ro) (hs' : Sem2 t g' ro') (ha : PE X a (lift t W fa)) (hb : PE X b (lift t W fb)) (hc : PE X c (lift t W fc))
    (hm : lastMarks [op, op'] [b, c] = false := by with_unfolding_all rfl) : PE X (.Compare a [op, op'] [b, c] pos) (lift t W (chF g g' fa fb fc)) := (pe_chain ho ho' ha hb hc hm).weak fun _ _ _ h => ch_ok hs hs' h
theorem v_chainT {op op' : CmpOp} {ro ro' : R2} {g g' : G2} {a b c : Expr} {fa fb fc : F} {pos : Pos} (ho : OpR X (compareOp op) ro) (ho' : OpR X (compareOp op') ro') (hs : Sem2 t g ro) (hs' : Sem2 t g' ro') (ha : PE X a (lift t W fa)) (hb : PE X b (lift t W fb)) (hc : PE X c (lift t W fc))
    (hm : lastMarks [op, op'] [b, c] = false := by with_unfolding_all rfl) : PT X (.Compare a [op, op'] [b, c] pos) (liftB t W (chF g g' fa fb fc)) := (pt_chain ho ho' ha hb hc hm).weak fun _ _ _ h => ch_ok hs hs' h
end
end Vai
set_option maxRecDepth 100000
set_option maxHeartbeats 2000000
namespace Vai
open PySem L2
def nilF : FL := fun _ S => some (.ok [] S)
def consF (fa : F) (fl : FL) : FL := fun sa S => match fa sa S with
  | some (.ok a S1) => (match fl sa S1 with
    | some (.ok as S2) => some (.ok (a :: as) S2)
    | some (.er c S2) => some (.er c S2)
    | none => none)
  | some (.er c S1) => some (.er c S1)
  | none => none
def bndL (f : FL) (k : List A → F) : F := fun sa S => match f sa S with
  | some (.ok as S') => k as sa S'
  | some (.er c S') => some (.er c S')
  | none => none
section
variable {X : Cx} {t : Tx} {W : WX}
theorem v_nil : PA X [] (liftL t W nilF) := pa_nil.weak fun σ H Q h => by
  obtain ⟨r, sa, S, x, R, rs, e, p⟩ := h
  cases e
  exact p r H [] (Ext.refl r) R .nil
theorem v_cons {e : Expr} {es : List Expr} {fa : F} {fl : FL} (ha : PE X e (lift t W fa)) (hr : PA X es (liftL t W fl)) (hs : starEach (e :: es) X.env = (false, eval e X.env) :: starEach es X.env := by rfl) : PA X (e :: es) (liftL t W (consF fa fl)) :=
  (pa_cons ha hr hs).weak fun σ H Q h => by
    obtain ⟨r, sa, S, x, R, rs, e, p⟩ := h
    unfold consF at e
    cases hf : fa sa S with
    | none =>
      rw [hf] at e
      cases e
    | some y =>
      rw [hf] at e
      cases y with
      | er c S1 =>
        cases e
        exact ⟨r, sa, S, _, R, rs, hf, p⟩
      | ok a S1 =>
        refine ⟨r, sa, S, _, R, rs, hf, fun r1 H1 v e1 R1 ra => ?_⟩
        dsimp only at e
        cases hg : fl sa S1 with
        | none =>
          rw [hg] at e
          cases e
        | some z =>
          rw [hg] at e
          refine ⟨r1, sa, S1, z, R1, rs.ext e1, hg, ?_⟩
          cases z with
          | er c S2 =>
            cases e
            exact fun r2 H2 e2 R2 => p r2 H2 (e1.trans e2) R2
          | ok as S2 =>
            cases e
            exact fun r2 H2 vs e2 R2 rl => p r2 H2 (v :: vs) (e1.trans e2) R2 (.cons (ra.ext e2) rl)
theorem step_bndL {f : FL} {k : List A → F} {σ : St} {H : Hp} {Q : VK} {Q2 : List V → Hp → Prop} (h : lift t W (bndL f k) σ H Q)
    (hk : ∀ (r : List Addr) (S : List O) (sa : Sa) (as : List A) (vs : List V) (H1 : Hp) (x : R), Rel t r S H1 → RS r sa σ → Paired (RA r) as vs → k as sa S = some x → PostE t W σ Q r x → Q2 vs H1) : liftL t W f σ H Q2 := by
  obtain ⟨r, sa, S, x, R, rs, e, p⟩ := h
  unfold bndL at e
  cases hf : f sa S with
  | none =>
    rw [hf] at e
    cases e
  | some y =>
    rw [hf] at e
    refine ⟨r, sa, S, y, R, rs, hf, ?_⟩
    cases y with
    | er c S' =>
      cases e
      exact p
    | ok as S' => exact fun r' H' vs ex R' ra => hk r' S' sa as vs H' x R' (rs.ext ex) ra e (p.ext ex)
/-- a new object -/
theorem alloc {σ : St} {r : List Addr} {S : List O} {H : Hp} {o : O} {u : HO} {Q : VK} (R : Rel t r S H) (p : PostE t W σ Q r (.ok (.ref S.length) (S ++ [o]))) (ho : ∀ q, RO t (r ++ [q]) (upd H q u) q o) : ∀ q, H q = none → Q (.ref q) (upd H q u) :=
  fun q hq => p (r ++ [q]) _ _ (Ext.snoc r q) (R.new hq (ho q)) ⟨q, by rw [← R.len]; exact get_snoc_new r q, rfl⟩
theorem allocG {r : List Addr} {S : List O} {H : Hp} {o : O} {u : HO} {Q : VK} (R : Rel t r S H) (p : PostG t Q r (.ref S.length, S ++ [o])) (ho : ∀ q, RO t (r ++ [q]) (upd H q u) q o) : ∀ q, H q = none → Q (.ref q) (upd H q u) :=
  fun q hq => p (r ++ [q]) _ _ (Ext.snoc r q) (R.new hq (ho q)) ⟨q, by rw [← R.len]; exact get_snoc_new r q, rfl⟩
theorem big {n : Nat} (h : n ≤ 1000000) : n ≤ sizeLine := by rw [sizeLine_eq]; omega
def newF (mk : List A → O) (fl : FL) : F := bndL fl fun as => fun _ S => if as.length ≤ 1000000 then some (.ok (.ref S.length) (S ++ [mk as])) else none
theorem v_tup {es : List Expr} {x1} {fl : FL} {pos : Pos} (h : PA X es (liftL t W fl)) : PE X (.Tuple es x1 pos) (lift t W (newF O.tup fl)) := (pe_tup h).weak fun σ H Q h =>
  step_bndL h fun r S sa as vs H1 x R rs ra e p => by
    split at e
    · rename_i hl
      cases e
      exact ⟨by rw [← pr_len ra]; exact big hl, alloc R p fun q => ⟨vs, upd_same, RAs.ext (Ext.snoc r q) ra⟩⟩
    · cases e
theorem v_lst {es : List Expr} {fl : FL} {pos : Pos} (h : PA X es (liftL t W fl)) : PE X (.List es pos) (lift t W (newF O.lst fl)) := (pe_lst h).weak fun σ H Q h =>
  step_bndL h fun r S sa as vs H1 x R rs ra e p => by
    split at e
    · rename_i hl
      cases e
      exact ⟨by rw [← pr_len ra]; exact big hl, alloc R p fun q => ⟨vs, upd_same, RAs.ext (Ext.snoc r q) ra⟩⟩
    · cases e
/-- {} -/
def newD : F := fun _ S => some (.ok (.ref S.length) (S ++ [.dic []]))
theorem v_dict0 {pos : Pos} : PE X (.Dict [] [] pos) (lift t W newD) := pe_dnewK.weak fun σ H Q h => by
  obtain ⟨r, sa, S, x, R, rs, e, p⟩ := h
  cases e
  exact alloc R p fun q => ⟨[], upd_same, .nil⟩

/-! ### calls -/
abbrev GN := List A → List O → Option (A × List O)
def SemN (t : Tx) (g : GN) (ro : List V → Hp → VK → Prop) : Prop := ∀ (r : List Addr) (S : List O) (H : Hp) (as : List A) (vs : List V) (p : A × List O) (Q : VK), Rel t r S H → Paired (RA r) as vs → g as S = some p → PostG t Q r p → ro vs H Q
def clF (g : GN) (fl : FL) : F := bndL fl fun as => fun _ S => toR (g as S)
theorem cl_ok {g : GN} {ro : List V → Hp → VK → Prop} (hs : SemN t g ro) {fl : FL} {σ : St} {H : Hp} {Q : VK} (h : lift t W (clF g fl) σ H Q) : tCB ro (liftL t W fl) σ H Q :=
  step_bndL h fun r S sa as vs H1 x R rs ra e p => by
    obtain ⟨q, h1, h2⟩ := toR_some e
    subst h2
    exact hs r S H1 as vs q Q R ra h1 p
theorem v_callB {id : String} {ro : List V → Hp → VK → Prop} {g : GN} {x : Str} {e : Expr} {es : List Expr} {fl : FL} {p pos : Pos} (hc : CallR X (.builtin id) ro) (hs : SemN t g ro) (hm : X.mg x = none) (hv : bootBuiltins x = some (.builtin id)) (ha : PA X (e :: es) (liftL t W fl)) (hg : Gl X x := by rfl)
    (hn : x ≠ "__name__" := by decide) (hdb : (x == ("__debug__" : Str)) = false := by decide) (he : starEach (e :: es) X.env = (false, eval e X.env) :: starEach es X.env := by rfl) (hpl : (backTo pos (starEach es X.env)).any (·.1) = false := by rfl) :
    PE X (.Call (.Name x p) (e :: es) [] pos) (lift t W (clF g fl)) := (pe_callB hc hg hm hv ha hn hdb he hpl).weak fun _ _ _ h => cl_ok hs h
theorem v_callTy {T : String} {ro : List V → Hp → VK → Prop} {g : GN} {x : Str} {e : Expr} {es : List Expr} {fl : FL} {p pos : Pos} (hc : CallR X (.type T) ro) (hs : SemN t g ro) (hm : X.mg x = none) (hv : bootBuiltins x = some (.type T)) (ha : PA X (e :: es) (liftL t W fl)) (hg : Gl X x := by rfl)
    (hn : x ≠ "__name__" := by decide) (hdb : (x == ("__debug__" : Str)) = false := by decide) (he : starEach (e :: es) X.env = (false, eval e X.env) :: starEach es X.env := by rfl) (hpl : (backTo pos (starEach es X.env)).any (·.1) = false := by rfl) :
    PE X (.Call (.Name x p) (e :: es) [] pos) (lift t W (clF g fl)) := (pe_callTy hc hg hm hv ha hn hdb he hpl).weak fun _ _ _ h => cl_ok hs h
def PostD (t : Tx) (Q : VK) (E : XK) (r : List Addr) : R → Prop
  | .ok a S => ∀ (r' : List Addr) (H : Hp) (v : V), Ext r r' → Rel t r' S H → RA r' a v → Q v H
  | .er c S => ∀ (r' : List Addr) (H : Hp), Ext r r' → Rel t r' S H → E (.ref (t.cl c)) none H
/-- a def's promise: what the function says -/
def spF (t : Tx) (n : Nat) (f : FD) : Sp := fun vs H Q E => vs.length = n ∧ ∃ r as S x, Rel t r S H ∧ Paired (RA r) as vs ∧ f as S = some x ∧ PostD t Q E r x
def callF (f : FD) (fl : FL) : F := bndL fl fun as => fun _ S => f as S
theorem v_call {k n : Nat} {f : Addr} {fd : FuncData} {ps : List Str} {d : FD} {x : Str} {e : Expr} {es : List Expr} {fl : FL} {p pos : Pos} (G : FnOk X.prog X.w X.K X.mg X.base (L2.CX X.prog X.w) k f fd ps (spF t n d)) (hn : ps.length = n) (hr : Room k X.A) (hm : X.mg x = some (.ref f)) (hk : PySem.W.keepIn X.K (.ref f) = true)
    (hb : Binds X.K fd ps []) (tk : Takes X W) (ha : PA X (e :: es) (liftL t W fl)) (hl : ∀ vs : List V, ∀ as : List A, ∀ S S' : List O, ∀ sa, fl sa S = some (.ok as S') → as.length = n) (hg : Gl X x := by rfl)
    (hdb : (x == ("__debug__" : Str)) = false := by decide) (he : starEach (e :: es) X.env = (false, eval e X.env) :: starEach es X.env := by rfl) (hpl : (backTo pos (starEach es X.env)).any (·.1) = false := by rfl) :
    PE X (.Call (.Name x p) (e :: es) [] pos) (lift t W (callF d fl)) :=
  (pe_callS (E := WE W) G hr hg hm hk hb (fun σ => passAt tk σ) ha hdb he hpl).weak fun σ H Q h => by
    obtain ⟨r, sa, S, x, R, rs, e, p⟩ := h
    unfold callF bndL at e
    cases hf : fl sa S with
    | none =>
      rw [hf] at e
      cases e
    | some y =>
      rw [hf] at e
      refine ⟨r, sa, S, y, R, rs, hf, ?_⟩
      cases y with
      | er c S' =>
        cases e
        exact p
      | ok as S' =>
        intro r' H' vs ex R' ra
        refine ⟨by rw [← pr_len ra]; exact hl vs as S S' sa hf, r', as, S', x, R', ra, e, ?_⟩
        cases x with
        | ok a S2 => exact fun r2 H2 v e2 R2 rv => p r2 H2 v (ex.trans e2) R2 rv
        | er c S2 => exact fun r2 H2 e2 R2 => p r2 H2 (ex.trans e2) R2
/-! ### statements -/
def seqF (f g : FS) : FS := fun sa S => match f sa S with
  | some (.nx sa' S') => g sa' S'
  | x => x
def endF : FS := fun sa S => some (.nx sa S)
def retF (fa : F) : FS := fun sa S => match fa sa S with
  | some (.ok a S') => some (.rt a S')
  | some (.er c S') => some (.er c sa S')
  | none => none
def expF (fa : F) : FS := fun sa S => match fa sa S with
  | some (.ok _ S') => some (.nx sa S')
  | some (.er c S') => some (.er c sa S')
  | none => none
def condF (fc : F) (f g : FS) : FS := fun sa S => match fc sa S with
  | some (.ok (.bl true) S') => f sa S'
  | some (.ok (.bl false) S') => g sa S'
  | some (.ok _ _) => none
  | some (.er c S') => some (.er c sa S')
  | none => none
theorem v_send : PSs X [] (liftS t W endF) := pss_nil.weak fun D σ H h => by
  obtain ⟨r, sa, S, x, R, rs, e, p⟩ := h
  cases e
  exact p r H σ (Ext.refl r) R rs
theorem v_seq {st : Stmt} {rest : List Stmt} {f g : FS} (h1 : PS X st (liftS t W f)) (h2 : PSs X rest (liftS t W g)) : PSs X (st :: rest) (liftS t W (seqF f g)) := (pss_cons h1 h2).weak fun D σ H h => by
  obtain ⟨r, sa, S, x, R, rs, e, p⟩ := h
  unfold seqF at e
  cases hf : f sa S with
  | none =>
    rw [hf] at e
    cases e
  | some y =>
    rw [hf] at e
    refine ⟨r, sa, S, y, R, rs, hf, ?_⟩
    cases y with
    | nx sa' S' => exact fun r' H' σ' ex R' rs' => ⟨r', sa', S', x, R', rs', e, p.ext ex⟩
    | rt a S' =>
      cases e
      exact p
    | bk sa' S' =>
      cases e
      exact p
    | ct sa' S' =>
      cases e
      exact p
    | er c sa' S' =>
      cases e
      exact p
theorem v_s1 {st : Stmt} {f : FS} (h1 : PS X st (liftS t W f)) : PSs X [st] (liftS t W f) := pss_one h1
theorem v_ret {e : Expr} {fa : F} {pos : Pos} (h : PE X e (lift t W fa)) : PS X (.Return (some e) pos) (liftS t W (retF fa)) := (ps_ret h).weak fun D σ H h => by
  obtain ⟨r, sa, S, x, R, rs, e, p⟩ := h
  unfold retF at e
  cases hf : fa sa S with
  | none =>
    rw [hf] at e
    cases e
  | some y =>
    rw [hf] at e
    refine ⟨r, sa, S, y, R, rs, hf, ?_⟩
    cases y with
    | ok a S' =>
      cases e
      exact p
    | er c S' =>
      cases e
      exact fun r' H' ex R' => p r' H' σ ex R' (rs.ext ex)
theorem v_exp {e : Expr} {fa : F} {pos : Pos} (h : PE X e (lift t W fa)) (hs : swapsWith e none pos.line X.env = pure false := by rfl) : PS X (.Expr e pos) (liftS t W (expF fa)) := (ps_expr h hs).weak fun D σ H h => by
  obtain ⟨r, sa, S, x, R, rs, e, p⟩ := h
  unfold expF at e
  cases hf : fa sa S with
  | none =>
    rw [hf] at e
    cases e
  | some y =>
    rw [hf] at e
    refine ⟨r, sa, S, y, R, rs, hf, ?_⟩
    cases y with
    | ok a S' =>
      cases e
      exact fun r' H' v ex R' _ => p r' H' σ ex R' (rs.ext ex)
    | er c S' =>
      cases e
      exact fun r' H' ex R' => p r' H' σ ex R' (rs.ext ex)
theorem v_if {c : Expr} {a b : List Stmt} {fc : F} {f g : FS} {pos : Pos} (hc : PT X c (liftB t W fc)) (ha : PSs X a (liftS t W f)) (hb : PSs X b (liftS t W g)) : PS X (.If c a b pos) (liftS t W (condF fc f g)) := (ps_if hc ha hb).weak fun D σ H h => by
  obtain ⟨r, sa, S, x, R, rs, e, p⟩ := h
  unfold condF at e
  cases hf : fc sa S with
  | none =>
    rw [hf] at e
    cases e
  | some y =>
    rw [hf] at e
    refine ⟨r, sa, S, y, R, rs, hf, ?_⟩
    cases y with
    | er c S' =>
      cases e
      exact fun r' H' ex R' => p r' H' σ ex R' (rs.ext ex)
    | ok a S' =>
      cases a with
      | bl k =>
        intro r' H' v ex R' ra
        cases ra
        refine ⟨k, rfl, ?_⟩
        cases k with
        | true => exact iteT ⟨r', sa, S', x, R', rs.ext ex, e, p.ext ex⟩
        | false => exact iteF ⟨r', sa, S', x, R', rs.ext ex, e, p.ext ex⟩
      | _ => cases e
/-! ### targets -/
abbrev TF := A → Sa → List O → Option (Sa × List O)
abbrev TFs := List A → Sa → List O → Option (Sa × List O)
def liftG (t : Tx) (f : TF) : TG := fun v σ H Q => ∃ r sa S a z, Rel t r S H ∧ RS r sa σ ∧ RA r a v ∧ f a sa S = some z ∧ ∀ (r' : List Addr) (H' : Hp) (σ' : St), Ext r r' → Rel t r' z.2 H' → RS r' z.1 σ' → Q σ' H'
def liftGs (t : Tx) (f : TFs) : TGs := fun vs σ H Q => ∃ r sa S as z, Rel t r S H ∧ RS r sa σ ∧ Paired (RA r) as vs ∧ f as sa S = some z ∧ ∀ (r' : List Addr) (H' : Hp) (σ' : St), Ext r r' → Rel t r' z.2 H' → RS r' z.1 σ' → Q σ' H'
theorem _root_.L2.PG.weak {X : Cx} {e : Expr} {t1 t2 : TG} (h : PG X e t1) (k : ∀ v σ H Q, t2 v σ H Q → t1 v σ H Q) : PG X e t2 := by
  constructor
  intros
  apply h.run <;> first | assumption | (apply k; assumption)
theorem _root_.L2.PGs.weak {X : Cx} {e : List Expr} {t1 t2 : TGs} (h : PGs X e t1) (k : ∀ v σ H Q, t2 v σ H Q → t1 v σ H Q) : PGs X e t2 := by
  constructor
  intros
  apply h.run <;> first | assumption | (apply k; assumption)
def nameT (i : Nat) : TF := fun a sa S => some (sa.set i (some a), S)
def nilT : TFs := fun as sa S => match as with
  | [] => some (sa, S)
  | _ => none
def consT (f : TF) (g : TFs) : TFs := fun as sa S => match as with
  | [] => none
  | a :: r => match f a sa S with
    | some z => g r z.1 z.2
    | none => none
def tupT (n : Nat) (g : TFs) : TF := fun a sa S => match a with
  | .ref l => match S[l]? with
    | some (.tup as) => if as.length = n then g as sa S else none
    | _ => none
  | _ => none
def subT (fo fi : F) : TF := fun a sa S => match fo sa S with
  | some (.ok (.ref l) S1) => (match fi sa S1 with
    | some (.ok (.int k) S2) => (match S2[l]? with
      | some (.lst xs) => (match ixN xs.length k with
        | some j => some (sa, S2.set l (.lst (xs.set j a)))
        | none => none)
      | _ => none)
    | _ => none)
  | _ => none
theorem v_gname (i : Nat) {x : Str} {pos : Pos} (hN : X.N.Nodup) (hi : X.N[i]? = some x := by rfl) (hx : Loc X.env.scope x := by first | exact Or.inl rfl | exact Or.inr rfl) (hf : X.fn x = true ∨ X.env.scope.names.lookup x = some .local := by first | exact .inl rfl | exact .inr rfl | assumption) :
    PG X (.Name x pos) (liftG t (nameT i)) := (pg_name hN hi hx hf).weak fun v σ H Q h => by
  obtain ⟨r, sa, S, a, z, R, rs, ra, e, k⟩ := h
  cases e
  exact k r H _ (Ext.refl r) R (rs.set ra i)
theorem v_gnil : PGs X [] (liftGs t nilT) := pgs_nil.weak fun vs σ H Q h => by
  obtain ⟨r, sa, S, as, z, R, rs, ra, e, k⟩ := h
  cases ra with
  | nil =>
    cases e
    exact ⟨rfl, k r H σ (Ext.refl r) R rs⟩
  | cons h q => cases e
theorem v_gcons {e : Expr} {es : List Expr} {f : TF} {g : TFs} (h1 : PG X e (liftG t f)) (h2 : PGs X es (liftGs t g)) (hs : (assignEach (e :: es) X.env).map (·.2) = assign e X.env :: (assignEach es X.env).map (·.2) := by rfl) : PGs X (e :: es) (liftGs t (consT f g)) := (pgs_cons h1 h2 hs).weak fun vs σ H Q h => by
  obtain ⟨r, sa, S, as, z, R, rs, ra, e, k⟩ := h
  cases ra with
  | nil => cases e
  | @cons a v as vs h q =>
    simp only [consT] at e
    cases hf : f a sa S with
    | none =>
      rw [hf] at e
      cases e
    | some s1 =>
      rw [hf] at e
      exact ⟨v, vs, rfl, r, sa, S, a, s1, R, rs, h, hf, fun r' H' σ' ex R' rs' => ⟨r', s1.1, s1.2, as, z, R', rs', RAs.ext ex q, e, fun r2 H2 σ2 e2 R2 rs2 => k r2 H2 σ2 (ex.trans e2) R2 rs2⟩⟩
theorem tupG_ok {g : TFs} {n : Nat} (hK : X.K = t.K) {v : V} {σ : St} {H : Hp} {Q : St → Hp → Prop} (h : liftG t (tupT n g) v σ H Q) : gTup X.K n (liftGs t g) v σ H Q := by
  obtain ⟨r, sa, S, a, z, R, rs, ra, e, k⟩ := h
  unfold tupT at e
  split at e
  · rename_i l
    split at e
    · rename_i as hl
      split at e
      · rename_i hn
        obtain ⟨p, hp, rfl⟩ := ra
        obtain ⟨vs, h1, h2⟩ := R.ob l p _ hp hl
        exact ⟨p, vs, rfl, SqT.of h1, by rw [← pr_len h2]; exact hn, r, sa, S, as, z, R, rs, h2, e, k⟩
      · cases e
    · cases e
  · cases e
theorem v_gsub {o i : Expr} {fo fi : F} {pos : Pos} (ho : PE X o (lift t W fo)) (hi : PE X i (lift t W fi)) (hp : PG X (.Subscript o i pos) (gSub (lift t W fo) (lift t W fi) rSetL)) : PG X (.Subscript o i pos) (liftG t (subT fo fi)) := hp.weak fun v σ H Q h => by
  obtain ⟨r, sa, S, a, z, R, rs, ra, e, k⟩ := h
  unfold subT at e
  cases hf : fo sa S with
  | none =>
    rw [hf] at e
    cases e
  | some y =>
    rw [hf] at e
    cases y with
    | er c S' => cases e
    | ok b S1 =>
      cases b with
      | ref l =>
        refine ⟨r, sa, S, _, R, rs, hf, fun r1 H1 ov e1 R1 rb => ?_⟩
        dsimp only at e
        cases hg : fi sa S1 with
        | none =>
          rw [hg] at e
          cases e
        | some y2 =>
          rw [hg] at e
          cases y2 with
          | er c S' => cases e
          | ok b2 S2 =>
            cases b2 with
            | int kk =>
              refine ⟨r1, sa, S1, _, R1, rs.ext e1, hg, fun r2 H2 iv e2 R2 rb2 => ?_⟩
              cases rb2
              obtain ⟨p, hp, rfl⟩ := rb.ext e2
              dsimp only at e
              cases hl : S2[l]? with
              | none =>
                rw [hl] at e
                cases e
              | some ob =>
                rw [hl] at e
                cases ob with
                | lst xs =>
                  obtain ⟨vs, h1, h2⟩ := R2.ob l p _ hp hl
                  dsimp only at e
                  cases hj : ixN xs.length kk with
                  | none =>
                    rw [hj] at e
                    cases e
                  | some j =>
                    rw [hj] at e
                    cases e
                    exact ⟨p, vs, kk, j, rfl, rfl, h1, by rw [← pr_len h2]; exact hj, k r2 _ σ (e1.trans e2) (R2.put (o' := .lst (xs.set j a)) hp hl rfl rfl h1 (fun _ _ z => by cases z) ⟨_, upd_same, pr_set ((ra.ext e1).ext e2) j h2⟩) (rs.ext (e1.trans e2))⟩
                | _ => cases e
            | _ => cases e
      | _ => cases e
def asgF (fa : F) (f : TF) : FS := fun sa S => match fa sa S with
  | some (.ok a S') => (match f a sa S' with
    | some z => some (.nx z.1 z.2)
    | none => none)
  | some (.er c S') => some (.er c sa S')
  | none => none
theorem asg_ok {fa : F} {f : TF} {D : Ends} {σ : St} {H : Hp} (h : liftS t W (asgF fa f) D σ H) : tAsg (lift t W fa) (liftG t f) D σ H := by
  obtain ⟨r, sa, S, x, R, rs, e, p⟩ := h
  unfold asgF at e
  cases hf : fa sa S with
  | none =>
    rw [hf] at e
    cases e
  | some y =>
    rw [hf] at e
    refine ⟨r, sa, S, y, R, rs, hf, ?_⟩
    cases y with
    | er c S' =>
      cases e
      exact fun r' H' ex R' => p r' H' σ ex R' (rs.ext ex)
    | ok a S' =>
      dsimp only at e
      cases hg : f a sa S' with
      | none =>
        rw [hg] at e
        cases e
      | some s1 =>
        rw [hg] at e
        cases e
        exact fun r' H' v ex R' ra => ⟨r', sa, S', a, s1, R', rs.ext ex, ra, hg, fun r2 H2 σ2 e2 R2 rs2 => p r2 H2 σ2 (ex.trans e2) R2 rs2⟩
def parF (i j : Nat) (fl : FL) : FS := fun sa S => match fl sa S with
  | some (.ok [a, b] S') => some (.nx ((sa.set i (some a)).set j (some b)) S')
  | some (.ok _ _) => none
  | some (.er c S') => some (.er c sa S')
  | none => none
theorem par_ok {i j : Nat} {fl : FL} {D : Ends} {σ : St} {H : Hp} (h : liftS t W (parF i j fl) D σ H) : tPar i j (liftL t W fl) D σ H := by
  obtain ⟨r, sa, S, x, R, rs, e, p⟩ := h
  unfold parF at e
  cases hf : fl sa S with
  | none =>
    rw [hf] at e
    cases e
  | some y =>
    rw [hf] at e
    refine ⟨r, sa, S, y, R, rs, hf, ?_⟩
    cases y with
    | er c S' =>
      cases e
      exact fun r' H' ex R' => p r' H' σ ex R' (rs.ext ex)
    | ok as S' =>
      intro r' H' vs ex R' ra
      split at e
      · rename_i a b S2 hy
        cases hy
        cases e
        cases ra with
        | cons h1 h2 =>
          cases h2 with
          | cons h3 h4 =>
            cases h4
            exact ⟨_, _, rfl, p r' H' _ ex R' (((rs.ext ex).set h1 i).set h3 j)⟩
      · cases e
      · rename_i hy
        cases hy
      · rename_i hy
        cases hy
theorem v_asg {tg e : Expr} {fa : F} {f : TF} {pos : Pos} (he : PE X e (lift t W fa)) (hg : PG X tg (liftG t f)) (hs : swapsWithSole [tg] e pos.line X.env = pure false := by rfl) (hw : swappedStores [tg] e X.env = pure none := by rfl) (h1 : (assignEach [tg] X.env).map (·.2) = [assign tg X.env] := by rfl) : PS X (.Assign [tg] e pos) (liftS t W (asgF fa f)) :=
  (ps_asg he hg hs hw h1).weak fun _ _ _ h => asg_ok h
end
end Vai
set_option maxRecDepth 100000
set_option maxHeartbeats 2000000
namespace Vai
open PySem L2
/-! ### what is walked -/
inductive Its where
  | sl (l : Nat) | st (l : Nat) | rg (lo : Int) (n : Nat)
inductive RI where
  | ok (i : Its) (S : List O)
  | er (c : Nat) (S : List O)
abbrev FI := Sa → List O → Option RI
def ItR (t : Tx) (r : List Addr) : Its → It → Prop
  | .sl l, J => ∃ p, r[l]? = some p ∧ J = Itl t.K p
  | .st l, J => ∃ p, r[l]? = some p ∧ J = Itt t.K p
  | .rg lo n, J => J = Itr lo n
def PostI (t : Tx) (W : WX) (σ : St) (Q : It → Hp → Prop) (r : List Addr) : RI → Prop
  | .ok i S => ∀ (r' : List Addr) (H : Hp) (J : It), Ext r r' → Rel t r' S H → ItR t r' i J → Q J H
  | .er c S => ∀ (r' : List Addr) (H : Hp), Ext r r' → Rel t r' S H → W (.ref (t.cl c)) none σ H
def liftI (t : Tx) (W : WX) (f : FI) : TI := fun σ H Q => ∃ r sa S x, Rel t r S H ∧ RS r sa σ ∧ f sa S = some x ∧ PostI t W σ Q r x
/-- the item at a turn: some none at the end -/
def itemAt (i : Its) (j : Nat) (S : List O) : Option (Option A) := match i with
  | .sl l => (match S[l]? with
    | some (.lst xs) => some xs[j]?
    | some (.scr ns) => some ((ns[j]?).map A.int)
    | _ => none)
  | .st l => (match S[l]? with
    | some (.tup xs) => some xs[j]?
    | _ => none)
  | .rg lo n => some (if j < n then some (.int (lo + j)) else none)
def itsLen (i : Its) (S : List O) : Nat := match i with
  | .sl l => (match S[l]? with
    | some (.lst xs) => xs.length
    | some (.scr ns) => ns.length
    | _ => 0)
  | .st l => (match S[l]? with
    | some (.tup xs) => xs.length
    | _ => 0)
  | .rg _ n => n
theorem ItR.ext {t : Tx} {r r' : List Addr} (e : Ext r r') : ∀ {i : Its} {J : It}, ItR t r i J → ItR t r' i J
  | .sl _, _, ⟨p, h, q⟩ => ⟨p, e.get h, q⟩
  | .st _, _, ⟨p, h, q⟩ => ⟨p, e.get h, q⟩
  | .rg _ _, _, h => h
theorem PostI.ext {t : Tx} {W : WX} {σ : St} {Q : It → Hp → Prop} {r r' : List Addr} (e : Ext r r') : ∀ {x : RI}, PostI t W σ Q r x → PostI t W σ Q r' x
  | .ok _ _, h => fun r2 H v e2 => h r2 H v (e.trans e2)
  | .er _ _, h => fun r2 H e2 => h r2 H (e.trans e2)
theorem scr_sq {K : PySem.W.Frag} {H : Hp} {p : Addr} {ns : List Int} (h : (∃ o, H p = some (.frz o (.lst (ns.map V.int)))) ∨ SqL K (fun _ => none) p (ns.map V.int)) : SqL K H p (ns.map V.int) := by
  rcases h with ⟨o, h⟩ | h
  · exact .inl (.inr ⟨o, h⟩)
  · rcases h with (h | ⟨o, h⟩) | h
    · cases h
    · cases h
    · exact .inr h
section
variable {t : Tx} {r : List Addr} {S : List O} {H : Hp}
theorem pr_none {α β : Type} {F : α → β → Prop} : ∀ {xs : List α} {ys : List β} {i : Nat}, Paired F xs ys → xs[i]? = none → ys.length ≤ i := fun {xs ys i} h e => by
  rw [← pr_len h]
  exact List.getElem?_eq_none_iff.mp e
theorem item_go (R : Rel t r S H) {i : Its} {J : It} (hi : ItR t r i J) {j : Nat} {a : A} (h : itemAt i j S = some (some a)) : J.go j H ∧ ∀ x H', J.yld j H x H' → H' = H ∧ RA r a x := by
  cases i with
  | sl l =>
    obtain ⟨p, hp, rfl⟩ := hi
    simp only [itemAt] at h
    split at h
    · rename_i xs hl
      obtain ⟨vs, h1, h2⟩ := R.ob l p _ hp hl
      obtain ⟨y, h3, h4⟩ := pr_get h2 (Option.some.inj h)
      exact ⟨⟨vs, y, SqL.of h1, h3⟩, fun x H' ⟨e1, e2⟩ => ⟨e1, by have := e2 vs (SqL.of h1); rw [h3] at this; cases this; exact h4⟩⟩
    · rename_i ns hl
      have h1 := scr_sq (H := H) (R.ob l p _ hp hl)
      cases hn : ns[j]? with
      | none =>
        rw [hn] at h
        cases h
      | some z =>
        rw [hn] at h
        cases h
        have h3 : (ns.map V.int)[j]? = some (V.int z) := by rw [List.getElem?_map, hn] <;> rfl
        exact ⟨⟨_, _, h1, h3⟩, fun x H' ⟨e1, e2⟩ => ⟨e1, by have := e2 _ h1; rw [h3] at this; cases this; rfl⟩⟩
    · cases h
  | st l =>
    obtain ⟨p, hp, rfl⟩ := hi
    simp only [itemAt] at h
    split at h
    · rename_i xs hl
      obtain ⟨vs, h1, h2⟩ := R.ob l p _ hp hl
      obtain ⟨y, h3, h4⟩ := pr_get h2 (Option.some.inj h)
      exact ⟨⟨vs, y, SqT.of h1, h3⟩, fun x H' ⟨e1, e2⟩ => ⟨e1, by have := e2 vs (SqT.of h1); rw [h3] at this; cases this; exact h4⟩⟩
    · cases h
  | rg lo n =>
    cases hi
    simp only [itemAt] at h
    split at h
    · rename_i hj
      cases h
      exact ⟨hj, fun x H' ⟨e1, e2⟩ => ⟨e1, e2⟩⟩
    · cases h
theorem item_stop (R : Rel t r S H) {i : Its} {J : It} (hi : ItR t r i J) {j : Nat} (h : itemAt i j S = some none) : J.stop j H := by
  cases i with
  | sl l =>
    obtain ⟨p, hp, rfl⟩ := hi
    simp only [itemAt] at h
    split at h
    · rename_i xs hl
      obtain ⟨vs, h1, h2⟩ := R.ob l p _ hp hl
      exact ⟨vs, SqL.of h1, pr_none h2 (Option.some.inj h)⟩
    · rename_i ns hl
      have h1 := scr_sq (H := H) (R.ob l p _ hp hl)
      cases hn : ns[j]? with
      | none => exact ⟨_, h1, by rw [List.length_map]; exact List.getElem?_eq_none_iff.mp hn⟩
      | some z =>
        rw [hn] at h
        cases h
    · cases h
  | st l =>
    obtain ⟨p, hp, rfl⟩ := hi
    simp only [itemAt] at h
    split at h
    · rename_i xs hl
      obtain ⟨vs, h1, h2⟩ := R.ob l p _ hp hl
      exact ⟨vs, SqT.of h1, pr_none h2 (Option.some.inj h)⟩
    · cases h
  | rg lo n =>
    cases hi
    simp only [itemAt] at h
    split at h
    · cases h
    · rename_i hj
      exact Nat.le_of_not_lt hj
end
def seqI (fa : F) : FI := fun sa S => match fa sa S with
  | some (.ok (.ref l) S') => (match S'[l]? with
    | some (.lst _) => some (.ok (.sl l) S')
    | some (.scr _) => some (.ok (.sl l) S')
    | some (.tup _) => some (.ok (.st l) S')
    | _ => none)
  | some (.ok _ _) => none
  | some (.er c S') => some (.er c S')
  | none => none
def inBd (i : Int) : Bool := decide (-4611686018427387904 ≤ i) && decide (i < 4611686018427387904)
def rg1I (fl : FL) : FI := fun sa S => match fl sa S with
  | some (.ok [.int j] S') => if inBd j then some (.ok (.rg 0 j.toNat) S') else none
  | some (.ok _ _) => none
  | some (.er c S') => some (.er c S')
  | none => none
def rg2I (fl : FL) : FI := fun sa S => match fl sa S with
  | some (.ok [.int i, .int j] S') => if inBd i && inBd j then some (.ok (.rg i (j - i).toNat) S') else none
  | some (.ok _ _) => none
  | some (.er c S') => some (.er c S')
  | none => none
theorem inBd_ok {i : Int} (h : inBd i = true) : -(2 ^ 62) ≤ i ∧ i < 2 ^ 62 := by
  unfold inBd at h
  simp only [Bool.and_eq_true, decide_eq_true_eq] at h
  omega
/-- either a list or a tuple -/
def iSeq (K : PySem.W.Frag) (tl : TE) : TI := fun σ H R => tl σ H fun x H1 => (∃ a, x = .ref a ∧ (∃ xs, SqL K H1 a xs) ∧ R (Itl K a) H1) ∨ ∃ a, x = .ref a ∧ (∃ xs, SqT K H1 a xs) ∧ R (Itt K a) H1
section
variable {X : Cx} {t : Tx} {W : WX} {tg : Expr}
theorem pi_seq {l : Expr} {tl : TE} (hl : PE X l tl) : PI X tg l (iSeq X.K tl) := by
  constructor
  intro pins s σ H R I h
  refine thn (hl.run pins s σ H _ I h) fun v s1 ⟨x, H1, I1, r1, q1⟩ => ?_
  rcases q1 with ⟨a, ea, ⟨xs, hq⟩, q⟩ | ⟨a, ea, ⟨xs, hq⟩, q⟩ <;> subst ea <;> cases r1
  · obtain ⟨us, _, pl, _⟩ := I1.list hq
    refine wpAny_pyIter_list pl.isList ⟨s1.heap.objs.size, [s1.heap.objs.size], _, _, H1, rfl, I1.kept (t' := s1.toks) fun b o z => Heap.get?_push_of_some _ z, turn_list a _, ⟨_, Heap.get?_push_size _ rfl, rfl, rfl⟩, fun b hb => ?_, q⟩
    rw [List.mem_singleton.mp hb]
    exact I1.fpOk (Nat.le_refl _) (I1.hok.fresh (Nat.le_refl _))
  · obtain ⟨us, _, pl, _⟩ := I1.tuple hq
    refine wpAny_pyIter_tuple (show s1.heap.IsTuple a us.toArray from pl) ⟨s1.heap.objs.size, [s1.heap.objs.size], _, _, H1, rfl, I1.kept (t' := s1.toks) fun b o z => Heap.get?_push_of_some _ z, turn_tuple a _, ⟨_, Heap.get?_push_size _ rfl, rfl, rfl⟩, fun b hb => ?_, q⟩
    rw [List.mem_singleton.mp hb]
    exact I1.fpOk (Nat.le_refl _) (I1.hok.fresh (Nat.le_refl _))
theorem _root_.L2.PI.weak {X : Cx} {tg e : Expr} {t1 t2 : TI} (h : PI X tg e t1) (k : ∀ σ H Q, t2 σ H Q → t1 σ H Q) : PI X tg e t2 := ⟨fun pins s σ H Q I q => h.run pins s σ H Q I (k _ _ _ q)⟩
theorem v_iseq {l : Expr} {fa : F} (hK : X.K = t.K) (hl : PE X l (lift t W fa)) : PI X tg l (liftI t W (seqI fa)) := (pi_seq hl).weak fun σ H Q h => by
  obtain ⟨r, sa, S, x, R, rs, e, p⟩ := h
  unfold seqI at e
  cases hf : fa sa S with
  | none =>
    rw [hf] at e
    cases e
  | some y =>
    rw [hf] at e
    refine ⟨r, sa, S, y, R, rs, hf, ?_⟩
    cases y with
    | er c S' =>
      cases e
      exact p
    | ok a S' =>
      cases a with
      | ref l =>
        intro r' H' v ex R' ra
        obtain ⟨q, hq, rfl⟩ := ra
        dsimp only at e
        cases hl : S'[l]? with
        | none =>
          rw [hl] at e
          cases e
        | some o =>
          rw [hl] at e
          have ho := R'.ob l q o hq hl
          rw [hK]
          cases o with
          | lst xs =>
            cases e
            obtain ⟨vs, h1, h2⟩ := ho
            exact .inl ⟨q, rfl, ⟨vs, SqL.of h1⟩, p r' H' _ ex R' ⟨q, hq, rfl⟩⟩
          | scr ns =>
            cases e
            exact .inl ⟨q, rfl, ⟨_, scr_sq ho⟩, p r' H' _ ex R' ⟨q, hq, rfl⟩⟩
          | tup xs =>
            cases e
            obtain ⟨vs, h1, h2⟩ := ho
            exact .inr ⟨q, rfl, ⟨vs, SqT.of h1⟩, p r' H' _ ex R' ⟨q, hq, rfl⟩⟩
          | dic ks => cases e
          | set es => cases e
          | code => cases e
          | clo _ _ _ => cases e
      | _ => cases e
theorem v_irg1 {a : Expr} {fl : FL} {p pos : Pos} (hm : X.mg "range" = none) (ha : PA X [a] (liftL t W fl)) (hg : Gl X "range" := by rfl) (hs : starEach [a] X.env = [(false, eval a X.env)] := by rfl) : PI X tg (.Call (.Name "range" p) [a] [] pos) (liftI t W (rg1I fl)) :=
  (pi_range1 hg hm ha hs).weak fun σ H Q h => by
    obtain ⟨r, sa, S, x, R, rs, e, p⟩ := h
    unfold rg1I at e
    cases hf : fl sa S with
    | none =>
      rw [hf] at e
      cases e
    | some y =>
      rw [hf] at e
      refine ⟨r, sa, S, y, R, rs, hf, ?_⟩
      cases y with
      | er c S' =>
        cases e
        exact p
      | ok as S' =>
        intro r' H' vs ex R' ra
        split at e
        · rename_i j S2 hy
          cases hy
          split at e
          · rename_i hb
            cases e
            cases ra with
            | cons h1 h2 =>
              cases h1
              cases h2
              obtain ⟨b1, b2⟩ := inBd_ok hb
              exact ⟨j, rfl, b1, b2, p r' H' _ ex R' rfl⟩
          · cases e
        · cases e
        · rename_i hy
          cases hy
        · rename_i hy
          cases hy
theorem v_irg2 {a b : Expr} {fl : FL} {p pos : Pos} (hm : X.mg "range" = none) (ha : PA X [a, b] (liftL t W fl)) (hg : Gl X "range" := by rfl) (hs : starEach [a, b] X.env = [(false, eval a X.env), (false, eval b X.env)] := by rfl) (hs2 : starEach [b] X.env = [(false, eval b X.env)] := by rfl) :
    PI X tg (.Call (.Name "range" p) [a, b] [] pos) (liftI t W (rg2I fl)) :=
  (pi_range2 hg hm ha hs hs2).weak fun σ H Q h => by
    obtain ⟨r, sa, S, x, R, rs, e, p⟩ := h
    unfold rg2I at e
    cases hf : fl sa S with
    | none =>
      rw [hf] at e
      cases e
    | some y =>
      rw [hf] at e
      refine ⟨r, sa, S, y, R, rs, hf, ?_⟩
      cases y with
      | er c S' =>
        cases e
        exact p
      | ok as S' =>
        intro r' H' vs ex R' ra
        split at e
        · rename_i i j S2 hy
          cases hy
          split at e
          · rename_i hb
            cases e
            cases ra with
            | cons h1 h2 =>
              cases h1
              cases h2 with
              | cons h3 h4 =>
                cases h3
                cases h4
                rw [Bool.and_eq_true] at hb
                obtain ⟨b1, b2⟩ := inBd_ok hb.1
                obtain ⟨b3, b4⟩ := inBd_ok hb.2
                exact ⟨i, j, rfl, ⟨b1, b2, b3, b4⟩, p r' H' _ ex R' rfl⟩
          · cases e
        · cases e
        · rename_i hy
          cases hy
        · rename_i hy
          cases hy
/-! ### for -/
def forGo (i : Its) (T : TF) (body : FS) : Nat → Nat → FS
  | 0, _ => fun _ _ => none
  | n + 1, j => fun sa S => match itemAt i j S with
    | none => none
    | some none => some (.nx sa S)
    | some (some a) => (match T a sa S with
      | none => none
      | some z => (match body z.1 z.2 with
        | some (.nx sa2 S2) => forGo i T body n (j + 1) sa2 S2
        | some (.ct sa2 S2) => forGo i T body n (j + 1) sa2 S2
        | some (.bk sa2 S2) => some (.nx sa2 S2)
        | y => y))
def forF (fi : FI) (T : TF) (body : FS) : FS := fun sa S => match fi sa S with
  | some (.ok i S') => forGo i T body (itsLen i S' + 1) 0 sa S'
  | some (.er c S') => some (.er c sa S')
  | none => none
theorem v_for {iter : Expr} {body : List Stmt} {fi : FI} {T : TF} {f : FS} {pos : Pos} (hp : PassesOwn (model X.prog X.w) X.A X.env X.xe) (hi : PI X tg iter (liftI t W fi)) (hg : PG X tg (liftG t T)) (hb : PSs X body (liftS t W f)) (hc : X.calm = true := by rfl)
    (hps : PS X (.For tg iter body [] pos) (tFor (liftI t W fi) (liftG t T) (liftS t W f))) : PS X (.For tg iter body [] pos) (liftS t W (forF fi T f)) := hps.weak fun D σ H h => by
  obtain ⟨r, sa, S, x, R, rs, e, p⟩ := h
  unfold forF at e
  cases hf : fi sa S with
  | none =>
    rw [hf] at e
    cases e
  | some y =>
    rw [hf] at e
    refine ⟨r, sa, S, y, R, rs, hf, ?_⟩
    cases y with
    | er c S' =>
      cases e
      exact fun r' H' ex R' => p r' H' σ ex R' (rs.ext ex)
    | ok i S' =>
      intro r' H' J ex R' hJ
      refine ⟨fun j m σ H => ∃ r2 sa S, Ext r' r2 ∧ Rel t r2 S H ∧ RS r2 sa σ ∧ forGo i T f m j sa S = some x, ⟨_, r', sa, S', Ext.refl _, R', rs.ext ex, e⟩, ?_⟩
      rintro j m σ H ⟨r2, sa, S, e2, R2, rs2, ek⟩
      have hJ2 := hJ.ext e2
      have p2 := p.ext (ex.trans e2)
      cases m with
      | zero => cases ek
      | succ m =>
        simp only [forGo] at ek
        cases hit : itemAt i j S with
        | none =>
          rw [hit] at ek
          cases ek
        | some u =>
          rw [hit] at ek
          cases u with
          | none =>
            cases ek
            exact .inl ⟨item_stop R2 hJ2 hit, p2 r2 H σ (Ext.refl _) R2 rs2⟩
          | some a =>
            obtain ⟨g1, g2⟩ := item_go R2 hJ2 hit
            refine .inr ⟨g1, fun σ' H' => ∃ r3 sa S, Ext r' r3 ∧ Rel t r3 S H' ∧ RS r3 sa σ' ∧ forGo i T f m (j + 1) sa S = some x, fun σ' H' z => ⟨m, Nat.lt_succ_self m, z⟩, fun v H3 hy => ?_⟩
            obtain ⟨rfl, ra⟩ := g2 v H3 hy
            dsimp only at ek
            cases hT : T a sa S with
            | none =>
              rw [hT] at ek
              cases ek
            | some z =>
              rw [hT] at ek
              refine ⟨r2, sa, S, a, z, R2, rs2, ra, hT, fun r3 H4 σ4 e3 R3 rs3 => ?_⟩
              dsimp only at ek
              cases hb : f z.1 z.2 with
              | none =>
                rw [hb] at ek
                cases ek
              | some w =>
                rw [hb] at ek
                refine ⟨r3, z.1, z.2, w, R3, rs3, hb, ?_⟩
                cases w with
                | nx sa2 S2 => exact fun r4 H5 σ5 e4 R4 rs4 => ⟨r4, sa2, S2, (e2.trans e3).trans e4, R4, rs4, ek⟩
                | ct sa2 S2 => exact fun r4 H5 σ5 e4 R4 rs4 => ⟨r4, sa2, S2, (e2.trans e3).trans e4, R4, rs4, ek⟩
                | bk sa2 S2 =>
                  cases ek
                  exact fun r4 H5 σ5 e4 R4 rs4 => p2 r4 H5 σ5 (e3.trans e4) R4 rs4
                | rt a2 S2 =>
                  cases ek
                  exact fun r4 H5 v5 e4 R4 rv => p2 r4 H5 v5 (e3.trans e4) R4 rv
                | er c2 sa2 S2 =>
                  cases ek
                  exact fun r4 H5 σ5 e4 R4 rs4 => p2 r4 H5 σ5 (e3.trans e4) R4 rs4
end
end Vai
namespace Vai
open PySem L2
section
variable {X : Cx} {t : Tx} {W : WX} {tg : Expr}
theorem v_forS {iter : Expr} {body : List Stmt} {fi : FI} {T : TF} {f : FS} {pos : Pos} (hp : PassesOwn (model X.prog X.w) X.A X.env X.xe) (hi : PI X tg iter (liftI t W fi)) (hg : PG X tg (liftG t T)) (hb : PSs X body (liftS t W f)) (hc : X.calm = true := by rfl)
    (hs : ∀ x, foldedSetIterable iter X.env x = pure x := by intro _; rfl) : PS X (.For tg iter body [] pos) (liftS t W (forF fi T f)) := v_for hp hi hg hb hc (ps_for hp hc hi hg hb hs)
end
/-! ### comprehensions -/
abbrev TX := A → Sa → List O → Option Sa
abbrev TXs := List A → Sa → List O → Option Sa
def nameX (i : Nat) : TX := fun a sa _ => some (sa.set i (some a))
def nilX : TXs := fun as sa _ => match as with
  | [] => some sa
  | _ => none
def consX (f : TX) (g : TXs) : TXs := fun as sa S => match as with
  | [] => none
  | a :: r => match f a sa S with
    | some sa' => g r sa' S
    | none => none
def tupX (n : Nat) (g : TXs) : TX := fun a sa S => match a with
  | .ref l => match S[l]? with
    | some (.tup as) => if as.length = n then g as sa S else none
    | _ => none
  | _ => none
def wipeA (sa : Sa) : List Nat → Sa
  | [] => sa
  | v :: vs => (wipeA sa vs).set v none
theorem RS.wipe {r : List Addr} {sa : Sa} {σ : St} (h : RS r sa σ) : ∀ vs : List Nat, RS r (wipeA sa vs) (wipe σ vs)
  | [] => h
  | v :: vs => pr_set (fun x e => by cases e) v (RS.wipe h vs)
theorem set_comm {α : Type} {l : List α} {i j : Nat} {x y : α} (h : i ≠ j) : (l.set i x).set j y = (l.set j y).set i x := List.set_comm x y h
theorem set_same {α : Type} {l : List α} {i : Nat} {x y : α} : (l.set i x).set i y = l.set i y := List.set_set x
theorem wipe_set {σ : St} {i : Nat} {x : Option V} : ∀ {vs : List Nat}, i ∈ vs → wipe (σ.set i x) vs = wipe σ vs
  | [], h => by cases h
  | v :: vs, h => by
    show (wipe (σ.set i x) vs).set v none = (wipe σ vs).set v none
    by_cases hi : i ∈ vs
    · rw [wipe_set hi]
    · have hv : i = v := by
        rcases List.mem_cons.mp h with e | e
        · exact e
        · exact absurd e hi
      subst hv
      have key : ∀ (ws : List Nat), i ∉ ws → wipe (σ.set i x) ws = (wipe σ ws).set i x := by
        intro ws
        induction ws with
        | nil => exact fun _ => rfl
        | cons w ws ih =>
          intro hn
          rw [List.mem_cons, not_or] at hn
          show (wipe (σ.set i x) ws).set w none = ((wipe σ ws).set w none).set i x
          rw [ih hn.2, set_comm hn.1]
      rw [key vs hi, set_same]
/-- a target whose slots are vs -/
def liftGx (t : Tx) (vs : List Nat) (f : TX) : TG := fun v σ H Q => ∃ r sa S a sa', Rel t r S H ∧ RS r sa σ ∧ RA r a v ∧ f a sa S = some sa' ∧ ∀ σ' : St, wipe σ' vs = wipe σ vs → RS r sa' σ' → Q σ' H
def liftGxs (t : Tx) (vs : List Nat) (f : TXs) : TGs := fun us σ H Q => ∃ r sa S as sa', Rel t r S H ∧ RS r sa σ ∧ Paired (RA r) as us ∧ f as sa S = some sa' ∧ ∀ σ' : St, wipe σ' vs = wipe σ vs → RS r sa' σ' → Q σ' H
section
variable {X : Cx} {t : Tx} {W : WX} {vs : List Nat}
theorem v_xname (i : Nat) (hv : i ∈ vs) {x : Str} {pos : Pos} (hN : X.N.Nodup) (hi : X.N[i]? = some x := by rfl) (hx : Loc X.env.scope x := by first | exact Or.inl rfl | exact Or.inr rfl) (hf : X.fn x = true ∨ X.env.scope.names.lookup x = some .local := by first | exact .inl rfl | exact .inr rfl | assumption) :
    PG X (.Name x pos) (liftGx t vs (nameX i)) := (pg_name hN hi hx hf).weak fun v σ H Q h => by
  obtain ⟨r, sa, S, a, sa', R, rs, ra, e, k⟩ := h
  cases e
  exact k _ (wipe_set hv) (rs.set ra i)
theorem v_xnil : PGs X [] (liftGxs t vs nilX) := pgs_nil.weak fun us σ H Q h => by
  obtain ⟨r, sa, S, as, sa', R, rs, ra, e, k⟩ := h
  cases ra with
  | nil =>
    cases e
    exact ⟨rfl, k _ rfl rs⟩
  | cons h q => cases e
theorem v_xcons {e : Expr} {es : List Expr} {f : TX} {g : TXs} (h1 : PG X e (liftGx t vs f)) (h2 : PGs X es (liftGxs t vs g)) (hs : (assignEach (e :: es) X.env).map (·.2) = assign e X.env :: (assignEach es X.env).map (·.2) := by rfl) : PGs X (e :: es) (liftGxs t vs (consX f g)) := (pgs_cons h1 h2 hs).weak fun us σ H Q h => by
  obtain ⟨r, sa, S, as, sa', R, rs, ra, e, k⟩ := h
  cases ra with
  | nil => cases e
  | @cons a v as us h q =>
    simp only [consX] at e
    cases hf : f a sa S with
    | none =>
      rw [hf] at e
      cases e
    | some s1 =>
      rw [hf] at e
      exact ⟨v, us, rfl, r, sa, S, a, s1, R, rs, h, hf, fun σ' w rs' => ⟨r, s1, S, as, sa', R, rs', q, e, fun σ2 w2 rs2 => k σ2 (w2.trans w) rs2⟩⟩
theorem v_xtup {es : List Expr} {x1} {g : TXs} {n : Nat} {pos : Pos} (hK : X.K = t.K) (hp : PG X (.Tuple es x1 pos) (gTup X.K n (liftGxs t vs g))) : PG X (.Tuple es x1 pos) (liftGx t vs (tupX n g)) := hp.weak fun v σ H Q h => by
  obtain ⟨r, sa, S, a, sa', R, rs, ra, e, k⟩ := h
  unfold tupX at e
  split at e
  · rename_i l
    split at e
    · rename_i as hl
      split at e
      · rename_i hn
        obtain ⟨p, hp, rfl⟩ := ra
        obtain ⟨us, h1, h2⟩ := R.ob l p _ hp hl
        exact ⟨p, us, rfl, SqT.of h1, by rw [← pr_len h2]; exact hn, r, sa, S, as, sa', R, rs, h2, e, k⟩
      · cases e
    · cases e
  · cases e
def W0 : WX := fun _ _ _ _ => False
theorem _root_.L2.PTs.weak {X : Cx} {e : List Expr} {t1 t2 : TT} (h : PTs X e t1) (k : ∀ σ H Q, t2 σ H Q → t1 σ H Q) : PTs X e t2 := ⟨fun pins s σ H Q I q => h.run pins s σ H Q I (k _ _ _ q)⟩
theorem v_ts0 : PTs X [] (liftB t W0 (conF (.bl true))) := pts_nil.weak fun σ H Q h => by
  obtain ⟨r, sa, S, x, R, rs, e, p⟩ := h
  cases e
  obtain ⟨c, e, q⟩ := p r H _ (Ext.refl r) R rfl
  cases e
  exact q
theorem v_ts1 {c : Expr} {f : F} (h : PT X c (liftB t W0 f)) : PTs X [c] (liftB t W0 f) := pts_one h
def lcGo (i : Its) (T : TX) (vs : List Nat) (ft fe : F) (d : Nat) (sa : Sa) : Nat → Nat → List O → Option (List O)
  | 0, _ => fun _ => none
  | n + 1, j => fun S => match itemAt i j S with
    | none => none
    | some none => some S
    | some (some a) => (match T a (wipeA sa vs) S with
      | none => none
      | some sa1 => (match ft sa1 S with
        | some (.ok (.bl true) S2) => (match fe sa1 S2 with
          | some (.ok y S3) => (match S3[d]? with
            | some (.lst acc) => if acc.length < 1000000 then lcGo i T vs ft fe d sa n (j + 1) (S3.set d (.lst (acc ++ [y]))) else none
            | _ => none)
          | _ => none)
        | some (.ok (.bl false) S2) => lcGo i T vs ft fe d sa n (j + 1) S2
        | _ => none))
def lcF (fi : FI) (T : TX) (vs : List Nat) (ft fe : F) : F := fun sa S => match fi sa S with
  | some (.ok i S') => (match lcGo i T vs ft fe S'.length sa (itsLen i S' + 1) 0 (S' ++ [.lst []]) with
    | some S2 => some (.ok (.ref S'.length) S2)
    | none => none)
  | some (.er c S') => some (.er c S')
  | none => none
theorem lc_ok {fi : FI} {T : TX} {ft fe : F} {σ : St} {H : Hp} {Q : VK} (h : lift t W (lcF fi T vs ft fe) σ H Q) : tLc (liftI t W fi) (liftGx t vs T) (liftB t W0 ft) (lift t W0 fe) vs σ H Q := by
  obtain ⟨r, sa, S, x, R, rs, e, p⟩ := h
  unfold lcF at e
  cases hf : fi sa S with
  | none =>
    rw [hf] at e
    cases e
  | some y =>
    rw [hf] at e
    refine ⟨r, sa, S, y, R, rs, hf, ?_⟩
    cases y with
    | er c S' =>
      cases e
      exact p
    | ok i S' =>
      intro r' H' J ex R' hJ D hD
      dsimp only at e
      cases hgo : lcGo i T vs ft fe S'.length sa (itsLen i S' + 1) 0 (S' ++ [.lst []]) with
      | none =>
        rw [hgo] at e
        cases e
      | some S2 =>
        rw [hgo] at e
        cases e
        have RD : Rel t (r' ++ [D]) (S' ++ [.lst []]) (upd H' D (.lst [])) := R'.new hD ⟨[], upd_same, .nil⟩
        have gD : (r' ++ [D])[S'.length]? = some D := by
          rw [← R'.len]
          exact get_snoc_new r' D
        refine ⟨fun j m H => ∃ r2 S, Ext (r' ++ [D]) r2 ∧ Rel t r2 S H ∧ lcGo i T vs ft fe S'.length sa m j S = some S2, ⟨_, r' ++ [D], _, Ext.refl _, RD, hgo⟩, ?_⟩
        rintro j m H ⟨r2, S, e2, R2, ek⟩
        have hJ2 := hJ.ext ((Ext.snoc r' D).trans e2)
        have exr := (ex.trans (Ext.snoc r' D)).trans e2
        cases m with
        | zero => cases ek
        | succ m =>
          simp only [lcGo] at ek
          cases hit : itemAt i j S with
          | none =>
            rw [hit] at ek
            cases ek
          | some u =>
            rw [hit] at ek
            cases u with
            | none =>
              cases ek
              exact .inl ⟨item_stop R2 hJ2 hit, p r2 H _ exr R2 ⟨D, e2.get gD, rfl⟩⟩
            | some a =>
              obtain ⟨g1, g2⟩ := item_go R2 hJ2 hit
              refine .inr ⟨g1, fun H' => ∃ r3 S, Ext (r' ++ [D]) r3 ∧ Rel t r3 S H' ∧ lcGo i T vs ft fe S'.length sa m (j + 1) S = some S2, fun H' z => ⟨m, Nat.lt_succ_self m, z⟩, fun v H3 hy => ?_⟩
              obtain ⟨rfl, ra⟩ := g2 v H3 hy
              dsimp only at ek
              cases hT : T a (wipeA sa vs) S with
              | none =>
                rw [hT] at ek
                cases ek
              | some sa1 =>
                rw [hT] at ek
                refine ⟨r2, wipeA sa vs, S, a, sa1, R2, (rs.ext exr).wipe vs, ra, hT, fun σ2 hw rs2 => ⟨hw.trans ?_, ?_⟩⟩
                · clear hw ek hT p
                  have key : ∀ (us : List Nat) (τ : St), (∀ i ∈ us, i ∈ vs) → wipe (wipe τ us) vs = wipe τ vs := by
                    intro us
                    induction us with
                    | nil => exact fun τ _ => rfl
                    | cons u us ih =>
                      intro τ hm
                      show wipe ((wipe τ us).set u none) vs = wipe τ vs
                      rw [wipe_set (hm u (List.mem_cons_self ..)), ih τ fun i hi => hm i (List.mem_cons_of_mem _ hi)]
                  exact key vs σ fun _ h => h
                · dsimp only at ek
                  cases ht : ft sa1 S with
                  | none =>
                    rw [ht] at ek
                    cases ek
                  | some w =>
                    rw [ht] at ek
                    refine ⟨r2, sa1, S, w, R2, rs2, ht, ?_⟩
                    cases w with
                    | er c S3 => cases ek
                    | ok b S3 =>
                      cases b with
                      | bl k =>
                        intro r3 H4 v4 e3 R3 rv
                        cases rv
                        refine ⟨k, rfl, ?_⟩
                        cases k with
                        | false => exact iteF ⟨r3, S3, e2.trans e3, R3, ek⟩
                        | true =>
                          refine iteT ?_
                          dsimp only at ek
                          cases he : fe sa1 S3 with
                          | none =>
                            rw [he] at ek
                            cases ek
                          | some z =>
                            rw [he] at ek
                            refine ⟨r3, sa1, S3, z, R3, rs2.ext e3, he, ?_⟩
                            cases z with
                            | er c S4 => cases ek
                            | ok y S4 =>
                              intro r4 H5 yv e4 R4 ry
                              dsimp only at ek
                              cases hd : S4[S'.length]? with
                              | none =>
                                rw [hd] at ek
                                cases ek
                              | some o =>
                                rw [hd] at ek
                                cases o with
                                | lst acc =>
                                  dsimp only at ek
                                  split at ek
                                  · rename_i hlt
                                    have gD4 := ((e2.trans e3).trans e4).get gD
                                    obtain ⟨us, h1, h2⟩ := R4.ob _ D _ gD4 hd
                                    refine ⟨us, h1, ?_, r4, _, (e2.trans e3).trans e4, R4.put (o' := .lst (acc ++ [y])) gD4 hd rfl rfl h1 (fun _ _ z => by cases z) ⟨_, upd_same, pr_app h2 (.cons ry .nil)⟩, ek⟩
                                    rw [← pr_len h2, sizeLine_eq]
                                    omega
                                  · cases ek
                                | _ => cases ek
                      | _ => cases ek
theorem v_lc (own : List (Str × Nat)) {elt iter tg : Expr} {ifs : List Expr} {scope : Scope} {vs : List Nat} {pos : Pos} {fi : FI} {T : TX} {ft fe : F} (hN : X.N.Nodup) (hi : PI X tg iter (liftI t W fi)) (ok : BlkOk X.N X.env.scope scope own)
    (hg : ∀ (s : Shared) (H : Hp) (C : Addr) (cl : List (Str × Addr)) (fp : List Addr), PG (X.blk s H scope (compEnvC scope cl C X.env) fp) tg (liftGx t vs T)) (ht : ∀ (s : Shared) (H : Hp) (C : Addr) (cl : List (Str × Addr)) (fp : List Addr), PTs (X.blk s H scope (compEnvC scope cl C X.env) fp) ifs (liftB t W0 ft))
    (he : ∀ (s : Shared) (H : Hp) (C : Addr) (cl : List (Str × Addr)) (fp : List Addr), PE (X.blk s H scope (compEnvC scope cl C X.env) fp) elt (lift t W0 fe)) (hvs : own.map (·.2) = vs := by rfl) (hc : X.calm = true := by rfl) (hs : ∀ x, foldedSetIterable iter X.env x = pure x := by intro _; rfl) :
    PE X (.ListComp elt [⟨tg, iter, ifs, 0⟩] scope pos) (lift t W (lcF fi T vs ft fe)) := by
  subst hvs
  exact (pe_lc hc hN hi ok hg ht he hs).weak fun _ _ _ h => lc_ok h
theorem v_setLc (own : List (Str × Nat)) {i : Nat} {y : Str} {py : Pos} {elt iter tg : Expr} {ifs : List Expr} {scope : Scope} {vs : List Nat} {pos spos : Pos} {fi : FI} {T : TX} {ft fe : F} (hN : X.N.Nodup) (hy : X.N[i]? = some y) (hyl : X.env.scope.names.lookup y = some .local)
    (hsw : swapsWith (.ListComp elt [⟨tg, iter, ifs, 0⟩] scope pos) (some (.Name y py)) spos.line X.env = pure true) (hi : PI X tg iter (liftI t W fi)) (ok : BlkOk X.N X.env.scope scope own)
    (hg : ∀ (s : Shared) (H : Hp) (C : Addr) (cl : List (Str × Addr)) (fp : List Addr), PG (X.blk s H scope (compEnvC scope cl C X.env) fp) tg (liftGx t vs T)) (ht : ∀ (s : Shared) (H : Hp) (C : Addr) (cl : List (Str × Addr)) (fp : List Addr), PTs (X.blk s H scope (compEnvC scope cl C X.env) fp) ifs (liftB t W0 ft))
    (he : ∀ (s : Shared) (H : Hp) (C : Addr) (cl : List (Str × Addr)) (fp : List Addr), PE (X.blk s H scope (compEnvC scope cl C X.env) fp) elt (lift t W0 fe)) (hvs : own.map (·.2) = vs := by rfl) (hc : X.calm = true := by rfl) (hs : ∀ x, foldedSetIterable iter X.env x = pure x := by intro _; rfl) :
    PS X (.Assign [.Name y py] (.ListComp elt [⟨tg, iter, ifs, 0⟩] scope pos) spos) (liftS t W (asgF (lcF fi T vs ft fe) (nameT i))) := by
  subst hvs
  refine (ps_setLc hc hN hy hyl hsw hi ok hg ht he hs).weak fun D σ H h => ?_
  obtain ⟨r, sa, S, x, R, rs, e, p⟩ := h
  refine lc_ok (W := W) ?_
  unfold asgF at e
  cases hf : lcF fi T (own.map (·.2)) ft fe sa S with
  | none =>
    rw [hf] at e
    cases e
  | some z =>
    rw [hf] at e
    refine ⟨r, sa, S, z, R, rs, hf, ?_⟩
    cases z with
    | er c S' =>
      cases e
      exact fun r' H' ex R' => p r' H' σ ex R' (rs.ext ex)
    | ok a S' =>
      cases e
      exact fun r' H' v ex R' ra => p r' H' _ ex R' ((rs.ext ex).set ra i)
end
end Vai
set_option maxRecDepth 100000
set_option maxHeartbeats 2000000
namespace Vai
open PySem L2
section
variable {X : Cx} {t : Tx} {W : WX} {vs : List Nat}
theorem wipe_wipe (σ : St) (vs : List Nat) : wipe (wipe σ vs) vs = wipe σ vs := by
  have key : ∀ (us : List Nat) (τ : St), (∀ i ∈ us, i ∈ vs) → wipe (wipe τ us) vs = wipe τ vs := by
    intro us
    induction us with
    | nil => exact fun τ _ => rfl
    | cons u us ih =>
      intro τ hm
      show wipe ((wipe τ us).set u none) vs = wipe τ vs
      rw [wipe_set (hm u (List.mem_cons_self ..)), ih τ fun i hi => hm i (List.mem_cons_of_mem _ hi)]
  exact key vs σ fun _ h => h
/-- the turns of a comprehension's (last) for -/
theorem lcGo_ok {i : Its} {T : TX} {ft fe : F} {d : Nat} {D : Addr} {sa : Sa} {σ : St} {J : It} {r : List Addr} {n : Nat} {S Sf : List O} {H : Hp} {Fin : Hp → Prop} (R : Rel t r S H) (rs : RS r sa σ) (gD : r[d]? = some D) (hJ : ItR t r i J) (hgo : lcGo i T vs ft fe d sa n 0 S = some Sf)
    (hF : ∀ (r' : List Addr) (H' : Hp), Ext r r' → Rel t r' Sf H' → Fin H') : ∃ W1 : Nat → Nat → Hp → Prop, (∃ m, W1 0 m H) ∧ ∀ j m H, W1 j m H →
      (J.stop j H ∧ Fin H) ∨ (J.go j H ∧ ∃ Nx : Hp → Prop, (∀ H', Nx H' → ∃ m', m' < m ∧ W1 (j + 1) m' H') ∧ ∀ x H', J.yld j H x H' → liftGx t vs T x (wipe σ vs) H' fun σ2 H2 => wipe σ2 vs = wipe σ vs ∧ liftB t W0 ft σ2 H2 fun b H3 =>
        if b = true then lift t W0 fe σ2 H3 fun y H4 => ∃ acc, H4 D = some (.lst acc) ∧ acc.length < sizeLine ∧ Nx (upd H4 D (.lst (acc ++ [y]))) else Nx H3) := by
  refine ⟨fun j m H => ∃ r2 S, Ext r r2 ∧ Rel t r2 S H ∧ lcGo i T vs ft fe d sa m j S = some Sf, ⟨_, r, S, Ext.refl _, R, hgo⟩, ?_⟩
  rintro j m H ⟨r2, S, e2, R2, ek⟩
  have hJ2 := hJ.ext e2
  cases m with
  | zero => cases ek
  | succ m =>
    simp only [lcGo] at ek
    cases hit : itemAt i j S with
    | none =>
      rw [hit] at ek
      cases ek
    | some u =>
      rw [hit] at ek
      cases u with
      | none =>
        cases ek
        exact .inl ⟨item_stop R2 hJ2 hit, hF r2 H e2 R2⟩
      | some a =>
        obtain ⟨g1, g2⟩ := item_go R2 hJ2 hit
        refine .inr ⟨g1, fun H' => ∃ r3 S, Ext r r3 ∧ Rel t r3 S H' ∧ lcGo i T vs ft fe d sa m (j + 1) S = some Sf, fun H' z => ⟨m, Nat.lt_succ_self m, z⟩, fun v H3 hy => ?_⟩
        obtain ⟨rfl, ra⟩ := g2 v H3 hy
        dsimp only at ek
        cases hT : T a (wipeA sa vs) S with
        | none =>
          rw [hT] at ek
          cases ek
        | some sa1 =>
          rw [hT] at ek
          refine ⟨r2, wipeA sa vs, S, a, sa1, R2, (rs.ext e2).wipe vs, ra, hT, fun σ2 hw rs2 => ⟨hw.trans (wipe_wipe σ vs), ?_⟩⟩
          dsimp only at ek
          cases ht : ft sa1 S with
          | none =>
            rw [ht] at ek
            cases ek
          | some w =>
            rw [ht] at ek
            refine ⟨r2, sa1, S, w, R2, rs2, ht, ?_⟩
            cases w with
            | er c S3 => cases ek
            | ok b S3 =>
              cases b with
              | bl k =>
                intro r3 H4 v4 e3 R3 rv
                cases rv
                refine ⟨k, rfl, ?_⟩
                cases k with
                | false => exact iteF ⟨r3, S3, e2.trans e3, R3, ek⟩
                | true =>
                  refine iteT ?_
                  dsimp only at ek
                  cases he : fe sa1 S3 with
                  | none =>
                    rw [he] at ek
                    cases ek
                  | some z =>
                    rw [he] at ek
                    refine ⟨r3, sa1, S3, z, R3, rs2.ext e3, he, ?_⟩
                    cases z with
                    | er c S4 => cases ek
                    | ok y S4 =>
                      intro r4 H5 yv e4 R4 ry
                      dsimp only at ek
                      cases hd : S4[d]? with
                      | none =>
                        rw [hd] at ek
                        cases ek
                      | some o =>
                        rw [hd] at ek
                        cases o with
                        | lst acc =>
                          dsimp only at ek
                          split at ek
                          · rename_i hlt
                            have gD4 := ((e2.trans e3).trans e4).get gD
                            obtain ⟨us, h1, h2⟩ := R4.ob _ D _ gD4 hd
                            refine ⟨us, h1, ?_, r4, _, (e2.trans e3).trans e4, R4.put (o' := .lst (acc ++ [y])) gD4 hd rfl rfl h1 (fun _ _ z => by cases z) ⟨_, upd_same, pr_app h2 (.cons ry .nil)⟩, ek⟩
                            rw [← pr_len h2, sizeLine_eq]
                            omega
                          · cases ek
                        | _ => cases ek
              | _ => cases ek
def lc2Go (i : Its) (T : TX) (vs : List Nat) (ft : F) (fi1 : FI) (T1 : TX) (vs1 : List Nat) (ft1 fe : F) (d : Nat) (sa : Sa) : Nat → Nat → List O → Option (List O)
  | 0, _ => fun _ => none
  | n + 1, j => fun S => match itemAt i j S with
    | none => none
    | some none => some S
    | some (some a) => (match T a (wipeA sa vs) S with
      | none => none
      | some sa1 => (match ft sa1 S with
        | some (.ok (.bl true) S2) => (match fi1 sa1 S2 with
          | some (.ok i1 S3) => (match lcGo i1 T1 vs1 ft1 fe d sa1 (itsLen i1 S3 + 1) 0 S3 with
            | some S4 => lc2Go i T vs ft fi1 T1 vs1 ft1 fe d sa n (j + 1) S4
            | none => none)
          | _ => none)
        | some (.ok (.bl false) S2) => lc2Go i T vs ft fi1 T1 vs1 ft1 fe d sa n (j + 1) S2
        | _ => none))
def lc2F (fi : FI) (T : TX) (vs : List Nat) (ft : F) (fi1 : FI) (T1 : TX) (vs1 : List Nat) (ft1 fe : F) : F := fun sa S => match fi sa S with
  | some (.ok i S') => (match lc2Go i T vs ft fi1 T1 vs1 ft1 fe S'.length sa (itsLen i S' + 1) 0 (S' ++ [.lst []]) with
    | some S2 => some (.ok (.ref S'.length) S2)
    | none => none)
  | some (.er c S') => some (.er c S')
  | none => none
theorem lc2_ok {fi fi1 : FI} {T T1 : TX} {vs1 : List Nat} {ft ft1 fe : F} {σ : St} {H : Hp} {Q : VK} (h : lift t W (lc2F fi T vs ft fi1 T1 vs1 ft1 fe) σ H Q) :
    tLc2 (liftI t W fi) (liftGx t vs T) (liftB t W0 ft) (liftI t W0 fi1) (liftGx t vs1 T1) (liftB t W0 ft1) (lift t W0 fe) vs vs1 σ H Q := by
  obtain ⟨r, sa, S, x, R, rs, e, p⟩ := h
  unfold lc2F at e
  cases hf : fi sa S with
  | none =>
    rw [hf] at e
    cases e
  | some y =>
    rw [hf] at e
    refine ⟨r, sa, S, y, R, rs, hf, ?_⟩
    cases y with
    | er c S' =>
      cases e
      exact p
    | ok i S' =>
      intro r' H' J ex R' hJ D hD
      dsimp only at e
      cases hgo : lc2Go i T vs ft fi1 T1 vs1 ft1 fe S'.length sa (itsLen i S' + 1) 0 (S' ++ [.lst []]) with
      | none =>
        rw [hgo] at e
        cases e
      | some S2 =>
        rw [hgo] at e
        cases e
        have RD : Rel t (r' ++ [D]) (S' ++ [.lst []]) (upd H' D (.lst [])) := R'.new hD ⟨[], upd_same, .nil⟩
        have gD : (r' ++ [D])[S'.length]? = some D := by
          rw [← R'.len]
          exact get_snoc_new r' D
        refine ⟨fun j m H => ∃ r2 S, Ext (r' ++ [D]) r2 ∧ Rel t r2 S H ∧ lc2Go i T vs ft fi1 T1 vs1 ft1 fe S'.length sa m j S = some S2, ⟨_, r' ++ [D], _, Ext.refl _, RD, hgo⟩, ?_⟩
        rintro j m H ⟨r2, S, e2, R2, ek⟩
        have hJ2 := hJ.ext ((Ext.snoc r' D).trans e2)
        have exr := (ex.trans (Ext.snoc r' D)).trans e2
        cases m with
        | zero => cases ek
        | succ m =>
          simp only [lc2Go] at ek
          cases hit : itemAt i j S with
          | none =>
            rw [hit] at ek
            cases ek
          | some u =>
            rw [hit] at ek
            cases u with
            | none =>
              cases ek
              exact .inl ⟨item_stop R2 hJ2 hit, p r2 H _ exr R2 ⟨D, e2.get gD, rfl⟩⟩
            | some a =>
              obtain ⟨g1, g2⟩ := item_go R2 hJ2 hit
              refine .inr ⟨g1, fun H' => ∃ r3 S, Ext (r' ++ [D]) r3 ∧ Rel t r3 S H' ∧ lc2Go i T vs ft fi1 T1 vs1 ft1 fe S'.length sa m (j + 1) S = some S2, fun H' z => ⟨m, Nat.lt_succ_self m, z⟩, fun v H3 hy => ?_⟩
              obtain ⟨rfl, ra⟩ := g2 v H3 hy
              dsimp only at ek
              cases hT : T a (wipeA sa vs) S with
              | none =>
                rw [hT] at ek
                cases ek
              | some sa1 =>
                rw [hT] at ek
                refine ⟨r2, wipeA sa vs, S, a, sa1, R2, (rs.ext exr).wipe vs, ra, hT, fun σ2 hw rs2 => ⟨hw.trans (wipe_wipe σ vs), ?_⟩⟩
                dsimp only at ek
                cases ht : ft sa1 S with
                | none =>
                  rw [ht] at ek
                  cases ek
                | some w =>
                  rw [ht] at ek
                  refine ⟨r2, sa1, S, w, R2, rs2, ht, ?_⟩
                  cases w with
                  | er c S3 => cases ek
                  | ok b S3 =>
                    cases b with
                    | bl k =>
                      intro r3 H4 v4 e3 R3 rv
                      cases rv
                      refine ⟨k, rfl, ?_⟩
                      cases k with
                      | false => exact iteF ⟨r3, S3, e2.trans e3, R3, ek⟩
                      | true =>
                        refine iteT ?_
                        dsimp only at ek
                        cases hi : fi1 sa1 S3 with
                        | none =>
                          rw [hi] at ek
                          cases ek
                        | some z =>
                          rw [hi] at ek
                          refine ⟨r3, sa1, S3, z, R3, rs2.ext e3, hi, ?_⟩
                          cases z with
                          | er c S4 => cases ek
                          | ok i1 S4 =>
                            intro r4 H5 J1 e4 R4 hJ1
                            dsimp only at ek
                            cases hin : lcGo i1 T1 vs1 ft1 fe S'.length sa1 (itsLen i1 S4 + 1) 0 S4 with
                            | none =>
                              rw [hin] at ek
                              cases ek
                            | some S5 =>
                              rw [hin] at ek
                              exact lcGo_ok R4 ((rs2.ext e3).ext e4) (((e2.trans e3).trans e4).get gD) hJ1 hin fun r6 H6 e6 R6 => ⟨r6, S5, ((e2.trans e3).trans e4).trans e6, R6, ek⟩
                    | _ => cases ek
theorem v_lc2 (own : List (Str × Nat)) {elt iter tg iter1 tg1 : Expr} {ifs ifs1 : List Expr} {scope : Scope} {vs vs1 : List Nat} {pos : Pos} {fi fi1 : FI} {T T1 : TX} {ft ft1 fe : F} (hN : X.N.Nodup) (hi : PI X tg iter (liftI t W fi)) (ok : BlkOk X.N X.env.scope scope own)
    (hg : ∀ (s : Shared) (H : Hp) (C : Addr) (cl : List (Str × Addr)) (fp : List Addr), PG (X.blk s H scope (compEnvC scope cl C X.env) fp) tg (liftGx t vs T)) (ht : ∀ (s : Shared) (H : Hp) (C : Addr) (cl : List (Str × Addr)) (fp : List Addr), PTs (X.blk s H scope (compEnvC scope cl C X.env) fp) ifs (liftB t W0 ft))
    (hi1 : ∀ (s : Shared) (H : Hp) (C : Addr) (cl : List (Str × Addr)) (fp : List Addr), PI (X.blk s H scope (compEnvC scope cl C X.env) fp) tg1 iter1 (liftI t W0 fi1))
    (hg1 : ∀ (s : Shared) (H : Hp) (C : Addr) (cl : List (Str × Addr)) (fp : List Addr), PG (X.blk s H scope (compEnvC scope cl C X.env) fp) tg1 (liftGx t vs1 T1)) (ht1 : ∀ (s : Shared) (H : Hp) (C : Addr) (cl : List (Str × Addr)) (fp : List Addr), PTs (X.blk s H scope (compEnvC scope cl C X.env) fp) ifs1 (liftB t W0 ft1))
    (he : ∀ (s : Shared) (H : Hp) (C : Addr) (cl : List (Str × Addr)) (fp : List Addr), PE (X.blk s H scope (compEnvC scope cl C X.env) fp) elt (lift t W0 fe)) (hvs : own.map (·.2) = vs := by rfl) (hv : ∀ i ∈ vs1, i ∈ own.map (·.2) := by decide) (hc : X.calm = true := by rfl)
    (hs : ∀ x, foldedSetIterable iter X.env x = pure x := by intro _; rfl) (hs1 : ∀ env x, foldedSetIterable iter1 env x = pure x := by intro _ _; rfl) :
    PE X (.ListComp elt [⟨tg, iter, ifs, 0⟩, ⟨tg1, iter1, ifs1, 0⟩] scope pos) (lift t W (lc2F fi T vs ft fi1 T1 vs1 ft1 fe)) := by
  subst hvs
  exact (pe_lc2 hc hN hi ok hv hg ht hi1 hg1 ht1 he hs hs1).weak fun _ _ _ h => lc2_ok h
end
end Vai
set_option maxRecDepth 100000
set_option maxHeartbeats 4000000
namespace Vai
open PySem L2 PySem.Spec PyProof.Rows
/-! ### tuple * 1 -/
theorem tuple_mul1 (l : Addr) (items : Array Value) (n : Nat) (dd : Option Addr) (sl : Array (Option Value)) (u : Tok) :
    Meets (Builtin.«tuple.__mul__» ⟨[.ref l, .int 1 u], []⟩) (fun _ R s => s.heap.get? l = some { cls := .type "tuple", dict := dd, data := .seq items n, slots := sl } ∧ R (.ok (.ret (Value.ref l))) s) :=
  .of_wp fun prog w A R s h => by
    obtain ⟨hp, g, d, tk, os⟩ := s
    obtain ⟨hl, h⟩ := h
    have f1 := AutoSeq1.idx_int
    wp_walk using wpAny_loadPart' hl
    exact ⟨_, rfl, h⟩
def rRepT1 (K : PySem.W.Frag) : R2 := fun x y H Q => ∃ l xs, x = .ref l ∧ y = .int 1 ∧ SqT K H l xs ∧ Q (.ref l) H
theorem op_repT1 {X : Cx} : OpR X (binaryOp .Mult) (rRepT1 X.K) := by
  intro pins s σ H x y v u Q J rx ry h
  obtain ⟨l, xs, rfl, rfl, hT, q⟩ := h
  cases rx
  obtain ⟨t, rfl⟩ := ry
  obtain ⟨its, r, ⟨⟨cls, dd, data, sl⟩, ho, hc, n, hd⟩, hs⟩ := J.tuple hT
  simp only at hc hd
  subst hc hd
  refine wpAny_binaryOp_repeat_ref (T := "tuple") (U := "int") (by decide) ⟨_, ho, rfl⟩ (fun s' => typeIs_int s' 1 t) noFill_tuple_mul F.fills_int_mul F.slot_int_rmul repeat_tuple F.slot_int_index.lookup
    (call_meets F.slot_int_rmul (typeIs_int s 1 t) F.entry_int_rmul (F.args_int_rmul_2 _ _) (int_rmul_tuple 1 t l its.toArray n dd sl) ⟨ho, rfl, ⟨_, ho, rfl⟩, ?_⟩)
  exact call_meets F.slot_tuple_mul ⟨_, ho, rfl⟩ F.entry_tuple_mul (F.args_tuple_mul_2 _ _) (tuple_mul1 l its.toArray n dd sl t) ⟨ho, .ref l, H, J, rfl, q⟩
end Vai
set_option maxRecDepth 100000
set_option maxHeartbeats 2000000
namespace Vai
open PySem L2
theorem opOr {X : Cx} {f : Value → Value → Sem Value} {a b : R2} (h : OpR X f a) (k : OpR X f b) : OpR X f (fun x y H Q => a x y H Q ∨ b x y H Q) := by
  intro pins s σ H x y v u Q I rx ry q
  exact q.elim (h pins s σ H x y v u Q I rx ry) (k pins s σ H x y v u Q I rx ry)
theorem okG {t : Tx} {Q : VK} {r : List Addr} {a : A} {S : List O} {H : Hp} {v : V} (R : Rel t r S H) (p : PostG t Q r (a, S)) (h : RA r a v) : Q v H := p r H v (Ext.refl r) R h
theorem seq_of {t : Tx} {r : List Addr} {S : List O} {H : Hp} {l : Nat} {xs : List A} (R : Rel t r S H) {x : V} (ra : RA r (.ref l) x) (hl : S[l]? = some (.lst xs)) : ∃ p vs, x = .ref p ∧ H p = some (.lst vs) ∧ Paired (RA r) xs vs := by
  obtain ⟨p, hp, rfl⟩ := ra
  obtain ⟨vs, h1, h2⟩ := R.ob l p _ hp hl
  exact ⟨p, vs, rfl, h1, h2⟩
theorem tup_of {t : Tx} {r : List Addr} {S : List O} {H : Hp} {l : Nat} {xs : List A} (R : Rel t r S H) {x : V} (ra : RA r (.ref l) x) (hl : S[l]? = some (.tup xs)) : ∃ p vs, x = .ref p ∧ H p = some (.tup vs) ∧ Paired (RA r) xs vs := by
  obtain ⟨p, hp, rfl⟩ := ra
  obtain ⟨vs, h1, h2⟩ := R.ob l p _ hp hl
  exact ⟨p, vs, rfl, h1, h2⟩
theorem scr_of {t : Tx} {r : List Addr} {S : List O} {H : Hp} {l : Nat} {ns : List Int} (R : Rel t r S H) {x : V} (ra : RA r (.ref l) x) (hl : S[l]? = some (.scr ns)) : ∃ p, x = .ref p ∧ SqL t.K H p (ns.map V.int) := by
  obtain ⟨p, hp, rfl⟩ := ra
  exact ⟨p, rfl, scr_sq (R.ob l p _ hp hl)⟩
theorem pr_nilA {α β : Type} {F : α → β → Prop} {xs : List α} {ys : List β} (h : Paired F xs ys) : xs.isEmpty = true ↔ ys = [] := by
  cases h with
  | nil => simp
  | cons _ _ => simp
/-! ### + -/
def addG : G2 := fun a b S => match a, b with
  | .int i, .int j => some (.int (i + j), S)
  | .str x, .str y => if x.length + y.length ≤ 1000000 then some (.str (x ++ y), S) else none
  | .ref l, .ref m => (match S[l]?, S[m]? with
    | some (.lst xs), some (.lst ys) => if xs.length + ys.length ≤ 1000000 then some (.ref S.length, S ++ [.lst (xs ++ ys)]) else none
    | some (.tup xs), some (.tup ys) => if xs.length + ys.length ≤ 1000000 then (if xs.isEmpty then some (.ref m, S) else if ys.isEmpty then some (.ref l, S) else some (.ref S.length, S ++ [.tup (xs ++ ys)])) else none
    | _, _ => none)
  | _, _ => none
def rAdd (K : PySem.W.Frag) : R2 := fun x y H Q => (rI0 (fun i j => .int (i + j)) x y H Q ∨ (∃ i j, x = .str i ∧ y = .str j ∧ i.length + j.length ≤ sizeLine ∧ Q (.str (i ++ j)) H)) ∨ rCat x y H Q ∨ rCatA K x y H Q
theorem op_addU {X : Cx} : OpR X (binaryOp .Add) (rAdd X.K) := opOr (opOr op_add op_add_str) (opOr op_cat op_catA)
theorem s_add {t : Tx} {K : PySem.W.Frag} (hK : K = t.K) : Sem2 t addG (rAdd K) := by
  subst hK
  intro r S H a b x y p Q R ra rb e k
  unfold addG at e
  split at e
  · cases e
    cases ra
    cases rb
    exact .inl (.inl ⟨_, _, rfl, rfl, okG R k rfl⟩)
  · split at e
    · rename_i hz
      cases e
      cases ra
      cases rb
      exact .inl (.inr ⟨_, _, rfl, rfl, big hz, okG R k rfl⟩)
    · cases e
  · split at e
    · rename_i l m xs ys h1 h2
      split at e
      · rename_i hz
        cases e
        obtain ⟨p1, vs, rfl, g1, q1⟩ := seq_of R ra h1
        obtain ⟨p2, us, rfl, g2, q2⟩ := seq_of R rb h2
        refine .inr (.inl ⟨p1, p2, vs, us, rfl, rfl, g1, g2, by rw [← pr_len q1, ← pr_len q2]; exact big hz, allocG R k fun q => ⟨_, upd_same, RAs.ext (Ext.snoc r q) (pr_app q1 q2)⟩⟩)
      · cases e
    · rename_i l m xs ys h1 h2
      split at e
      · rename_i hz
        have ra' := ra
        have rb' := rb
        obtain ⟨p1, vs, rfl, g1, q1⟩ := tup_of R ra h1
        obtain ⟨p2, us, rfl, g2, q2⟩ := tup_of R rb h2
        refine .inr (.inr ⟨p1, p2, vs, us, rfl, rfl, SqT.of g1, SqT.of g2, by rw [← pr_len q1, ← pr_len q2]; exact big hz, fun z => ?_, fun z1 z2 => ?_, fun z1 z2 => ?_⟩)
        · rw [if_pos ((pr_nilA q1).mpr z)] at e
          cases e
          exact okG R k rb'
        · rw [if_neg (fun w => z1 ((pr_nilA q1).mp w)), if_pos ((pr_nilA q2).mpr z2)] at e
          cases e
          exact okG R k ra'
        · rw [if_neg (fun w => z1 ((pr_nilA q1).mp w)), if_neg (fun w => z2 ((pr_nilA q2).mp w))] at e
          cases e
          exact allocG R k fun q => ⟨_, upd_same, RAs.ext (Ext.snoc r q) (pr_app q1 q2)⟩
      · cases e
    · cases e
  · cases e
/-! ### -, *, //, %, ** -/
def intG (c : Int → Int → Bool) (f : Int → Int → Int) : G2 := fun a b S => match a, b with
  | .int i, .int j => if c i j then some (.int (f i j), S) else none
  | _, _ => none
theorem s_int {t : Tx} {c : Int → Int → Bool} {C : Int → Int → Prop} {f : Int → Int → Int} (hc : ∀ i j, c i j = true → C i j) : Sem2 t (intG c f) (rI C fun i j => .int (f i j)) := by
  intro r S H a b x y p Q R ra rb e k
  unfold intG at e
  split at e
  · split at e
    · rename_i h
      cases e
      cases ra
      cases rb
      exact ⟨_, _, rfl, rfl, hc _ _ h, okG R k rfl⟩
    · cases e
  · cases e
theorem s_int0 {t : Tx} {f : Int → Int → Int} : Sem2 t (intG (fun _ _ => true) f) (rI0 fun i j => .int (f i j)) := by
  intro r S H a b x y p Q R ra rb e k
  unfold intG at e
  split at e
  · split at e
    · cases e
      cases ra
      cases rb
      exact ⟨_, _, rfl, rfl, okG R k rfl⟩
    · cases e
  · cases e
abbrev subG : G2 := intG (fun _ _ => true) fun i j => i - j
theorem s_sub {t : Tx} : Sem2 t subG (rI0 fun i j => .int (i - j)) := s_int0
def small64 (i : Int) : Bool := decide (-18446744073709551616 < i) && decide (i < 18446744073709551616)
theorem small64_ok {i : Int} (h : small64 i = true) : -(2 ^ 64) < i ∧ i < 2 ^ 64 := by
  unfold small64 at h
  simp only [Bool.and_eq_true, decide_eq_true_eq] at h
  omega
def repA {α : Type} (n : Nat) (xs : List α) : List α := (List.replicate n xs).flatten
theorem pr_rep {α β : Type} {F : α → β → Prop} {xs : List α} {ys : List β} (h : Paired F xs ys) : ∀ n, Paired F (repA n xs) (repA n ys)
  | 0 => .nil
  | n + 1 => by
    show Paired F (List.replicate (n + 1) xs).flatten (List.replicate (n + 1) ys).flatten
    rw [List.replicate_succ, List.replicate_succ, List.flatten_cons, List.flatten_cons]
    exact pr_app h (pr_rep h n)
def mulG : G2 := fun a b S => match a, b with
  | .int i, .int j => if small64 i || small64 j then some (.int (i * j), S) else none
  | .ref l, .int k => (match S[l]? with
    | some (.lst xs) => if decide (0 ≤ k) && decide (k ≤ 1000) && decide (xs.length ≤ 1000) then some (.ref S.length, S ++ [.lst (repA k.toNat xs)]) else none
    | some (.tup xs) => if k = 1 then some (.ref l, S) else if decide (2 ≤ k) && decide (k ≤ 1000) && decide (xs.length ≤ 1000) && !xs.isEmpty then some (.ref S.length, S ++ [.tup (repA k.toNat xs)]) else none
    | _ => none)
  | _, _ => none
def rMulU (K : PySem.W.Frag) : R2 := fun x y H Q => rI CMul (fun i j => .int (i * j)) x y H Q ∨ rRep x y H Q ∨ rRepT K x y H Q ∨ rRepT1 K x y H Q
theorem op_mulU {X : Cx} : OpR X (binaryOp .Mult) (rMulU X.K) := opOr op_mul (opOr op_rep (opOr op_repT op_repT1))
theorem s_mul {t : Tx} {K : PySem.W.Frag} (hK : K = t.K) : Sem2 t mulG (rMulU K) := by
  subst hK
  intro r S H a b x y p Q R ra rb e k
  unfold mulG at e
  split at e
  · split at e
    · rename_i h
      cases e
      cases ra
      cases rb
      refine .inl ⟨_, _, rfl, rfl, ?_, okG R k rfl⟩
      rcases Bool.or_eq_true_iff.mp h with h | h
      · exact .inl (small64_ok h)
      · exact .inr (small64_ok h)
    · cases e
  · cases rb
    split at e
    · rename_i l kk _ xs h1
      split at e
      · rename_i hz
        simp only [Bool.and_eq_true, decide_eq_true_eq] at hz
        cases e
        obtain ⟨p1, vs, rfl, g1, q1⟩ := seq_of R ra h1
        refine .inr (.inl ⟨p1, kk, vs, rfl, rfl, g1, by omega, by omega, ?_, allocG R k fun q => ⟨_, upd_same, RAs.ext (Ext.snoc r q) (pr_rep q1 _)⟩⟩)
        rw [← pr_len q1, sizeLine_eq]
        have h2 : kk.toNat ≤ 1000 := by omega
        have h3 : xs.length * kk.toNat ≤ 1000 * 1000 := Nat.mul_le_mul hz.2 h2
        omega
      · cases e
    · rename_i l kk _ xs h1
      split at e
      · rename_i h1k
        subst h1k
        cases e
        have ra' := ra
        obtain ⟨p1, vs, rfl, g1, q1⟩ := tup_of R ra h1
        exact .inr (.inr (.inr ⟨p1, vs, rfl, rfl, SqT.of g1, okG R k ra'⟩))
      split at e
      · rename_i hz
        simp only [Bool.and_eq_true, decide_eq_true_eq, Bool.not_eq_true'] at hz
        cases e
        obtain ⟨p1, vs, rfl, g1, q1⟩ := tup_of R ra h1
        refine .inr (.inr (.inl ⟨p1, kk, vs, rfl, rfl, SqT.of g1, fun z => ?_, by omega, by omega, by rw [← pr_len q1]; exact hz.1.2, allocG R k fun q => ⟨_, upd_same, RAs.ext (Ext.snoc r q) (pr_rep q1 _)⟩⟩))
        have := (pr_nilA q1).mpr z
        rw [hz.2] at this
        cases this
      · cases e
    · cases e
  · cases e
abbrev modG : G2 := intG (fun _ j => decide (j ≠ 0)) fun i j => i.fmod j
theorem s_mod {t : Tx} : Sem2 t modG (rI (fun _ j => j ≠ 0) fun i j => .int (i.fmod j)) := s_int fun i j h => of_decide_eq_true h
abbrev fdivG : G2 := intG (fun _ j => decide (j ≠ 0) && decide (j.natAbs < 1073741824)) fun i j => i.fdiv j
theorem s_fdiv {t : Tx} : Sem2 t fdivG (rI CDivN fun i j => .int (i.fdiv j)) := s_int fun i j h => by
  simp only [Bool.and_eq_true, decide_eq_true_eq] at h
  exact h
abbrev powG : G2 := intG (fun i j => decide (0 ≤ j) && decide (j ≤ 1000000) && decide (i.natAbs < 18446744073709551616)) fun i j => i ^ j.toNat
theorem s_pow {t : Tx} : Sem2 t powG (rI CPow fun i j => .int (i ^ j.toNat)) := s_int fun i j h => by
  simp only [Bool.and_eq_true, decide_eq_true_eq] at h
  exact ⟨h.1.1, h.1.2, by omega⟩
/-! ### comparisons -/
def cmpG (f : Int → Int → Bool) : G2 := fun a b S => match a, b with
  | .int i, .int j => some (.bl (f i j), S)
  | _, _ => none
theorem s_cmp {t : Tx} {f : Int → Int → Bool} : Sem2 t (cmpG f) (rI0 fun i j => .bl (f i j)) := by
  intro r S H a b x y p Q R ra rb e k
  unfold cmpG at e
  split at e
  · cases e
    cases ra
    cases rb
    exact ⟨_, _, rfl, rfl, okG R k rfl⟩
  · cases e
/-- data, read off the store -/
def toD (S : List O) : Nat → A → Option PyData
  | 0, _ => none
  | n + 1, a => match a with
    | .non => some .none
    | .bl b => some (.bool b)
    | .int i => some (.int i)
    | .str z => some (.str z)
    | .ref l => (match S[l]? with
      | some (.lst xs) => (xs.foldr (fun x acc => match toD S n x, acc with
        | some d, some ds => some (d :: ds)
        | _, _ => none) (some [])).map .list
      | some (.tup xs) => (xs.foldr (fun x acc => match toD S n x, acc with
        | some d, some ds => some (d :: ds)
        | _, _ => none) (some [])).map .tuple
      | _ => none)
    | .ty _ => none
def toDs (S : List O) (n : Nat) (xs : List A) : Option (List PyData) := xs.foldr (fun x acc => match toD S n x, acc with
        | some d, some ds => some (d :: ds)
        | _, _ => none) (some [])
theorem toDs_ok {K : PySem.W.Frag} {H : Hp} {S : List O} {n : Nat} {r : List Addr} (ih : ∀ a x d, RA r a x → toD S n a = some d → Dp K H x d) : ∀ {xs : List A} {vs : List V} {ds : List PyData}, Paired (RA r) xs vs → toDs S n xs = some ds → DpAll K H vs ds
  | _, _, ds, .nil, e => by
    cases e
    exact .nil
  | x :: xs, v :: vs, ds, .cons h t, e => by
    simp only [toDs, List.foldr_cons] at e
    split at e
    · rename_i d ds' h1 h2
      cases e
      exact .cons (ih _ _ _ h h1) (toDs_ok ih t h2)
    · cases e
theorem toD_ok {t : Tx} {r : List Addr} {S : List O} {H : Hp} (R : Rel t r S H) : ∀ (n : Nat) (a : A) (x : V) (d : PyData), RA r a x → toD S n a = some d → Dp t.K H x d
  | 0, _, _, _, _, e => by cases e
  | n + 1, a, x, d, ra, e => by
    cases a with
    | non => cases ra; cases e; exact .non
    | bl b => cases ra; cases e; exact .bl b
    | int i => cases ra; cases e; exact .int i
    | str z => cases ra; cases e; exact .str z
    | ty z => cases e
    | ref l =>
      simp only [toD] at e
      split at e
      · rename_i xs hl
        obtain ⟨p, vs, rfl, h1, h2⟩ := seq_of R ra hl
        cases hd : toDs S n xs with
        | none =>
          simp only [toDs] at hd
          rw [hd] at e
          cases e
        | some ds =>
          have hd' := hd
          simp only [toDs] at hd
          rw [hd] at e
          cases e
          exact .lst (SqL.of h1) (toDs_ok (fun a x d => toD_ok R n a x d) h2 hd')
      · rename_i xs hl
        obtain ⟨p, vs, rfl, h1, h2⟩ := tup_of R ra hl
        cases hd : toDs S n xs with
        | none =>
          simp only [toDs] at hd
          rw [hd] at e
          cases e
        | some ds =>
          have hd' := hd
          simp only [toDs] at hd
          rw [hd] at e
          cases e
          exact .tup (SqT.of h1) (toDs_ok (fun a x d => toD_ok R n a x d) h2 hd')
      · cases e
def eqG (neg : Bool) : G2 := fun a b S => match toD S 12 a, toD S 12 b with
  | some d, some e => if SeqAt.shaped d && SeqAt.shaped e then some (.bl (if neg then !PyData.eqv d e else PyData.eqv d e), S) else none
  | _, _ => none
theorem s_eq {t : Tx} {K : PySem.W.Frag} (hK : K = t.K) : Sem2 t (eqG false) (rEqD K) := by
  subst hK
  intro r S H a b x y p Q R ra rb e k
  unfold eqG at e
  split at e
  · rename_i d1 d2 h1 h2
    split at e
    · rename_i hs
      cases e
      rw [Bool.and_eq_true] at hs
      exact ⟨d1, d2, toD_ok R _ _ _ _ ra h1, toD_ok R _ _ _ _ rb h2, hs.1, hs.2, okG R k rfl⟩
    · cases e
  · cases e
theorem s_ne {t : Tx} {K : PySem.W.Frag} (hK : K = t.K) : Sem2 t (eqG true) (rNeD K) := by
  subst hK
  intro r S H a b x y p Q R ra rb e k
  unfold eqG at e
  split at e
  · rename_i d1 d2 h1 h2
    split at e
    · rename_i hs
      cases e
      rw [Bool.and_eq_true] at hs
      exact ⟨d1, d2, toD_ok R _ _ _ _ ra h1, toD_ok R _ _ _ _ rb h2, hs.1, hs.2, okG R k rfl⟩
    · cases e
  · cases e
/-! ### in -/
def toV : A → Option V
  | .non => some .non
  | .bl b => some (.bl b)
  | .int i => some (.int i)
  | .str z => some (.str z)
  | _ => none
theorem toV_ok {r : List Addr} {a : A} {v x : V} (ra : RA r a x) (h : toV a = some v) : x = v ∧ flatV v = true := by
  cases a <;> cases h <;> cases ra <;> exact ⟨rfl, rfl⟩
def toVs : List A → Option (List V)
  | [] => some []
  | a :: as => match toV a, toVs as with
    | some v, some vs => some (v :: vs)
    | _, _ => none
theorem toVs_ok {r : List Addr} : ∀ {as : List A} {vs xs : List V}, Paired (RA r) as xs → toVs as = some vs → xs = vs ∧ vs.all flatV = true
  | _, _, _, .nil, h => by
    cases h
    exact ⟨rfl, rfl⟩
  | a :: as, vs, x :: xs, .cons h t, e => by
    simp only [toVs] at e
    split at e
    · rename_i v vs' h1 h2
      cases e
      obtain ⟨e1, f1⟩ := toV_ok h h1
      obtain ⟨e2, f2⟩ := toVs_ok t h2
      subst e1 e2
      exact ⟨rfl, by rw [List.all_cons, f1, f2]; rfl⟩
    · cases e
def inG (neg : Bool) : G2 := fun a b S => match b with
  | .ref l => (match S[l]? with
    | some (.lst ys) => (match toV a, toVs ys with
      | some v, some vs => some (.bl (if neg then !inV v vs else inV v vs), S)
      | _, _ => none)
    | some (.tup ys) => (match toV a, toVs ys with
      | some v, some vs => some (.bl (if neg then !inV v vs else inV v vs), S)
      | _, _ => none)
    | _ => none)
  | _ => none
theorem s_in {t : Tx} {K : PySem.W.Frag} {neg : Bool} (hK : K = t.K) : Sem2 t (inG neg) (rIn K neg) := by
  subst hK
  intro r S H a b x y p Q R ra rb e k
  unfold inG at e
  split at e
  · split at e
    · rename_i l ys hl
      obtain ⟨p1, vs, rfl, g1, q1⟩ := seq_of R rb hl
      split at e
      · rename_i v ws h1 h2
        cases e
        obtain ⟨rfl, f1⟩ := toV_ok ra h1
        obtain ⟨rfl, f2⟩ := toVs_ok q1 h2
        exact ⟨p1, vs, rfl, .inl (SqL.of g1), f1, f2, okG R k rfl⟩
      · cases e
    · rename_i l ys hl
      obtain ⟨p1, vs, rfl, g1, q1⟩ := tup_of R rb hl
      split at e
      · rename_i v ws h1 h2
        cases e
        obtain ⟨rfl, f1⟩ := toV_ok ra h1
        obtain ⟨rfl, f2⟩ := toVs_ok q1 h2
        exact ⟨p1, vs, rfl, .inr (SqT.of g1), f1, f2, okG R k rfl⟩
      · cases e
    · cases e
  · cases e
/-! ### items -/
def ixG : G2 := fun a b S => match a, b with
  | .ref l, .int k => (match S[l]? with
    | some (.lst xs) => (atI xs k).map fun x => (x, S)
    | some (.tup xs) => (atI xs k).map fun x => (x, S)
    | some (.scr ns) => (atI ns k).map fun n => (.int n, S)
    | _ => none)
  | _, _ => none
theorem atI_pr {α β : Type} {F : α → β → Prop} {xs : List α} {ys : List β} {k : Int} {x : α} (h : Paired F xs ys) (e : atI xs k = some x) : ∃ y, atI ys k = some y ∧ F x y := by
  unfold atI at e ⊢
  rw [← pr_len h]
  cases hj : ixN xs.length k with
  | none =>
    rw [hj] at e
    cases e
  | some j =>
    rw [hj] at e
    exact pr_get (i := j) h e
theorem atI_map {α β : Type} {f : α → β} {xs : List α} {k : Int} {x : α} (e : atI xs k = some x) : atI (xs.map f) k = some (f x) := by
  unfold atI at e ⊢
  rw [List.length_map]
  cases hj : ixN xs.length k with
  | none =>
    rw [hj] at e
    cases e
  | some j =>
    rw [hj] at e
    show (xs.map f)[j]? = some (f x)
    have e' : xs[j]? = some x := e
    rw [List.getElem?_map, e'] <;> rfl
def rIxU (K : PySem.W.Frag) : R2 := fun x y H Q => rIxL K x y H Q ∨ rIxT K x y H Q
theorem ix_U {X : Cx} : IxR X (rIxU X.K) := ix_list.or ix_tup
theorem s_ix {t : Tx} {K : PySem.W.Frag} (hK : K = t.K) : Sem2 t ixG (rIxU K) := by
  subst hK
  intro r S H a b x y p Q R ra rb e k
  unfold ixG at e
  split at e
  · cases rb
    split at e
    · rename_i l kk _ xs hl
      obtain ⟨p1, vs, rfl, g1, q1⟩ := seq_of R ra hl
      cases hx : atI xs kk with
      | none =>
        rw [hx] at e
        cases e
      | some z =>
        rw [hx] at e
        cases e
        obtain ⟨y, h1, h2⟩ := atI_pr q1 hx
        exact .inl ⟨p1, vs, kk, y, rfl, rfl, SqL.of g1, h1, okG R k h2⟩
    · rename_i l kk _ xs hl
      obtain ⟨p1, vs, rfl, g1, q1⟩ := tup_of R ra hl
      cases hx : atI xs kk with
      | none =>
        rw [hx] at e
        cases e
      | some z =>
        rw [hx] at e
        cases e
        obtain ⟨y, h1, h2⟩ := atI_pr q1 hx
        exact .inr ⟨p1, vs, kk, y, rfl, rfl, SqT.of g1, h1, okG R k h2⟩
    · rename_i l kk _ ns hl
      obtain ⟨p1, rfl, g1⟩ := scr_of R ra hl
      cases hx : atI ns kk with
      | none =>
        rw [hx] at e
        cases e
      | some z =>
        rw [hx] at e
        cases e
        exact .inl ⟨p1, _, kk, .int z, rfl, rfl, g1, atI_map hx, okG R k rfl⟩
    · cases e
  · cases e
abbrev negG : G1 := fun a S => match a with
  | .int i => some (.int (-i), S)
  | _ => none
theorem s_neg {t : Tx} : Sem1 t negG (rU fun i => .int (-i)) := by
  intro r S H a x p Q R ra e k
  cases a with
  | int i =>
    cases e
    cases ra
    exact ⟨i, rfl, okG R k rfl⟩
  | _ => cases e
end Vai
set_option maxRecDepth 100000
set_option maxHeartbeats 2000000
namespace Vai
open PySem L2
/-! ### built-ins -/
def lenG : GN := fun as S => match as with
  | [.str z] => if z.length ≤ 1000000 then some (.int z.length, S) else none
  | [.ref l] => (match S[l]? with
    | some (.lst xs) => some (.int xs.length, S)
    | some (.tup xs) => some (.int xs.length, S)
    | some (.scr ns) => some (.int ns.length, S)
    | _ => none)
  | _ => none
theorem pr_one {r : List Addr} {a : A} {vs : List V} (h : Paired (RA r) [a] vs) : ∃ v, vs = [v] ∧ RA r a v := by
  cases h with
  | cons h t =>
    cases t
    exact ⟨_, rfl, h⟩
theorem pr_two {r : List Addr} {a b : A} {vs : List V} (h : Paired (RA r) [a, b] vs) : ∃ v w, vs = [v, w] ∧ RA r a v ∧ RA r b w := by
  cases h with
  | cons h t =>
    cases t with
    | cons k t =>
      cases t
      exact ⟨_, _, rfl, h, k⟩
theorem s_len {t : Tx} {K : PySem.W.Frag} (hK : K = t.K) : SemN t lenG (fun xs H Q => ∃ x n, xs = [x] ∧ LenV K x H n ∧ Q (.int n) H) := by
  subst hK
  intro r S H as vs p Q R ra e k
  unfold lenG at e
  split at e
  · obtain ⟨v, rfl, h⟩ := pr_one ra
    cases h
    split at e
    · rename_i hz
      cases e
      exact ⟨_, _, rfl, ⟨big hz, rfl⟩, okG R k rfl⟩
    · cases e
  · obtain ⟨v, rfl, h⟩ := pr_one ra
    split at e
    · rename_i xs hl
      cases e
      obtain ⟨p1, us, rfl, g1, q1⟩ := seq_of R h hl
      exact ⟨_, us.length, rfl, .inl ⟨us, SqL.of g1, rfl⟩, okG R k (by rw [← pr_len q1]; rfl)⟩
    · rename_i xs hl
      cases e
      obtain ⟨p1, us, rfl, g1, q1⟩ := tup_of R h hl
      exact ⟨_, us.length, rfl, .inr ⟨us, SqT.of g1, rfl⟩, okG R k (by rw [← pr_len q1]; rfl)⟩
    · rename_i ns hl
      cases e
      obtain ⟨p1, rfl, g1⟩ := scr_of R h hl
      exact ⟨_, (ns.map V.int).length, rfl, .inl ⟨_, g1, rfl⟩, okG R k (by rw [List.length_map]; rfl)⟩
    · cases e
  · cases e
def tyN (S : List O) : A → Option String
  | .non => some "NoneType"
  | .bl _ => some "bool"
  | .int _ => some "int"
  | .str _ => some "str"
  | .ref l => (match S[l]? with
    | some (.lst _) => some "list"
    | some (.scr _) => some "list"
    | some (.tup _) => some "tuple"
    | some (.dic _) => some "dict"
    | _ => none)
  | .ty _ => none
theorem tyN_ok {t : Tx} {r : List Addr} {S : List O} {H : Hp} (R : Rel t r S H) {a : A} {x : V} {n : String} (ra : RA r a x) (h : tyN S a = some n) : TyX t.K H x (.type n) := by
  cases a with
  | non => cases ra; cases h; exact .base .non
  | bl b => cases ra; cases h; exact .base (.bl b)
  | int i => cases ra; cases h; exact .base (.int i)
  | str z => cases ra; cases h; exact .base (.str z)
  | ty z => cases h
  | ref l =>
    simp only [tyN] at h
    obtain ⟨p, hp, rfl⟩ := ra
    split at h
    · rename_i xs hl
      cases h
      obtain ⟨vs, h1, _⟩ := R.ob l p _ hp hl
      exact .base (.lst h1)
    · rename_i ns hl
      cases h
      rcases R.ob l p _ hp hl with ⟨o, z⟩ | z
      · exact .base (.frz z)
      · rcases z with (z | ⟨o, z⟩) | ⟨o, its, n, z1, z2, _⟩
        · cases z
        · cases z
        · exact .kList z1 z2
    · rename_i xs hl
      cases h
      obtain ⟨vs, h1, _⟩ := R.ob l p _ hp hl
      exact .base (.tup h1)
    · rename_i ks hl
      cases h
      obtain ⟨vs, h1, _⟩ := R.ob l p _ hp hl
      exact .base (.dK h1)
    · cases h
def isiAny (t : String) : List A → Option Bool
  | [] => some false
  | .ty n :: r => (match kitB t n, isiAny t r with
    | some true, some _ => some true
    | some false, some b => some b
    | _, _ => none)
  | _ :: _ => none
def isiG : GN := fun as S => match as with
  | [a, .ty n] => (match tyN S a with
    | some t => (kitB t n).map fun b => (.bl b, S)
    | none => none)
  | [a, .ref l] => (match tyN S a, S[l]? with
    | some t, some (.tup cs) => (isiAny t cs).map fun b => (.bl b, S)
    | _, _ => none)
  | _ => none
theorem isiAny_ok {K : PySem.W.Frag} {t : String} {r : List Addr} : ∀ {cs : List A} {vs : List V} {b : Bool}, Paired (RA r) cs vs → isiAny t cs = some b → ∃ us, Paired ClsV vs us ∧ PySem.W.kitAny K (.type t) us = some b
  | _, _, b, .nil, h => by
    cases h
    exact ⟨[], .nil, kitAny_nil⟩
  | c :: cs, v :: vs, b, .cons h q, e => by
    cases c with
    | ty n =>
      cases h
      simp only [isiAny] at e
      split at e
      · rename_i b' h1 h2
        cases e
        obtain ⟨us, g1, g2⟩ := isiAny_ok (K := K) q h2
        exact ⟨.type n :: us, .cons (.ty n) g1, kitAny_cons (kit_ty h1) (fun z => by cases z) (fun _ => rfl)⟩
      · rename_i b' h1 h2
        cases e
        obtain ⟨us, g1, g2⟩ := isiAny_ok (K := K) q h2
        exact ⟨.type n :: us, .cons (.ty n) g1, kitAny_cons (kit_ty h1) (fun _ => g2) (fun z => by cases z)⟩
      · cases e
    | _ => cases e
theorem isi_U {X : Cx} : CallR X (.builtin "isinstance") (fun xs H Q => rIsi X.K xs H Q ∨ rIsiT X.K xs H Q) := by
  intro pins s σ H xs us Q I r h
  exact h.elim (call_isi pins s σ H xs us Q I r) (call_isiT pins s σ H xs us Q I r)
theorem s_isi {t : Tx} {K : PySem.W.Frag} (hK : K = t.K) : SemN t isiG (fun xs H Q => rIsi K xs H Q ∨ rIsiT K xs H Q) := by
  subst hK
  intro r S H as vs p Q R ra e k
  unfold isiG at e
  split at e
  · obtain ⟨v, w, rfl, h1, h2⟩ := pr_two ra
    cases h2
    split at e
    · rename_i tn ht
      cases hb : kitB tn _ with
      | none =>
        rw [hb] at e
        cases e
      | some b =>
        rw [hb] at e
        cases e
        exact .inl ⟨v, _, _, _, b, rfl, .ty _, tyN_ok R h1 ht, kit_ty hb, okG R k rfl⟩
    · cases e
  · obtain ⟨v, w, rfl, h1, h2⟩ := pr_two ra
    split at e
    · rename_i tn cs ht hl
      cases hb : isiAny tn cs with
      | none =>
        rw [hb] at e
        cases e
      | some b =>
        rw [hb] at e
        cases e
        obtain ⟨p1, us, rfl, g1, q1⟩ := tup_of R h2 hl
        obtain ⟨ws, g2, g3⟩ := isiAny_ok (K := t.K) q1 hb
        exact .inr ⟨v, p1, us, _, ws, b, rfl, g1, g2, tyN_ok R h1 ht, g3, okG R k rfl⟩
    · cases e
  · cases e
/-- two ints -/
def twoG (f : Int → Int → Int) : GN := fun as S => match as with
  | [.int i, .int j] => some (.int (f i j), S)
  | _ => none
theorem s_two {t : Tx} {f : Int → Int → Int} : SemN t (twoG f) (fun xs H Q => ∃ i j, xs = [.int i, .int j] ∧ Q (.int (f i j)) H) := by
  intro r S H as vs p Q R ra e k
  unfold twoG at e
  split at e
  · cases e
    obtain ⟨v, w, rfl, h1, h2⟩ := pr_two ra
    cases h1
    cases h2
    exact ⟨_, _, rfl, okG R k rfl⟩
  · cases e
def absG : GN := fun as S => match as with
  | [.int i] => some (.int (if i < 0 then -i else i), S)
  | _ => none
theorem s_abs {t : Tx} : SemN t absG (fun xs H Q => ∃ i, xs = [.int i] ∧ Q (.int (if i < 0 then -i else i)) H) := by
  intro r S H as vs p Q R ra e k
  unfold absG at e
  split at e
  · cases e
    obtain ⟨v, rfl, h1⟩ := pr_one ra
    cases h1
    exact ⟨_, rfl, okG R k rfl⟩
  · cases e
def intC : GN := fun as S => match as with
  | [.int i] => some (.int i, S)
  | [.bl b] => some (.int (if b then 1 else 0), S)
  | _ => none
theorem s_intC {t : Tx} : SemN t intC (fun xs H Q => (∃ i, xs = [.int i] ∧ Q (.int i) H) ∨ ∃ k, xs = [.bl k] ∧ Q (.int (if k then 1 else 0)) H) := by
  intro r S H as vs p Q R ra e k
  unfold intC at e
  split at e
  · cases e
    obtain ⟨v, rfl, h1⟩ := pr_one ra
    cases h1
    exact .inl ⟨_, rfl, okG R k rfl⟩
  · cases e
    obtain ⟨v, rfl, h1⟩ := pr_one ra
    cases h1
    exact .inr ⟨_, rfl, okG R k rfl⟩
  · cases e
def toBs : List A → Option (List Bool)
  | [] => some []
  | .bl b :: r => (match toBs r with
    | some bs => some (b :: bs)
    | none => none)
  | _ :: _ => none
theorem toBs_ok {r : List Addr} : ∀ {as : List A} {vs : List V} {bs : List Bool}, Paired (RA r) as vs → toBs as = some bs → vs = bs.map V.bl
  | _, _, _, .nil, h => by
    cases h
    rfl
  | a :: as, v :: vs, bs, .cons h q, e => by
    cases a with
    | bl b =>
      cases h
      simp only [toBs] at e
      split at e
      · rename_i b' h1
        cases e
        rw [toBs_ok q h1]
        rfl
      · cases e
    | _ => cases e
def allG (f : List Bool → Bool) : GN := fun as S => match as with
  | [.ref l] => (match S[l]? with
    | some (.lst xs) => (match toBs xs with
      | some bs => some (.bl (f bs), S)
      | none => none)
    | _ => none)
  | _ => none
theorem s_all {t : Tx} {K : PySem.W.Frag} (hK : K = t.K) : SemN t (allG fun bs => bs.all id) (rAll K) := by
  subst hK
  intro r S H as vs p Q R ra e k
  unfold allG at e
  split at e
  · obtain ⟨v, rfl, h⟩ := pr_one ra
    split at e
    · rename_i xs hl
      obtain ⟨p1, us, rfl, g1, q1⟩ := seq_of R h hl
      split at e
      · rename_i bs hb
        cases e
        rw [toBs_ok q1 hb] at g1
        exact ⟨p1, bs, rfl, SqL.of g1, okG R k rfl⟩
      · cases e
    · cases e
  · cases e
/-- tuple(xs), list(xs) -/
def tupC : GN := fun as S => match as with
  | [.ref l] => (match S[l]? with
    | some (.lst xs) => some (.ref S.length, S ++ [.tup xs])
    | some (.tup _) => some (.ref l, S)
    | _ => none)
  | _ => none
theorem s_tupC {t : Tx} {K : PySem.W.Frag} (hK : K = t.K) : SemN t tupC (fun xs H Q => ∃ p ys, xs = [.ref p] ∧ ((SqL K H p ys ∧ ∀ l, H l = none → Q (.ref l) (upd H l (.tup ys))) ∨ (SqT K H p ys ∧ Q (.ref p) H))) := by
  subst hK
  intro r S H as vs p Q R ra e k
  unfold tupC at e
  split at e
  · obtain ⟨v, rfl, h⟩ := pr_one ra
    split at e
    · rename_i xs hl
      cases e
      obtain ⟨p1, us, rfl, g1, q1⟩ := seq_of R h hl
      exact ⟨p1, us, rfl, .inl ⟨SqL.of g1, allocG R k fun q => ⟨_, upd_same, RAs.ext (Ext.snoc r q) q1⟩⟩⟩
    · rename_i xs hl
      cases e
      have h' := h
      obtain ⟨p1, us, rfl, g1, q1⟩ := tup_of R h hl
      exact ⟨p1, us, rfl, .inr ⟨SqT.of g1, okG R k h'⟩⟩
    · cases e
  · cases e
def lstC : GN := fun as S => match as with
  | [.ref l] => (match S[l]? with
    | some (.lst xs) => some (.ref S.length, S ++ [.lst xs])
    | some (.tup xs) => some (.ref S.length, S ++ [.lst xs])
    | _ => none)
  | _ => none
theorem s_lstC {t : Tx} {K : PySem.W.Frag} (hK : K = t.K) : SemN t lstC (fun xs H Q => ∃ p ys, xs = [.ref p] ∧ (SqL K H p ys ∨ SqT K H p ys) ∧ ∀ l, H l = none → Q (.ref l) (upd H l (.lst ys))) := by
  subst hK
  intro r S H as vs p Q R ra e k
  unfold lstC at e
  split at e
  · obtain ⟨v, rfl, h⟩ := pr_one ra
    split at e
    · rename_i xs hl
      cases e
      obtain ⟨p1, us, rfl, g1, q1⟩ := seq_of R h hl
      exact ⟨p1, us, rfl, .inl (SqL.of g1), allocG R k fun q => ⟨_, upd_same, RAs.ext (Ext.snoc r q) q1⟩⟩
    · rename_i xs hl
      cases e
      obtain ⟨p1, us, rfl, g1, q1⟩ := tup_of R h hl
      exact ⟨p1, us, rfl, .inr (SqT.of g1), allocG R k fun q => ⟨_, upd_same, RAs.ext (Ext.snoc r q) q1⟩⟩
    · cases e
  · cases e
/-! ### what no rule serves: it must not be reached -/
def noF : F := fun _ _ => none
def noL : FL := fun _ _ => none
def noS : FS := fun _ _ => none
section
variable {X : Cx} {t : Tx} {W : WX}
theorem v_no {e : Expr} : PE X e (lift t W noF) := ⟨fun _ _ _ _ _ _ ⟨_, _, _, _, _, _, h, _⟩ => by cases h⟩
theorem v_noT {e : Expr} : PT X e (liftB t W noF) := ⟨fun _ _ _ _ _ _ ⟨_, _, _, _, _, _, h, _⟩ => by cases h⟩
theorem v_noS {st : Stmt} : PS X st (liftS t W noS) := ⟨fun _ _ _ _ _ _ ⟨_, _, _, _, _, _, h, _⟩ => by cases h⟩
theorem v_noSs {st : List Stmt} : PSs X st (liftS t W noS) := ⟨fun _ _ _ _ _ _ ⟨_, _, _, _, _, _, h, _⟩ => by cases h⟩
/-! ### raise X() -/
theorem pmk_own0 {C : Addr} {bmB : List Value} {B newId initId : String} {x : Str} {p pos : Pos} (F : ExcBaseFacts B newId initId bmB) (q : PySem.W.excIn X.K C bmB newId = true) (gC : X.mg x = some (.ref C)) (kC : PySem.W.keepIn X.K (.ref C) = true) (r : Raises X (.ref C)) (hg : Gl X x)
    (hdb : (x == ("__debug__" : Str)) = false := by decide) : PMk X (.Call (.Name x p) [] [] pos) (fun _ H Q => Q (.ref C) none H) := by
  intro pins s σ H Q I h
  refine wpAny_Call_Name_kw (ld_glob I hg gC (PySem.W.callWith_K0 I.kIn kC ?_) hdb)
  obtain ⟨bm, N, nm, qn, bs, hdct, sn, sub, ab, col, dd, k0, k1, k2, k3, k5, mN, hC, hN, hni, T⟩ := exc_obj I.kIn q
  exact wpAny_call_exc_subT F T hC hN hni (fun h' e hm => mk_of I hm r h (I.hok.gone hm.new)) (Nat.zero_le _)
def raiseF (c : Nat) : FS := fun sa S => some (.er c sa S)
theorem v_raise {c : Nat} {bmB : List Value} {B newId initId : String} {x : Str} {p pos pos' : Pos} (F : ExcBaseFacts B newId initId bmB) (q : PySem.W.excIn X.K (t.cl c) bmB newId = true) (gC : X.mg x = some (.ref (t.cl c))) (kC : PySem.W.keepIn X.K (.ref (t.cl c)) = true) (r : Raises X (.ref (t.cl c)))
    (tk : Takes X W) (hc : X.calm = true := by rfl) (hg : Gl X x := by rfl) (hdb : (x == ("__debug__" : Str)) = false := by decide) : PS X (.Raise (some (.Call (.Name x p) [] [] pos)) none pos') (liftS t W (raiseF c)) :=
  (ps_raise hc tk (pmk_own0 F q gC kC r hg hdb)).weak fun D σ H h => by
    obtain ⟨r, sa, S, x, R, rs, e, p⟩ := h
    cases e
    exact p r H σ (Ext.refl r) R rs
/-- a, b = e, f (two local names) -/
theorem v_par {i j : Nat} {x y : Str} {a b : Expr} {fl : FL} {px py pt pos : Pos} {kt k2 pt2} (hN : X.N.Nodup) (ha : PA X [a, b] (liftL t W fl)) (hi : X.N[i]? = some x := by rfl) (hj : X.N[j]? = some y := by rfl) (hij : i ≠ j := by decide) (hx : X.env.scope.names.lookup x = some .local := by rfl) (hy : X.env.scope.names.lookup y = some .local := by rfl)
    (hw : swappedStores [.Tuple [.Name x px, .Name y py] kt pt] (.Tuple [a, b] k2 pt2) X.env = pure (some [x, y]) := by rfl) (hs : swapsWithSole [.Tuple [.Name x px, .Name y py] kt pt] (.Tuple [a, b] k2 pt2) pos.line X.env = pure false := by rfl) (hc : X.calm = true := by rfl) :
    PS X (.Assign [.Tuple [.Name x px, .Name y py] kt pt] (.Tuple [a, b] k2 pt2) pos) (liftS t W (parF i j fl)) := (ps_par hc hN hi hj hij hx hy ha hw hs).weak fun _ _ _ h => par_ok h
end
/-! ### a def -/
def defF (m : Nat) (b : FS) : FD := fun as S => match b (as.map some ++ List.replicate (m - as.length) none) S with
  | some (.nx _ S') => some (.ok .non S')
  | some (.rt a S') => some (.ok a S')
  | some (.er c _ S') => some (.er c S')
  | _ => none
theorem rs_start {r : List Addr} : ∀ {as : List A} {vs : List V} (n : Nat), Paired (RA r) as vs → RS r (as.map some ++ List.replicate n none) (vs.map some ++ List.replicate n none)
  | _, _, n, .nil => by
    show RS r (List.replicate n none) (List.replicate n none)
    induction n with
    | zero => exact .nil
    | succ n ih => exact .cons (fun x e => by cases e) ih
  | a :: as, v :: vs, n, .cons h q => .cons (fun x e => by cases e; exact ⟨v, rfl, h⟩) (rs_start n q)
theorem v_def {P : Program} {w : World} {K : PySem.W.Frag} {mg : Str → Option Value} {base : Heap} {x qual : Str} {st : Stmt} {f : Addr} {fd : FuncData} {N ps : List Str} {k : Nat} {t : Tx} {b : FS} (F : Fun K x qual st f fd) (S : FnScope N ps (defScope st))
    (hb : ∀ (cdv : Value) (A : Around) (outer : List Env) (s : Shared) (H : Hp) (E : XK), Room k (A.deeper (PyProof.Rows.envOfC qual (defScope st) s.heap.objs.size f cdv)) →
      PSs (cxOf (L2.CX P w) P w K mg base N qual (defScope st) f cdv A outer s H E) (defBody st) (liftS t (fun cls d _ H => E cls d H) b)) : FnOk P w K mg base (L2.CX P w) (k + 1) f fd ps (spF t ps.length (defF N.length b)) := by
  refine F.okX S (fun vs H Q E h => h.1) fun cdv A outer s H vs Q E hr h => ⟨_, hb cdv A outer s H E hr, ?_⟩
  obtain ⟨hl, r, as, S0, x, R, ra, e, p⟩ := h
  unfold defF at e
  cases hbo : b (as.map some ++ List.replicate (N.length - as.length) none) S0 with
  | none =>
    rw [hbo] at e
    cases e
  | some y =>
    rw [hbo] at e
    refine ⟨r, _, S0, y, R, by show RS r _ (vs.map some ++ List.replicate (N.length - vs.length) none); rw [← pr_len ra]; exact rs_start _ ra, hbo, ?_⟩
    cases y with
    | nx sa S' =>
      cases e
      exact fun r' H' σ' ex R' _ => p r' H' .non ex R' rfl
    | rt a S' =>
      cases e
      exact fun r' H' v ex R' rv => p r' H' v ex R' rv
    | er c sa S' =>
      cases e
      exact fun r' H' σ' ex R' _ => p r' H' ex R'
    | bk sa S' => cases e
    | ct sa S' => cases e
end Vai
set_option maxRecDepth 100000
set_option maxHeartbeats 2000000
namespace Vai
open PySem L2
theorem takesW0 {X : Cx} : Takes X W0 := takes0
/-- how many come -/
def Ar (fl : FL) (n : Nat) : Prop := ∀ sa S as S', fl sa S = some (.ok as S') → as.length = n
theorem ar_nil : Ar nilF 0 := fun sa S as S' e => by
  cases e
  rfl
theorem ar_cons {fa : F} {fl : FL} {n : Nat} (h : Ar fl n) : Ar (consF fa fl) (n + 1) := fun sa S as S' e => by
  unfold consF at e
  cases hf : fa sa S with
  | none =>
    rw [hf] at e
    cases e
  | some y =>
    rw [hf] at e
    cases y with
    | er c S1 => cases e
    | ok a S1 =>
      dsimp only at e
      cases hg : fl sa S1 with
      | none =>
        rw [hg] at e
        cases e
      | some z =>
        rw [hg] at e
        cases z with
        | er c S2 => cases e
        | ok bs S2 =>
          cases e
          show bs.length + 1 = n + 1
          rw [h sa S1 bs _ hg]
/-- a def that stands, and what it does -/
structure DefOk (P : Program) (w : World) (K : PySem.W.Frag) (mg : Str → Option Value) (base : Heap) (t : Tx) (x : Str) (ps : List Str) (k : Nat) (d : FD) : Prop where
  ex : ∃ f fd, mg x = some (.ref f) ∧ PySem.W.keepIn K (.ref f) = true ∧ Binds K fd ps [] ∧ FnOk P w K mg base (L2.CX P w) k f fd ps (spF t ps.length d)
section
variable {X : Cx} {t : Tx} {W : WX}
theorem v_callD {k : Nat} {ps : List Str} {d : FD} {x : Str} {e : Expr} {es : List Expr} {fl : FL} {p pos : Pos} (G : DefOk X.prog X.w X.K X.mg X.base t x ps k d) (hr : Room k X.A) (tk : Takes X W) (ha : PA X (e :: es) (liftL t W fl)) (hl : Ar fl ps.length) (hg : Gl X x := by rfl)
    (hdb : (x == ("__debug__" : Str)) = false := by decide) (he : starEach (e :: es) X.env = (false, eval e X.env) :: starEach es X.env := by rfl) (hpl : (backTo pos (starEach es X.env)).any (·.1) = false := by rfl) :
    PE X (.Call (.Name x p) (e :: es) [] pos) (lift t W (callF d fl)) := by
  obtain ⟨f, fd, h1, h2, h3, h4⟩ := G.ex
  exact v_call h4 rfl hr h1 h2 h3 tk ha (fun _ as S S' sa h => hl sa S as S' h) hg hdb he hpl
theorem def_ok {P : Program} {w : World} {K : PySem.W.Frag} {mg : Str → Option Value} {base : Heap} {x qual : Str} {st : Stmt} {f : Addr} {fd : FuncData} {N ps : List Str} {k : Nat} {b : FS} (F : Fun K x qual st f fd) (hm : mg x = some (.ref f)) (B : Binds K fd ps []) (S : FnScope N ps (defScope st))
    (hb : ∀ (cdv : Value) (A : Around) (outer : List Env) (s : Shared) (H : Hp) (E : XK), Room k (A.deeper (PyProof.Rows.envOfC qual (defScope st) s.heap.objs.size f cdv)) →
      PSs (cxOf (L2.CX P w) P w K mg base N qual (defScope st) f cdv A outer s H E) (defBody st) (liftS t (fun cls d _ H => E cls d H) b)) : DefOk P w K mg base t x ps (k + 1) (defF N.length b) := ⟨f, fd, hm, F.kp, B, v_def F S hb⟩
theorem v_gtupS {es : List Expr} {x1} {g : TFs} {n : Nat} {pos : Pos} (hK : X.K = t.K) (hp : PG X (.Tuple es x1 pos) (gTup X.K n (liftGs t g))) : PG X (.Tuple es x1 pos) (liftG t (tupT n g)) := hp.weak fun _ _ _ _ h => tupG_ok hK h
end
end Vai
namespace Vai
open PySem L2
theorem v_gintE {X : Cx} {t : Tx} {W : WX} {x : Str} {i : Int} {pos : Pos} (h : ∃ u, RelV (.int i) u ∧ X.mg x = some u) (hg : Gl X x := by rfl) (hd : (x == ("__debug__" : Str)) = false := by decide) : PE X (.Name x pos) (lift t W (conF (.int i))) := by
  obtain ⟨u, h1, h2⟩ := h
  exact v_gint h2 h1 hg hd
end Vai
set_option maxRecDepth 100000
set_option maxHeartbeats 4000000
namespace Vai
open PySem L2 PySem.Spec PyProof.Rows
/-! ### len({e for x in xs}), e a tuple of ints -/
theorem in1_units {A : Around} : A.in1.units = A.units + 1 := rfl
section
variable {X : Cx}
theorem tup_add {pins : List (Addr × Obj)} {σ : L2.St} {H : Hp} {s : Shared} {E : Value → Shared → Prop} {D b : Addr} {L : List (Addr × List Int)} {k : List Int} {Q : Value → Shared → Prop} (J : Inv X pins σ H s) (hD : H D = some (SetTO X.prog X.w D L)) (hb : SqT X.K H b (k.map V.int))
    (hL : ∀ q ∈ L, SqT X.K H q.1 (q.2.map V.int)) (few : L.length + 1 < 64) (hu : X.A.units + 64 < cLine)
    (h : ∀ s' L', Inv X pins σ (upd H D (SetTO X.prog X.w D L')) s' → (k ∈ L.map (·.2) → L' = L) → (k ∉ L.map (·.2) → L'.Perm ((b, k) :: L)) → Q .none s') : wpAny (model X.prog X.w) X.A (call (.builtin "set.add") [.ref D, .ref b]) Q E s := by
  have R0 : SetT0 X.prog X.w s.heap D L := (J.hok D _ hD).1
  obtain ⟨es, ep, tb, RR⟩ := R0.full fun q hq => J.isT (hL q hq)
  obtain ⟨o, ho, hex, hd⟩ := RR.ob
  have hT : s.TypeIs (.ref D) "set" := ⟨o, ho, hex.1⟩
  have hk := J.isT hb
  refine wpAny_call_entry F.slot_set_add hT F.entry_set_add ?_ (F.args_set_add_2 _ _)
  unfold Builtin.«set.add» Builtin.Frozenset.oneOther
  simp only [List.isEmpty_nil, bind_assoc]
  unfold Builtin.Frozenset.addrOf setAdd
  refine wpAny_bind (wpAny_pure ?_)
  try dsimp only
  refine wpAny_bind (wpAny_pure ?_)
  try dsimp only
  refine wpAny_bind (wpAny_holding (wpAny_bind (wpAny_pyHash_tuple (by rw [in1_units]; omega) hk ?_)))
  refine add_at (s := { s with toks := s.toks + (k.length + 1) }) RR hk (by rw [in1_units]; omega) few fun bo h' L' es' ep' t' sb R2 c1 c2 => ?_
  show wpAny _ _ (ret Value.none) _ _ _
  have there : ∃ u, h'.get? D = some u := by
    obtain ⟨o', ho', _⟩ := R2.ob
    exact ⟨o', ho'⟩
  exact wpAny_pure ⟨_, rfl, h _ L' (J.write (e := D) (t' := s.toks + (k.length + 1)) (by rw [hD]; trivial) (.inl rfl) (fun c u hc hu' => (sb.2 c hc).trans hu') there (setTO_new R2.t0)) c1 c2⟩
/-- the reading: D the new set, L what it holds -/
def tSetT (P : Program) (w : World) (K : PySem.W.Frag) (wi : TI) (g : TG) (tt : TT) (te : TE) (vs : List Nat) : TE := fun σ H Q => wi σ H fun J H1 => ∀ D, H1 D = none → ∃ W : Nat → Nat → Hp → Prop, (∃ m, W 0 m (upd H1 D (SetTO P w D []))) ∧ ∀ i m H, W i m H →
  (J.stop i H ∧ Q (.ref D) H) ∨ (J.go i H ∧ ∃ Nx : Hp → Prop, (∀ H', Nx H' → ∃ m', m' < m ∧ W (i + 1) m' H') ∧ ∀ x H', J.yld i H x H' → g x (wipe σ vs) H' fun σ2 H2 => wipe σ2 vs = wipe σ vs ∧ tt σ2 H2 fun b H3 =>
    if b = true then te σ2 H3 fun y H4 => ∃ (c : Addr) (k : List Int) (L : List (Addr × List Int)), y = .ref c ∧ SqT K H4 c (k.map V.int) ∧ H4 D = some (SetTO P w D L) ∧ (∀ q ∈ L, SqT K H4 q.1 (q.2.map V.int)) ∧ L.length + 1 < 64 ∧
      ∀ L', (k ∈ L.map (·.2) → L' = L) → (k ∉ L.map (·.2) → L'.Perm ((c, k) :: L)) → Nx (upd H4 D (SetTO P w D L')) else Nx H3)
theorem fresh_set {P : Program} {w : World} {h : Heap} : SetT0 P w (h.push { cls := .type "set", dict := none, data := .set #[] 0 (.fresh 0 0 (!w.params.followText "set-order")) }) h.objs.size [] :=
  SetTR.t0 (setTR_fresh (Heap.get?_push_size _ rfl))
theorem pe_setT {elt tg iter : Expr} {ifs : List Expr} {scope : Scope} {own : List (PySem.Str × Nat)} {pos : Pos} {wi : TI} {g : TG} {tt : TT} {te : TE} (hc : X.calm = true) (hN : X.N.Nodup) (hu : X.A.units + 64 < cLine) (hi : PI X tg iter wi) (ok : BlkOk X.N X.env.scope scope own)
    (hg : ∀ (s : Shared) (H : Hp) (C : Addr) (cl : List (PySem.Str × Addr)) (fp : List Addr), PG (X.blk s H scope (compEnvC scope cl C X.env) fp) tg g) (ht : ∀ (s : Shared) (H : Hp) (C : Addr) (cl : List (PySem.Str × Addr)) (fp : List Addr), PTs (X.blk s H scope (compEnvC scope cl C X.env) fp) ifs tt)
    (he : ∀ (s : Shared) (H : Hp) (C : Addr) (cl : List (PySem.Str × Addr)) (fp : List Addr), PE (X.blk s H scope (compEnvC scope cl C X.env) fp) elt te) (hs : ∀ x, foldedSetIterable iter X.env x = pure x := by intro _; rfl) :
    PE X (.SetComp elt [⟨tg, iter, ifs, 0⟩] scope pos) (tSetT X.prog X.w X.K wi g tt te (own.map (·.2))) := by
  constructor
  intro pins s σ H Q J0 hq0
  rw [PpSet.eval_SetComp]
  have captured : ∀ y ∈ scope.names, y.2 = .free → ∃ c, X.env.cells.lookup y.1 = some c := fun y hy e => (ok.free y hy e).elim (fun k => J0.ok.has _ (.inl k)) (fun k => J0.ok.has _ (.inr k))
  refine wpAny_comprehension_free (use := none) rfl hs (closure_ok captured) ok.kind (fun y hy e => by rw [ok.uniq y hy, e]) (thn (hi.run pins s σ H _ J0 hq0) fun _ s1 hx => thn hx fun _ s2 h2 => ?_)
  obtain ⟨it, fp, tn, J, H2, e, I2, T, st2, f2, q⟩ := h2
  subst e
  refine PpSet.newSet_ok (newEnv_comp ?_)
  generalize hD : s2.heap.objs.size = D
  have freeD : H2 D = none := I2.hok.fresh (Nat.le_of_eq hD)
  obtain ⟨W, ⟨m0, w0⟩, turn⟩ := q D freeD
  generalize hs3 : ({ s2 with heap := s2.heap.push { cls := .type "set", dict := none, data := .set #[] 0 (.fresh 0 0 (!X.w.params.followText "set-order")) } } : Shared) = s3
  have I3 : Inv X pins σ (upd H2 D (SetTO X.prog X.w D [])) s3 := by
    subst hs3
    refine I2.laid (t' := s2.toks) (fun b o z => Heap.get?_push_of_some _ z) (Nat.le_of_eq hD) (setTO_new ?_)
    subst hD
    exact fresh_set
  have h3 : s3.heap = s2.heap.push { cls := .type "set", dict := none, data := .set #[] 0 (.fresh 0 0 (!X.w.params.followText "set-order")) } := by subst hs3; rfl
  have below : ∀ b ∈ fp, b < s2.heap.objs.size := fun b hb => by
    obtain ⟨_, z, _⟩ := T.obj _ _ st2 b hb
    exact Heap.lt_size z
  have f3 : ∀ b ∈ fp, FpOk X pins (upd H2 D (SetTO X.prog X.w D [])) b ∧ b < s3.heap.objs.size := fun b hb => by
    have lt := below b hb
    have nD : b ≠ D := by subst hD; exact Nat.ne_of_lt lt
    exact ⟨⟨by rw [upd_ne nD]; exact (f2 b hb).1, (f2 b hb).2⟩, by rw [h3, Heap.size_push]; exact Nat.lt_succ_of_lt lt⟩
  have st3 : tn 0 s3.heap := T.keep _ _ _ st2 fun b _ o z => by rw [h3]; exact Heap.get?_push_of_some _ z
  have I4 := block_start I3 ok hN f3
  have pg := hg s3 (upd H2 D (SetTO X.prog X.w D [])) s3.heap.objs.size (cellsFrom (s3.heap.objs.size + 1) scope.names (cloFrom X.env.cells scope.names [])) fp
  have pt := ht s3 (upd H2 D (SetTO X.prog X.w D [])) s3.heap.objs.size (cellsFrom (s3.heap.objs.size + 1) scope.names (cloFrom X.env.cells scope.names [])) fp
  have pe := he s3 (upd H2 D (SetTO X.prog X.w D [])) s3.heap.objs.size (cellsFrom (s3.heap.objs.size + 1) scope.names (cloFrom X.env.cells scope.names [])) fp
  have none3 : ∀ b ∈ fp, (upd H2 D (SetTO X.prog X.w D [])) b = none := fun b hb => (f3 b hb).1.1
  show codeAny _ _ (.compStart (.SetComp elt [⟨tg, iter, ifs, 0⟩] scope pos) 0 (.ref it) (.ref D) (compEnvC scope (cellsFrom (s3.heap.objs.size + 1) scope.names (cloFrom X.env.cells scope.names [])) s3.heap.objs.size X.env)) (compPost (model X.prog X.w) X.A X.xe none (EP X pins σ Q) (.ref D) s3.heap.objs.size) { s3 with heap := pushCells (s3.heap.push { cls := .type "dict", data := .dict #[] }) scope.names }
  generalize hce : compEnvC scope (cellsFrom (s3.heap.objs.size + 1) scope.names (cloFrom X.env.cells scope.names [])) s3.heap.objs.size X.env = ce at I4 pg pt pe ⊢
  have cL : ce.locals = s3.heap.objs.size := by subst hce; rfl
  generalize hH3 : upd H2 D (SetTO X.prog X.w D []) = H3 at I3 I4 pg pt pe w0 none3 f3
  generalize hs4 : ({ s3 with heap := pushCells (s3.heap.push { cls := .type "dict", data := .dict #[] }) scope.names } : Shared) = s4 at I4 ⊢
  have st4 : tn 0 s4.heap := T.keep _ _ _ st3 fun b _ o z => by subst hs4; exact pushCells_keeps _ _ _ _ (Heap.get?_push_of_some _ z)
  have still : ∀ {τ : L2.St} {G : Hp} {v : Shared}, Inv (X.blk s3 H3 scope ce fp) [] τ G v → (∀ b ∈ fp, G b = none) → ∀ b ∈ fp, FpOk (X.blk s3 H3 scope ce fp) [] G b := fun {τ G v} I' hn b hb =>
    ⟨hn b hb, (I'.ok.exf b hb).1, I'.ok.exfs b hb, .inl hb, fun x c z => (I'.ok.exf b hb).2 x c z, fun p hp => absurd (show p ∈ ([] : List (Addr × Obj)) ++ [] from hp) (by simp)⟩
  have loop : codeAny (model X.prog X.w) X.A (.compLoop (.SetComp elt [⟨tg, iter, ifs, 0⟩] scope pos) 0 (.ref it) (.ref D) ce) (compPost (model X.prog X.w) X.A X.xe none (EP X pins σ Q) (.ref D) s3.heap.objs.size) s4 := by
    refine PpSet.compLoopS_any (fun n v => ∃ i G, Inv (X.blk s3 H3 scope ce fp) [] (wipe σ (own.map (·.2))) G v ∧ tn i v.heap ∧ (∀ b ∈ fp, G b = none) ∧ W i n G) ?_ m0 ⟨0, H3, I4, st4, none3, w0⟩
    rintro n s5 ⟨i, H5, I5, st5, n5, w5⟩
    rcases turn i n H5 w5 with ⟨stop, qq⟩ | ⟨go, Nx, hNx, step⟩
    · refine thnF (T.done (X.blk s3 H3 scope ce fp) rfl rfl rfl hc i [] s5 _ H5 (fun _ _ => False) I5 (still I5 n5) st5 stop) fun r s6 ⟨hr, I6⟩ => ?_
      subst hr
      have I7 : Inv X pins σ H5 s6 := I3.call' (ch := fp) I6.os I6.base I6.hok I6.bare fun b hb => ⟨(f3 b hb).1.2.2.2.1, (f3 b hb).1.2.1, (f3 b hb).1.2.2.2.2.1, (f3 b hb).1.2.2.2.2.2⟩
      have nC : H5 s3.heap.objs.size = none := by
        have z : H5 ce.locals = none := I6.free
        rwa [cL] at z
      obtain ⟨m, hn, _⟩ := I6.loc
      have hn : s6.heap.Ns ce.locals m := hn
      rw [cL] at hn
      refine ⟨m, hn, fun h'' sb => ?_⟩
      obtain ⟨x0, x1, x2, x3, x4, x5⟩ := I3.fpOk (Nat.le_refl _) nC
      exact ⟨.ref D, H5, I7.turned (t' := s6.toks) (fun b o hb z => (sb.2 b hb).trans z) x0 x1 x3 x4 x5, rfl, qq⟩
    · refine thnF (T.item (X.blk s3 H3 scope ce fp) rfl rfl rfl hc i [] s5 _ H5 (fun _ _ => False) I5 (still I5 n5) st5 go) fun r s6 ⟨u, hr, h6⟩ => ?_
      subst hr
      refine thnF h6 fun _ s7 ⟨x, H7, I7, r7, y7, st7, n7⟩ => ?_
      refine thnF (pg.run _ s7 _ H7 x u _ (I7.pinned (still I7 n7) (T.obj _ _ st7)) r7 (step x H7 y7)) fun _ s8 ⟨σ8, H8, I8, hw8, q8⟩ => ?_
      refine thnF (pt.run _ s8 σ8 H8 _ I8 q8) fun b s9 ⟨H9, I9, q9⟩ => ?_
      have fin : ∀ {v : Shared} {G : Hp}, Inv (X.blk s3 H3 scope ce fp) ([] ++ pinsAt fp s7.heap) σ8 G v → Nx G → ∃ m, m < n ∧ ∃ i H', Inv (X.blk s3 H3 scope ce fp) [] (wipe σ (own.map (·.2))) H' v ∧ tn i v.heap ∧ (∀ b ∈ fp, H' b = none) ∧ W i m H' := fun {v G} I' nx => by
        obtain ⟨m', hm, w'⟩ := hNx G nx
        have pinned : ∀ b ∈ fp, ∀ o, s7.heap.get? b = some o → v.heap.get? b = some o ∧ G b = none := fun b hb o z =>
          ⟨(I'.pin (b, o) (List.mem_append_right _ (List.mem_append_right _ (mem_pinsAt hb z)))).1, (I'.pin (b, o) (List.mem_append_right _ (List.mem_append_right _ (mem_pinsAt hb z)))).2.1⟩
        refine ⟨m', hm, i + 1, G, (I'.unpinned (pins := [])).weak (by rw [← hw8, wipe_length]) (fun j y z => ?_), T.keep _ _ _ st7 fun b hb o z => (pinned b hb o z).1, fun b hb => ?_, w'⟩
        · rw [← hw8] at z
          exact (wipe_some z).1
        · obtain ⟨o, z, _⟩ := T.obj _ _ st7 b hb
          exact (pinned b hb o z).2
      cases b with
      | false =>
        simp only [Bool.false_eq_true, if_false] at q9 ⊢
        exact fin I9 q9
      | true =>
        simp only [if_true] at q9 ⊢
        refine thnF (pe.run _ s9 σ8 H9 _ I9 q9) fun z s10 ⟨yv, H10, I10, r10, cb, kk, L0, ey, hT10, hD10, hL10, few, nx⟩ => ?_
        subst ey
        cases (show z = Value.ref cb from r10)
        exact tup_add (X := X.blk s3 H3 scope ce fp) I10 hD10 hT10 hL10 few hu fun s11 L' I11 c1 c2 => fin I11 (nx L' c1 c2)
  exact PpSet.codeAny_compStart_set loop (T.self X.A 0 _ _ _ st4 loop)
/-- len of such a set -/
def rLenT0 (P : Program) (w : World) (K : PySem.W.Frag) : List V → Hp → VK → Prop := fun xs H Q => ∃ D L, xs = [V.ref D] ∧ H D = some (SetTO P w D L) ∧ (∀ q ∈ L, SqT K H q.1 (q.2.map V.int)) ∧ Q (.int L.length) H
theorem call_lenT : CallR X (.builtin "len") (rLenT0 X.prog X.w X.K) := by
  intro pins s σ H xs us Q J rv h
  obtain ⟨D, L, rfl, hD, hL, q⟩ := h
  rw [Vals.ref1 rv]
  have R0 : SetT0 X.prog X.w s.heap D L := (J.hok D _ hD).1
  obtain ⟨es, ep, tb, RR⟩ := R0.full fun x hx => J.isT (hL x hx)
  obtain ⟨o, ho, hex, hd⟩ := RR.ob
  have hsz := RR.size
  have few := RR.few
  refine call_len_set ho hex hd RR.fits (by omega) ?_
  rw [hsz]
  exact ⟨.int L.length, H, J.tok _, ⟨_, rfl⟩, q⟩
end
end Vai
set_option maxRecDepth 100000
set_option maxHeartbeats 4000000
namespace Vai
open PySem L2
def toInts : List A → Option (List Int)
  | [] => some []
  | .int i :: r => (match toInts r with
    | some is => some (i :: is)
    | none => none)
  | _ :: _ => none
theorem toInts_ok {r : List Addr} : ∀ {as : List A} {vs : List V} {is : List Int}, Paired (RA r) as vs → toInts as = some is → vs = is.map V.int
  | _, _, _, .nil, h => by
    cases h
    rfl
  | a :: as, v :: vs, bs, .cons h q, e => by
    cases a with
    | int i =>
      cases h
      simp only [toInts] at e
      split at e
      · rename_i b' h1
        cases e
        rw [toInts_ok q h1]
        rfl
      · cases e
    | _ => cases e
/-- the entry is the tuple of its ints -/
def entOk (S : List O) (e : Nat × List Int) : Bool := match S[e.1]? with
  | some (.tup as) => decide (toInts as = some e.2)
  | _ => false
def scGo (i : Its) (T : TX) (vs : List Nat) (ft fe : F) (d : Nat) (sa : Sa) : Nat → Nat → List O → Option (List O)
  | 0, _ => fun _ => none
  | n + 1, j => fun S => match itemAt i j S with
    | none => none
    | some none => some S
    | some (some a) => (match T a (wipeA sa vs) S with
      | none => none
      | some sa1 => (match ft sa1 S with
        | some (.ok (.bl true) S2) => (match fe sa1 S2 with
          | some (.ok (.ref l) S3) => (match S3[l]?, S3[d]? with
            | some (.tup as), some (.set es) => (match toInts as with
              | some k => if es.all (entOk S3) && decide (es.length < 62) then scGo i T vs ft fe d sa n (j + 1) (if es.any (fun e => decide (e.2 = k)) then S3 else S3.set d (.set (es ++ [(l, k)]))) else none
              | none => none)
            | _, _ => none)
          | _ => none)
        | some (.ok (.bl false) S2) => scGo i T vs ft fe d sa n (j + 1) S2
        | _ => none))
def lenSetF (fi : FI) (T : TX) (vs : List Nat) (ft fe : F) : F := fun sa S => match fi sa S with
  | some (.ok i S') => (match scGo i T vs ft fe S'.length sa (itsLen i S' + 1) 0 (S' ++ [.set []]) with
    | some S2 => (match S2[S'.length]? with
      | some (.set es) => if es.all (entOk S2) then some (.ok (.int es.length) S2) else none
      | _ => none)
    | none => none)
  | some (.er c S') => some (.er c S')
  | none => none
theorem pr_mem {α β : Type} {F : α → β → Prop} : ∀ {xs : List α} {ys : List β} {y : β}, Paired F xs ys → y ∈ ys → ∃ x ∈ xs, F x y
  | _, _, _, .nil, h => by cases h
  | _, _, y, .cons (a := a) (b := b) h t, m => by
    rcases List.mem_cons.mp m with e | m
    · subst e
      exact ⟨a, List.mem_cons_self .., h⟩
    · obtain ⟨x, hx, hf⟩ := pr_mem t m
      exact ⟨x, List.mem_cons_of_mem _ hx, hf⟩
theorem pr_mem' {α β : Type} {F : α → β → Prop} : ∀ {xs : List α} {ys : List β} {x : α}, Paired F xs ys → x ∈ xs → ∃ y ∈ ys, F x y
  | _, _, _, .nil, h => by cases h
  | _, _, y, .cons (a := a) (b := b) h t, m => by
    rcases List.mem_cons.mp m with e | m
    · subst e
      exact ⟨b, List.mem_cons_self .., h⟩
    · obtain ⟨x, hx, hf⟩ := pr_mem' t m
      exact ⟨x, List.mem_cons_of_mem _ hx, hf⟩
section
variable {X : Cx} {t : Tx} {W : WX} {vs : List Nat}
/-- the entries stand -/
theorem ents {r : List Addr} {S : List O} {H : Hp} {es : List (Nat × List Int)} {L L0 : List (Addr × List Int)} (R : Rel t r S H) (hp : Paired (fun (e : Nat × List Int) (q : Addr × List Int) => r[e.1]? = some q.1 ∧ e.2 = q.2) es L0) (pm : L.Perm L0) (ho : es.all (entOk S) = true) : ∀ q ∈ L, SqT t.K H q.1 (q.2.map V.int) := fun q hq => by
  obtain ⟨e, he, h1, h2⟩ := pr_mem hp (pm.mem_iff.mp hq)
  have hk := List.all_eq_true.mp ho e he
  unfold entOk at hk
  split at hk
  · rename_i as hs
    obtain ⟨us, g1, g2⟩ := R.ob _ _ _ h1 hs
    rw [toInts_ok g2 (of_decide_eq_true hk), h2] at g1
    exact SqT.of g1
  · cases hk
theorem has_key {r : List Addr} {es : List (Nat × List Int)} {L L0 : List (Addr × List Int)} {k : List Int} (hp : Paired (fun (e : Nat × List Int) (q : Addr × List Int) => r[e.1]? = some q.1 ∧ e.2 = q.2) es L0) (pm : L.Perm L0) : k ∈ L.map (·.2) ↔ es.any (fun e => decide (e.2 = k)) = true := by
  rw [List.mem_map, List.any_eq_true]
  constructor
  · rintro ⟨q, hq, e⟩
    obtain ⟨x, hx, h1, h2⟩ := pr_mem hp (pm.mem_iff.mp hq)
    exact ⟨x, hx, decide_eq_true (h2.trans e)⟩
  · rintro ⟨x, hx, e⟩
    obtain ⟨q, hq, h1, h2⟩ := pr_mem' hp hx
    exact ⟨q, pm.mem_iff.mpr hq, h2.symm.trans (of_decide_eq_true e)⟩
theorem setO_frz {P : Program} {w : World} {p : Addr} {L : List (Addr × List Int)} (x : Obj) (y : HO) : SetTO P w p L ≠ .frz x y := fun z => by
  unfold SetTO at z
  cases z
theorem lenSet_ok {fi : FI} {T : TX} {ft fe : F} {σ : St} {H : Hp} {Q : VK} (h : lift t W (lenSetF fi T vs ft fe) σ H Q) : tCB (rLenT0 t.P t.w t.K) (tCons (tSetT t.P t.w t.K (liftI t W fi) (liftGx t vs T) (liftB t W0 ft) (lift t W0 fe) vs) tNil) σ H Q := by
  obtain ⟨r, sa, S, x, R, rs, e, p⟩ := h
  unfold lenSetF at e
  cases hf : fi sa S with
  | none =>
    rw [hf] at e
    cases e
  | some y =>
    rw [hf] at e
    refine ⟨r, sa, S, y, R, rs, hf, ?_⟩
    cases y with
    | er c S' =>
      cases e
      exact p
    | ok i S' =>
      intro r' H' J ex R' hJ D hD
      dsimp only at e
      cases hgo : scGo i T vs ft fe S'.length sa (itsLen i S' + 1) 0 (S' ++ [.set []]) with
      | none =>
        rw [hgo] at e
        cases e
      | some S2 =>
        rw [hgo] at e
        have RD : Rel t (r' ++ [D]) (S' ++ [.set []]) (upd H' D (SetTO t.P t.w D [])) := R'.new hD ⟨[], [], upd_same, .nil, .nil⟩
        have gD : (r' ++ [D])[S'.length]? = some D := by
          rw [← R'.len]
          exact get_snoc_new r' D
        refine ⟨fun j m H => ∃ r2 S, Ext (r' ++ [D]) r2 ∧ Rel t r2 S H ∧ scGo i T vs ft fe S'.length sa m j S = some S2, ⟨_, r' ++ [D], _, Ext.refl _, RD, hgo⟩, ?_⟩
        rintro j m H ⟨r2, S, e2, R2, ek⟩
        have hJ2 := hJ.ext ((Ext.snoc r' D).trans e2)
        have exr := (ex.trans (Ext.snoc r' D)).trans e2
        cases m with
        | zero => cases ek
        | succ m =>
          simp only [scGo] at ek
          cases hit : itemAt i j S with
          | none =>
            rw [hit] at ek
            cases ek
          | some u =>
            rw [hit] at ek
            cases u with
            | none =>
              cases ek
              refine .inl ⟨item_stop R2 hJ2 hit, ?_⟩
              dsimp only at e
              cases hd : S2[S'.length]? with
              | none =>
                rw [hd] at e
                cases e
              | some o =>
                rw [hd] at e
                cases o with
                | set es =>
                  dsimp only at e
                  split at e
                  · rename_i hall
                    cases e
                    obtain ⟨L, L0, g1, g2, g3⟩ := R2.ob _ D _ (e2.get gD) hd
                    refine ⟨D, L, rfl, g1, ents R2 g2 g3 hall, ?_⟩
                    have hlen : L.length = es.length := by rw [g3.length_eq, pr_len g2]
                    rw [hlen]
                    exact p r2 H _ exr R2 rfl
                  · cases e
                | _ => cases e
            | some a =>
              obtain ⟨g1, g2⟩ := item_go R2 hJ2 hit
              refine .inr ⟨g1, fun H' => ∃ r3 S, Ext (r' ++ [D]) r3 ∧ Rel t r3 S H' ∧ scGo i T vs ft fe S'.length sa m (j + 1) S = some S2, fun H' z => ⟨m, Nat.lt_succ_self m, z⟩, fun v H3 hy => ?_⟩
              obtain ⟨rfl, ra⟩ := g2 v H3 hy
              dsimp only at ek
              cases hT : T a (wipeA sa vs) S with
              | none =>
                rw [hT] at ek
                cases ek
              | some sa1 =>
                rw [hT] at ek
                refine ⟨r2, wipeA sa vs, S, a, sa1, R2, (rs.ext exr).wipe vs, ra, hT, fun σ2 hw rs2 => ⟨hw.trans (wipe_wipe σ vs), ?_⟩⟩
                dsimp only at ek
                cases ht : ft sa1 S with
                | none =>
                  rw [ht] at ek
                  cases ek
                | some w =>
                  rw [ht] at ek
                  refine ⟨r2, sa1, S, w, R2, rs2, ht, ?_⟩
                  cases w with
                  | er c S3 => cases ek
                  | ok b S3 =>
                    cases b with
                    | bl kb =>
                      intro r3 H4 v4 e3 R3 rv
                      cases rv
                      refine ⟨kb, rfl, ?_⟩
                      cases kb with
                      | false => exact iteF ⟨r3, S3, e2.trans e3, R3, ek⟩
                      | true =>
                        refine iteT ?_
                        dsimp only at ek
                        cases he : fe sa1 S3 with
                        | none =>
                          rw [he] at ek
                          cases ek
                        | some z =>
                          rw [he] at ek
                          refine ⟨r3, sa1, S3, z, R3, rs2.ext e3, he, ?_⟩
                          cases z with
                          | er c S4 => cases ek
                          | ok y S4 =>
                            cases y with
                            | ref l =>
                              intro r4 H5 yv e4 R4 ry
                              dsimp only at ek
                              split at ek
                              · rename_i as es hl hd
                                split at ek
                                · rename_i k hk
                                  split at ek
                                  · rename_i hch
                                    rw [Bool.and_eq_true] at hch
                                    have few := of_decide_eq_true hch.2
                                    have gD4 := ((e2.trans e3).trans e4).get gD
                                    obtain ⟨L, L0, q1, q2, q3⟩ := R4.ob _ D _ gD4 hd
                                    obtain ⟨c, hcl, rfl⟩ := ry
                                    obtain ⟨us, u1, u2⟩ := R4.ob l c _ hcl hl
                                    rw [toInts_ok u2 hk] at u1
                                    have hlen : L.length = es.length := by rw [q3.length_eq, pr_len q2]
                                    refine ⟨c, k, L, rfl, SqT.of u1, q1, ents R4 q2 q3 hch.1, by omega, fun L' c1 c2 => ?_⟩
                                    have e6 := (e2.trans e3).trans e4
                                    by_cases hany : es.any (fun e => decide (e.2 = k)) = true
                                    · rw [if_pos hany] at ek
                                      rw [c1 ((has_key q2 q3).mpr hany)]
                                      have R5 := R4.put (o' := .set es) gD4 hd rfl rfl q1 setO_frz ⟨L, L0, upd_same, q2, q3⟩
                                      have same : S4.set S'.length (.set es) = S4 := by
                                        apply List.ext_getElem?
                                        intro n
                                        by_cases hn : S'.length = n
                                        · subst hn
                                          rw [List.getElem?_set_self (List.getElem?_eq_some_iff.mp hd).1, hd]
                                        · rw [List.getElem?_set_ne hn]
                                      rw [same] at R5
                                      exact ⟨r4, S4, e6, R5, ek⟩
                                    · rw [if_neg hany] at ek
                                      have pm2 := c2 (fun z => hany ((has_key q2 q3).mp z))
                                      refine ⟨r4, _, e6, R4.put (o' := .set (es ++ [(l, k)])) gD4 hd rfl rfl q1 setO_frz ⟨L', L0 ++ [(c, k)], upd_same, pr_app q2 (.cons ⟨hcl, rfl⟩ .nil), ?_⟩, ek⟩
                                      exact pm2.trans ((List.Perm.cons _ q3).trans (List.perm_append_singleton _ _).symm)
                                  · cases ek
                                · cases ek
                              · cases ek
                            | _ => cases ek
                    | _ => cases ek
theorem v_lenSet (own : List (Str × Nat)) {elt iter tg : Expr} {ifs : List Expr} {scope : Scope} {p pos pos2 : Pos} {fi : FI} {T : TX} {ft fe : F} (hN : X.N.Nodup) (hu : X.A.units + 64 < cLine) (hm : X.mg "len" = none) (hi : PI X tg iter (liftI t W fi)) (ok : BlkOk X.N X.env.scope scope own)
    (hg : ∀ (s : Shared) (H : Hp) (C : Addr) (cl : List (Str × Addr)) (fp : List Addr), PG (X.blk s H scope (compEnvC scope cl C X.env) fp) tg (liftGx t vs T)) (ht : ∀ (s : Shared) (H : Hp) (C : Addr) (cl : List (Str × Addr)) (fp : List Addr), PTs (X.blk s H scope (compEnvC scope cl C X.env) fp) ifs (liftB t W0 ft))
    (he : ∀ (s : Shared) (H : Hp) (C : Addr) (cl : List (Str × Addr)) (fp : List Addr), PE (X.blk s H scope (compEnvC scope cl C X.env) fp) elt (lift t W0 fe)) (hvs : own.map (·.2) = vs := by rfl) (hP : X.prog = t.P := by rfl) (hw : X.w = t.w := by rfl) (hK : X.K = t.K := by rfl) (hc : X.calm = true := by rfl) (hg2 : Gl X "len" := by rfl)
    (hs : ∀ x, foldedSetIterable iter X.env x = pure x := by intro _; rfl) (hst : starEach [.SetComp elt [⟨tg, iter, ifs, 0⟩] scope pos] X.env = (false, eval (.SetComp elt [⟨tg, iter, ifs, 0⟩] scope pos) X.env) :: starEach [] X.env := by rfl)
    (hpl : (backTo pos2 (starEach [] X.env)).any (·.1) = false := by rfl) : PE X (.Call (.Name "len" p) [.SetComp elt [⟨tg, iter, ifs, 0⟩] scope pos] [] pos2) (lift t W (lenSetF fi T vs ft fe)) := by
  subst hvs
  have h1 := pe_setT (tt := liftB t W0 ft) hc hN hu hi ok hg ht he hs (pos := pos)
  have h2 := pe_callB (p := p) (pos := pos2) (x := "len") call_lenT hg2 hm PySem.boot_len (pa_cons h1 pa_nil hst) (by decide) (by decide) hst hpl
  refine h2.weak fun σ H Q h => ?_
  rw [hP, hw, hK]
  exact lenSet_ok h
end
end Vai
set_option maxRecDepth 100000
set_option maxHeartbeats 4000000
namespace Vai
open PySem L2 PySem.Spec PyProof.Rows
/-! ### def err(call): try: call() / except X: return 'X' / .. / return '' -/
/-- what the clauses make of an error -/
def clF2 (K : PySem.W.Frag) (Q : VK) : List (Value × PySem.Str) → XK
  | [] => fun _ _ _ => False
  | (c, z) :: r => fun cls d H => ∃ b, PySem.W.exmOne K cls c = some b ∧ (b = true → Q (.str z) H) ∧ (b = false → clF2 K Q r cls d H)
def lOf (cs : List (Value × PySem.Str)) : List (Value × (Addr → Value → Option Addr → TS)) := cs.map fun p => (p.1, fun _ _ _ => tRet (tC (.str p.2)))
theorem cl_many {K : PySem.W.Frag} {D : Ends} : ∀ (cs : List (Value × PySem.Str)) (cls : Value) (d : Option Addr) (σ : L2.St) (H : Hp), clF2 K D.rt cs cls d H → wMany K (fun _ _ _ _ => False) D (lOf cs) cls d σ H
  | [], _, _, _, _, h => h
  | (c, z) :: r, cls, d, σ, H, ⟨b, e, h1, h2⟩ => ⟨b, e, fun hb a _ => h1 hb, fun hb => cl_many r cls d σ H (h2 hb)⟩
def TErr (K : PySem.W.Frag) (cs : List (Value × PySem.Str)) (e0 : PySem.Str) : (XK → Hp → VK → Prop) → Hp → VK → Prop := fun tl H Q => tl (clF2 K Q cs) H (fun _ H' => Q (.str e0) H')
/-- the def that calls what it got; Cy: what is known of that thing -/
def Gives (X : Cx) (Ng : List PySem.Str) (x : PySem.Str) (sg : Scope) (g : Addr) (cdg : Value) (bg : List Stmt) (a : PySem.Str) (TT : (XK → Hp → VK → Prop) → Hp → VK → Prop) : Prop :=
  ∀ (f : Addr) (Cy : Hp → Prop) (s : Shared) (H : Hp) (Q : VK) (tl : XK → Hp → VK → Prop),
    (∀ (W : WX) (pn : List (Addr × Obj)) (xe : Value → Shared → Prop) (E : XK) (p1 p2 : Pos), Takes ((cxOf C8.CX0 X.prog X.w X.K X.mg X.base Ng x sg g cdg X.A X.stack s H C8.E0).tr pn xe) W → (∀ cls d σ' H', E cls d H' → W cls d σ' H') →
      PE ((cxOf C8.CX0 X.prog X.w X.K X.mg X.base Ng x sg g cdg X.A X.stack s H C8.E0).tr pn xe) (.Call (.Name a p1) [] [] p2) (fun σZ HZ Q => σZ[0]? = some (some (.ref f)) ∧ Cy HZ ∧ tl E HZ Q)) →
    Cy H → TT tl H Q → ∃ t, PSs (cxOf C8.CX0 X.prog X.w X.K X.mg X.base Ng x sg g cdg X.A X.stack s H C8.E0).nox bg t ∧ t { nx := fun _ H' => Q .non H', rt := Q } (L2.start Ng [.ref f]) H
theorem Gives.to {X : Cx} {Ng : List PySem.Str} {x : PySem.Str} {sg : Scope} {g : Addr} {cdg : Value} {bg : List Stmt} {a q : PySem.Str} {TT : (XK → Hp → VK → Prop) → Hp → VK → Prop} (h : Gives X Ng x sg g cdg bg a TT) : LamX.GivesTo X Ng x sg g cdg bg a q TT :=
  fun f c' s H Q tl act hc ht => h f (fun H => H c' = some (LamX.CodeO c' q)) s H Q tl act hc ht
section
variable {X : Cx}
theorem err_gives {Ng : List PySem.Str} {x a e0 : PySem.Str} {sg : Scope} {g : Addr} {cdg : Value} {j : Nat} {p1 p2 p3 p4 p5 p6 : Pos} {cs : List (Value × PySem.Str)} {h0 : ExceptHandler} {hds : List ExceptHandler} (hs0 : ∀ f : Addr, (L2.start Ng [V.ref f])[0]? = some (some (V.ref f)))
    (hh : ∀ (s : Shared) (H : Hp), HdsOk (cxOf C8.CX0 X.prog X.w X.K X.mg X.base Ng x sg g cdg X.A X.stack s H C8.E0).nox (h0 :: hds) (lOf cs)) (hsw : ∀ (s : Shared) (H : Hp), swapsWith (.Call (.Name a p1) [] [] p2) none p3.line (cxOf C8.CX0 X.prog X.w X.K X.mg X.base Ng x sg g cdg X.A X.stack s H C8.E0).env = pure false) :
    Gives X Ng x sg g cdg [.Try [.Expr (.Call (.Name a p1) [] [] p2) p3] (h0 :: hds) [] [] p4, .Return (some (.Constant (.str e0) j p5)) p6] a (TErr X.K cs e0) := by
  intro f Cy s H Q tl act hc h
  refine ⟨_, pss_cons (ps_try_many (X := (cxOf C8.CX0 X.prog X.w X.K X.mg X.base Ng x sg g cdg X.A X.stack s H C8.E0).nox)
      (tb := fun W D σ H => ∃ Ech : XK, (∀ cls d σ' H', Ech cls d H' → W cls d σ' H') ∧ σ[0]? = some (some (.ref f)) ∧ Cy H ∧ tl Ech H (fun _ H' => D.nx σ H'))
      rfl rfl takes_none5 (fun W pn xe tk _ => ?_) (hh s H)) (pss_one (ps_ret pe_str)), ?_⟩
  · refine ⟨fun pins s' σ H' D J h' => ?_⟩
    obtain ⟨Ech, hW, h1, h2, h3⟩ := h'
    have hp := act W pn xe Ech p1 p2 tk hW
    exact (pss_one (ps_expr hp (hsw s H))).run pins s' σ H' D J ⟨h1, h2, h3⟩
  · exact ⟨clF2 X.K Q cs, fun cls d σ' H' z => cl_many (D := { nx := _, rt := Q }) cs cls d σ' H' z, hs0 f, hc, h⟩
/-! ### in the evaluator -/
/-- the name of the clause for the class c -/
def errF (nm : Nat → Option PySem.Str) (e0 : PySem.Str) (fb : F) : F := fun sa S => match fb sa S with
  | some (.ok _ S') => some (.ok (.str e0) S')
  | some (.er c S') => (match nm c with
    | some z => some (.ok (.str z) S')
    | none => none)
  | none => none
/-- the clauses tell the classes by these names -/
def Tells (t : Tx) (cs : List (Value × PySem.Str)) (nm : Nat → Option PySem.Str) : Prop := ∀ (c : Nat) (z : PySem.Str) (Q : VK) (d : Option Addr) (H : Hp), nm c = some z → Q (.str z) H → clF2 t.K Q cs (.ref (t.cl c)) d H
theorem Rel.extN {t : Tx} {r : List Addr} {S : List O} {H H1 : Hp} (R : Rel t r S H) (e : LamX.ExtN H H1) (hT : LamX.Tabs t.T H1) : Rel t r S H1 := by
  refine ⟨R.inj, R.len, fun l p o h1 h2 => ?_, hT⟩
  have x := R.ob l p o h1 h2
  cases o with
  | lst xs => obtain ⟨vs, a, b⟩ := x; exact ⟨vs, e _ _ a (fun _ z => by cases z), b⟩
  | tup xs => obtain ⟨vs, a, b⟩ := x; exact ⟨vs, e _ _ a (fun _ z => by cases z), b⟩
  | scr ns => exact x.imp (fun ⟨o, z⟩ => ⟨o, e _ _ z (fun _ z => by cases z)⟩) id
  | dic ks => obtain ⟨vs, a, b⟩ := x; exact ⟨vs, e _ _ a (fun _ z => by cases z), b⟩
  | set es => obtain ⟨L, L0, a, b⟩ := x; exact ⟨L, L0, e _ _ a (fun _ z => by unfold SetTO at z; cases z), b⟩
  | code => exact e _ _ x LamX.codeO_ne
  | clo i c d => obtain ⟨c', dV, a1, a2, a3⟩ := x; exact ⟨c', dV, a1, a2, e _ _ a3 (fun _ z => by unfold CloO at z; cases z)⟩
/-- the reading of err(lambda: body) -/
theorem err_read {t : Tx} {W : WX} {cs : List (Value × PySem.Str)} {nm : Nat → Option PySem.Str} {e0 : PySem.Str} {fb : F} {K : PySem.W.Frag} (hK : K = t.K) (tells : Tells t cs nm) {σ : L2.St} {H : Hp} {Q : VK} (h : lift t W (errF nm e0 fb) σ H Q) :
    LamX.tLam t.T (TErr K cs e0) (fun E => lift t (fun cls d _ H => E cls d H) fb) σ H Q := by
  subst hK
  obtain ⟨r, sa, S, x, R, rs, e, p⟩ := h
  refine ⟨R.tb, fun H1 eN hT => ?_⟩
  have R1 := R.extN eN hT
  unfold errF at e
  cases hf : fb sa S with
  | none =>
    rw [hf] at e
    cases e
  | some y =>
    rw [hf] at e
    refine ⟨r, sa, S, y, R1, rs, hf, ?_⟩
    cases y with
    | ok a S' =>
      cases e
      exact fun r' H' v ex R' _ => p r' H' _ ex R' rfl
    | er c S' =>
      dsimp only at e
      cases hn : nm c with
      | none =>
        rw [hn] at e
        cases e
      | some z =>
        rw [hn] at e
        cases e
        exact fun r' H' ex R' => tells c z Q none H' hn (p r' H' _ ex R' rfl)
end
end Vai
set_option maxRecDepth 100000
set_option maxHeartbeats 4000000
namespace Vai
open PySem L2 PySem.Spec PyProof.Rows
/-! ### err(lambda a=d: body): one parameter, its default an int -/
structure LamS1 (N : List PySem.Str) (sc scope : Scope) (a0 : PySem.Str) : Prop where
  kind : scope.kind = .function
  co : scope.isCoroutine = false
  gen : scope.isGenerator = false
  noCell : ∀ y ∈ scope.names, y.2 ≠ .cell
  loc : ∀ y ∈ scope.names, y.2 = .local → y.1 = a0
  a0loc : scope.names.lookup a0 = some .local
  out : a0 ∉ N
  free : ∀ y ∈ scope.names, y.2 = .free → sc.names.lookup y.1 = some .cell ∨ sc.names.lookup y.1 = some .free
def lamS1B (N : List PySem.Str) (sc scope : Scope) (a0 : PySem.Str) : Bool :=
  decide (scope.kind = .function) && !scope.isCoroutine && !scope.isGenerator && (scope.names.all fun y => !decide (y.2 = .cell) && (!decide (y.2 = .local) || decide (y.1 = a0)) && (!decide (y.2 = .free) || decide (sc.names.lookup y.1 = some .cell) || decide (sc.names.lookup y.1 = some .free))) &&
    decide (scope.names.lookup a0 = some .local) && decide (a0 ∉ N)
theorem lamS1_by {N : List PySem.Str} {sc scope : Scope} {a0 : PySem.Str} (h : lamS1B N sc scope a0 = true) : LamS1 N sc scope a0 := by
  unfold lamS1B at h
  simp only [Bool.and_eq_true, Bool.or_eq_true, Bool.not_eq_true', decide_eq_true_eq, decide_eq_false_iff_not, List.all_eq_true] at h
  obtain ⟨⟨⟨⟨⟨h1, h2⟩, h3⟩, h4⟩, h5⟩, h6⟩ := h
  refine ⟨h1, h2, h3, fun y hy => (h4 y hy).1.1, fun y hy e => ?_, h5, h6, fun y hy e => ?_⟩
  · exact (h4 y hy).1.2.elim (fun z => absurd e z) id
  · rcases (h4 y hy).2 with (z | z) | z
    · exact absurd e z
    · exact .inl z
    · exact .inr z
theorem LamS1.has {X : Cx} {scope : Scope} {a0 : PySem.Str} (L : LamS1 X.N X.env.scope scope a0) (ok : X.Ok) : ∀ y ∈ scope.names, y.2 = .free → ∃ c, X.env.cells.lookup y.1 = some c := fun y hy e => (L.free y hy e).elim (fun k => ok.has _ (.inl k)) fun k => ok.has _ (.inr k)
section
variable {X : Cx} {pins : List (Addr × Obj)} {σ : L2.St} {H HZ : Hp} {s s1 : Shared}
theorem notFr (J : Inv X pins σ H s) {f : Addr} (hf : s.heap.objs.size ≤ f) : f ∉ frs X.stack := fun z => by
  rcases List.mem_cons.mp (J.stkSub _ z) with e | e
  · have h1 := J.lt
    rw [← e] at h1
    exact absurd hf (Nat.not_le.mpr h1)
  · exact J.nofs hf e
theorem lam_made1 {T : List (Addr × PySem.Str)} {c P : Addr} {params : Arguments} {body : Expr} {scope : Scope} {pos dpos : Pos} {a0 : PySem.Str} {d : Int} {dj : Nat} {E : Value → Shared → Prop} {Q : Value → Shared → Prop} (J : Inv X pins σ H s) (TB : LamX.TabB X.base X.mg c P) (hcode : X.env.code = .ref c)
    (hm : (P, X.env.qual ++ "<lambda>") ∈ T) (hu : ∀ p ∈ T, p.1 = P → p.2 = X.env.qual ++ "<lambda>") (hT : LamX.Tabs T H) (hd : params.defaults = [.Constant (.int d) dj dpos]) (hk0 : params.kw_defaults = []) (L : LamS1 X.N X.env.scope scope a0)
    (h : ∀ (f c' T0 : Addr) (tk : Tok) (doc pm ctv : Value) (H1 : Hp) (s' : Shared), Inv X pins σ H1 s' → LamX.ExtN H H1 → LamX.Tabs T H1 →
      s'.heap.get? f = some (PySem.W.kdv_obj "<lambda>" (X.env.qual ++ "<lambda>") params (.expr body) scope (cloFrom X.env.cells scope.names []) (.ref T0) doc pm c' ctv) → s'.heap.get? T0 = some (PySem.W.kdv_tup [.int d tk]) →
      H1 f = none → H1 T0 = none → f ∉ frs X.stack → T0 ∉ frs X.stack → H1 c' = some (LamX.CodeO c' (X.env.qual ++ "<lambda>")) → Q (.ref f) s') :
    wpAny (model X.prog X.w) X.A (eval (.Lambda params body scope pos) X.env) Q E s := by
  refine PySem.W.kdv_lam (by rw [hd]; rfl) hk0 ?_
  rw [hd]
  refine PySem.W.kdv_all1 (wpAny_Constant_int (PySem.W.kdv_all0 ?_))
  rw [makeFunction_eq]
  simp only [List.zip_nil_right, List.filterMap_nil, List.isEmpty_nil, if_true, pure_bind, List.isEmpty_cons, Bool.false_eq_true, if_false]
  refine wpAny_bind (wpAny_newTextTuple ?_)
  obtain ⟨ps, hP, ht, ha⟩ := hT _ hm
  have J1 : Inv X pins σ H { s with toks := s.toks + 1 } := J.tok _
  generalize hs2 : ({ s with heap := s.heap.push (PySem.W.kdv_tup [.int d s.toks]), toks := s.toks + 1 } : Shared) = s2
  have hh2 : s2.heap = s.heap.push (PySem.W.kdv_tup [.int d s.toks]) := by subst hs2; rfl
  have J2 : Inv X pins σ H s2 := by
    subst hs2
    exact J1.kept (t' := s.toks + 1) fun b o e => Heap.get?_push_of_some _ e
  have hT0 : s2.heap.get? s.heap.objs.size = some (PySem.W.kdv_tup [.int d s.toks]) := by rw [hh2]; exact Heap.get?_push_size _ rfl
  have nT0 : H s.heap.objs.size = none := J.hok.fresh (Nat.le_refl _)
  have fT0 : s.heap.objs.size ∉ frs X.stack := notFr J (Nat.le_refl _)
  have lt0 : s.heap.objs.size < s2.heap.objs.size := by rw [hh2, Heap.size_push]; exact Nat.lt_succ_self _
  have hfree := L.has J.ok
  have bP : s2.heap.BuiltinsAt X.mg P := TB.bm.keeps J2.bk
  have hP' : s2.heap.get? P = some { cls := .none, data := .fields ps } := J2.hok P _ hP
  have nPT : s.heap.objs.size ≠ P := fun z => by
    rw [z] at hT0
    rw [hT0] at hP'
    cases hP'
  show wpAny (model X.prog X.w) X.A (makeTail "<lambda>" (X.env.qual ++ "<lambda>") params (.expr body) scope X.env (.ref s.heap.objs.size) .none none pos pos.line) Q E s2
  cases hc : codeAmong pos ps.toList with
  | none =>
    refine PySem.W.kdv_makeTail (mg := X.mg) (c := c) (P := P) (ps := ps) (closure_ok hfree) J2.ok.glob (J2.mod.glob.keeps J2.bk) hcode (TB.code.keeps J2.bk) hP' ht hc TB.gP bP fun c' ctv doc h' tk hx hge hlt hrec htb => ?_
    obtain ⟨c2, oc, vs, tq, e2, hoc, hdd, hv⟩ := hrec
    cases e2
    have hsz : s2.heap.objs.size ≤ h'.objs.size := Nat.le_trans hge (Nat.le_of_lt hlt)
    have nC : H c' = none := J2.hok.fresh hge
    have J3 := LamX.inv_table (t' := tk) (more := #[rawInt pos.line, rawInt pos.col, .ref c']) (q := X.env.qual ++ "<lambda>") (h' := h'.push (PySem.W.kdv_obj "<lambda>" (X.env.qual ++ "<lambda>") params (.expr body) scope (cloFrom X.env.cells scope.names []) (.ref s.heap.objs.size) doc ((X.mg "__name__").getD .none) c' ctv)) J2 hP
      (fun b o hb e => Heap.get?_push_of_some _ (hx b o hb e)) (Heap.get?_push_of_some _ htb) hge ⟨oc, vs, tq, Heap.get?_push_of_some _ hoc, hdd, hv⟩
    have hE : LamX.ExtN H (upd (upd H P (.tbl (ps ++ #[rawInt pos.line, rawInt pos.col, .ref c']))) c' (LamX.CodeO c' (X.env.qual ++ "<lambda>"))) := fun b o e n => by
      rw [upd_ne (ne_of_none e nC), upd_ne (fun z => n ps (Option.some.inj (e.symm.trans (by rw [z]; exact hP))))]
      exact e
    have eL : (ps ++ #[rawInt pos.line, rawInt pos.col, .ref c']).toList = ps.toList ++ [rawInt pos.line, rawInt pos.col, .ref c'] := by simp
    have tops : ∀ b, b ≠ c' → b ≠ P → H b = none → (upd (upd H P (.tbl (ps ++ #[rawInt pos.line, rawInt pos.col, .ref c']))) c' (LamX.CodeO c' (X.env.qual ++ "<lambda>"))) b = none := fun b h1 h2 h3 => by rw [upd_ne h1, upd_ne h2]; exact h3
    refine h h'.objs.size c' s.heap.objs.size s.toks doc ((X.mg "__name__").getD .none) ctv _ _ J3 hE (fun p hp => ?_) (Heap.get?_push_size _ rfl) (Heap.get?_push_of_some _ (hx _ _ nPT hT0)) ?_ ?_ (notFr J2 hsz) fT0 upd_same
    · by_cases hb : p.1 = P
      · rw [hu p hp hb, hb]
        refine ⟨_, by rw [upd_ne (ne_of_none hP nC), upd_same], by rw [eL]; exact PySem.TriplesOk_snoc _ _ _ _ ht, fun p' cv hcv => ?_⟩
        rw [eL] at hcv
        rcases LamX.among_app _ ht hcv with z | z
        · obtain ⟨k0, e1, e2⟩ := ha p' cv z
          exact ⟨k0, e1, hE _ _ e2 LamX.codeO_ne⟩
        · exact ⟨c', z, upd_same⟩
      · obtain ⟨ps', a1, a2, a3⟩ := hT p hp
        refine ⟨ps', by rw [upd_ne (ne_of_none a1 nC), upd_ne hb]; exact a1, a2, fun p' cv hcv => ?_⟩
        obtain ⟨k0, e1, e2⟩ := a3 p' cv hcv
        exact ⟨k0, e1, hE _ _ e2 LamX.codeO_ne⟩
    · exact tops _ (Nat.ne_of_gt hlt) (Nat.ne_of_gt (Nat.lt_of_lt_of_le (Heap.lt_size hP') hsz)) (J2.hok.fresh hsz)
    · refine tops _ (fun z => ?_) nPT nT0
      rw [← z] at hge
      omega
  | some cv =>
    obtain ⟨c', e, hco⟩ := ha pos cv hc
    subst e
    refine PySem.W.kdv_makeTailHit (mg := X.mg) (c := c) (P := P) (ps := ps) (closure_ok hfree) J2.ok.glob (J2.mod.glob.keeps J2.bk) hcode (TB.code.keeps J2.bk) hP' ht hc bP fun ctv doc h' tk hx hsz => ?_
    have J3 : Inv X pins σ H { s2 with heap := h'.push { cls := .type "function", data := .func (PySem.W.kdv_fn "<lambda>" (X.env.qual ++ "<lambda>") params (.expr body) scope (cloFrom X.env.cells scope.names []) (.ref s.heap.objs.size) doc ((X.mg "__name__").getD .none) (.ref c') ctv) }, toks := tk } := J2.kept fun b o e => Heap.get?_push_of_some _ (hx b o e)
    exact h h'.objs.size c' s.heap.objs.size s.toks doc ((X.mg "__name__").getD .none) ctv H _ J3 (LamX.ExtN.refl H) hT (Heap.get?_push_size _ rfl) (Heap.get?_push_of_some _ (hx _ _ hT0)) (J2.hok.fresh hsz) nT0 (notFr J2 hsz) fT0 hco
end
end Vai
set_option maxRecDepth 100000
set_option maxHeartbeats 4000000
namespace Vai
open PySem L2 PySem.Spec PyProof.Rows
section
variable {X : Cx} {pins : List (Addr × Obj)} {σ : L2.St} {H HZ : Hp} {s s1 : Shared}
/-- the body's start: the one parameter bound -/
theorem lam_begin1 {A : Around} {outer : List Env} {E : XK} {scope : Scope} {a0 : PySem.Str} {u0 : Value} {f c' : Addr} {h1 : Heap} {tk : Nat} (J : Inv X pins σ H s) (L : LamS1 X.N X.env.scope scope a0) (e0 : Env0 X.prog X.w X.K X.mg X.base A outer s1 HZ) (hd : A.handled = none)
    (un : Un (frs X.stack) [] H HZ s.heap s1.heap) (hns : h1.Ns s1.heap.objs.size fun y => ([(a0, u0)] : List (PySem.Str × Value)).reverse.lookup y) (kp : ∀ b o, s1.heap.get? b = some o → h1.get? b = some o) :
    Inv (LamX.lamCx X A outer s1 HZ E scope f c') [] σ HZ { s1 with heap := h1, toks := tk } := by
  have hfree := L.has J.ok
  have cm : ∀ {y c}, (cloFrom X.env.cells scope.names []).lookup y = some c → X.env.cells.lookup y = some c := fun {y c} e => by
    rcases cloFrom_mem (PySem.mem_of_lookup e) with hm | ⟨g1, g2⟩
    · cases hm
    · obtain ⟨k1, hc⟩ := hfree _ g1 rfl
      have hc : X.env.cells.lookup y = some k1 := hc
      rw [hc] at g2 ⊢
      exact congrArg some (show k1 = c from by rw [g2]; rfl)
  have look : ∀ {y}, scope.names.lookup y = some .free → ∃ c, (cloFrom X.env.cells scope.names []).lookup y = some c := fun {y} hl => mem_lookup (cloFrom_has (cells := X.env.cells) (acc := []) (PySem.mem_of_lookup hl))
  have cellK : ∀ {c : Addr} {v : Option Value}, H c = none → s.heap.IsCell c v → h1.IsCell c v := fun {c v} n ⟨o, ho, hd'⟩ => by
    obtain ⟨sl, q⟩ := un.any ho n (by simp)
    exact ⟨_, kp _ _ q, hd'⟩
  have noA : ∀ b : Addr, b ∉ (LamX.lamCx X A outer s1 HZ E scope f c').ex := fun b z => absurd (show b ∈ ([] : List Addr) from z) (by simp)
  have ok : (LamX.lamCx X A outer s1 HZ E scope f c').Ok := by
    refine ⟨e0.mod, L.kind, rfl, rfl, Nat.le_refl _, fun y z c e1 e2 => J.ok.inj y z c (cm e1) (cm e2), fun y hy => ?_, fun y c z _ => ?_, fun _ => hd, Around.frames_deeper e0.frames, .inr ⟨rfl, rfl⟩, fun b z => absurd z (noA b), e0.bs, e0.bsz, fun b _ _ => noA b, fun b z => absurd z (noA b), e0.funs, e0.frf⟩
    · have hy : scope.names.lookup y = some .cell ∨ scope.names.lookup y = some .free := hy
      exact hy.elim (fun k => absurd rfl (L.noCell _ (PySem.mem_of_lookup k))) look
    · have z : false = true := z
      cases z
  refine ⟨ok, rfl, e0.bare, Un.kept kp, ⟨_, hns, fun i y v e1 e2 e3 => ?_⟩, fun y c e => ?_, e0.hok.fresh (Nat.le_refl _), fun y c e => ?_, fun q hq => absurd (show q ∈ ([] : List (Addr × Obj)) ++ [] from hq) (by simp), e0.hok.kept kp, J.len⟩
  · have e1 : X.N[i]? = some y := e1
    have e3 : Vis scope y := e3
    rcases e3 with k | k | k
    · have hy := L.loc _ (PySem.mem_of_lookup k) rfl
      exact absurd (List.mem_of_getElem? (by rw [← show y = a0 from hy]; exact e1)) L.out
    · exact absurd rfl (L.noCell _ (PySem.mem_of_lookup k))
    · obtain ⟨m, hn, hl⟩ := J.loc
      have hvis : Vis X.env.scope y := (L.free _ (PySem.mem_of_lookup k) rfl).elim (fun k => .inr (.inl k)) (fun k => .inr (.inr k))
      obtain ⟨w', r, q⟩ := hl i y v e1 e2 hvis
      obtain ⟨c2, h2⟩ := look k
      refine ⟨w', r, .inr ⟨.inr k, c2, h2, ?_⟩⟩
      have c1 := cm h2
      rcases q with ⟨k', _⟩ | ⟨_, c3, e', z⟩
      · have k' : X.env.scope.names.lookup y = some .local := k'
        rcases L.free _ (PySem.mem_of_lookup k) rfl with k2 | k2 <;> rw [show X.env.scope.names.lookup y = _ from k2] at k' <;> cases k'
      · rw [c1] at e'
        cases e'
        exact cellK (J.freeC y _ c1) z
  · obtain ⟨w', z⟩ := J.cell y c (cm e)
    exact ⟨w', cellK (J.freeC y c (cm e)) z⟩
  · obtain ⟨v, o, ho, hd'⟩ := J.cell y c (cm e)
    exact un.free c o ho (J.freeC y c (cm e)) (by simp)
/-- x() in the def that got it -/
theorem pe_act1 {CXg : CXT} {Eg : XK} {Ng : List PySem.Str} {qg : PySem.Str} {sg : Scope} {g f c' T0 : Addr} {cdg pm doc ctv : Value} {tk0 : Tok} {d : Int} {a0 : PySem.Str} {params : Arguments} {body : Expr} {scope : Scope} {k i : Nat} {a : PySem.Str} {pn : List (Addr × Obj)} {xe : Value → Shared → Prop} {W : WX} {E : XK} {tb : TE} {p1 p2 : Pos}
    (J : Inv X pins σ H s) (L : LamS1 X.N X.env.scope scope a0) (hf : s.heap.get? f = some (PySem.W.kdv_obj "<lambda>" (X.env.qual ++ "<lambda>") params (.expr body) scope (cloFrom X.env.cells scope.names []) (.ref T0) doc pm c' ctv)) (hT0 : s.heap.get? T0 = some (PySem.W.kdv_tup [.int d tk0]))
    (hfn : H f = none) (hTn : H T0 = none) (hfr : f ∉ frs X.stack) (hTr : T0 ∉ frs X.stack)
    (hbind : ∀ cdv, ∃ kk, bindArgs (PySem.W.kdv_fn "<lambda>" (X.env.qual ++ "<lambda>") params (.expr body) scope (cloFrom X.env.cells scope.names []) (.ref T0) doc pm cdv ctv) ⟨[], []⟩ = seqItems? (.ref T0) >>= kk ∧ kk (some #[.int d tk0]) = pure [(a0, .int d tk0)])
    (tk : Takes ((cxOf CXg X.prog X.w X.K X.mg X.base Ng qg sg g cdg X.A X.stack s H Eg).tr pn xe) W) (hW : ∀ cls d σ' H', E cls d H' → W cls d σ' H') (hr : Room (k + 1) (X.A.deeper (envOfC qg sg s.heap.objs.size g cdg)))
    (hbody : ∀ (A : Around) (outer : List Env) (s : Shared) (H : Hp), Room k (A.deeper (LamX.lamEnv X scope s.heap.objs.size f c')) → PE (LamX.lamCx X A outer s H E scope f c') body tb)
    (hN : Ng[i]? = some a) (hv : Vis sg a) (hd : (a == ("__debug__" : PySem.Str)) = false := by decide) (hcd : (a == ("__classdict__" : PySem.Str)) = false := by decide) :
    PE ((cxOf CXg X.prog X.w X.K X.mg X.base Ng qg sg g cdg X.A X.stack s H Eg).tr pn xe) (.Call (.Name a p1) [] [] p2)
      (fun σZ HZ Q => σZ[i]? = some (some (.ref f)) ∧ HZ c' = some (LamX.CodeO c' (X.env.qual ++ "<lambda>")) ∧ tb σ HZ Q) := by
  constructor
  intro pinsZ sZ σZ HZ Q IZ ⟨hs, hc, ht⟩
  refine wpAny_Call_Name_kw (thn ((pe_var (pos := p1) (i := i) hN hv hd hcd).run pinsZ sZ σZ HZ (fun v H1 => v = .ref f ∧ H1 = HZ) IZ ⟨.ref f, hs, rfl, rfl⟩) fun u s1 ⟨v, H1, J1, r1, ev, eH⟩ => ?_)
  subst ev
  rw [eH] at J1
  obtain rfl : u = Value.ref f := r1
  have of1 := J1.base.keep f _ hf hfn hfr (fun z => nomatch (show f ∈ ([] : List Addr) from z))
  have oT1 := J1.base.keep T0 _ hT0 hTn hTr (fun z => nomatch (show T0 ∈ ([] : List Addr) from z))
  refine PySem.W.callWith_F0 ⟨_, _, _, _, of1⟩ ?_
  obtain ⟨⟨oc, vs, t, hoc, hdc, hvc⟩, _, _⟩ := J1.hok c' _ hc
  obtain ⟨kk, b1, b2⟩ := hbind (.ref c')
  have bt : BindsTo s1 (PySem.W.kdv_fn "<lambda>" (X.env.qual ++ "<lambda>") params (.expr body) scope (cloFrom X.env.cells scope.names []) (.ref T0) doc pm (.ref c') ctv) ⟨[], []⟩ [(a0, .int d tk0)] := BindsTo.of_defaults rfl oT1 rfl b1 b2
  have rc : codeAny (model X.prog X.w) (X.A.deeper (envOfC qg sg s.heap.objs.size g cdg)) (.call (.ref f) ⟨[], []⟩) (CR (L2.CX X.prog X.w) (envOfC qg sg s.heap.objs.size g cdg :: X.stack) X.prog X.w HZ s1 Q E) s1 := by
    refine PySem.W.kla_callFunE hr.depth of1 rfl L.co L.gen rfl ⟨c', oc, vs, t, rfl, hoc, hdc, hvc⟩ (bt _ _ _ _ ?_)
    refine wpAny_newFunctionEnv (fun y hy => L.noCell y hy) (fun y hy => ?_) (fun h1 hns hsb => ⟨J1.nolimit.fresh _ hsb, ?_⟩) L.kind
    · rw [List.mem_singleton.mp hy]
      exact L.a0loc
    · show codeAny _ _ (.expr body (LamX.lamEnv X scope s1.heap.objs.size f c')) _ _
      have kp : ∀ b o, s1.heap.get? b = some o → h1.get? b = some o := fun b o e => hsb.extBut b o (Nat.ne_of_lt (Heap.lt_size e)) (Heap.get?_push_of_some _ e)
      have J2 : Inv (LamX.lamCx X (X.A.deeper (envOfC qg sg s.heap.objs.size g cdg)) (envOfC qg sg s.heap.objs.size g cdg :: X.stack) s1 HZ E scope f c') [] σ HZ { s1 with heap := h1, toks := s1.toks + ([(a0, Value.int d tk0)] : List (PySem.Str × Value)).length } :=
        lam_begin1 J L J1.env0 hr.hd J1.base hns kp
      refine PySem.W.kla_codeExpr (wpAny_mono ((hbody _ _ s1 HZ (hr.deeper _)).run [] _ _ HZ Q J2 ht) (fun v s' ⟨w', H', J3, rv, q⟩ => ?_) fun e s' hq => hq)
      exact ⟨w', H', J3.os, J3.bare, J3.base, J3.hok, rv, q⟩
  have hx : Passes (L2.CX X.prog X.w) ((cxOf CXg X.prog X.w X.K X.mg X.base Ng qg sg g cdg X.A X.stack s H Eg).tr pn xe) E := passes_call tk hW
  refine wpAny_call (codeAny_mono rc fun r s' hq => ?_)
  cases r with
  | error e => exact hx pinsZ σZ HZ s1 e s' J1 hq
  | ok fl =>
    cases fl with
    | ret u => exact J1.after hq
    | next => exact False.elim hq
    | brk => exact False.elim hq
    | cont => exact False.elim hq
/-- the def err, as it stands -/
structure ErrOk (P : Program) (w : World) (K : PySem.W.Frag) (mg : PySem.Str → Option Value) (base : Heap) (x : PySem.Str) (cs : List (Value × PySem.Str)) (e0 : PySem.Str) : Prop where
  ex : ∃ (a : PySem.Str) (g : Addr) (pg : Arguments) (bg : List Stmt) (sg : Scope) (dV kV doc pm cdv ct oc : Value) (an od : Option Addr) (osl : Array (Option Value)) (Ng : List PySem.Str),
    mg x = some (.ref g) ∧ PySem.W.keepIn K (.ref g) = true ∧ K.lookup g = some ⟨oc, od, .func (PySem.W.fnOf x x pg bg sg dV kV doc pm an cdv ct), osl⟩ ∧ PySem.W.codeIn K cdv x = true ∧ L2.Binds K (PySem.W.fnOf x x pg bg sg dV kV doc pm an cdv ct) [a] [] ∧ FnScope Ng [a] sg ∧ Ng[0]? = some a ∧ Vis sg a ∧
      (a == ("__debug__" : PySem.Str)) = false ∧ (a == ("__classdict__" : PySem.Str)) = false ∧ ∀ (X : Cx), X.prog = P → X.w = w → X.K = K → X.mg = mg → X.base = base → Gives X Ng x sg g cdv bg a (TErr K cs e0)
theorem v_err0 {t : Tx} {W : WX} {x : PySem.Str} {cs : List (Value × PySem.Str)} {nm : Nat → Option PySem.Str} {e0 : PySem.Str} {fb : F} {c P : Addr} {k : Nat} {params : Arguments} {body : Expr} {scope : Scope} {p lpos pos : Pos} (G : ErrOk X.prog X.w X.K X.mg X.base x cs e0) (tells : Tells t cs nm) (TB : LamX.TabB X.base X.mg c P) (hcode : X.env.code = .ref c)
    (hmT : (P, X.env.qual ++ "<lambda>") ∈ t.T) (hu : ∀ p ∈ t.T, p.1 = P → p.2 = X.env.qual ++ "<lambda>") (hr : Room (k + 2) X.A) (L : LamX.LamS X.env.scope scope)
    (hbody : ∀ (A : Around) (outer : List Env) (s : Shared) (H : Hp) (E : XK) (f c' : Addr), Room k (A.deeper (LamX.lamEnv X scope s.heap.objs.size f c')) → PE (LamX.lamCx X A outer s H E scope f c') body (lift t (fun cls d _ H => E cls d H) fb))
    (hK : X.K = t.K := by rfl) (hg : Gl X x := by rfl) (hdef : defaultsOf params X.env = ([], []) := by rfl) (hbind : ∀ (q : PySem.Str) (cl : List (PySem.Str × Addr)) (pm cv ctv : Value), bindArgs (PySem.W.kla_fn "<lambda>" q params body scope cl pm cv ctv) ⟨[], []⟩ = pure [] := by intros; rfl) (hdb : (x == ("__debug__" : PySem.Str)) = false := by decide) :
    PE X (.Call (.Name x p) [.Lambda params body scope lpos] [] pos) (lift t W (errF nm e0 fb)) := by
  obtain ⟨a, g, pg, bg, sg, dV, kV, doc, pm, cdv, ct, oc, an, od, osl, Ng, h1, h2, h3, h4, h5, h6, h7, h8, h9, h10, h11⟩ := G.ex
  exact (LamX.pe_lamcall (T := t.T) (TT := TErr X.K cs e0) (p := p) (lpos := lpos) (pos := pos) hg h1 h2 h3 h4 h5 h6 h7 h8 (h11 X rfl rfl rfl rfl rfl).to TB hcode hmT hu hr L hdef hbind (fun A outer s H E f c' hr2 => hbody A outer s H E f c' hr2) hdb h9 h10).weak fun σ H Q h => err_read hK tells h
theorem v_err1 {t : Tx} {W : WX} {x a0 : PySem.Str} {d : Int} {dj : Nat} {dpos : Pos} {cs : List (Value × PySem.Str)} {nm : Nat → Option PySem.Str} {e0 : PySem.Str} {fb : F} {c P : Addr} {k : Nat} {params : Arguments} {body : Expr} {scope : Scope} {p lpos pos : Pos} (G : ErrOk X.prog X.w X.K X.mg X.base x cs e0) (tells : Tells t cs nm) (TB : LamX.TabB X.base X.mg c P) (hcode : X.env.code = .ref c)
    (hmT : (P, X.env.qual ++ "<lambda>") ∈ t.T) (hu : ∀ p ∈ t.T, p.1 = P → p.2 = X.env.qual ++ "<lambda>") (hr : Room (k + 2) X.A) (L : LamS1 X.N X.env.scope scope a0)
    (hbody : ∀ (A : Around) (outer : List Env) (s : Shared) (H : Hp) (E : XK) (f c' : Addr), Room k (A.deeper (LamX.lamEnv X scope s.heap.objs.size f c')) → PE (LamX.lamCx X A outer s H E scope f c') body (lift t (fun cls d _ H => E cls d H) fb))
    (hd : params.defaults = [.Constant (.int d) dj dpos] := by rfl) (hk0 : params.kw_defaults = [] := by rfl)
    (hbind : ∀ (q : PySem.Str) (cl : List (PySem.Str × Addr)) (T0 : Addr) (tk0 : Tok) (doc pm cdv ctv : Value), ∃ kk, bindArgs (PySem.W.kdv_fn "<lambda>" q params (.expr body) scope cl (.ref T0) doc pm cdv ctv) ⟨[], []⟩ = seqItems? (.ref T0) >>= kk ∧ kk (some #[.int d tk0]) = pure [(a0, .int d tk0)] := by intros; exact ⟨_, rfl, rfl⟩)
    (hK : X.K = t.K := by rfl) (hg : Gl X x := by rfl) (hdb : (x == ("__debug__" : PySem.Str)) = false := by decide) :
    PE X (.Call (.Name x p) [.Lambda params body scope lpos] [] pos) (lift t W (errF nm e0 fb)) := by
  obtain ⟨a, g, pg, bg, sg, dV, kV, doc, pm, cdv, ct, oc, an, od, osl, Ng, h1, h2, h3, h4, h5, h6, h7, h8, h9, h10, h11⟩ := G.ex
  constructor
  intro pins s σ H Q J h0
  obtain ⟨hT, h⟩ := err_read (W := W) hK tells h0
  refine wpAny_Call_Name_kw (ld_glob J hg h1 ?_ hdb)
  refine PySem.W.callWith_K (h₀ := X.base) J.ok.mod.kin h2 ?_ (by rfl) (by rfl)
  show wpAny _ _ (spliced ((false, eval (.Lambda params body scope lpos) X.env) :: backTo pos (starEach [] X.env))) _ _ s
  refine Calls.spliced_cons (lam_made1 J TB hcode hmT hu hT hd hk0 L fun f c' T0 tk0 doc' pm' ctv H1 s' J1 eN T1 hf hT0 hfn hTn hfr hTr hco => ?_)
  refine Calls.spliced_nil ⟨J1.kIn, ?_⟩
  have rc : codeAny (model X.prog X.w) X.A (.call (.ref g) ⟨[.ref f], []⟩) (CR C8.CX0 X.stack X.prog X.w H1 s' Q C8.E0) s' := by
    refine LamX.run_ofS (N := Ng) (ps := [a]) (us := [.ref f]) (vs := [.ref f]) h3 h4 h6 hr J1.env0 (h5 s' [.ref f] J1.kIn rfl) (.cons rfl .nil) rfl fun hr' => ?_
    obtain ⟨t', ht', hq'⟩ := (h11 X rfl rfl rfl rfl rfl).to (q := X.env.qual ++ "<lambda>") f c' s' H1 Q (fun E H' Q' => lift t (fun cls d _ H => E cls d H) fb σ H' Q')
      (fun W pn xe E p1 p2 tk hW => pe_act1 (i := 0) J1 L hf hT0 hfn hTn hfr hTr (fun cdv => hbind _ _ _ _ _ _ _ _) tk hW hr' (fun A outer s H hr2 => hbody A outer s H E f c' hr2) h7 h8 h9 h10) hco (h H1 eN T1)
    exact ⟨t', ht'.nox, hq'⟩
  refine wpAny_call (codeAny_mono rc fun r s2 hq => ?_)
  cases r with
  | error e => exact (show False from hq).elim
  | ok fl =>
    cases fl with
    | ret u => exact J1.after hq
    | next => exact False.elim hq
    | brk => exact False.elim hq
    | cont => exact False.elim hq
end
end Vai
set_option maxRecDepth 100000
set_option maxHeartbeats 4000000
namespace Vai
open PySem L2 PySem.Spec PyProof.Rows
/-! ### lambdas as values -/
section
variable {X : Cx} {pins : List (Addr × Obj)} {σ : L2.St} {H : Hp} {s : Shared}
/-- dV: no defaults, or the tuple's place -/
theorem tail_val {t : Tx} {c P : Addr} {i : LamI} {pos : Pos} {dV : Value} {E : Value → Shared → Prop} {Q : Value → Shared → Prop} (J2 : Inv X pins σ H s) (TB : LamX.TabB X.base X.mg c P) (hcode : X.env.code = .ref c) (hql : t.ql = X.env.qual ++ "<lambda>") (hce : t.cells = X.env.cells)
    (hm : (P, t.ql) ∈ t.T) (hu : ∀ p ∈ t.T, p.1 = P → p.2 = t.ql) (hT : LamX.Tabs t.T H) (hfree : ∀ y ∈ i.scope.names, y.2 = .free → ∃ c, X.env.cells.lookup y.1 = some c)
    (h : ∀ (f c' : Addr) (H1 : Hp) (s' : Shared), Inv X pins σ (upd H1 f (CloO t f i dV c')) s' → H1 f = none → LamX.ExtN H H1 → LamX.Tabs t.T H1 → H1 c' = some (LamX.CodeO c' t.ql) → Q (.ref f) s') :
    wpAny (model X.prog X.w) X.A (makeTail "<lambda>" (X.env.qual ++ "<lambda>") i.params (.expr i.body) i.scope X.env dV .none none pos pos.line) Q E s := by
  rw [← hql]
  obtain ⟨ps, hP, ht, ha⟩ := hT _ hm
  have bP : s.heap.BuiltinsAt X.mg P := TB.bm.keeps J2.bk
  have hP' : s.heap.get? P = some { cls := .none, data := .fields ps } := J2.hok P _ hP
  cases hc : codeAmong pos ps.toList with
  | none =>
    refine PySem.W.kdv_makeTail (mg := X.mg) (c := c) (P := P) (ps := ps) (closure_ok hfree) J2.ok.glob (J2.mod.glob.keeps J2.bk) hcode (TB.code.keeps J2.bk) hP' ht hc TB.gP bP fun c' ctv doc h' tk hx hge hlt hrec htb => ?_
    obtain ⟨c2, oc, vs, tq, e2, hoc, hdd, hv⟩ := hrec
    cases e2
    have nC : H c' = none := J2.hok.fresh hge
    have J3 := LamX.inv_table (t' := tk) (more := #[rawInt pos.line, rawInt pos.col, .ref c']) (q := t.ql) (h' := h') J2 hP (fun b o hb e => hx b o hb e) htb hge ⟨oc, vs, tq, hoc, hdd, hv⟩
    have hE : LamX.ExtN H (upd (upd H P (.tbl (ps ++ #[rawInt pos.line, rawInt pos.col, .ref c']))) c' (LamX.CodeO c' t.ql)) := fun b o e n => by
      rw [upd_ne (ne_of_none e nC), upd_ne (fun z => n ps (Option.some.inj (e.symm.trans (by rw [z]; exact hP))))]
      exact e
    have eL : (ps ++ #[rawInt pos.line, rawInt pos.col, .ref c']).toList = ps.toList ++ [rawInt pos.line, rawInt pos.col, .ref c'] := by simp
    have J4 := J3.laid (a := h'.objs.size) (t' := tk) (o := CloO t h'.objs.size i dV c') (h' := h'.push (PySem.W.kdv_obj "<lambda>" t.ql i.params (.expr i.body) i.scope (cloFrom t.cells i.scope.names []) dV doc ((X.mg "__name__").getD .none) c' ctv)) (fun b u e => Heap.get?_push_of_some _ e) (Nat.le_refl _)
      ⟨⟨doc, _, ctv, Heap.get?_push_size _ rfl⟩, ⟨_, Heap.get?_push_size _ rfl⟩, fun h1 h2 ⟨x, y, z, e⟩ k => ⟨x, y, z, k _ e⟩⟩
    rw [hce] at J4
    refine h h'.objs.size c' _ _ (by rw [hce] at *; exact J4) (J3.hok.fresh (Nat.le_refl _)) hE (fun p hp => ?_) upd_same
    by_cases hb : p.1 = P
    · rw [hu p hp hb, hb]
      refine ⟨_, by rw [upd_ne (ne_of_none hP nC), upd_same], by rw [eL]; exact PySem.TriplesOk_snoc _ _ _ _ ht, fun p' cv hcv => ?_⟩
      rw [eL] at hcv
      rcases LamX.among_app _ ht hcv with z | z
      · obtain ⟨k0, e1, e2⟩ := ha p' cv z
        exact ⟨k0, e1, hE _ _ e2 LamX.codeO_ne⟩
      · exact ⟨c', z, upd_same⟩
    · obtain ⟨ps', a1, a2, a3⟩ := hT p hp
      refine ⟨ps', by rw [upd_ne (ne_of_none a1 nC), upd_ne hb]; exact a1, a2, fun p' cv hcv => ?_⟩
      obtain ⟨k0, e1, e2⟩ := a3 p' cv hcv
      exact ⟨k0, e1, hE _ _ e2 LamX.codeO_ne⟩
  | some cv =>
    obtain ⟨c', e, hco⟩ := ha pos cv hc
    subst e
    refine PySem.W.kdv_makeTailHit (mg := X.mg) (c := c) (P := P) (ps := ps) (closure_ok hfree) J2.ok.glob (J2.mod.glob.keeps J2.bk) hcode (TB.code.keeps J2.bk) hP' ht hc bP fun ctv doc h' tk hx hsz => ?_
    have J3 : Inv X pins σ H { s with heap := h', toks := tk } := J2.kept fun b o e => hx b o e
    have J4 := J3.laid (a := h'.objs.size) (t' := tk) (o := CloO t h'.objs.size i dV c') (h' := h'.push (PySem.W.kdv_obj "<lambda>" t.ql i.params (.expr i.body) i.scope (cloFrom t.cells i.scope.names []) dV doc ((X.mg "__name__").getD .none) c' ctv)) (fun b u e => Heap.get?_push_of_some _ e) (Nat.le_refl _)
      ⟨⟨doc, _, ctv, Heap.get?_push_size _ rfl⟩, ⟨_, Heap.get?_push_size _ rfl⟩, fun h1 h2 ⟨x, y, z, e⟩ k => ⟨x, y, z, k _ e⟩⟩
    refine h h'.objs.size c' H _ (by rw [hce] at *; exact J4) (J3.hok.fresh (Nat.le_refl _)) (LamX.ExtN.refl H) hT hco
end
def lamF0 (id : Nat) : F := fun _ S => some (.ok (.ref (S.length + 1)) (S ++ [.code] ++ [.clo id S.length none]))
def lamF1 (id : Nat) (d : Int) : F := fun _ S => some (.ok (.ref (S.length + 2)) (S ++ [.tup [.int d]] ++ [.code] ++ [.clo id (S.length + 1) (some S.length)]))
/-- one more of what never changes -/
theorem Rel.more {t : Tx} {r : List Addr} {S : List O} {H : Hp} {p : Addr} {o : O} (R : Rel t r S H) (hs : o.isScr = true) (ho : RO t (r ++ [p]) H p o) : Rel t (r ++ [p]) (S ++ [o]) H := by
  refine ⟨fun l m q a b h1 h2 h3 h4 s1 s2 => ?_, by rw [List.length_append, List.length_append, R.len]; rfl, fun l q a h1 h2 => ?_, R.tb⟩
  · have old : ∀ (n : Nat) (b : O), (S ++ [o])[n]? = some b → b.isScr = false → S[n]? = some b := fun n b h s => by
      rcases get_snoc h with h | ⟨_, e⟩
      · exact h
      · rw [e, hs] at s
        cases s
    have oldr : ∀ (n : Nat) (q : Addr) (b : O), (r ++ [p])[n]? = some q → S[n]? = some b → r[n]? = some q := fun n q b h k => by
      rcases get_snoc h with h | ⟨e, _⟩
      · exact h
      · have := (List.getElem?_eq_some_iff.mp k).1
        rw [← R.len] at this
        omega
    have k3 := old l a h3 s1
    have k4 := old m b h4 s2
    exact R.inj l m q a b (oldr l q a h1 k3) (oldr m q b h2 k4) k3 k4 s1 s2
  · rcases get_snoc h1 with h1 | ⟨h1, e1⟩
    · rcases get_snoc h2 with h2 | ⟨h2, _⟩
      · exact (R.ob l q a h1 h2).ext (Ext.snoc r p)
      · have := (List.getElem?_eq_some_iff.mp h1).1
        rw [R.len] at this
        omega
    · rcases get_snoc h2 with h2 | ⟨h2, e2⟩
      · have := (List.getElem?_eq_some_iff.mp h2).1
        rw [← R.len] at this
        omega
      · rw [e1, e2]
        exact ho
section
variable {X : Cx} {t : Tx} {W : WX}
theorem v_lam1 {id : Nat} {d : Int} {dj : Nat} {dpos pos : Pos} {c P : Addr} {a0 : PySem.Str} {params : Arguments} {body : Expr} {scope : Scope} (hid : t.lam id = ⟨params, body, scope⟩) (TB : LamX.TabB X.base X.mg c P) (hcode : X.env.code = .ref c) (hql : t.ql = X.env.qual ++ "<lambda>") (hce : t.cells = X.env.cells)
    (hm : (P, t.ql) ∈ t.T) (hu : ∀ p ∈ t.T, p.1 = P → p.2 = t.ql) (L : LamS1 X.N X.env.scope scope a0) (hd : params.defaults = [.Constant (.int d) dj dpos] := by rfl) (hk0 : params.kw_defaults = [] := by rfl) : PE X (.Lambda params body scope pos) (lift t W (lamF1 id d)) := by
  constructor
  intro pins s σ H Q J hq
  obtain ⟨r, sa, S, x, R, rs, e, p⟩ := hq
  cases e
  refine PySem.W.kdv_lam (by rw [hd]; rfl) hk0 ?_
  rw [hd]
  refine PySem.W.kdv_all1 (wpAny_Constant_int (PySem.W.kdv_all0 ?_))
  rw [makeFunction_eq]
  simp only [List.zip_nil_right, List.filterMap_nil, List.isEmpty_nil, if_true, pure_bind, List.isEmpty_cons, Bool.false_eq_true, if_false]
  refine wpAny_bind (wpAny_newTextTuple ?_)
  have J1 : Inv X pins σ H { s with toks := s.toks + 1 } := J.tok _
  have nT0 : H s.heap.objs.size = none := J.hok.fresh (Nat.le_refl _)
  have J2 := J1.laid (a := s.heap.objs.size) (t' := s.toks + 1) (o := .tup [.int d]) (h' := s.heap.push (PySem.W.kdv_tup [.int d s.toks])) (fun b u z => Heap.get?_push_of_some _ z) (Nat.le_refl _) ⟨by show 1 ≤ sizeLine; rw [sizeLine_eq]; omega, [.int d s.toks], .cons ⟨_, rfl⟩ .nil, ⟨_, Heap.get?_push_size _ rfl, rfl, _, rfl⟩⟩
  have R2 : Rel t (r ++ [s.heap.objs.size]) (S ++ [.tup [.int d]]) (upd H s.heap.objs.size (.tup [.int d])) := R.new nT0 ⟨[.int d], upd_same, .cons rfl .nil⟩
  have hi : t.lam id = ⟨params, body, scope⟩ := hid
  refine tail_val (t := t) (i := ⟨params, body, scope⟩) J2 TB hcode hql hce hm hu R2.tb (L.has J.ok) fun f c' H1 s' J3 nf eN T1 hco => ?_
  have R3 := R2.extN eN T1
  have R4 : Rel t (r ++ [s.heap.objs.size] ++ [c']) (S ++ [.tup [.int d]] ++ [.code]) H1 := R3.more rfl hco
  have g1 : (r ++ [s.heap.objs.size] ++ [c'] ++ [f])[S.length + 1]? = some c' := by
    have := get_snoc_new (r ++ [s.heap.objs.size]) c'
    rw [List.length_append, R.len] at this
    rw [List.getElem?_append_left (by simp [R.len])]
    exact this
  have g0 : (r ++ [s.heap.objs.size] ++ [c'] ++ [f])[S.length]? = some s.heap.objs.size := by
    rw [List.append_assoc, List.append_assoc, List.getElem?_append_right (by rw [R.len]; exact Nat.le_refl _), R.len, Nat.sub_self]
    rfl
  have R5 : Rel t (r ++ [s.heap.objs.size] ++ [c'] ++ [f]) (S ++ [.tup [.int d]] ++ [.code] ++ [.clo id (S.length + 1) (some S.length)]) (upd H1 f (CloO t f ⟨params, body, scope⟩ (.ref s.heap.objs.size) c')) :=
    R4.new nf ⟨c', .ref s.heap.objs.size, g1, ⟨_, g0, rfl⟩, by rw [hi]; exact upd_same⟩
  have g2 : (r ++ [s.heap.objs.size] ++ [c'] ++ [f])[S.length + 2]? = some f := by
    have := get_snoc_new (r ++ [s.heap.objs.size] ++ [c']) f
    rw [List.length_append, List.length_append, R.len] at this
    exact this
  exact ⟨.ref f, _, J3, rfl, p _ _ _ (((Ext.snoc r _).trans (Ext.snoc _ c')).trans (Ext.snoc _ f)) R5 ⟨f, g2, rfl⟩⟩
theorem v_lam0 {id : Nat} {pos : Pos} {c P : Addr} {params : Arguments} {body : Expr} {scope : Scope} (hid : t.lam id = ⟨params, body, scope⟩) (TB : LamX.TabB X.base X.mg c P) (hcode : X.env.code = .ref c) (hql : t.ql = X.env.qual ++ "<lambda>") (hce : t.cells = X.env.cells)
    (hm : (P, t.ql) ∈ t.T) (hu : ∀ p ∈ t.T, p.1 = P → p.2 = t.ql) (L : LamX.LamS X.env.scope scope) (hd : params.defaults = [] := by rfl) (hk0 : params.kw_defaults = [] := by rfl) : PE X (.Lambda params body scope pos) (lift t W (lamF0 id)) := by
  constructor
  intro pins s σ H Q J hq
  obtain ⟨r, sa, S, x, R, rs, e, p⟩ := hq
  cases e
  have hdef : defaultsOf params X.env = ([], []) := by
    rw [defaultsOf_eq, hd, hk0]
    rfl
  refine PySem.W.kla_eval hdef ?_
  rw [makeFunction_eq]
  simp only [List.zip_nil_right, List.filterMap_nil, List.isEmpty_nil, if_true, pure_bind]
  refine tail_val (t := t) (i := ⟨params, body, scope⟩) J TB hcode hql hce hm hu R.tb (L.has J.ok) fun f c' H1 s' J3 nf eN T1 hco => ?_
  have R3 := R.extN eN T1
  have R4 : Rel t (r ++ [c']) (S ++ [.code]) H1 := R3.more rfl hco
  have g1 : (r ++ [c'] ++ [f])[S.length]? = some c' := by
    have := get_snoc_new r c'
    rw [R.len] at this
    rw [List.getElem?_append_left (by simp [R.len])]
    exact this
  have R5 : Rel t (r ++ [c'] ++ [f]) (S ++ [.code] ++ [.clo id S.length none]) (upd H1 f (CloO t f ⟨params, body, scope⟩ .none c')) :=
    R4.new nf ⟨c', .none, g1, rfl, by rw [hid]; exact upd_same⟩
  have g2 : (r ++ [c'] ++ [f])[S.length + 1]? = some f := by
    have := get_snoc_new (r ++ [c']) f
    rw [List.length_append, R.len] at this
    exact this
  exact ⟨.ref f, _, J3, rfl, p _ _ _ ((Ext.snoc r c').trans (Ext.snoc _ f)) R5 ⟨f, g2, rfl⟩⟩
end
end Vai
set_option maxRecDepth 100000
set_option maxHeartbeats 4000000
namespace Vai
open PySem L2 PySem.Spec PyProof.Rows
/-! ### a list comprehension whose tests know of the def around it -/
section
variable {X : Cx}
theorem pe_lcJ {elt tg iter : Expr} {ifs : List Expr} {scope : Scope} {own : List (PySem.Str × Nat)} {pos : Pos} {wi : TI} {g : TG} {tt : TT} {te : TE} (hc : X.calm = true) (hN : X.N.Nodup) (hi : PI X tg iter wi) (ok : BlkOk X.N X.env.scope scope own)
    (hg : ∀ (s : Shared) (H : Hp) (C : Addr) (cl : List (PySem.Str × Addr)) (fp : List Addr), PG (X.blk s H scope (compEnvC scope cl C X.env) fp) tg g) (ht : ∀ (pins : List (Addr × Obj)) (σ : L2.St) (s : Shared) (H : Hp) (C : Addr) (cl : List (PySem.Str × Addr)) (fp : List Addr), Inv X pins σ H s → (∀ b ∈ fp, FpOk X pins H b ∧ b < s.heap.objs.size) → PTs (X.blk s H scope (compEnvC scope cl C X.env) fp) ifs (fun σ2 H2 Q2 => wipe σ2 (own.map (·.2)) = wipe σ (own.map (·.2)) ∧ tt σ2 H2 Q2))
    (he : ∀ (s : Shared) (H : Hp) (C : Addr) (cl : List (PySem.Str × Addr)) (fp : List Addr), PE (X.blk s H scope (compEnvC scope cl C X.env) fp) elt te) (hs : ∀ x, foldedSetIterable iter X.env x = pure x := by intro _; rfl) :
    PE X (.ListComp elt [⟨tg, iter, ifs, 0⟩] scope pos) (tLc wi g tt te (own.map (·.2))) := by
  constructor
  intro pins s σ H Q J0 hq0
  rw [eval_ListComp]
  have captured : ∀ y ∈ scope.names, y.2 = .free → ∃ c, X.env.cells.lookup y.1 = some c := fun y hy e => (ok.free y hy e).elim (fun k => J0.ok.has _ (.inl k)) (fun k => J0.ok.has _ (.inr k))
  refine wpAny_comprehension_free (use := none) rfl hs (closure_ok captured) ok.kind (fun y hy e => by rw [ok.uniq y hy, e]) (thn (hi.run pins s σ H _ J0 hq0) fun _ s1 hx => thn hx fun _ s2 h2 => ?_)
  obtain ⟨it, fp, tn, J, H2, e, I2, T, st2, f2, q⟩ := h2
  subst e
  refine wpAny_newObj_type (newEnv_comp ?_) (by show 0 ≤ sizeLine; decide)
  generalize hD : s2.heap.objs.size = D
  have freeD : H2 D = none := I2.hok.fresh (Nat.le_of_eq hD)
  obtain ⟨W, ⟨m0, w0⟩, turn⟩ := q D freeD
  generalize hs3 : ({ s2 with heap := s2.heap.push { cls := .type "list", data := .seq ([] : List Value).toArray } } : Shared) = s3
  have I3 : Inv X pins σ (upd H2 D (.lst [])) s3 := by
    subst hs3
    refine I2.laid (t' := s2.toks) (fun b o z => Heap.get?_push_of_some _ z) (Nat.le_of_eq hD) ⟨Nat.zero_le _, [], 0, .nil, ?_⟩
    subst hD
    exact Heap.get?_push_size _ rfl
  have h3 : s3.heap = s2.heap.push { cls := .type "list", data := .seq ([] : List Value).toArray } := by subst hs3; rfl
  have below : ∀ b ∈ fp, b < s2.heap.objs.size := fun b hb => by
    obtain ⟨_, z, _⟩ := T.obj _ _ st2 b hb
    exact Heap.lt_size z
  have f3 : ∀ b ∈ fp, FpOk X pins (upd H2 D (.lst [])) b ∧ b < s3.heap.objs.size := fun b hb => by
    have lt := below b hb
    have nD : b ≠ D := by subst hD; exact Nat.ne_of_lt lt
    exact ⟨⟨by rw [upd_ne nD]; exact (f2 b hb).1, (f2 b hb).2⟩, by rw [h3, Heap.size_push]; exact Nat.lt_succ_of_lt lt⟩
  have st3 : tn 0 s3.heap := T.keep _ _ _ st2 fun b _ o z => by rw [h3]; exact Heap.get?_push_of_some _ z
  have I4 := block_start I3 ok hN f3
  have pg := hg s3 (upd H2 D (.lst [])) s3.heap.objs.size (cellsFrom (s3.heap.objs.size + 1) scope.names (cloFrom X.env.cells scope.names [])) fp
  have pt := ht pins σ s3 (upd H2 D (.lst [])) s3.heap.objs.size (cellsFrom (s3.heap.objs.size + 1) scope.names (cloFrom X.env.cells scope.names [])) fp I3 f3
  have pe := he s3 (upd H2 D (.lst [])) s3.heap.objs.size (cellsFrom (s3.heap.objs.size + 1) scope.names (cloFrom X.env.cells scope.names [])) fp
  have none3 : ∀ b ∈ fp, (upd H2 D (.lst [])) b = none := fun b hb => (f3 b hb).1.1
  show codeAny _ _ (.compStart (.ListComp elt [⟨tg, iter, ifs, 0⟩] scope pos) 0 (.ref it) (.ref D) (compEnvC scope (cellsFrom (s3.heap.objs.size + 1) scope.names (cloFrom X.env.cells scope.names [])) s3.heap.objs.size X.env)) (compPost (model X.prog X.w) X.A X.xe none (EP X pins σ Q) (.ref D) s3.heap.objs.size) { s3 with heap := pushCells (s3.heap.push { cls := .type "dict", data := .dict #[] }) scope.names }
  generalize hce : compEnvC scope (cellsFrom (s3.heap.objs.size + 1) scope.names (cloFrom X.env.cells scope.names [])) s3.heap.objs.size X.env = ce at I4 pg pt pe ⊢
  have cL : ce.locals = s3.heap.objs.size := by subst hce; rfl
  generalize hH3 : upd H2 D (.lst []) = H3 at I3 I4 pg pt pe w0 none3 f3
  generalize hs4 : ({ s3 with heap := pushCells (s3.heap.push { cls := .type "dict", data := .dict #[] }) scope.names } : Shared) = s4 at I4 ⊢
  have st4 : tn 0 s4.heap := T.keep _ _ _ st3 fun b _ o z => by subst hs4; exact pushCells_keeps _ _ _ _ (Heap.get?_push_of_some _ z)
  have still : ∀ {τ : L2.St} {G : Hp} {v : Shared}, Inv (X.blk s3 H3 scope ce fp) [] τ G v → (∀ b ∈ fp, G b = none) → ∀ b ∈ fp, FpOk (X.blk s3 H3 scope ce fp) [] G b := fun {τ G v} I' hn b hb =>
    ⟨hn b hb, (I'.ok.exf b hb).1, I'.ok.exfs b hb, .inl hb, fun x c z => (I'.ok.exf b hb).2 x c z, fun p hp => absurd (show p ∈ ([] : List (Addr × Obj)) ++ [] from hp) (by simp)⟩
  have loop : codeAny (model X.prog X.w) X.A (.compLoop (.ListComp elt [⟨tg, iter, ifs, 0⟩] scope pos) 0 (.ref it) (.ref D) ce) (compPost (model X.prog X.w) X.A X.xe none (EP X pins σ Q) (.ref D) s3.heap.objs.size) s4 := by
    refine compLoop_any (fun n v => ∃ i G, Inv (X.blk s3 H3 scope ce fp) [] (wipe σ (own.map (·.2))) G v ∧ tn i v.heap ∧ (∀ b ∈ fp, G b = none) ∧ W i n G) ?_ m0 ⟨0, H3, I4, st4, none3, w0⟩
    rintro n s5 ⟨i, H5, I5, st5, n5, w5⟩
    rcases turn i n H5 w5 with ⟨stop, qq⟩ | ⟨go, Nx, hNx, step⟩
    · refine thnF (T.done (X.blk s3 H3 scope ce fp) rfl rfl rfl hc i [] s5 _ H5 (fun _ _ => False) I5 (still I5 n5) st5 stop) fun r s6 ⟨hr, I6⟩ => ?_
      subst hr
      have I7 : Inv X pins σ H5 s6 := I3.call' (ch := fp) I6.os I6.base I6.hok I6.bare fun b hb => ⟨(f3 b hb).1.2.2.2.1, (f3 b hb).1.2.1, (f3 b hb).1.2.2.2.2.1, (f3 b hb).1.2.2.2.2.2⟩
      have nC : H5 s3.heap.objs.size = none := by
        have z : H5 ce.locals = none := I6.free
        rwa [cL] at z
      obtain ⟨m, hn, _⟩ := I6.loc
      have hn : s6.heap.Ns ce.locals m := hn
      rw [cL] at hn
      refine ⟨m, hn, fun h'' sb => ?_⟩
      obtain ⟨x0, x1, x2, x3, x4, x5⟩ := I3.fpOk (Nat.le_refl _) nC
      exact ⟨.ref D, H5, I7.turned (t' := s6.toks) (fun b o hb z => (sb.2 b hb).trans z) x0 x1 x3 x4 x5, rfl, qq⟩
    · refine thnF (T.item (X.blk s3 H3 scope ce fp) rfl rfl rfl hc i [] s5 _ H5 (fun _ _ => False) I5 (still I5 n5) st5 go) fun r s6 ⟨u, hr, h6⟩ => ?_
      subst hr
      refine thnF h6 fun _ s7 ⟨x, H7, I7, r7, y7, st7, n7⟩ => ?_
      refine thnF (pg.run _ s7 _ H7 x u _ (I7.pinned (still I7 n7) (T.obj _ _ st7)) r7 (step x H7 y7)) fun _ s8 ⟨σ8, H8, I8, hw8, q8⟩ => ?_
      refine thnF (pt.run _ s8 σ8 H8 _ I8 ⟨hw8, q8⟩) fun b s9 ⟨H9, I9, q9⟩ => ?_
      have fin : ∀ {v : Shared} {G : Hp}, Inv (X.blk s3 H3 scope ce fp) ([] ++ pinsAt fp s7.heap) σ8 G v → Nx G → ∃ m, m < n ∧ ∃ i H', Inv (X.blk s3 H3 scope ce fp) [] (wipe σ (own.map (·.2))) H' v ∧ tn i v.heap ∧ (∀ b ∈ fp, H' b = none) ∧ W i m H' := fun {v G} I' nx => by
        obtain ⟨m', hm, w'⟩ := hNx G nx
        have pinned : ∀ b ∈ fp, ∀ o, s7.heap.get? b = some o → v.heap.get? b = some o ∧ G b = none := fun b hb o z =>
          ⟨(I'.pin (b, o) (List.mem_append_right _ (List.mem_append_right _ (mem_pinsAt hb z)))).1, (I'.pin (b, o) (List.mem_append_right _ (List.mem_append_right _ (mem_pinsAt hb z)))).2.1⟩
        refine ⟨m', hm, i + 1, G, (I'.unpinned (pins := [])).weak (by rw [← hw8, wipe_length]) (fun j y z => ?_), T.keep _ _ _ st7 fun b hb o z => (pinned b hb o z).1, fun b hb => ?_, w'⟩
        · rw [← hw8] at z
          exact (wipe_some z).1
        · obtain ⟨o, z, _⟩ := T.obj _ _ st7 b hb
          exact (pinned b hb o z).2
      cases b with
      | false =>
        simp only [Bool.false_eq_true, if_false] at q9 ⊢
        exact fin I9 q9
      | true =>
        simp only [if_true] at q9 ⊢
        refine thnF (pe.run _ s9 σ8 H9 _ I9 q9) fun z s10 ⟨yv, H10, I10, r10, acc, hD10, few, nx⟩ => ?_
        exact app_ok (X := X.blk s3 H3 scope ce fp) I10 hD10 few r10 fun s11 I11 => fin I11 nx
  exact codeAny_compStart_list loop (T.self X.A 0 _ _ _ st4 loop)
/-! ### a lambda of the store, called -/
/-- how a lambda binds: without a default, or with one int -/
structure LamK (X : Cx) (i : LamI) (d : Bool) : Prop where
  co : i.scope.isCoroutine = false
  gen : i.scope.isGenerator = false
  kind : i.scope.kind = .function
  noCell : ∀ y ∈ i.scope.names, y.2 ≠ .cell
  free : ∀ y ∈ i.scope.names, y.2 = .free → X.env.scope.names.lookup y.1 = some .cell ∨ X.env.scope.names.lookup y.1 = some .free
  b0 : d = false → LamX.LamS X.env.scope i.scope ∧ ∀ (q : PySem.Str) (cl : List (PySem.Str × Addr)) (doc pm cdv ctv : Value), bindArgs (PySem.W.kdv_fn "<lambda>" q i.params (.expr i.body) i.scope cl .none doc pm cdv ctv) ⟨[], []⟩ = pure []
  b1 : d = true → ∃ a0, LamS1 X.N X.env.scope i.scope a0 ∧ ∀ (q : PySem.Str) (cl : List (PySem.Str × Addr)) (T0 : Addr) (n : Int) (tk0 : Tok) (doc pm cdv ctv : Value), ∃ kk, bindArgs (PySem.W.kdv_fn "<lambda>" q i.params (.expr i.body) i.scope cl (.ref T0) doc pm cdv ctv) ⟨[], []⟩ = seqItems? (.ref T0) >>= kk ∧ kk (some #[.int n tk0]) = pure [(a0, .int n tk0)]
def CyO (t : Tx) (f c' : Addr) (i : LamI) (d : Bool) (dV : Value) : Hp → Prop := fun HZ => HZ f = some (CloO t f i dV c') ∧ HZ c' = some (LamX.CodeO c' t.ql) ∧ (d = false → dV = .none) ∧ (d = true → ∃ (T0 : Addr) (n : Int), dV = .ref T0 ∧ HZ T0 = some (.tup [.int n]))
theorem pe_actC {CXg : CXT} {Eg : XK} {Ng : List PySem.Str} {qg : PySem.Str} {sg : Scope} {g f c' : Addr} {cdg dV : Value} {t : Tx} {i : LamI} {d : Bool} {k z : Nat} {a : PySem.Str} {pn : List (Addr × Obj)} {xe : Value → Shared → Prop} {W : WX} {E : XK} {tb : TE} {p1 p2 : Pos} {pins : List (Addr × Obj)} {σ : L2.St} {H : Hp} {s : Shared}
    (J : Inv X pins σ H s) (L : LamK X i d) (hql : t.ql = X.env.qual ++ "<lambda>") (hce : t.cells = X.env.cells)
    (tk : Takes ((cxOf CXg X.prog X.w X.K X.mg X.base Ng qg sg g cdg X.A X.stack s H Eg).tr pn xe) W) (hW : ∀ cls d σ' H', E cls d H' → W cls d σ' H') (hr : Room (k + 1) (X.A.deeper (envOfC qg sg s.heap.objs.size g cdg)))
    (hbody : ∀ (A : Around) (outer : List Env) (s : Shared) (H : Hp), Room k (A.deeper (LamX.lamEnv X i.scope s.heap.objs.size f c')) → PE (LamX.lamCx X A outer s H E i.scope f c') i.body tb)
    (hN : Ng[z]? = some a) (hv : Vis sg a) (hd : (a == ("__debug__" : PySem.Str)) = false := by decide) (hcd : (a == ("__classdict__" : PySem.Str)) = false := by decide) :
    PE ((cxOf CXg X.prog X.w X.K X.mg X.base Ng qg sg g cdg X.A X.stack s H Eg).tr pn xe) (.Call (.Name a p1) [] [] p2)
      (fun σZ HZ Q => σZ[z]? = some (some (.ref f)) ∧ CyO t f c' i d dV HZ ∧ tb σ HZ Q) := by
  constructor
  intro pinsZ sZ σZ HZ Q IZ ⟨hs, ⟨hclo, hc, hd0, hd1⟩, ht⟩
  refine wpAny_Call_Name_kw (thn ((pe_var (pos := p1) (i := z) hN hv hd hcd).run pinsZ sZ σZ HZ (fun v H1 => v = .ref f ∧ H1 = HZ) IZ ⟨.ref f, hs, rfl, rfl⟩) fun u s1 ⟨v, H1, J1, r1, ev, eH⟩ => ?_)
  subst ev
  rw [eH] at J1
  obtain rfl : u = Value.ref f := r1
  obtain ⟨⟨doc, pm, ctv, of1⟩, _, _⟩ := J1.hok f _ hclo
  rw [hql, hce] at of1
  refine PySem.W.callWith_F0 ⟨_, _, _, _, of1⟩ ?_
  rw [hql] at hc
  obtain ⟨⟨oc, vs, tq, hoc, hdc, hvc⟩, _, _⟩ := J1.hok c' _ hc
  have rc : codeAny (model X.prog X.w) (X.A.deeper (envOfC qg sg s.heap.objs.size g cdg)) (.call (.ref f) ⟨[], []⟩) (CR (L2.CX X.prog X.w) (envOfC qg sg s.heap.objs.size g cdg :: X.stack) X.prog X.w HZ s1 Q E) s1 := by
    have go : ∀ (bs : List (PySem.Str × Value)), BindsTo s1 (PySem.W.kdv_fn "<lambda>" (X.env.qual ++ "<lambda>") i.params (.expr i.body) i.scope (cloFrom X.env.cells i.scope.names []) dV doc pm (.ref c') ctv) ⟨[], []⟩ bs → (∀ y ∈ bs, i.scope.names.lookup y.1 = some .local) →
        (∀ h1 : Heap, (∀ b o, s1.heap.get? b = some o → h1.get? b = some o) → h1.Ns s1.heap.objs.size (fun y => bs.reverse.lookup y) → Inv (LamX.lamCx X (X.A.deeper (envOfC qg sg s.heap.objs.size g cdg)) (envOfC qg sg s.heap.objs.size g cdg :: X.stack) s1 HZ E i.scope f c') [] σ HZ { s1 with heap := h1, toks := s1.toks + bs.length }) →
        codeAny (model X.prog X.w) (X.A.deeper (envOfC qg sg s.heap.objs.size g cdg)) (.call (.ref f) ⟨[], []⟩) (CR (L2.CX X.prog X.w) (envOfC qg sg s.heap.objs.size g cdg :: X.stack) X.prog X.w HZ s1 Q E) s1 := fun bs bt hl st => by
      refine PySem.W.kla_callFunE hr.depth of1 rfl L.co L.gen rfl ⟨c', oc, vs, tq, rfl, hoc, hdc, hvc⟩ (bt _ _ _ _ ?_)
      refine wpAny_newFunctionEnv (fun y hy => L.noCell y hy) hl (fun h1 hns hsb => ⟨J1.nolimit.fresh _ hsb, ?_⟩) L.kind
      show codeAny _ _ (.expr i.body (LamX.lamEnv X i.scope s1.heap.objs.size f c')) _ _
      have kp : ∀ b o, s1.heap.get? b = some o → h1.get? b = some o := fun b o e => hsb.extBut b o (Nat.ne_of_lt (Heap.lt_size e)) (Heap.get?_push_of_some _ e)
      refine PySem.W.kla_codeExpr (wpAny_mono ((hbody _ _ s1 HZ (hr.deeper _)).run [] _ _ HZ Q (st h1 kp hns) ht) (fun v s' ⟨w', H', J3, rv, q⟩ => ?_) fun e s' hq => hq)
      exact ⟨w', H', J3.os, J3.bare, J3.base, J3.hok, rv, q⟩
    cases d with
    | false =>
      obtain ⟨L0, hb⟩ := L.b0 rfl
      cases hd0 rfl
      exact go [] (.of_eq (hb _ _ _ _ _ _)) (fun y hy => absurd hy (by simp)) fun h1 kp hns => LamX.lam_start2 J L0 J1.env0 hr.hd J1.base hns kp
    | true =>
      obtain ⟨a0, L1, hb⟩ := L.b1 rfl
      obtain ⟨T0, n, e, hT⟩ := hd1 rfl
      cases e
      obtain ⟨_, its, rv, oT, h1, h2, m, h3⟩ := J1.hok T0 _ hT
      cases rv with
      | cons r0 rr =>
        cases rr
        obtain ⟨tk0, rfl⟩ := r0
        obtain ⟨kk, b1, b2⟩ := hb (X.env.qual ++ "<lambda>") (cloFrom X.env.cells i.scope.names []) T0 n tk0 doc pm (.ref c') ctv
        refine go [(a0, .int n tk0)] (.of_defaults rfl h1 h3 b1 b2) (fun y hy => ?_) fun h1 kp hns => lam_begin1 J L1 J1.env0 hr.hd J1.base hns kp
        rw [List.mem_singleton.mp hy]
        exact L1.a0loc
  have hx : Passes (L2.CX X.prog X.w) ((cxOf CXg X.prog X.w X.K X.mg X.base Ng qg sg g cdg X.A X.stack s H Eg).tr pn xe) E := passes_call tk hW
  refine wpAny_call (codeAny_mono rc fun r s' hq => ?_)
  cases r with
  | error e => exact hx pinsZ σZ HZ s1 e s' J1 hq
  | ok fl =>
    cases fl with
    | ret u => exact J1.after hq
    | next => exact False.elim hq
    | brk => exact False.elim hq
    | cont => exact False.elim hq
theorem pr_of_get {α β : Type} {F : α → β → Prop} : ∀ {xs : List α} {ys : List β}, xs.length = ys.length → (∀ (i : Nat) (x : α) (y : β), xs[i]? = some x → ys[i]? = some y → F x y) → Paired F xs ys
  | [], [], _, _ => .nil
  | x :: xs, y :: ys, hl, h => .cons (h 0 x y rfl rfl) (pr_of_get (Nat.succ.inj hl) fun i a b p q => h (i + 1) a b p q)
theorem RS.unwipe {r : List Addr} {sa : Sa} {σ : L2.St} {vs : List Nat} (h : RS r sa (L2.wipe σ vs)) : RS r sa σ := by
  have hl := pr_len h
  rw [wipe_length] at hl
  refine pr_of_get hl fun i a v h1 h2 x e => ?_
  subst e
  obtain ⟨w, g1, g2⟩ := RS.get h h1
  have g3 := (wipe_some g1).1
  rw [h2] at g3
  exact ⟨w, Option.some.inj g3, g2⟩
/-- a lambda of the store, handed to the teller of errors -/
def errcF (nm : Nat → Option PySem.Str) (e0 : PySem.Str) (ks : Nat → Option (Bool × F)) (j : Nat) (vs : List Nat) : F := fun sa S => match sa[j]? with
  | some (some (.ref l)) => (match S[l]? with
    | some (.clo id ci none) => (match ks id, S[ci]? with
      | some (false, fb), some .code => errF nm e0 fb (wipeA sa vs) S
      | _, _ => none)
    | some (.clo id ci (some di)) => (match ks id, S[ci]?, S[di]? with
      | some (true, fb), some .code, some (.tup [.int _]) => errF nm e0 fb (wipeA sa vs) S
      | _, _, _ => none)
    | _ => none)
  | _ => none
def LamsOk (X : Cx) (t : Tx) (k : Nat) (ks : Nat → Option (Bool × F)) : Prop := ∀ id d fb, ks id = some (d, fb) → LamK X (t.lam id) d ∧ ∀ (A : Around) (outer : List Env) (s : Shared) (H : Hp) (E : XK) (f c' : Addr), Room k (A.deeper (LamX.lamEnv X (t.lam id).scope s.heap.objs.size f c')) →
  PE (LamX.lamCx X A outer s H E (t.lam id).scope f c') (t.lam id).body (lift t (fun cls d _ H => E cls d H) fb)
/-- what errcF found -/
theorem errc_found {t : Tx} {nm : Nat → Option PySem.Str} {e0 : PySem.Str} {ks : Nat → Option (Bool × F)} {j : Nat} {vs : List Nat} {sa : Sa} {S : List O} {x : R} {r : List Addr} {H : Hp} (R1 : Rel t r S H) (e : errcF nm e0 ks j vs sa S = some x) :
    ∃ l f id d fb dV c', sa[j]? = some (some (.ref l)) ∧ r[l]? = some f ∧ ks id = some (d, fb) ∧ CyO t f c' (t.lam id) d dV H ∧ errF nm e0 fb (wipeA sa vs) S = some x := by
  have at_ : ∀ {l : Nat} {o : O}, S[l]? = some o → ∃ p, r[l]? = some p ∧ RO t r H p o := fun {l o} h => by
    have hl : l < r.length := by rw [R1.len]; exact (List.getElem?_eq_some_iff.mp h).1
    exact ⟨r[l], List.getElem?_eq_getElem hl, R1.ob l _ o (List.getElem?_eq_getElem hl) h⟩
  unfold errcF at e
  split at e
  · rename_i l hl
    split at e
    · rename_i id ci hS
      split at e
      · rename_i fb hk hc
        obtain ⟨f, gf, c', dV, h1, h2, h3⟩ := at_ hS
        obtain ⟨c2, g2, h4⟩ := at_ hc
        rw [h1] at g2
        cases g2
        exact ⟨l, f, id, false, fb, dV, c', hl, gf, hk, ⟨h3, h4, fun _ => h2, fun z => by cases z⟩, e⟩
      · cases e
    · rename_i id ci di hS
      split at e
      · rename_i fb n hk hc hd
        obtain ⟨f, gf, c', dV, h1, ⟨T0, h2, h5⟩, h3⟩ := at_ hS
        obtain ⟨c2, g2, h4⟩ := at_ hc
        obtain ⟨T2, g3, us, h6, h7⟩ := at_ hd
        rw [h1] at g2
        cases g2
        rw [h2] at g3
        cases g3
        cases h7 with
        | cons a b =>
          cases b
          cases a
          exact ⟨l, f, id, true, fb, dV, c', hl, gf, hk, ⟨h3, h4, fun z => by (cases z), fun _ => ⟨T0, n, h5, h6⟩⟩, e⟩
      · cases e
    · cases e
  · cases e
theorem v_errc {t : Tx} {W : WX} {x y : PySem.Str} {cs : List (Value × PySem.Str)} {nm : Nat → Option PySem.Str} {e0 : PySem.Str} {ks : Nat → Option (Bool × F)} {j k : Nat} {vs : List Nat} {p py pos : Pos} {pins : List (Addr × Obj)} {σ : L2.St} {H0 : Hp} {s0 : Shared} {scope : Scope} {cenv : Env} {fp : List Addr}
    (G : ErrOk X.prog X.w X.K X.mg X.base x cs e0) (tells : Tells t cs nm) (hql : t.ql = X.env.qual ++ "<lambda>") (hce : t.cells = X.env.cells) (hr : Room (k + 2) X.A) (LO : LamsOk X t k ks) (I3 : Inv X pins σ H0 s0) (f3 : ∀ b ∈ fp, FpOk X pins H0 b ∧ b < s0.heap.objs.size)
    (hN : X.N[j]? = some y) (hv : Vis cenv.scope y) (hK : X.K = t.K) (hg : Gl (X.blk s0 H0 scope cenv fp) x) (hst : ∀ env : Env, starEach [.Name y py] env = [(false, eval (.Name y py) env)]) (hdb : (x == ("__debug__" : PySem.Str)) = false := by decide) (hyd : (y == ("__debug__" : PySem.Str)) = false := by decide) (hyc : (y == ("__classdict__" : PySem.Str)) = false := by decide) :
    PE (X.blk s0 H0 scope cenv fp) (.Call (.Name x p) [.Name y py] [] pos) (fun σ2 H2 Q2 => wipe σ2 vs = wipe σ vs ∧ lift t W (errcF nm e0 ks j vs) σ2 H2 Q2) := by
  obtain ⟨a, g, pg, bg, sg, dV0, kV, doc0, pm0, cdv, ct, oc, an, od, osl, Ng, h1, h2, h3, h4, h5, h6, h7, h8, h9, h10, h11⟩ := G.ex
  constructor
  intro pins' s σ2 H Q J' ⟨hw, r, sa, S, xx, RR, rs, e, post⟩
  obtain ⟨l, f, id, d, fb, dV, c', hj, hf, hk, cy, e2⟩ := errc_found RR e
  obtain ⟨LK, hbody⟩ := LO id d fb hk
  obtain ⟨v, hv1, hv2⟩ := rs.get hj
  obtain ⟨f2, hf2, rfl⟩ := hv2
  rw [hf] at hf2
  cases hf2
  have back : ∀ {H : Hp} {s : Shared}, Inv (X.blk s0 H0 scope cenv fp) pins' σ2 H s → Inv X pins σ H s := fun {H s} I => I3.call' (ch := fp) I.os I.base I.hok I.bare fun b hb => ⟨(f3 b hb).1.2.2.2.1, (f3 b hb).1.2.1, (f3 b hb).1.2.2.2.2.1, (f3 b hb).1.2.2.2.2.2⟩
  have rs2 : RS r (wipeA sa vs) σ := by
    have := rs.wipe vs
    rw [hw] at this
    exact (RS.unwipe (vs := vs) this)
  refine wpAny_Call_Name_kw (ld_glob J' hg h1 ?_ hdb)
  refine PySem.W.callWith_K (h₀ := X.base) J'.ok.mod.kin h2 ?_ (by rfl) (by rfl)
  rw [hst]
  show wpAny _ _ (spliced ((false, eval (.Name y py) _) :: backTo pos [])) _ _ s
  refine Calls.spliced_cons (thn ((pe_var (pos := py) (i := j) (X := X.blk s0 H0 scope cenv fp) hN hv hyd hyc).run pins' s σ2 H (fun v H1 => v = .ref f ∧ H1 = H) J' ⟨.ref f, hv1, rfl, rfl⟩) fun u s' ⟨v, H1, J1, r1, ev, eH⟩ => ?_)
  subst ev
  rw [eH] at J1
  obtain rfl : u = Value.ref f := r1
  refine Calls.spliced_nil ⟨J1.kIn, ?_⟩
  have J2 := back J1
  have rc : codeAny (model X.prog X.w) X.A (.call (.ref g) ⟨[.ref f], []⟩) (CR C8.CX0 X.stack X.prog X.w H s' Q C8.E0) s' := by
    refine LamX.run_ofS (N := Ng) (ps := [a]) (us := [.ref f]) (vs := [.ref f]) h3 h4 h6 hr J2.env0 (h5 s' [.ref f] J2.kIn rfl) (.cons rfl .nil) rfl fun hr' => ?_
    have lf : lift t W (errF nm e0 fb) σ H Q := by
      refine ⟨r, wipeA sa vs, S, xx, RR, rs2, e2, ?_⟩
      cases xx with
      | ok a S' => exact post
      | er c S' =>
        exfalso
        unfold errF at e2
        split at e2
        · cases e2
        · split at e2 <;> cases e2
        · cases e2
    have tt := (err_read hK tells lf).2 H (LamX.ExtN.refl H) RR.tb
    obtain ⟨t', ht', hq'⟩ := h11 X rfl rfl rfl rfl rfl f (CyO t f c' (t.lam id) d dV) s' H Q (fun E H' Q' => lift t (fun cls d _ H => E cls d H) fb σ H' Q')
      (fun W pn xe E p1 p2 tk hW => pe_actC (z := 0) J2 LK hql hce tk hW hr' (fun A outer s H hr2 => hbody A outer s H E f c' hr2) h7 h8 h9 h10) cy tt
    exact ⟨t', ht'.nox, hq'⟩
  refine wpAny_call (codeAny_mono rc fun r s2 hq => ?_)
  cases r with
  | error e => exact (show False from hq).elim
  | ok fl =>
    cases fl with
    | ret u => exact J1.after hq
    | next => exact False.elim hq
    | brk => exact False.elim hq
    | cont => exact False.elim hq
end
end Vai
set_option maxRecDepth 100000
set_option maxHeartbeats 4000000
namespace Vai
open PySem L2 PySem.Spec PyProof.Rows
/-! ### list(range(..)), tuple(range(..)) -/
def rgA (a b : Int) : List A := (List.range (b - a).toNat).map fun i => .int (a + (i : Nat))
def rgOkB (a b : Int) : Bool := decide (0 ≤ a) && decide (a ≤ 16777216) && decide (0 ≤ b) && decide (b ≤ 16777216)
theorem rgOk_by {a b : Int} (h : rgOkB a b = true) : RgOk a b := by
  unfold rgOkB at h
  simp only [Bool.and_eq_true, decide_eq_true_eq] at h
  exact RgOk.of_le (by omega) (by omega) (by omega) (by omega)
theorem pr_rg {r : List Addr} (a b : Int) : Paired (RA r) (rgA a b) (rgV a b) := by
  unfold rgA rgV
  generalize (b - a).toNat = n
  have key : ∀ l : List Nat, Paired (RA r) (l.map fun i => A.int (a + (i : Nat))) (l.map fun i => V.int (a + (i : Nat))) := fun l => by
    induction l with
    | nil => exact .nil
    | cons x l ih => exact .cons rfl ih
  exact key _
def rg1F (mk : List A → O) (fa : F) : F := bnd fa fun a => fun _ S => match a with
  | .int n => if rgOkB 0 n then some (.ok (.ref S.length) (S ++ [mk (rgA 0 n)])) else none
  | _ => none
def rg2F (mk : List A → O) (fa fb : F) : F := bnd fa fun a => bnd fb fun b => fun _ S => match a, b with
  | .int m, .int n => if rgOkB m n then some (.ok (.ref S.length) (S ++ [mk (rgA m n)])) else none
  | _, _ => none
section
variable {X : Cx} {t : Tx} {W : WX}
theorem rg1_ok {mk : List A → O} {u : List V → HO} (hm : ∀ (r : List Addr) (H : Hp) (q : Addr) (a b : Int), RO t r (upd H q (u (rgV a b))) q (mk (rgA a b))) {fa : F} {σ : L2.St} {H : Hp} {Q : VK} (h : lift t W (rg1F mk fa) σ H Q) :
    tRg1 (lift t W fa) σ H fun a b H1 => RgOk a b ∧ ∀ q, H1 q = none → Q (.ref q) (upd H1 q (u (rgV a b))) := step_bnd h fun r S sa a v H1 x R rs ra e p => by
  cases a with
  | int n =>
    cases ra
    dsimp only at e
    split at e
    · rename_i hz
      cases e
      exact ⟨n, rfl, rgOk_by hz, alloc R p fun q => hm _ _ q 0 n⟩
    · cases e
  | _ => cases e
theorem rg2_ok {mk : List A → O} {u : List V → HO} (hm : ∀ (r : List Addr) (H : Hp) (q : Addr) (a b : Int), RO t r (upd H q (u (rgV a b))) q (mk (rgA a b))) {fa fb : F} {σ : L2.St} {H : Hp} {Q : VK} (h : lift t W (rg2F mk fa fb) σ H Q) :
    tRg2 (lift t W fa) (lift t W fb) σ H fun a b H1 => RgOk a b ∧ ∀ q, H1 q = none → Q (.ref q) (upd H1 q (u (rgV a b))) := step_bnd h fun r S sa a v H1 x R rs ra e p =>
  step_go R rs e p fun r2 S2 b w H2 e2 R2 rs2 rb ek p2 => by
    cases a with
    | int m =>
      cases ra
      cases b with
      | int n =>
        cases rb
        dsimp only at ek
        split at ek
        · rename_i hz
          cases ek
          exact ⟨m, n, rfl, rfl, rgOk_by hz, alloc R2 p2 fun q => hm _ _ q m n⟩
        · cases ek
      | _ => cases ek
    | _ => cases ek
theorem ro_lstRg (r : List Addr) (H : Hp) (q : Addr) (a b : Int) : RO t r (upd H q (.lst (rgV a b))) q (.lst (rgA a b)) := ⟨_, upd_same, pr_rg a b⟩
theorem ro_tupRg (r : List Addr) (H : Hp) (q : Addr) (a b : Int) : RO t r (upd H q (.tup (rgV a b))) q (.tup (rgA a b)) := ⟨_, upd_same, pr_rg a b⟩
theorem v_lstRg1 {a : Expr} {fa : F} {p p2 pos pos2 : Pos} (hm : X.mg "list" = none) (hr : X.mg "range" = none) (ha : PE X a (lift t W fa)) (hc : X.calm = true := by rfl) (hg : Gl X "list" := by rfl) (hg2 : Gl X "range" := by rfl) (na : starEach [a] X.env = (false, eval a X.env) :: starEach [] X.env := by rfl)
    (nb : starEach [.Call (.Name "range" p) [a] [] pos] X.env = (false, eval (.Call (.Name "range" p) [a] [] pos) X.env) :: starEach [] X.env := by rfl) : PE X (.Call (.Name "list" p2) [.Call (.Name "range" p) [a] [] pos] [] pos2) (lift t W (rg1F O.lst fa)) :=
  (pe_listRg hc hg hm (prg_1 hg2 hr ha na) nb).weak fun _ _ _ h => rg1_ok ro_lstRg h
theorem v_tupRg1 {a : Expr} {fa : F} {p p2 pos pos2 : Pos} (hm : X.mg "tuple" = none) (hr : X.mg "range" = none) (ha : PE X a (lift t W fa)) (hc : X.calm = true := by rfl) (hg : Gl X "tuple" := by rfl) (hg2 : Gl X "range" := by rfl) (na : starEach [a] X.env = (false, eval a X.env) :: starEach [] X.env := by rfl)
    (nb : starEach [.Call (.Name "range" p) [a] [] pos] X.env = (false, eval (.Call (.Name "range" p) [a] [] pos) X.env) :: starEach [] X.env := by rfl) : PE X (.Call (.Name "tuple" p2) [.Call (.Name "range" p) [a] [] pos] [] pos2) (lift t W (rg1F O.tup fa)) :=
  (pe_tupRg hc hg hm (prg_1 hg2 hr ha na) nb).weak fun _ _ _ h => rg1_ok ro_tupRg h
theorem v_lstRg2 {a b : Expr} {fa fb : F} {p p2 pos pos2 : Pos} (hm : X.mg "list" = none) (hr : X.mg "range" = none) (ha : PE X a (lift t W fa)) (hb : PE X b (lift t W fb)) (hc : X.calm = true := by rfl) (hg : Gl X "list" := by rfl) (hg2 : Gl X "range" := by rfl) (na : starEach [a, b] X.env = (false, eval a X.env) :: starEach [b] X.env := by rfl) (nc : starEach [b] X.env = (false, eval b X.env) :: starEach [] X.env := by rfl)
    (nb : starEach [.Call (.Name "range" p) [a, b] [] pos] X.env = (false, eval (.Call (.Name "range" p) [a, b] [] pos) X.env) :: starEach [] X.env := by rfl) : PE X (.Call (.Name "list" p2) [.Call (.Name "range" p) [a, b] [] pos] [] pos2) (lift t W (rg2F O.lst fa fb)) :=
  (pe_listRg hc hg hm (prg_2 hg2 hr ha hb na nc (by rw [nc]; rfl)) nb).weak fun _ _ _ h => rg2_ok ro_lstRg h
theorem v_tupRg2 {a b : Expr} {fa fb : F} {p p2 pos pos2 : Pos} (hm : X.mg "tuple" = none) (hr : X.mg "range" = none) (ha : PE X a (lift t W fa)) (hb : PE X b (lift t W fb)) (hc : X.calm = true := by rfl) (hg : Gl X "tuple" := by rfl) (hg2 : Gl X "range" := by rfl) (na : starEach [a, b] X.env = (false, eval a X.env) :: starEach [b] X.env := by rfl) (nc : starEach [b] X.env = (false, eval b X.env) :: starEach [] X.env := by rfl)
    (nb : starEach [.Call (.Name "range" p) [a, b] [] pos] X.env = (false, eval (.Call (.Name "range" p) [a, b] [] pos) X.env) :: starEach [] X.env := by rfl) : PE X (.Call (.Name "tuple" p2) [.Call (.Name "range" p) [a, b] [] pos] [] pos2) (lift t W (rg2F O.tup fa fb)) :=
  (pe_tupRg hc hg hm (prg_2 hg2 hr ha hb na nc (by rw [nc]; rfl)) nb).weak fun _ _ _ h => rg2_ok ro_tupRg h
end
end Vai
set_option maxRecDepth 100000
set_option maxHeartbeats 4000000
namespace Vai
open PySem L2
/-! ### what is left behind may be forgotten -/
def stR : R → List O
  | .ok _ S => S
  | .er _ S => S
def stL : RL → List O
  | .ok _ S => S
  | .er _ S => S
def stI : RI → List O
  | .ok _ S => S
  | .er _ S => S
def stF : RF → List O
  | .nx _ S => S
  | .rt _ S => S
  | .bk _ S => S
  | .ct _ S => S
  | .er _ _ S => S
def PreF (f : F) : Prop := ∀ sa S x, f sa S = some x → S <+: stR x
def PreL (f : FL) : Prop := ∀ sa S x, f sa S = some x → S <+: stL x
def PreI (f : FI) : Prop := ∀ sa S x, f sa S = some x → S <+: stI x
def PreS (f : FS) : Prop := ∀ sa S x, f sa S = some x → S <+: stF x
def PreD (f : FD) : Prop := ∀ as S x, f as S = some x → S <+: stR x
def PreT (f : TF) : Prop := ∀ a sa S z, f a sa S = some z → S <+: z.2
def PreTs (f : TFs) : Prop := ∀ as sa S z, f as sa S = some z → S <+: z.2
def Pre1 (g : G1) : Prop := ∀ a S z, g a S = some z → S <+: z.2
def Pre2 (g : G2) : Prop := ∀ a b S z, g a b S = some z → S <+: z.2
def PreN (g : GN) : Prop := ∀ as S z, g as S = some z → S <+: z.2
theorem pf0 (S : List O) : S <+: S := List.prefix_rfl
theorem pfa (S T : List O) : S <+: S ++ T := List.prefix_append S T
theorem pft {S T U : List O} (a : S <+: T) (b : T <+: U) : S <+: U := a.trans b
theorem pre_set {P S : List O} {d : Nat} {o : O} (h : P <+: S) (hd : P.length ≤ d) : P <+: S.set d o := by
  obtain ⟨G, rfl⟩ := h
  rw [List.set_append_right _ _ hd]
  exact ⟨_, rfl⟩
theorem pre_var {i : Nat} : PreF (varF i) := fun sa S x e => by
  unfold varF at e
  split at e
  · cases e; exact pf0 S
  · cases e
theorem pre_con {a : A} : PreF (conF a) := fun sa S x e => by cases e; exact pf0 S
theorem pre_no : PreF noF := fun sa S x e => by cases e
theorem pre_noS : PreS noS := fun sa S x e => by cases e
theorem pre_bnd {f : F} {k : A → F} (h : PreF f) (hk : ∀ a, PreF (k a)) : PreF (bnd f k) := fun sa S x e => by
  unfold bnd at e
  split at e
  · rename_i a S1 h1
    exact pft (h sa S _ h1) (hk a sa S1 x e)
  · rename_i c S1 h1
    cases e
    exact h sa S _ h1
  · cases e
theorem pre_none : PreF (fun _ _ => none) := fun sa S x e => by cases e
theorem pre_toR {g : List O → Option (A × List O)} (h : ∀ S z, g S = some z → S <+: z.2) : PreF (fun _ S => toR (g S)) := fun sa S x e => by
  obtain ⟨p, h1, rfl⟩ := toR_some e
  exact h S p h1
theorem pre_op {g : G2} {fa fb : F} (hg : Pre2 g) (ha : PreF fa) (hb : PreF fb) : PreF (opF g fa fb) := pre_bnd ha fun a => pre_bnd hb fun b => pre_toR fun S z e => hg a b S z e
theorem pre_un {g : G1} {fa : F} (hg : Pre1 g) (ha : PreF fa) : PreF (unF g fa) := pre_bnd ha fun a => pre_toR fun S z e => hg a S z e
theorem pre_bl {f : Bool → F} (h : ∀ b, PreF (f b)) (a : A) : PreF (match a with | .bl true => f true | .bl false => f false | _ => fun _ _ => none) := by
  cases a with
  | bl b => cases b <;> exact h _
  | _ => exact pre_none
theorem pre_and {fa fb : F} (ha : PreF fa) (hb : PreF fb) : PreF (andF fa fb) := pre_bnd ha fun a => by
  cases a with
  | bl b => cases b <;> first | exact hb | exact pre_con
  | _ => exact pre_none
theorem pre_or {fa fb : F} (ha : PreF fa) (hb : PreF fb) : PreF (orF fa fb) := pre_bnd ha fun a => by
  cases a with
  | bl b => cases b <;> first | exact hb | exact pre_con
  | _ => exact pre_none
theorem pre_not {fa : F} (ha : PreF fa) : PreF (notF fa) := pre_bnd ha fun a => by
  cases a with
  | bl b => exact pre_con
  | _ => exact pre_none
theorem pre_ifF {ft fa fb : F} (h : PreF ft) (ha : PreF fa) (hb : PreF fb) : PreF (ifF ft fa fb) := pre_bnd h fun a => by
  cases a with
  | bl b => cases b <;> first | exact ha | exact hb
  | _ => exact pre_none
theorem pre_ch {g g' : G2} {fa fb fc : F} (hg : Pre2 g) (hg' : Pre2 g') (ha : PreF fa) (hb : PreF fb) (hc : PreF fc) : PreF (chF g g' fa fb fc) :=
  pre_bnd ha fun a => pre_bnd hb fun b => pre_bnd (pre_toR fun S z e => hg a b S z e) fun d => by
    cases d with
    | bl k =>
      cases k
      · exact pre_con
      · exact pre_bnd hc fun c => pre_toR fun S z e => hg' b c S z e
    | _ => exact pre_none
theorem pre_nil : PreL nilF := fun sa S x e => by cases e; exact pf0 S
theorem pre_cons {fa : F} {fl : FL} (ha : PreF fa) (hl : PreL fl) : PreL (consF fa fl) := fun sa S x e => by
  unfold consF at e
  split at e
  · rename_i a S1 h1
    split at e
    · rename_i as S2 h2
      cases e
      exact pft (ha sa S _ h1) (hl sa S1 (.ok as S2) h2)
    · rename_i c S2 h2
      cases e
      exact pft (ha sa S _ h1) (hl sa S1 (.er c S2) h2)
    · cases e
  · rename_i c S1 h1
    cases e
    exact ha sa S _ h1
  · cases e
theorem pre_bndL {f : FL} {k : List A → F} (h : PreL f) (hk : ∀ a, PreF (k a)) : PreF (bndL f k) := fun sa S x e => by
  unfold bndL at e
  split at e
  · rename_i a S1 h1
    exact pft (h sa S _ h1) (hk a sa S1 x e)
  · rename_i c S1 h1
    cases e
    exact h sa S _ h1
  · cases e
theorem pre_new {mk : List A → O} {fl : FL} (h : PreL fl) : PreF (newF mk fl) := pre_bndL h fun as sa S x e => by
  split at e
  · cases e; exact pfa S _
  · cases e
theorem pre_newD : PreF newD := fun sa S x e => by cases e; exact pfa S _
theorem pre_cl {g : GN} {fl : FL} (hg : PreN g) (h : PreL fl) : PreF (clF g fl) := pre_bndL h fun as => pre_toR fun S z e => hg as S z e
theorem pre_call {d : FD} {fl : FL} (hd : PreD d) (h : PreL fl) : PreF (callF d fl) := pre_bndL h fun as sa S x e => hd as S x e
theorem pre_rg1 {mk : List A → O} {fa : F} (h : PreF fa) : PreF (rg1F mk fa) := pre_bnd h fun a sa S x e => by
  split at e
  · split at e
    · cases e; exact pfa S _
    · cases e
  · cases e
theorem pre_rg2 {mk : List A → O} {fa fb : F} (h : PreF fa) (h2 : PreF fb) : PreF (rg2F mk fa fb) := pre_bnd h fun a => pre_bnd h2 fun b sa S x e => by
  split at e
  · split at e
    · cases e; exact pfa S _
    · cases e
  · cases e
theorem pre_lam0 {i : Nat} : PreF (lamF0 i) := fun sa S x e => by
  cases e
  rw [stR, List.append_assoc]
  exact pfa S _
theorem pre_lam1 {i : Nat} {d : Int} : PreF (lamF1 i d) := fun sa S x e => by
  cases e
  rw [stR, List.append_assoc, List.append_assoc]
  exact pfa S _
theorem pre_err {nm : Nat → Option Str} {e0 : Str} {fb : F} (h : PreF fb) : PreF (errF nm e0 fb) := fun sa S x e => by
  unfold errF at e
  split at e
  · rename_i a S1 h1
    have q := h sa S _ h1
    cases e
    exact q
  · rename_i c S1 h1
    split at e
    · have q := h sa S _ h1
      cases e
      exact q
    · cases e
  · cases e
theorem pre_errc {nm : Nat → Option Str} {e0 : Str} {ks : Nat → Option (Bool × F)} {j : Nat} {vs : List Nat} (h : ∀ id d fb, ks id = some (d, fb) → PreF fb) : PreF (errcF nm e0 ks j vs) := fun sa S x e => by
  unfold errcF at e
  split at e
  · split at e
    · split at e
      · rename_i fb hk _
        exact pre_err (h _ _ _ hk) _ _ _ e
      · cases e
    · split at e
      · rename_i fb _ hk _ _
        exact pre_err (h _ _ _ hk) _ _ _ e
      · cases e
    · cases e
  · cases e
theorem pre_seqI {fa : F} (h : PreF fa) : PreI (seqI fa) := fun sa S x e => by
  unfold seqI at e
  split at e
  · rename_i l S1 h1
    split at e <;> first | (cases e; exact h sa S _ h1) | cases e
  · cases e
  · rename_i c S1 h1
    cases e
    exact h sa S _ h1
  · cases e
theorem pre_rg1I {fl : FL} (h : PreL fl) : PreI (rg1I fl) := fun sa S x e => by
  unfold rg1I at e
  split at e
  · rename_i l S1 h1
    split at e <;> first | (cases e; exact h sa S _ h1) | cases e
  · cases e
  · rename_i c S1 h1
    cases e
    exact h sa S _ h1
  · cases e
theorem pre_rg2I {fl : FL} (h : PreL fl) : PreI (rg2I fl) := fun sa S x e => by
  unfold rg2I at e
  split at e
  · rename_i l S1 h1
    split at e <;> first | (cases e; exact h sa S _ h1) | cases e
  · cases e
  · rename_i c S1 h1
    cases e
    exact h sa S _ h1
  · cases e
theorem pre_lcGo {i : Its} {T : TX} {vs : List Nat} {ft fe : F} {d : Nat} {sa : Sa} {P : List O} (ht : PreF ft) (he : PreF fe) (hd : P.length ≤ d) : ∀ (n j : Nat) (S S2 : List O), P <+: S → lcGo i T vs ft fe d sa n j S = some S2 → P <+: S2
  | 0, _, _, _, _, e => by cases e
  | n + 1, j, S, S2, p, e => by
    simp only [lcGo] at e
    split at e
    · cases e
    · cases e; exact p
    · split at e
      · cases e
      · split at e
        · rename_i S3 h3
          have p3 := pft p (ht _ _ _ h3)
          split at e
          · rename_i y S4 h4
            have p4 := pft p3 (he _ _ _ h4)
            split at e
            · split at e
              · exact pre_lcGo ht he hd n (j + 1) _ _ (pre_set p4 hd) e
              · cases e
            · cases e
          · cases e
        · rename_i S3 h3
          exact pre_lcGo ht he hd n (j + 1) _ _ (pft p (ht _ _ _ h3)) e
        · cases e
theorem pre_lc {fi : FI} {T : TX} {vs : List Nat} {ft fe : F} (hi : PreI fi) (ht : PreF ft) (he : PreF fe) : PreF (lcF fi T vs ft fe) := fun sa S x e => by
  unfold lcF at e
  split at e
  · rename_i i S1 h1
    split at e
    · rename_i S2 h2
      cases e
      exact pft (hi sa S _ h1) (pre_lcGo ht he (Nat.le_refl _) _ _ _ _ (pfa S1 _) h2)
    · cases e
  · rename_i c S1 h1
    cases e
    exact hi sa S _ h1
  · cases e
theorem pre_lc2Go {i : Its} {T : TX} {vs : List Nat} {ft : F} {fi1 : FI} {T1 : TX} {vs1 : List Nat} {ft1 fe : F} {d : Nat} {sa : Sa} {P : List O} (ht : PreF ft) (hi1 : PreI fi1) (ht1 : PreF ft1) (he : PreF fe) (hd : P.length ≤ d) : ∀ (n j : Nat) (S S2 : List O), P <+: S → lc2Go i T vs ft fi1 T1 vs1 ft1 fe d sa n j S = some S2 → P <+: S2
  | 0, _, _, _, _, e => by cases e
  | n + 1, j, S, S2, p, e => by
    simp only [lc2Go] at e
    split at e
    · cases e
    · cases e; exact p
    · split at e
      · cases e
      · split at e
        · rename_i S3 h3
          have p3 := pft p (ht _ _ _ h3)
          split at e
          · rename_i y S4 h4
            have p4 := pft p3 (hi1 _ _ _ h4)
            split at e
            · rename_i S5 h5
              exact pre_lc2Go ht hi1 ht1 he hd n (j + 1) _ _ (pre_lcGo ht1 he hd _ _ _ _ p4 h5) e
            · cases e
          · cases e
        · rename_i S3 h3
          exact pre_lc2Go ht hi1 ht1 he hd n (j + 1) _ _ (pft p (ht _ _ _ h3)) e
        · cases e
theorem pre_lc2 {fi : FI} {T : TX} {vs : List Nat} {ft : F} {fi1 : FI} {T1 : TX} {vs1 : List Nat} {ft1 fe : F} (hi : PreI fi) (ht : PreF ft) (hi1 : PreI fi1) (ht1 : PreF ft1) (he : PreF fe) : PreF (lc2F fi T vs ft fi1 T1 vs1 ft1 fe) := fun sa S x e => by
  unfold lc2F at e
  split at e
  · rename_i i S1 h1
    split at e
    · rename_i S2 h2
      cases e
      exact pft (hi sa S _ h1) (pre_lc2Go ht hi1 ht1 he (Nat.le_refl _) _ _ _ _ (pfa S1 _) h2)
    · cases e
  · rename_i c S1 h1
    cases e
    exact hi sa S _ h1
  · cases e
theorem pre_scGo {i : Its} {T : TX} {vs : List Nat} {ft fe : F} {d : Nat} {sa : Sa} {P : List O} (ht : PreF ft) (he : PreF fe) (hd : P.length ≤ d) : ∀ (n j : Nat) (S S2 : List O), P <+: S → scGo i T vs ft fe d sa n j S = some S2 → P <+: S2
  | 0, _, _, _, _, e => by cases e
  | n + 1, j, S, S2, p, e => by
    simp only [scGo] at e
    split at e
    · cases e
    · cases e; exact p
    · split at e
      · cases e
      · split at e
        · rename_i S3 h3
          have p3 := pft p (ht _ _ _ h3)
          split at e
          · rename_i y S4 h4
            have p4 := pft p3 (he _ _ _ h4)
            split at e
            · split at e
              · split at e
                · refine pre_scGo ht he hd n (j + 1) _ _ ?_ e
                  split
                  · exact p4
                  · exact pre_set p4 hd
                · cases e
              · cases e
            · cases e
          · cases e
        · rename_i S3 h3
          exact pre_scGo ht he hd n (j + 1) _ _ (pft p (ht _ _ _ h3)) e
        · cases e
theorem pre_lenSet {fi : FI} {T : TX} {vs : List Nat} {ft fe : F} (hi : PreI fi) (ht : PreF ft) (he : PreF fe) : PreF (lenSetF fi T vs ft fe) := fun sa S x e => by
  unfold lenSetF at e
  split at e
  · rename_i i S1 h1
    split at e
    · rename_i S2 h2
      split at e
      · split at e
        · cases e
          exact pft (hi sa S _ h1) (pre_scGo ht he (Nat.le_refl _) _ _ _ _ (pfa S1 _) h2)
        · cases e
      · cases e
    · cases e
  · rename_i c S1 h1
    cases e
    exact hi sa S _ h1
  · cases e
/-! statements -/
theorem pre_send : PreS endF := fun sa S x e => by cases e; exact pf0 S
theorem pre_raise {c : Nat} : PreS (raiseF c) := fun sa S x e => by cases e; exact pf0 S
theorem pre_seq {f g : FS} (h : PreS f) (k : PreS g) : PreS (seqF f g) := fun sa S x e => by
  unfold seqF at e
  split at e
  · rename_i sa1 S1 h1
    exact pft (h sa S _ h1) (k sa1 S1 x e)
  · exact h sa S x e
theorem pre_ret {fa : F} (h : PreF fa) : PreS (retF fa) := fun sa S x e => by
  unfold retF at e
  split at e
  · rename_i a S1 h1; cases e; exact h sa S _ h1
  · rename_i a S1 h1; cases e; exact h sa S _ h1
  · cases e
theorem pre_exp {fa : F} (h : PreF fa) : PreS (expF fa) := fun sa S x e => by
  unfold expF at e
  split at e
  · rename_i a S1 h1; cases e; exact h sa S _ h1
  · rename_i a S1 h1; cases e; exact h sa S _ h1
  · cases e
theorem pre_cond {fc : F} {f g : FS} (h : PreF fc) (hf : PreS f) (hg : PreS g) : PreS (condF fc f g) := fun sa S x e => by
  unfold condF at e
  split at e
  · rename_i S1 h1; exact pft (h sa S _ h1) (hf sa S1 x e)
  · rename_i S1 h1; exact pft (h sa S _ h1) (hg sa S1 x e)
  · cases e
  · rename_i a S1 h1; cases e; exact h sa S _ h1
  · cases e
theorem pre_nameT {i : Nat} : PreT (nameT i) := fun a sa S z e => by cases e; exact pf0 S
theorem pre_nilT : PreTs nilT := fun as sa S z e => by
  cases as with
  | nil => cases e; exact pf0 S
  | cons _ _ => cases e
theorem pre_consT {f : TF} {g : TFs} (h : PreT f) (k : PreTs g) : PreTs (consT f g) := fun as sa S z e => by
  cases as with
  | nil => cases e
  | cons a r =>
    simp only [consT] at e
    split at e
    · rename_i y h1; exact pft (h a sa S y h1) (k r _ _ z e)
    · cases e
theorem pre_tupT {n : Nat} {g : TFs} (k : PreTs g) : PreT (tupT n g) := fun a sa S z e => by
  unfold tupT at e
  split at e
  · split at e
    · split at e
      · exact k _ _ _ _ e
      · cases e
    · cases e
  · cases e
theorem pre_asg {fa : F} {f : TF} (h : PreF fa) (k : PreT f) : PreS (asgF fa f) := fun sa S x e => by
  unfold asgF at e
  split at e
  · rename_i a S1 h1
    split at e
    · rename_i z h2
      cases e
      exact pft (h sa S _ h1) (k _ _ _ _ h2)
    · cases e
  · rename_i a S1 h1; cases e; exact h sa S _ h1
  · cases e
theorem pre_par {i j : Nat} {fl : FL} (h : PreL fl) : PreS (parF i j fl) := fun sa S x e => by
  unfold parF at e
  split at e
  · rename_i a b S1 h1; cases e; exact h sa S _ h1
  · cases e
  · rename_i a S1 h1; cases e; exact h sa S _ h1
  · cases e
theorem pre_forGo {i : Its} {T : TF} {f : FS} (hT : PreT T) (hf : PreS f) : ∀ (n j : Nat) (sa : Sa) (S : List O) (x : RF), forGo i T f n j sa S = some x → S <+: stF x
  | 0, _, _, _, _, e => by cases e
  | n + 1, j, sa, S, x, e => by
    simp only [forGo] at e
    split at e
    · cases e
    · cases e; exact pf0 S
    · split at e
      · cases e
      · rename_i z h1
        have p1 := hT _ _ _ _ h1
        split at e
        · rename_i sa2 S2 h2; exact pft (pft p1 (hf _ _ _ h2)) (pre_forGo hT hf n (j + 1) _ _ _ e)
        · rename_i sa2 S2 h2; exact pft (pft p1 (hf _ _ _ h2)) (pre_forGo hT hf n (j + 1) _ _ _ e)
        · rename_i sa2 S2 h2; have q := hf _ _ _ h2; cases e; exact pft p1 q
        · exact pft p1 (hf _ _ _ e)
theorem pre_for {fi : FI} {T : TF} {f : FS} (hi : PreI fi) (hT : PreT T) (hf : PreS f) : PreS (forF fi T f) := fun sa S x e => by
  unfold forF at e
  split at e
  · rename_i i S1 h1; exact pft (hi sa S _ h1) (pre_forGo hT hf _ _ _ _ _ e)
  · rename_i a S1 h1; cases e; exact hi sa S _ h1
  · cases e
theorem pre_def {m : Nat} {b : FS} (h : PreS b) : PreD (defF m b) := fun as S x e => by
  unfold defF at e
  split at e
  · rename_i h1; cases e; exact h _ S _ h1
  · rename_i h1; cases e; exact h _ S _ h1
  · rename_i h1; cases e; exact h _ S _ h1
  · cases e
/-! the operators -/
theorem pre_map {α : Type} {o : Option α} {f : α → A} {S : List O} {z : A × List O} (e : o.map (fun x => (f x, S)) = some z) : S <+: z.2 := by
  cases o with
  | none => cases e
  | some x => cases e; exact pf0 S
theorem pre_addG : Pre2 addG := fun a b S z e => by unfold addG at e; (repeat' split at e) <;> first | (cases e; first | exact pf0 _ | exact pfa _ _) | (cases e) | (exact pre_map e)
theorem pre_intG {c f} : Pre2 (intG c f) := fun a b S z e => by unfold intG at e; (repeat' split at e) <;> first | (cases e; first | exact pf0 _ | exact pfa _ _) | (cases e) | (exact pre_map e)
theorem pre_mulG : Pre2 mulG := fun a b S z e => by unfold mulG at e; (repeat' split at e) <;> first | (cases e; first | exact pf0 _ | exact pfa _ _) | (cases e) | (exact pre_map e)
theorem pre_cmpG {f} : Pre2 (cmpG f) := fun a b S z e => by unfold cmpG at e; (repeat' split at e) <;> first | (cases e; first | exact pf0 _ | exact pfa _ _) | (cases e) | (exact pre_map e)
theorem pre_eqG {n} : Pre2 (eqG n) := fun a b S z e => by unfold eqG at e; (repeat' split at e) <;> first | (cases e; first | exact pf0 _ | exact pfa _ _) | (cases e) | (exact pre_map e)
theorem pre_inG {n} : Pre2 (inG n) := fun a b S z e => by unfold inG at e; (repeat' split at e) <;> first | (cases e; first | exact pf0 _ | exact pfa _ _) | (cases e) | (exact pre_map e)
theorem pre_ixG : Pre2 ixG := fun a b S z e => by unfold ixG at e; (repeat' split at e) <;> first | (cases e; first | exact pf0 _ | exact pfa _ _) | (cases e) | (exact pre_map e)
theorem pre_negG : Pre1 negG := fun a S z e => by unfold negG at e; (repeat' split at e) <;> first | (cases e; first | exact pf0 _ | exact pfa _ _) | (cases e) | (exact pre_map e)
theorem pre_lenG : PreN lenG := fun a S z e => by unfold lenG at e; (repeat' split at e) <;> first | (cases e; first | exact pf0 _ | exact pfa _ _) | (cases e) | (exact pre_map e)
theorem pre_isiG : PreN isiG := fun a S z e => by unfold isiG at e; (repeat' split at e) <;> first | (cases e; first | exact pf0 _ | exact pfa _ _) | (cases e) | (exact pre_map e)
theorem pre_twoG {f} : PreN (twoG f) := fun a S z e => by unfold twoG at e; (repeat' split at e) <;> first | (cases e; first | exact pf0 _ | exact pfa _ _) | (cases e) | (exact pre_map e)
theorem pre_absG : PreN absG := fun a S z e => by unfold absG at e; (repeat' split at e) <;> first | (cases e; first | exact pf0 _ | exact pfa _ _) | (cases e) | (exact pre_map e)
theorem pre_intC : PreN intC := fun a S z e => by unfold intC at e; (repeat' split at e) <;> first | (cases e; first | exact pf0 _ | exact pfa _ _) | (cases e) | (exact pre_map e)
theorem pre_allG {f} : PreN (allG f) := fun a S z e => by unfold allG at e; (repeat' split at e) <;> first | (cases e; first | exact pf0 _ | exact pfa _ _) | (cases e) | (exact pre_map e)
theorem pre_tupC : PreN tupC := fun a S z e => by unfold tupC at e; (repeat' split at e) <;> first | (cases e; first | exact pf0 _ | exact pfa _ _) | (cases e) | (exact pre_map e)
theorem pre_lstC : PreN lstC := fun a S z e => by unfold lstC at e; (repeat' split at e) <;> first | (cases e; first | exact pf0 _ | exact pfa _ _) | (cases e) | (exact pre_map e)
end Vai
set_option maxRecDepth 100000
set_option maxHeartbeats 4000000
namespace Vai
open PySem L2
def flatA : A → Bool
  | .ref _ => false
  | _ => true
def trimR (S : List O) : R → R
  | .ok a S' => if flatA a then .ok a S else .ok a S'
  | .er c _ => .er c S
def trimF (f : F) : F := fun sa S => (f sa S).map (trimR S)
def trimD (d : FD) : FD := fun as S => (d as S).map (trimR S)
section
variable {t : Tx} {r q : List Addr} {S G : List O} {H H0 : Hp}
theorem RA.cut {a : A} {v u : V} (h0 : RA r a u) (h : RA (r ++ q) a v) : RA r a v := by
  cases a with
  | ref l =>
    obtain ⟨p0, e0, _⟩ := h0
    obtain ⟨p, e, rfl⟩ := h
    have hl := (List.getElem?_eq_some_iff.mp e0).1
    rw [List.getElem?_append_left hl] at e
    exact ⟨p, e, rfl⟩
  | _ => exact h
theorem RA.flat {r' : List Addr} {a : A} {v : V} (hf : flatA a = true) (h : RA r' a v) : RA r a v := by
  cases a with
  | ref l => cases hf
  | _ => exact h
theorem RAs.cut : ∀ {xs : List A} {vs us : List V}, Paired (RA r) xs us → Paired (RA (r ++ q)) xs vs → Paired (RA r) xs vs
  | _, _, _, .nil, .nil => .nil
  | _, _, _, .cons a b, .cons c d => .cons (RA.cut a c) (RAs.cut b d)
theorem get_cut {l : Nat} {p0 p : Addr} (e0 : r[l]? = some p0) (e : (r ++ q)[l]? = some p) : r[l]? = some p := by
  rw [List.getElem?_append_left (List.getElem?_eq_some_iff.mp e0).1] at e
  exact e
theorem RO.cut {p p0 : Addr} : ∀ {o : O}, RO t r H0 p0 o → RO t (r ++ q) H p o → RO t r H p o
  | .lst _, ⟨us, _, a⟩, ⟨vs, h, b⟩ => ⟨vs, h, RAs.cut a b⟩
  | .tup _, ⟨us, _, a⟩, ⟨vs, h, b⟩ => ⟨vs, h, RAs.cut a b⟩
  | .scr _, _, h => h
  | .code, _, h => h
  | .dic _, ⟨us, _, a⟩, ⟨ws, h, b⟩ => ⟨ws, h, by
    have key : ∀ {ks : List (Key × A)} {us ws : List (Key × V)}, Paired (fun (a : Key × A) (b : Key × V) => a.1 = b.1 ∧ RA r a.2 b.2) ks us → Paired (fun (a : Key × A) (b : Key × V) => a.1 = b.1 ∧ RA (r ++ q) a.2 b.2) ks ws → Paired (fun (a : Key × A) (b : Key × V) => a.1 = b.1 ∧ RA r a.2 b.2) ks ws := by
      intro ks us ws h1 h2
      induction h2 generalizing us with
      | nil => exact .nil
      | cons x y ih =>
        cases h1 with
        | cons u v => exact .cons ⟨x.1, RA.cut u.2 x.2⟩ (ih v)
    exact key a b⟩
  | .set _, ⟨_, L1, _, a, _⟩, ⟨L, L0, h, b, pm⟩ => ⟨L, L0, h, by
    have key : ∀ {es : List (Nat × List Int)} {us ws : List (Addr × List Int)}, Paired (fun (e : Nat × List Int) (q : Addr × List Int) => r[e.1]? = some q.1 ∧ e.2 = q.2) es us → Paired (fun (e : Nat × List Int) (z : Addr × List Int) => (r ++ q)[e.1]? = some z.1 ∧ e.2 = z.2) es ws → Paired (fun (e : Nat × List Int) (q : Addr × List Int) => r[e.1]? = some q.1 ∧ e.2 = q.2) es ws := by
      intro es us ws h1 h2
      induction h2 generalizing us with
      | nil => exact .nil
      | cons x y ih =>
        cases h1 with
        | cons u v => exact .cons ⟨get_cut u.1 x.1, x.2⟩ (ih v)
    exact key a b, pm⟩
  | .clo _ _ none, ⟨_, _, a, _⟩, ⟨c', dV, h1, h2, h3⟩ => ⟨c', dV, get_cut a h1, h2, h3⟩
  | .clo _ _ (some _), ⟨_, _, a, ⟨_, b, _⟩, _⟩, ⟨c', dV, h1, ⟨T0, h2, h4⟩, h3⟩ => ⟨c', dV, get_cut a h1, ⟨T0, get_cut b h2, h4⟩, h3⟩
/-- what was there before stands by itself -/
theorem Rel.cut {r' : List Addr} {S' : List O} (R0 : Rel t r S H0) (ex : Ext r r') (pr : S <+: S') (R : Rel t r' S' H) : Rel t r S H := by
  obtain ⟨q, rfl⟩ := ex
  obtain ⟨G, rfl⟩ := pr
  have gl : ∀ {l : Nat} {p : Addr}, r[l]? = some p → (r ++ q)[l]? = some p := fun {l p} h => by
    rw [List.getElem?_append_left (List.getElem?_eq_some_iff.mp h).1]
    exact h
  have gS : ∀ {l : Nat} {o : O}, S[l]? = some o → (S ++ G)[l]? = some o := fun {l o} h => by
    rw [List.getElem?_append_left (List.getElem?_eq_some_iff.mp h).1]
    exact h
  exact ⟨fun l m p o u h1 h2 h3 h4 s1 s2 => R.inj l m p o u (gl h1) (gl h2) (gS h3) (gS h4) s1 s2, R0.len, fun l p o h1 h2 => (R0.ob l p o h1 h2).cut (R.ob l p o (gl h1) (gS h2)), R.tb⟩
end
section
variable {X : Cx} {t : Tx} {W : WX}
theorem trim_lift {f : F} (hp : PreF f) {σ : St} {H : Hp} {Q : VK} (h : lift t W (trimF f) σ H Q) : lift t W f σ H Q := by
  obtain ⟨r, sa, S, x, R, rs, e, p⟩ := h
  unfold trimF at e
  cases hf : f sa S with
  | none =>
    rw [hf] at e
    cases e
  | some y =>
    rw [hf] at e
    have pr := hp sa S y hf
    refine ⟨r, sa, S, y, R, rs, hf, ?_⟩
    cases y with
    | er c S' =>
      have e : Vai.R.er c S = x := Option.some.inj e
      subst e
      exact fun r' H' ex R' => p r H' (Ext.refl r) (R.cut ex pr R')
    | ok a S' =>
      intro r' H' v ex R' ra
      have e : trimR S (.ok a S') = x := Option.some.inj e
      by_cases hfl : flatA a = true
      · rw [show trimR S (.ok a S') = .ok a S from if_pos hfl] at e
        subst e
        exact p r H' v (Ext.refl r) (R.cut ex pr R') (RA.flat hfl ra)
      · rw [show trimR S (.ok a S') = .ok a S' from if_neg hfl] at e
        subst e
        exact p r' H' v ex R' ra
theorem v_trim {e : Expr} {f : F} (hp : PreF f) (h : PE X e (lift t W f)) : PE X e (lift t W (trimF f)) := h.weak fun _ _ _ q => trim_lift hp q
theorem v_trimT {e : Expr} {f : F} (hp : PreF f) (h : PT X e (liftB t W f)) : PT X e (liftB t W (trimF f)) := h.weak fun _ _ _ q => trim_lift hp q
theorem pre_trim {f : F} (hp : PreF f) : PreF (trimF f) := fun sa S x e => by
  unfold trimF at e
  cases hf : f sa S with
  | none =>
    rw [hf] at e
    cases e
  | some y =>
    rw [hf] at e
    have pr := hp sa S y hf
    have e : trimR S y = x := Option.some.inj e
    subst e
    cases y with
    | er c S' => exact pf0 S
    | ok a S' =>
      by_cases hfl : flatA a = true
      · rw [show trimR S (.ok a S') = .ok a S from if_pos hfl]
        exact pf0 S
      · rw [show trimR S (.ok a S') = .ok a S' from if_neg hfl]
        exact pr
theorem pre_trimD {d : FD} (hp : PreD d) : PreD (trimD d) := fun as S x e => by
  unfold trimD at e
  cases hf : d as S with
  | none =>
    rw [hf] at e
    cases e
  | some y =>
    rw [hf] at e
    have pr := hp as S y hf
    have e : trimR S y = x := Option.some.inj e
    subst e
    cases y with
    | er c S' => exact pf0 S
    | ok a S' =>
      by_cases hfl : flatA a = true
      · rw [show trimR S (.ok a S') = .ok a S from if_pos hfl]
        exact pf0 S
      · rw [show trimR S (.ok a S') = .ok a S' from if_neg hfl]
        exact pr
theorem DefOk.trim {P : Program} {w : World} {K : PySem.W.Frag} {mg : Str → Option Value} {base : Heap} {x : Str} {ps : List Str} {k : Nat} {d : FD} (hp : PreD d) (h : DefOk P w K mg base t x ps k d) : DefOk P w K mg base t x ps k (trimD d) := by
  obtain ⟨f, fd, h1, h2, h3, h4⟩ := h.ex
  refine ⟨f, fd, h1, h2, h3, h4.imp fun vs H Q E ⟨hl, r, as, S, x, R, ra, e, p⟩ => ?_⟩
  unfold trimD at e
  cases hf : d as S with
  | none =>
    rw [hf] at e
    cases e
  | some y =>
    rw [hf] at e
    have pr := hp as S y hf
    refine ⟨hl, r, as, S, y, R, ra, hf, ?_⟩
    cases y with
    | er c S' =>
      have e : Vai.R.er c S = x := Option.some.inj e
      subst e
      exact fun r' H' ex R' => p r H' (Ext.refl r) (R.cut ex pr R')
    | ok a S' =>
      intro r' H' v ex R' ra
      have e : trimR S (.ok a S') = x := Option.some.inj e
      by_cases hfl : flatA a = true
      · rw [show trimR S (.ok a S') = .ok a S from if_pos hfl] at e
        subst e
        exact p r H' v (Ext.refl r) (R.cut ex pr R') (RA.flat hfl ra)
      · rw [show trimR S (.ok a S') = .ok a S' from if_neg hfl] at e
        subst e
        exact p r' H' v ex R' ra
/-- another function of the same promise -/
theorem DefOk.imp {P : Program} {w : World} {K : PySem.W.Frag} {mg : Str → Option Value} {base : Heap} {x : Str} {ps : List Str} {k : Nat} {d d' : FD} (h : DefOk P w K mg base t x ps k d) (hd : ∀ as S x, d' as S = some x → d as S = some x) : DefOk P w K mg base t x ps k d' := by
  obtain ⟨f, fd, h1, h2, h3, h4⟩ := h.ex
  exact ⟨f, fd, h1, h2, h3, h4.imp fun vs H Q E ⟨hl, r, as, S, x, R, ra, e, p⟩ => ⟨hl, r, as, S, x, R, ra, hd as S x e, p⟩⟩
end
/-! ### what is left behind may be left out, and the rest counted anew -/
def AR (sel : List Nat) : A → A → Prop
  | .ref j, b => ∃ i, sel[j]? = some i ∧ b = .ref i
  | a, b => b = a
def OR (sel : List Nat) : O → O → Prop
  | .lst xs, o => ∃ ys, o = .lst ys ∧ Paired (AR sel) xs ys
  | .tup xs, o => ∃ ys, o = .tup ys ∧ Paired (AR sel) xs ys
  | .scr ns, o => o = .scr ns
  | _, _ => False
/-- x2 is x1 with only what sel names -/
def Pull (n : Nat) (S1 S2 : List O) (a1 a2 : A) : Prop := ∃ sel : List Nat, (∀ j, j < n → sel[j]? = some j) ∧ sel.length = S2.length ∧ sel.Nodup ∧ AR sel a2 a1 ∧ ∀ (j i : Nat) (o : O), sel[j]? = some i → S2[j]? = some o → ∃ o', S1[i]? = some o' ∧ OR sel o o'
section
variable {t : Tx} {r r' : List Addr} {S S1 S2 : List O} {H H0 : Hp} {a1 a2 : A} {v : V}
theorem Rel.pull (R0 : Rel t r S H0) (ex : Ext r r') (R : Rel t r' S1 H) (ra : RA r' a1 v) (h : Pull S.length S1 S2 a1 a2) : ∃ r2, Ext r r2 ∧ Rel t r2 S2 H ∧ RA r2 a2 v := by
  obtain ⟨sel, s1, s2, s3, s4, s5⟩ := h
  have inS : ∀ {j i : Nat}, sel[j]? = some i → ∃ p, r'[i]? = some p := fun {j i} e => by
    have hj : j < S2.length := by rw [← s2]; exact (List.getElem?_eq_some_iff.mp e).1
    obtain ⟨o', e', _⟩ := s5 j i _ e (List.getElem?_eq_getElem hj)
    have hi : i < r'.length := by rw [R.len]; exact (List.getElem?_eq_some_iff.mp e').1
    exact ⟨_, List.getElem?_eq_getElem hi⟩
  let r2 : List Addr := sel.map fun i => (r'[i]?).getD 0
  have g2 : ∀ {j i : Nat} {p : Addr}, sel[j]? = some i → r'[i]? = some p → r2[j]? = some p := fun {j i p} e1 e2 => by
    show (sel.map fun i => (r'[i]?).getD 0)[j]? = some p
    rw [List.getElem?_map, e1]
    show some ((r'[i]?).getD 0) = some p
    rw [e2]
    rfl
  have g2i : ∀ {j : Nat} {p : Addr}, r2[j]? = some p → ∃ i, sel[j]? = some i ∧ r'[i]? = some p := fun {j p} e => by
    have e : (sel.map fun i => (r'[i]?).getD 0)[j]? = some p := e
    rw [List.getElem?_map] at e
    cases hs : sel[j]? with
    | none =>
      rw [hs] at e
      cases e
    | some i =>
      rw [hs] at e
      obtain ⟨p', hp⟩ := inS hs
      have e : some ((r'[i]?).getD 0) = some p := e
      rw [hp] at e
      cases e
      exact ⟨i, rfl, hp⟩
  have ar : ∀ {a b : A} {v : V}, AR sel a b → RA r' b v → RA r2 a v := fun {a b v} h1 h2 => by
    cases a with
    | ref j =>
      obtain ⟨i, e, rfl⟩ := h1
      obtain ⟨p, e2, rfl⟩ := h2
      exact ⟨p, g2 e e2, rfl⟩
    | _ =>
      cases h1
      exact h2
  have ars : ∀ {xs ys : List A} {vs : List V}, Paired (AR sel) xs ys → Paired (RA r') ys vs → Paired (RA r2) xs vs := fun {xs ys vs} h1 h2 => by
    induction h1 generalizing vs with
    | nil =>
      cases h2
      exact .nil
    | cons x y ih =>
      cases h2 with
      | cons u w => exact .cons (ar x u) (ih w)
  refine ⟨r2, ?_, ⟨fun l m p o u h1 h2 h3 h4 c1 c2 => ?_, ?_, fun l p o h1 h2 => ?_, R.tb⟩, ar s4 ra⟩
  · obtain ⟨q, rfl⟩ := ex
    refine ⟨r2.drop r.length, ?_⟩
    have hp : r2.take r.length = r := by
      apply List.ext_getElem?
      intro j
      rw [List.getElem?_take]
      split
      · rename_i hj
        have gq : (r ++ q)[j]? = some r[j] := by
          rw [List.getElem?_append_left hj]
          exact List.getElem?_eq_getElem hj
        rw [g2 (s1 j (by rw [← R0.len]; exact hj)) gq]
        exact (List.getElem?_eq_getElem hj).symm
      · rename_i hj
        exact (List.getElem?_eq_none (by omega)).symm
    calc r2 = r2.take r.length ++ r2.drop r.length := (List.take_append_drop _ _).symm
      _ = r ++ r2.drop r.length := by rw [hp]
  · obtain ⟨i, e1, e2⟩ := g2i h1
    obtain ⟨k, e3, e4⟩ := g2i h2
    obtain ⟨o', f1, f2⟩ := s5 l i o e1 h3
    obtain ⟨u', f3, f4⟩ := s5 m k u e3 h4
    have sc : ∀ {o o' : O}, OR sel o o' → o.isScr = false → o'.isScr = false := fun {o o'} h1 h2 => by
      cases o with
      | lst xs => obtain ⟨ys, rfl, _⟩ := h1; rfl
      | tup xs => cases h2
      | scr ns => cases h2
      | _ => exact h1.elim
    have := R.inj i k p o' u' e2 e4 f1 f3 (sc f2 c1) (sc f4 c2)
    subst this
    have hl := (List.getElem?_eq_some_iff.mp e1).1
    exact (List.getElem?_inj hl s3).mp (e1.trans e3.symm)
  · show (sel.map _).length = _
    rw [List.length_map]
    exact s2
  · obtain ⟨i, e1, e2⟩ := g2i h1
    obtain ⟨o', f1, f2⟩ := s5 l i o e1 h2
    have x := R.ob i p o' e2 f1
    cases o with
    | lst xs =>
      obtain ⟨ys, rfl, g⟩ := f2
      obtain ⟨vs, y1, y2⟩ := x
      exact ⟨vs, y1, ars g y2⟩
    | tup xs =>
      obtain ⟨ys, rfl, g⟩ := f2
      obtain ⟨vs, y1, y2⟩ := x
      exact ⟨vs, y1, ars g y2⟩
    | scr ns =>
      cases f2
      exact x
    | _ => exact f2.elim
theorem DefOk.pull {P : Program} {w : World} {K : PySem.W.Frag} {mg : Str → Option Value} {base : Heap} {x : Str} {ps : List Str} {k : Nat} {d d' : FD} (h : DefOk P w K mg base t x ps k d) (hd : ∀ as S x, d' as S = some x → ∃ a2 S2 a1 S1, x = .ok a2 S2 ∧ d as S = some (.ok a1 S1) ∧ Pull S.length S1 S2 a1 a2) : DefOk P w K mg base t x ps k d' := by
  obtain ⟨f, fd, h1, h2, h3, h4⟩ := h.ex
  refine ⟨f, fd, h1, h2, h3, h4.imp fun vs H Q E ⟨hl, r, as, S, x, R, ra, e, p⟩ => ?_⟩
  obtain ⟨a2, S2, a1, S1, rfl, e1, pl⟩ := hd as S x e
  refine ⟨hl, r, as, S, _, R, ra, e1, fun r' H' v ex R' rv => ?_⟩
  obtain ⟨r2, x1, x2, x3⟩ := R.pull ex R' rv pl
  exact p r2 H' v x1 x2 x3
end
end Vai
set_option maxRecDepth 100000
set_option maxHeartbeats 4000000
namespace Vai
open PySem L2 PySem.Spec PyProof.Rows
/-! ### [y for y in lambdas if err(y) != z] -/
section
variable {X : Cx} {t : Tx} {W : WX}
theorem v_lcE {t : Tx} {W : WX} {x y z e0 : PySem.Str} {cs : List (Value × PySem.Str)} {nm : Nat → Option PySem.Str} {ks : Nat → Option (Bool × F)} {j k zj : Nat} {iter : Expr} {scope : Scope} {p p1 p2 p3 p4 p5 p6 pos : Pos} {fi : FI} (hN : X.N.Nodup) (hu : X.A.units + 64 < cLine) (hi : PI X (.Name y p1) iter (liftI t W fi)) (ok : BlkOk X.N X.env.scope scope [(y, j)])
    (G : ErrOk X.prog X.w X.K X.mg X.base x cs e0) (tells : Tells t cs nm) (hql : t.ql = X.env.qual ++ "<lambda>") (hce : t.cells = X.env.cells) (hr : Room (k + 2) X.A) (LO : LamsOk X t k ks) (hj : X.N[j]? = some y) (hK : X.K = t.K)
    (hg : ∀ (s : Shared) (H : Hp) (C : Addr) (cl : List (PySem.Str × Addr)) (fp : List Addr), PG (X.blk s H scope (compEnvC scope cl C X.env) fp) (.Name y p1) (liftGx t [j] (nameX j)))
    (he : ∀ (s : Shared) (H : Hp) (C : Addr) (cl : List (PySem.Str × Addr)) (fp : List Addr), PE (X.blk s H scope (compEnvC scope cl C X.env) fp) (.Name y p2) (lift t W0 (varF j)))
    (hv : ∀ (C : Addr) (cl : List (PySem.Str × Addr)), Vis (compEnvC scope cl C X.env).scope y) (hgx : ∀ (s : Shared) (H : Hp) (C : Addr) (cl : List (PySem.Str × Addr)) (fp : List Addr), Gl (X.blk s H scope (compEnvC scope cl C X.env) fp) x)
    (hdb : (x == ("__debug__" : PySem.Str)) = false := by decide) (hyd : (y == ("__debug__" : PySem.Str)) = false := by decide) (hyc : (y == ("__classdict__" : PySem.Str)) = false := by decide) (hc : X.calm = true := by rfl) (hs : ∀ x, foldedSetIterable iter X.env x = pure x := by intro _; rfl) :
    PE X (.ListComp (.Name y p2) [⟨.Name y p1, iter, [.Compare (.Call (.Name x p) [.Name y p3] [] p4) [.NotEq] [.Constant (.str z) zj p5] p6], 0⟩] scope pos)
      (lift t W (lcF fi (nameX j) [j] (opF (eqG true) (errcF nm e0 ks j [j]) (conF (.str z))) (varF j))) := by
  refine (pe_lcJ (own := [(y, j)]) (tt := liftB t W0 (opF (eqG true) (errcF nm e0 ks j [j]) (conF (.str z)))) hc hN hi ok hg (fun pins σ s H C cl fp I3 f3 => pts_one ?_) he hs).weak fun _ _ _ h => lc_ok h
  have h1 := v_errc (t := t) (W := W0) (vs := [j]) (py := p3) (p := p) (pos := p4) G tells hql hce hr LO I3 f3 hj (hv C cl) hK (hgx s H C cl fp) (fun _ => rfl) hdb hyd hyc (e0 := e0)
  have hu2 : (X.blk s H scope (compEnvC scope cl C X.env) fp).A.units + 64 < cLine := hu
  have h2 := pt_cmpR (pos := p6) (op_neD hu2) h1 (v_str (t := t) (W := W0) (z := z) (j := zj) (pos := p5)) (nomark _)
  exact h2.weak fun σ2 H2 Q2 h => ⟨h.1, op_ok (s_ne hK) h.2⟩
end
end Vai
set_option maxRecDepth 100000
set_option maxHeartbeats 4000000
namespace Vai
open PySem L2 PySem.Spec PyProof.Rows
/-! ### the law's def: its code object is known -/
structure FunK (K : PySem.W.Frag) (x qual : PySem.Str) (st : Stmt) (f : Addr) (fd : FuncData) (c : Addr) : Prop where
  ex : ∃ (oc : Value) (od : Option Addr) (kV doc pm : Value) (an : Option Addr) (ct : Value) (osl : Array (Option Value)),
    fd = PySem.W.fnOf x qual (defArgs st) (defBody st) (defScope st) .none kV doc pm an (.ref c) ct ∧ K.lookup f = some ⟨oc, od, .func fd, osl⟩ ∧ PySem.W.codeIn K (.ref c) qual = true
theorem FunK.okX {P : Program} {w : World} {K : PySem.W.Frag} {mg : PySem.Str → Option Value} {base : Heap} {x qual : PySem.Str} {st : Stmt} {f c : Addr} {fd : FuncData} {N ps : List PySem.Str} {k : Nat} {sp : Sp} (F : FunK K x qual st f fd c) (S : FnScope N ps (defScope st)) (len : ∀ vs H Q E, sp vs H Q E → vs.length = ps.length)
    (hbody : ∀ (A : Around) (outer : List Env) (s : Shared) (H : Hp) (vs : List V) (Q : VK) (E : XK), Room k (A.deeper (envOfC qual (defScope st) s.heap.objs.size f (.ref c))) → sp vs H Q E →
      ∃ t, PSs (cxOf (L2.CX P w) P w K mg base N qual (defScope st) f (.ref c) A outer s H E) (defBody st) t ∧ t { nx := fun _ H' => Q .non H', rt := Q } (L2.start N vs) H) : FnOk P w K mg base (L2.CX P w) (k + 1) f fd ps sp := by
  obtain ⟨oc, od, kV, doc, pm, an, ct, osl, rfl, lk, hcd⟩ := F.ex
  exact fn_of lk hcd S len fun A outer s H vs Q E hr hsp => hbody A outer s H vs Q E hr hsp
theorem lamK0 {X : Cx} {i : LamI} (L : LamX.LamS X.env.scope i.scope) (hb : ∀ (q : PySem.Str) (cl : List (PySem.Str × Addr)) (doc pm cdv ctv : Value), bindArgs (PySem.W.kdv_fn "<lambda>" q i.params (.expr i.body) i.scope cl .none doc pm cdv ctv) ⟨[], []⟩ = pure []) : LamK X i false :=
  ⟨L.co, L.gen, L.kind, fun y hy => (L.own y hy).2, fun y hy e => L.free y hy e, fun _ => ⟨L, hb⟩, fun z => by cases z⟩
theorem lamK1 {X : Cx} {i : LamI} {a0 : PySem.Str} (L : LamS1 X.N X.env.scope i.scope a0) (hb : ∀ (q : PySem.Str) (cl : List (PySem.Str × Addr)) (T0 : Addr) (n : Int) (tk0 : Tok) (doc pm cdv ctv : Value), ∃ kk, bindArgs (PySem.W.kdv_fn "<lambda>" q i.params (.expr i.body) i.scope cl (.ref T0) doc pm cdv ctv) ⟨[], []⟩ = seqItems? (.ref T0) >>= kk ∧ kk (some #[.int n tk0]) = pure [(a0, .int n tk0)]) : LamK X i true :=
  ⟨L.co, L.gen, L.kind, L.noCell, L.free, fun z => (by cases z), fun _ => ⟨a0, L, hb⟩⟩
/-- the parts of a text in which lambdas stand -/
def lamOf : Expr → LamI
  | .Lambda p b s _ => ⟨p, b, s⟩
  | e => ⟨⟨[], [], none, [], [], none, []⟩, e, default⟩
def nulE : Expr := .Constant .none 0 ⟨0, 0, 0, 0⟩
def lstEs : Expr → List Expr
  | .List es _ => es
  | _ => []
def asgE : Stmt → Expr
  | .Assign _ e _ => e
  | _ => nulE
def ifE : Stmt → Expr
  | .If e _ _ _ => e
  | _ => nulE
def cmpL : Expr → Expr
  | .Compare e _ _ _ => e
  | _ => nulE
def compIt : Expr → Expr
  | .ListComp _ (g :: _) _ _ => g.iter
  | _ => nulE
def binR : Expr → Expr
  | .BinOp _ _ e _ => e
  | _ => nulE
end Vai
set_option maxRecDepth 100000
set_option maxHeartbeats 4000000
namespace Law
open PySem L2 Vai
/-- a statement of the top -/
def top (i : Nat) : Stmt := PySem.Challenge.pw_dartwebs_k01_webs_refused.main.body.getD i (.Pass ⟨0, 0, 0, 0⟩)
structure Txt (K : PySem.W.Frag) (mg : Str → Option Value) (cl : Nat → Addr) : Prop where
  c_MOST_ARROWS : ∃ u, RelV (.int 1000) u ∧ mg "MOST_ARROWS" = some u
  c_MOST_NODES : ∃ u, RelV (.int 6) u ∧ mg "MOST_NODES" = some u
  c_MOST_TURNS : ∃ u, RelV (.int 200) u ∧ mg "MOST_TURNS" = some u
  e_BadArrows : PySem.W.excIn K (cl 4) [.type "ValueError", .type "Exception", .type "BaseException", .type "object"] "ValueError.__new__" = true ∧ mg "BadArrows" = some (.ref (cl 4)) ∧ PySem.W.keepIn K (.ref (cl 4)) = true ∧ PySem.W.subIn K (.ref (cl 4)) (.type "BaseException") = some true ∧ PySem.W.typeIn K (.ref (cl 4)) = some (.type "type")
  e_BadCount : PySem.W.excIn K (cl 3) [.type "ValueError", .type "Exception", .type "BaseException", .type "object"] "ValueError.__new__" = true ∧ mg "BadCount" = some (.ref (cl 3)) ∧ PySem.W.keepIn K (.ref (cl 3)) = true ∧ PySem.W.subIn K (.ref (cl 3)) (.type "BaseException") = some true ∧ PySem.W.typeIn K (.ref (cl 3)) = some (.type "type")
  e_BadOrder : PySem.W.excIn K (cl 7) [.type "ValueError", .type "Exception", .type "BaseException", .type "object"] "ValueError.__new__" = true ∧ mg "BadOrder" = some (.ref (cl 7)) ∧ PySem.W.keepIn K (.ref (cl 7)) = true ∧ PySem.W.subIn K (.ref (cl 7)) (.type "BaseException") = some true ∧ PySem.W.typeIn K (.ref (cl 7)) = some (.type "type")
  e_BadRow : PySem.W.excIn K (cl 6) [.type "ValueError", .type "Exception", .type "BaseException", .type "object"] "ValueError.__new__" = true ∧ mg "BadRow" = some (.ref (cl 6)) ∧ PySem.W.keepIn K (.ref (cl 6)) = true ∧ PySem.W.subIn K (.ref (cl 6)) (.type "BaseException") = some true ∧ PySem.W.typeIn K (.ref (cl 6)) = some (.type "type")
  e_BadWeb : PySem.W.excIn K (cl 1) [.type "ValueError", .type "Exception", .type "BaseException", .type "object"] "ValueError.__new__" = true ∧ mg "BadWeb" = some (.ref (cl 1)) ∧ PySem.W.keepIn K (.ref (cl 1)) = true ∧ PySem.W.subIn K (.ref (cl 1)) (.type "BaseException") = some true ∧ PySem.W.typeIn K (.ref (cl 1)) = some (.type "type")
  e_NoNode : PySem.W.excIn K (cl 2) [.type "ValueError", .type "Exception", .type "BaseException", .type "object"] "ValueError.__new__" = true ∧ mg "NoNode" = some (.ref (cl 2)) ∧ PySem.W.keepIn K (.ref (cl 2)) = true ∧ PySem.W.subIn K (.ref (cl 2)) (.type "BaseException") = some true ∧ PySem.W.typeIn K (.ref (cl 2)) = some (.type "type")
  e_TooGreat : PySem.W.excIn K (cl 5) [.type "ValueError", .type "Exception", .type "BaseException", .type "object"] "ValueError.__new__" = true ∧ mg "TooGreat" = some (.ref (cl 5)) ∧ PySem.W.keepIn K (.ref (cl 5)) = true ∧ PySem.W.subIn K (.ref (cl 5)) (.type "BaseException") = some true ∧ PySem.W.typeIn K (.ref (cl 5)) = some (.type "type")
  n_abs : mg "abs" = none
  n_all : mg "all" = none
  n_bool : mg "bool" = none
  n_int : mg "int" = none
  n_isinstance : mg "isinstance" = none
  n_len : mg "len" = none
  n_list : mg "list" = none
  n_max : mg "max" = none
  n_min : mg "min" = none
  n_range : mg "range" = none
  n_tuple : mg "tuple" = none
abbrev s_is_whole : Stmt := top 12
abbrev N_is_whole : List Str := ["value", "least", "most"]
abbrev P_is_whole : List Str := ["value", "least", "most"]
theorem sc_is_whole : FnScope N_is_whole P_is_whole (defScope s_is_whole) := ⟨rfl, rfl, rfl, by decide +kernel, rfl, by decide +kernel, by decide +kernel⟩
def b_is_whole : FS := (retF (andF (clF isiG (consF (varF 0) (consF (conF (.ty "int")) nilF))) (andF (notF (clF isiG (consF (varF 0) (consF (conF (.ty "bool")) nilF)))) (chF (cmpG fun i j => decide (i ≤ j)) (cmpG fun i j => decide (i ≤ j)) (varF 1) (varF 0) (varF 2)))))
theorem pr_is_whole : PreD (defF 3 b_is_whole) := pre_def (by unfold b_is_whole; repeat' (first | exact pre_var | exact pre_con | exact pre_nil | exact pre_no | exact pre_noS | exact pre_newD | exact pre_lam0 | exact pre_lam1 | exact pre_send | exact pre_raise | exact pre_nameT | exact pre_nilT | exact pre_addG | exact pre_intG | exact pre_mulG | exact pre_cmpG | exact pre_eqG | exact pre_inG | exact pre_ixG | exact pre_negG | exact pre_lenG | exact pre_isiG | exact pre_twoG | exact pre_absG | exact pre_intC | exact pre_allG | exact pre_tupC | exact pre_lstC | refine pre_op ?_ ?_ ?_ | refine pre_un ?_ ?_ | refine pre_and ?_ ?_ | refine pre_or ?_ ?_ | refine pre_not ?_ | refine pre_ifF ?_ ?_ ?_ | refine pre_ch ?_ ?_ ?_ ?_ ?_ | refine pre_cons ?_ ?_ | refine pre_new ?_ | refine pre_cl ?_ ?_ | refine pre_call ?_ ?_ | refine pre_rg1 ?_ | refine pre_rg2 ?_ ?_ | refine pre_err ?_ | refine pre_seqI ?_ | refine pre_rg1I ?_ | refine pre_rg2I ?_ | refine pre_lc ?_ ?_ ?_ | refine pre_lc2 ?_ ?_ ?_ ?_ ?_ | refine pre_lenSet ?_ ?_ ?_ | refine pre_trim ?_ | refine pre_seq ?_ ?_ | refine pre_ret ?_ | refine pre_exp ?_ | refine pre_cond ?_ ?_ ?_ | refine pre_consT ?_ ?_ | refine pre_tupT ?_ | refine pre_asg ?_ ?_ | refine pre_par ?_ | refine pre_for ?_ ?_ ?_ ))
def d_is_whole : FD := trimD (defF 3 b_is_whole)
theorem pd_is_whole : PreD d_is_whole := pre_trimD pr_is_whole
theorem ok_is_whole {P : Program} {w : World} {K : PySem.W.Frag} {mg : Str → Option Value} {base : Heap} {Tb : List (Addr × Str)} {cl : Nat → Addr} {ql : Str} {cells : List (Str × Addr)} {lam : Nat → LamI} {f : Addr} {fd : FuncData} (T : Txt K mg cl) (F : Fun K "is_whole" "is_whole" s_is_whole f fd) (hm : mg "is_whole" = some (.ref f)) (B : Binds K fd P_is_whole [])  : DefOk P w K mg base (Tx.mk P w K Tb cl ql cells lam) "is_whole" P_is_whole 1 d_is_whole :=
  DefOk.trim pr_is_whole <| def_ok F hm B sc_is_whole fun cdv A outer s H E hr => by
    have hu := hr.units
    exact (v_s1 (v_ret (v_and (v_callB isi_U (s_isi rfl) T.n_isinstance (by decide +kernel) (v_cons (v_var 0) (v_cons (v_ty T.n_int PyProof.Rows.boot_int) v_nil))) (v_and (v_not (v_callB isi_U (s_isi rfl) T.n_isinstance (by decide +kernel) (v_cons (v_var 0) (v_cons (v_ty T.n_bool PyProof.Rows.boot_bool) v_nil)))) (v_one (v_chain op_le op_le s_cmp s_cmp (v_var 1) (v_var 0) (v_var 2)))))))
abbrev s_is_node : Stmt := top 13
abbrev N_is_node : List Str := ["n", "value"]
abbrev P_is_node : List Str := ["n", "value"]
theorem sc_is_node : FnScope N_is_node P_is_node (defScope s_is_node) := ⟨rfl, rfl, rfl, by decide +kernel, rfl, by decide +kernel, by decide +kernel⟩
def b_is_node : FS := (retF (callF d_is_whole (consF (varF 1) (consF (conF (.int 0)) (consF (opF subG (varF 0) (conF (.int 1))) nilF)))))
theorem pr_is_node : PreD (defF 2 b_is_node) := pre_def (by unfold b_is_node; repeat' (first | exact pre_var | exact pre_con | exact pre_nil | exact pre_no | exact pre_noS | exact pre_newD | exact pre_lam0 | exact pre_lam1 | exact pre_send | exact pre_raise | exact pre_nameT | exact pre_nilT | exact pre_addG | exact pre_intG | exact pre_mulG | exact pre_cmpG | exact pre_eqG | exact pre_inG | exact pre_ixG | exact pre_negG | exact pre_lenG | exact pre_isiG | exact pre_twoG | exact pre_absG | exact pre_intC | exact pre_allG | exact pre_tupC | exact pre_lstC | refine pre_op ?_ ?_ ?_ | refine pre_un ?_ ?_ | refine pre_and ?_ ?_ | refine pre_or ?_ ?_ | refine pre_not ?_ | refine pre_ifF ?_ ?_ ?_ | refine pre_ch ?_ ?_ ?_ ?_ ?_ | refine pre_cons ?_ ?_ | refine pre_new ?_ | refine pre_cl ?_ ?_ | refine pre_call ?_ ?_ | refine pre_rg1 ?_ | refine pre_rg2 ?_ ?_ | refine pre_err ?_ | refine pre_seqI ?_ | refine pre_rg1I ?_ | refine pre_rg2I ?_ | refine pre_lc ?_ ?_ ?_ | refine pre_lc2 ?_ ?_ ?_ ?_ ?_ | refine pre_lenSet ?_ ?_ ?_ | refine pre_trim ?_ | refine pre_seq ?_ ?_ | refine pre_ret ?_ | refine pre_exp ?_ | refine pre_cond ?_ ?_ ?_ | refine pre_consT ?_ ?_ | refine pre_tupT ?_ | refine pre_asg ?_ ?_ | refine pre_par ?_ | refine pre_for ?_ ?_ ?_ | exact pd_is_whole))
def d_is_node : FD := trimD (defF 2 b_is_node)
theorem pd_is_node : PreD d_is_node := pre_trimD pr_is_node
theorem ok_is_node {P : Program} {w : World} {K : PySem.W.Frag} {mg : Str → Option Value} {base : Heap} {Tb : List (Addr × Str)} {cl : Nat → Addr} {ql : Str} {cells : List (Str × Addr)} {lam : Nat → LamI} {f : Addr} {fd : FuncData} (T : Txt K mg cl) (F : Fun K "is_node" "is_node" s_is_node f fd) (hm : mg "is_node" = some (.ref f)) (B : Binds K fd P_is_node []) (G_is_whole : DefOk P w K mg base (Tx.mk P w K Tb cl ql cells lam) "is_whole" P_is_whole 1 d_is_whole) : DefOk P w K mg base (Tx.mk P w K Tb cl ql cells lam) "is_node" P_is_node 2 d_is_node :=
  DefOk.trim pr_is_node <| def_ok F hm B sc_is_node fun cdv A outer s H E hr => by
    have hu := hr.units
    exact (v_s1 (v_ret (v_callD G_is_whole (hr.mono (by decide)) (takes_of rfl rfl rfl rfl) (v_cons (v_var 1) (v_cons v_int (v_cons (v_op op_sub s_sub (v_var 0) v_int) v_nil))) (ar_cons (ar_cons (ar_cons ar_nil))))))
abbrev s_check_count : Stmt := top 14
abbrev N_check_count : List Str := ["n"]
abbrev P_check_count : List Str := ["n"]
theorem sc_check_count : FnScope N_check_count P_check_count (defScope s_check_count) := ⟨rfl, rfl, rfl, by decide +kernel, rfl, by decide +kernel, by decide +kernel⟩
def b_check_count : FS := (condF (notF (callF d_is_whole (consF (varF 0) (consF (conF (.int 1)) (consF (conF (.int 6)) nilF))))) (raiseF 3) endF)
theorem pr_check_count : PreD (defF 1 b_check_count) := pre_def (by unfold b_check_count; repeat' (first | exact pre_var | exact pre_con | exact pre_nil | exact pre_no | exact pre_noS | exact pre_newD | exact pre_lam0 | exact pre_lam1 | exact pre_send | exact pre_raise | exact pre_nameT | exact pre_nilT | exact pre_addG | exact pre_intG | exact pre_mulG | exact pre_cmpG | exact pre_eqG | exact pre_inG | exact pre_ixG | exact pre_negG | exact pre_lenG | exact pre_isiG | exact pre_twoG | exact pre_absG | exact pre_intC | exact pre_allG | exact pre_tupC | exact pre_lstC | refine pre_op ?_ ?_ ?_ | refine pre_un ?_ ?_ | refine pre_and ?_ ?_ | refine pre_or ?_ ?_ | refine pre_not ?_ | refine pre_ifF ?_ ?_ ?_ | refine pre_ch ?_ ?_ ?_ ?_ ?_ | refine pre_cons ?_ ?_ | refine pre_new ?_ | refine pre_cl ?_ ?_ | refine pre_call ?_ ?_ | refine pre_rg1 ?_ | refine pre_rg2 ?_ ?_ | refine pre_err ?_ | refine pre_seqI ?_ | refine pre_rg1I ?_ | refine pre_rg2I ?_ | refine pre_lc ?_ ?_ ?_ | refine pre_lc2 ?_ ?_ ?_ ?_ ?_ | refine pre_lenSet ?_ ?_ ?_ | refine pre_trim ?_ | refine pre_seq ?_ ?_ | refine pre_ret ?_ | refine pre_exp ?_ | refine pre_cond ?_ ?_ ?_ | refine pre_consT ?_ ?_ | refine pre_tupT ?_ | refine pre_asg ?_ ?_ | refine pre_par ?_ | refine pre_for ?_ ?_ ?_ | exact pd_is_whole | exact pd_is_node))
def d_check_count : FD := trimD (defF 1 b_check_count)
theorem pd_check_count : PreD d_check_count := pre_trimD pr_check_count
theorem ok_check_count {P : Program} {w : World} {K : PySem.W.Frag} {mg : Str → Option Value} {base : Heap} {Tb : List (Addr × Str)} {cl : Nat → Addr} {ql : Str} {cells : List (Str × Addr)} {lam : Nat → LamI} {f : Addr} {fd : FuncData} (T : Txt K mg cl) (F : Fun K "check_count" "check_count" s_check_count f fd) (hm : mg "check_count" = some (.ref f)) (B : Binds K fd P_check_count []) (G_is_whole : DefOk P w K mg base (Tx.mk P w K Tb cl ql cells lam) "is_whole" P_is_whole 1 d_is_whole) : DefOk P w K mg base (Tx.mk P w K Tb cl ql cells lam) "check_count" P_check_count 2 d_check_count :=
  DefOk.trim pr_check_count <| def_ok F hm B sc_check_count fun cdv A outer s H E hr => by
    have hu := hr.units
    exact (v_s1 (v_if (v_notT (v_val (v_callD G_is_whole (hr.mono (by decide)) (takes_of rfl rfl rfl rfl) (v_cons (v_var 0) (v_cons v_int (v_cons (v_gintE T.c_MOST_NODES) v_nil))) (ar_cons (ar_cons (ar_cons ar_nil)))))) (v_s1 (v_raise (c := 3) PySem.F.excBase_ValueError T.e_BadCount.1 T.e_BadCount.2.1 T.e_BadCount.2.2.1 (raises_own T.e_BadCount.2.2.2.1 T.e_BadCount.2.2.2.2) (takes_of rfl rfl rfl rfl))) v_send))
abbrev s_check_node : Stmt := top 15
abbrev N_check_node : List Str := ["n", "x"]
abbrev P_check_node : List Str := ["n", "x"]
theorem sc_check_node : FnScope N_check_node P_check_node (defScope s_check_node) := ⟨rfl, rfl, rfl, by decide +kernel, rfl, by decide +kernel, by decide +kernel⟩
def b_check_node : FS := (condF (notF (callF d_is_node (consF (varF 0) (consF (varF 1) nilF)))) (raiseF 2) endF)
theorem pr_check_node : PreD (defF 2 b_check_node) := pre_def (by unfold b_check_node; repeat' (first | exact pre_var | exact pre_con | exact pre_nil | exact pre_no | exact pre_noS | exact pre_newD | exact pre_lam0 | exact pre_lam1 | exact pre_send | exact pre_raise | exact pre_nameT | exact pre_nilT | exact pre_addG | exact pre_intG | exact pre_mulG | exact pre_cmpG | exact pre_eqG | exact pre_inG | exact pre_ixG | exact pre_negG | exact pre_lenG | exact pre_isiG | exact pre_twoG | exact pre_absG | exact pre_intC | exact pre_allG | exact pre_tupC | exact pre_lstC | refine pre_op ?_ ?_ ?_ | refine pre_un ?_ ?_ | refine pre_and ?_ ?_ | refine pre_or ?_ ?_ | refine pre_not ?_ | refine pre_ifF ?_ ?_ ?_ | refine pre_ch ?_ ?_ ?_ ?_ ?_ | refine pre_cons ?_ ?_ | refine pre_new ?_ | refine pre_cl ?_ ?_ | refine pre_call ?_ ?_ | refine pre_rg1 ?_ | refine pre_rg2 ?_ ?_ | refine pre_err ?_ | refine pre_seqI ?_ | refine pre_rg1I ?_ | refine pre_rg2I ?_ | refine pre_lc ?_ ?_ ?_ | refine pre_lc2 ?_ ?_ ?_ ?_ ?_ | refine pre_lenSet ?_ ?_ ?_ | refine pre_trim ?_ | refine pre_seq ?_ ?_ | refine pre_ret ?_ | refine pre_exp ?_ | refine pre_cond ?_ ?_ ?_ | refine pre_consT ?_ ?_ | refine pre_tupT ?_ | refine pre_asg ?_ ?_ | refine pre_par ?_ | refine pre_for ?_ ?_ ?_ | exact pd_is_whole | exact pd_is_node | exact pd_check_count))
def d_check_node : FD := trimD (defF 2 b_check_node)
theorem pd_check_node : PreD d_check_node := pre_trimD pr_check_node
theorem ok_check_node {P : Program} {w : World} {K : PySem.W.Frag} {mg : Str → Option Value} {base : Heap} {Tb : List (Addr × Str)} {cl : Nat → Addr} {ql : Str} {cells : List (Str × Addr)} {lam : Nat → LamI} {f : Addr} {fd : FuncData} (T : Txt K mg cl) (F : Fun K "check_node" "check_node" s_check_node f fd) (hm : mg "check_node" = some (.ref f)) (B : Binds K fd P_check_node []) (G_is_node : DefOk P w K mg base (Tx.mk P w K Tb cl ql cells lam) "is_node" P_is_node 2 d_is_node) : DefOk P w K mg base (Tx.mk P w K Tb cl ql cells lam) "check_node" P_check_node 3 d_check_node :=
  DefOk.trim pr_check_node <| def_ok F hm B sc_check_node fun cdv A outer s H E hr => by
    have hu := hr.units
    exact (v_s1 (v_if (v_notT (v_val (v_callD G_is_node (hr.mono (by decide)) (takes_of rfl rfl rfl rfl) (v_cons (v_var 0) (v_cons (v_var 1) v_nil)) (ar_cons (ar_cons ar_nil))))) (v_s1 (v_raise (c := 2) PySem.F.excBase_ValueError T.e_NoNode.1 T.e_NoNode.2.1 T.e_NoNode.2.2.1 (raises_own T.e_NoNode.2.2.2.1 T.e_NoNode.2.2.2.2) (takes_of rfl rfl rfl rfl))) v_send))
abbrev s_check_row : Stmt := top 16
abbrev N_check_row : List Str := ["n", "row", "x"]
abbrev P_check_row : List Str := ["n", "row"]
theorem sc_check_row : FnScope N_check_row P_check_row (defScope s_check_row) := ⟨rfl, rfl, rfl, by decide +kernel, rfl, by decide +kernel, by decide +kernel⟩
def b_check_row : FS := (seqF (condF (orF (notF (clF isiG (consF (varF 1) (consF (conF (.ty "tuple")) nilF)))) (opF (cmpG fun i j => decide (i > j)) (clF lenG (consF (varF 1) nilF)) (conF (.int 200)))) (raiseF 6) endF) (condF (trimF (notF (clF (allG fun bs => bs.all id) (consF (lcF (seqI (varF 1)) (nameX 2) [2] (conF (.bl true)) (callF d_is_node (consF (varF 0) (consF (varF 2) nilF)))) nilF)))) (raiseF 6) endF))
theorem pr_check_row : PreD (defF 3 b_check_row) := pre_def (by unfold b_check_row; repeat' (first | exact pre_var | exact pre_con | exact pre_nil | exact pre_no | exact pre_noS | exact pre_newD | exact pre_lam0 | exact pre_lam1 | exact pre_send | exact pre_raise | exact pre_nameT | exact pre_nilT | exact pre_addG | exact pre_intG | exact pre_mulG | exact pre_cmpG | exact pre_eqG | exact pre_inG | exact pre_ixG | exact pre_negG | exact pre_lenG | exact pre_isiG | exact pre_twoG | exact pre_absG | exact pre_intC | exact pre_allG | exact pre_tupC | exact pre_lstC | refine pre_op ?_ ?_ ?_ | refine pre_un ?_ ?_ | refine pre_and ?_ ?_ | refine pre_or ?_ ?_ | refine pre_not ?_ | refine pre_ifF ?_ ?_ ?_ | refine pre_ch ?_ ?_ ?_ ?_ ?_ | refine pre_cons ?_ ?_ | refine pre_new ?_ | refine pre_cl ?_ ?_ | refine pre_call ?_ ?_ | refine pre_rg1 ?_ | refine pre_rg2 ?_ ?_ | refine pre_err ?_ | refine pre_seqI ?_ | refine pre_rg1I ?_ | refine pre_rg2I ?_ | refine pre_lc ?_ ?_ ?_ | refine pre_lc2 ?_ ?_ ?_ ?_ ?_ | refine pre_lenSet ?_ ?_ ?_ | refine pre_trim ?_ | refine pre_seq ?_ ?_ | refine pre_ret ?_ | refine pre_exp ?_ | refine pre_cond ?_ ?_ ?_ | refine pre_consT ?_ ?_ | refine pre_tupT ?_ | refine pre_asg ?_ ?_ | refine pre_par ?_ | refine pre_for ?_ ?_ ?_ | exact pd_is_whole | exact pd_is_node | exact pd_check_count | exact pd_check_node))
def d_check_row : FD := trimD (defF 3 b_check_row)
theorem pd_check_row : PreD d_check_row := pre_trimD pr_check_row
theorem ok_check_row {P : Program} {w : World} {K : PySem.W.Frag} {mg : Str → Option Value} {base : Heap} {Tb : List (Addr × Str)} {cl : Nat → Addr} {ql : Str} {cells : List (Str × Addr)} {lam : Nat → LamI} {f : Addr} {fd : FuncData} (T : Txt K mg cl) (F : Fun K "check_row" "check_row" s_check_row f fd) (hm : mg "check_row" = some (.ref f)) (B : Binds K fd P_check_row []) (G_is_node : DefOk P w K mg base (Tx.mk P w K Tb cl ql cells lam) "is_node" P_is_node 2 d_is_node) : DefOk P w K mg base (Tx.mk P w K Tb cl ql cells lam) "check_row" P_check_row 3 d_check_row :=
  DefOk.trim pr_check_row <| def_ok F hm B sc_check_row fun cdv A outer s H E hr => by
    have hu := hr.units
    exact (v_seq (v_if (L2.PW.pt (v_wor (v_notT (v_val (v_callB isi_U (s_isi rfl) T.n_isinstance (by decide +kernel) (v_cons (v_var 1) (v_cons (v_ty T.n_tuple PyProof.Rows.boot_tuple) v_nil))))) (v_wor1 (v_cmpT op_gt s_cmp (v_callB call_len (s_len rfl) T.n_len (by decide +kernel) (v_cons (v_var 1) v_nil)) (v_gintE T.c_MOST_TURNS))))) (v_s1 (v_raise (c := 6) PySem.F.excBase_ValueError T.e_BadRow.1 T.e_BadRow.2.1 T.e_BadRow.2.2.1 (raises_own T.e_BadRow.2.2.2.1 T.e_BadRow.2.2.2.2) (takes_of rfl rfl rfl rfl))) v_send) (v_s1 (v_if (v_trimT (by repeat' (first | exact pre_var | exact pre_con | exact pre_nil | exact pre_no | exact pre_noS | exact pre_newD | exact pre_lam0 | exact pre_lam1 | exact pre_send | exact pre_raise | exact pre_nameT | exact pre_nilT | exact pre_addG | exact pre_intG | exact pre_mulG | exact pre_cmpG | exact pre_eqG | exact pre_inG | exact pre_ixG | exact pre_negG | exact pre_lenG | exact pre_isiG | exact pre_twoG | exact pre_absG | exact pre_intC | exact pre_allG | exact pre_tupC | exact pre_lstC | refine pre_op ?_ ?_ ?_ | refine pre_un ?_ ?_ | refine pre_and ?_ ?_ | refine pre_or ?_ ?_ | refine pre_not ?_ | refine pre_ifF ?_ ?_ ?_ | refine pre_ch ?_ ?_ ?_ ?_ ?_ | refine pre_cons ?_ ?_ | refine pre_new ?_ | refine pre_cl ?_ ?_ | refine pre_call ?_ ?_ | refine pre_rg1 ?_ | refine pre_rg2 ?_ ?_ | refine pre_err ?_ | refine pre_seqI ?_ | refine pre_rg1I ?_ | refine pre_rg2I ?_ | refine pre_lc ?_ ?_ ?_ | refine pre_lc2 ?_ ?_ ?_ ?_ ?_ | refine pre_lenSet ?_ ?_ ?_ | refine pre_trim ?_ | refine pre_seq ?_ ?_ | refine pre_ret ?_ | refine pre_exp ?_ | refine pre_cond ?_ ?_ ?_ | refine pre_consT ?_ ?_ | refine pre_tupT ?_ | refine pre_asg ?_ ?_ | refine pre_par ?_ | refine pre_for ?_ ?_ ?_ | exact pd_is_whole | exact pd_is_node | exact pd_check_count | exact pd_check_node | exact pd_check_row)) (v_notT (v_val (v_callB (cr_all rfl) (s_all rfl) T.n_all (by decide +kernel) (v_cons (v_lc [("x", 2)] sc_check_row.nd (v_iseq rfl (v_var 1)) (blkOk_by (N := N_check_row) (sc := defScope s_check_row) (by decide +kernel)) (fun _ _ _ _ _ => (v_xname 2 (by decide) sc_check_row.nd)) (fun _ _ _ _ _ => v_ts0) (fun _ _ _ _ _ => (v_callD G_is_node (hr.mono (by decide)) takesW0 (v_cons (v_var 0) (v_cons (v_var 2) v_nil)) (ar_cons (ar_cons ar_nil))))) v_nil))))) (v_s1 (v_raise (c := 6) PySem.F.excBase_ValueError T.e_BadRow.1 T.e_BadRow.2.1 T.e_BadRow.2.2.1 (raises_own T.e_BadRow.2.2.2.1 T.e_BadRow.2.2.2.2) (takes_of rfl rfl rfl rfl))) v_send)))
abbrev s__is_line : Stmt := top 20
abbrev N__is_line : List Str := ["n", "line", "many"]
abbrev P__is_line : List Str := ["n", "line"]
theorem sc__is_line : FnScope N__is_line P__is_line (defScope s__is_line) := ⟨rfl, rfl, rfl, by decide +kernel, rfl, by decide +kernel, by decide +kernel⟩
def b__is_line : FS := (seqF (condF (orF (notF (clF isiG (consF (varF 1) (consF (conF (.ty "tuple")) nilF)))) (opF (eqG true) (clF lenG (consF (varF 1) nilF)) (varF 0))) (retF (conF (.bl false))) endF) (retF (clF (allG fun bs => bs.all id) (consF (lcF (seqI (varF 1)) (nameX 2) [2] (conF (.bl true)) (callF d_is_whole (consF (varF 2) (consF (unF negG (conF (.int 1000))) (consF (conF (.int 1000)) nilF))))) nilF))))
theorem pr__is_line : PreD (defF 3 b__is_line) := pre_def (by unfold b__is_line; repeat' (first | exact pre_var | exact pre_con | exact pre_nil | exact pre_no | exact pre_noS | exact pre_newD | exact pre_lam0 | exact pre_lam1 | exact pre_send | exact pre_raise | exact pre_nameT | exact pre_nilT | exact pre_addG | exact pre_intG | exact pre_mulG | exact pre_cmpG | exact pre_eqG | exact pre_inG | exact pre_ixG | exact pre_negG | exact pre_lenG | exact pre_isiG | exact pre_twoG | exact pre_absG | exact pre_intC | exact pre_allG | exact pre_tupC | exact pre_lstC | refine pre_op ?_ ?_ ?_ | refine pre_un ?_ ?_ | refine pre_and ?_ ?_ | refine pre_or ?_ ?_ | refine pre_not ?_ | refine pre_ifF ?_ ?_ ?_ | refine pre_ch ?_ ?_ ?_ ?_ ?_ | refine pre_cons ?_ ?_ | refine pre_new ?_ | refine pre_cl ?_ ?_ | refine pre_call ?_ ?_ | refine pre_rg1 ?_ | refine pre_rg2 ?_ ?_ | refine pre_err ?_ | refine pre_seqI ?_ | refine pre_rg1I ?_ | refine pre_rg2I ?_ | refine pre_lc ?_ ?_ ?_ | refine pre_lc2 ?_ ?_ ?_ ?_ ?_ | refine pre_lenSet ?_ ?_ ?_ | refine pre_trim ?_ | refine pre_seq ?_ ?_ | refine pre_ret ?_ | refine pre_exp ?_ | refine pre_cond ?_ ?_ ?_ | refine pre_consT ?_ ?_ | refine pre_tupT ?_ | refine pre_asg ?_ ?_ | refine pre_par ?_ | refine pre_for ?_ ?_ ?_ | exact pd_is_whole | exact pd_is_node | exact pd_check_count | exact pd_check_node | exact pd_check_row))
def d__is_line : FD := trimD (defF 3 b__is_line)
theorem pd__is_line : PreD d__is_line := pre_trimD pr__is_line
theorem ok__is_line {P : Program} {w : World} {K : PySem.W.Frag} {mg : Str → Option Value} {base : Heap} {Tb : List (Addr × Str)} {cl : Nat → Addr} {ql : Str} {cells : List (Str × Addr)} {lam : Nat → LamI} {f : Addr} {fd : FuncData} (T : Txt K mg cl) (F : Fun K "_is_line" "_is_line" s__is_line f fd) (hm : mg "_is_line" = some (.ref f)) (B : Binds K fd P__is_line []) (G_is_whole : DefOk P w K mg base (Tx.mk P w K Tb cl ql cells lam) "is_whole" P_is_whole 1 d_is_whole) : DefOk P w K mg base (Tx.mk P w K Tb cl ql cells lam) "_is_line" P__is_line 2 d__is_line :=
  DefOk.trim pr__is_line <| def_ok F hm B sc__is_line fun cdv A outer s H E hr => by
    have hu := hr.units
    exact (v_seq (v_if (L2.PW.pt (v_wor (v_notT (v_val (v_callB isi_U (s_isi rfl) T.n_isinstance (by decide +kernel) (v_cons (v_var 1) (v_cons (v_ty T.n_tuple PyProof.Rows.boot_tuple) v_nil))))) (v_wor1 (v_cmpT (op_neD hu) (s_ne rfl) (v_callB call_len (s_len rfl) T.n_len (by decide +kernel) (v_cons (v_var 1) v_nil)) (v_var 0))))) (v_s1 (v_ret v_bl)) v_send) (v_s1 (v_ret (v_callB (cr_all rfl) (s_all rfl) T.n_all (by decide +kernel) (v_cons (v_lc [("many", 2)] sc__is_line.nd (v_iseq rfl (v_var 1)) (blkOk_by (N := N__is_line) (sc := defScope s__is_line) (by decide +kernel)) (fun _ _ _ _ _ => (v_xname 2 (by decide) sc__is_line.nd)) (fun _ _ _ _ _ => v_ts0) (fun _ _ _ _ _ => (v_callD G_is_whole (hr.mono (by decide)) takesW0 (v_cons (v_var 2) (v_cons (v_neg s_neg (v_gintE T.c_MOST_ARROWS)) (v_cons (v_gintE T.c_MOST_ARROWS) v_nil))) (ar_cons (ar_cons (ar_cons ar_nil)))))) v_nil)))))
abbrev s_is_web : Stmt := top 19
abbrev N_is_web : List Str := ["value", "n", "line", "y", "z"]
abbrev P_is_web : List Str := ["value"]
theorem sc_is_web : FnScope N_is_web P_is_web (defScope s_is_web) := ⟨rfl, rfl, rfl, by decide +kernel, rfl, by decide +kernel, by decide +kernel⟩
def b_is_web : FS := (seqF (condF (orF (notF (clF isiG (consF (varF 0) (consF (conF (.ty "tuple")) nilF)))) (notF (chF (cmpG fun i j => decide (i ≤ j)) (cmpG fun i j => decide (i ≤ j)) (conF (.int 1)) (clF lenG (consF (varF 0) nilF)) (conF (.int 6))))) (retF (conF (.bl false))) endF) (seqF (asgF (clF lenG (consF (varF 0) nilF)) (nameT 1)) (seqF (condF (trimF (notF (clF (allG fun bs => bs.all id) (consF (lcF (seqI (varF 0)) (nameX 2) [2] (conF (.bl true)) (callF d__is_line (consF (varF 1) (consF (varF 2) nilF)))) nilF)))) (retF (conF (.bl false))) endF) (retF (clF (allG fun bs => bs.all id) (consF (lc2F (rg1I (consF (varF 1) nilF)) (nameX 3) [3, 4] (conF (.bl true)) (rg1I (consF (varF 1) nilF)) (nameX 4) [4] (conF (.bl true)) (opF (eqG false) (opF ixG (opF ixG (varF 0) (varF 3)) (varF 4)) (unF negG (opF ixG (opF ixG (varF 0) (varF 4)) (varF 3))))) nilF))))))
theorem pr_is_web : PreD (defF 5 b_is_web) := pre_def (by unfold b_is_web; repeat' (first | exact pre_var | exact pre_con | exact pre_nil | exact pre_no | exact pre_noS | exact pre_newD | exact pre_lam0 | exact pre_lam1 | exact pre_send | exact pre_raise | exact pre_nameT | exact pre_nilT | exact pre_addG | exact pre_intG | exact pre_mulG | exact pre_cmpG | exact pre_eqG | exact pre_inG | exact pre_ixG | exact pre_negG | exact pre_lenG | exact pre_isiG | exact pre_twoG | exact pre_absG | exact pre_intC | exact pre_allG | exact pre_tupC | exact pre_lstC | refine pre_op ?_ ?_ ?_ | refine pre_un ?_ ?_ | refine pre_and ?_ ?_ | refine pre_or ?_ ?_ | refine pre_not ?_ | refine pre_ifF ?_ ?_ ?_ | refine pre_ch ?_ ?_ ?_ ?_ ?_ | refine pre_cons ?_ ?_ | refine pre_new ?_ | refine pre_cl ?_ ?_ | refine pre_call ?_ ?_ | refine pre_rg1 ?_ | refine pre_rg2 ?_ ?_ | refine pre_err ?_ | refine pre_seqI ?_ | refine pre_rg1I ?_ | refine pre_rg2I ?_ | refine pre_lc ?_ ?_ ?_ | refine pre_lc2 ?_ ?_ ?_ ?_ ?_ | refine pre_lenSet ?_ ?_ ?_ | refine pre_trim ?_ | refine pre_seq ?_ ?_ | refine pre_ret ?_ | refine pre_exp ?_ | refine pre_cond ?_ ?_ ?_ | refine pre_consT ?_ ?_ | refine pre_tupT ?_ | refine pre_asg ?_ ?_ | refine pre_par ?_ | refine pre_for ?_ ?_ ?_ | exact pd_is_whole | exact pd_is_node | exact pd_check_count | exact pd_check_node | exact pd_check_row | exact pd__is_line))
def d_is_web : FD := trimD (defF 5 b_is_web)
theorem pd_is_web : PreD d_is_web := pre_trimD pr_is_web
theorem ok_is_web {P : Program} {w : World} {K : PySem.W.Frag} {mg : Str → Option Value} {base : Heap} {Tb : List (Addr × Str)} {cl : Nat → Addr} {ql : Str} {cells : List (Str × Addr)} {lam : Nat → LamI} {f : Addr} {fd : FuncData} (T : Txt K mg cl) (F : Fun K "is_web" "is_web" s_is_web f fd) (hm : mg "is_web" = some (.ref f)) (B : Binds K fd P_is_web []) (G__is_line : DefOk P w K mg base (Tx.mk P w K Tb cl ql cells lam) "_is_line" P__is_line 2 d__is_line) : DefOk P w K mg base (Tx.mk P w K Tb cl ql cells lam) "is_web" P_is_web 3 d_is_web :=
  DefOk.trim pr_is_web <| def_ok F hm B sc_is_web fun cdv A outer s H E hr => by
    have hu := hr.units
    exact (v_seq (v_if (L2.PW.pt (v_wor (v_notT (v_val (v_callB isi_U (s_isi rfl) T.n_isinstance (by decide +kernel) (v_cons (v_var 0) (v_cons (v_ty T.n_tuple PyProof.Rows.boot_tuple) v_nil))))) (v_wor1 (v_notT (v_chainT op_le op_le s_cmp s_cmp v_int (v_callB call_len (s_len rfl) T.n_len (by decide +kernel) (v_cons (v_var 0) v_nil)) (v_gintE T.c_MOST_NODES)))))) (v_s1 (v_ret v_bl)) v_send) (v_seq (v_asg (v_callB call_len (s_len rfl) T.n_len (by decide +kernel) (v_cons (v_var 0) v_nil)) (v_gname 1 sc_is_web.nd)) (v_seq (v_if (v_trimT (by repeat' (first | exact pre_var | exact pre_con | exact pre_nil | exact pre_no | exact pre_noS | exact pre_newD | exact pre_lam0 | exact pre_lam1 | exact pre_send | exact pre_raise | exact pre_nameT | exact pre_nilT | exact pre_addG | exact pre_intG | exact pre_mulG | exact pre_cmpG | exact pre_eqG | exact pre_inG | exact pre_ixG | exact pre_negG | exact pre_lenG | exact pre_isiG | exact pre_twoG | exact pre_absG | exact pre_intC | exact pre_allG | exact pre_tupC | exact pre_lstC | refine pre_op ?_ ?_ ?_ | refine pre_un ?_ ?_ | refine pre_and ?_ ?_ | refine pre_or ?_ ?_ | refine pre_not ?_ | refine pre_ifF ?_ ?_ ?_ | refine pre_ch ?_ ?_ ?_ ?_ ?_ | refine pre_cons ?_ ?_ | refine pre_new ?_ | refine pre_cl ?_ ?_ | refine pre_call ?_ ?_ | refine pre_rg1 ?_ | refine pre_rg2 ?_ ?_ | refine pre_err ?_ | refine pre_seqI ?_ | refine pre_rg1I ?_ | refine pre_rg2I ?_ | refine pre_lc ?_ ?_ ?_ | refine pre_lc2 ?_ ?_ ?_ ?_ ?_ | refine pre_lenSet ?_ ?_ ?_ | refine pre_trim ?_ | refine pre_seq ?_ ?_ | refine pre_ret ?_ | refine pre_exp ?_ | refine pre_cond ?_ ?_ ?_ | refine pre_consT ?_ ?_ | refine pre_tupT ?_ | refine pre_asg ?_ ?_ | refine pre_par ?_ | refine pre_for ?_ ?_ ?_ | exact pd_is_whole | exact pd_is_node | exact pd_check_count | exact pd_check_node | exact pd_check_row | exact pd__is_line | exact pd_is_web)) (v_notT (v_val (v_callB (cr_all rfl) (s_all rfl) T.n_all (by decide +kernel) (v_cons (v_lc [("line", 2)] sc_is_web.nd (v_iseq rfl (v_var 0)) (blkOk_by (N := N_is_web) (sc := defScope s_is_web) (by decide +kernel)) (fun _ _ _ _ _ => (v_xname 2 (by decide) sc_is_web.nd)) (fun _ _ _ _ _ => v_ts0) (fun _ _ _ _ _ => (v_callD G__is_line (hr.mono (by decide)) takesW0 (v_cons (v_var 1) (v_cons (v_var 2) v_nil)) (ar_cons (ar_cons ar_nil))))) v_nil))))) (v_s1 (v_ret v_bl)) v_send) (v_s1 (v_ret (v_callB (cr_all rfl) (s_all rfl) T.n_all (by decide +kernel) (v_cons (v_lc2 [("y", 3), ("z", 4)] sc_is_web.nd (v_irg1 T.n_range (v_cons (v_var 1) v_nil)) (blkOk_by (N := N_is_web) (sc := defScope s_is_web) (by decide +kernel)) (fun _ _ _ _ _ => (v_xname 3 (by decide) sc_is_web.nd)) (fun _ _ _ _ _ => v_ts0) (fun _ _ _ _ _ => (v_irg1 T.n_range (v_cons (v_var 1) v_nil))) (fun _ _ _ _ _ => (v_xname 4 (by decide) sc_is_web.nd)) (fun _ _ _ _ _ => v_ts0) (fun _ _ _ _ _ => (v_cmp (op_eqD hu) (s_eq rfl) (v_ix ix_U (s_ix rfl) (v_ix ix_U (s_ix rfl) (v_var 0) (v_var 3)) (v_var 4)) (v_neg s_neg (v_ix ix_U (s_ix rfl) (v_ix ix_U (s_ix rfl) (v_var 0) (v_var 4)) (v_var 3)))))) v_nil)))))))
abbrev s_check_web : Stmt := top 21
abbrev N_check_web : List Str := ["web"]
abbrev P_check_web : List Str := ["web"]
theorem sc_check_web : FnScope N_check_web P_check_web (defScope s_check_web) := ⟨rfl, rfl, rfl, by decide +kernel, rfl, by decide +kernel, by decide +kernel⟩
def b_check_web : FS := (condF (notF (callF d_is_web (consF (varF 0) nilF))) (raiseF 1) endF)
theorem pr_check_web : PreD (defF 1 b_check_web) := pre_def (by unfold b_check_web; repeat' (first | exact pre_var | exact pre_con | exact pre_nil | exact pre_no | exact pre_noS | exact pre_newD | exact pre_lam0 | exact pre_lam1 | exact pre_send | exact pre_raise | exact pre_nameT | exact pre_nilT | exact pre_addG | exact pre_intG | exact pre_mulG | exact pre_cmpG | exact pre_eqG | exact pre_inG | exact pre_ixG | exact pre_negG | exact pre_lenG | exact pre_isiG | exact pre_twoG | exact pre_absG | exact pre_intC | exact pre_allG | exact pre_tupC | exact pre_lstC | refine pre_op ?_ ?_ ?_ | refine pre_un ?_ ?_ | refine pre_and ?_ ?_ | refine pre_or ?_ ?_ | refine pre_not ?_ | refine pre_ifF ?_ ?_ ?_ | refine pre_ch ?_ ?_ ?_ ?_ ?_ | refine pre_cons ?_ ?_ | refine pre_new ?_ | refine pre_cl ?_ ?_ | refine pre_call ?_ ?_ | refine pre_rg1 ?_ | refine pre_rg2 ?_ ?_ | refine pre_err ?_ | refine pre_seqI ?_ | refine pre_rg1I ?_ | refine pre_rg2I ?_ | refine pre_lc ?_ ?_ ?_ | refine pre_lc2 ?_ ?_ ?_ ?_ ?_ | refine pre_lenSet ?_ ?_ ?_ | refine pre_trim ?_ | refine pre_seq ?_ ?_ | refine pre_ret ?_ | refine pre_exp ?_ | refine pre_cond ?_ ?_ ?_ | refine pre_consT ?_ ?_ | refine pre_tupT ?_ | refine pre_asg ?_ ?_ | refine pre_par ?_ | refine pre_for ?_ ?_ ?_ | exact pd_is_whole | exact pd_is_node | exact pd_check_count | exact pd_check_node | exact pd_check_row | exact pd__is_line | exact pd_is_web))
def d_check_web : FD := trimD (defF 1 b_check_web)
theorem pd_check_web : PreD d_check_web := pre_trimD pr_check_web
theorem ok_check_web {P : Program} {w : World} {K : PySem.W.Frag} {mg : Str → Option Value} {base : Heap} {Tb : List (Addr × Str)} {cl : Nat → Addr} {ql : Str} {cells : List (Str × Addr)} {lam : Nat → LamI} {f : Addr} {fd : FuncData} (T : Txt K mg cl) (F : Fun K "check_web" "check_web" s_check_web f fd) (hm : mg "check_web" = some (.ref f)) (B : Binds K fd P_check_web []) (G_is_web : DefOk P w K mg base (Tx.mk P w K Tb cl ql cells lam) "is_web" P_is_web 3 d_is_web) : DefOk P w K mg base (Tx.mk P w K Tb cl ql cells lam) "check_web" P_check_web 4 d_check_web :=
  DefOk.trim pr_check_web <| def_ok F hm B sc_check_web fun cdv A outer s H E hr => by
    have hu := hr.units
    exact (v_s1 (v_if (v_notT (v_val (v_callD G_is_web (hr.mono (by decide)) (takes_of rfl rfl rfl rfl) (v_cons (v_var 0) v_nil) (ar_cons ar_nil)))) (v_s1 (v_raise (c := 1) PySem.F.excBase_ValueError T.e_BadWeb.1 T.e_BadWeb.2.1 T.e_BadWeb.2.2.1 (raises_own T.e_BadWeb.2.2.2.1 T.e_BadWeb.2.2.2.2) (takes_of rfl rfl rfl rfl))) v_send))
abbrev s_arrows : Stmt := top 22
abbrev N_arrows : List Str := ["web", "n", "y", "z"]
abbrev P_arrows : List Str := ["web"]
theorem sc_arrows : FnScope N_arrows P_arrows (defScope s_arrows) := ⟨rfl, rfl, rfl, by decide +kernel, rfl, by decide +kernel, by decide +kernel⟩
def b_arrows : FS := (seqF (expF (callF d_check_web (consF (varF 0) nilF))) (seqF (asgF (clF lenG (consF (varF 0) nilF)) (nameT 1)) (retF (clF tupC (consF (lc2F (rg1I (consF (varF 1) nilF)) (nameX 2) [2, 3] (conF (.bl true)) (rg1I (consF (varF 1) nilF)) (nameX 3) [3] (opF (cmpG fun i j => decide (i > j)) (opF ixG (opF ixG (varF 0) (varF 2)) (varF 3)) (conF (.int 0))) (newF O.tup (consF (varF 2) (consF (varF 3) (consF (opF ixG (opF ixG (varF 0) (varF 2)) (varF 3)) nilF))))) nilF)))))
theorem pr_arrows : PreD (defF 4 b_arrows) := pre_def (by unfold b_arrows; repeat' (first | exact pre_var | exact pre_con | exact pre_nil | exact pre_no | exact pre_noS | exact pre_newD | exact pre_lam0 | exact pre_lam1 | exact pre_send | exact pre_raise | exact pre_nameT | exact pre_nilT | exact pre_addG | exact pre_intG | exact pre_mulG | exact pre_cmpG | exact pre_eqG | exact pre_inG | exact pre_ixG | exact pre_negG | exact pre_lenG | exact pre_isiG | exact pre_twoG | exact pre_absG | exact pre_intC | exact pre_allG | exact pre_tupC | exact pre_lstC | refine pre_op ?_ ?_ ?_ | refine pre_un ?_ ?_ | refine pre_and ?_ ?_ | refine pre_or ?_ ?_ | refine pre_not ?_ | refine pre_ifF ?_ ?_ ?_ | refine pre_ch ?_ ?_ ?_ ?_ ?_ | refine pre_cons ?_ ?_ | refine pre_new ?_ | refine pre_cl ?_ ?_ | refine pre_call ?_ ?_ | refine pre_rg1 ?_ | refine pre_rg2 ?_ ?_ | refine pre_err ?_ | refine pre_seqI ?_ | refine pre_rg1I ?_ | refine pre_rg2I ?_ | refine pre_lc ?_ ?_ ?_ | refine pre_lc2 ?_ ?_ ?_ ?_ ?_ | refine pre_lenSet ?_ ?_ ?_ | refine pre_trim ?_ | refine pre_seq ?_ ?_ | refine pre_ret ?_ | refine pre_exp ?_ | refine pre_cond ?_ ?_ ?_ | refine pre_consT ?_ ?_ | refine pre_tupT ?_ | refine pre_asg ?_ ?_ | refine pre_par ?_ | refine pre_for ?_ ?_ ?_ | exact pd_is_whole | exact pd_is_node | exact pd_check_count | exact pd_check_node | exact pd_check_row | exact pd__is_line | exact pd_is_web | exact pd_check_web))
def d_arrows : FD := trimD (defF 4 b_arrows)
theorem pd_arrows : PreD d_arrows := pre_trimD pr_arrows
theorem ok_arrows {P : Program} {w : World} {K : PySem.W.Frag} {mg : Str → Option Value} {base : Heap} {Tb : List (Addr × Str)} {cl : Nat → Addr} {ql : Str} {cells : List (Str × Addr)} {lam : Nat → LamI} {f : Addr} {fd : FuncData} (T : Txt K mg cl) (F : Fun K "arrows" "arrows" s_arrows f fd) (hm : mg "arrows" = some (.ref f)) (B : Binds K fd P_arrows []) (G_check_web : DefOk P w K mg base (Tx.mk P w K Tb cl ql cells lam) "check_web" P_check_web 4 d_check_web) : DefOk P w K mg base (Tx.mk P w K Tb cl ql cells lam) "arrows" P_arrows 5 d_arrows :=
  DefOk.trim pr_arrows <| def_ok F hm B sc_arrows fun cdv A outer s H E hr => by
    have hu := hr.units
    exact (v_seq (v_exp (v_callD G_check_web (hr.mono (by decide)) (takes_of rfl rfl rfl rfl) (v_cons (v_var 0) v_nil) (ar_cons ar_nil))) (v_seq (v_asg (v_callB call_len (s_len rfl) T.n_len (by decide +kernel) (v_cons (v_var 0) v_nil)) (v_gname 1 sc_arrows.nd)) (v_s1 (v_ret (v_callTy call_tuple_of (s_tupC rfl) T.n_tuple (by decide +kernel) (v_cons (v_lc2 [("y", 2), ("z", 3)] sc_arrows.nd (v_irg1 T.n_range (v_cons (v_var 1) v_nil)) (blkOk_by (N := N_arrows) (sc := defScope s_arrows) (by decide +kernel)) (fun _ _ _ _ _ => (v_xname 2 (by decide) sc_arrows.nd)) (fun _ _ _ _ _ => v_ts0) (fun _ _ _ _ _ => (v_irg1 T.n_range (v_cons (v_var 1) v_nil))) (fun _ _ _ _ _ => (v_xname 3 (by decide) sc_arrows.nd)) (fun _ _ _ _ _ => (v_ts1 (v_cmpT op_gt s_cmp (v_ix ix_U (s_ix rfl) (v_ix ix_U (s_ix rfl) (v_var 0) (v_var 2)) (v_var 3)) v_int))) (fun _ _ _ _ _ => (v_tup (v_cons (v_var 2) (v_cons (v_var 3) (v_cons (v_ix ix_U (s_ix rfl) (v_ix ix_U (s_ix rfl) (v_var 0) (v_var 2)) (v_var 3)) v_nil)))))) v_nil))))))
abbrev s__is_arrow : Stmt := top 25
abbrev N__is_arrow : List Str := ["n", "triple", "y", "z", "many"]
abbrev P__is_arrow : List Str := ["n", "triple"]
theorem sc__is_arrow : FnScope N__is_arrow P__is_arrow (defScope s__is_arrow) := ⟨rfl, rfl, rfl, by decide +kernel, rfl, by decide +kernel, by decide +kernel⟩
def b__is_arrow : FS := (seqF (condF (orF (notF (clF isiG (consF (varF 1) (consF (conF (.ty "tuple")) nilF)))) (opF (eqG true) (clF lenG (consF (varF 1) nilF)) (conF (.int 3)))) (retF (conF (.bl false))) endF) (seqF (asgF (varF 1) (tupT 3 (consT (nameT 2) (consT (nameT 3) (consT (nameT 4) nilT))))) (retF (andF (callF d_is_node (consF (varF 0) (consF (varF 2) nilF))) (andF (callF d_is_node (consF (varF 0) (consF (varF 3) nilF))) (andF (opF (eqG true) (varF 2) (varF 3)) (callF d_is_whole (consF (varF 4) (consF (conF (.int 1)) (consF (conF (.int 1000)) nilF))))))))))
theorem pr__is_arrow : PreD (defF 5 b__is_arrow) := pre_def (by unfold b__is_arrow; repeat' (first | exact pre_var | exact pre_con | exact pre_nil | exact pre_no | exact pre_noS | exact pre_newD | exact pre_lam0 | exact pre_lam1 | exact pre_send | exact pre_raise | exact pre_nameT | exact pre_nilT | exact pre_addG | exact pre_intG | exact pre_mulG | exact pre_cmpG | exact pre_eqG | exact pre_inG | exact pre_ixG | exact pre_negG | exact pre_lenG | exact pre_isiG | exact pre_twoG | exact pre_absG | exact pre_intC | exact pre_allG | exact pre_tupC | exact pre_lstC | refine pre_op ?_ ?_ ?_ | refine pre_un ?_ ?_ | refine pre_and ?_ ?_ | refine pre_or ?_ ?_ | refine pre_not ?_ | refine pre_ifF ?_ ?_ ?_ | refine pre_ch ?_ ?_ ?_ ?_ ?_ | refine pre_cons ?_ ?_ | refine pre_new ?_ | refine pre_cl ?_ ?_ | refine pre_call ?_ ?_ | refine pre_rg1 ?_ | refine pre_rg2 ?_ ?_ | refine pre_err ?_ | refine pre_seqI ?_ | refine pre_rg1I ?_ | refine pre_rg2I ?_ | refine pre_lc ?_ ?_ ?_ | refine pre_lc2 ?_ ?_ ?_ ?_ ?_ | refine pre_lenSet ?_ ?_ ?_ | refine pre_trim ?_ | refine pre_seq ?_ ?_ | refine pre_ret ?_ | refine pre_exp ?_ | refine pre_cond ?_ ?_ ?_ | refine pre_consT ?_ ?_ | refine pre_tupT ?_ | refine pre_asg ?_ ?_ | refine pre_par ?_ | refine pre_for ?_ ?_ ?_ | exact pd_is_whole | exact pd_is_node | exact pd_check_count | exact pd_check_node | exact pd_check_row | exact pd__is_line | exact pd_is_web | exact pd_check_web | exact pd_arrows))
def d__is_arrow : FD := trimD (defF 5 b__is_arrow)
theorem pd__is_arrow : PreD d__is_arrow := pre_trimD pr__is_arrow
theorem ok__is_arrow {P : Program} {w : World} {K : PySem.W.Frag} {mg : Str → Option Value} {base : Heap} {Tb : List (Addr × Str)} {cl : Nat → Addr} {ql : Str} {cells : List (Str × Addr)} {lam : Nat → LamI} {f : Addr} {fd : FuncData} (T : Txt K mg cl) (F : Fun K "_is_arrow" "_is_arrow" s__is_arrow f fd) (hm : mg "_is_arrow" = some (.ref f)) (B : Binds K fd P__is_arrow []) (G_is_node : DefOk P w K mg base (Tx.mk P w K Tb cl ql cells lam) "is_node" P_is_node 2 d_is_node) (G_is_whole : DefOk P w K mg base (Tx.mk P w K Tb cl ql cells lam) "is_whole" P_is_whole 1 d_is_whole) : DefOk P w K mg base (Tx.mk P w K Tb cl ql cells lam) "_is_arrow" P__is_arrow 3 d__is_arrow :=
  DefOk.trim pr__is_arrow <| def_ok F hm B sc__is_arrow fun cdv A outer s H E hr => by
    have hu := hr.units
    exact (v_seq (v_if (L2.PW.pt (v_wor (v_notT (v_val (v_callB isi_U (s_isi rfl) T.n_isinstance (by decide +kernel) (v_cons (v_var 1) (v_cons (v_ty T.n_tuple PyProof.Rows.boot_tuple) v_nil))))) (v_wor1 (v_cmpT (op_neD hu) (s_ne rfl) (v_callB call_len (s_len rfl) T.n_len (by decide +kernel) (v_cons (v_var 1) v_nil)) v_int)))) (v_s1 (v_ret v_bl)) v_send) (v_seq (v_asg (v_var 1) (v_gtupS rfl (pg_tup rfl (v_gcons (v_gname 2 sc__is_arrow.nd) (v_gcons (v_gname 3 sc__is_arrow.nd) (v_gcons (v_gname 4 sc__is_arrow.nd) v_gnil)))))) (v_s1 (v_ret (v_and (v_callD G_is_node (hr.mono (by decide)) (takes_of rfl rfl rfl rfl) (v_cons (v_var 0) (v_cons (v_var 2) v_nil)) (ar_cons (ar_cons ar_nil))) (v_and (v_callD G_is_node (hr.mono (by decide)) (takes_of rfl rfl rfl rfl) (v_cons (v_var 0) (v_cons (v_var 3) v_nil)) (ar_cons (ar_cons ar_nil))) (v_and (v_cmp (op_neD hu) (s_ne rfl) (v_var 2) (v_var 3)) (v_one (v_callD G_is_whole (hr.mono (by decide)) (takes_of rfl rfl rfl rfl) (v_cons (v_var 4) (v_cons v_int (v_cons (v_gintE T.c_MOST_ARROWS) v_nil))) (ar_cons (ar_cons (ar_cons ar_nil))))))))))))
abbrev s__are_arrows : Stmt := top 24
abbrev N__are_arrows : List Str := ["n", "triples", "triple", "y", "z", "_"]
abbrev P__are_arrows : List Str := ["n", "triples"]
theorem sc__are_arrows : FnScope N__are_arrows P__are_arrows (defScope s__are_arrows) := ⟨rfl, rfl, rfl, by decide +kernel, rfl, by decide +kernel, by decide +kernel⟩
def b__are_arrows : FS := (seqF (condF (trimF (orF (notF (clF isiG (consF (varF 1) (consF (conF (.ty "tuple")) nilF)))) (notF (clF (allG fun bs => bs.all id) (consF (lcF (seqI (varF 1)) (nameX 2) [2] (conF (.bl true)) (callF d__is_arrow (consF (varF 0) (consF (varF 2) nilF)))) nilF))))) (retF (conF (.bl false))) endF) (retF (opF (eqG false) (lenSetF (seqI (varF 1)) (tupX 3 (consX (nameX 3) (consX (nameX 4) (consX (nameX 5) nilX)))) [3, 4, 5] (conF (.bl true)) (newF O.tup (consF (clF (twoG fun i j => if j < i then j else i) (consF (varF 3) (consF (varF 4) nilF))) (consF (clF (twoG fun i j => if j > i then j else i) (consF (varF 3) (consF (varF 4) nilF))) nilF)))) (clF lenG (consF (varF 1) nilF)))))
theorem pr__are_arrows : PreD (defF 6 b__are_arrows) := pre_def (by unfold b__are_arrows; repeat' (first | exact pre_var | exact pre_con | exact pre_nil | exact pre_no | exact pre_noS | exact pre_newD | exact pre_lam0 | exact pre_lam1 | exact pre_send | exact pre_raise | exact pre_nameT | exact pre_nilT | exact pre_addG | exact pre_intG | exact pre_mulG | exact pre_cmpG | exact pre_eqG | exact pre_inG | exact pre_ixG | exact pre_negG | exact pre_lenG | exact pre_isiG | exact pre_twoG | exact pre_absG | exact pre_intC | exact pre_allG | exact pre_tupC | exact pre_lstC | refine pre_op ?_ ?_ ?_ | refine pre_un ?_ ?_ | refine pre_and ?_ ?_ | refine pre_or ?_ ?_ | refine pre_not ?_ | refine pre_ifF ?_ ?_ ?_ | refine pre_ch ?_ ?_ ?_ ?_ ?_ | refine pre_cons ?_ ?_ | refine pre_new ?_ | refine pre_cl ?_ ?_ | refine pre_call ?_ ?_ | refine pre_rg1 ?_ | refine pre_rg2 ?_ ?_ | refine pre_err ?_ | refine pre_seqI ?_ | refine pre_rg1I ?_ | refine pre_rg2I ?_ | refine pre_lc ?_ ?_ ?_ | refine pre_lc2 ?_ ?_ ?_ ?_ ?_ | refine pre_lenSet ?_ ?_ ?_ | refine pre_trim ?_ | refine pre_seq ?_ ?_ | refine pre_ret ?_ | refine pre_exp ?_ | refine pre_cond ?_ ?_ ?_ | refine pre_consT ?_ ?_ | refine pre_tupT ?_ | refine pre_asg ?_ ?_ | refine pre_par ?_ | refine pre_for ?_ ?_ ?_ | exact pd_is_whole | exact pd_is_node | exact pd_check_count | exact pd_check_node | exact pd_check_row | exact pd__is_line | exact pd_is_web | exact pd_check_web | exact pd_arrows | exact pd__is_arrow))
def d__are_arrows : FD := trimD (defF 6 b__are_arrows)
theorem pd__are_arrows : PreD d__are_arrows := pre_trimD pr__are_arrows
theorem ok__are_arrows {P : Program} {w : World} {K : PySem.W.Frag} {mg : Str → Option Value} {base : Heap} {Tb : List (Addr × Str)} {cl : Nat → Addr} {ql : Str} {cells : List (Str × Addr)} {lam : Nat → LamI} {f : Addr} {fd : FuncData} (T : Txt K mg cl) (F : Fun K "_are_arrows" "_are_arrows" s__are_arrows f fd) (hm : mg "_are_arrows" = some (.ref f)) (B : Binds K fd P__are_arrows []) (G__is_arrow : DefOk P w K mg base (Tx.mk P w K Tb cl ql cells lam) "_is_arrow" P__is_arrow 3 d__is_arrow) : DefOk P w K mg base (Tx.mk P w K Tb cl ql cells lam) "_are_arrows" P__are_arrows 4 d__are_arrows :=
  DefOk.trim pr__are_arrows <| def_ok F hm B sc__are_arrows fun cdv A outer s H E hr => by
    have hu := hr.units
    exact (v_seq (v_if (v_trimT (by repeat' (first | exact pre_var | exact pre_con | exact pre_nil | exact pre_no | exact pre_noS | exact pre_newD | exact pre_lam0 | exact pre_lam1 | exact pre_send | exact pre_raise | exact pre_nameT | exact pre_nilT | exact pre_addG | exact pre_intG | exact pre_mulG | exact pre_cmpG | exact pre_eqG | exact pre_inG | exact pre_ixG | exact pre_negG | exact pre_lenG | exact pre_isiG | exact pre_twoG | exact pre_absG | exact pre_intC | exact pre_allG | exact pre_tupC | exact pre_lstC | refine pre_op ?_ ?_ ?_ | refine pre_un ?_ ?_ | refine pre_and ?_ ?_ | refine pre_or ?_ ?_ | refine pre_not ?_ | refine pre_ifF ?_ ?_ ?_ | refine pre_ch ?_ ?_ ?_ ?_ ?_ | refine pre_cons ?_ ?_ | refine pre_new ?_ | refine pre_cl ?_ ?_ | refine pre_call ?_ ?_ | refine pre_rg1 ?_ | refine pre_rg2 ?_ ?_ | refine pre_err ?_ | refine pre_seqI ?_ | refine pre_rg1I ?_ | refine pre_rg2I ?_ | refine pre_lc ?_ ?_ ?_ | refine pre_lc2 ?_ ?_ ?_ ?_ ?_ | refine pre_lenSet ?_ ?_ ?_ | refine pre_trim ?_ | refine pre_seq ?_ ?_ | refine pre_ret ?_ | refine pre_exp ?_ | refine pre_cond ?_ ?_ ?_ | refine pre_consT ?_ ?_ | refine pre_tupT ?_ | refine pre_asg ?_ ?_ | refine pre_par ?_ | refine pre_for ?_ ?_ ?_ | exact pd_is_whole | exact pd_is_node | exact pd_check_count | exact pd_check_node | exact pd_check_row | exact pd__is_line | exact pd_is_web | exact pd_check_web | exact pd_arrows | exact pd__is_arrow | exact pd__are_arrows)) (L2.PW.pt (v_wor (v_notT (v_val (v_callB isi_U (s_isi rfl) T.n_isinstance (by decide +kernel) (v_cons (v_var 1) (v_cons (v_ty T.n_tuple PyProof.Rows.boot_tuple) v_nil))))) (v_wor1 (v_notT (v_val (v_callB (cr_all rfl) (s_all rfl) T.n_all (by decide +kernel) (v_cons (v_lc [("triple", 2)] sc__are_arrows.nd (v_iseq rfl (v_var 1)) (blkOk_by (N := N__are_arrows) (sc := defScope s__are_arrows) (by decide +kernel)) (fun _ _ _ _ _ => (v_xname 2 (by decide) sc__are_arrows.nd)) (fun _ _ _ _ _ => v_ts0) (fun _ _ _ _ _ => (v_callD G__is_arrow (hr.mono (by decide)) takesW0 (v_cons (v_var 0) (v_cons (v_var 2) v_nil)) (ar_cons (ar_cons ar_nil))))) v_nil)))))))) (v_s1 (v_ret v_bl)) v_send) (v_s1 (v_ret (v_cmp (op_eqD hu) (s_eq rfl) (v_lenSet [("y", 3), ("z", 4), ("_", 5)] sc__are_arrows.nd hu T.n_len (v_iseq rfl (v_var 1)) (blkOk_by (N := N__are_arrows) (sc := defScope s__are_arrows) (by decide +kernel)) (fun _ _ _ _ _ => (v_xtup rfl (pg_tup rfl (v_xcons (v_xname 3 (by decide) sc__are_arrows.nd) (v_xcons (v_xname 4 (by decide) sc__are_arrows.nd) (v_xcons (v_xname 5 (by decide) sc__are_arrows.nd) v_xnil)))))) (fun _ _ _ _ _ => v_ts0) (fun _ _ _ _ _ => (v_tup (v_cons (v_callB (call_min2 rfl) s_two T.n_min (by decide +kernel) (v_cons (v_var 3) (v_cons (v_var 4) v_nil))) (v_cons (v_callB (call_max2 rfl) s_two T.n_max (by decide +kernel) (v_cons (v_var 3) (v_cons (v_var 4) v_nil))) v_nil))))) (v_callB call_len (s_len rfl) T.n_len (by decide +kernel) (v_cons (v_var 1) v_nil))))))
abbrev s_web_of : Stmt := top 23
abbrev N_web_of : List Str := ["n", "triples", "table", "_", "y", "z", "many", "line"]
abbrev P_web_of : List Str := ["n", "triples"]
theorem sc_web_of : FnScope N_web_of P_web_of (defScope s_web_of) := ⟨rfl, rfl, rfl, by decide +kernel, rfl, by decide +kernel, by decide +kernel⟩
def b_web_of : FS := (seqF (expF (callF d_check_count (consF (varF 0) nilF))) (seqF (condF (notF (callF d__are_arrows (consF (varF 0) (consF (varF 1) nilF)))) (raiseF 4) endF) (seqF (asgF (lcF (rg1I (consF (varF 0) nilF)) (nameX 3) [3] (conF (.bl true)) (opF mulG (newF O.lst (consF (conF (.int 0)) nilF)) (varF 0))) (nameT 2)) (seqF (forF (seqI (varF 1)) (tupT 3 (consT (nameT 4) (consT (nameT 5) (consT (nameT 6) nilT)))) (seqF (asgF (varF 6) (subT (opF ixG (varF 2) (varF 4)) (varF 5))) (asgF (unF negG (varF 6)) (subT (opF ixG (varF 2) (varF 5)) (varF 4))))) (retF (clF tupC (consF (lcF (seqI (varF 2)) (nameX 7) [7] (conF (.bl true)) (clF tupC (consF (varF 7) nilF))) nilF)))))))
def d_web_of : FD := defF 8 b_web_of
theorem ok_web_of {P : Program} {w : World} {K : PySem.W.Frag} {mg : Str → Option Value} {base : Heap} {Tb : List (Addr × Str)} {cl : Nat → Addr} {ql : Str} {cells : List (Str × Addr)} {lam : Nat → LamI} {f : Addr} {fd : FuncData} (T : Txt K mg cl) (F : Fun K "web_of" "web_of" s_web_of f fd) (hm : mg "web_of" = some (.ref f)) (B : Binds K fd P_web_of []) (G_check_count : DefOk P w K mg base (Tx.mk P w K Tb cl ql cells lam) "check_count" P_check_count 2 d_check_count) (G__are_arrows : DefOk P w K mg base (Tx.mk P w K Tb cl ql cells lam) "_are_arrows" P__are_arrows 4 d__are_arrows) : DefOk P w K mg base (Tx.mk P w K Tb cl ql cells lam) "web_of" P_web_of 5 d_web_of :=
  def_ok F hm B sc_web_of fun cdv A outer s H E hr => by
    have hu := hr.units
    exact (v_seq (v_exp (v_callD G_check_count (hr.mono (by decide)) (takes_of rfl rfl rfl rfl) (v_cons (v_var 0) v_nil) (ar_cons ar_nil))) (v_seq (v_if (v_notT (v_val (v_callD G__are_arrows (hr.mono (by decide)) (takes_of rfl rfl rfl rfl) (v_cons (v_var 0) (v_cons (v_var 1) v_nil)) (ar_cons (ar_cons ar_nil))))) (v_s1 (v_raise (c := 4) PySem.F.excBase_ValueError T.e_BadArrows.1 T.e_BadArrows.2.1 T.e_BadArrows.2.2.1 (raises_own T.e_BadArrows.2.2.2.1 T.e_BadArrows.2.2.2.2) (takes_of rfl rfl rfl rfl))) v_send) (v_seq (v_setLc [("_", 3)] (i := 2) sc_web_of.nd rfl rfl (sw_true rfl rfl rfl (by decide +kernel)) (v_irg1 T.n_range (v_cons (v_var 0) v_nil)) (blkOk_by (N := N_web_of) (sc := defScope s_web_of) (by decide +kernel)) (fun _ _ _ _ _ => (v_xname 3 (by decide) sc_web_of.nd)) (fun _ _ _ _ _ => v_ts0) (fun _ _ _ _ _ => (v_op op_mulU (s_mul rfl) (v_lst (v_cons v_int v_nil)) (v_var 0)))) (v_seq (v_forS (passes_of rfl) (v_iseq rfl (v_var 1)) (v_gtupS rfl (pg_tup rfl (v_gcons (v_gname 4 sc_web_of.nd) (v_gcons (v_gname 5 sc_web_of.nd) (v_gcons (v_gname 6 sc_web_of.nd) v_gnil))))) (v_seq (v_asg (v_var 6) (v_gsub (W := W0) (v_ix ix_U (s_ix rfl) (v_var 2) (v_var 4)) (v_var 5) (pg_sub (v_ix ix_U (s_ix rfl) (v_var 2) (v_var 4)) (v_var 5) set_list))) (v_s1 (v_asg (v_neg s_neg (v_var 6)) (v_gsub (W := W0) (v_ix ix_U (s_ix rfl) (v_var 2) (v_var 5)) (v_var 4) (pg_sub (v_ix ix_U (s_ix rfl) (v_var 2) (v_var 5)) (v_var 4) set_list)))))) (v_s1 (v_ret (v_callTy call_tuple_of (s_tupC rfl) T.n_tuple (by decide +kernel) (v_cons (v_lc [("line", 7)] sc_web_of.nd (v_iseq rfl (v_var 2)) (blkOk_by (N := N_web_of) (sc := defScope s_web_of) (by decide +kernel)) (fun _ _ _ _ _ => (v_xname 7 (by decide) sc_web_of.nd)) (fun _ _ _ _ _ => v_ts0) (fun _ _ _ _ _ => (v_callTy call_tuple_of (s_tupC rfl) T.n_tuple (by decide +kernel) (v_cons (v_var 7) v_nil)))) v_nil))))))))
abbrev s__many_behind : Stmt := top 29
abbrev N__many_behind : List Str := ["web", "x", "y", "z", "there", "back"]
abbrev P__many_behind : List Str := ["web", "x", "y", "z"]
theorem sc__many_behind : FnScope N__many_behind P__many_behind (defScope s__many_behind) := ⟨rfl, rfl, rfl, by decide +kernel, rfl, by decide +kernel, by decide +kernel⟩
def b__many_behind : FS := (seqF (condF (trimF (opF (inG false) (varF 1) (newF O.tup (consF (varF 2) (consF (varF 3) nilF))))) (retF (unF negG (opF ixG (opF ixG (varF 0) (varF 2)) (varF 3)))) endF) (seqF (asgF (opF mulG (clF (twoG fun i j => if j > i then j else i) (consF (conF (.int 0)) (consF (opF ixG (opF ixG (varF 0) (varF 2)) (varF 1)) nilF))) (clF (twoG fun i j => if j > i then j else i) (consF (conF (.int 0)) (consF (opF ixG (opF ixG (varF 0) (varF 1)) (varF 3)) nilF)))) (nameT 4)) (seqF (asgF (opF mulG (clF (twoG fun i j => if j > i then j else i) (consF (conF (.int 0)) (consF (opF ixG (opF ixG (varF 0) (varF 3)) (varF 1)) nilF))) (clF (twoG fun i j => if j > i then j else i) (consF (conF (.int 0)) (consF (opF ixG (opF ixG (varF 0) (varF 1)) (varF 2)) nilF)))) (nameT 5)) (retF (opF subG (opF addG (opF ixG (opF ixG (varF 0) (varF 2)) (varF 3)) (varF 4)) (varF 5))))))
theorem pr__many_behind : PreD (defF 6 b__many_behind) := pre_def (by unfold b__many_behind; repeat' (first | exact pre_var | exact pre_con | exact pre_nil | exact pre_no | exact pre_noS | exact pre_newD | exact pre_lam0 | exact pre_lam1 | exact pre_send | exact pre_raise | exact pre_nameT | exact pre_nilT | exact pre_addG | exact pre_intG | exact pre_mulG | exact pre_cmpG | exact pre_eqG | exact pre_inG | exact pre_ixG | exact pre_negG | exact pre_lenG | exact pre_isiG | exact pre_twoG | exact pre_absG | exact pre_intC | exact pre_allG | exact pre_tupC | exact pre_lstC | refine pre_op ?_ ?_ ?_ | refine pre_un ?_ ?_ | refine pre_and ?_ ?_ | refine pre_or ?_ ?_ | refine pre_not ?_ | refine pre_ifF ?_ ?_ ?_ | refine pre_ch ?_ ?_ ?_ ?_ ?_ | refine pre_cons ?_ ?_ | refine pre_new ?_ | refine pre_cl ?_ ?_ | refine pre_call ?_ ?_ | refine pre_rg1 ?_ | refine pre_rg2 ?_ ?_ | refine pre_err ?_ | refine pre_seqI ?_ | refine pre_rg1I ?_ | refine pre_rg2I ?_ | refine pre_lc ?_ ?_ ?_ | refine pre_lc2 ?_ ?_ ?_ ?_ ?_ | refine pre_lenSet ?_ ?_ ?_ | refine pre_trim ?_ | refine pre_seq ?_ ?_ | refine pre_ret ?_ | refine pre_exp ?_ | refine pre_cond ?_ ?_ ?_ | refine pre_consT ?_ ?_ | refine pre_tupT ?_ | refine pre_asg ?_ ?_ | refine pre_par ?_ | refine pre_for ?_ ?_ ?_ | exact pd_is_whole | exact pd_is_node | exact pd_check_count | exact pd_check_node | exact pd_check_row | exact pd__is_line | exact pd_is_web | exact pd_check_web | exact pd_arrows | exact pd__is_arrow | exact pd__are_arrows))
def d__many_behind : FD := trimD (defF 6 b__many_behind)
theorem pd__many_behind : PreD d__many_behind := pre_trimD pr__many_behind
theorem ok__many_behind {P : Program} {w : World} {K : PySem.W.Frag} {mg : Str → Option Value} {base : Heap} {Tb : List (Addr × Str)} {cl : Nat → Addr} {ql : Str} {cells : List (Str × Addr)} {lam : Nat → LamI} {f : Addr} {fd : FuncData} (T : Txt K mg cl) (F : Fun K "_many_behind" "_many_behind" s__many_behind f fd) (hm : mg "_many_behind" = some (.ref f)) (B : Binds K fd P__many_behind [])  : DefOk P w K mg base (Tx.mk P w K Tb cl ql cells lam) "_many_behind" P__many_behind 1 d__many_behind :=
  DefOk.trim pr__many_behind <| def_ok F hm B sc__many_behind fun cdv A outer s H E hr => by
    have hu := hr.units
    exact (v_seq (v_if (v_trimT (by repeat' (first | exact pre_var | exact pre_con | exact pre_nil | exact pre_no | exact pre_noS | exact pre_newD | exact pre_lam0 | exact pre_lam1 | exact pre_send | exact pre_raise | exact pre_nameT | exact pre_nilT | exact pre_addG | exact pre_intG | exact pre_mulG | exact pre_cmpG | exact pre_eqG | exact pre_inG | exact pre_ixG | exact pre_negG | exact pre_lenG | exact pre_isiG | exact pre_twoG | exact pre_absG | exact pre_intC | exact pre_allG | exact pre_tupC | exact pre_lstC | refine pre_op ?_ ?_ ?_ | refine pre_un ?_ ?_ | refine pre_and ?_ ?_ | refine pre_or ?_ ?_ | refine pre_not ?_ | refine pre_ifF ?_ ?_ ?_ | refine pre_ch ?_ ?_ ?_ ?_ ?_ | refine pre_cons ?_ ?_ | refine pre_new ?_ | refine pre_cl ?_ ?_ | refine pre_call ?_ ?_ | refine pre_rg1 ?_ | refine pre_rg2 ?_ ?_ | refine pre_err ?_ | refine pre_seqI ?_ | refine pre_rg1I ?_ | refine pre_rg2I ?_ | refine pre_lc ?_ ?_ ?_ | refine pre_lc2 ?_ ?_ ?_ ?_ ?_ | refine pre_lenSet ?_ ?_ ?_ | refine pre_trim ?_ | refine pre_seq ?_ ?_ | refine pre_ret ?_ | refine pre_exp ?_ | refine pre_cond ?_ ?_ ?_ | refine pre_consT ?_ ?_ | refine pre_tupT ?_ | refine pre_asg ?_ ?_ | refine pre_par ?_ | refine pre_for ?_ ?_ ?_ | exact pd_is_whole | exact pd_is_node | exact pd_check_count | exact pd_check_node | exact pd_check_row | exact pd__is_line | exact pd_is_web | exact pd_check_web | exact pd_arrows | exact pd__is_arrow | exact pd__are_arrows | exact pd__many_behind)) (v_cmpT op_in_seq (s_in rfl) (v_var 1) (v_tup (v_cons (v_var 2) (v_cons (v_var 3) v_nil))))) (v_s1 (v_ret (v_neg s_neg (v_ix ix_U (s_ix rfl) (v_ix ix_U (s_ix rfl) (v_var 0) (v_var 2)) (v_var 3))))) v_send) (v_seq (v_asg (v_op op_mulU (s_mul rfl) (v_callB (call_max2 rfl) s_two T.n_max (by decide +kernel) (v_cons v_int (v_cons (v_ix ix_U (s_ix rfl) (v_ix ix_U (s_ix rfl) (v_var 0) (v_var 2)) (v_var 1)) v_nil))) (v_callB (call_max2 rfl) s_two T.n_max (by decide +kernel) (v_cons v_int (v_cons (v_ix ix_U (s_ix rfl) (v_ix ix_U (s_ix rfl) (v_var 0) (v_var 1)) (v_var 3)) v_nil)))) (v_gname 4 sc__many_behind.nd)) (v_seq (v_asg (v_op op_mulU (s_mul rfl) (v_callB (call_max2 rfl) s_two T.n_max (by decide +kernel) (v_cons v_int (v_cons (v_ix ix_U (s_ix rfl) (v_ix ix_U (s_ix rfl) (v_var 0) (v_var 3)) (v_var 1)) v_nil))) (v_callB (call_max2 rfl) s_two T.n_max (by decide +kernel) (v_cons v_int (v_cons (v_ix ix_U (s_ix rfl) (v_ix ix_U (s_ix rfl) (v_var 0) (v_var 1)) (v_var 2)) v_nil)))) (v_gname 5 sc__many_behind.nd)) (v_s1 (v_ret (v_op op_sub s_sub (v_op op_addU (s_add rfl) (v_ix ix_U (s_ix rfl) (v_ix ix_U (s_ix rfl) (v_var 0) (v_var 2)) (v_var 3)) (v_var 4)) (v_var 5)))))))
abbrev s__behind : Stmt := top 28
abbrev N__behind : List Str := ["web", "x", "n", "table", "z", "y", "line", "many"]
abbrev P__behind : List Str := ["web", "x"]
theorem sc__behind : FnScope N__behind P__behind (defScope s__behind) := ⟨rfl, rfl, rfl, by decide +kernel, rfl, by decide +kernel, by decide +kernel⟩
def b__behind : FS := (seqF (asgF (clF lenG (consF (varF 0) nilF)) (nameT 2)) (seqF (asgF (clF tupC (consF (lcF (rg1I (consF (varF 2) nilF)) (nameX 5) [5] (conF (.bl true)) (clF tupC (consF (lcF (rg1I (consF (varF 2) nilF)) (nameX 4) [4] (conF (.bl true)) (callF d__many_behind (consF (varF 0) (consF (varF 1) (consF (varF 5) (consF (varF 4) nilF)))))) nilF))) nilF)) (nameT 3)) (seqF (condF (trimF (notF (clF (allG fun bs => bs.all id) (consF (lc2F (seqI (varF 3)) (nameX 6) [6, 7] (conF (.bl true)) (seqI (varF 6)) (nameX 7) [7] (conF (.bl true)) (opF (cmpG fun i j => decide (i ≤ j)) (clF absG (consF (varF 7) nilF)) (conF (.int 1000)))) nilF)))) (raiseF 5) endF) (retF (varF 3)))))
theorem pr__behind : PreD (defF 8 b__behind) := pre_def (by unfold b__behind; repeat' (first | exact pre_var | exact pre_con | exact pre_nil | exact pre_no | exact pre_noS | exact pre_newD | exact pre_lam0 | exact pre_lam1 | exact pre_send | exact pre_raise | exact pre_nameT | exact pre_nilT | exact pre_addG | exact pre_intG | exact pre_mulG | exact pre_cmpG | exact pre_eqG | exact pre_inG | exact pre_ixG | exact pre_negG | exact pre_lenG | exact pre_isiG | exact pre_twoG | exact pre_absG | exact pre_intC | exact pre_allG | exact pre_tupC | exact pre_lstC | refine pre_op ?_ ?_ ?_ | refine pre_un ?_ ?_ | refine pre_and ?_ ?_ | refine pre_or ?_ ?_ | refine pre_not ?_ | refine pre_ifF ?_ ?_ ?_ | refine pre_ch ?_ ?_ ?_ ?_ ?_ | refine pre_cons ?_ ?_ | refine pre_new ?_ | refine pre_cl ?_ ?_ | refine pre_call ?_ ?_ | refine pre_rg1 ?_ | refine pre_rg2 ?_ ?_ | refine pre_err ?_ | refine pre_seqI ?_ | refine pre_rg1I ?_ | refine pre_rg2I ?_ | refine pre_lc ?_ ?_ ?_ | refine pre_lc2 ?_ ?_ ?_ ?_ ?_ | refine pre_lenSet ?_ ?_ ?_ | refine pre_trim ?_ | refine pre_seq ?_ ?_ | refine pre_ret ?_ | refine pre_exp ?_ | refine pre_cond ?_ ?_ ?_ | refine pre_consT ?_ ?_ | refine pre_tupT ?_ | refine pre_asg ?_ ?_ | refine pre_par ?_ | refine pre_for ?_ ?_ ?_ | exact pd_is_whole | exact pd_is_node | exact pd_check_count | exact pd_check_node | exact pd_check_row | exact pd__is_line | exact pd_is_web | exact pd_check_web | exact pd_arrows | exact pd__is_arrow | exact pd__are_arrows | exact pd__many_behind))
def d__behind : FD := trimD (defF 8 b__behind)
theorem pd__behind : PreD d__behind := pre_trimD pr__behind
theorem ok__behind {P : Program} {w : World} {K : PySem.W.Frag} {mg : Str → Option Value} {base : Heap} {Tb : List (Addr × Str)} {cl : Nat → Addr} {ql : Str} {cells : List (Str × Addr)} {lam : Nat → LamI} {f : Addr} {fd : FuncData} (T : Txt K mg cl) (F : Fun K "_behind" "_behind" s__behind f fd) (hm : mg "_behind" = some (.ref f)) (B : Binds K fd P__behind []) (G__many_behind : DefOk P w K mg base (Tx.mk P w K Tb cl ql cells lam) "_many_behind" P__many_behind 1 d__many_behind) : DefOk P w K mg base (Tx.mk P w K Tb cl ql cells lam) "_behind" P__behind 2 d__behind :=
  DefOk.trim pr__behind <| def_ok F hm B sc__behind fun cdv A outer s H E hr => by
    have hu := hr.units
    exact (v_seq (v_asg (v_callB call_len (s_len rfl) T.n_len (by decide +kernel) (v_cons (v_var 0) v_nil)) (v_gname 2 sc__behind.nd)) (v_seq (v_asg (v_callTy call_tuple_of (s_tupC rfl) T.n_tuple (by decide +kernel) (v_cons (v_lc [("y", 5)] sc__behind.nd (v_irg1 T.n_range (v_cons (v_var 2) v_nil)) (blkOk_by (N := N__behind) (sc := defScope s__behind) (by decide +kernel)) (fun _ _ _ _ _ => (v_xname 5 (by decide) sc__behind.nd)) (fun _ _ _ _ _ => v_ts0) (fun _ _ _ _ _ => (v_callTy call_tuple_of (s_tupC rfl) T.n_tuple (by decide +kernel) (v_cons (v_lc [("z", 4)] sc__behind.nd (v_irg1 T.n_range (v_cons (v_var 2) v_nil)) (blkOk_by (by kernel_rfl)) (fun _ _ _ _ _ => (v_xname 4 (by decide) sc__behind.nd)) (fun _ _ _ _ _ => v_ts0) (fun _ _ _ _ _ => (v_callD G__many_behind (hr.mono (by decide)) takesW0 (v_cons (v_var 0) (v_cons (v_var 1) (v_cons (v_var 5) (v_cons (v_var 4) v_nil)))) (ar_cons (ar_cons (ar_cons (ar_cons ar_nil))))))) v_nil)))) v_nil)) (v_gname 3 sc__behind.nd)) (v_seq (v_if (v_trimT (by repeat' (first | exact pre_var | exact pre_con | exact pre_nil | exact pre_no | exact pre_noS | exact pre_newD | exact pre_lam0 | exact pre_lam1 | exact pre_send | exact pre_raise | exact pre_nameT | exact pre_nilT | exact pre_addG | exact pre_intG | exact pre_mulG | exact pre_cmpG | exact pre_eqG | exact pre_inG | exact pre_ixG | exact pre_negG | exact pre_lenG | exact pre_isiG | exact pre_twoG | exact pre_absG | exact pre_intC | exact pre_allG | exact pre_tupC | exact pre_lstC | refine pre_op ?_ ?_ ?_ | refine pre_un ?_ ?_ | refine pre_and ?_ ?_ | refine pre_or ?_ ?_ | refine pre_not ?_ | refine pre_ifF ?_ ?_ ?_ | refine pre_ch ?_ ?_ ?_ ?_ ?_ | refine pre_cons ?_ ?_ | refine pre_new ?_ | refine pre_cl ?_ ?_ | refine pre_call ?_ ?_ | refine pre_rg1 ?_ | refine pre_rg2 ?_ ?_ | refine pre_err ?_ | refine pre_seqI ?_ | refine pre_rg1I ?_ | refine pre_rg2I ?_ | refine pre_lc ?_ ?_ ?_ | refine pre_lc2 ?_ ?_ ?_ ?_ ?_ | refine pre_lenSet ?_ ?_ ?_ | refine pre_trim ?_ | refine pre_seq ?_ ?_ | refine pre_ret ?_ | refine pre_exp ?_ | refine pre_cond ?_ ?_ ?_ | refine pre_consT ?_ ?_ | refine pre_tupT ?_ | refine pre_asg ?_ ?_ | refine pre_par ?_ | refine pre_for ?_ ?_ ?_ | exact pd_is_whole | exact pd_is_node | exact pd_check_count | exact pd_check_node | exact pd_check_row | exact pd__is_line | exact pd_is_web | exact pd_check_web | exact pd_arrows | exact pd__is_arrow | exact pd__are_arrows | exact pd__many_behind | exact pd__behind)) (v_notT (v_val (v_callB (cr_all rfl) (s_all rfl) T.n_all (by decide +kernel) (v_cons (v_lc2 [("line", 6), ("many", 7)] sc__behind.nd (v_iseq rfl (v_var 3)) (blkOk_by (N := N__behind) (sc := defScope s__behind) (by decide +kernel)) (fun _ _ _ _ _ => (v_xname 6 (by decide) sc__behind.nd)) (fun _ _ _ _ _ => v_ts0) (fun _ _ _ _ _ => (v_iseq rfl (v_var 6))) (fun _ _ _ _ _ => (v_xname 7 (by decide) sc__behind.nd)) (fun _ _ _ _ _ => v_ts0) (fun _ _ _ _ _ => (v_cmp op_le s_cmp (v_callB call_abs s_abs T.n_abs (by decide +kernel) (v_cons (v_var 7) v_nil)) (v_gintE T.c_MOST_ARROWS)))) v_nil))))) (v_s1 (v_raise (c := 5) PySem.F.excBase_ValueError T.e_TooGreat.1 T.e_TooGreat.2.1 T.e_TooGreat.2.2.1 (raises_own T.e_TooGreat.2.2.2.1 T.e_TooGreat.2.2.2.2) (takes_of rfl rfl rfl rfl))) v_send) (v_s1 (v_ret (v_var 3))))))
abbrev s_turned : Stmt := top 26
abbrev N_turned : List Str := ["web", "x"]
abbrev P_turned : List Str := ["web", "x"]
theorem sc_turned : FnScope N_turned P_turned (defScope s_turned) := ⟨rfl, rfl, rfl, by decide +kernel, rfl, by decide +kernel, by decide +kernel⟩
def b_turned : FS := (seqF (expF (callF d_check_web (consF (varF 0) nilF))) (seqF (expF (callF d_check_node (consF (clF lenG (consF (varF 0) nilF)) (consF (varF 1) nilF)))) (retF (callF d__behind (consF (varF 0) (consF (varF 1) nilF))))))
theorem pr_turned : PreD (defF 2 b_turned) := pre_def (by unfold b_turned; repeat' (first | exact pre_var | exact pre_con | exact pre_nil | exact pre_no | exact pre_noS | exact pre_newD | exact pre_lam0 | exact pre_lam1 | exact pre_send | exact pre_raise | exact pre_nameT | exact pre_nilT | exact pre_addG | exact pre_intG | exact pre_mulG | exact pre_cmpG | exact pre_eqG | exact pre_inG | exact pre_ixG | exact pre_negG | exact pre_lenG | exact pre_isiG | exact pre_twoG | exact pre_absG | exact pre_intC | exact pre_allG | exact pre_tupC | exact pre_lstC | refine pre_op ?_ ?_ ?_ | refine pre_un ?_ ?_ | refine pre_and ?_ ?_ | refine pre_or ?_ ?_ | refine pre_not ?_ | refine pre_ifF ?_ ?_ ?_ | refine pre_ch ?_ ?_ ?_ ?_ ?_ | refine pre_cons ?_ ?_ | refine pre_new ?_ | refine pre_cl ?_ ?_ | refine pre_call ?_ ?_ | refine pre_rg1 ?_ | refine pre_rg2 ?_ ?_ | refine pre_err ?_ | refine pre_seqI ?_ | refine pre_rg1I ?_ | refine pre_rg2I ?_ | refine pre_lc ?_ ?_ ?_ | refine pre_lc2 ?_ ?_ ?_ ?_ ?_ | refine pre_lenSet ?_ ?_ ?_ | refine pre_trim ?_ | refine pre_seq ?_ ?_ | refine pre_ret ?_ | refine pre_exp ?_ | refine pre_cond ?_ ?_ ?_ | refine pre_consT ?_ ?_ | refine pre_tupT ?_ | refine pre_asg ?_ ?_ | refine pre_par ?_ | refine pre_for ?_ ?_ ?_ | exact pd_is_whole | exact pd_is_node | exact pd_check_count | exact pd_check_node | exact pd_check_row | exact pd__is_line | exact pd_is_web | exact pd_check_web | exact pd_arrows | exact pd__is_arrow | exact pd__are_arrows | exact pd__many_behind | exact pd__behind))
def d_turned : FD := trimD (defF 2 b_turned)
theorem pd_turned : PreD d_turned := pre_trimD pr_turned
theorem ok_turned {P : Program} {w : World} {K : PySem.W.Frag} {mg : Str → Option Value} {base : Heap} {Tb : List (Addr × Str)} {cl : Nat → Addr} {ql : Str} {cells : List (Str × Addr)} {lam : Nat → LamI} {f : Addr} {fd : FuncData} (T : Txt K mg cl) (F : Fun K "turned" "turned" s_turned f fd) (hm : mg "turned" = some (.ref f)) (B : Binds K fd P_turned []) (G_check_web : DefOk P w K mg base (Tx.mk P w K Tb cl ql cells lam) "check_web" P_check_web 4 d_check_web) (G_check_node : DefOk P w K mg base (Tx.mk P w K Tb cl ql cells lam) "check_node" P_check_node 3 d_check_node) (G__behind : DefOk P w K mg base (Tx.mk P w K Tb cl ql cells lam) "_behind" P__behind 2 d__behind) : DefOk P w K mg base (Tx.mk P w K Tb cl ql cells lam) "turned" P_turned 5 d_turned :=
  DefOk.trim pr_turned <| def_ok F hm B sc_turned fun cdv A outer s H E hr => by
    have hu := hr.units
    exact (v_seq (v_exp (v_callD G_check_web (hr.mono (by decide)) (takes_of rfl rfl rfl rfl) (v_cons (v_var 0) v_nil) (ar_cons ar_nil))) (v_seq (v_exp (v_callD G_check_node (hr.mono (by decide)) (takes_of rfl rfl rfl rfl) (v_cons (v_callB call_len (s_len rfl) T.n_len (by decide +kernel) (v_cons (v_var 0) v_nil)) (v_cons (v_var 1) v_nil)) (ar_cons (ar_cons ar_nil)))) (v_s1 (v_ret (v_callD G__behind (hr.mono (by decide)) (takes_of rfl rfl rfl rfl) (v_cons (v_var 0) (v_cons (v_var 1) v_nil)) (ar_cons (ar_cons ar_nil)))))))
abbrev s_turned_all : Stmt := top 27
abbrev N_turned_all : List Str := ["web", "row", "x"]
abbrev P_turned_all : List Str := ["web", "row"]
theorem sc_turned_all : FnScope N_turned_all P_turned_all (defScope s_turned_all) := ⟨rfl, rfl, rfl, by decide +kernel, rfl, by decide +kernel, by decide +kernel⟩
def b_turned_all : FS := (seqF (expF (callF d_check_web (consF (varF 0) nilF))) (seqF (expF (callF d_check_row (consF (clF lenG (consF (varF 0) nilF)) (consF (varF 1) nilF)))) (seqF (forF (seqI (varF 1)) (nameT 2) (asgF (callF d__behind (consF (varF 0) (consF (varF 2) nilF))) (nameT 0))) (retF (varF 0)))))
theorem pr_turned_all : PreD (defF 3 b_turned_all) := pre_def (by unfold b_turned_all; repeat' (first | exact pre_var | exact pre_con | exact pre_nil | exact pre_no | exact pre_noS | exact pre_newD | exact pre_lam0 | exact pre_lam1 | exact pre_send | exact pre_raise | exact pre_nameT | exact pre_nilT | exact pre_addG | exact pre_intG | exact pre_mulG | exact pre_cmpG | exact pre_eqG | exact pre_inG | exact pre_ixG | exact pre_negG | exact pre_lenG | exact pre_isiG | exact pre_twoG | exact pre_absG | exact pre_intC | exact pre_allG | exact pre_tupC | exact pre_lstC | refine pre_op ?_ ?_ ?_ | refine pre_un ?_ ?_ | refine pre_and ?_ ?_ | refine pre_or ?_ ?_ | refine pre_not ?_ | refine pre_ifF ?_ ?_ ?_ | refine pre_ch ?_ ?_ ?_ ?_ ?_ | refine pre_cons ?_ ?_ | refine pre_new ?_ | refine pre_cl ?_ ?_ | refine pre_call ?_ ?_ | refine pre_rg1 ?_ | refine pre_rg2 ?_ ?_ | refine pre_err ?_ | refine pre_seqI ?_ | refine pre_rg1I ?_ | refine pre_rg2I ?_ | refine pre_lc ?_ ?_ ?_ | refine pre_lc2 ?_ ?_ ?_ ?_ ?_ | refine pre_lenSet ?_ ?_ ?_ | refine pre_trim ?_ | refine pre_seq ?_ ?_ | refine pre_ret ?_ | refine pre_exp ?_ | refine pre_cond ?_ ?_ ?_ | refine pre_consT ?_ ?_ | refine pre_tupT ?_ | refine pre_asg ?_ ?_ | refine pre_par ?_ | refine pre_for ?_ ?_ ?_ | exact pd_is_whole | exact pd_is_node | exact pd_check_count | exact pd_check_node | exact pd_check_row | exact pd__is_line | exact pd_is_web | exact pd_check_web | exact pd_arrows | exact pd__is_arrow | exact pd__are_arrows | exact pd__many_behind | exact pd__behind | exact pd_turned))
def d_turned_all : FD := trimD (defF 3 b_turned_all)
theorem pd_turned_all : PreD d_turned_all := pre_trimD pr_turned_all
theorem ok_turned_all {P : Program} {w : World} {K : PySem.W.Frag} {mg : Str → Option Value} {base : Heap} {Tb : List (Addr × Str)} {cl : Nat → Addr} {ql : Str} {cells : List (Str × Addr)} {lam : Nat → LamI} {f : Addr} {fd : FuncData} (T : Txt K mg cl) (F : Fun K "turned_all" "turned_all" s_turned_all f fd) (hm : mg "turned_all" = some (.ref f)) (B : Binds K fd P_turned_all []) (G_check_web : DefOk P w K mg base (Tx.mk P w K Tb cl ql cells lam) "check_web" P_check_web 4 d_check_web) (G_check_row : DefOk P w K mg base (Tx.mk P w K Tb cl ql cells lam) "check_row" P_check_row 3 d_check_row) (G__behind : DefOk P w K mg base (Tx.mk P w K Tb cl ql cells lam) "_behind" P__behind 2 d__behind) : DefOk P w K mg base (Tx.mk P w K Tb cl ql cells lam) "turned_all" P_turned_all 5 d_turned_all :=
  DefOk.trim pr_turned_all <| def_ok F hm B sc_turned_all fun cdv A outer s H E hr => by
    have hu := hr.units
    exact (v_seq (v_exp (v_callD G_check_web (hr.mono (by decide)) (takes_of rfl rfl rfl rfl) (v_cons (v_var 0) v_nil) (ar_cons ar_nil))) (v_seq (v_exp (v_callD G_check_row (hr.mono (by decide)) (takes_of rfl rfl rfl rfl) (v_cons (v_callB call_len (s_len rfl) T.n_len (by decide +kernel) (v_cons (v_var 0) v_nil)) (v_cons (v_var 1) v_nil)) (ar_cons (ar_cons ar_nil)))) (v_seq (v_forS (passes_of rfl) (v_iseq rfl (v_var 1)) (v_gname 2 sc_turned_all.nd) (v_s1 (v_asg (v_callD G__behind (hr.mono (by decide)) (takes_of rfl rfl rfl rfl) (v_cons (v_var 0) (v_cons (v_var 2) v_nil)) (ar_cons (ar_cons ar_nil))) (v_gname 0 sc_turned_all.nd)))) (v_s1 (v_ret (v_var 0))))))
abbrev s__is_order : Stmt := top 31
abbrev N__is_order : List Str := ["n", "order", "x"]
abbrev P__is_order : List Str := ["n", "order"]
theorem sc__is_order : FnScope N__is_order P__is_order (defScope s__is_order) := ⟨rfl, rfl, rfl, by decide +kernel, rfl, by decide +kernel, by decide +kernel⟩
def b__is_order : FS := (seqF (condF (orF (notF (clF isiG (consF (varF 1) (consF (conF (.ty "tuple")) nilF)))) (opF (eqG true) (clF lenG (consF (varF 1) nilF)) (varF 0))) (retF (conF (.bl false))) endF) (retF (andF (clF (allG fun bs => bs.all id) (consF (lcF (seqI (varF 1)) (nameX 2) [2] (conF (.bl true)) (callF d_is_node (consF (varF 0) (consF (varF 2) nilF)))) nilF)) (opF (eqG false) noF (rg1F O.lst (varF 0))))))
theorem pr__is_order : PreD (defF 3 b__is_order) := pre_def (by unfold b__is_order; repeat' (first | exact pre_var | exact pre_con | exact pre_nil | exact pre_no | exact pre_noS | exact pre_newD | exact pre_lam0 | exact pre_lam1 | exact pre_send | exact pre_raise | exact pre_nameT | exact pre_nilT | exact pre_addG | exact pre_intG | exact pre_mulG | exact pre_cmpG | exact pre_eqG | exact pre_inG | exact pre_ixG | exact pre_negG | exact pre_lenG | exact pre_isiG | exact pre_twoG | exact pre_absG | exact pre_intC | exact pre_allG | exact pre_tupC | exact pre_lstC | refine pre_op ?_ ?_ ?_ | refine pre_un ?_ ?_ | refine pre_and ?_ ?_ | refine pre_or ?_ ?_ | refine pre_not ?_ | refine pre_ifF ?_ ?_ ?_ | refine pre_ch ?_ ?_ ?_ ?_ ?_ | refine pre_cons ?_ ?_ | refine pre_new ?_ | refine pre_cl ?_ ?_ | refine pre_call ?_ ?_ | refine pre_rg1 ?_ | refine pre_rg2 ?_ ?_ | refine pre_err ?_ | refine pre_seqI ?_ | refine pre_rg1I ?_ | refine pre_rg2I ?_ | refine pre_lc ?_ ?_ ?_ | refine pre_lc2 ?_ ?_ ?_ ?_ ?_ | refine pre_lenSet ?_ ?_ ?_ | refine pre_trim ?_ | refine pre_seq ?_ ?_ | refine pre_ret ?_ | refine pre_exp ?_ | refine pre_cond ?_ ?_ ?_ | refine pre_consT ?_ ?_ | refine pre_tupT ?_ | refine pre_asg ?_ ?_ | refine pre_par ?_ | refine pre_for ?_ ?_ ?_ | exact pd_is_whole | exact pd_is_node | exact pd_check_count | exact pd_check_node | exact pd_check_row | exact pd__is_line | exact pd_is_web | exact pd_check_web | exact pd_arrows | exact pd__is_arrow | exact pd__are_arrows | exact pd__many_behind | exact pd__behind | exact pd_turned | exact pd_turned_all))
def d__is_order : FD := trimD (defF 3 b__is_order)
theorem pd__is_order : PreD d__is_order := pre_trimD pr__is_order
theorem ok__is_order {P : Program} {w : World} {K : PySem.W.Frag} {mg : Str → Option Value} {base : Heap} {Tb : List (Addr × Str)} {cl : Nat → Addr} {ql : Str} {cells : List (Str × Addr)} {lam : Nat → LamI} {f : Addr} {fd : FuncData} (T : Txt K mg cl) (F : Fun K "_is_order" "_is_order" s__is_order f fd) (hm : mg "_is_order" = some (.ref f)) (B : Binds K fd P__is_order []) (G_is_node : DefOk P w K mg base (Tx.mk P w K Tb cl ql cells lam) "is_node" P_is_node 2 d_is_node) : DefOk P w K mg base (Tx.mk P w K Tb cl ql cells lam) "_is_order" P__is_order 3 d__is_order :=
  DefOk.trim pr__is_order <| def_ok F hm B sc__is_order fun cdv A outer s H E hr => by
    have hu := hr.units
    exact (v_seq (v_if (L2.PW.pt (v_wor (v_notT (v_val (v_callB isi_U (s_isi rfl) T.n_isinstance (by decide +kernel) (v_cons (v_var 1) (v_cons (v_ty T.n_tuple PyProof.Rows.boot_tuple) v_nil))))) (v_wor1 (v_cmpT (op_neD hu) (s_ne rfl) (v_callB call_len (s_len rfl) T.n_len (by decide +kernel) (v_cons (v_var 1) v_nil)) (v_var 0))))) (v_s1 (v_ret v_bl)) v_send) (v_s1 (v_ret (v_and (v_callB (cr_all rfl) (s_all rfl) T.n_all (by decide +kernel) (v_cons (v_lc [("x", 2)] sc__is_order.nd (v_iseq rfl (v_var 1)) (blkOk_by (N := N__is_order) (sc := defScope s__is_order) (by decide +kernel)) (fun _ _ _ _ _ => (v_xname 2 (by decide) sc__is_order.nd)) (fun _ _ _ _ _ => v_ts0) (fun _ _ _ _ _ => (v_callD G_is_node (hr.mono (by decide)) takesW0 (v_cons (v_var 0) (v_cons (v_var 2) v_nil)) (ar_cons (ar_cons ar_nil))))) v_nil)) (v_one (v_cmp (op_eqD hu) (s_eq rfl) v_no (v_lstRg1 T.n_list T.n_range (v_var 0))))))))
abbrev s_renamed : Stmt := top 30
abbrev N_renamed : List Str := ["web", "order", "n", "old", "x", "z", "y"]
abbrev P_renamed : List Str := ["web", "order"]
theorem sc_renamed : FnScope N_renamed P_renamed (defScope s_renamed) := ⟨rfl, rfl, rfl, by decide +kernel, rfl, by decide +kernel, by decide +kernel⟩
def b_renamed : FS := (seqF (expF (callF d_check_web (consF (varF 0) nilF))) (seqF (asgF (clF lenG (consF (varF 0) nilF)) (nameT 2)) (seqF (condF (notF (callF d__is_order (consF (varF 2) (consF (varF 1) nilF)))) (raiseF 7) endF) (seqF (asgF (lcF (rg1I (consF (varF 2) nilF)) (nameX 4) [4] (conF (.bl true)) noF) (nameT 3)) (retF (clF tupC (consF (lcF (seqI (varF 3)) (nameX 6) [6] (conF (.bl true)) (clF tupC (consF (lcF (seqI (varF 3)) (nameX 5) [5] (conF (.bl true)) (opF ixG (opF ixG (varF 0) (varF 6)) (varF 5))) nilF))) nilF)))))))
theorem pr_renamed : PreD (defF 7 b_renamed) := pre_def (by unfold b_renamed; repeat' (first | exact pre_var | exact pre_con | exact pre_nil | exact pre_no | exact pre_noS | exact pre_newD | exact pre_lam0 | exact pre_lam1 | exact pre_send | exact pre_raise | exact pre_nameT | exact pre_nilT | exact pre_addG | exact pre_intG | exact pre_mulG | exact pre_cmpG | exact pre_eqG | exact pre_inG | exact pre_ixG | exact pre_negG | exact pre_lenG | exact pre_isiG | exact pre_twoG | exact pre_absG | exact pre_intC | exact pre_allG | exact pre_tupC | exact pre_lstC | refine pre_op ?_ ?_ ?_ | refine pre_un ?_ ?_ | refine pre_and ?_ ?_ | refine pre_or ?_ ?_ | refine pre_not ?_ | refine pre_ifF ?_ ?_ ?_ | refine pre_ch ?_ ?_ ?_ ?_ ?_ | refine pre_cons ?_ ?_ | refine pre_new ?_ | refine pre_cl ?_ ?_ | refine pre_call ?_ ?_ | refine pre_rg1 ?_ | refine pre_rg2 ?_ ?_ | refine pre_err ?_ | refine pre_seqI ?_ | refine pre_rg1I ?_ | refine pre_rg2I ?_ | refine pre_lc ?_ ?_ ?_ | refine pre_lc2 ?_ ?_ ?_ ?_ ?_ | refine pre_lenSet ?_ ?_ ?_ | refine pre_trim ?_ | refine pre_seq ?_ ?_ | refine pre_ret ?_ | refine pre_exp ?_ | refine pre_cond ?_ ?_ ?_ | refine pre_consT ?_ ?_ | refine pre_tupT ?_ | refine pre_asg ?_ ?_ | refine pre_par ?_ | refine pre_for ?_ ?_ ?_ | exact pd_is_whole | exact pd_is_node | exact pd_check_count | exact pd_check_node | exact pd_check_row | exact pd__is_line | exact pd_is_web | exact pd_check_web | exact pd_arrows | exact pd__is_arrow | exact pd__are_arrows | exact pd__many_behind | exact pd__behind | exact pd_turned | exact pd_turned_all | exact pd__is_order))
def d_renamed : FD := trimD (defF 7 b_renamed)
theorem pd_renamed : PreD d_renamed := pre_trimD pr_renamed
theorem ok_renamed {P : Program} {w : World} {K : PySem.W.Frag} {mg : Str → Option Value} {base : Heap} {Tb : List (Addr × Str)} {cl : Nat → Addr} {ql : Str} {cells : List (Str × Addr)} {lam : Nat → LamI} {f : Addr} {fd : FuncData} (T : Txt K mg cl) (F : Fun K "renamed" "renamed" s_renamed f fd) (hm : mg "renamed" = some (.ref f)) (B : Binds K fd P_renamed []) (G_check_web : DefOk P w K mg base (Tx.mk P w K Tb cl ql cells lam) "check_web" P_check_web 4 d_check_web) (G__is_order : DefOk P w K mg base (Tx.mk P w K Tb cl ql cells lam) "_is_order" P__is_order 3 d__is_order) : DefOk P w K mg base (Tx.mk P w K Tb cl ql cells lam) "renamed" P_renamed 5 d_renamed :=
  DefOk.trim pr_renamed <| def_ok F hm B sc_renamed fun cdv A outer s H E hr => by
    have hu := hr.units
    exact (v_seq (v_exp (v_callD G_check_web (hr.mono (by decide)) (takes_of rfl rfl rfl rfl) (v_cons (v_var 0) v_nil) (ar_cons ar_nil))) (v_seq (v_asg (v_callB call_len (s_len rfl) T.n_len (by decide +kernel) (v_cons (v_var 0) v_nil)) (v_gname 2 sc_renamed.nd)) (v_seq (v_if (v_notT (v_val (v_callD G__is_order (hr.mono (by decide)) (takes_of rfl rfl rfl rfl) (v_cons (v_var 2) (v_cons (v_var 1) v_nil)) (ar_cons (ar_cons ar_nil))))) (v_s1 (v_raise (c := 7) PySem.F.excBase_ValueError T.e_BadOrder.1 T.e_BadOrder.2.1 T.e_BadOrder.2.2.1 (raises_own T.e_BadOrder.2.2.2.1 T.e_BadOrder.2.2.2.2) (takes_of rfl rfl rfl rfl))) v_send) (v_seq (v_asg (v_lc [("x", 4)] sc_renamed.nd (v_irg1 T.n_range (v_cons (v_var 2) v_nil)) (blkOk_by (N := N_renamed) (sc := defScope s_renamed) (by decide +kernel)) (fun _ _ _ _ _ => (v_xname 4 (by decide) sc_renamed.nd)) (fun _ _ _ _ _ => v_ts0) (fun _ _ _ _ _ => v_no)) (v_gname 3 sc_renamed.nd)) (v_s1 (v_ret (v_callTy call_tuple_of (s_tupC rfl) T.n_tuple (by decide +kernel) (v_cons (v_lc [("y", 6)] sc_renamed.nd (v_iseq rfl (v_var 3)) (blkOk_by (N := N_renamed) (sc := defScope s_renamed) (by decide +kernel)) (fun _ _ _ _ _ => (v_xname 6 (by decide) sc_renamed.nd)) (fun _ _ _ _ _ => v_ts0) (fun _ _ _ _ _ => (v_callTy call_tuple_of (s_tupC rfl) T.n_tuple (by decide +kernel) (v_cons (v_lc [("z", 5)] sc_renamed.nd (v_iseq rfl (v_var 3)) (blkOk_by (by kernel_rfl)) (fun _ _ _ _ _ => (v_xname 5 (by decide) sc_renamed.nd)) (fun _ _ _ _ _ => v_ts0) (fun _ _ _ _ _ => (v_ix ix_U (s_ix rfl) (v_ix ix_U (s_ix rfl) (v_var 0) (v_var 6)) (v_var 5)))) v_nil)))) v_nil))))))))
abbrev s__part_of : Stmt := top 33
abbrev N__part_of : List Str := ["web", "x", "part", "waiting", "y", "z"]
abbrev P__part_of : List Str := ["web", "x"]
theorem sc__part_of : FnScope N__part_of P__part_of (defScope s__part_of) := ⟨rfl, rfl, rfl, by decide +kernel, rfl, by decide +kernel, by decide +kernel⟩
def b__part_of : FS := (seqF (asgF (newF O.lst (consF (varF 1) nilF)) (nameT 2)) (seqF (asgF (newF O.lst (consF (varF 1) nilF)) (nameT 3)) (seqF noS (retF (clF tupC (consF noF nilF))))))
theorem pr__part_of : PreD (defF 6 b__part_of) := pre_def (by unfold b__part_of; repeat' (first | exact pre_var | exact pre_con | exact pre_nil | exact pre_no | exact pre_noS | exact pre_newD | exact pre_lam0 | exact pre_lam1 | exact pre_send | exact pre_raise | exact pre_nameT | exact pre_nilT | exact pre_addG | exact pre_intG | exact pre_mulG | exact pre_cmpG | exact pre_eqG | exact pre_inG | exact pre_ixG | exact pre_negG | exact pre_lenG | exact pre_isiG | exact pre_twoG | exact pre_absG | exact pre_intC | exact pre_allG | exact pre_tupC | exact pre_lstC | refine pre_op ?_ ?_ ?_ | refine pre_un ?_ ?_ | refine pre_and ?_ ?_ | refine pre_or ?_ ?_ | refine pre_not ?_ | refine pre_ifF ?_ ?_ ?_ | refine pre_ch ?_ ?_ ?_ ?_ ?_ | refine pre_cons ?_ ?_ | refine pre_new ?_ | refine pre_cl ?_ ?_ | refine pre_call ?_ ?_ | refine pre_rg1 ?_ | refine pre_rg2 ?_ ?_ | refine pre_err ?_ | refine pre_seqI ?_ | refine pre_rg1I ?_ | refine pre_rg2I ?_ | refine pre_lc ?_ ?_ ?_ | refine pre_lc2 ?_ ?_ ?_ ?_ ?_ | refine pre_lenSet ?_ ?_ ?_ | refine pre_trim ?_ | refine pre_seq ?_ ?_ | refine pre_ret ?_ | refine pre_exp ?_ | refine pre_cond ?_ ?_ ?_ | refine pre_consT ?_ ?_ | refine pre_tupT ?_ | refine pre_asg ?_ ?_ | refine pre_par ?_ | refine pre_for ?_ ?_ ?_ | exact pd_is_whole | exact pd_is_node | exact pd_check_count | exact pd_check_node | exact pd_check_row | exact pd__is_line | exact pd_is_web | exact pd_check_web | exact pd_arrows | exact pd__is_arrow | exact pd__are_arrows | exact pd__many_behind | exact pd__behind | exact pd_turned | exact pd_turned_all | exact pd__is_order | exact pd_renamed))
def d__part_of : FD := trimD (defF 6 b__part_of)
theorem pd__part_of : PreD d__part_of := pre_trimD pr__part_of
theorem ok__part_of {P : Program} {w : World} {K : PySem.W.Frag} {mg : Str → Option Value} {base : Heap} {Tb : List (Addr × Str)} {cl : Nat → Addr} {ql : Str} {cells : List (Str × Addr)} {lam : Nat → LamI} {f : Addr} {fd : FuncData} (T : Txt K mg cl) (F : Fun K "_part_of" "_part_of" s__part_of f fd) (hm : mg "_part_of" = some (.ref f)) (B : Binds K fd P__part_of [])  : DefOk P w K mg base (Tx.mk P w K Tb cl ql cells lam) "_part_of" P__part_of 1 d__part_of :=
  DefOk.trim pr__part_of <| def_ok F hm B sc__part_of fun cdv A outer s H E hr => by
    have hu := hr.units
    exact (v_seq (v_asg (v_lst (v_cons (v_var 1) v_nil)) (v_gname 2 sc__part_of.nd)) (v_seq (v_asg (v_lst (v_cons (v_var 1) v_nil)) (v_gname 3 sc__part_of.nd)) (v_seq v_noS (v_s1 (v_ret (v_callTy call_tuple_of (s_tupC rfl) T.n_tuple (by decide +kernel) (v_cons v_no v_nil)))))))
abbrev s_parts : Stmt := top 32
abbrev N_parts : List Str := ["web", "found", "seen", "x", "part"]
abbrev P_parts : List Str := ["web"]
theorem sc_parts : FnScope N_parts P_parts (defScope s_parts) := ⟨rfl, rfl, rfl, by decide +kernel, rfl, by decide +kernel, by decide +kernel⟩
def b_parts : FS := (seqF (expF (callF d_check_web (consF (varF 0) nilF))) (seqF (asgF (newF O.lst nilF) (nameT 1)) (seqF (asgF (newF O.lst nilF) (nameT 2)) (seqF (forF (rg1I (consF (clF lenG (consF (varF 0) nilF)) nilF)) (nameT 3) (condF (opF (inG true) (varF 3) (varF 2)) (seqF (asgF (callF d__part_of (consF (varF 0) (consF (varF 3) nilF))) (nameT 4)) (seqF (expF noF) (expF noF))) endF)) (retF (clF tupC (consF (varF 1) nilF)))))))
theorem pr_parts : PreD (defF 5 b_parts) := pre_def (by unfold b_parts; repeat' (first | exact pre_var | exact pre_con | exact pre_nil | exact pre_no | exact pre_noS | exact pre_newD | exact pre_lam0 | exact pre_lam1 | exact pre_send | exact pre_raise | exact pre_nameT | exact pre_nilT | exact pre_addG | exact pre_intG | exact pre_mulG | exact pre_cmpG | exact pre_eqG | exact pre_inG | exact pre_ixG | exact pre_negG | exact pre_lenG | exact pre_isiG | exact pre_twoG | exact pre_absG | exact pre_intC | exact pre_allG | exact pre_tupC | exact pre_lstC | refine pre_op ?_ ?_ ?_ | refine pre_un ?_ ?_ | refine pre_and ?_ ?_ | refine pre_or ?_ ?_ | refine pre_not ?_ | refine pre_ifF ?_ ?_ ?_ | refine pre_ch ?_ ?_ ?_ ?_ ?_ | refine pre_cons ?_ ?_ | refine pre_new ?_ | refine pre_cl ?_ ?_ | refine pre_call ?_ ?_ | refine pre_rg1 ?_ | refine pre_rg2 ?_ ?_ | refine pre_err ?_ | refine pre_seqI ?_ | refine pre_rg1I ?_ | refine pre_rg2I ?_ | refine pre_lc ?_ ?_ ?_ | refine pre_lc2 ?_ ?_ ?_ ?_ ?_ | refine pre_lenSet ?_ ?_ ?_ | refine pre_trim ?_ | refine pre_seq ?_ ?_ | refine pre_ret ?_ | refine pre_exp ?_ | refine pre_cond ?_ ?_ ?_ | refine pre_consT ?_ ?_ | refine pre_tupT ?_ | refine pre_asg ?_ ?_ | refine pre_par ?_ | refine pre_for ?_ ?_ ?_ | exact pd_is_whole | exact pd_is_node | exact pd_check_count | exact pd_check_node | exact pd_check_row | exact pd__is_line | exact pd_is_web | exact pd_check_web | exact pd_arrows | exact pd__is_arrow | exact pd__are_arrows | exact pd__many_behind | exact pd__behind | exact pd_turned | exact pd_turned_all | exact pd__is_order | exact pd_renamed | exact pd__part_of))
def d_parts : FD := trimD (defF 5 b_parts)
theorem pd_parts : PreD d_parts := pre_trimD pr_parts
theorem ok_parts {P : Program} {w : World} {K : PySem.W.Frag} {mg : Str → Option Value} {base : Heap} {Tb : List (Addr × Str)} {cl : Nat → Addr} {ql : Str} {cells : List (Str × Addr)} {lam : Nat → LamI} {f : Addr} {fd : FuncData} (T : Txt K mg cl) (F : Fun K "parts" "parts" s_parts f fd) (hm : mg "parts" = some (.ref f)) (B : Binds K fd P_parts []) (G_check_web : DefOk P w K mg base (Tx.mk P w K Tb cl ql cells lam) "check_web" P_check_web 4 d_check_web) (G__part_of : DefOk P w K mg base (Tx.mk P w K Tb cl ql cells lam) "_part_of" P__part_of 1 d__part_of) : DefOk P w K mg base (Tx.mk P w K Tb cl ql cells lam) "parts" P_parts 5 d_parts :=
  DefOk.trim pr_parts <| def_ok F hm B sc_parts fun cdv A outer s H E hr => by
    have hu := hr.units
    exact (v_seq (v_exp (v_callD G_check_web (hr.mono (by decide)) (takes_of rfl rfl rfl rfl) (v_cons (v_var 0) v_nil) (ar_cons ar_nil))) (v_seq (v_asg (v_lst v_nil) (v_gname 1 sc_parts.nd)) (v_seq (v_asg (v_lst v_nil) (v_gname 2 sc_parts.nd)) (v_seq (v_forS (passes_of rfl) (v_irg1 T.n_range (v_cons (v_callB call_len (s_len rfl) T.n_len (by decide +kernel) (v_cons (v_var 0) v_nil)) v_nil)) (v_gname 3 sc_parts.nd) (v_s1 (v_if (v_cmpT op_notIn_seq (s_in rfl) (v_var 3) (v_var 2)) (v_seq (v_asg (v_callD G__part_of (hr.mono (by decide)) (takes_of rfl rfl rfl rfl) (v_cons (v_var 0) (v_cons (v_var 3) v_nil)) (ar_cons (ar_cons ar_nil))) (v_gname 4 sc_parts.nd)) (v_seq (v_exp v_no) (v_s1 (v_exp v_no)))) v_send))) (v_s1 (v_ret (v_callTy call_tuple_of (s_tupC rfl) T.n_tuple (by decide +kernel) (v_cons (v_var 1) v_nil))))))))
abbrev s_is_tree : Stmt := top 34
abbrev N_is_tree : List Str := ["web", "n", "told", "y", "z", "many"]
abbrev P_is_tree : List Str := ["web"]
theorem sc_is_tree : FnScope N_is_tree P_is_tree (defScope s_is_tree) := ⟨rfl, rfl, rfl, by decide +kernel, rfl, by decide +kernel, by decide +kernel⟩
def b_is_tree : FS := (seqF (expF (callF d_check_web (consF (varF 0) nilF))) (seqF (asgF (clF lenG (consF (varF 0) nilF)) (nameT 1)) (seqF (asgF (callF d_arrows (consF (varF 0) nilF)) (nameT 2)) (retF (andF (opF (eqG false) (clF lenG (consF (callF d_parts (consF (varF 0) nilF)) nilF)) (conF (.int 1))) (andF (opF (eqG false) (clF lenG (consF (varF 2) nilF)) (opF subG (varF 1) (conF (.int 1)))) (clF (allG fun bs => bs.all id) (consF (lcF (seqI (varF 2)) (tupX 3 (consX (nameX 3) (consX (nameX 4) (consX (nameX 5) nilX)))) [3, 4, 5] (conF (.bl true)) (opF (eqG false) (varF 5) (conF (.int 1)))) nilF))))))))
theorem pr_is_tree : PreD (defF 6 b_is_tree) := pre_def (by unfold b_is_tree; repeat' (first | exact pre_var | exact pre_con | exact pre_nil | exact pre_no | exact pre_noS | exact pre_newD | exact pre_lam0 | exact pre_lam1 | exact pre_send | exact pre_raise | exact pre_nameT | exact pre_nilT | exact pre_addG | exact pre_intG | exact pre_mulG | exact pre_cmpG | exact pre_eqG | exact pre_inG | exact pre_ixG | exact pre_negG | exact pre_lenG | exact pre_isiG | exact pre_twoG | exact pre_absG | exact pre_intC | exact pre_allG | exact pre_tupC | exact pre_lstC | refine pre_op ?_ ?_ ?_ | refine pre_un ?_ ?_ | refine pre_and ?_ ?_ | refine pre_or ?_ ?_ | refine pre_not ?_ | refine pre_ifF ?_ ?_ ?_ | refine pre_ch ?_ ?_ ?_ ?_ ?_ | refine pre_cons ?_ ?_ | refine pre_new ?_ | refine pre_cl ?_ ?_ | refine pre_call ?_ ?_ | refine pre_rg1 ?_ | refine pre_rg2 ?_ ?_ | refine pre_err ?_ | refine pre_seqI ?_ | refine pre_rg1I ?_ | refine pre_rg2I ?_ | refine pre_lc ?_ ?_ ?_ | refine pre_lc2 ?_ ?_ ?_ ?_ ?_ | refine pre_lenSet ?_ ?_ ?_ | refine pre_trim ?_ | refine pre_seq ?_ ?_ | refine pre_ret ?_ | refine pre_exp ?_ | refine pre_cond ?_ ?_ ?_ | refine pre_consT ?_ ?_ | refine pre_tupT ?_ | refine pre_asg ?_ ?_ | refine pre_par ?_ | refine pre_for ?_ ?_ ?_ | exact pd_is_whole | exact pd_is_node | exact pd_check_count | exact pd_check_node | exact pd_check_row | exact pd__is_line | exact pd_is_web | exact pd_check_web | exact pd_arrows | exact pd__is_arrow | exact pd__are_arrows | exact pd__many_behind | exact pd__behind | exact pd_turned | exact pd_turned_all | exact pd__is_order | exact pd_renamed | exact pd__part_of | exact pd_parts))
def d_is_tree : FD := trimD (defF 6 b_is_tree)
theorem pd_is_tree : PreD d_is_tree := pre_trimD pr_is_tree
theorem ok_is_tree {P : Program} {w : World} {K : PySem.W.Frag} {mg : Str → Option Value} {base : Heap} {Tb : List (Addr × Str)} {cl : Nat → Addr} {ql : Str} {cells : List (Str × Addr)} {lam : Nat → LamI} {f : Addr} {fd : FuncData} (T : Txt K mg cl) (F : Fun K "is_tree" "is_tree" s_is_tree f fd) (hm : mg "is_tree" = some (.ref f)) (B : Binds K fd P_is_tree []) (G_check_web : DefOk P w K mg base (Tx.mk P w K Tb cl ql cells lam) "check_web" P_check_web 4 d_check_web) (G_arrows : DefOk P w K mg base (Tx.mk P w K Tb cl ql cells lam) "arrows" P_arrows 5 d_arrows) (G_parts : DefOk P w K mg base (Tx.mk P w K Tb cl ql cells lam) "parts" P_parts 5 d_parts) : DefOk P w K mg base (Tx.mk P w K Tb cl ql cells lam) "is_tree" P_is_tree 6 d_is_tree :=
  DefOk.trim pr_is_tree <| def_ok F hm B sc_is_tree fun cdv A outer s H E hr => by
    have hu := hr.units
    exact (v_seq (v_exp (v_callD G_check_web (hr.mono (by decide)) (takes_of rfl rfl rfl rfl) (v_cons (v_var 0) v_nil) (ar_cons ar_nil))) (v_seq (v_asg (v_callB call_len (s_len rfl) T.n_len (by decide +kernel) (v_cons (v_var 0) v_nil)) (v_gname 1 sc_is_tree.nd)) (v_seq (v_asg (v_callD G_arrows (hr.mono (by decide)) (takes_of rfl rfl rfl rfl) (v_cons (v_var 0) v_nil) (ar_cons ar_nil)) (v_gname 2 sc_is_tree.nd)) (v_s1 (v_ret (v_and (v_cmp (op_eqD hu) (s_eq rfl) (v_callB call_len (s_len rfl) T.n_len (by decide +kernel) (v_cons (v_callD G_parts (hr.mono (by decide)) (takes_of rfl rfl rfl rfl) (v_cons (v_var 0) v_nil) (ar_cons ar_nil)) v_nil)) v_int) (v_and (v_cmp (op_eqD hu) (s_eq rfl) (v_callB call_len (s_len rfl) T.n_len (by decide +kernel) (v_cons (v_var 2) v_nil)) (v_op op_sub s_sub (v_var 1) v_int)) (v_one (v_callB (cr_all rfl) (s_all rfl) T.n_all (by decide +kernel) (v_cons (v_lc [("y", 3), ("z", 4), ("many", 5)] sc_is_tree.nd (v_iseq rfl (v_var 2)) (blkOk_by (N := N_is_tree) (sc := defScope s_is_tree) (by decide +kernel)) (fun _ _ _ _ _ => (v_xtup rfl (pg_tup rfl (v_xcons (v_xname 3 (by decide) sc_is_tree.nd) (v_xcons (v_xname 4 (by decide) sc_is_tree.nd) (v_xcons (v_xname 5 (by decide) sc_is_tree.nd) v_xnil)))))) (fun _ _ _ _ _ => v_ts0) (fun _ _ _ _ _ => (v_cmp (op_eqD hu) (s_eq rfl) (v_var 5) v_int))) v_nil))))))))))
abbrev s__law_taken : Stmt := top 36
abbrev N__law_taken : List Str := ["row", "many", "found", "cell"]
abbrev P__law_taken : List Str := ["row", "many"]
theorem sc__law_taken : FnScope N__law_taken P__law_taken (defScope s__law_taken) := ⟨rfl, rfl, rfl, by decide +kernel, rfl, by decide +kernel, by decide +kernel⟩
def b__law_taken : FS := (seqF (condF (opF (cmpG fun i j => decide (i > j)) (opF ixG (varF 0) (conF (.int 3))) (conF (.int 0))) (seqF (asgF (opF modG (clF intC (consF (opF ixG (varF 0) (conF (.int 3))) nilF)) (varF 1)) (nameT 2)) (seqF (asgF (opF fdivG (opF ixG (varF 0) (conF (.int 3))) (varF 1)) (subT (varF 0) (conF (.int 3)))) (retF (varF 2)))) endF) (seqF (asgF (opF addG (opF ixG (varF 0) (conF (.int 1))) (conF (.int 1))) (subT (varF 0) (conF (.int 1)))) (seqF (condF (opF (cmpG fun i j => decide (i > j)) (opF ixG (varF 0) (conF (.int 1))) (clF lenG (consF (opF ixG (varF 0) (conF (.int 0))) nilF))) (seqF (asgF (opF modG (clF intC (consF (opF addG (opF mulG (opF ixG (varF 0) (conF (.int 2))) (conF (.int 48271))) (conF (.int 11))) nilF)) (conF (.int 2147483647))) (subT (varF 0) (conF (.int 2)))) (retF (opF modG (clF intC (consF (opF fdivG (opF ixG (varF 0) (conF (.int 2))) (conF (.int 7))) nilF)) (varF 1)))) endF) (seqF (asgF (opF ixG (opF ixG (varF 0) (conF (.int 0))) (opF subG (opF ixG (varF 0) (conF (.int 1))) (conF (.int 1)))) (nameT 3)) (seqF (asgF (opF modG (clF intC (consF (opF addG (opF addG (opF mulG (opF ixG (varF 0) (conF (.int 2))) (conF (.int 48271))) (varF 3)) (conF (.int 11))) nilF)) (conF (.int 2147483647))) (subT (varF 0) (conF (.int 2)))) (seqF (condF (opF (cmpG fun i j => decide (i ≥ j)) (varF 3) (opF powG (conF (.int 10)) (conF (.int 18)))) (asgF (opF fdivG (varF 3) (varF 1)) (subT (varF 0) (conF (.int 3)))) endF) (retF (opF modG (clF intC (consF (varF 3) nilF)) (varF 1)))))))))
def d__law_taken : FD := defF 4 b__law_taken
theorem ok__law_taken {P : Program} {w : World} {K : PySem.W.Frag} {mg : Str → Option Value} {base : Heap} {Tb : List (Addr × Str)} {cl : Nat → Addr} {ql : Str} {cells : List (Str × Addr)} {lam : Nat → LamI} {f : Addr} {fd : FuncData} (T : Txt K mg cl) (F : Fun K "_law_taken" "_law_taken" s__law_taken f fd) (hm : mg "_law_taken" = some (.ref f)) (B : Binds K fd P__law_taken [])  : DefOk P w K mg base (Tx.mk P w K Tb cl ql cells lam) "_law_taken" P__law_taken 1 d__law_taken :=
  def_ok F hm B sc__law_taken fun cdv A outer s H E hr => by
    have hu := hr.units
    exact (v_seq (v_if (v_cmpT op_gt s_cmp (v_ix ix_U (s_ix rfl) (v_var 0) v_int) v_int) (v_seq (v_asg (v_op op_modN s_mod (v_callTy call_int1 s_intC T.n_int (by decide +kernel) (v_cons (v_ix ix_U (s_ix rfl) (v_var 0) v_int) v_nil)) (v_var 1)) (v_gname 2 sc__law_taken.nd)) (v_seq (v_asg (v_op op_fdivN s_fdiv (v_ix ix_U (s_ix rfl) (v_var 0) v_int) (v_var 1)) (v_gsub (W := W0) (v_var 0) v_int (pg_sub (v_var 0) v_int set_list))) (v_s1 (v_ret (v_var 2))))) v_send) (v_seq (v_asg (v_op op_addU (s_add rfl) (v_ix ix_U (s_ix rfl) (v_var 0) v_int) v_int) (v_gsub (W := W0) (v_var 0) v_int (pg_sub (v_var 0) v_int set_list))) (v_seq (v_if (v_cmpT op_gt s_cmp (v_ix ix_U (s_ix rfl) (v_var 0) v_int) (v_callB call_len (s_len rfl) T.n_len (by decide +kernel) (v_cons (v_ix ix_U (s_ix rfl) (v_var 0) v_int) v_nil))) (v_seq (v_asg (v_op op_modN s_mod (v_callTy call_int1 s_intC T.n_int (by decide +kernel) (v_cons (v_op op_addU (s_add rfl) (v_op op_mulU (s_mul rfl) (v_ix ix_U (s_ix rfl) (v_var 0) v_int) v_int) v_int) v_nil)) v_int) (v_gsub (W := W0) (v_var 0) v_int (pg_sub (v_var 0) v_int set_list))) (v_s1 (v_ret (v_op op_modN s_mod (v_callTy call_int1 s_intC T.n_int (by decide +kernel) (v_cons (v_op op_fdivN s_fdiv (v_ix ix_U (s_ix rfl) (v_var 0) v_int) v_int) v_nil)) (v_var 1))))) v_send) (v_seq (v_asg (v_ix ix_U (s_ix rfl) (v_ix ix_U (s_ix rfl) (v_var 0) v_int) (v_op op_sub s_sub (v_ix ix_U (s_ix rfl) (v_var 0) v_int) v_int)) (v_gname 3 sc__law_taken.nd)) (v_seq (v_asg (v_op op_modN s_mod (v_callTy call_int1 s_intC T.n_int (by decide +kernel) (v_cons (v_op op_addU (s_add rfl) (v_op op_addU (s_add rfl) (v_op op_mulU (s_mul rfl) (v_ix ix_U (s_ix rfl) (v_var 0) v_int) v_int) (v_var 3)) v_int) v_nil)) v_int) (v_gsub (W := W0) (v_var 0) v_int (pg_sub (v_var 0) v_int set_list))) (v_seq (v_if (v_cmpT op_ge s_cmp (v_var 3) (v_op op_pow s_pow v_int v_int)) (v_s1 (v_asg (v_op op_fdivN s_fdiv (v_var 3) (v_var 1)) (v_gsub (W := W0) (v_var 0) v_int (pg_sub (v_var 0) v_int set_list)))) v_send) (v_s1 (v_ret (v_op op_modN s_mod (v_callTy call_int1 s_intC T.n_int (by decide +kernel) (v_cons (v_var 3) v_nil)) (v_var 1))))))))))
abbrev s__law_pick : Stmt := top 37
abbrev N__law_pick : List Str := ["row", "things"]
abbrev P__law_pick : List Str := ["row", "things"]
theorem sc__law_pick : FnScope N__law_pick P__law_pick (defScope s__law_pick) := ⟨rfl, rfl, rfl, by decide +kernel, rfl, by decide +kernel, by decide +kernel⟩
def b__law_pick : FS := (retF (opF ixG (varF 1) (callF d__law_taken (consF (varF 0) (consF (clF lenG (consF (varF 1) nilF)) nilF)))))
def d__law_pick : FD := defF 2 b__law_pick
theorem ok__law_pick {P : Program} {w : World} {K : PySem.W.Frag} {mg : Str → Option Value} {base : Heap} {Tb : List (Addr × Str)} {cl : Nat → Addr} {ql : Str} {cells : List (Str × Addr)} {lam : Nat → LamI} {f : Addr} {fd : FuncData} (T : Txt K mg cl) (F : Fun K "_law_pick" "_law_pick" s__law_pick f fd) (hm : mg "_law_pick" = some (.ref f)) (B : Binds K fd P__law_pick []) (G__law_taken : DefOk P w K mg base (Tx.mk P w K Tb cl ql cells lam) "_law_taken" P__law_taken 1 d__law_taken) : DefOk P w K mg base (Tx.mk P w K Tb cl ql cells lam) "_law_pick" P__law_pick 2 d__law_pick :=
  def_ok F hm B sc__law_pick fun cdv A outer s H E hr => by
    have hu := hr.units
    exact (v_s1 (v_ret (v_ix ix_U (s_ix rfl) (v_var 1) (v_callD G__law_taken (hr.mono (by decide)) (takes_of rfl rfl rfl rfl) (v_cons (v_var 0) (v_cons (v_callB call_len (s_len rfl) T.n_len (by decide +kernel) (v_cons (v_var 1) v_nil)) v_nil)) (ar_cons (ar_cons ar_nil))))))
abbrev s__law_web : Stmt := top 38
abbrev N__law_web : List Str := ["row", "most", "strong", "n", "way", "table", "x", "z", "y", "many", "line"]
abbrev P__law_web : List Str := ["row", "most", "strong"]
theorem sc__law_web : FnScope N__law_web P__law_web (defScope s__law_web) := ⟨rfl, rfl, rfl, by decide +kernel, rfl, by decide +kernel, by decide +kernel⟩
def b__law_web : FS := (seqF (asgF (newF O.tup (consF (opF addG (conF (.int 1)) (callF d__law_taken (consF (varF 0) (consF (varF 1) nilF)))) (consF (callF d__law_taken (consF (varF 0) (consF (conF (.int 5)) nilF))) nilF))) (tupT 2 (consT (nameT 3) (consT (nameT 4) nilT)))) (seqF (asgF (lcF (rg1I (consF (varF 3) nilF)) (nameX 6) [6] (conF (.bl true)) (opF mulG (newF O.lst (consF (conF (.int 0)) nilF)) (varF 3))) (nameT 5)) (seqF (forF (rg2I (consF (conF (.int 1)) (consF (varF 3) nilF))) (nameT 7) (forF (rg1I (consF (varF 7) nilF)) (nameT 8) (seqF (asgF (conF (.int 0)) (nameT 9)) (seqF (condF (opF (cmpG fun i j => decide (i < j)) (varF 4) (conF (.int 2))) (asgF (opF mulG (callF d__law_pick (consF (varF 0) (consF (newF O.lst (consF (conF (.int 0)) (consF (conF (.int 0)) (consF (conF (.int 1)) (consF (opF subG (conF (.int 0)) (conF (.int 1))) nilF))))) nilF))) (opF addG (conF (.int 1)) (callF d__law_taken (consF (varF 0) (consF (varF 2) nilF))))) (nameT 9)) (condF (opF (eqG false) (varF 4) (conF (.int 2))) (asgF (opF mulG (callF d__law_pick (consF (varF 0) (consF (newF O.lst (consF (conF (.int 1)) (consF (opF subG (conF (.int 0)) (conF (.int 1))) nilF))) nilF))) (clF intC (consF (opF (eqG false) (varF 8) (opF subG (varF 7) (conF (.int 1)))) nilF))) (nameT 9)) (condF (opF (eqG false) (varF 4) (conF (.int 3))) (asgF (opF subG (clF intC (consF (opF (eqG false) (varF 8) (opF subG (varF 7) (conF (.int 1)))) nilF)) (clF intC (consF (andF (opF (eqG false) (varF 8) (conF (.int 0))) (andF (opF (eqG false) (varF 7) (opF subG (varF 3) (conF (.int 1)))) (opF (cmpG fun i j => decide (i > j)) (varF 3) (conF (.int 2))))) nilF))) (nameT 9)) endF))) (asgF (newF O.tup (consF (varF 9) (consF (opF subG (conF (.int 0)) (varF 9)) nilF))) (tupT 2 (consT (subT (opF ixG (varF 5) (varF 8)) (varF 7)) (consT (subT (opF ixG (varF 5) (varF 7)) (varF 8)) nilT)))))))) (seqF (condF (opF (eqG false) (varF 4) (conF (.int 4))) (forF (rg2I (consF (conF (.int 1)) (consF (varF 3) nilF))) (nameT 7) (seqF (parF 8 9 (consF (callF d__law_taken (consF (varF 0) (consF (varF 7) nilF))) (consF (callF d__law_pick (consF (varF 0) (consF (newF O.lst (consF (conF (.int 1)) (consF (opF subG (conF (.int 0)) (conF (.int 1))) nilF))) nilF))) nilF))) (asgF (newF O.tup (consF (varF 9) (consF (opF subG (conF (.int 0)) (varF 9)) nilF))) (tupT 2 (consT (subT (opF ixG (varF 5) (varF 8)) (varF 7)) (consT (subT (opF ixG (varF 5) (varF 7)) (varF 8)) nilT)))))) endF) (retF (clF tupC (consF (lcF (seqI (varF 5)) (nameX 10) [10] (conF (.bl true)) (clF tupC (consF (varF 10) nilF))) nilF)))))))
def d__law_web : FD := defF 11 b__law_web
theorem ok__law_web {P : Program} {w : World} {K : PySem.W.Frag} {mg : Str → Option Value} {base : Heap} {Tb : List (Addr × Str)} {cl : Nat → Addr} {ql : Str} {cells : List (Str × Addr)} {lam : Nat → LamI} {f : Addr} {fd : FuncData} (T : Txt K mg cl) (F : Fun K "_law_web" "_law_web" s__law_web f fd) (hm : mg "_law_web" = some (.ref f)) (B : Binds K fd P__law_web []) (G__law_taken : DefOk P w K mg base (Tx.mk P w K Tb cl ql cells lam) "_law_taken" P__law_taken 1 d__law_taken) (G__law_pick : DefOk P w K mg base (Tx.mk P w K Tb cl ql cells lam) "_law_pick" P__law_pick 2 d__law_pick) : DefOk P w K mg base (Tx.mk P w K Tb cl ql cells lam) "_law_web" P__law_web 3 d__law_web :=
  def_ok F hm B sc__law_web fun cdv A outer s H E hr => by
    have hu := hr.units
    exact (v_seq (v_asg (v_tup (v_cons (v_op op_addU (s_add rfl) v_int (v_callD G__law_taken (hr.mono (by decide)) (takes_of rfl rfl rfl rfl) (v_cons (v_var 0) (v_cons (v_var 1) v_nil)) (ar_cons (ar_cons ar_nil)))) (v_cons (v_callD G__law_taken (hr.mono (by decide)) (takes_of rfl rfl rfl rfl) (v_cons (v_var 0) (v_cons v_int v_nil)) (ar_cons (ar_cons ar_nil))) v_nil))) (v_gtupS rfl (pg_tup rfl (v_gcons (v_gname 3 sc__law_web.nd) (v_gcons (v_gname 4 sc__law_web.nd) v_gnil))))) (v_seq (v_setLc [("x", 6)] (i := 5) sc__law_web.nd rfl rfl (sw_true rfl rfl rfl (by decide +kernel)) (v_irg1 T.n_range (v_cons (v_var 3) v_nil)) (blkOk_by (N := N__law_web) (sc := defScope s__law_web) (by decide +kernel)) (fun _ _ _ _ _ => (v_xname 6 (by decide) sc__law_web.nd)) (fun _ _ _ _ _ => v_ts0) (fun _ _ _ _ _ => (v_op op_mulU (s_mul rfl) (v_lst (v_cons v_int v_nil)) (v_var 3)))) (v_seq (v_forS (passes_of rfl) (v_irg2 T.n_range (v_cons v_int (v_cons (v_var 3) v_nil))) (v_gname 7 sc__law_web.nd) (v_s1 (v_forS (passes_of rfl) (v_irg1 T.n_range (v_cons (v_var 7) v_nil)) (v_gname 8 sc__law_web.nd) (v_seq (v_asg v_int (v_gname 9 sc__law_web.nd)) (v_seq (v_if (v_cmpT op_lt s_cmp (v_var 4) v_int) (v_s1 (v_asg (v_op op_mulU (s_mul rfl) (v_callD G__law_pick (hr.mono (by decide)) (takes_of rfl rfl rfl rfl) (v_cons (v_var 0) (v_cons (v_lst (v_cons v_int (v_cons v_int (v_cons v_int (v_cons (v_op op_sub s_sub v_int v_int) v_nil))))) v_nil)) (ar_cons (ar_cons ar_nil))) (v_op op_addU (s_add rfl) v_int (v_callD G__law_taken (hr.mono (by decide)) (takes_of rfl rfl rfl rfl) (v_cons (v_var 0) (v_cons (v_var 2) v_nil)) (ar_cons (ar_cons ar_nil))))) (v_gname 9 sc__law_web.nd))) (v_s1 (v_if (v_cmpT (op_eqD hu) (s_eq rfl) (v_var 4) v_int) (v_s1 (v_asg (v_op op_mulU (s_mul rfl) (v_callD G__law_pick (hr.mono (by decide)) (takes_of rfl rfl rfl rfl) (v_cons (v_var 0) (v_cons (v_lst (v_cons v_int (v_cons (v_op op_sub s_sub v_int v_int) v_nil))) v_nil)) (ar_cons (ar_cons ar_nil))) (v_callTy call_int1 s_intC T.n_int (by decide +kernel) (v_cons (v_cmp (op_eqD hu) (s_eq rfl) (v_var 8) (v_op op_sub s_sub (v_var 7) v_int)) v_nil))) (v_gname 9 sc__law_web.nd))) (v_s1 (v_if (v_cmpT (op_eqD hu) (s_eq rfl) (v_var 4) v_int) (v_s1 (v_asg (v_op op_sub s_sub (v_callTy call_int1 s_intC T.n_int (by decide +kernel) (v_cons (v_cmp (op_eqD hu) (s_eq rfl) (v_var 8) (v_op op_sub s_sub (v_var 7) v_int)) v_nil)) (v_callTy call_int1 s_intC T.n_int (by decide +kernel) (v_cons (v_and (v_cmp (op_eqD hu) (s_eq rfl) (v_var 8) v_int) (v_and (v_cmp (op_eqD hu) (s_eq rfl) (v_var 7) (v_op op_sub s_sub (v_var 3) v_int)) (v_one (v_cmp op_gt s_cmp (v_var 3) v_int)))) v_nil))) (v_gname 9 sc__law_web.nd))) v_send))))) (v_s1 (v_asg (v_tup (v_cons (v_var 9) (v_cons (v_op op_sub s_sub v_int (v_var 9)) v_nil))) (v_gtupS rfl (pg_tup rfl (v_gcons (v_gsub (W := W0) (v_ix ix_U (s_ix rfl) (v_var 5) (v_var 8)) (v_var 7) (pg_sub (v_ix ix_U (s_ix rfl) (v_var 5) (v_var 8)) (v_var 7) set_list)) (v_gcons (v_gsub (W := W0) (v_ix ix_U (s_ix rfl) (v_var 5) (v_var 7)) (v_var 8) (pg_sub (v_ix ix_U (s_ix rfl) (v_var 5) (v_var 7)) (v_var 8) set_list)) v_gnil))))))))))) (v_seq (v_if (v_cmpT (op_eqD hu) (s_eq rfl) (v_var 4) v_int) (v_s1 (v_forS (passes_of rfl) (v_irg2 T.n_range (v_cons v_int (v_cons (v_var 3) v_nil))) (v_gname 7 sc__law_web.nd) (v_seq (v_par (i := 8) (j := 9) sc__law_web.nd (v_cons (v_callD G__law_taken (hr.mono (by decide)) (takes_of rfl rfl rfl rfl) (v_cons (v_var 0) (v_cons (v_var 7) v_nil)) (ar_cons (ar_cons ar_nil))) (v_cons (v_callD G__law_pick (hr.mono (by decide)) (takes_of rfl rfl rfl rfl) (v_cons (v_var 0) (v_cons (v_lst (v_cons v_int (v_cons (v_op op_sub s_sub v_int v_int) v_nil))) v_nil)) (ar_cons (ar_cons ar_nil))) v_nil))) (v_s1 (v_asg (v_tup (v_cons (v_var 9) (v_cons (v_op op_sub s_sub v_int (v_var 9)) v_nil))) (v_gtupS rfl (pg_tup rfl (v_gcons (v_gsub (W := W0) (v_ix ix_U (s_ix rfl) (v_var 5) (v_var 8)) (v_var 7) (pg_sub (v_ix ix_U (s_ix rfl) (v_var 5) (v_var 8)) (v_var 7) set_list)) (v_gcons (v_gsub (W := W0) (v_ix ix_U (s_ix rfl) (v_var 5) (v_var 7)) (v_var 8) (pg_sub (v_ix ix_U (s_ix rfl) (v_var 5) (v_var 7)) (v_var 8) set_list)) v_gnil))))))))) v_send) (v_s1 (v_ret (v_callTy call_tuple_of (s_tupC rfl) T.n_tuple (by decide +kernel) (v_cons (v_lc [("line", 10)] sc__law_web.nd (v_iseq rfl (v_var 5)) (blkOk_by (N := N__law_web) (sc := defScope s__law_web) (by decide +kernel)) (fun _ _ _ _ _ => (v_xname 10 (by decide) sc__law_web.nd)) (fun _ _ _ _ _ => v_ts0) (fun _ _ _ _ _ => (v_callTy call_tuple_of (s_tupC rfl) T.n_tuple (by decide +kernel) (v_cons (v_var 10) v_nil)))) v_nil))))))))
end Law
set_option maxRecDepth 100000
set_option maxHeartbeats 4000000
namespace Law
open PySem L2 Vai
def nmE : Nat → Option Str
  | 1 => some "BadWeb"
  | 2 => some "NoNode"
  | 3 => some "BadCount"
  | 4 => some "BadArrows"
  | 5 => some "TooGreat"
  | 6 => some "BadRow"
  | 7 => some "BadOrder"
  | 0 => some "other"
  | _ => none
def csE (cl : Nat → Addr) : List (Value × Str) := [(.ref (cl 1), "BadWeb"), (.ref (cl 2), "NoNode"), (.ref (cl 3), "BadCount"), (.ref (cl 4), "BadArrows"), (.ref (cl 5), "TooGreat"), (.ref (cl 6), "BadRow"), (.ref (cl 7), "BadOrder"), (.ref (cl 0), "other")]
abbrev s_law : Stmt := top 40
abbrev N_law : List Str := ["script", "row", "web", "n", "bad", "calls", "call", "x", "told", "order", "value", "odd", "left", "right", "strong"]
abbrev P_law : List Str := ["script"]
theorem sc_law : FnScope N_law P_law (defScope s_law) := ⟨rfl, rfl, rfl, by decide +kernel, rfl, by decide +kernel, by decide +kernel⟩
abbrev cellsL (s : Shared) : List (Str × Addr) := (PyProof.Rows.envOfC "law" (defScope s_law) s.heap.objs.size 0 .none).cells
abbrev qlL : Str := (PyProof.Rows.envOfC "law" (defScope s_law) 0 0 .none).qual ++ "<lambda>"
def lamL : Nat → LamI
  | 0 => lamOf ((lstEs (asgE ((defBody s_law).getD 4 (.Pass ⟨0, 0, 0, 0⟩)))).getD 0 (.Constant .none 0 ⟨0, 0, 0, 0⟩))
  | 1 => lamOf ((lstEs (asgE ((defBody s_law).getD 4 (.Pass ⟨0, 0, 0, 0⟩)))).getD 1 (.Constant .none 0 ⟨0, 0, 0, 0⟩))
  | 2 => lamOf ((lstEs (asgE ((defBody s_law).getD 4 (.Pass ⟨0, 0, 0, 0⟩)))).getD 2 (.Constant .none 0 ⟨0, 0, 0, 0⟩))
  | 3 => lamOf ((lstEs (asgE ((defBody s_law).getD 4 (.Pass ⟨0, 0, 0, 0⟩)))).getD 3 (.Constant .none 0 ⟨0, 0, 0, 0⟩))
  | 4 => lamOf ((lstEs (binR (compIt (cmpL (ifE ((defBody s_law).getD 5 (.Pass ⟨0, 0, 0, 0⟩))))))).getD 0 (.Constant .none 0 ⟨0, 0, 0, 0⟩))
  | 5 => lamOf ((lstEs (binR (compIt (cmpL (ifE ((defBody s_law).getD 5 (.Pass ⟨0, 0, 0, 0⟩))))))).getD 1 (.Constant .none 0 ⟨0, 0, 0, 0⟩))
  | _ => lamOf (.Constant .none 0 ⟨0, 0, 0, 0⟩)
def ksL : Nat → Option (Bool × F)
  | 0 => some (false, (callF d_arrows (consF (varF 4) nilF)))
  | 1 => some (true, (callF d_turned (consF (varF 4) (consF (conF .non) nilF))))
  | 2 => some (true, (callF d_turned_all (consF (varF 4) (consF (conF .non) nilF))))
  | 3 => some (true, (callF d_renamed (consF (varF 4) (consF (conF .non) nilF))))
  | 4 => some (false, (callF d_parts (consF (varF 4) nilF)))
  | 5 => some (true, (callF d_is_tree (consF (varF 4) nilF)))
  | _ => none
theorem pksL : ∀ id d fb, ksL id = some (d, fb) → PreF fb := fun id d fb h => by
  unfold ksL at h
  split at h <;> first | (cases h; repeat' (first | exact pre_var | exact pre_con | exact pre_nil | exact pre_no | exact pre_noS | exact pre_newD | exact pre_lam0 | exact pre_lam1 | exact pre_send | exact pre_raise | exact pre_nameT | exact pre_nilT | exact pre_addG | exact pre_intG | exact pre_mulG | exact pre_cmpG | exact pre_eqG | exact pre_inG | exact pre_ixG | exact pre_negG | exact pre_lenG | exact pre_isiG | exact pre_twoG | exact pre_absG | exact pre_intC | exact pre_allG | exact pre_tupC | exact pre_lstC | refine pre_op ?_ ?_ ?_ | refine pre_un ?_ ?_ | refine pre_and ?_ ?_ | refine pre_or ?_ ?_ | refine pre_not ?_ | refine pre_ifF ?_ ?_ ?_ | refine pre_ch ?_ ?_ ?_ ?_ ?_ | refine pre_cons ?_ ?_ | refine pre_new ?_ | refine pre_cl ?_ ?_ | refine pre_call ?_ ?_ | refine pre_rg1 ?_ | refine pre_rg2 ?_ ?_ | refine pre_err ?_ | refine pre_seqI ?_ | refine pre_rg1I ?_ | refine pre_rg2I ?_ | refine pre_lc ?_ ?_ ?_ | refine pre_lc2 ?_ ?_ ?_ ?_ ?_ | refine pre_lenSet ?_ ?_ ?_ | refine pre_trim ?_ | refine pre_seq ?_ ?_ | refine pre_ret ?_ | refine pre_exp ?_ | refine pre_cond ?_ ?_ ?_ | refine pre_consT ?_ ?_ | refine pre_tupT ?_ | refine pre_asg ?_ ?_ | refine pre_par ?_ | refine pre_for ?_ ?_ ?_ | exact pd_is_whole | exact pd_is_node | exact pd_check_count | exact pd_check_node | exact pd_check_row | exact pd__is_line | exact pd_is_web | exact pd_check_web | exact pd_arrows | exact pd__is_arrow | exact pd__are_arrows | exact pd__many_behind | exact pd__behind | exact pd_turned | exact pd_turned_all | exact pd__is_order | exact pd_renamed | exact pd__part_of | exact pd_parts | exact pd_is_tree)) | cases h
def b_law : FS := (seqF (asgF (newF O.lst (consF (varF 0) (consF (conF (.int 0)) (consF (conF (.int 7301)) (consF (conF (.int 0)) nilF))))) (nameT 1)) (seqF (asgF (callF d__law_web (consF (varF 1) (consF (conF (.int 5)) (consF (conF (.int 2)) nilF)))) (nameT 2)) (seqF (asgF (clF lenG (consF (varF 2) nilF)) (nameT 3)) (seqF (asgF (callF d__law_pick (consF (varF 1) (consF (newF O.lst (consF (conF .non) (consF (newF O.tup nilF) (consF (clF lstC (consF (varF 2) nilF)) (consF (newF O.tup (consF (newF O.tup (consF (conF (.int 1)) nilF)) nilF)) (consF (newF O.tup (consF (newF O.tup (consF (conF (.int 0)) (consF (conF (.int 1)) nilF))) (consF (newF O.tup (consF (conF (.int 1)) (consF (conF (.int 0)) nilF))) nilF))) (consF (newF O.tup (consF (newF O.tup (consF (conF (.int 0)) (consF (conF (.int 1001)) nilF))) (consF (newF O.tup (consF (unF negG (conF (.int 1001))) (consF (conF (.int 0)) nilF))) nilF))) (consF (newF O.tup (consF (newF O.tup (consF (conF (.int 0)) (consF (conF (.int 1)) nilF))) nilF)) (consF (opF mulG (newF O.tup (consF (opF mulG (newF O.tup (consF (conF (.int 0)) nilF)) (conF (.int 7))) nilF)) (conF (.int 7))) (consF (conF (.int 3)) (consF (conF (.str "web")) (consF newD nilF)))))))))))) nilF))) (nameT 4)) (seqF (asgF (newF O.lst (consF (lamF0 0) (consF (lamF1 1 0) (consF (lamF1 2 0) (consF (lamF1 3 0) nilF))))) (nameT 5)) (seqF (condF (trimF (opF (eqG true) (lcF (seqI (opF addG (varF 5) (newF O.lst (consF (lamF0 4) (consF (lamF1 5 0) nilF))))) (nameX 6) [6] (opF (eqG true) (errcF nmE "" ksL 6 [6]) (conF (.str "BadWeb"))) (varF 6)) (newF O.lst nilF))) (retF (conF (.bl false))) endF) (seqF (condF (trimF (opF (eqG true) (lcF (seqI (newF O.lst (consF (conF .non) (consF (opF subG (conF (.int 0)) (conF (.int 1))) (consF (varF 3) (consF (conF (.bl true)) (consF (conF (.str "0")) (consF (newF O.tup (consF (conF (.int 0)) nilF)) nilF)))))))) (nameX 7) [7] (conF (.bl true)) (errF nmE "" (callF d_turned (consF (varF 2) (consF (varF 7) nilF))))) (opF mulG (newF O.lst (consF (conF (.str "NoNode")) nilF)) (conF (.int 6))))) (retF (conF (.bl false))) endF) (seqF (asgF (callF d__law_pick (consF (varF 1) (consF (newF O.lst (consF (conF .non) (consF (newF O.lst (consF (conF (.int 0)) nilF)) (consF (newF O.tup (consF (varF 3) nilF)) (consF (newF O.tup (consF (opF subG (conF (.int 0)) (conF (.int 1))) nilF)) (consF (newF O.tup (consF (conF (.bl true)) nilF)) (consF (conF (.str "0")) (consF (opF mulG (newF O.tup (consF (conF (.int 0)) nilF)) (conF (.int 201))) (consF (conF (.int 3)) (consF (newF O.tup (consF (newF O.tup (consF (conF (.int 0)) nilF)) nilF)) nilF)))))))))) nilF))) (nameT 8)) (seqF (condF (trimF (orF (opF (eqG true) (trimF (errF nmE "" (callF d_turned_all (consF (varF 2) (consF (varF 8) nilF))))) (conF (.str "BadRow"))) (opF (eqG true) (trimF (errF nmE "" (callF d_turned_all (consF (varF 2) (consF (opF mulG (newF O.tup (consF (conF (.int 0)) nilF)) (conF (.int 200))) nilF))))) (conF (.str ""))))) (retF (conF (.bl false))) endF) (seqF (asgF (callF d__law_pick (consF (varF 1) (consF (newF O.lst (consF (conF .non) (consF (rg1F O.lst (varF 3)) (consF (rg1F O.tup (opF subG (varF 3) (conF (.int 1)))) (consF (rg1F O.tup (opF addG (varF 3) (conF (.int 1)))) (consF (rg2F O.tup (conF (.int 1)) (opF addG (varF 3) (conF (.int 1)))) (consF (opF mulG (newF O.tup (consF (conF (.str "0")) nilF)) (varF 3)) (consF (opF mulG (newF O.tup (consF (conF .non) nilF)) (varF 3)) (consF (conF (.int 3)) nilF))))))))) nilF))) (nameT 9)) (seqF (condF (trimF (orF (opF (eqG true) (trimF (errF nmE "" (callF d_renamed (consF (varF 2) (consF (varF 9) nilF))))) (conF (.str "BadOrder"))) (opF (eqG true) (trimF (errF nmE "" (callF d_renamed (consF (newF O.tup (consF (newF O.tup (consF (conF (.int 0)) nilF)) nilF)) (consF (newF O.tup (consF (conF (.bl false)) nilF)) nilF))))) (conF (.str "BadOrder"))))) (retF (conF (.bl false))) endF) (seqF (condF (opF (eqG true) (lcF (seqI (newF O.lst (consF (conF .non) (consF (conF (.int 0)) (consF (conF (.int 7)) (consF (conF (.bl true)) (consF (conF (.str "2")) nilF))))))) (nameX 10) [10] (conF (.bl true)) (errF nmE "" (callF d_web_of (consF (varF 10) (consF (conF .non) nilF))))) (opF mulG (newF O.lst (consF (conF (.str "BadCount")) nilF)) (conF (.int 5)))) (retF (conF (.bl false))) endF) (seqF (asgF (newF O.lst (consF (conF .non) (consF (newF O.lst (consF (newF O.tup (consF (conF (.int 0)) (consF (conF (.int 1)) (consF (conF (.int 1)) nilF)))) nilF)) (consF (newF O.tup (consF (newF O.tup (consF (conF (.int 0)) (consF (conF (.int 0)) (consF (conF (.int 1)) nilF)))) nilF)) (consF (newF O.tup (consF (newF O.tup (consF (conF (.int 0)) (consF (conF (.int 3)) (consF (conF (.int 1)) nilF)))) nilF)) (consF (newF O.tup (consF (newF O.tup (consF (conF (.int 0)) (consF (conF (.int 1)) (consF (conF (.int 0)) nilF)))) nilF)) (consF (newF O.tup (consF (newF O.tup (consF (conF (.int 0)) (consF (conF (.int 1)) (consF (conF (.int 1001)) nilF)))) nilF)) (consF (newF O.tup (consF (newF O.tup (consF (conF (.int 0)) (consF (conF (.int 1)) (consF (conF (.int 1)) nilF)))) (consF (newF O.tup (consF (conF (.int 1)) (consF (conF (.int 0)) (consF (conF (.int 1)) nilF)))) nilF))) (consF (newF O.tup (consF (newF O.tup (consF (conF (.int 0)) (consF (conF (.int 1)) (consF (conF (.int 1)) nilF)))) (consF (newF O.tup (consF (conF (.int 0)) (consF (conF (.int 1)) (consF (conF (.int 1)) nilF)))) nilF))) nilF))))))))) (nameT 11)) (seqF (asgF (opF addG (varF 11) (newF O.lst (consF (newF O.tup (consF (newF O.tup (consF (conF (.int 0)) (consF (conF (.int 1)) nilF))) nilF)) (consF (newF O.tup (consF (conF (.int 3)) nilF)) (consF (newF O.tup (consF (newF O.tup (consF (conF (.int 0)) (consF (conF (.bl true)) (consF (conF (.int 1)) nilF)))) nilF)) nilF))))) (nameT 11)) (seqF (condF (orF (opF (eqG true) (lcF (seqI (varF 11)) (nameX 10) [10] (conF (.bl true)) (errF nmE "" (callF d_web_of (consF (conF (.int 3)) (consF (varF 10) nilF))))) (opF mulG (newF O.lst (consF (conF (.str "BadArrows")) nilF)) (conF (.int 11)))) (opF (eqG true) (callF d_web_of (consF (conF (.int 3)) (consF (newF O.tup nilF) nilF))) (opF mulG (newF O.tup (consF (opF mulG (newF O.tup (consF (conF (.int 0)) nilF)) (conF (.int 3))) nilF)) (conF (.int 3))))) (retF (conF (.bl false))) endF) (seqF (parF 12 13 (consF (opF addG (conF (.int 20)) (callF d__law_taken (consF (varF 1) (consF (conF (.int 30)) nilF)))) (consF (opF addG (conF (.int 20)) (callF d__law_taken (consF (varF 1) (consF (conF (.int 30)) nilF)))) nilF))) (seqF (asgF (callF d_web_of (consF (conF (.int 3)) (consF (newF O.tup (consF (newF O.tup (consF (conF (.int 0)) (consF (conF (.int 1)) (consF (varF 12) nilF)))) (consF (newF O.tup (consF (conF (.int 1)) (consF (conF (.int 2)) (consF (varF 13) nilF)))) nilF))) nilF))) (nameT 14)) (seqF (condF (trimF (opF (eqG true) (trimF (errF nmE "" (callF d_turned (consF (varF 14) (consF (conF (.int 1)) nilF))))) (ifF (opF (cmpG fun i j => decide (i > j)) (opF mulG (varF 12) (varF 13)) (conF (.int 1000))) (conF (.str "TooGreat")) (conF (.str ""))))) (retF (conF (.bl false))) endF) (retF (opF (eqG false) (trimF (errF nmE "" (callF d_turned_all (consF (varF 14) (consF (newF O.tup (consF (conF (.int 0)) (consF (conF (.int 0)) (consF (conF (.int 1)) nilF)))) nilF))))) (ifF (opF (cmpG fun i j => decide (i > j)) (opF mulG (varF 12) (varF 13)) (conF (.int 1000))) (conF (.str "TooGreat")) (conF (.str "")))))))))))))))))))))))
theorem law_body {P : Program} {w : World} {K : PySem.W.Frag} {mg : Str → Option Value} {base : Heap} {Tb : List (Addr × Str)} {cl : Nat → Addr} {f c Pt : Addr} {A : Around} {outer : List Env} {s : Shared} {H : Hp} {E : XK} (T : Txt K mg cl) (GE : ErrOk P w K mg base "_law_error" (csE cl) "") (tells : Tells (Tx.mk P w K Tb cl qlL (cellsL s) lamL) (csE cl) nmE) (TB : LamX.TabB base mg c Pt) (hmT : (Pt, qlL) ∈ Tb) (htu : ∀ p ∈ Tb, p.1 = Pt → p.2 = qlL) (G__law_web : DefOk P w K mg base (Tx.mk P w K Tb cl qlL (cellsL s) lamL) "_law_web" P__law_web 3 d__law_web) (G__law_pick : DefOk P w K mg base (Tx.mk P w K Tb cl qlL (cellsL s) lamL) "_law_pick" P__law_pick 2 d__law_pick) (G_arrows : DefOk P w K mg base (Tx.mk P w K Tb cl qlL (cellsL s) lamL) "arrows" P_arrows 5 d_arrows) (G_turned : DefOk P w K mg base (Tx.mk P w K Tb cl qlL (cellsL s) lamL) "turned" P_turned 5 d_turned) (G_turned_all : DefOk P w K mg base (Tx.mk P w K Tb cl qlL (cellsL s) lamL) "turned_all" P_turned_all 5 d_turned_all) (G_renamed : DefOk P w K mg base (Tx.mk P w K Tb cl qlL (cellsL s) lamL) "renamed" P_renamed 5 d_renamed) (G_parts : DefOk P w K mg base (Tx.mk P w K Tb cl qlL (cellsL s) lamL) "parts" P_parts 5 d_parts) (G_is_tree : DefOk P w K mg base (Tx.mk P w K Tb cl qlL (cellsL s) lamL) "is_tree" P_is_tree 6 d_is_tree) (G_web_of : DefOk P w K mg base (Tx.mk P w K Tb cl qlL (cellsL s) lamL) "web_of" P_web_of 5 d_web_of) (G__law_taken : DefOk P w K mg base (Tx.mk P w K Tb cl qlL (cellsL s) lamL) "_law_taken" P__law_taken 1 d__law_taken)
    (hr : Room 8 (A.deeper (PyProof.Rows.envOfC "law" (defScope s_law) s.heap.objs.size f (.ref c)))) : PSs (cxOf (L2.CX P w) P w K mg base N_law "law" (defScope s_law) f (.ref c) A outer s H E) (defBody s_law) (liftS (Tx.mk P w K Tb cl qlL (cellsL s) lamL) (fun cls d _ H => E cls d H) b_law) := by
  have hu := hr.units
  have LO : LamsOk (cxOf (L2.CX P w) P w K mg base N_law "law" (defScope s_law) f (.ref c) A outer s H E) (Tx.mk P w K Tb cl qlL (cellsL s) lamL) 6 ksL := by
    intro id d fb h
    unfold ksL at h
    split at h
    · cases h
      exact ⟨lamK0 (LamX.lamS_by (by kernel_rfl)) (fun _ _ _ _ _ _ => rfl), fun A outer s H E f c' hr => have hu := hr.units; (v_callD G_arrows (hr.mono (by decide)) (takes_of rfl rfl rfl rfl) (v_cons (v_var 4) v_nil) (ar_cons ar_nil))⟩
    · cases h
      exact ⟨lamK1 (a0 := "a") (lamS1_by (by kernel_rfl)) (by intros; exact ⟨_, rfl, rfl⟩), fun A outer s H E f c' hr => have hu := hr.units; (v_callD G_turned (hr.mono (by decide)) (takes_of rfl rfl rfl rfl) (v_cons (v_var 4) (v_cons v_non v_nil)) (ar_cons (ar_cons ar_nil)))⟩
    · cases h
      exact ⟨lamK1 (a0 := "b") (lamS1_by (by kernel_rfl)) (by intros; exact ⟨_, rfl, rfl⟩), fun A outer s H E f c' hr => have hu := hr.units; (v_callD G_turned_all (hr.mono (by decide)) (takes_of rfl rfl rfl rfl) (v_cons (v_var 4) (v_cons v_non v_nil)) (ar_cons (ar_cons ar_nil)))⟩
    · cases h
      exact ⟨lamK1 (a0 := "c") (lamS1_by (by kernel_rfl)) (by intros; exact ⟨_, rfl, rfl⟩), fun A outer s H E f c' hr => have hu := hr.units; (v_callD G_renamed (hr.mono (by decide)) (takes_of rfl rfl rfl rfl) (v_cons (v_var 4) (v_cons v_non v_nil)) (ar_cons (ar_cons ar_nil)))⟩
    · cases h
      exact ⟨lamK0 (LamX.lamS_by (by kernel_rfl)) (fun _ _ _ _ _ _ => rfl), fun A outer s H E f c' hr => have hu := hr.units; (v_callD G_parts (hr.mono (by decide)) (takes_of rfl rfl rfl rfl) (v_cons (v_var 4) v_nil) (ar_cons ar_nil))⟩
    · cases h
      exact ⟨lamK1 (a0 := "a") (lamS1_by (by kernel_rfl)) (by intros; exact ⟨_, rfl, rfl⟩), fun A outer s H E f c' hr => have hu := hr.units; (v_callD G_is_tree (hr.mono (by decide)) (takes_of rfl rfl rfl rfl) (v_cons (v_var 4) v_nil) (ar_cons ar_nil))⟩
    · cases h
  exact (v_seq (v_asg (v_lst (v_cons (v_var 0) (v_cons v_int (v_cons v_int (v_cons v_int v_nil))))) (v_gname 1 sc_law.nd)) (v_seq (v_asg (v_callD G__law_web (hr.mono (by decide)) (takes_of rfl rfl rfl rfl) (v_cons (v_var 1) (v_cons v_int (v_cons v_int v_nil))) (ar_cons (ar_cons (ar_cons ar_nil)))) (v_gname 2 sc_law.nd)) (v_seq (v_asg (v_callB call_len (s_len rfl) T.n_len (by decide +kernel) (v_cons (v_var 2) v_nil)) (v_gname 3 sc_law.nd)) (v_seq (v_asg (v_callD G__law_pick (hr.mono (by decide)) (takes_of rfl rfl rfl rfl) (v_cons (v_var 1) (v_cons (v_lst (v_cons v_non (v_cons (v_tup v_nil) (v_cons (v_callTy call_list_of (s_lstC rfl) T.n_list (by decide +kernel) (v_cons (v_var 2) v_nil)) (v_cons (v_tup (v_cons (v_tup (v_cons v_int v_nil)) v_nil)) (v_cons (v_tup (v_cons (v_tup (v_cons v_int (v_cons v_int v_nil))) (v_cons (v_tup (v_cons v_int (v_cons v_int v_nil))) v_nil))) (v_cons (v_tup (v_cons (v_tup (v_cons v_int (v_cons v_int v_nil))) (v_cons (v_tup (v_cons (v_neg s_neg v_int) (v_cons v_int v_nil))) v_nil))) (v_cons (v_tup (v_cons (v_tup (v_cons v_int (v_cons v_int v_nil))) v_nil)) (v_cons (v_op op_mulU (s_mul rfl) (v_tup (v_cons (v_op op_mulU (s_mul rfl) (v_tup (v_cons v_int v_nil)) v_int) v_nil)) v_int) (v_cons v_int (v_cons v_str (v_cons v_dict0 v_nil)))))))))))) v_nil)) (ar_cons (ar_cons ar_nil))) (v_gname 4 sc_law.nd)) (v_seq (v_asg (v_lst (v_cons (v_lam0 (id := 0) rfl TB rfl rfl rfl hmT htu (LamX.lamS_by (by kernel_rfl))) (v_cons (v_lam1 (id := 1) (a0 := "a") rfl TB rfl rfl rfl hmT htu (lamS1_by (by kernel_rfl))) (v_cons (v_lam1 (id := 2) (a0 := "b") rfl TB rfl rfl rfl hmT htu (lamS1_by (by kernel_rfl))) (v_cons (v_lam1 (id := 3) (a0 := "c") rfl TB rfl rfl rfl hmT htu (lamS1_by (by kernel_rfl))) v_nil))))) (v_gname 5 sc_law.nd)) (v_seq (v_if (v_trimT (by repeat' (first | exact pre_var | exact pre_con | exact pre_nil | exact pre_no | exact pre_noS | exact pre_newD | exact pre_lam0 | exact pre_lam1 | exact pre_send | exact pre_raise | exact pre_nameT | exact pre_nilT | exact pre_addG | exact pre_intG | exact pre_mulG | exact pre_cmpG | exact pre_eqG | exact pre_inG | exact pre_ixG | exact pre_negG | exact pre_lenG | exact pre_isiG | exact pre_twoG | exact pre_absG | exact pre_intC | exact pre_allG | exact pre_tupC | exact pre_lstC | refine pre_op ?_ ?_ ?_ | refine pre_un ?_ ?_ | refine pre_and ?_ ?_ | refine pre_or ?_ ?_ | refine pre_not ?_ | refine pre_ifF ?_ ?_ ?_ | refine pre_ch ?_ ?_ ?_ ?_ ?_ | refine pre_cons ?_ ?_ | refine pre_new ?_ | refine pre_cl ?_ ?_ | refine pre_call ?_ ?_ | refine pre_rg1 ?_ | refine pre_rg2 ?_ ?_ | refine pre_err ?_ | refine pre_seqI ?_ | refine pre_rg1I ?_ | refine pre_rg2I ?_ | refine pre_lc ?_ ?_ ?_ | refine pre_lc2 ?_ ?_ ?_ ?_ ?_ | refine pre_lenSet ?_ ?_ ?_ | refine pre_trim ?_ | refine pre_seq ?_ ?_ | refine pre_ret ?_ | refine pre_exp ?_ | refine pre_cond ?_ ?_ ?_ | refine pre_consT ?_ ?_ | refine pre_tupT ?_ | refine pre_asg ?_ ?_ | refine pre_par ?_ | refine pre_for ?_ ?_ ?_ | exact pd_is_whole | exact pd_is_node | exact pd_check_count | exact pd_check_node | exact pd_check_row | exact pd__is_line | exact pd_is_web | exact pd_check_web | exact pd_arrows | exact pd__is_arrow | exact pd__are_arrows | exact pd__many_behind | exact pd__behind | exact pd_turned | exact pd_turned_all | exact pd__is_order | exact pd_renamed | exact pd__part_of | exact pd_parts | exact pd_is_tree | exact pre_errc pksL)) (v_cmpT (op_neD hu) (s_ne rfl) (v_lcE (ks := ksL) (k := 6) sc_law.nd hu (v_iseq rfl (v_op op_addU (s_add rfl) (v_var 5) (v_lst (v_cons (v_lam0 (id := 4) rfl TB rfl rfl rfl hmT htu (LamX.lamS_by (by kernel_rfl))) (v_cons (v_lam1 (id := 5) (a0 := "a") rfl TB rfl rfl rfl hmT htu (lamS1_by (by kernel_rfl))) v_nil))))) (blkOk_by (N := N_law) (sc := defScope s_law) (by decide +kernel)) GE tells rfl rfl (hr.mono (by decide)) LO rfl rfl (fun _ _ _ _ _ => v_xname 6 (by decide) sc_law.nd) (fun _ _ _ _ _ => v_var 6) (fun _ _ => (by first | exact Or.inl rfl | exact Or.inr (Or.inl rfl) | exact Or.inr (Or.inr rfl))) (fun _ _ _ _ _ => by rfl)) (v_lst v_nil))) (v_s1 (v_ret v_bl)) v_send) (v_seq (v_if (v_trimT (by repeat' (first | exact pre_var | exact pre_con | exact pre_nil | exact pre_no | exact pre_noS | exact pre_newD | exact pre_lam0 | exact pre_lam1 | exact pre_send | exact pre_raise | exact pre_nameT | exact pre_nilT | exact pre_addG | exact pre_intG | exact pre_mulG | exact pre_cmpG | exact pre_eqG | exact pre_inG | exact pre_ixG | exact pre_negG | exact pre_lenG | exact pre_isiG | exact pre_twoG | exact pre_absG | exact pre_intC | exact pre_allG | exact pre_tupC | exact pre_lstC | refine pre_op ?_ ?_ ?_ | refine pre_un ?_ ?_ | refine pre_and ?_ ?_ | refine pre_or ?_ ?_ | refine pre_not ?_ | refine pre_ifF ?_ ?_ ?_ | refine pre_ch ?_ ?_ ?_ ?_ ?_ | refine pre_cons ?_ ?_ | refine pre_new ?_ | refine pre_cl ?_ ?_ | refine pre_call ?_ ?_ | refine pre_rg1 ?_ | refine pre_rg2 ?_ ?_ | refine pre_err ?_ | refine pre_seqI ?_ | refine pre_rg1I ?_ | refine pre_rg2I ?_ | refine pre_lc ?_ ?_ ?_ | refine pre_lc2 ?_ ?_ ?_ ?_ ?_ | refine pre_lenSet ?_ ?_ ?_ | refine pre_trim ?_ | refine pre_seq ?_ ?_ | refine pre_ret ?_ | refine pre_exp ?_ | refine pre_cond ?_ ?_ ?_ | refine pre_consT ?_ ?_ | refine pre_tupT ?_ | refine pre_asg ?_ ?_ | refine pre_par ?_ | refine pre_for ?_ ?_ ?_ | exact pd_is_whole | exact pd_is_node | exact pd_check_count | exact pd_check_node | exact pd_check_row | exact pd__is_line | exact pd_is_web | exact pd_check_web | exact pd_arrows | exact pd__is_arrow | exact pd__are_arrows | exact pd__many_behind | exact pd__behind | exact pd_turned | exact pd_turned_all | exact pd__is_order | exact pd_renamed | exact pd__part_of | exact pd_parts | exact pd_is_tree | exact pre_errc pksL)) (v_cmpT (op_neD hu) (s_ne rfl) (v_lc [("x", 7)] sc_law.nd (v_iseq rfl (v_lst (v_cons v_non (v_cons (v_op op_sub s_sub v_int v_int) (v_cons (v_var 3) (v_cons v_bl (v_cons v_str (v_cons (v_tup (v_cons v_int v_nil)) v_nil)))))))) (blkOk_by (N := N_law) (sc := defScope s_law) (by decide +kernel)) (fun _ _ _ _ _ => (v_xname 7 (by decide) sc_law.nd)) (fun _ _ _ _ _ => v_ts0) (fun _ _ _ _ _ => (v_err0 (k := 5) GE tells TB rfl hmT htu (hr.mono (by decide)) (LamX.lamS_by (by kernel_rfl)) (fun A outer s H E f c' hr => have hu := hr.units; (v_callD G_turned (hr.mono (by decide)) (takes_of rfl rfl rfl rfl) (v_cons (v_var 2) (v_cons (v_var 7) v_nil)) (ar_cons (ar_cons ar_nil))))))) (v_op op_mulU (s_mul rfl) (v_lst (v_cons v_str v_nil)) v_int))) (v_s1 (v_ret v_bl)) v_send) (v_seq (v_asg (v_callD G__law_pick (hr.mono (by decide)) (takes_of rfl rfl rfl rfl) (v_cons (v_var 1) (v_cons (v_lst (v_cons v_non (v_cons (v_lst (v_cons v_int v_nil)) (v_cons (v_tup (v_cons (v_var 3) v_nil)) (v_cons (v_tup (v_cons (v_op op_sub s_sub v_int v_int) v_nil)) (v_cons (v_tup (v_cons v_bl v_nil)) (v_cons v_str (v_cons (v_op op_mulU (s_mul rfl) (v_tup (v_cons v_int v_nil)) v_int) (v_cons v_int (v_cons (v_tup (v_cons (v_tup (v_cons v_int v_nil)) v_nil)) v_nil)))))))))) v_nil)) (ar_cons (ar_cons ar_nil))) (v_gname 8 sc_law.nd)) (v_seq (v_if (v_trimT (by repeat' (first | exact pre_var | exact pre_con | exact pre_nil | exact pre_no | exact pre_noS | exact pre_newD | exact pre_lam0 | exact pre_lam1 | exact pre_send | exact pre_raise | exact pre_nameT | exact pre_nilT | exact pre_addG | exact pre_intG | exact pre_mulG | exact pre_cmpG | exact pre_eqG | exact pre_inG | exact pre_ixG | exact pre_negG | exact pre_lenG | exact pre_isiG | exact pre_twoG | exact pre_absG | exact pre_intC | exact pre_allG | exact pre_tupC | exact pre_lstC | refine pre_op ?_ ?_ ?_ | refine pre_un ?_ ?_ | refine pre_and ?_ ?_ | refine pre_or ?_ ?_ | refine pre_not ?_ | refine pre_ifF ?_ ?_ ?_ | refine pre_ch ?_ ?_ ?_ ?_ ?_ | refine pre_cons ?_ ?_ | refine pre_new ?_ | refine pre_cl ?_ ?_ | refine pre_call ?_ ?_ | refine pre_rg1 ?_ | refine pre_rg2 ?_ ?_ | refine pre_err ?_ | refine pre_seqI ?_ | refine pre_rg1I ?_ | refine pre_rg2I ?_ | refine pre_lc ?_ ?_ ?_ | refine pre_lc2 ?_ ?_ ?_ ?_ ?_ | refine pre_lenSet ?_ ?_ ?_ | refine pre_trim ?_ | refine pre_seq ?_ ?_ | refine pre_ret ?_ | refine pre_exp ?_ | refine pre_cond ?_ ?_ ?_ | refine pre_consT ?_ ?_ | refine pre_tupT ?_ | refine pre_asg ?_ ?_ | refine pre_par ?_ | refine pre_for ?_ ?_ ?_ | exact pd_is_whole | exact pd_is_node | exact pd_check_count | exact pd_check_node | exact pd_check_row | exact pd__is_line | exact pd_is_web | exact pd_check_web | exact pd_arrows | exact pd__is_arrow | exact pd__are_arrows | exact pd__many_behind | exact pd__behind | exact pd_turned | exact pd_turned_all | exact pd__is_order | exact pd_renamed | exact pd__part_of | exact pd_parts | exact pd_is_tree | exact pre_errc pksL)) (L2.PW.pt (v_wor (v_cmpT (op_neD hu) (s_ne rfl) (v_trim (by repeat' (first | exact pre_var | exact pre_con | exact pre_nil | exact pre_no | exact pre_noS | exact pre_newD | exact pre_lam0 | exact pre_lam1 | exact pre_send | exact pre_raise | exact pre_nameT | exact pre_nilT | exact pre_addG | exact pre_intG | exact pre_mulG | exact pre_cmpG | exact pre_eqG | exact pre_inG | exact pre_ixG | exact pre_negG | exact pre_lenG | exact pre_isiG | exact pre_twoG | exact pre_absG | exact pre_intC | exact pre_allG | exact pre_tupC | exact pre_lstC | refine pre_op ?_ ?_ ?_ | refine pre_un ?_ ?_ | refine pre_and ?_ ?_ | refine pre_or ?_ ?_ | refine pre_not ?_ | refine pre_ifF ?_ ?_ ?_ | refine pre_ch ?_ ?_ ?_ ?_ ?_ | refine pre_cons ?_ ?_ | refine pre_new ?_ | refine pre_cl ?_ ?_ | refine pre_call ?_ ?_ | refine pre_rg1 ?_ | refine pre_rg2 ?_ ?_ | refine pre_err ?_ | refine pre_seqI ?_ | refine pre_rg1I ?_ | refine pre_rg2I ?_ | refine pre_lc ?_ ?_ ?_ | refine pre_lc2 ?_ ?_ ?_ ?_ ?_ | refine pre_lenSet ?_ ?_ ?_ | refine pre_trim ?_ | refine pre_seq ?_ ?_ | refine pre_ret ?_ | refine pre_exp ?_ | refine pre_cond ?_ ?_ ?_ | refine pre_consT ?_ ?_ | refine pre_tupT ?_ | refine pre_asg ?_ ?_ | refine pre_par ?_ | refine pre_for ?_ ?_ ?_ | exact pd_is_whole | exact pd_is_node | exact pd_check_count | exact pd_check_node | exact pd_check_row | exact pd__is_line | exact pd_is_web | exact pd_check_web | exact pd_arrows | exact pd__is_arrow | exact pd__are_arrows | exact pd__many_behind | exact pd__behind | exact pd_turned | exact pd_turned_all | exact pd__is_order | exact pd_renamed | exact pd__part_of | exact pd_parts | exact pd_is_tree | exact pre_errc pksL)) (v_err0 (k := 5) GE tells TB rfl hmT htu (hr.mono (by decide)) (LamX.lamS_by (by kernel_rfl)) (fun A outer s H E f c' hr => have hu := hr.units; (v_callD G_turned_all (hr.mono (by decide)) (takes_of rfl rfl rfl rfl) (v_cons (v_var 2) (v_cons (v_var 8) v_nil)) (ar_cons (ar_cons ar_nil)))))) v_str) (v_wor1 (v_cmpT (op_neD hu) (s_ne rfl) (v_trim (by repeat' (first | exact pre_var | exact pre_con | exact pre_nil | exact pre_no | exact pre_noS | exact pre_newD | exact pre_lam0 | exact pre_lam1 | exact pre_send | exact pre_raise | exact pre_nameT | exact pre_nilT | exact pre_addG | exact pre_intG | exact pre_mulG | exact pre_cmpG | exact pre_eqG | exact pre_inG | exact pre_ixG | exact pre_negG | exact pre_lenG | exact pre_isiG | exact pre_twoG | exact pre_absG | exact pre_intC | exact pre_allG | exact pre_tupC | exact pre_lstC | refine pre_op ?_ ?_ ?_ | refine pre_un ?_ ?_ | refine pre_and ?_ ?_ | refine pre_or ?_ ?_ | refine pre_not ?_ | refine pre_ifF ?_ ?_ ?_ | refine pre_ch ?_ ?_ ?_ ?_ ?_ | refine pre_cons ?_ ?_ | refine pre_new ?_ | refine pre_cl ?_ ?_ | refine pre_call ?_ ?_ | refine pre_rg1 ?_ | refine pre_rg2 ?_ ?_ | refine pre_err ?_ | refine pre_seqI ?_ | refine pre_rg1I ?_ | refine pre_rg2I ?_ | refine pre_lc ?_ ?_ ?_ | refine pre_lc2 ?_ ?_ ?_ ?_ ?_ | refine pre_lenSet ?_ ?_ ?_ | refine pre_trim ?_ | refine pre_seq ?_ ?_ | refine pre_ret ?_ | refine pre_exp ?_ | refine pre_cond ?_ ?_ ?_ | refine pre_consT ?_ ?_ | refine pre_tupT ?_ | refine pre_asg ?_ ?_ | refine pre_par ?_ | refine pre_for ?_ ?_ ?_ | exact pd_is_whole | exact pd_is_node | exact pd_check_count | exact pd_check_node | exact pd_check_row | exact pd__is_line | exact pd_is_web | exact pd_check_web | exact pd_arrows | exact pd__is_arrow | exact pd__are_arrows | exact pd__many_behind | exact pd__behind | exact pd_turned | exact pd_turned_all | exact pd__is_order | exact pd_renamed | exact pd__part_of | exact pd_parts | exact pd_is_tree | exact pre_errc pksL)) (v_err1 (k := 5) (a0 := "a") GE tells TB rfl hmT htu (hr.mono (by decide)) (lamS1_by (by kernel_rfl)) (fun A outer s H E f c' hr => have hu := hr.units; (v_callD G_turned_all (hr.mono (by decide)) (takes_of rfl rfl rfl rfl) (v_cons (v_var 2) (v_cons (v_op op_mulU (s_mul rfl) (v_tup (v_cons v_int v_nil)) v_int) v_nil)) (ar_cons (ar_cons ar_nil)))))) v_str))))) (v_s1 (v_ret v_bl)) v_send) (v_seq (v_asg (v_callD G__law_pick (hr.mono (by decide)) (takes_of rfl rfl rfl rfl) (v_cons (v_var 1) (v_cons (v_lst (v_cons v_non (v_cons (v_lstRg1 T.n_list T.n_range (v_var 3)) (v_cons (v_tupRg1 T.n_tuple T.n_range (v_op op_sub s_sub (v_var 3) v_int)) (v_cons (v_tupRg1 T.n_tuple T.n_range (v_op op_addU (s_add rfl) (v_var 3) v_int)) (v_cons (v_tupRg2 T.n_tuple T.n_range v_int (v_op op_addU (s_add rfl) (v_var 3) v_int)) (v_cons (v_op op_mulU (s_mul rfl) (v_tup (v_cons v_str v_nil)) (v_var 3)) (v_cons (v_op op_mulU (s_mul rfl) (v_tup (v_cons v_non v_nil)) (v_var 3)) (v_cons v_int v_nil))))))))) v_nil)) (ar_cons (ar_cons ar_nil))) (v_gname 9 sc_law.nd)) (v_seq (v_if (v_trimT (by repeat' (first | exact pre_var | exact pre_con | exact pre_nil | exact pre_no | exact pre_noS | exact pre_newD | exact pre_lam0 | exact pre_lam1 | exact pre_send | exact pre_raise | exact pre_nameT | exact pre_nilT | exact pre_addG | exact pre_intG | exact pre_mulG | exact pre_cmpG | exact pre_eqG | exact pre_inG | exact pre_ixG | exact pre_negG | exact pre_lenG | exact pre_isiG | exact pre_twoG | exact pre_absG | exact pre_intC | exact pre_allG | exact pre_tupC | exact pre_lstC | refine pre_op ?_ ?_ ?_ | refine pre_un ?_ ?_ | refine pre_and ?_ ?_ | refine pre_or ?_ ?_ | refine pre_not ?_ | refine pre_ifF ?_ ?_ ?_ | refine pre_ch ?_ ?_ ?_ ?_ ?_ | refine pre_cons ?_ ?_ | refine pre_new ?_ | refine pre_cl ?_ ?_ | refine pre_call ?_ ?_ | refine pre_rg1 ?_ | refine pre_rg2 ?_ ?_ | refine pre_err ?_ | refine pre_seqI ?_ | refine pre_rg1I ?_ | refine pre_rg2I ?_ | refine pre_lc ?_ ?_ ?_ | refine pre_lc2 ?_ ?_ ?_ ?_ ?_ | refine pre_lenSet ?_ ?_ ?_ | refine pre_trim ?_ | refine pre_seq ?_ ?_ | refine pre_ret ?_ | refine pre_exp ?_ | refine pre_cond ?_ ?_ ?_ | refine pre_consT ?_ ?_ | refine pre_tupT ?_ | refine pre_asg ?_ ?_ | refine pre_par ?_ | refine pre_for ?_ ?_ ?_ | exact pd_is_whole | exact pd_is_node | exact pd_check_count | exact pd_check_node | exact pd_check_row | exact pd__is_line | exact pd_is_web | exact pd_check_web | exact pd_arrows | exact pd__is_arrow | exact pd__are_arrows | exact pd__many_behind | exact pd__behind | exact pd_turned | exact pd_turned_all | exact pd__is_order | exact pd_renamed | exact pd__part_of | exact pd_parts | exact pd_is_tree | exact pre_errc pksL)) (L2.PW.pt (v_wor (v_cmpT (op_neD hu) (s_ne rfl) (v_trim (by repeat' (first | exact pre_var | exact pre_con | exact pre_nil | exact pre_no | exact pre_noS | exact pre_newD | exact pre_lam0 | exact pre_lam1 | exact pre_send | exact pre_raise | exact pre_nameT | exact pre_nilT | exact pre_addG | exact pre_intG | exact pre_mulG | exact pre_cmpG | exact pre_eqG | exact pre_inG | exact pre_ixG | exact pre_negG | exact pre_lenG | exact pre_isiG | exact pre_twoG | exact pre_absG | exact pre_intC | exact pre_allG | exact pre_tupC | exact pre_lstC | refine pre_op ?_ ?_ ?_ | refine pre_un ?_ ?_ | refine pre_and ?_ ?_ | refine pre_or ?_ ?_ | refine pre_not ?_ | refine pre_ifF ?_ ?_ ?_ | refine pre_ch ?_ ?_ ?_ ?_ ?_ | refine pre_cons ?_ ?_ | refine pre_new ?_ | refine pre_cl ?_ ?_ | refine pre_call ?_ ?_ | refine pre_rg1 ?_ | refine pre_rg2 ?_ ?_ | refine pre_err ?_ | refine pre_seqI ?_ | refine pre_rg1I ?_ | refine pre_rg2I ?_ | refine pre_lc ?_ ?_ ?_ | refine pre_lc2 ?_ ?_ ?_ ?_ ?_ | refine pre_lenSet ?_ ?_ ?_ | refine pre_trim ?_ | refine pre_seq ?_ ?_ | refine pre_ret ?_ | refine pre_exp ?_ | refine pre_cond ?_ ?_ ?_ | refine pre_consT ?_ ?_ | refine pre_tupT ?_ | refine pre_asg ?_ ?_ | refine pre_par ?_ | refine pre_for ?_ ?_ ?_ | exact pd_is_whole | exact pd_is_node | exact pd_check_count | exact pd_check_node | exact pd_check_row | exact pd__is_line | exact pd_is_web | exact pd_check_web | exact pd_arrows | exact pd__is_arrow | exact pd__are_arrows | exact pd__many_behind | exact pd__behind | exact pd_turned | exact pd_turned_all | exact pd__is_order | exact pd_renamed | exact pd__part_of | exact pd_parts | exact pd_is_tree | exact pre_errc pksL)) (v_err0 (k := 5) GE tells TB rfl hmT htu (hr.mono (by decide)) (LamX.lamS_by (by kernel_rfl)) (fun A outer s H E f c' hr => have hu := hr.units; (v_callD G_renamed (hr.mono (by decide)) (takes_of rfl rfl rfl rfl) (v_cons (v_var 2) (v_cons (v_var 9) v_nil)) (ar_cons (ar_cons ar_nil)))))) v_str) (v_wor1 (v_cmpT (op_neD hu) (s_ne rfl) (v_trim (by repeat' (first | exact pre_var | exact pre_con | exact pre_nil | exact pre_no | exact pre_noS | exact pre_newD | exact pre_lam0 | exact pre_lam1 | exact pre_send | exact pre_raise | exact pre_nameT | exact pre_nilT | exact pre_addG | exact pre_intG | exact pre_mulG | exact pre_cmpG | exact pre_eqG | exact pre_inG | exact pre_ixG | exact pre_negG | exact pre_lenG | exact pre_isiG | exact pre_twoG | exact pre_absG | exact pre_intC | exact pre_allG | exact pre_tupC | exact pre_lstC | refine pre_op ?_ ?_ ?_ | refine pre_un ?_ ?_ | refine pre_and ?_ ?_ | refine pre_or ?_ ?_ | refine pre_not ?_ | refine pre_ifF ?_ ?_ ?_ | refine pre_ch ?_ ?_ ?_ ?_ ?_ | refine pre_cons ?_ ?_ | refine pre_new ?_ | refine pre_cl ?_ ?_ | refine pre_call ?_ ?_ | refine pre_rg1 ?_ | refine pre_rg2 ?_ ?_ | refine pre_err ?_ | refine pre_seqI ?_ | refine pre_rg1I ?_ | refine pre_rg2I ?_ | refine pre_lc ?_ ?_ ?_ | refine pre_lc2 ?_ ?_ ?_ ?_ ?_ | refine pre_lenSet ?_ ?_ ?_ | refine pre_trim ?_ | refine pre_seq ?_ ?_ | refine pre_ret ?_ | refine pre_exp ?_ | refine pre_cond ?_ ?_ ?_ | refine pre_consT ?_ ?_ | refine pre_tupT ?_ | refine pre_asg ?_ ?_ | refine pre_par ?_ | refine pre_for ?_ ?_ ?_ | exact pd_is_whole | exact pd_is_node | exact pd_check_count | exact pd_check_node | exact pd_check_row | exact pd__is_line | exact pd_is_web | exact pd_check_web | exact pd_arrows | exact pd__is_arrow | exact pd__are_arrows | exact pd__many_behind | exact pd__behind | exact pd_turned | exact pd_turned_all | exact pd__is_order | exact pd_renamed | exact pd__part_of | exact pd_parts | exact pd_is_tree | exact pre_errc pksL)) (v_err1 (k := 5) (a0 := "a") GE tells TB rfl hmT htu (hr.mono (by decide)) (lamS1_by (by kernel_rfl)) (fun A outer s H E f c' hr => have hu := hr.units; (v_callD G_renamed (hr.mono (by decide)) (takes_of rfl rfl rfl rfl) (v_cons (v_tup (v_cons (v_tup (v_cons v_int v_nil)) v_nil)) (v_cons (v_tup (v_cons v_bl v_nil)) v_nil)) (ar_cons (ar_cons ar_nil)))))) v_str))))) (v_s1 (v_ret v_bl)) v_send) (v_seq (v_if (v_cmpT (op_neD hu) (s_ne rfl) (v_lc [("value", 10)] sc_law.nd (v_iseq rfl (v_lst (v_cons v_non (v_cons v_int (v_cons v_int (v_cons v_bl (v_cons v_str v_nil))))))) (blkOk_by (N := N_law) (sc := defScope s_law) (by decide +kernel)) (fun _ _ _ _ _ => (v_xname 10 (by decide) sc_law.nd)) (fun _ _ _ _ _ => v_ts0) (fun _ _ _ _ _ => (v_err0 (k := 5) GE tells TB rfl hmT htu (hr.mono (by decide)) (LamX.lamS_by (by kernel_rfl)) (fun A outer s H E f c' hr => have hu := hr.units; (v_callD G_web_of (hr.mono (by decide)) (takes_of rfl rfl rfl rfl) (v_cons (v_var 10) (v_cons v_non v_nil)) (ar_cons (ar_cons ar_nil))))))) (v_op op_mulU (s_mul rfl) (v_lst (v_cons v_str v_nil)) v_int)) (v_s1 (v_ret v_bl)) v_send) (v_seq (v_asg (v_lst (v_cons v_non (v_cons (v_lst (v_cons (v_tup (v_cons v_int (v_cons v_int (v_cons v_int v_nil)))) v_nil)) (v_cons (v_tup (v_cons (v_tup (v_cons v_int (v_cons v_int (v_cons v_int v_nil)))) v_nil)) (v_cons (v_tup (v_cons (v_tup (v_cons v_int (v_cons v_int (v_cons v_int v_nil)))) v_nil)) (v_cons (v_tup (v_cons (v_tup (v_cons v_int (v_cons v_int (v_cons v_int v_nil)))) v_nil)) (v_cons (v_tup (v_cons (v_tup (v_cons v_int (v_cons v_int (v_cons v_int v_nil)))) v_nil)) (v_cons (v_tup (v_cons (v_tup (v_cons v_int (v_cons v_int (v_cons v_int v_nil)))) (v_cons (v_tup (v_cons v_int (v_cons v_int (v_cons v_int v_nil)))) v_nil))) (v_cons (v_tup (v_cons (v_tup (v_cons v_int (v_cons v_int (v_cons v_int v_nil)))) (v_cons (v_tup (v_cons v_int (v_cons v_int (v_cons v_int v_nil)))) v_nil))) v_nil))))))))) (v_gname 11 sc_law.nd)) (v_seq (v_asg (v_op op_addU (s_add rfl) (v_var 11) (v_lst (v_cons (v_tup (v_cons (v_tup (v_cons v_int (v_cons v_int v_nil))) v_nil)) (v_cons (v_tup (v_cons v_int v_nil)) (v_cons (v_tup (v_cons (v_tup (v_cons v_int (v_cons v_bl (v_cons v_int v_nil)))) v_nil)) v_nil))))) (v_gname 11 sc_law.nd)) (v_seq (v_if (L2.PW.pt (v_wor (v_cmpT (op_neD hu) (s_ne rfl) (v_lc [("value", 10)] sc_law.nd (v_iseq rfl (v_var 11)) (blkOk_by (N := N_law) (sc := defScope s_law) (by decide +kernel)) (fun _ _ _ _ _ => (v_xname 10 (by decide) sc_law.nd)) (fun _ _ _ _ _ => v_ts0) (fun _ _ _ _ _ => (v_err0 (k := 5) GE tells TB rfl hmT htu (hr.mono (by decide)) (LamX.lamS_by (by kernel_rfl)) (fun A outer s H E f c' hr => have hu := hr.units; (v_callD G_web_of (hr.mono (by decide)) (takes_of rfl rfl rfl rfl) (v_cons v_int (v_cons (v_var 10) v_nil)) (ar_cons (ar_cons ar_nil))))))) (v_op op_mulU (s_mul rfl) (v_lst (v_cons v_str v_nil)) v_int)) (v_wor1 (v_cmpT (op_neD hu) (s_ne rfl) (v_callD G_web_of (hr.mono (by decide)) (takes_of rfl rfl rfl rfl) (v_cons v_int (v_cons (v_tup v_nil) v_nil)) (ar_cons (ar_cons ar_nil))) (v_op op_mulU (s_mul rfl) (v_tup (v_cons (v_op op_mulU (s_mul rfl) (v_tup (v_cons v_int v_nil)) v_int) v_nil)) v_int))))) (v_s1 (v_ret v_bl)) v_send) (v_seq (v_par (i := 12) (j := 13) sc_law.nd (v_cons (v_op op_addU (s_add rfl) v_int (v_callD G__law_taken (hr.mono (by decide)) (takes_of rfl rfl rfl rfl) (v_cons (v_var 1) (v_cons v_int v_nil)) (ar_cons (ar_cons ar_nil)))) (v_cons (v_op op_addU (s_add rfl) v_int (v_callD G__law_taken (hr.mono (by decide)) (takes_of rfl rfl rfl rfl) (v_cons (v_var 1) (v_cons v_int v_nil)) (ar_cons (ar_cons ar_nil)))) v_nil))) (v_seq (v_asg (v_callD G_web_of (hr.mono (by decide)) (takes_of rfl rfl rfl rfl) (v_cons v_int (v_cons (v_tup (v_cons (v_tup (v_cons v_int (v_cons v_int (v_cons (v_var 12) v_nil)))) (v_cons (v_tup (v_cons v_int (v_cons v_int (v_cons (v_var 13) v_nil)))) v_nil))) v_nil)) (ar_cons (ar_cons ar_nil))) (v_gname 14 sc_law.nd)) (v_seq (v_if (v_trimT (by repeat' (first | exact pre_var | exact pre_con | exact pre_nil | exact pre_no | exact pre_noS | exact pre_newD | exact pre_lam0 | exact pre_lam1 | exact pre_send | exact pre_raise | exact pre_nameT | exact pre_nilT | exact pre_addG | exact pre_intG | exact pre_mulG | exact pre_cmpG | exact pre_eqG | exact pre_inG | exact pre_ixG | exact pre_negG | exact pre_lenG | exact pre_isiG | exact pre_twoG | exact pre_absG | exact pre_intC | exact pre_allG | exact pre_tupC | exact pre_lstC | refine pre_op ?_ ?_ ?_ | refine pre_un ?_ ?_ | refine pre_and ?_ ?_ | refine pre_or ?_ ?_ | refine pre_not ?_ | refine pre_ifF ?_ ?_ ?_ | refine pre_ch ?_ ?_ ?_ ?_ ?_ | refine pre_cons ?_ ?_ | refine pre_new ?_ | refine pre_cl ?_ ?_ | refine pre_call ?_ ?_ | refine pre_rg1 ?_ | refine pre_rg2 ?_ ?_ | refine pre_err ?_ | refine pre_seqI ?_ | refine pre_rg1I ?_ | refine pre_rg2I ?_ | refine pre_lc ?_ ?_ ?_ | refine pre_lc2 ?_ ?_ ?_ ?_ ?_ | refine pre_lenSet ?_ ?_ ?_ | refine pre_trim ?_ | refine pre_seq ?_ ?_ | refine pre_ret ?_ | refine pre_exp ?_ | refine pre_cond ?_ ?_ ?_ | refine pre_consT ?_ ?_ | refine pre_tupT ?_ | refine pre_asg ?_ ?_ | refine pre_par ?_ | refine pre_for ?_ ?_ ?_ | exact pd_is_whole | exact pd_is_node | exact pd_check_count | exact pd_check_node | exact pd_check_row | exact pd__is_line | exact pd_is_web | exact pd_check_web | exact pd_arrows | exact pd__is_arrow | exact pd__are_arrows | exact pd__many_behind | exact pd__behind | exact pd_turned | exact pd_turned_all | exact pd__is_order | exact pd_renamed | exact pd__part_of | exact pd_parts | exact pd_is_tree | exact pre_errc pksL)) (v_cmpT (op_neD hu) (s_ne rfl) (v_trim (by repeat' (first | exact pre_var | exact pre_con | exact pre_nil | exact pre_no | exact pre_noS | exact pre_newD | exact pre_lam0 | exact pre_lam1 | exact pre_send | exact pre_raise | exact pre_nameT | exact pre_nilT | exact pre_addG | exact pre_intG | exact pre_mulG | exact pre_cmpG | exact pre_eqG | exact pre_inG | exact pre_ixG | exact pre_negG | exact pre_lenG | exact pre_isiG | exact pre_twoG | exact pre_absG | exact pre_intC | exact pre_allG | exact pre_tupC | exact pre_lstC | refine pre_op ?_ ?_ ?_ | refine pre_un ?_ ?_ | refine pre_and ?_ ?_ | refine pre_or ?_ ?_ | refine pre_not ?_ | refine pre_ifF ?_ ?_ ?_ | refine pre_ch ?_ ?_ ?_ ?_ ?_ | refine pre_cons ?_ ?_ | refine pre_new ?_ | refine pre_cl ?_ ?_ | refine pre_call ?_ ?_ | refine pre_rg1 ?_ | refine pre_rg2 ?_ ?_ | refine pre_err ?_ | refine pre_seqI ?_ | refine pre_rg1I ?_ | refine pre_rg2I ?_ | refine pre_lc ?_ ?_ ?_ | refine pre_lc2 ?_ ?_ ?_ ?_ ?_ | refine pre_lenSet ?_ ?_ ?_ | refine pre_trim ?_ | refine pre_seq ?_ ?_ | refine pre_ret ?_ | refine pre_exp ?_ | refine pre_cond ?_ ?_ ?_ | refine pre_consT ?_ ?_ | refine pre_tupT ?_ | refine pre_asg ?_ ?_ | refine pre_par ?_ | refine pre_for ?_ ?_ ?_ | exact pd_is_whole | exact pd_is_node | exact pd_check_count | exact pd_check_node | exact pd_check_row | exact pd__is_line | exact pd_is_web | exact pd_check_web | exact pd_arrows | exact pd__is_arrow | exact pd__are_arrows | exact pd__many_behind | exact pd__behind | exact pd_turned | exact pd_turned_all | exact pd__is_order | exact pd_renamed | exact pd__part_of | exact pd_parts | exact pd_is_tree | exact pre_errc pksL)) (v_err0 (k := 5) GE tells TB rfl hmT htu (hr.mono (by decide)) (LamX.lamS_by (by kernel_rfl)) (fun A outer s H E f c' hr => have hu := hr.units; (v_callD G_turned (hr.mono (by decide)) (takes_of rfl rfl rfl rfl) (v_cons (v_var 14) (v_cons v_int v_nil)) (ar_cons (ar_cons ar_nil)))))) (v_ifE (v_cmpT op_gt s_cmp (v_op op_mulU (s_mul rfl) (v_var 12) (v_var 13)) v_int) v_str v_str))) (v_s1 (v_ret v_bl)) v_send) (v_s1 (v_ret (v_cmp (op_eqD hu) (s_eq rfl) (v_trim (by repeat' (first | exact pre_var | exact pre_con | exact pre_nil | exact pre_no | exact pre_noS | exact pre_newD | exact pre_lam0 | exact pre_lam1 | exact pre_send | exact pre_raise | exact pre_nameT | exact pre_nilT | exact pre_addG | exact pre_intG | exact pre_mulG | exact pre_cmpG | exact pre_eqG | exact pre_inG | exact pre_ixG | exact pre_negG | exact pre_lenG | exact pre_isiG | exact pre_twoG | exact pre_absG | exact pre_intC | exact pre_allG | exact pre_tupC | exact pre_lstC | refine pre_op ?_ ?_ ?_ | refine pre_un ?_ ?_ | refine pre_and ?_ ?_ | refine pre_or ?_ ?_ | refine pre_not ?_ | refine pre_ifF ?_ ?_ ?_ | refine pre_ch ?_ ?_ ?_ ?_ ?_ | refine pre_cons ?_ ?_ | refine pre_new ?_ | refine pre_cl ?_ ?_ | refine pre_call ?_ ?_ | refine pre_rg1 ?_ | refine pre_rg2 ?_ ?_ | refine pre_err ?_ | refine pre_seqI ?_ | refine pre_rg1I ?_ | refine pre_rg2I ?_ | refine pre_lc ?_ ?_ ?_ | refine pre_lc2 ?_ ?_ ?_ ?_ ?_ | refine pre_lenSet ?_ ?_ ?_ | refine pre_trim ?_ | refine pre_seq ?_ ?_ | refine pre_ret ?_ | refine pre_exp ?_ | refine pre_cond ?_ ?_ ?_ | refine pre_consT ?_ ?_ | refine pre_tupT ?_ | refine pre_asg ?_ ?_ | refine pre_par ?_ | refine pre_for ?_ ?_ ?_ | exact pd_is_whole | exact pd_is_node | exact pd_check_count | exact pd_check_node | exact pd_check_row | exact pd__is_line | exact pd_is_web | exact pd_check_web | exact pd_arrows | exact pd__is_arrow | exact pd__are_arrows | exact pd__many_behind | exact pd__behind | exact pd_turned | exact pd_turned_all | exact pd__is_order | exact pd_renamed | exact pd__part_of | exact pd_parts | exact pd_is_tree | exact pre_errc pksL)) (v_err0 (k := 5) GE tells TB rfl hmT htu (hr.mono (by decide)) (LamX.lamS_by (by kernel_rfl)) (fun A outer s H E f c' hr => have hu := hr.units; (v_callD G_turned_all (hr.mono (by decide)) (takes_of rfl rfl rfl rfl) (v_cons (v_var 14) (v_cons (v_tup (v_cons v_int (v_cons v_int (v_cons v_int v_nil)))) v_nil)) (ar_cons (ar_cons ar_nil)))))) (v_ifE (v_cmpT op_gt s_cmp (v_op op_mulU (s_mul rfl) (v_var 12) (v_var 13)) v_int) v_str v_str))))))))))))))))))))))
end Law
set_option maxRecDepth 100000
set_option maxHeartbeats 2000000
namespace Vai
open PySem L2
/-! ### evaluating, a rule each -/
section
variable {sa sa1 sa2 : Sa} {S S1 S2 S3 : List O} {a b c : A} {fa fb fc : F} {fl : FL}
theorem trim_ok {d : FD} {as : List A} {S S' : List O} {a : A} (h : d as S = some (.ok a S')) (hf : flatA a = true) : trimD d as S = some (.ok a S) := by
  unfold trimD trimR
  rw [h]
  simp [hf]
theorem trim_ref {d : FD} {as : List A} {S S' : List O} {l : Nat} (h : d as S = some (.ok (.ref l) S')) : trimD d as S = some (.ok (.ref l) S') := by
  unfold trimD trimR
  rw [h]
  simp [flatA]
theorem trim_er {d : FD} {as : List A} {S S' : List O} {c : Nat} (h : d as S = some (.er c S')) : trimD d as S = some (.er c S) := by
  unfold trimD trimR
  rw [h]
  rfl
theorem r_trim {f : F} (h : f sa S = some (.ok a S1)) (hf : flatA a = true) : trimF f sa S = some (.ok a S) := by
  unfold trimF trimR
  rw [h]
  simp [hf]
theorem r_var {i : Nat} (h : sa[i]? = some (some a)) : varF i sa S = some (.ok a S) := by
  unfold varF
  rw [h]
theorem r_con : conF a sa S = some (.ok a S) := rfl
theorem r_bnd {f : F} {k : A → F} {y : Option R} (h : f sa S = some (.ok a S1)) (hk : k a sa S1 = y) : bnd f k sa S = y := by
  unfold bnd
  rw [h]
  exact hk
theorem r_bndE {f : F} {k : A → F} {e : Nat} (h : f sa S = some (.er e S1)) : bnd f k sa S = some (.er e S1) := by
  unfold bnd
  rw [h]
theorem r_op {g : G2} (ha : fa sa S = some (.ok a S1)) (hb : fb sa S1 = some (.ok b S2)) (hg : g a b S2 = some (c, S3)) : opF g fa fb sa S = some (.ok c S3) :=
  r_bnd ha (r_bnd hb (by show toR (g a b S2) = _; rw [hg]; rfl))
theorem r_un {g : G1} (ha : fa sa S = some (.ok a S1)) (hg : g a S1 = some (c, S3)) : unF g fa sa S = some (.ok c S3) := r_bnd ha (by show toR (g a S1) = _; rw [hg]; rfl)
theorem r_and {x y : Bool} (ha : fa sa S = some (.ok (.bl x) S1)) (hb : x = true → fb sa S1 = some (.ok (.bl y) S1)) : andF fa fb sa S = some (.ok (.bl (x && y)) S1) := by
  refine r_bnd ha ?_
  cases x with
  | true => exact hb rfl
  | false => rfl
theorem r_or {x y : Bool} (ha : fa sa S = some (.ok (.bl x) S1)) (hb : x = false → fb sa S1 = some (.ok (.bl y) S1)) : orF fa fb sa S = some (.ok (.bl (x || y)) S1) := by
  refine r_bnd ha ?_
  cases x with
  | true => rfl
  | false => exact hb rfl
theorem r_not {x : Bool} (ha : fa sa S = some (.ok (.bl x) S1)) : notF fa sa S = some (.ok (.bl (!x)) S1) := r_bnd ha rfl
theorem r_ifE {x : Bool} (h : fc sa S = some (.ok (.bl x) S1)) (ha : x = true → fa sa S1 = some (.ok a S2)) (hb : x = false → fb sa S1 = some (.ok a S2)) : ifF fc fa fb sa S = some (.ok a S2) := by
  refine r_bnd h ?_
  cases x with
  | true => exact ha rfl
  | false => exact hb rfl
theorem r_ch {g g' : G2} {x y : Bool} (ha : fa sa S = some (.ok a S1)) (hb : fb sa S1 = some (.ok b S2)) (hg : g a b S2 = some (.bl x, S2)) (hc : fc sa S2 = some (.ok c S2)) (hg' : g' b c S2 = some (.bl y, S2)) : chF g g' fa fb fc sa S = some (.ok (.bl (x && y)) S2) := by
  refine r_bnd ha (r_bnd hb (r_bnd (a := .bl x) (S1 := S2) ?_ ?_))
  · show toR (g a b S2) = _
    rw [hg]
    rfl
  · cases x with
    | true =>
      refine r_bnd hc ?_
      show toR (g' b c S2) = _
      rw [hg']
      rfl
    | false => rfl
theorem r_nil : nilF sa S = some (.ok [] S) := rfl
theorem r_cons {as : List A} (ha : fa sa S = some (.ok a S1)) (hl : fl sa S1 = some (.ok as S2)) : consF fa fl sa S = some (.ok (a :: as) S2) := by
  unfold consF
  rw [ha]
  simp only
  rw [hl]
theorem r_bndL {as : List A} {k : List A → F} {y : Option R} (h : fl sa S = some (.ok as S1)) (hk : k as sa S1 = y) : bndL fl k sa S = y := by
  unfold bndL
  rw [h]
  exact hk
theorem r_new {mk : List A → O} {as : List A} (h : fl sa S = some (.ok as S1)) (hn : as.length ≤ 1000000) : newF mk fl sa S = some (.ok (.ref S1.length) (S1 ++ [mk as])) := r_bndL h (if_pos hn)
theorem r_cl {g : GN} {as : List A} (h : fl sa S = some (.ok as S1)) (hg : g as S1 = some (c, S2)) : clF g fl sa S = some (.ok c S2) := r_bndL h (by show toR (g as S1) = _; rw [hg]; rfl)
theorem r_call {d : FD} {as : List A} {y : Option R} (h : fl sa S = some (.ok as S1)) (hd : d as S1 = y) : callF d fl sa S = y := r_bndL h hd
theorem r_err {nm : Nat → Option Str} {e0 : Str} (h : fb sa S = some (.ok a S1)) : errF nm e0 fb sa S = some (.ok (.str e0) S1) := by
  unfold errF
  rw [h]
theorem r_errE {nm : Nat → Option Str} {e0 z : Str} {e : Nat} (h : fb sa S = some (.er e S1)) (hn : nm e = some z) : errF nm e0 fb sa S = some (.ok (.str z) S1) := by
  unfold errF
  rw [h]
  simp only
  rw [hn]
/-! statements -/
variable {f g : FS} {y : Option RF}
theorem r_seq (h : f sa S = some (.nx sa1 S1)) (k : g sa1 S1 = y) : seqF f g sa S = y := by
  unfold seqF
  rw [h]
  exact k
theorem r_seqR (h : f sa S = some (.rt a S1)) : seqF f g sa S = some (.rt a S1) := by
  unfold seqF
  rw [h]
theorem r_seqE {e : Nat} (h : f sa S = some (.er e sa1 S1)) : seqF f g sa S = some (.er e sa1 S1) := by
  unfold seqF
  rw [h]
theorem r_ret (h : fa sa S = some (.ok a S1)) : retF fa sa S = some (.rt a S1) := by
  unfold retF
  rw [h]
theorem r_retE {e : Nat} (h : fa sa S = some (.er e S1)) : retF fa sa S = some (.er e sa S1) := by
  unfold retF
  rw [h]
theorem r_exp (h : fa sa S = some (.ok a S1)) : expF fa sa S = some (.nx sa S1) := by
  unfold expF
  rw [h]
theorem r_expE {e : Nat} (h : fa sa S = some (.er e S1)) : expF fa sa S = some (.er e sa S1) := by
  unfold expF
  rw [h]
theorem r_condT (h : fc sa S = some (.ok (.bl true) S1)) (k : f sa S1 = y) : condF fc f g sa S = y := by
  unfold condF
  rw [h]
  exact k
theorem r_condF (h : fc sa S = some (.ok (.bl false) S1)) (k : g sa S1 = y) : condF fc f g sa S = y := by
  unfold condF
  rw [h]
  exact k
theorem r_asg {T : TF} {z : Sa × List O} (h : fa sa S = some (.ok a S1)) (k : T a sa S1 = some z) : asgF fa T sa S = some (.nx z.1 z.2) := by
  unfold asgF
  rw [h]
  simp only
  rw [k]
theorem r_asgN {i : Nat} (h : fa sa S = some (.ok a S1)) : asgF fa (nameT i) sa S = some (.nx (sa.set i (some a)) S1) := r_asg (T := nameT i) (z := (sa.set i (some a), S1)) h rfl
theorem r_defR {m : Nat} {b : FS} {as : List A} (h : b (as.map some ++ List.replicate (m - as.length) none) S = some (.rt a S1)) : defF m b as S = some (.ok a S1) := by
  unfold defF
  rw [h]
theorem r_defN {m : Nat} {b : FS} {as : List A} (h : b (as.map some ++ List.replicate (m - as.length) none) S = some (.nx sa S1)) : defF m b as S = some (.ok .non S1) := by
  unfold defF
  rw [h]
theorem r_defE {m : Nat} {b : FS} {as : List A} {e : Nat} (h : b (as.map some ++ List.replicate (m - as.length) none) S = some (.er e sa S1)) : defF m b as S = some (.er e S1) := by
  unfold defF
  rw [h]
/-! the operators on what stands in the store -/
theorem g_ixT {l : Nat} {k : Int} {xs : List A} {x : A} (h : S[l]? = some (.tup xs)) (hx : atI xs k = some x) : ixG (.ref l) (.int k) S = some (x, S) := by
  unfold ixG
  simp only
  rw [h]
  simp only
  rw [hx]
  rfl
theorem g_ixL {l : Nat} {k : Int} {xs : List A} {x : A} (h : S[l]? = some (.lst xs)) (hx : atI xs k = some x) : ixG (.ref l) (.int k) S = some (x, S) := by
  unfold ixG
  simp only
  rw [h]
  simp only
  rw [hx]
  rfl
theorem g_lenT {l : Nat} {xs : List A} (h : S[l]? = some (.tup xs)) : lenG [.ref l] S = some (.int xs.length, S) := by
  unfold lenG
  simp only
  rw [h]
theorem g_lenL {l : Nat} {xs : List A} (h : S[l]? = some (.lst xs)) : lenG [.ref l] S = some (.int xs.length, S) := by
  unfold lenG
  simp only
  rw [h]
theorem g_tupL {l : Nat} {xs : List A} (h : S[l]? = some (.lst xs)) : tupC [.ref l] S = some (.ref S.length, S ++ [.tup xs]) := by
  unfold tupC
  simp only
  rw [h]
theorem g_all {l : Nat} {xs : List A} {bs : List Bool} {f : List Bool → Bool} (h : S[l]? = some (.lst xs)) (hb : toBs xs = some bs) : allG f [.ref l] S = some (.bl (f bs), S) := by
  unfold allG
  simp only
  rw [h]
  simp only
  rw [hb]
theorem toBs_map {α : Type} (p : α → Bool) : ∀ xs : List α, toBs (xs.map fun x => A.bl (p x)) = some (xs.map p)
  | [] => rfl
  | x :: xs => by
    show (match toBs (xs.map fun x => A.bl (p x)) with
      | some bs => some (p x :: bs)
      | none => none) = _
    rw [toBs_map p xs]
    rfl
theorem g_isi {t n : String} {b : Bool} (h : tyN S a = some t) (hk : kitB t n = some b) : isiG [a, .ty n] S = some (.bl b, S) := by
  unfold isiG
  simp only
  rw [h]
  simp only
  rw [hk]
  rfl
theorem at_up {l : Nat} {o : O} (p : S <+: S1) (h : S[l]? = some o) : S1[l]? = some o := by
  obtain ⟨G, rfl⟩ := p
  rw [List.getElem?_append_left (List.getElem?_eq_some_iff.mp h).1]
  exact h
theorem at_new {o : O} : (S ++ [o])[S.length]? = some o := get_snoc_new S o
theorem tyN_up {t : String} (p : S <+: S1) (h : tyN S a = some t) : tyN S1 a = some t := by
  cases a with
  | ref l =>
    simp only [tyN] at h ⊢
    cases hl : S[l]? with
    | none =>
      rw [hl] at h
      cases h
    | some o =>
      rw [hl] at h
      rw [at_up p hl]
      exact h
  | _ => exact h
/-! a list comprehension that leaves nothing but its list -/
theorem e_lcGo {i : Its} {T : TX} {vs : List Nat} {ft fe : F} {xs : List A} {sx : A → Sa} {p : A → Bool} {g : A → A} (items : ∀ G, S1 <+: G → ∀ j, itemAt i j G = some xs[j]?)
    (hT : ∀ x ∈ xs, ∀ G, S1 <+: G → T x (wipeA sa vs) G = some (sx x)) (ht : ∀ x ∈ xs, ∀ G, S1 <+: G → ft (sx x) G = some (.ok (.bl (p x)) G)) (he : ∀ x ∈ xs, p x = true → ∀ G, S1 <+: G → fe (sx x) G = some (.ok (g x) G)) :
    ∀ (n j : Nat) (acc : List A), n + j = xs.length + 1 → j ≤ xs.length → acc.length + (xs.length - j) ≤ 1000000 → lcGo i T vs ft fe S1.length sa n j (S1 ++ [.lst acc]) = some (S1 ++ [.lst (acc ++ ((xs.drop j).filter p).map g)])
  | 0, j, acc, e, e0, ha => by omega
  | n + 1, j, acc, e, e0, ha => by
    have pre : S1 <+: S1 ++ [O.lst acc] := pfa S1 _
    simp only [lcGo]
    rw [items _ pre j]
    by_cases hj : j < xs.length
    · have hx : xs[j]? = some xs[j] := List.getElem?_eq_getElem hj
      have hm : xs[j] ∈ xs := List.getElem_mem hj
      have hd : xs.drop j = xs[j] :: xs.drop (j + 1) := List.drop_eq_getElem_cons hj
      rw [hx]
      simp only
      rw [hT _ hm _ pre]
      simp only
      rw [ht _ hm _ pre]
      cases hp : p xs[j] with
      | false =>
        simp only
        rw [e_lcGo items hT ht he n (j + 1) acc (by omega) (by omega) (by omega), hd, List.filter_cons, hp]
        rfl
      | true =>
        simp only
        rw [he _ hm hp _ pre]
        simp only
        rw [at_new]
        simp only
        rw [if_pos (by omega)]
        have e2 : (S1 ++ [O.lst acc]).set S1.length (.lst (acc ++ [g xs[j]])) = S1 ++ [O.lst (acc ++ [g xs[j]])] := by
          rw [List.set_append_right _ _ (Nat.le_refl _), Nat.sub_self]
          rfl
        rw [e2, e_lcGo items hT ht he n (j + 1) (acc ++ [g xs[j]]) (by omega) (by omega) (by rw [List.length_append]; simp; omega), hd, List.filter_cons, hp]
        simp
    · have hx : xs[j]? = none := List.getElem?_eq_none (by omega)
      rw [hx]
      simp only
      rw [List.drop_eq_nil_of_le (by omega)]
      simp
/-- what is gone through: the items xs, whatever is laid behind -/
def Goes (i : Its) (S : List O) (xs : List A) : Prop := (∀ G, S <+: G → ∀ j, itemAt i j G = some xs[j]?) ∧ itsLen i S = xs.length
theorem goes_l {l : Nat} {xs : List A} (h : S[l]? = some (.lst xs)) : Goes (.sl l) S xs := ⟨fun G p j => by
  simp only [itemAt]
  rw [at_up p h], by
  simp only [itsLen]
  rw [h]⟩
theorem goes_t {l : Nat} {xs : List A} (h : S[l]? = some (.tup xs)) : Goes (.st l) S xs := ⟨fun G p j => by
  simp only [itemAt]
  rw [at_up p h], by
  simp only [itsLen]
  rw [h]⟩
theorem goes_r {lo : Int} {n : Nat} : Goes (.rg lo n) S ((List.range n).map fun i => .int (lo + (i : Nat))) := ⟨fun G p j => by
  simp only [itemAt]
  rw [List.getElem?_map]
  split
  · rename_i h
    rw [List.getElem?_range h]
    rfl
  · rename_i h
    rw [List.getElem?_eq_none (by simp; omega)]
    rfl, by simp [itsLen]⟩
theorem r_seqL {l : Nat} {xs : List A} (h : fa sa S = some (.ok (.ref l) S1)) (hl : S1[l]? = some (.lst xs)) : seqI fa sa S = some (.ok (.sl l) S1) := by
  unfold seqI
  rw [h]
  simp only
  rw [hl]
theorem r_seqT {l : Nat} {xs : List A} (h : fa sa S = some (.ok (.ref l) S1)) (hl : S1[l]? = some (.tup xs)) : seqI fa sa S = some (.ok (.st l) S1) := by
  unfold seqI
  rw [h]
  simp only
  rw [hl]
theorem r_rg1 {j : Int} (h : fl sa S = some (.ok [.int j] S1)) (hb : inBd j = true) : rg1I fl sa S = some (.ok (.rg 0 j.toNat) S1) := by
  unfold rg1I
  rw [h]
  simp only
  rw [if_pos hb]
theorem r_rg2 {i j : Int} (h : fl sa S = some (.ok [.int i, .int j] S1)) (hb : inBd i = true) (hb2 : inBd j = true) : rg2I fl sa S = some (.ok (.rg i (j - i).toNat) S1) := by
  unfold rg2I
  rw [h]
  simp only
  rw [if_pos (by rw [hb, hb2]; rfl)]
theorem e_lc {fi : FI} {i : Its} {T : TX} {vs : List Nat} {ft fe : F} {xs : List A} {sx : A → Sa} {p : A → Bool} {g : A → A} (hi : fi sa S = some (.ok i S1)) (hg : Goes i S1 xs)
    (hT : ∀ x ∈ xs, ∀ G, S1 <+: G → T x (wipeA sa vs) G = some (sx x)) (ht : ∀ x ∈ xs, ∀ G, S1 <+: G → ft (sx x) G = some (.ok (.bl (p x)) G)) (he : ∀ x ∈ xs, p x = true → ∀ G, S1 <+: G → fe (sx x) G = some (.ok (g x) G)) (hl : xs.length ≤ 1000000) :
    lcF fi T vs ft fe sa S = some (.ok (.ref S1.length) (S1 ++ [.lst ((xs.filter p).map g)])) := by
  unfold lcF
  rw [hi]
  simp only
  rw [hg.2, e_lcGo hg.1 hT ht he (xs.length + 1) 0 [] (by omega) (by omega) (by simp; omega)]
  simp
/-- without a test -/
theorem e_lc0 {fi : FI} {i : Its} {T : TX} {vs : List Nat} {fe : F} {xs : List A} {sx : A → Sa} {g : A → A} (hi : fi sa S = some (.ok i S1)) (hg : Goes i S1 xs)
    (hT : ∀ x ∈ xs, ∀ G, S1 <+: G → T x (wipeA sa vs) G = some (sx x)) (he : ∀ x ∈ xs, ∀ G, S1 <+: G → fe (sx x) G = some (.ok (g x) G)) (hl : xs.length ≤ 1000000) :
    lcF fi T vs (conF (.bl true)) fe sa S = some (.ok (.ref S1.length) (S1 ++ [.lst (xs.map g)])) := by
  have := e_lc (ft := conF (.bl true)) (p := fun _ => true) hi hg hT (fun _ _ _ _ => rfl) (fun x hx _ => he x hx) hl
  rw [List.filter_eq_self.mpr fun _ _ => rfl] at this
  exact this
/-- all([.. for ..]) -/
theorem e_allLc {fi : FI} {i : Its} {T : TX} {vs : List Nat} {fe : F} {xs : List A} {sx : A → Sa} {q : A → Bool} (hi : fi sa S = some (.ok i S1)) (hg : Goes i S1 xs)
    (hT : ∀ x ∈ xs, ∀ G, S1 <+: G → T x (wipeA sa vs) G = some (sx x)) (he : ∀ x ∈ xs, ∀ G, S1 <+: G → fe (sx x) G = some (.ok (.bl (q x)) G)) (hl : xs.length ≤ 1000000) :
    clF (allG fun bs => bs.all id) (consF (lcF fi T vs (conF (.bl true)) fe) nilF) sa S = some (.ok (.bl (xs.all q)) (S1 ++ [.lst (xs.map fun x => .bl (q x))])) := by
  have h1 := e_lc0 (g := fun x => .bl (q x)) hi hg hT he hl
  have h2 := r_cl (g := allG fun bs => bs.all id) (r_cons h1 r_nil) (g_all at_new (toBs_map q xs))
  rw [h2]
  simp [List.all_map]
/-! two fors -/
theorem e_lc2Go {i : Its} {T T1 : TX} {vs vs1 : List Nat} {fi1 : FI} {fe : F} {xs : List A} {ys : A → List A} {i1 : A → Its} {sx : A → Sa} {sy : A → A → Sa} {g : A → A → A} (items : ∀ G, S1 <+: G → ∀ j, itemAt i j G = some xs[j]?)
    (hT : ∀ x ∈ xs, ∀ G, S1 <+: G → T x (wipeA sa vs) G = some (sx x)) (hi1 : ∀ x ∈ xs, ∀ G, S1 <+: G → fi1 (sx x) G = some (.ok (i1 x) G)) (hg1 : ∀ x ∈ xs, ∀ G, S1 <+: G → Goes (i1 x) G (ys x))
    (hT1 : ∀ x ∈ xs, ∀ y ∈ ys x, ∀ G, S1 <+: G → T1 y (wipeA (sx x) vs1) G = some (sy x y)) (he : ∀ x ∈ xs, ∀ y ∈ ys x, ∀ G, S1 <+: G → fe (sy x y) G = some (.ok (g x y) G)) :
    ∀ (n j : Nat) (acc : List A), n + j = xs.length + 1 → j ≤ xs.length → acc.length + ((xs.drop j).map fun x => (ys x).length).sum ≤ 1000000 →
      lc2Go i T vs (conF (.bl true)) fi1 T1 vs1 (conF (.bl true)) fe S1.length sa n j (S1 ++ [.lst acc]) = some (S1 ++ [.lst (acc ++ (xs.drop j).flatMap fun x => (ys x).map (g x))])
  | 0, j, acc, e, e0, ha => by omega
  | n + 1, j, acc, e, e0, ha => by
    have pre : S1 <+: S1 ++ [O.lst acc] := pfa S1 _
    simp only [lc2Go]
    rw [items _ pre j]
    by_cases hj : j < xs.length
    · have hx : xs[j]? = some xs[j] := List.getElem?_eq_getElem hj
      have hm : xs[j] ∈ xs := List.getElem_mem hj
      have hd : xs.drop j = xs[j] :: xs.drop (j + 1) := List.drop_eq_getElem_cons hj
      rw [hd, List.map_cons, List.sum_cons] at ha
      rw [hx]
      simp only
      rw [hT _ hm _ pre]
      simp only [conF]
      rw [hi1 _ hm _ pre]
      simp only
      rw [(hg1 _ hm _ pre).2]
      have h2 := e_lcGo (S1 := S1) (sa := sx xs[j]) (i := i1 xs[j]) (T := T1) (vs := vs1) (ft := conF (.bl true)) (fe := fe) (xs := ys xs[j]) (sx := sy xs[j]) (p := fun _ => true) (g := g xs[j]) (fun G p => (hg1 _ hm S1 (pf0 S1)).1 G p) (fun y hy G p => hT1 _ hm y hy G p) (fun _ _ _ _ => rfl) (fun y hy _ G p => he _ hm y hy G p) ((ys xs[j]).length + 1) 0 acc (by omega) (by omega) (by omega)
      rw [List.drop_zero, List.filter_eq_self.mpr fun _ _ => rfl] at h2
      rw [h2]
      simp only
      have h4 := e_lc2Go items hT hi1 hg1 hT1 he n (j + 1) (acc ++ (ys xs[j]).map (g xs[j])) (by omega) (by omega) (by rw [List.length_append, List.length_map]; omega)
      rw [h4, hd, List.flatMap_cons, List.append_assoc]
    · have hx : xs[j]? = none := List.getElem?_eq_none (by omega)
      rw [hx]
      simp only
      rw [List.drop_eq_nil_of_le (by omega)]
      simp
theorem e_lc2 {fi fi1 : FI} {i : Its} {T T1 : TX} {vs vs1 : List Nat} {fe : F} {xs : List A} {ys : A → List A} {i1 : A → Its} {sx : A → Sa} {sy : A → A → Sa} {g : A → A → A} (hi : fi sa S = some (.ok i S1)) (hg : Goes i S1 xs)
    (hT : ∀ x ∈ xs, ∀ G, S1 <+: G → T x (wipeA sa vs) G = some (sx x)) (hi1 : ∀ x ∈ xs, ∀ G, S1 <+: G → fi1 (sx x) G = some (.ok (i1 x) G)) (hg1 : ∀ x ∈ xs, ∀ G, S1 <+: G → Goes (i1 x) G (ys x))
    (hT1 : ∀ x ∈ xs, ∀ y ∈ ys x, ∀ G, S1 <+: G → T1 y (wipeA (sx x) vs1) G = some (sy x y)) (he : ∀ x ∈ xs, ∀ y ∈ ys x, ∀ G, S1 <+: G → fe (sy x y) G = some (.ok (g x y) G)) (hl : (xs.map fun x => (ys x).length).sum ≤ 1000000) :
    lc2F fi T vs (conF (.bl true)) fi1 T1 vs1 (conF (.bl true)) fe sa S = some (.ok (.ref S1.length) (S1 ++ [.lst (xs.flatMap fun x => (ys x).map (g x))])) := by
  unfold lc2F
  rw [hi]
  simp only
  rw [hg.2, e_lc2Go hg.1 hT hi1 hg1 hT1 he (xs.length + 1) 0 [] (by omega) (by omega) (by simpa using hl)]
  simp
theorem e_allLc2 {fi fi1 : FI} {i : Its} {T T1 : TX} {vs vs1 : List Nat} {fe : F} {xs : List A} {ys : A → List A} {i1 : A → Its} {sx : A → Sa} {sy : A → A → Sa} {q : A → A → Bool} (hi : fi sa S = some (.ok i S1)) (hg : Goes i S1 xs)
    (hT : ∀ x ∈ xs, ∀ G, S1 <+: G → T x (wipeA sa vs) G = some (sx x)) (hi1 : ∀ x ∈ xs, ∀ G, S1 <+: G → fi1 (sx x) G = some (.ok (i1 x) G)) (hg1 : ∀ x ∈ xs, ∀ G, S1 <+: G → Goes (i1 x) G (ys x))
    (hT1 : ∀ x ∈ xs, ∀ y ∈ ys x, ∀ G, S1 <+: G → T1 y (wipeA (sx x) vs1) G = some (sy x y)) (he : ∀ x ∈ xs, ∀ y ∈ ys x, ∀ G, S1 <+: G → fe (sy x y) G = some (.ok (.bl (q x y)) G)) (hl : (xs.map fun x => (ys x).length).sum ≤ 1000000) :
    ∃ o, clF (allG fun bs => bs.all id) (consF (lc2F fi T vs (conF (.bl true)) fi1 T1 vs1 (conF (.bl true)) fe) nilF) sa S = some (.ok (.bl (xs.all fun x => (ys x).all (q x))) (S1 ++ [o])) := by
  have h1 := e_lc2 (g := fun x y => .bl (q x y)) hi hg hT hi1 hg1 hT1 he hl
  have hb : toBs (xs.flatMap fun x => (ys x).map fun y => A.bl (q x y)) = some (xs.flatMap fun x => (ys x).map (q x)) := by
    clear h1 hl he hT1 hg1 hi1 hT hg hi
    induction xs with
    | nil => rfl
    | cons x xs ih =>
      have app : ∀ (us : List A) (bs : List Bool) (ys : List A), toBs us = some bs → toBs ((ys.map fun y => A.bl (q x y)) ++ us) = some (ys.map (q x) ++ bs) := fun us bs ys h => by
        induction ys with
        | nil => exact h
        | cons y ys ih2 =>
          show (match toBs ((ys.map fun y => A.bl (q x y)) ++ us) with
            | some bs => some (q x y :: bs)
            | none => none) = _
          rw [ih2]
          rfl
      rw [List.flatMap_cons, List.flatMap_cons]
      exact app _ _ _ ih
  refine ⟨.lst (xs.flatMap fun x => (ys x).map fun y => .bl (q x y)), ?_⟩
  have h2 := r_cl (g := allG fun bs => bs.all id) (r_cons h1 r_nil) (g_all at_new hb)
  rw [h2]
  have h3 : (xs.flatMap fun x => (ys x).map (q x)).all id = xs.all fun x => (ys x).all (q x) := by
    rw [List.all_flatMap]
    congr 1
    funext x
    rw [List.all_map]
    rfl
  rw [h3]
end
end Vai
set_option maxRecDepth 100000
set_option maxHeartbeats 2000000
namespace Vai
open PySem L2
/-- S' has all of S but what stands at d -/
def But (d : Nat) (S S' : List O) : Prop := S.length ≤ S'.length ∧ ∀ (l : Nat) (o : O), l ≠ d → S[l]? = some o → S'[l]? = some o
theorem But.refl {d : Nat} {S : List O} : But d S S := ⟨Nat.le_refl _, fun _ _ _ h => h⟩
theorem But.trans {d : Nat} {S T U : List O} (a : But d S T) (b : But d T U) : But d S U := ⟨Nat.le_trans a.1 b.1, fun l o n h => b.2 l o n (a.2 l o n h)⟩
theorem But.of {d : Nat} {S S' : List O} (p : S <+: S') : But d S S' := ⟨p.length_le, fun l o _ h => by
  obtain ⟨G, rfl⟩ := p
  rw [List.getElem?_append_left (List.getElem?_eq_some_iff.mp h).1]
  exact h⟩
theorem But.put {d : Nat} {S : List O} {o : O} : But d S (S.set d o) := ⟨by rw [List.length_set]; exact Nat.le_refl _, fun l u n h => by rw [List.getElem?_set_ne (Ne.symm n)]; exact h⟩
section
variable {sa : Sa} {S S1 : List O}
/-- a list comprehension whose elements make objects: each is new, and stands as o says -/
theorem e_lcAGo {i : Its} {T : TX} {vs : List Nat} {fe : F} {xs : List A} {sx : A → Sa} {o : A → O} (items : ∀ G, S1 <+: G → ∀ j, itemAt i j G = some xs[j]?)
    (hT : ∀ x ∈ xs, ∀ G, S1 <+: G → T x (wipeA sa vs) G = some (sx x)) (he : ∀ x ∈ xs, ∀ G, S1 <+: G → S1.length < G.length → ∃ (r : Nat) (G' : List O), fe (sx x) G = some (.ok (.ref r) G') ∧ G <+: G' ∧ G.length ≤ r ∧ G'[r]? = some (o x)) :
    ∀ (n j : Nat) (rs : List Nat) (G : List O), n + j = xs.length + 1 → j ≤ xs.length → rs.length = j → xs.length ≤ 1000000 → S1 <+: G → G[S1.length]? = some (.lst (rs.map A.ref)) → (∀ (k : Nat) (x : A) (r : Nat), xs[k]? = some x → rs[k]? = some r → r ≠ S1.length ∧ r < G.length ∧ G[r]? = some (o x)) → rs.Nodup →
      ∃ (rs2 : List Nat) (G2 : List O), lcGo i T vs (conF (.bl true)) fe S1.length sa n j G = some G2 ∧ S1 <+: G2 ∧ G2[S1.length]? = some (.lst (rs2.map A.ref)) ∧ rs2.length = xs.length ∧ (∀ (k : Nat) (x : A) (r : Nat), xs[k]? = some x → rs2[k]? = some r → r ≠ S1.length ∧ G2[r]? = some (o x)) ∧ rs2.Nodup ∧ ∀ r ∈ rs2, r ∈ rs ∨ G.length ≤ r
  | 0, j, rs, G, e, e0, hr, hs, pre, hd, ho, nd => by omega
  | n + 1, j, rs, G, e, e0, hr, hs, pre, hd, ho, nd => by
    simp only [lcGo]
    rw [items _ pre j]
    by_cases hj : j < xs.length
    · have hx : xs[j]? = some xs[j] := List.getElem?_eq_getElem hj
      have hm : xs[j] ∈ xs := List.getElem_mem hj
      have hlt : S1.length < G.length := (List.getElem?_eq_some_iff.mp hd).1
      obtain ⟨r, G', h1, h2, h3, h4⟩ := he _ hm G pre hlt
      rw [hx]
      simp only
      rw [hT _ hm _ pre]
      simp only [conF]
      rw [h1]
      simp only
      have hd' : G'[S1.length]? = some (.lst (rs.map A.ref)) := at_up h2 hd
      rw [hd']
      simp only
      rw [if_pos (by rw [List.length_map, hr]; omega)]
      have pre' : S1 <+: G'.set S1.length (.lst (rs.map A.ref ++ [.ref r])) := pre_set (pft pre h2) (Nat.le_refl _)
      have hlt' : S1.length < G'.length := (List.getElem?_eq_some_iff.mp hd').1
      have new : ∀ k ∈ rs, k < G.length := fun k hk => by
        obtain ⟨m, hm⟩ := List.getElem?_of_mem hk
        have hml : m < xs.length := by
          have := (List.getElem?_eq_some_iff.mp hm).1
          omega
        exact (ho m _ k (List.getElem?_eq_getElem hml) hm).2.1
      have step := e_lcAGo items hT he n (j + 1) (rs ++ [r]) (G'.set S1.length (.lst (rs.map A.ref ++ [.ref r]))) (by omega) (by omega) (by rw [List.length_append, hr]; rfl) hs pre' (by rw [List.getElem?_set_self hlt', List.map_append]; rfl) (fun k x q e1 e2 => by
        rcases get_snoc e2 with e5 | ⟨ek, er⟩
        · obtain ⟨a1, a2, a3⟩ := ho k x q e1 e5
          refine ⟨a1, ?_, ?_⟩
          · rw [List.length_set]
            exact Nat.lt_of_lt_of_le a2 h2.length_le
          · rw [List.getElem?_set_ne (Ne.symm a1)]
            exact at_up h2 a3
        · subst er
          rw [ek, hr, hx] at e1
          cases e1
          have nq : q ≠ S1.length := by omega
          refine ⟨nq, ?_, ?_⟩
          · rw [List.length_set]
            exact (List.getElem?_eq_some_iff.mp h4).1
          · rw [List.getElem?_set_ne (Ne.symm nq)]
            exact h4) (List.nodup_append.mpr ⟨nd, by simp, fun a ha b hb => by
              rw [List.mem_singleton.mp hb]
              have := new a ha
              omega⟩)
      obtain ⟨rs2, G2, k1, k2, k3, k4, k5, k6, k7⟩ := step
      refine ⟨rs2, G2, k1, k2, k3, k4, k5, k6, fun q hq => ?_⟩
      rcases k7 q hq with z | z
      · rcases List.mem_append.mp z with z | z
        · exact .inl z
        · rw [List.mem_singleton.mp z]
          exact .inr h3
      · rw [List.length_set] at z
        exact .inr (Nat.le_trans h2.length_le z)
    · have hx : xs[j]? = none := List.getElem?_eq_none (by omega)
      rw [hx]
      simp only
      exact ⟨rs, G, rfl, pre, hd, by omega, fun k x r e1 e2 => ⟨(ho k x r e1 e2).1, (ho k x r e1 e2).2.2⟩, nd, fun r hr => .inl hr⟩
theorem e_lcA {fi : FI} {i : Its} {T : TX} {vs : List Nat} {fe : F} {xs : List A} {sx : A → Sa} {o : A → O} (hi : fi sa S = some (.ok i S1)) (hg : Goes i S1 xs)
    (hT : ∀ x ∈ xs, ∀ G, S1 <+: G → T x (wipeA sa vs) G = some (sx x)) (he : ∀ x ∈ xs, ∀ G, S1 <+: G → S1.length < G.length → ∃ (r : Nat) (G' : List O), fe (sx x) G = some (.ok (.ref r) G') ∧ G <+: G' ∧ G.length ≤ r ∧ G'[r]? = some (o x)) (hl : xs.length ≤ 1000000) :
    ∃ (rs : List Nat) (G : List O), lcF fi T vs (conF (.bl true)) fe sa S = some (.ok (.ref S1.length) G) ∧ S1 <+: G ∧ G[S1.length]? = some (.lst (rs.map A.ref)) ∧ rs.length = xs.length ∧ (∀ (k : Nat) (x : A) (r : Nat), xs[k]? = some x → rs[k]? = some r → r ≠ S1.length ∧ G[r]? = some (o x)) ∧ rs.Nodup ∧ ∀ r ∈ rs, S1.length < r := by
  obtain ⟨rs, G, h1, h2, h3, h4, h5, h6, h7⟩ := e_lcAGo hg.1 hT he (xs.length + 1) 0 [] (S1 ++ [.lst []]) (by omega) (by omega) rfl hl (pfa S1 _) at_new (fun k x r _ e => by simp at e) List.nodup_nil
  refine ⟨rs, G, ?_, h2, h3, h4, h5, h6, fun r hr => ?_⟩
  · unfold lcF
    rw [hi]
    simp only
    rw [hg.2, h1]
  · rcases h7 r hr with z | z
    · cases z
    · rw [List.length_append] at z
      simp at z
      omega
end
section
variable {i : Its} {T : TF} {body : FS} {m j : Nat} {sa sa1 sa2 : Sa} {S S1 S2 : List O} {a : A}
theorem forGo_step (it : itemAt i j S = some (some a)) (hT : T a sa S = some (sa1, S1)) (hb : body sa1 S1 = some (.nx sa2 S2)) : forGo i T body (m + 1) j sa S = forGo i T body m (j + 1) sa2 S2 := by
  rw [forGo]
  simp only [it, hT, hb]
theorem forGo_stop (it : itemAt i j S = some none) : forGo i T body (m + 1) j sa S = some (.nx sa S) := by
  rw [forGo]
  simp only [it]
theorem forF_ok {fi : FI} {n : Nat} {y : Option RF} (hi : fi sa S = some (.ok i S1)) (hn : itsLen i S1 = n) (h : forGo i T body (n + 1) 0 sa S1 = y) : forF fi T body sa S = y := by
  unfold forF
  rw [hi]
  simp only [hn]
  exact h
end
end Vai
set_option maxRecDepth 100000
set_option maxHeartbeats 2000000
namespace Vai
open PySem L2
/-! kinds of values -/
def isI : A → Bool
  | .int _ => true
  | .bl _ => true
  | _ => false
def isB : A → Bool
  | .bl _ => true
  | _ => false
def tupOf (S : List O) : A → Option (List A)
  | .ref l => (match S[l]? with
    | some (.tup xs) => some xs
    | _ => none)
  | _ => none
section
variable {S S1 : List O} {a : A} {t : String}
theorem ty_cases (h : tyN S a = some t) : (∃ l o, a = .ref l ∧ S[l]? = some o ∧ ((∃ xs, o = .lst xs ∧ t = "list") ∨ (∃ ns, o = .scr ns ∧ t = "list") ∨ (∃ xs, o = .tup xs ∧ t = "tuple") ∨ ∃ ks, o = .dic ks ∧ t = "dict")) ∨ (a = .non ∧ t = "NoneType") ∨ (∃ b, a = .bl b ∧ t = "bool") ∨ (∃ i, a = .int i ∧ t = "int") ∨ ∃ z, a = .str z ∧ t = "str" := by
  cases a with
  | non => cases h; exact .inr (.inl ⟨rfl, rfl⟩)
  | bl b => cases h; exact .inr (.inr (.inl ⟨b, rfl, rfl⟩))
  | int i => cases h; exact .inr (.inr (.inr (.inl ⟨i, rfl, rfl⟩)))
  | str z => cases h; exact .inr (.inr (.inr (.inr ⟨z, rfl, rfl⟩)))
  | ty n => cases h
  | ref l =>
    simp only [tyN] at h
    split at h
    · rename_i xs e; cases h; exact .inl ⟨l, _, rfl, e, .inl ⟨xs, rfl, rfl⟩⟩
    · rename_i xs e; cases h; exact .inl ⟨l, _, rfl, e, .inr (.inl ⟨xs, rfl, rfl⟩)⟩
    · rename_i xs e; cases h; exact .inl ⟨l, _, rfl, e, .inr (.inr (.inl ⟨xs, rfl, rfl⟩))⟩
    · rename_i xs e; cases h; exact .inl ⟨l, _, rfl, e, .inr (.inr (.inr ⟨xs, rfl, rfl⟩))⟩
    · cases h
theorem isi_int (h : tyN S a = some t) : isiG [a, .ty "int"] S = some (.bl (isI a), S) := by
  rcases ty_cases h with ⟨l, o, rfl, e, ⟨xs, rfl, rfl⟩ | ⟨xs, rfl, rfl⟩ | ⟨xs, rfl, rfl⟩ | ⟨xs, rfl, rfl⟩⟩ | ⟨rfl, rfl⟩ | ⟨b, rfl, rfl⟩ | ⟨i, rfl, rfl⟩ | ⟨z, rfl, rfl⟩
  all_goals first | exact g_isi (b := true) h (by decide +kernel) | exact g_isi (b := false) h (by decide +kernel)
theorem isi_bool (h : tyN S a = some t) : isiG [a, .ty "bool"] S = some (.bl (isB a), S) := by
  rcases ty_cases h with ⟨l, o, rfl, e, ⟨xs, rfl, rfl⟩ | ⟨xs, rfl, rfl⟩ | ⟨xs, rfl, rfl⟩ | ⟨xs, rfl, rfl⟩⟩ | ⟨rfl, rfl⟩ | ⟨b, rfl, rfl⟩ | ⟨i, rfl, rfl⟩ | ⟨z, rfl, rfl⟩
  all_goals first | exact g_isi (b := true) h (by decide +kernel) | exact g_isi (b := false) h (by decide +kernel)
theorem isi_tup (h : tyN S a = some t) : isiG [a, .ty "tuple"] S = some (.bl (tupOf S a).isSome, S) := by
  rcases ty_cases h with ⟨l, o, rfl, e, ⟨xs, rfl, rfl⟩ | ⟨xs, rfl, rfl⟩ | ⟨xs, rfl, rfl⟩ | ⟨xs, rfl, rfl⟩⟩ | ⟨rfl, rfl⟩ | ⟨b, rfl, rfl⟩ | ⟨i, rfl, rfl⟩ | ⟨z, rfl, rfl⟩
  all_goals first
    | (rw [show (tupOf S (.ref l)).isSome = false from by simp only [tupOf]; rw [e]; rfl]; first | exact g_isi (b := true) h (by decide +kernel) | exact g_isi (b := false) h (by decide +kernel))
    | (rw [show (tupOf S (.ref l)).isSome = true from by simp only [tupOf]; rw [e]; rfl]; first | exact g_isi (b := true) h (by decide +kernel) | exact g_isi (b := false) h (by decide +kernel))
    | exact g_isi (b := true) h (by decide +kernel)
    | exact g_isi (b := false) h (by decide +kernel)
def wholeA (lo hi : Int) : A → Bool
  | .int i => decide (lo ≤ i) && decide (i ≤ hi)
  | _ => false
end
end Vai
namespace Law
open PySem L2 Vai
theorem e_whole {S : List O} {a : A} {t : String} {lo hi : Int} (h : tyN S a = some t) : d_is_whole [a, .int lo, .int hi] S = some (.ok (.bl (wholeA lo hi a)) S) := by
  have h1 : clF isiG (consF (varF 0) (consF (conF (.ty "int")) nilF)) [some a, some (.int lo), some (.int hi)] S = some (.ok (.bl (isI a)) S) := r_cl (r_cons (r_var rfl) (r_cons r_con r_nil)) (isi_int h)
  have h2 : notF (clF isiG (consF (varF 0) (consF (conF (.ty "bool")) nilF))) [some a, some (.int lo), some (.int hi)] S = some (.ok (.bl (!isB a)) S) := r_not (r_cl (r_cons (r_var rfl) (r_cons r_con r_nil)) (isi_bool h))
  refine trim_ok (S' := S) (r_defR (r_ret ?_)) rfl
  have h3 : isI a = true → (!isB a) = true → ∃ i, a = .int i := fun e1 e2 => by
    cases a with
    | int i => exact ⟨i, rfl⟩
    | bl b => cases e2
    | _ => cases e1
  have h4 : wholeA lo hi a = (isI a && (!isB a && wholeA lo hi a)) := by
    cases a <;> first | rfl | simp [wholeA, isI, isB]
  rw [h4]
  refine r_and h1 fun e1 => r_and h2 fun e2 => ?_
  obtain ⟨i, rfl⟩ := h3 e1 e2
  exact r_ch (r_var rfl) (r_var rfl) rfl (r_var rfl) rfl
theorem e_node {S : List O} {a : A} {t : String} {n : Int} (h : tyN S a = some t) : d_is_node [.int n, a] S = some (.ok (.bl (wholeA 0 (n - 1) a)) S) :=
  trim_ok (S' := S) (r_defR (r_ret (r_call (r_cons (r_var rfl) (r_cons r_con (r_cons (r_op (r_var rfl) r_con rfl) r_nil))) (e_whole h)))) rfl
theorem e_check_count {S : List O} {a : A} {t : String} (h : tyN S a = some t) : d_check_count [a] S = some (if wholeA 1 6 a then .ok .non S else .er 3 S) := by
  have h1 := e_whole (lo := 1) (hi := 6) h
  have h2 : notF (callF d_is_whole (consF (varF 0) (consF (conF (.int 1)) (consF (conF (.int 6)) nilF)))) [some a] S = some (.ok (.bl (!wholeA 1 6 a)) S) := r_not (r_call (r_cons (r_var rfl) (r_cons r_con (r_cons r_con r_nil))) h1)
  cases hw : wholeA 1 6 a with
  | true =>
    rw [hw] at h2
    exact trim_ok (r_defN (sa := [some a]) (r_condF h2 rfl)) rfl
  | false =>
    rw [hw] at h2
    exact trim_er (r_defE (sa := [some a]) (r_condT h2 rfl))
theorem e_check_node {S : List O} {a : A} {t : String} {n : Int} (h : tyN S a = some t) : d_check_node [.int n, a] S = some (if wholeA 0 (n - 1) a then .ok .non S else .er 2 S) := by
  have h2 : notF (callF d_is_node (consF (varF 0) (consF (varF 1) nilF))) [some (.int n), some a] S = some (.ok (.bl (!wholeA 0 (n - 1) a)) S) := r_not (r_call (r_cons (r_var rfl) (r_cons (r_var rfl) r_nil)) (e_node h))
  cases hw : wholeA 0 (n - 1) a with
  | true =>
    rw [hw] at h2
    exact trim_ok (r_defN (sa := [some (.int n), some a]) (r_condF h2 rfl)) rfl
  | false =>
    rw [hw] at h2
    exact trim_er (r_defE (sa := [some (.int n), some a]) (r_condT h2 rfl))
theorem g_eqI {S : List O} {i j : Int} : eqG false (.int i) (.int j) S = some (.bl (decide (i = j)), S) := by
  show (if SeqAt.shaped (.int i) && SeqAt.shaped (.int j) then some (A.bl (PyData.eqv (.int i) (.int j)), S) else none) = _
  rw [show (SeqAt.shaped (.int i) && SeqAt.shaped (.int j)) = true from rfl, if_pos rfl]
  congr 3
theorem g_neI {S : List O} {i j : Int} : eqG true (.int i) (.int j) S = some (.bl (!decide (i = j)), S) := by
  show (if SeqAt.shaped (.int i) && SeqAt.shaped (.int j) then some (A.bl (!PyData.eqv (.int i) (.int j)), S) else none) = _
  rw [show (SeqAt.shaped (.int i) && SeqAt.shaped (.int j)) = true from rfl, if_pos rfl]
  congr 3
def Ty (S : List O) (a : A) : Prop := ∃ t, tyN S a = some t
def Ty1 (S : List O) (a : A) : Prop := Ty S a ∧ ∀ xs, tupOf S a = some xs → ∀ x ∈ xs, Ty S x
def rowOk (S : List O) (n : Int) (a : A) : Bool := match tupOf S a with
  | none => false
  | some xs => decide (xs.length ≤ 200) && xs.all (wholeA 0 (n - 1))
def lineOk (S : List O) (n : Int) (a : A) : Bool := match tupOf S a with
  | none => false
  | some xs => decide ((xs.length : Int) = n) && xs.all (wholeA (-1000) 1000)
theorem tup_ref {S : List O} {a : A} {xs : List A} (h : tupOf S a = some xs) : ∃ l, a = .ref l ∧ S[l]? = some (.tup xs) := by
  cases a with
  | ref l =>
    simp only [tupOf] at h
    split at h
    · rename_i ys e
      cases h
      exact ⟨l, rfl, e⟩
    · cases h
  | _ => cases h
theorem Ty.up {S S1 : List O} {a : A} (p : S <+: S1) (h : Ty S a) : Ty S1 a := by
  obtain ⟨t, h⟩ := h
  exact ⟨t, tyN_up p h⟩
theorem e_check_row {S : List O} {a : A} {n : Int} (h : Ty1 S a) : d_check_row [.int n, a] S = some (if rowOk S n a then .ok .non S else .er 6 S) := by
  obtain ⟨⟨t, ht⟩, hx⟩ := h
  let sa : Sa := [some (.int n), some a, none]
  have h1 : notF (clF isiG (consF (varF 1) (consF (conF (.ty "tuple")) nilF))) sa S = some (.ok (.bl (!(tupOf S a).isSome)) S) := r_not (r_cl (r_cons (r_var rfl) (r_cons r_con r_nil)) (isi_tup ht))
  unfold rowOk
  cases hu : tupOf S a with
  | none =>
    rw [hu] at h1
    exact trim_er (r_defE (sa := sa) (r_seqE (r_condT (r_or (y := false) h1 (fun z => by cases z)) rfl)))
  | some xs =>
    rw [hu] at h1
    obtain ⟨l, rfl, hl⟩ := tup_ref hu
    have h2 : opF (cmpG fun i j => decide (i > j)) (clF lenG (consF (varF 1) nilF)) (conF (.int 200)) sa S = some (.ok (.bl (decide ((xs.length : Int) > 200))) S) := r_op (r_cl (r_cons (r_var rfl) r_nil) (g_lenT hl)) r_con rfl
    have h3 := r_or h1 fun _ => h2
    by_cases hn : xs.length ≤ 200
    · have e1 : ((!(some xs).isSome) || decide ((xs.length : Int) > 200)) = false := by simp; omega
      rw [e1] at h3
      have h4 := e_allLc (S := S) (S1 := S) (sa := sa) (fi := seqI (varF 1)) (T := nameX 2) (vs := [2]) (fe := callF d_is_node (consF (varF 0) (consF (varF 2) nilF))) (sx := fun x => [some (.int n), some (.ref l), some x]) (q := wholeA 0 (n - 1)) (r_seqT (r_var rfl) hl) (goes_t hl) (fun _ _ _ _ => rfl)
        (fun x hm G p => r_call (r_cons (r_var rfl) (r_cons (r_var rfl) r_nil)) (by obtain ⟨u, hz⟩ := (hx xs hu x hm).up p; exact e_node hz)) (by omega)
      have h5 := r_trim (r_not h4) rfl
      simp only [hn, decide_true, Bool.true_and]
      cases ha : xs.all (wholeA 0 (n - 1)) with
      | true =>
        rw [ha] at h5
        exact trim_ok (r_defN (sa := sa) (r_seq (sa1 := sa) (r_condF h3 rfl) (r_condF h5 rfl))) rfl
      | false =>
        rw [ha] at h5
        exact trim_er (r_defE (sa := sa) (r_seq (sa1 := sa) (r_condF h3 rfl) (r_condT h5 rfl)))
    · have e1 : ((!(some xs).isSome) || decide ((xs.length : Int) > 200)) = true := by simp; omega
      rw [e1] at h3
      simp only [hn, decide_false, Bool.false_and]
      exact trim_er (r_defE (sa := sa) (r_seqE (r_condT h3 rfl)))
theorem e_line {S : List O} {a : A} {n : Int} (h : Ty1 S a) (hs : ∀ xs, tupOf S a = some xs → xs.length ≤ 1000000) : d__is_line [.int n, a] S = some (.ok (.bl (lineOk S n a)) S) := by
  obtain ⟨⟨t, ht⟩, hx⟩ := h
  let sa : Sa := [some (.int n), some a, none]
  have h1 : notF (clF isiG (consF (varF 1) (consF (conF (.ty "tuple")) nilF))) sa S = some (.ok (.bl (!(tupOf S a).isSome)) S) := r_not (r_cl (r_cons (r_var rfl) (r_cons r_con r_nil)) (isi_tup ht))
  unfold lineOk
  cases hu : tupOf S a with
  | none =>
    rw [hu] at h1
    exact trim_ok (r_defR (r_seqR (r_condT (r_or (y := false) h1 (fun z => by cases z)) (r_ret r_con)))) rfl
  | some xs =>
    rw [hu] at h1
    obtain ⟨l, rfl, hl⟩ := tup_ref hu
    have h2 : opF (eqG true) (clF lenG (consF (varF 1) nilF)) (varF 0) sa S = some (.ok (.bl (!decide ((xs.length : Int) = n))) S) := r_op (r_cl (r_cons (r_var rfl) r_nil) (g_lenT hl)) (r_var rfl) g_neI
    have h3 := r_or h1 fun _ => h2
    show _ = some (R.ok (.bl (decide ((xs.length : Int) = n) && xs.all (wholeA (-1000) 1000))) S)
    cases hd : decide ((xs.length : Int) = n) with
    | true =>
      rw [hd] at h3
      have h4 := e_allLc (S := S) (S1 := S) (sa := sa) (fi := seqI (varF 1)) (T := nameX 2) (vs := [2]) (fe := callF d_is_whole (consF (varF 2) (consF (unF negG (conF (.int 1000))) (consF (conF (.int 1000)) nilF)))) (sx := fun x => [some (.int n), some (.ref l), some x]) (q := wholeA (-1000) 1000) (r_seqT (r_var rfl) hl) (goes_t hl) (fun _ _ _ _ => rfl)
        (fun x hm G p => r_call (r_cons (r_var rfl) (r_cons (r_un r_con rfl) (r_cons r_con r_nil))) (by obtain ⟨u, hz⟩ := (hx xs hu x hm).up p; exact e_whole hz)) (hs xs hu)
      exact trim_ok (r_defR (r_seq (sa1 := sa) (r_condF h3 rfl) (r_ret h4))) rfl
    | false =>
      rw [hd] at h3
      exact trim_ok (r_defR (r_seqR (r_condT h3 (r_ret r_con)))) rfl
/-- a table of n rows stands at l -/
def WebAt (S : List O) (l n : Nat) (f : Nat → Nat → Int) : Prop := ∃ ls : List Nat, ls.length = n ∧ S[l]? = some (O.tup (ls.map A.ref)) ∧ ∀ (y r : Nat), ls[y]? = some r → S[r]? = some (O.tup ((List.range n).map fun z => .int (f y z)))
theorem WebAt.up {S S1 : List O} {l n : Nat} {f : Nat → Nat → Int} (p : S <+: S1) (h : WebAt S l n f) : WebAt S1 l n f := by
  obtain ⟨ls, h1, h2, h3⟩ := h
  exact ⟨ls, h1, at_up p h2, fun y r e => at_up p (h3 y r e)⟩
theorem atI_nat {α : Type} {xs : List α} {k : Nat} {x : α} (h : xs[k]? = some x) : atI xs ((k : Nat) : Int) = some x := by
  have hk := (List.getElem?_eq_some_iff.mp h).1
  unfold atI ixN
  rw [if_pos (by omega), if_pos (by omega)]
  simpa using h
theorem WebAt.cell {S : List O} {l n y z : Nat} {f : Nat → Nat → Int} (h : WebAt S l n f) (hy : y < n) (hz : z < n) : ∃ r, ixG (.ref l) (.int y) S = some (.ref r, S) ∧ ixG (.ref r) (.int z) S = some (.int (f y z), S) := by
  obtain ⟨ls, h1, h2, h3⟩ := h
  have hy2 : y < ls.length := by omega
  refine ⟨ls[y], g_ixT h2 (atI_nat (by rw [List.getElem?_map, List.getElem?_eq_getElem hy2]; rfl)), g_ixT (h3 y _ (List.getElem?_eq_getElem hy2)) (atI_nat (by rw [List.getElem?_map, List.getElem?_range hz]; rfl))⟩
theorem goes_r0 {S : List O} {n : Nat} : Goes (.rg 0 n) S ((List.range n).map fun i => .int ((i : Nat) : Int)) := by
  have h := goes_r (S := S) (lo := 0) (n := n)
  simpa using h
abbrev isTupF (i : Nat) : F := clF isiG (consF (varF i) (consF (conF (.ty "tuple")) nilF))
abbrev badN (S : List O) (a : A) : Bool := match tupOf S a with
  | none => true
  | some ls => !(decide (1 ≤ ls.length) && decide (ls.length ≤ 6))
/-- no web: no tuple of one to six -/
theorem e_web_A {S : List O} {a : A} (h : Ty S a) (hb : badN S a = true) : d_is_web [a] S = some (.ok (.bl false) S) := by
  obtain ⟨t, ht⟩ := h
  let sa : Sa := [some a, none, none, none, none]
  have h1 : notF (isTupF 0) sa S = some (.ok (.bl (!(tupOf S a).isSome)) S) := r_not (r_cl (r_cons (r_var rfl) (r_cons r_con r_nil)) (isi_tup ht))
  unfold badN at hb
  cases hu : tupOf S a with
  | none =>
    rw [hu] at h1
    exact trim_ok (r_defR (r_seqR (r_condT (r_or (y := false) h1 (fun z => by cases z)) (r_ret r_con)))) rfl
  | some ls =>
    rw [hu] at h1 hb
    obtain ⟨l, rfl, hl⟩ := tup_ref hu
    have h2 : notF (chF (cmpG fun i j => decide (i ≤ j)) (cmpG fun i j => decide (i ≤ j)) (conF (.int 1)) (clF lenG (consF (varF 0) nilF)) (conF (.int 6))) sa S = some (.ok (.bl (!(decide ((1 : Int) ≤ ls.length) && decide ((ls.length : Int) ≤ 6)))) S) :=
      r_not (r_ch r_con (r_cl (r_cons (r_var rfl) r_nil) (g_lenT hl)) rfl r_con rfl)
    have h3 := r_or h1 fun _ => h2
    have e : ((!(some ls).isSome) || !(decide ((1 : Int) ≤ ls.length) && decide ((ls.length : Int) ≤ 6))) = true := by
      simp only [Bool.not_eq_true', Bool.and_eq_false_iff, decide_eq_false_iff_not] at hb
      simp only [Option.isSome_some, Bool.not_true, Bool.false_or, Bool.not_eq_true', Bool.and_eq_false_iff, decide_eq_false_iff_not]
      omega
    rw [e] at h3
    exact trim_ok (r_defR (r_seqR (r_condT h3 (r_ret r_con)))) rfl
/-- the first steps, for a tuple of one to six -/
theorem web_head {S : List O} {l : Nat} {ls : List A} (hl : S[l]? = some (.tup ls)) (h1 : 1 ≤ ls.length) (h6 : ls.length ≤ 6) :
    orF (notF (isTupF 0)) (notF (chF (cmpG fun i j => decide (i ≤ j)) (cmpG fun i j => decide (i ≤ j)) (conF (.int 1)) (clF lenG (consF (varF 0) nilF)) (conF (.int 6)))) [some (.ref l), none, none, none, none] S = some (.ok (.bl false) S) := by
  have ht : tyN S (.ref l) = some "tuple" := by
    simp only [tyN]
    rw [hl]
  have hu : tupOf S (.ref l) = some ls := by
    simp only [tupOf]
    rw [hl]
  have a1 : notF (isTupF 0) [some (.ref l), none, none, none, none] S = some (.ok (.bl (!(tupOf S (.ref l)).isSome)) S) := r_not (r_cl (r_cons (r_var rfl) (r_cons r_con r_nil)) (isi_tup ht))
  have a2 : notF (chF (cmpG fun i j => decide (i ≤ j)) (cmpG fun i j => decide (i ≤ j)) (conF (.int 1)) (clF lenG (consF (varF 0) nilF)) (conF (.int 6))) [some (.ref l), none, none, none, none] S = some (.ok (.bl (!(decide ((1 : Int) ≤ ls.length) && decide ((ls.length : Int) ≤ 6)))) S) :=
    r_not (r_ch r_con (r_cl (r_cons (r_var rfl) r_nil) (g_lenT hl)) rfl r_con rfl)
  have a3 := r_or a1 fun _ => a2
  have e : ((!(tupOf S (.ref l)).isSome) || !(decide ((1 : Int) ≤ ls.length) && decide ((ls.length : Int) ≤ 6))) = false := by
    rw [hu, decide_eq_true (by omega), decide_eq_true (by omega)]
    rfl
  rw [e] at a3
  exact a3
theorem web_lines {S : List O} {l : Nat} {ls : List A} (hl : S[l]? = some (.tup ls)) (h6 : ls.length ≤ 6) (hx : ∀ x ∈ ls, Ty1 S x ∧ ∀ xs, tupOf S x = some xs → xs.length ≤ 1000000) :
    trimF (notF (clF (allG fun bs => bs.all id) (consF (lcF (seqI (varF 0)) (nameX 2) [2] (conF (.bl true)) (callF d__is_line (consF (varF 1) (consF (varF 2) nilF)))) nilF))) [some (.ref l), some (.int ls.length), none, none, none] S = some (.ok (.bl (!(ls.all (lineOk S ls.length)))) S) := by
  refine r_trim (r_not (e_allLc (S1 := S) (sx := fun x => [some (.ref l), some (.int ls.length), some x, none, none]) (r_seqT (r_var rfl) hl) (goes_t hl) (fun _ _ _ _ => rfl) (fun x hm G p => r_call (r_cons (r_var rfl) (r_cons (r_var rfl) r_nil)) ?_) (by omega))) rfl
  obtain ⟨⟨ht, hs⟩, hn⟩ := hx x hm
  have key : tupOf G x = tupOf S x := by
    obtain ⟨t, ht⟩ := ht
    cases x with
    | ref r =>
      simp only [tyN] at ht
      cases hr : S[r]? with
      | none =>
        rw [hr] at ht
        cases ht
      | some o =>
        simp only [tupOf]
        rw [hr, at_up p hr]
    | _ => rfl
  have e1 : lineOk G ls.length x = lineOk S ls.length x := by
    unfold lineOk
    rw [key]
  rw [← e1]
  refine e_line ⟨ht.up p, fun xs e y hy => (hs xs (by rw [← key]; exact e) y hy).up p⟩ fun xs e => hn xs (by rw [← key]; exact e)
/-- a tuple of one to six, and a line that is none -/
theorem e_web_C {S : List O} {l : Nat} {ls : List A} (hl : S[l]? = some (.tup ls)) (h1 : 1 ≤ ls.length) (h6 : ls.length ≤ 6) (hx : ∀ x ∈ ls, Ty1 S x ∧ ∀ xs, tupOf S x = some xs → xs.length ≤ 1000000) (hb : ls.all (lineOk S ls.length) = false) : d_is_web [.ref l] S = some (.ok (.bl false) S) := by
  have a1 := web_head hl h1 h6
  have a2 := web_lines hl h6 hx
  rw [hb] at a2
  exact trim_ok (r_defR (r_seq (r_condF a1 rfl) (r_seq (r_asgN (r_cl (r_cons (r_var rfl) r_nil) (g_lenT hl))) (r_seqR (r_condT a2 (r_ret r_con)))))) rfl
theorem sum_const {α : Type} (n : Nat) : ∀ xs : List α, (xs.map fun _ => n).sum = xs.length * n
  | [] => by simp
  | x :: xs => by
    rw [List.map_cons, List.sum_cons, sum_const n xs, List.length_cons, Nat.succ_mul]
    omega
/-- the table's entries -/
def antiB (n : Nat) (f : Nat → Nat → Int) : Bool := (List.range n).all fun y => (List.range n).all fun z => decide (f y z = -f z y)
theorem e_web_D {S : List O} {l n : Nat} {f : Nat → Nat → Int} (h : WebAt S l n f) (h1 : 1 ≤ n) (h6 : n ≤ 6) (hf : ∀ y z, y < n → z < n → -1000 ≤ f y z ∧ f y z ≤ 1000) : d_is_web [.ref l] S = some (.ok (.bl (antiB n f)) S) := by
  have hh := h
  obtain ⟨ls, rfl, hl, hr⟩ := h
  have a1 := web_head hl (by simpa using h1) (by simpa using h6)
  have hrow : ∀ x ∈ ls.map A.ref, ∃ y r, ls[y]? = some r ∧ x = .ref r ∧ S[r]? = some (.tup ((List.range ls.length).map fun z => .int (f y z))) := fun x hx => by
    obtain ⟨r, hr1, rfl⟩ := List.mem_map.mp hx
    obtain ⟨y, hy⟩ := List.getElem?_of_mem hr1
    exact ⟨y, r, hy, rfl, hr y r hy⟩
  have tupR : ∀ {r : Nat} {xs : List A}, S[r]? = some (O.tup xs) → tupOf S (.ref r) = some xs := fun {r xs} e => by
    simp only [tupOf]
    rw [e]
  have a2 := web_lines hl (by simpa using h6) fun x hx => by
    obtain ⟨y, r, e1, rfl, e2⟩ := hrow x hx
    refine ⟨⟨⟨"tuple", by simp only [tyN]; rw [e2]⟩, fun xs e u hu => ?_⟩, fun xs e => ?_⟩
    · rw [tupR e2] at e
      cases e
      obtain ⟨z, _, rfl⟩ := List.mem_map.mp hu
      exact ⟨"int", rfl⟩
    · rw [tupR e2] at e
      cases e
      simp
      omega
  have e3 : (ls.map A.ref).all (lineOk S ((ls.map A.ref).length : Nat)) = true := by
    rw [List.all_eq_true]
    intro x hx
    obtain ⟨y, r, e1, rfl, e2⟩ := hrow x hx
    unfold lineOk
    rw [tupR e2]
    have hy : y < ls.length := (List.getElem?_eq_some_iff.mp e1).1
    simp only [List.length_map, List.length_range, decide_true, Bool.true_and, List.all_map, List.all_eq_true, List.mem_range, Function.comp]
    intro z hz
    have := hf y z hy hz
    simp only [wholeA, Bool.and_eq_true, decide_eq_true_eq]
    omega
  rw [e3] at a2
  let q : A → A → Bool := fun x y => match x, y with
    | .int i, .int j => decide (f i.toNat j.toNat = -f j.toNat i.toNat)
    | _, _ => false
  let sa : Sa := [some (.ref l), some (.int ((ls.map A.ref).length : Nat)), none, none, none]
  have hlen : (ls.map A.ref).length = ls.length := List.length_map _
  obtain ⟨o, a4⟩ := e_allLc2 (S := S) (S1 := S) (sa := sa) (fi := rg1I (consF (varF 1) nilF)) (fi1 := rg1I (consF (varF 1) nilF)) (T := nameX 3) (T1 := nameX 4) (vs := [3, 4]) (vs1 := [4]) (fe := opF (eqG false) (opF ixG (opF ixG (varF 0) (varF 3)) (varF 4)) (unF negG (opF ixG (opF ixG (varF 0) (varF 4)) (varF 3)))) (xs := (List.range ls.length).map fun i => .int ((i : Nat) : Int)) (ys := fun _ => (List.range ls.length).map fun i => .int ((i : Nat) : Int)) (i1 := fun _ => .rg 0 ls.length)
    (sx := fun x => [some (.ref l), some (.int ((ls.map A.ref).length : Nat)), none, some x, none]) (sy := fun x y => [some (.ref l), some (.int ((ls.map A.ref).length : Nat)), none, some x, some y]) (q := q)
    (i := .rg 0 ls.length) (by have := r_rg1 (sa := sa) (S := S) (S1 := S) (fl := consF (varF 1) nilF) (j := ((ls.map A.ref).length : Nat)) (r_cons (r_var rfl) r_nil) (by rw [hlen]; unfold inBd; simp; omega); rw [this, hlen]; rfl) goes_r0 (fun _ _ _ _ => rfl)
    (fun x _ G p => by have := r_rg1 (sa := [some (.ref l), some (.int ((ls.map A.ref).length : Nat)), none, some x, none]) (S := G) (S1 := G) (fl := consF (varF 1) nilF) (j := ((ls.map A.ref).length : Nat)) (r_cons (r_var rfl) r_nil) (by rw [hlen]; unfold inBd; simp; omega); rw [this, hlen]; rfl)
    (fun _ _ G p => goes_r0) (fun _ _ _ _ _ _ => rfl) (fun x hx y hy G p => by
      obtain ⟨i, hi, rfl⟩ := List.mem_map.mp hx
      obtain ⟨j, hj, rfl⟩ := List.mem_map.mp hy
      rw [List.mem_range] at hi hj
      obtain ⟨r1, g1, g2⟩ := (hh.up p).cell hi hj
      obtain ⟨r2, g3, g4⟩ := (hh.up p).cell hj hi
      exact r_op (r_op (r_op (r_var rfl) (r_var rfl) g1) (r_var rfl) g2) (r_un (r_op (r_op (r_var rfl) (r_var rfl) g3) (r_var rfl) g4) rfl) g_eqI)
    (by rw [sum_const, List.length_map, List.length_range]; exact Nat.le_trans (Nat.mul_le_mul h6 h6) (by decide))
  have e5 : (((List.range ls.length).map fun i => A.int ((i : Nat) : Int)).all fun x => ((List.range ls.length).map fun i => A.int ((i : Nat) : Int)).all (q x)) = antiB ls.length f := by
    simp only [List.all_map, Function.comp_def]
    rfl
  rw [e5] at a4
  exact trim_ok (r_defR (r_seq (r_condF a1 rfl) (r_seq (r_asgN (r_cl (r_cons (r_var rfl) r_nil) (g_lenT hl))) (r_seq (r_condF a2 rfl) (r_ret a4))))) rfl
end Law
set_option maxRecDepth 100000
set_option maxHeartbeats 2000000
namespace Law
open PySem L2 Vai
/-! refusals -/
theorem e_check_web {S : List O} {a : A} {b : Bool} (h : d_is_web [a] S = some (.ok (.bl b) S)) : d_check_web [a] S = some (if b then .ok .non S else .er 1 S) := by
  have h2 : notF (callF d_is_web (consF (varF 0) nilF)) [some a] S = some (.ok (.bl (!b)) S) := r_not (r_call (r_cons (r_var rfl) r_nil) h)
  cases b with
  | true => exact trim_ok (r_defN (sa := [some a]) (r_condF h2 rfl)) rfl
  | false => exact trim_er (r_defE (sa := [some a]) (r_condT h2 rfl))
section
variable {S : List O} {a b : A} (h : d_is_web [a] S = some (.ok (.bl false) S))
include h
theorem bad_first {k : FS} {sa : Sa} (h0 : sa[0]? = some (some a)) : seqF (expF (callF d_check_web (consF (varF 0) nilF))) k sa S = some (.er 1 sa S) := r_seqE (r_expE (r_call (r_cons (r_var h0) r_nil) (e_check_web h)))
theorem bad_arrows : d_arrows [a] S = some (.er 1 S) := trim_er (r_defE (bad_first h rfl))
theorem bad_parts : d_parts [a] S = some (.er 1 S) := trim_er (r_defE (bad_first h rfl))
theorem bad_is_tree : d_is_tree [a] S = some (.er 1 S) := trim_er (r_defE (bad_first h rfl))
theorem bad_turned : d_turned [a, b] S = some (.er 1 S) := trim_er (r_defE (bad_first h rfl))
theorem bad_turned_all : d_turned_all [a, b] S = some (.er 1 S) := trim_er (r_defE (bad_first h rfl))
theorem bad_renamed : d_renamed [a, b] S = some (.er 1 S) := trim_er (r_defE (bad_first h rfl))
end
section
variable {S : List O} {l n : Nat} {xs : List A} {a : A} (h : d_is_web [.ref l] S = some (.ok (.bl true) S)) (hl : S[l]? = some (.tup xs))
include h
theorem good_first {k : FS} {sa : Sa} {y : Option RF} (h0 : sa[0]? = some (some (.ref l))) (hk : k sa S = y) : seqF (expF (callF d_check_web (consF (varF 0) nilF))) k sa S = y := r_seq (r_exp (r_call (r_cons (r_var h0) r_nil) (e_check_web h))) hk
include hl
theorem no_node {t : String} (ht : tyN S a = some t) (hb : wholeA 0 ((xs.length : Int) - 1) a = false) : d_turned [.ref l, a] S = some (.er 2 S) := by
  have hc : d_check_node [.int xs.length, a] S = some (.er 2 S) := by
    rw [e_check_node ht, hb]
    rfl
  exact trim_er (r_defE (good_first h rfl (r_seqE (r_expE (r_call (r_cons (r_cl (r_cons (r_var rfl) r_nil) (g_lenT hl)) (r_cons (r_var rfl) r_nil)) hc)))))
theorem bad_row (hb : d_check_row [.int xs.length, a] S = some (.er 6 S)) : d_turned_all [.ref l, a] S = some (.er 6 S) :=
  trim_er (r_defE (good_first h rfl (r_seqE (r_expE (r_call (r_cons (r_cl (r_cons (r_var rfl) r_nil) (g_lenT hl)) (r_cons (r_var rfl) r_nil)) hb)))))
theorem bad_order (hb : d__is_order [.int xs.length, a] S = some (.ok (.bl false) S)) : d_renamed [.ref l, a] S = some (.er 7 S) := by
  have h2 : notF (callF d__is_order (consF (varF 2) (consF (varF 1) nilF))) [some (.ref l), some a, some (.int xs.length), none, none, none, none] S = some (.ok (.bl true) S) := r_not (x := false) (r_call (r_cons (r_var rfl) (r_cons (r_var rfl) r_nil)) hb)
  exact trim_er (r_defE (good_first h rfl (r_seq (r_asgN (r_cl (r_cons (r_var rfl) r_nil) (g_lenT hl))) (r_seqE (r_condT h2 rfl)))))
end
/-- what is no order -/
theorem e_order_no {S : List O} {a : A} {n : Int} (h : Ty1 S a) (hb : (match tupOf S a with | none => true | some xs => !decide ((xs.length : Int) = n)) = true) : d__is_order [.int n, a] S = some (.ok (.bl false) S) := by
  obtain ⟨⟨t, ht⟩, hx⟩ := h
  let sa : Sa := [some (.int n), some a, none]
  have h1 : notF (clF isiG (consF (varF 1) (consF (conF (.ty "tuple")) nilF))) sa S = some (.ok (.bl (!(tupOf S a).isSome)) S) := r_not (r_cl (r_cons (r_var rfl) (r_cons r_con r_nil)) (isi_tup ht))
  cases hu : tupOf S a with
  | none =>
    rw [hu] at h1
    exact trim_ok (r_defR (r_seqR (r_condT (r_or (y := false) h1 (fun z => by cases z)) (r_ret r_con)))) rfl
  | some xs =>
    rw [hu] at h1 hb
    obtain ⟨l, rfl, hl⟩ := tup_ref hu
    have h2 : opF (eqG true) (clF lenG (consF (varF 1) nilF)) (varF 0) sa S = some (.ok (.bl (!decide ((xs.length : Int) = n))) S) := r_op (r_cl (r_cons (r_var rfl) r_nil) (g_lenT hl)) (r_var rfl) g_neI
    have h3 := r_or h1 fun _ => h2
    rw [show (!decide ((xs.length : Int) = n)) = true from hb] at h3
    exact trim_ok (r_defR (r_seqR (r_condT h3 (r_ret r_con)))) rfl
theorem e_order_node {S : List O} {l n : Nat} {xs : List A} (hl : S[l]? = some (.tup xs)) (hn : xs.length = n) (hs : n ≤ 1000000) (hx : ∀ x ∈ xs, Ty S x) (hb : xs.all (wholeA 0 ((n : Int) - 1)) = false) : d__is_order [.int n, .ref l] S = some (.ok (.bl false) S) := by
  have ht : tyN S (.ref l) = some "tuple" := by
    simp only [tyN]
    rw [hl]
  have hu : tupOf S (.ref l) = some xs := by
    simp only [tupOf]
    rw [hl]
  let sa : Sa := [some (.int n), some (.ref l), none]
  have h1 : notF (clF isiG (consF (varF 1) (consF (conF (.ty "tuple")) nilF))) sa S = some (.ok (.bl (!(tupOf S (.ref l)).isSome)) S) := r_not (r_cl (r_cons (r_var rfl) (r_cons r_con r_nil)) (isi_tup ht))
  have h2 : opF (eqG true) (clF lenG (consF (varF 1) nilF)) (varF 0) sa S = some (.ok (.bl (!decide ((xs.length : Int) = (n : Int)))) S) := r_op (r_cl (r_cons (r_var rfl) r_nil) (g_lenT hl)) (r_var rfl) g_neI
  have h3 := r_or h1 fun _ => h2
  rw [hu, hn, decide_eq_true rfl] at h3
  have h4 := e_allLc (S := S) (S1 := S) (sa := sa) (fi := seqI (varF 1)) (T := nameX 2) (vs := [2]) (fe := callF d_is_node (consF (varF 0) (consF (varF 2) nilF))) (sx := fun x => [some (.int n), some (.ref l), some x]) (q := wholeA 0 ((n : Int) - 1)) (r_seqT (r_var rfl) hl) (goes_t hl) (fun _ _ _ _ => rfl)
        (fun x hm G p => r_call (r_cons (r_var rfl) (r_cons (r_var rfl) r_nil)) (by obtain ⟨u, hz⟩ := (hx x hm).up p; exact e_node hz)) (by omega)
  rw [hb] at h4
  exact trim_ok (r_defR (r_seq (sa1 := sa) (r_condF h3 rfl) (r_ret (r_and (y := false) h4 fun z => by cases z)))) rfl
/-! arrows handed in -/
def arrowOk (S : List O) (n : Int) (a : A) : Bool := match tupOf S a with
  | some [y, z, m] => wholeA 0 (n - 1) y && (wholeA 0 (n - 1) z && (!decide (y = z) && wholeA 1 1000 m))
  | _ => false
theorem e_is_arrow {S : List O} {a : A} {n : Int} (h : Ty1 S a) : d__is_arrow [.int n, a] S = some (.ok (.bl (arrowOk S n a)) S) := by
  obtain ⟨⟨t, ht⟩, hx⟩ := h
  let sa : Sa := [some (.int n), some a, none, none, none]
  have h1 : notF (clF isiG (consF (varF 1) (consF (conF (.ty "tuple")) nilF))) sa S = some (.ok (.bl (!(tupOf S a).isSome)) S) := r_not (r_cl (r_cons (r_var rfl) (r_cons r_con r_nil)) (isi_tup ht))
  unfold arrowOk
  cases hu : tupOf S a with
  | none =>
    rw [hu] at h1
    exact trim_ok (r_defR (r_seqR (r_condT (r_or (y := false) h1 (fun z => by cases z)) (r_ret r_con)))) rfl
  | some xs =>
    rw [hu] at h1
    obtain ⟨l, rfl, hl⟩ := tup_ref hu
    have h2 : opF (eqG true) (clF lenG (consF (varF 1) nilF)) (conF (.int 3)) sa S = some (.ok (.bl (!decide ((xs.length : Int) = 3))) S) := r_op (r_cl (r_cons (r_var rfl) r_nil) (g_lenT hl)) r_con g_neI
    have h3 := r_or h1 fun _ => h2
    by_cases hn : xs.length = 3
    · obtain ⟨y, z, m, rfl⟩ : ∃ y z m, xs = [y, z, m] := by
        match xs, hn with
        | [y, z, m], _ => exact ⟨y, z, m, rfl⟩
      obtain ⟨ty, hy⟩ := hx _ hu y (by simp)
      obtain ⟨tz, hz⟩ := hx _ hu z (by simp)
      obtain ⟨tm, hm⟩ := hx _ hu m (by simp)
      have ha : asgF (varF 1) (tupT 3 (consT (nameT 2) (consT (nameT 3) (consT (nameT 4) nilT)))) sa S = some (.nx [some (.int n), some (.ref l), some y, some z, some m] S) := by
        refine r_asg (z := ([some (.int n), some (.ref l), some y, some z, some m], S)) (r_var rfl) ?_
        simp only [tupT]
        rw [hl]
        rfl
      refine trim_ok (S' := S) (r_defR (r_seq (sa1 := sa) (r_condF h3 rfl) (r_seq ha (r_ret ?_)))) rfl
      refine r_and (r_call (r_cons (r_var rfl) (r_cons (r_var rfl) r_nil)) (e_node hy)) fun e1 => r_and (r_call (r_cons (r_var rfl) (r_cons (r_var rfl) r_nil)) (e_node hz)) fun e2 => r_and ?_ fun _ => r_call (r_cons (r_var rfl) (r_cons r_con (r_cons r_con r_nil))) (e_whole hm)
      cases y with
      | int i =>
        cases z with
        | int j =>
          have := r_op (fa := varF 2) (fb := varF 3) (sa := [some (.int n), some (.ref l), some (.int i), some (.int j), some m]) (S := S) (r_var rfl) (r_var rfl) (g_neI (S := S) (i := i) (j := j))
          rw [this]
          congr 3
          by_cases hij : i = j
          · rw [hij]; simp
          · simp [hij]
        | _ => cases e2
      | _ => cases e1
    · rw [decide_eq_false (by omega)] at h3
      have e : ∀ X : A → A → A → Bool, (match some xs with
          | some [y, z, m] => X y z m
          | _ => false) = false := fun X => by
        split
        · rename_i y z m e
          cases e
          exact absurd rfl hn
        · rfl
      rw [e]
      exact trim_ok (r_defR (r_seqR (r_condT h3 (r_ret r_con)))) rfl
end Law
set_option maxRecDepth 100000
set_option maxHeartbeats 2000000
namespace Law
open PySem L2 Vai
/-! a turn -/
def mx (i : Int) : Int := if i > 0 then i else 0
def mutF (x : Nat) (f : Nat → Nat → Int) (y z : Nat) : Int := if x = y ∨ x = z then -f y z else f y z + mx (f y x) * mx (f x z) - mx (f z x) * mx (f x y)
theorem g_in2 {S : List O} {l x y z : Nat} (h : S[l]? = some (.tup [.int y, .int z])) : inG false (.int x) (.ref l) S = some (.bl (decide (x = y ∨ x = z)), S) := by
  unfold inG
  simp only
  rw [h]
  simp only [toV, toVs]
  have e : inV (.int x) [V.int y, V.int z] = decide (x = y ∨ x = z) := by
    unfold inV
    have k : ∀ a b : Nat, eqV (.int a) (.int b) = decide (b = a) := fun a b => by
      show decide ((a : Int) = b) = _
      by_cases h : b = a
      · rw [h]; simp
      · rw [decide_eq_false (by omega), decide_eq_false h]
    simp only [List.any_cons, List.any_nil, k, Bool.or_false]
    by_cases h1 : x = y <;> by_cases h2 : x = z <;> simp [h1, h2]
  rw [e]
  rfl
theorem g_mul {S : List O} {i j : Int} (h1 : -1000 ≤ i) (h2 : i ≤ 1000) : mulG (.int i) (.int j) S = some (.int (i * j), S) := by
  unfold mulG
  simp only
  rw [if_pos]
  unfold Vai.small64
  rw [Bool.or_eq_true]
  left
  simp only [Bool.and_eq_true, decide_eq_true_eq]
  omega
theorem mx_le {i : Int} (h : i ≤ 1000) : -1000 ≤ mx i ∧ mx i ≤ 1000 := by
  unfold mx
  split <;> omega
theorem e_many {S : List O} {l n x y z : Nat} {f : Nat → Nat → Int} (h : WebAt S l n f) (hx : x < n) (hy : y < n) (hz : z < n) (hf : ∀ y z, y < n → z < n → -1000 ≤ f y z ∧ f y z ≤ 1000) :
    d__many_behind [.ref l, .int x, .int y, .int z] S = some (.ok (.int (mutF x f y z)) S) := by
  let sa : Sa := [some (.ref l), some (.int x), some (.int y), some (.int z), none, none]
  have cell : ∀ (i j : Nat) (si sj : Nat) (sa : Sa), i < n → j < n → sa[0]? = some (some (.ref l)) → sa[si]? = some (some (.int i)) → sa[sj]? = some (some (.int j)) → opF ixG (opF ixG (varF 0) (varF si)) (varF sj) sa S = some (.ok (.int (f i j)) S) := fun i j si sj sa hi hj h0 h1 h2 => by
    obtain ⟨r, g1, g2⟩ := h.cell hi hj
    exact r_op (r_op (r_var h0) (r_var h1) g1) (r_var h2) g2
  have t1 : trimF (opF (inG false) (varF 1) (newF O.tup (consF (varF 2) (consF (varF 3) nilF)))) sa S = some (.ok (.bl (decide (x = y ∨ x = z))) S) :=
    r_trim (r_op (r_var rfl) (r_new (r_cons (r_var rfl) (r_cons (r_var rfl) r_nil)) (by show 2 ≤ 1000000; decide)) (g_in2 at_new)) rfl
  have mxc : ∀ (i j : Nat) (si sj : Nat) (sa : Sa), i < n → j < n → sa[0]? = some (some (.ref l)) → sa[si]? = some (some (.int i)) → sa[sj]? = some (some (.int j)) → clF (twoG fun i j => if j > i then j else i) (consF (conF (.int 0)) (consF (opF ixG (opF ixG (varF 0) (varF si)) (varF sj)) nilF)) sa S = some (.ok (.int (mx (f i j))) S) :=
    fun i j si sj sa hi hj h0 h1 h2 => r_cl (r_cons r_con (r_cons (cell i j si sj sa hi hj h0 h1 h2) r_nil)) rfl
  unfold mutF
  by_cases hc : x = y ∨ x = z
  · rw [if_pos hc]
    rw [decide_eq_true hc] at t1
    exact trim_ok (r_defR (r_seqR (r_condT t1 (r_ret (r_un (cell y z 2 3 sa hy hz rfl rfl rfl) rfl))))) rfl
  · rw [if_neg hc]
    rw [decide_eq_false hc] at t1
    have m1 := mx_le (hf y x hy hx).2
    have m2 := mx_le (hf z x hz hx).2
    have a1 := r_asgN (i := 4) (r_op (mxc y x 2 1 sa hy hx rfl rfl rfl) (mxc x z 1 3 sa hx hz rfl rfl rfl) (g_mul m1.1 m1.2))
    have a2 := r_asgN (i := 5) (r_op (mxc z x 3 1 (sa.set 4 (some (.int (mx (f y x) * mx (f x z))))) hz hx rfl rfl rfl) (mxc x y 1 2 (sa.set 4 (some (.int (mx (f y x) * mx (f x z))))) hx hy rfl rfl rfl) (g_mul m2.1 m2.2))
    refine trim_ok (r_defR (r_seq (sa1 := sa) (r_condF t1 rfl) (r_seq a1 (r_seq a2 (r_ret (r_op (r_op (cell y z 2 3 _ hy hz rfl rfl rfl) (r_var rfl) rfl) (r_var rfl) rfl)))))) rfl
def boundB (n : Nat) (f : Nat → Nat → Int) : Bool := (List.range n).all fun y => (List.range n).all fun z => decide ((if f y z < 0 then -f y z else f y z) ≤ 1000)
theorem e_behind {S : List O} {l n x : Nat} {f : Nat → Nat → Int} (h : WebAt S l n f) (hx : x < n) (hn : n ≤ 1000) (hf : ∀ y z, y < n → z < n → -1000 ≤ f y z ∧ f y z ≤ 1000) :
    ∃ (l' : Nat) (S' : List O), S <+: S' ∧ WebAt S' l' n (mutF x f) ∧ S.length ≤ l' ∧ d__behind [.ref l, .int x] S = some (if boundB n (mutF x f) then .ok (.ref l') S' else .er 5 S) := by
  have hh := h
  obtain ⟨ls, hls, hl, hr⟩ := h
  let sa : Sa := [some (.ref l), some (.int x), some (.int n), none, none, none, none, none]
  have s1 : asgF (clF lenG (consF (varF 0) nilF)) (nameT 2) [some (.ref l), some (.int x), none, none, none, none, none, none] S = some (.nx sa S) := by
    have := r_asgN (i := 2) (sa := [some (.ref l), some (.int x), none, none, none, none, none, none]) (r_cl (g := lenG) (r_cons (fa := varF 0) (r_var rfl) r_nil) (g_lenT hl))
    rw [List.length_map, hls] at this
    exact this
  have rg : ∀ (sa : Sa) (G : List O), sa[2]? = some (some (.int n)) → rg1I (consF (varF 2) nilF) sa G = some (.ok (.rg 0 n) G) := fun sa G h2 => by
    have := r_rg1 (sa := sa) (S := G) (S1 := G) (fl := consF (varF 2) nilF) (j := (n : Int)) (r_cons (r_var h2) r_nil) (by unfold inBd; simp; omega)
    simpa using this
  let row : A → List A := fun a => match a with
    | .int y => (List.range n).map fun z => .int (mutF x f y.toNat z)
    | _ => []
  obtain ⟨rs, G2, c1, c2, c3, c4, c5, c6, c7⟩ := e_lcA (S := S) (S1 := S) (sa := sa) (fi := rg1I (consF (varF 2) nilF)) (T := nameX 5) (vs := [5]) (i := .rg 0 n) (xs := (List.range n).map fun i => .int ((i : Nat) : Int))
    (fe := clF tupC (consF (lcF (rg1I (consF (varF 2) nilF)) (nameX 4) [4] (conF (.bl true)) (callF d__many_behind (consF (varF 0) (consF (varF 1) (consF (varF 5) (consF (varF 4) nilF)))))) nilF)) (sx := fun a => [some (.ref l), some (.int x), some (.int n), none, none, some a, none, none]) (o := fun a => .tup (row a)) (rg sa S rfl) goes_r0 (fun _ _ _ _ => rfl)
    (fun a ha G p _ => by
      obtain ⟨y, hy, rfl⟩ := List.mem_map.mp ha
      rw [List.mem_range] at hy
      have e1 := e_lc0 (S := G) (S1 := G) (sa := [some (.ref l), some (.int x), some (.int n), none, none, some (.int y), none, none]) (fi := rg1I (consF (varF 2) nilF)) (T := nameX 4) (vs := [4]) (i := .rg 0 n) (xs := (List.range n).map fun i => .int ((i : Nat) : Int)) (fe := callF d__many_behind (consF (varF 0) (consF (varF 1) (consF (varF 5) (consF (varF 4) nilF)))))
        (sx := fun b => [some (.ref l), some (.int x), some (.int n), none, some b, some (.int y), none, none]) (g := fun b => match b with | .int z => .int (mutF x f y z.toNat) | _ => .non) (rg _ G rfl) goes_r0 (fun _ _ _ _ => rfl)
        (fun b hb G' p' => by
          obtain ⟨z, hz, rfl⟩ := List.mem_map.mp hb
          rw [List.mem_range] at hz
          exact r_call (r_cons (r_var rfl) (r_cons (r_var rfl) (r_cons (r_var rfl) (r_cons (r_var rfl) r_nil)))) (e_many (hh.up (pft p p')) hx hy hz hf)) (by simp; omega)
      rw [List.map_map] at e1
      have e2 := r_cl (g := tupC) (r_cons e1 r_nil) (g_tupL at_new)
      refine ⟨_, _, e2, (pfa G _).trans (pfa _ _), by simp, ?_⟩
      rw [at_new]
      rfl) (by simp; omega)
  have t1 := r_cl (g := tupC) (r_cons c1 r_nil) (g_tupL c3)
  have s2 := r_asgN (i := 3) t1
  have c4' : rs.length = n := by simpa using c4
  have web : WebAt (G2 ++ [.tup (rs.map A.ref)]) G2.length n (mutF x f) := ⟨rs, c4', at_new, fun y r e => by
    have hy : y < n := by rw [← c4']; exact (List.getElem?_eq_some_iff.mp e).1
    have := (c5 y (.int y) r (by rw [List.getElem?_map, List.getElem?_range hy]; rfl) e).2
    exact at_up (pfa G2 _) this⟩
  have pre : S <+: G2 ++ [.tup (rs.map A.ref)] := pft c2 (pfa G2 _)
  refine ⟨G2.length, G2 ++ [.tup (rs.map A.ref)], pre, web, c2.length_le, ?_⟩
  -- the check
  generalize hS3 : G2 ++ [O.tup (rs.map A.ref)] = S3 at s2 web pre
  obtain ⟨ls3, w1, w2, w3⟩ := web
  let ys : A → List A := fun a => (tupOf S3 a).getD []
  let i1 : A → Its := fun a => match a with
    | .ref r => .st r
    | _ => .rg 0 0
  have hx3 : ∀ a ∈ ls3.map A.ref, ∃ y r, ls3[y]? = some r ∧ y < n ∧ a = .ref r ∧ S3[r]? = some (.tup ((List.range n).map fun z => .int (mutF x f y z))) ∧ ys a = (List.range n).map fun z => .int (mutF x f y z) := fun a ha => by
    obtain ⟨r, hr1, rfl⟩ := List.mem_map.mp ha
    obtain ⟨y, hy⟩ := List.getElem?_of_mem hr1
    have e := w3 y r hy
    refine ⟨y, r, hy, by rw [← w1]; exact (List.getElem?_eq_some_iff.mp hy).1, rfl, e, ?_⟩
    show (tupOf S3 (.ref r)).getD [] = _
    simp only [tupOf]
    rw [e]
    rfl
  let q : A → A → Bool := fun _ b => match b with
    | .int i => decide ((if i < 0 then -i else i) ≤ 1000)
    | _ => false
  let sb : Sa := [some (.ref l), some (.int x), some (.int n), some (.ref G2.length), none, none, none, none]
  obtain ⟨o, a4⟩ := e_allLc2 (S := S3) (S1 := S3) (sa := sb) (fi := seqI (varF 3)) (fi1 := seqI (varF 6)) (T := nameX 6) (T1 := nameX 7) (vs := [6, 7]) (vs1 := [7]) (fe := opF (cmpG fun i j => decide (i ≤ j)) (clF absG (consF (varF 7) nilF)) (conF (.int 1000))) (xs := ls3.map A.ref) (ys := ys) (i1 := i1)
    (sx := fun a => [some (.ref l), some (.int x), some (.int n), some (.ref G2.length), none, none, some a, none]) (sy := fun a b => [some (.ref l), some (.int x), some (.int n), some (.ref G2.length), none, none, some a, some b]) (q := q) (i := .st G2.length) (r_seqT (r_var rfl) w2) (goes_t w2) (fun _ _ _ _ => rfl)
    (fun a ha G p => by obtain ⟨y, r, e1, e2, rfl, e3, e4⟩ := hx3 a ha; exact r_seqT (r_var rfl) (at_up p e3)) (fun a ha G p => by obtain ⟨y, r, e1, e2, rfl, e3, e4⟩ := hx3 a ha; rw [e4]; exact goes_t (at_up p e3)) (fun _ _ _ _ _ _ => rfl)
    (fun a ha b hb G p => by
      obtain ⟨y, r, e1, e2, rfl, e3, e4⟩ := hx3 a ha
      rw [e4] at hb
      obtain ⟨z, hz, rfl⟩ := List.mem_map.mp hb
      exact r_op (r_cl (r_cons (r_var rfl) r_nil) rfl) r_con rfl)
    (by
      have : (ls3.map A.ref).map (fun a => (ys a).length) = (ls3.map A.ref).map fun _ => n := List.map_congr_left fun a ha => by
        obtain ⟨y, r, e1, e2, rfl, e3, e4⟩ := hx3 a ha
        rw [e4]
        simp
      rw [this, sum_const, List.length_map, w1]
      exact Nat.le_trans (Nat.mul_le_mul hn hn) (by decide))
  have e5 : ((ls3.map A.ref).all fun a => (ys a).all (q a)) = boundB n (mutF x f) := by
    rw [Bool.eq_iff_iff, List.all_eq_true]
    unfold boundB
    rw [List.all_eq_true]
    constructor
    · intro k y hy
      rw [List.mem_range] at hy
      have hy3 : y < ls3.length := by omega
      have := k (.ref ls3[y]) (List.mem_map.mpr ⟨_, List.getElem_mem hy3, rfl⟩)
      have e := w3 y _ (List.getElem?_eq_getElem hy3)
      have e' : ys (.ref ls3[y]) = (List.range n).map fun z => .int (mutF x f y z) := by
        show (tupOf S3 (.ref ls3[y])).getD [] = _
        simp only [tupOf]
        rw [e]
        rfl
      rw [e', List.all_map] at this
      exact this
    · intro k a ha
      obtain ⟨y, r, e1, e2, rfl, e3, e4⟩ := hx3 a ha
      rw [e4, List.all_map]
      exact k y (List.mem_range.mpr e2)
  rw [e5] at a4
  have t3 := r_trim (r_not a4) rfl
  cases hb : boundB n (mutF x f) with
  | true =>
    rw [hb] at t3
    exact trim_ref (r_defR (r_seq s1 (r_seq s2 (r_seq (sa1 := sb) (r_condF t3 rfl) (r_ret (r_var rfl))))))
  | false =>
    rw [hb] at t3
    exact trim_er (r_defE (r_seq s1 (r_seq s2 (r_seqE (r_condT t3 rfl)))))
end Law
set_option maxRecDepth 100000
set_option maxHeartbeats 2000000
namespace Law
open PySem L2 Vai
def Small (n : Nat) (f : Nat → Nat → Int) : Prop := ∀ y z, y < n → z < n → -1000 ≤ f y z ∧ f y z ≤ 1000
def Anti (n : Nat) (f : Nat → Nat → Int) : Prop := ∀ y z, y < n → z < n → f y z = -f z y
theorem bound_iff {n : Nat} {f : Nat → Nat → Int} : boundB n f = true ↔ Small n f := by
  unfold boundB Small
  simp only [List.all_eq_true, List.mem_range, decide_eq_true_eq]
  constructor
  · intro h y z hy hz
    have := h y hy z hz
    split at this <;> omega
  · intro h y hy z hz
    have := h y z hy hz
    split <;> omega
theorem anti_iff {n : Nat} {f : Nat → Nat → Int} : antiB n f = true ↔ Anti n f := by
  unfold antiB Anti
  simp only [List.all_eq_true, List.mem_range, decide_eq_true_eq]
  exact ⟨fun h y z hy hz => h y hy z hz, fun h y hy z hz => h y z hy hz⟩
theorem good_web {S : List O} {l n : Nat} {f : Nat → Nat → Int} (h : WebAt S l n f) (h1 : 1 ≤ n) (h6 : n ≤ 6) (hf : Small n f) (ha : Anti n f) : d_is_web [.ref l] S = some (.ok (.bl true) S) := by
  have := e_web_D h h1 h6 hf
  rw [anti_iff.mpr ha] at this
  exact this
theorem WebAt.len {S : List O} {l n : Nat} {f : Nat → Nat → Int} (h : WebAt S l n f) : ∃ xs : List A, S[l]? = some (.tup xs) ∧ xs.length = n := by
  obtain ⟨ls, h1, h2, _⟩ := h
  exact ⟨_, h2, by rw [List.length_map, h1]⟩
theorem whole_nat {x n : Nat} (h : x < n) : wholeA 0 ((n : Int) - 1) (.int x) = true := by
  simp only [wholeA, Bool.and_eq_true, decide_eq_true_eq]
  omega
theorem e_turned {S : List O} {l n x : Nat} {f : Nat → Nat → Int} (h : WebAt S l n f) (hx : x < n) (h6 : n ≤ 6) (hf : Small n f) (ha : Anti n f) :
    ∃ (l' : Nat) (S' : List O), S <+: S' ∧ WebAt S' l' n (mutF x f) ∧ S.length ≤ l' ∧ d_turned [.ref l, .int x] S = some (if boundB n (mutF x f) then .ok (.ref l') S' else .er 5 S) := by
  obtain ⟨l', S', p, w, hl', e⟩ := e_behind h hx (by omega) hf
  refine ⟨l', S', p, w, hl', ?_⟩
  obtain ⟨xs, hxs, hn⟩ := h.len
  have hg := good_web h (by omega) h6 hf ha
  have hc : d_check_node [.int xs.length, .int x] S = some (.ok .non S) := by
    rw [e_check_node (t := "int") rfl, hn, whole_nat hx]
    rfl
  have go : ∀ {y : Option RF}, retF (callF d__behind (consF (varF 0) (consF (varF 1) nilF))) [some (.ref l), some (.int x)] S = y → b_turned [some (.ref l), some (.int x)] S = y := fun {y} k =>
    good_first hg rfl (r_seq (r_exp (r_call (r_cons (r_cl (r_cons (r_var rfl) r_nil) (g_lenT hxs)) (r_cons (r_var rfl) r_nil)) hc)) k)
  cases hb : boundB n (mutF x f) with
  | true =>
    rw [hb] at e
    exact trim_ref (r_defR (go (r_ret (r_call (r_cons (r_var rfl) (r_cons (r_var rfl) r_nil)) e))))
  | false =>
    rw [hb] at e
    exact trim_er (r_defE (go (r_retE (r_call (r_cons (r_var rfl) (r_cons (r_var rfl) r_nil)) e))))
def rowF (n : Nat) : (Nat → Nat → Int) → List Nat → Option (Nat → Nat → Int)
  | f, [] => some f
  | f, x :: xs => if boundB n (mutF x f) then rowF n (mutF x f) xs else none
theorem row_go {S0 : List O} {lr n : Nat} {ws : List Nat} (hn : n ≤ 1000) (hr : S0[lr]? = some (.tup (ws.map fun x => .int (x : Nat)))) (hw : ∀ x ∈ ws, x < n) :
    ∀ (m j l : Nat) (u : Option A) (S : List O) (f : Nat → Nat → Int), m + j = ws.length + 1 → j ≤ ws.length → S0 <+: S → WebAt S l n f → Small n f → ∃ (l' : Nat) (S' : List O) (u' : Option A), S <+: S' ∧
      forGo (.st lr) (nameT 2) (asgF (callF d__behind (consF (varF 0) (consF (varF 2) nilF))) (nameT 0)) m j [some (.ref l), some (.ref lr), u] S = some (match rowF n f (ws.drop j) with
        | some _ => .nx [some (.ref l'), some (.ref lr), u'] S'
        | none => .er 5 [some (.ref l'), some (.ref lr), u'] S') ∧ ∀ f', rowF n f (ws.drop j) = some f' → WebAt S' l' n f'
  | 0, j, l, u, S, f, e, e0, p, w, hf => by omega
  | m + 1, j, l, u, S, f, e, e0, p, w, hf => by
    have it : itemAt (.st lr) j S = some ((ws.map fun x => A.int (x : Nat))[j]?) := by
      simp only [itemAt]
      rw [at_up p hr]
    by_cases hj : j < ws.length
    · have hx : (ws.map fun x => A.int (x : Nat))[j]? = some (.int (ws[j] : Nat)) := by
        rw [List.getElem?_map, List.getElem?_eq_getElem hj]
        rfl
      have hd : ws.drop j = ws[j] :: ws.drop (j + 1) := List.drop_eq_getElem_cons hj
      obtain ⟨l1, S1, p1, w1, hl1, eb⟩ := e_behind w (hw _ (List.getElem_mem hj)) hn hf
      simp only [forGo]
      rw [it, hx, hd]
      simp only [nameT, rowF]
      cases hb : boundB n (mutF ws[j] f) with
      | true =>
        rw [hb] at eb
        have a1 := r_asgN (i := 0) (sa := ([some (.ref l), some (.ref lr), u] : Sa).set 2 (some (.int (ws[j] : Nat)))) (r_call (d := d__behind) (r_cons (fa := varF 0) (r_var rfl) (r_cons (fa := varF 2) (r_var rfl) r_nil)) eb)
        have a1' : asgF (callF d__behind (consF (varF 0) (consF (varF 2) nilF))) (nameT 0) (([some (.ref l), some (.ref lr), u] : Sa).set 2 (some (.int (ws[j] : Nat)))) S = some (.nx [some (.ref l1), some (.ref lr), some (.int (ws[j] : Nat))] S1) := a1
        rw [a1']
        simp only [if_true]
        obtain ⟨l2, S2, u2, p2, e2, k2⟩ := row_go hn hr hw m (j + 1) l1 (some (.int (ws[j] : Nat))) S1 (mutF ws[j] f) (by omega) (by omega) (pft p p1) w1 (bound_iff.mp hb)
        exact ⟨l2, S2, u2, pft p1 p2, e2, k2⟩
      | false =>
        rw [hb] at eb
        have a1 : asgF (callF d__behind (consF (varF 0) (consF (varF 2) nilF))) (nameT 0) (([some (.ref l), some (.ref lr), u] : Sa).set 2 (some (.int (ws[j] : Nat)))) S = some (.er 5 [some (.ref l), some (.ref lr), some (.int (ws[j] : Nat))] S) := by
          unfold asgF
          rw [r_call (d := d__behind) (r_cons (fa := varF 0) (r_var rfl) (r_cons (fa := varF 2) (r_var rfl) r_nil)) eb]
          rfl
        rw [a1]
        exact ⟨l, S, _, pf0 S, rfl, fun f' z => by cases z⟩
    · have hx : (ws.map fun x => A.int (x : Nat))[j]? = none := List.getElem?_eq_none (by simp; omega)
      simp only [forGo]
      rw [it, hx, List.drop_eq_nil_of_le (by omega)]
      exact ⟨l, S, u, pf0 S, rfl, fun f' z => by cases z; exact w⟩
theorem e_turned_all {S : List O} {l n lr : Nat} {ws : List Nat} {f : Nat → Nat → Int} (h : WebAt S l n f) (h1 : 1 ≤ n) (h6 : n ≤ 6) (hf : Small n f) (ha : Anti n f) (hr : S[lr]? = some (.tup (ws.map fun x => .int (x : Nat)))) (hl : ws.length ≤ 200) (hw : ∀ x ∈ ws, x < n) :
    ∃ (l' : Nat) (S' : List O), S <+: S' ∧ d_turned_all [.ref l, .ref lr] S = some (match rowF n f ws with
      | some _ => .ok (.ref l') S'
      | none => .er 5 S) ∧ ∀ f', rowF n f ws = some f' → WebAt S' l' n f' := by
  obtain ⟨xs, hxs, hn⟩ := h.len
  have hg := good_web h h1 h6 hf ha
  have hu : tupOf S (.ref lr) = some (ws.map fun x => .int (x : Nat)) := by
    simp only [tupOf]
    rw [hr]
  have hc : d_check_row [.int xs.length, .ref lr] S = some (.ok .non S) := by
    rw [e_check_row ⟨⟨"tuple", by simp only [tyN]; rw [hr]⟩, fun us e x hx => by rw [hu] at e; cases e; obtain ⟨y, _, rfl⟩ := List.mem_map.mp hx; exact ⟨"int", rfl⟩⟩]
    have : rowOk S xs.length (.ref lr) = true := by
      unfold rowOk
      rw [hu]
      simp only [List.length_map, Bool.and_eq_true, decide_eq_true_eq, List.all_eq_true]
      refine ⟨hl, fun x hx => ?_⟩
      obtain ⟨y, hy, rfl⟩ := List.mem_map.mp hx
      rw [hn]
      exact whole_nat (hw y hy)
    rw [this]
    rfl
  obtain ⟨l', S', u', p, e, k⟩ := row_go (S0 := S) (by omega) hr hw (ws.length + 1) 0 l none S f (by omega) (by omega) (pf0 S) h hf
  rw [List.drop_zero] at e k
  refine ⟨l', S', p, ?_, k⟩
  have hit : forF (seqI (varF 1)) (nameT 2) (asgF (callF d__behind (consF (varF 0) (consF (varF 2) nilF))) (nameT 0)) [some (.ref l), some (.ref lr), none] S = some (match rowF n f ws with
        | some _ => .nx [some (.ref l'), some (.ref lr), u'] S'
        | none => .er 5 [some (.ref l'), some (.ref lr), u'] S') := by
    unfold forF
    rw [r_seqT (r_var rfl) hr]
    simp only
    rw [(goes_t hr).2, List.length_map]
    exact e
  have go : ∀ {y : Option RF}, seqF (forF (seqI (varF 1)) (nameT 2) (asgF (callF d__behind (consF (varF 0) (consF (varF 2) nilF))) (nameT 0))) (retF (varF 0)) [some (.ref l), some (.ref lr), none] S = y → b_turned_all [some (.ref l), some (.ref lr), none] S = y := fun {y} k =>
    good_first hg rfl (r_seq (r_exp (r_call (r_cons (r_cl (r_cons (r_var rfl) r_nil) (g_lenT hxs)) (r_cons (r_var rfl) r_nil)) hc)) k)
  cases hrow : rowF n f ws with
  | some f' =>
    rw [hrow] at hit
    exact trim_ref (r_defR (go (r_seq hit (r_ret (r_var rfl)))))
  | none =>
    rw [hrow] at hit
    exact trim_er (r_defE (go (r_seqE hit)))
end Law
set_option maxRecDepth 100000
set_option maxHeartbeats 2000000
namespace Vai
open PySem L2
theorem tupOf_up {S G : List O} {x : A} (p : S <+: G) (h : ∃ t, tyN S x = some t) : tupOf G x = tupOf S x := by
  obtain ⟨t, ht⟩ := h
  cases x with
  | ref r =>
    simp only [tyN] at ht
    cases hr : S[r]? with
    | none =>
      rw [hr] at ht
      cases ht
    | some o =>
      simp only [tupOf]
      rw [hr, at_up p hr]
  | _ => rfl
theorem at_k {S L : List O} {k : Nat} : (S ++ L)[S.length + k]? = L[k]? := by
  rw [List.getElem?_append_right (by omega)]
  congr 1
  omega
section
variable {i : Its} {T : TX} {vs : List Nat} {ft fe : F} {d n j l : Nat} {sa sa1 : Sa} {S S3 : List O} {a : A} {as : List A} {es : List (Nat × List Int)} {k : List Int}
theorem scGo_step (item : itemAt i j S = some (some a)) (hT : T a (wipeA sa vs) S = some sa1) (ht : ft sa1 S = some (.ok (.bl true) S)) (he : fe sa1 S = some (.ok (.ref l) S3)) (hl : S3[l]? = some (.tup as)) (hd : S3[d]? = some (.set es)) (hk : toInts as = some k) (hc : (es.all (entOk S3) && decide (es.length < 62)) = true) :
    scGo i T vs ft fe d sa (n + 1) j S = scGo i T vs ft fe d sa n (j + 1) (if es.any (fun e => decide (e.2 = k)) then S3 else S3.set d (.set (es ++ [(l, k)]))) := by
  rw [scGo]
  simp only [item, hT, ht, he, hl, hd, hk, hc, if_true]
theorem scGo_stop (item : itemAt i j S = some none) : scGo i T vs ft fe d sa (n + 1) j S = some S := by
  rw [scGo]
  simp only [item]
end
end Vai
namespace Law
open PySem L2 Vai
def mn (y z : Int) : Int := if z < y then z else y
def mxx (y z : Int) : Int := if z > y then z else y
abbrev keysF : F := newF O.tup (consF (clF (twoG fun i j => if j < i then j else i) (consF (varF 3) (consF (varF 4) nilF))) (consF (clF (twoG fun i j => if j > i then j else i) (consF (varF 3) (consF (varF 4) nilF))) nilF))
abbrev setL : F := lenSetF (seqI (varF 1)) (tupX 3 (consX (nameX 3) (consX (nameX 4) (consX (nameX 5) nilX)))) [3, 4, 5] (conF (.bl true)) keysF
theorem set0 {S : List O} {n : A} {l : Nat} {u : Option A} (hl : S[l]? = some (.tup [])) : setL [some n, some (.ref l), u, none, none, none] S = some (.ok (.int 0) (S ++ [.set []])) := by
  unfold setL lenSetF
  rw [r_seqT (r_var rfl) hl]
  simp only
  rw [(goes_t hl).2, scGo_stop (by simp only [itemAt]; rw [at_up (pfa S _) hl]; rfl)]
  simp only
  rw [at_new]
  rfl
theorem set2 {S : List O} {n : A} {l t1 t2 : Nat} {u : Option A} {y1 z1 m1 y2 z2 m2 : Int} (hl : S[l]? = some (.tup [.ref t1, .ref t2])) (h1 : S[t1]? = some (.tup [.int y1, .int z1, .int m1])) (h2 : S[t2]? = some (.tup [.int y2, .int z2, .int m2])) :
    ∃ S', S <+: S' ∧ setL [some n, some (.ref l), u, none, none, none] S = some (.ok (.int (if [mn y1 z1, mxx y1 z1] = [mn y2 z2, mxx y2 z2] then 1 else 2)) S') := by
  have pre : ∀ L : List O, S <+: S ++ L := fun L => pfa S L
  have k1 : ∀ (G : List O) (y z m : Int), keysF [some n, some (.ref l), u, some (.int y), some (.int z), some (.int m)] G = some (.ok (.ref G.length) (G ++ [.tup [.int (mn y z), .int (mxx y z)]])) := fun G y z m =>
    r_new (r_cons (r_cl (r_cons (r_var rfl) (r_cons (r_var rfl) r_nil)) rfl) (r_cons (r_cl (r_cons (r_var rfl) (r_cons (r_var rfl) r_nil)) rfl) r_nil)) (by show 2 ≤ 1000000; decide)
  have tx : ∀ (G : List O) (t : Nat) (y z m : Int), G[t]? = some (O.tup [.int y, .int z, .int m]) → tupX 3 (consX (nameX 3) (consX (nameX 4) (consX (nameX 5) nilX))) (.ref t) (wipeA [some n, some (.ref l), u, none, none, none] [3, 4, 5]) G = some [some n, some (.ref l), u, some (.int y), some (.int z), some (.int m)] := fun G t y z m h => by
    simp only [tupX]
    rw [h]
    rfl
  have it : ∀ (L : List O) (j : Nat), itemAt (.st l) j (S ++ L) = some ([A.ref t1, A.ref t2][j]?) := fun L j => by
    simp only [itemAt]
    rw [at_up (pre L) hl]
  let A1 : List O := [.set [], .tup [.int (mn y1 z1), .int (mxx y1 z1)]]
  have st1 := scGo_step (i := .st l) (T := tupX 3 (consX (nameX 3) (consX (nameX 4) (consX (nameX 5) nilX)))) (vs := [3, 4, 5]) (ft := conF (.bl true)) (fe := keysF) (d := S.length) (n := 2) (j := 0) (sa := [some n, some (.ref l), u, none, none, none]) (S := S ++ [.set []]) (S3 := S ++ A1) (es := []) (k := [mn y1 z1, mxx y1 z1]) (l := S.length + 1) (a := .ref t1)
    (by rw [it]; rfl) (tx _ t1 y1 z1 m1 (at_up (pre _) h1)) rfl (by have := k1 (S ++ [.set []]) y1 z1 m1; rw [List.length_append] at this; rw [this, List.append_assoc]; rfl) (at_k (k := 1)) (by have := at_k (S := S) (L := A1) (k := 0); exact this) rfl rfl
  rw [show (([] : List (Nat × List Int)).any fun e => decide (e.2 = [mn y1 z1, mxx y1 z1])) = false from rfl] at st1
  let A2 : List O := [.set [(S.length + 1, [mn y1 z1, mxx y1 z1])], .tup [.int (mn y1 z1), .int (mxx y1 z1)]]
  have e12 : (S ++ A1).set S.length (.set ([] ++ [(S.length + 1, [mn y1 z1, mxx y1 z1])])) = S ++ A2 := by
    rw [List.set_append_right _ _ (Nat.le_refl _), Nat.sub_self]
    rfl
  simp only [Bool.false_eq_true, if_false] at st1
  rw [e12] at st1
  let A3 : List O := A2 ++ [.tup [.int (mn y2 z2), .int (mxx y2 z2)]]
  have ent : ∀ L : List O, entOk (S ++ (A2 ++ L)) (S.length + 1, [mn y1 z1, mxx y1 z1]) = true := fun L => by
    unfold entOk
    rw [show (S ++ (A2 ++ L))[S.length + 1]? = some (.tup [.int (mn y1 z1), .int (mxx y1 z1)]) from at_k (k := 1)]
    simp [toInts]
  have st2 := scGo_step (i := .st l) (T := tupX 3 (consX (nameX 3) (consX (nameX 4) (consX (nameX 5) nilX)))) (vs := [3, 4, 5]) (ft := conF (.bl true)) (fe := keysF) (d := S.length) (n := 1) (j := 1) (sa := [some n, some (.ref l), u, none, none, none]) (S := S ++ A2) (S3 := S ++ A3) (es := [(S.length + 1, [mn y1 z1, mxx y1 z1])]) (k := [mn y2 z2, mxx y2 z2]) (l := S.length + 2) (a := .ref t2)
    (by rw [it]; rfl) (tx _ t2 y2 z2 m2 (at_up (pre _) h2)) rfl (by have := k1 (S ++ A2) y2 z2 m2; rw [List.length_append] at this; rw [this, List.append_assoc]; rfl) (at_k (k := 2)) (by have := at_k (S := S) (L := A3) (k := 0); exact this) rfl (by simp only [List.all_cons, List.all_nil, Bool.and_true]; rw [ent]; rfl)
  unfold setL lenSetF
  rw [r_seqT (r_var rfl) hl]
  simp only
  rw [(goes_t hl).2]
  rw [show ([A.ref t1, A.ref t2].length + 1) = 3 from rfl, st1, st2]
  by_cases hk : [mn y1 z1, mxx y1 z1] = [mn y2 z2, mxx y2 z2]
  · rw [if_pos hk]
    have e : (([(S.length + 1, [mn y1 z1, mxx y1 z1])] : List (Nat × List Int)).any fun e => decide (e.2 = [mn y2 z2, mxx y2 z2])) = true := by simp only [List.any_cons, List.any_nil, Bool.or_false]; exact decide_eq_true hk
    rw [e]
    simp only [if_true]
    rw [scGo_stop (by rw [it]; rfl)]
    simp only
    rw [show (S ++ A3)[S.length]? = some (.set [(S.length + 1, [mn y1 z1, mxx y1 z1])]) from at_k (k := 0)]
    simp only [List.all_cons, List.all_nil, Bool.and_true]
    rw [ent]
    exact ⟨_, pre _, rfl⟩
  · rw [if_neg hk]
    have e : (([(S.length + 1, [mn y1 z1, mxx y1 z1])] : List (Nat × List Int)).any fun e => decide (e.2 = [mn y2 z2, mxx y2 z2])) = false := by simp only [List.any_cons, List.any_nil, Bool.or_false]; exact decide_eq_false hk
    rw [e]
    simp only [Bool.false_eq_true, if_false]
    let A4 : List O := [.set [(S.length + 1, [mn y1 z1, mxx y1 z1]), (S.length + 2, [mn y2 z2, mxx y2 z2])], .tup [.int (mn y1 z1), .int (mxx y1 z1)], .tup [.int (mn y2 z2), .int (mxx y2 z2)]]
    have e34 : (S ++ A3).set S.length (.set ([(S.length + 1, [mn y1 z1, mxx y1 z1])] ++ [(S.length + 2, [mn y2 z2, mxx y2 z2])])) = S ++ A4 := by
      rw [List.set_append_right _ _ (Nat.le_refl _), Nat.sub_self]
      rfl
    rw [e34, scGo_stop (by rw [it]; rfl)]
    simp only
    rw [show (S ++ A4)[S.length]? = some (.set [(S.length + 1, [mn y1 z1, mxx y1 z1]), (S.length + 2, [mn y2 z2, mxx y2 z2])]) from at_k (k := 0)]
    have f1 : entOk (S ++ A4) (S.length + 1, [mn y1 z1, mxx y1 z1]) = true := by
      unfold entOk
      rw [show (S ++ A4)[S.length + 1]? = some (.tup [.int (mn y1 z1), .int (mxx y1 z1)]) from at_k (k := 1)]
      simp [toInts]
    have f2 : entOk (S ++ A4) (S.length + 2, [mn y2 z2, mxx y2 z2]) = true := by
      unfold entOk
      rw [show (S ++ A4)[S.length + 2]? = some (.tup [.int (mn y2 z2), .int (mxx y2 z2)]) from at_k (k := 2)]
      simp [toInts]
    simp only [List.all_cons, List.all_nil, Bool.and_true]
    rw [f1, f2]
    exact ⟨_, pre _, rfl⟩
end Law
set_option maxRecDepth 100000
set_option maxHeartbeats 2000000
namespace Law
open PySem L2 Vai
theorem arrowOk_up {S G : List O} {n : Int} {x : A} (p : S <+: G) (h : Ty S x) : arrowOk G n x = arrowOk S n x := by
  unfold arrowOk
  rw [tupOf_up p h]
theorem Ty1.up {S G : List O} {x : A} (p : S <+: G) (h : Ty1 S x) : Ty1 G x := ⟨h.1.up p, fun xs e y hy => (h.2 xs (by rw [← tupOf_up p h.1]; exact e) y hy).up p⟩
abbrev arrowsT : F := trimF (orF (notF (clF isiG (consF (varF 1) (consF (conF (.ty "tuple")) nilF)))) (notF (clF (allG fun bs => bs.all id) (consF (lcF (seqI (varF 1)) (nameX 2) [2] (conF (.bl true)) (callF d__is_arrow (consF (varF 0) (consF (varF 2) nilF)))) nilF))))
theorem arrows_test {S : List O} {l : Nat} {n : Int} {xs : List A} (hl : S[l]? = some (.tup xs)) (hx : ∀ x ∈ xs, Ty1 S x) (hn : xs.length ≤ 1000000) : arrowsT [some (.int n), some (.ref l), none, none, none, none] S = some (.ok (.bl (!(xs.all (arrowOk S n)))) S) := by
  have ht : tyN S (.ref l) = some "tuple" := by
    simp only [tyN]
    rw [hl]
  have hu : tupOf S (.ref l) = some xs := by
    simp only [tupOf]
    rw [hl]
  let sa : Sa := [some (.int n), some (.ref l), none, none, none, none]
  have h1 : notF (clF isiG (consF (varF 1) (consF (conF (.ty "tuple")) nilF))) sa S = some (.ok (.bl (!(tupOf S (.ref l)).isSome)) S) := r_not (r_cl (r_cons (r_var rfl) (r_cons r_con r_nil)) (isi_tup ht))
  rw [hu] at h1
  have h4 := e_allLc (S := S) (S1 := S) (sa := sa) (fi := seqI (varF 1)) (T := nameX 2) (vs := [2]) (fe := callF d__is_arrow (consF (varF 0) (consF (varF 2) nilF))) (sx := fun x => [some (.int n), some (.ref l), some x, none, none, none]) (q := arrowOk S n) (r_seqT (r_var rfl) hl) (goes_t hl) (fun _ _ _ _ => rfl)
        (fun x hm G p => r_call (r_cons (r_var rfl) (r_cons (r_var rfl) r_nil)) (by rw [← arrowOk_up p (hx x hm).1]; exact e_is_arrow ((hx x hm).up p))) hn
  refine r_trim (S1 := S ++ [.lst (xs.map fun x => .bl (arrowOk S n x))]) ?_ rfl
  have h5 := r_not h4
  unfold orF
  refine r_bnd h1 ?_
  exact h5
theorem e_arrows_no {S : List O} {a : A} {n : Int} (h : Ty S a) (hx : ∀ xs, tupOf S a = some xs → (∀ x ∈ xs, Ty1 S x) ∧ xs.length ≤ 1000000 ∧ xs.all (arrowOk S n) = false) : d__are_arrows [.int n, a] S = some (.ok (.bl false) S) := by
  obtain ⟨t, ht⟩ := h
  cases hu : tupOf S a with
  | none =>
    have h1 : notF (clF isiG (consF (varF 1) (consF (conF (.ty "tuple")) nilF))) [some (.int n), some a, none, none, none, none] S = some (.ok (.bl (!(tupOf S a).isSome)) S) := r_not (r_cl (r_cons (r_var rfl) (r_cons r_con r_nil)) (isi_tup ht))
    rw [hu] at h1
    exact trim_ok (r_defR (r_seqR (r_condT (r_trim (r_or (y := false) h1 (fun z => by cases z)) rfl) (r_ret r_con)))) rfl
  | some xs =>
    obtain ⟨l, rfl, hl⟩ := tup_ref hu
    obtain ⟨h1, h2, h3⟩ := hx xs hu
    have h4 := arrows_test (n := n) hl h1 h2
    rw [h3] at h4
    exact trim_ok (r_defR (r_seqR (r_condT h4 (r_ret r_con)))) rfl
/-- arrows that can stand, but for what comes twice -/
theorem e_arrows_set {S S' : List O} {l c : Nat} {n : Int} {xs : List A} (hl : S[l]? = some (.tup xs)) (hx : ∀ x ∈ xs, Ty1 S x) (hn : xs.length ≤ 1000000) (ha : xs.all (arrowOk S n) = true) (p : S <+: S') (hs : setL [some (.int n), some (.ref l), none, none, none, none] S = some (.ok (.int c) S')) : d__are_arrows [.int n, .ref l] S = some (.ok (.bl (decide ((c : Int) = xs.length))) S) := by
  have h4 := arrows_test (n := n) hl hx hn
  rw [ha] at h4
  exact trim_ok (r_defR (r_seq (sa1 := [some (.int n), some (.ref l), none, none, none, none]) (r_condF h4 rfl) (r_ret (r_op hs (r_cl (r_cons (r_var rfl) r_nil) (g_lenT (at_up p hl))) g_eqI)))) rfl
theorem web_of_count {S : List O} {a b : A} (h : Ty S a) (hb : wholeA 1 6 a = false) : d_web_of [a, b] S = some (.er 3 S) := by
  obtain ⟨t, ht⟩ := h
  have hc : d_check_count [a] S = some (.er 3 S) := by
    rw [e_check_count ht, hb]
    rfl
  exact r_defE (r_seqE (r_expE (r_call (r_cons (r_var rfl) r_nil) hc)))
theorem count3 {S : List O} : d_check_count [.int 3] S = some (.ok .non S) := by
  rw [e_check_count (t := "int") rfl]
  rfl
theorem web_of_arrows {S : List O} {b : A} (h : d__are_arrows [.int 3, b] S = some (.ok (.bl false) S)) : d_web_of [.int 3, b] S = some (.er 4 S) :=
  r_defE (r_seq (r_exp (r_call (r_cons (r_var rfl) r_nil) count3)) (r_seqE (r_condT (r_not (x := false) (r_call (r_cons (r_var rfl) (r_cons (r_var rfl) r_nil)) h)) rfl)))
/-! a table of lists -/
def TabAt (b : Nat) (S : List O) (l n : Nat) (f : Nat → Nat → Int) : Prop := ∃ rs : List Nat, rs.length = n ∧ rs.Nodup ∧ (l ∉ rs ∧ ∀ r ∈ rs, b ≤ r) ∧ S[l]? = some (O.lst (rs.map A.ref)) ∧ ∀ (y r : Nat), rs[y]? = some r → S[r]? = some (O.lst ((List.range n).map fun z => .int (f y z)))
def setF (f : Nat → Nat → Int) (y z : Nat) (v : Int) : Nat → Nat → Int := fun a b => if a = y ∧ b = z then v else f a b
theorem range_set {n z : Nat} {g : Nat → Int} {v : Int} : ((List.range n).map fun b => A.int (g b)).set z (.int v) = (List.range n).map fun b => A.int (if b = z then v else g b) := by
  apply List.ext_getElem?
  intro j
  rw [List.getElem?_set]
  simp only [List.getElem?_map, List.length_map, List.length_range]
  by_cases hj : j < n
  · rw [List.getElem?_range hj]
    by_cases hz : z = j
    · subst hz
      simp [hj]
    · rw [if_neg hz]
      simp [Ne.symm hz]
  · rw [List.getElem?_eq_none (by simp; omega)]
    by_cases hz : z = j
    · subst hz
      simp [hj]
    · simp [hz]
/-- table[y][z] = v -/
theorem TabAt.put {b : Nat} {S : List O} {l n y z : Nat} {f : Nat → Nat → Int} {v : Int} (h : TabAt b S l n f) (hy : y < n) (hz : z < n) : ∃ r : Nat, (r ≠ l ∧ b ≤ r) ∧ ixG (.ref l) (.int y) S = some (.ref r, S) ∧ S[r]? = some (O.lst ((List.range n).map fun z => .int (f y z))) ∧ TabAt b (S.set r (.lst (((List.range n).map fun z => A.int (f y z)).set z (.int v)))) l n (setF f y z v) := by
  obtain ⟨rs, h1, h2, h3, h4, h5⟩ := h
  have hy2 : y < rs.length := by omega
  have e : rs[y]? = some rs[y] := List.getElem?_eq_getElem hy2
  have hm : rs[y] ∈ rs := List.getElem_mem hy2
  have hr := h5 y _ e
  have nl : rs[y] ≠ l := fun q => h3.1 (q ▸ hm)
  refine ⟨rs[y], ⟨nl, h3.2 _ hm⟩, g_ixL h4 (atI_nat (by rw [List.getElem?_map, e]; rfl)), hr, rs, h1, h2, h3, ?_, fun a r q => ?_⟩
  · rw [List.getElem?_set_ne nl]
    exact h4
  · have ha := (List.getElem?_eq_some_iff.mp q).1
    by_cases hay : a = y
    · subst hay
      rw [e] at q
      cases q
      rw [List.getElem?_set_self (List.getElem?_eq_some_iff.mp hr).1, range_set]
      congr 3
      funext b
      simp [setF]
    · have nr : rs[y] ≠ r := fun w => hay ((List.getElem?_inj ha h2).mp (by rw [q, e, w]))
      rw [List.getElem?_set_ne nr, h5 a r q]
      congr 3
      funext b
      simp [setF, hay]
/-- in the text's form -/
theorem t_put {b : Nat} {S : List O} {l n y z : Nat} {f : Nat → Nat → Int} {v : Int} {sa : Sa} {i j k : Nat} (h : TabAt b S l n f) (hy : y < n) (hz : z < n) (h0 : sa[i]? = some (some (.ref l))) (h1 : sa[j]? = some (some (.int y))) (h2 : sa[k]? = some (some (.int z))) :
    ∃ S', subT (opF ixG (varF i) (varF j)) (varF k) (.int v) sa S = some (sa, S') ∧ TabAt b S' l n (setF f y z v) ∧ ∃ r o o', S' = S.set r o' ∧ b ≤ r ∧ S[r]? = some (O.lst o) := by
  obtain ⟨r, nl, g1, g2, g3⟩ := h.put (v := v) hy hz
  refine ⟨_, ?_, g3, r, _, _, rfl, nl.2, g2⟩
  unfold subT
  rw [r_op (r_var h0) (r_var h1) g1]
  simp only
  rw [r_var h2]
  simp only
  rw [g2]
  simp only
  have hi : ixN ((List.range n).map fun z => A.int (f y z)).length (z : Int) = some z := by
    unfold ixN
    rw [List.length_map, List.length_range, if_pos (by omega), if_pos (by omega)]
    simp
  rw [hi]
/-- tuple([tuple(line) for line in table]) -/
theorem e_frozen {b : Nat} {S : List O} {l n i k : Nat} {f : Nat → Nat → Int} {sa : Sa} (h : TabAt b S l n f) (hn : n ≤ 1000) (h0 : sa[i]? = some (some (.ref l))) (hk : k < sa.length) : ∃ (l' : Nat) (S' : List O), S <+: S' ∧ S.length ≤ l' ∧ WebAt S' l' n f ∧
    clF tupC (consF (lcF (seqI (varF i)) (nameX k) [k] (conF (.bl true)) (clF tupC (consF (varF k) nilF))) nilF) sa S = some (.ok (.ref l') S') := by
  obtain ⟨rs, h1, h2, h3, h4, h5⟩ := h
  have wl : ((wipeA sa [k])).length = sa.length := by
    show (sa.set k none).length = _
    rw [List.length_set]
  obtain ⟨qs, G, c1, c2, c3, c4, c5, c6, c7⟩ := e_lcA (S := S) (S1 := S) (sa := sa) (fi := seqI (varF i)) (T := nameX k) (vs := [k]) (i := .sl l) (xs := rs.map A.ref) (fe := clF tupC (consF (varF k) nilF)) (sx := fun a => (wipeA sa [k]).set k (some a)) (o := fun a => .tup (match a with
    | .ref r => (match S[r]? with
      | some (O.lst xs) => xs
      | _ => [])
    | _ => [])) (r_seqL (r_var h0) h4) (goes_l h4) (fun _ _ _ _ => rfl) (fun a ha G p _ => by
      obtain ⟨r, hr, rfl⟩ := List.mem_map.mp ha
      obtain ⟨y, hy⟩ := List.getElem?_of_mem hr
      have e := h5 y r hy
      refine ⟨G.length, G ++ [.tup ((List.range n).map fun z => .int (f y z))], r_cl (r_cons (r_var (List.getElem?_set_self (by rw [wl]; exact hk))) r_nil) (g_tupL (at_up p e)), pfa G _, Nat.le_refl _, ?_⟩
      rw [at_new]
      simp only
      rw [e]) (by rw [List.length_map]; omega)
  refine ⟨G.length, G ++ [.tup (qs.map A.ref)], pft c2 (pfa G _), c2.length_le, ⟨qs, by rw [c4, List.length_map, h1], at_new, fun y r e => ?_⟩, r_cl (r_cons c1 r_nil) (g_tupL c3)⟩
  have hy : y < rs.length := by
    have := (List.getElem?_eq_some_iff.mp e).1
    rw [c4, List.length_map] at this
    exact this
  have e2 := (c5 y (.ref rs[y]) r (by rw [List.getElem?_map, List.getElem?_eq_getElem hy]; rfl) e).2
  simp only at e2
  rw [h5 y _ (List.getElem?_eq_getElem hy)] at e2
  exact at_up (pfa G _) e2
theorem rep1 {α : Type} (x : α) (n : Nat) : repA n [x] = (List.range n).map fun _ => x := by
  have h1 : ∀ n : Nat, repA n [x] = List.replicate n x := fun n => by
    induction n with
    | zero => rfl
    | succ n ih =>
      show (List.replicate (n + 1) [x]).flatten = _
      rw [List.replicate_succ, List.flatten_cons, List.replicate_succ]
      show x :: repA n [x] = _
      rw [ih]
  rw [h1, List.map_const', List.length_range]
/-- [[0] * n for _ in range(n)] -/
theorem e_zeros {S : List O} {n i k : Nat} {sa : Sa} (hn : n ≤ 1000) (h0 : sa[i]? = some (some (.int n))) (hk : k < sa.length) (hik : i ≠ k) : ∃ S' : List O, S <+: S' ∧ TabAt S.length S' S.length n (fun _ _ => 0) ∧
    lcF (rg1I (consF (varF i) nilF)) (nameX k) [k] (conF (.bl true)) (opF mulG (newF O.lst (consF (conF (.int 0)) nilF)) (varF i)) sa S = some (.ok (.ref S.length) S') := by
  have hi : rg1I (consF (varF i) nilF) sa S = some (.ok (.rg 0 n) S) := by
    have := r_rg1 (sa := sa) (S := S) (S1 := S) (fl := consF (varF i) nilF) (j := (n : Int)) (r_cons (r_var h0) r_nil) (by unfold inBd; simp; omega)
    simpa using this
  obtain ⟨qs, G, c1, c2, c3, c4, c5, c6, c7⟩ := e_lcA (S := S) (S1 := S) (sa := sa) (fi := rg1I (consF (varF i) nilF)) (T := nameX k) (vs := [k]) (i := .rg 0 n) (xs := (List.range n).map fun i => .int ((i : Nat) : Int)) (fe := opF mulG (newF O.lst (consF (conF (.int 0)) nilF)) (varF i)) (sx := fun a => (wipeA sa [k]).set k (some a)) (o := fun _ => .lst ((List.range n).map fun _ => .int 0))
    hi goes_r0 (fun _ _ _ _ => rfl) (fun a _ G p _ => by
      have hv : ((wipeA sa [k]).set k (some a))[i]? = some (some (.int n)) := by
        rw [List.getElem?_set_ne (Ne.symm hik)]
        show (sa.set k none)[i]? = _
        rw [List.getElem?_set_ne (Ne.symm hik)]
        exact h0
      have hm : mulG (.ref G.length) (.int n) (G ++ [.lst [.int 0]]) = some (.ref (G ++ [O.lst [.int 0]]).length, (G ++ [.lst [.int 0]]) ++ [.lst (repA n [.int 0])]) := by
        unfold mulG
        simp only
        rw [at_new]
        simp only
        rw [if_pos (by simp; omega)]
        simp
      refine ⟨_, _, r_op (r_new (r_cons r_con r_nil) (by show 1 ≤ 1000000; decide)) (r_var hv) hm, pft (pfa G _) (pfa _ _), by simp, ?_⟩
      rw [at_new]
      congr 2
      exact rep1 _ n) (by simp; omega)
  refine ⟨G, c2, ⟨qs, by rw [c4]; simp, c6, ⟨fun z => Nat.lt_irrefl _ (c7 _ z), fun r hr => Nat.le_of_lt (c7 r hr)⟩, c3, fun y r e => ?_⟩, c1⟩
  have hy : y < n := by
    have := (List.getElem?_eq_some_iff.mp e).1
    rw [c4] at this
    simpa using this
  exact (c5 y (.int y) r (by rw [List.getElem?_map, List.getElem?_range hy]; rfl) e).2
end Law
set_option maxRecDepth 100000
set_option maxHeartbeats 2000000
namespace Law
open PySem L2 Vai
def putF (f : Nat → Nat → Int) (t : Nat × Nat × Int) : Nat → Nat → Int := setF (setF f t.1 t.2.1 t.2.2) t.2.1 t.1 (-t.2.2)
abbrev storeS : FS := seqF (asgF (varF 6) (subT (opF ixG (varF 2) (varF 4)) (varF 5))) (asgF (unF negG (varF 6)) (subT (opF ixG (varF 2) (varF 5)) (varF 4)))
theorem store_two {S0 S : List O} {lt n y z : Nat} {f : Nat → Nat → Int} {v : Int} {a0 a1 u3 u7 : Option A} (p : S0 <+: S) (h : TabAt S0.length S lt n f) (hy : y < n) (hz : z < n) :
    ∃ S', storeS [a0, a1, some (.ref lt), u3, some (.int y), some (.int z), some (.int v), u7] S = some (.nx [a0, a1, some (.ref lt), u3, some (.int y), some (.int z), some (.int v), u7] S') ∧ S0 <+: S' ∧ TabAt S0.length S' lt n (putF f (y, z, v)) := by
  let sa : Sa := [a0, a1, some (.ref lt), u3, some (.int y), some (.int z), some (.int v), u7]
  obtain ⟨S1, h1, h2, r1, o1, o1', e1, b1, _⟩ := t_put (v := v) (sa := sa) (i := 2) (j := 4) (k := 5) h hy hz rfl rfl rfl
  obtain ⟨S2, h3, h4, r2, o2, o2', e2, b2, _⟩ := t_put (v := -v) (sa := sa) (i := 2) (j := 5) (k := 4) h2 hz hy rfl rfl rfl
  have p1 : S0 <+: S1 := by
    rw [e1]
    exact pre_set p b1
  have p2 : S0 <+: S2 := by
    rw [e2]
    exact pre_set p1 b2
  exact ⟨S2, r_seq (r_asg (z := (sa, S1)) (r_var rfl) h1) (r_asg (z := (sa, S2)) (r_un (r_var rfl) rfl) h3), p2, h4⟩
theorem web_go {S0 : List O} {l lt n : Nat} {a0 : Option A} {rs : List Nat} {ts : List (Nat × Nat × Int)} (hr : S0[l]? = some (.tup (rs.map A.ref))) (hl : rs.length = ts.length) (hs : ∀ (k r : Nat) (t : Nat × Nat × Int), rs[k]? = some r → ts[k]? = some t → S0[r]? = some (.tup [.int (t.1 : Nat), .int (t.2.1 : Nat), .int t.2.2]) ∧ t.1 < n ∧ t.2.1 < n) :
    ∀ (m j : Nat) (u3 u4 u5 u6 u7 : Option A) (S : List O) (f : Nat → Nat → Int), m + j = ts.length + 1 → j ≤ ts.length → S0 <+: S → TabAt S0.length S lt n f →
      ∃ (S' : List O) (u4' u5' u6' : Option A), S0 <+: S' ∧ TabAt S0.length S' lt n ((ts.drop j).foldl putF f) ∧
        forGo (.st l) (tupT 3 (consT (nameT 4) (consT (nameT 5) (consT (nameT 6) nilT)))) storeS m j [a0, some (.ref l), some (.ref lt), u3, u4, u5, u6, u7] S = some (.nx [a0, some (.ref l), some (.ref lt), u3, u4', u5', u6', u7] S')
  | 0, j, u3, u4, u5, u6, u7, S, f, e, e0, p, h => by omega
  | m + 1, j, u3, u4, u5, u6, u7, S, f, e, e0, p, h => by
    have it : itemAt (.st l) j S = some ((rs.map A.ref)[j]?) := by
      simp only [itemAt]
      rw [at_up p hr]
    by_cases hj : j < ts.length
    · have hjr : j < rs.length := by omega
      have hx : (rs.map A.ref)[j]? = some (.ref rs[j]) := by
        rw [List.getElem?_map, List.getElem?_eq_getElem hjr]
        rfl
      have hd : ts.drop j = ts[j] :: ts.drop (j + 1) := List.drop_eq_getElem_cons hj
      obtain ⟨k1, k2, k3⟩ := hs j rs[j] ts[j] (List.getElem?_eq_getElem hjr) (List.getElem?_eq_getElem hj)
      obtain ⟨S1, s1, s2, s3⟩ := store_two (a0 := a0) (a1 := some (.ref l)) (u3 := u3) (u7 := u7) (v := ts[j].2.2) p h k2 k3
      obtain ⟨S2, v4, v5, v6, q1, q2, q3⟩ := web_go hr hl hs m (j + 1) u3 (some (.int (ts[j].1 : Nat))) (some (.int (ts[j].2.1 : Nat))) (some (.int ts[j].2.2)) u7 S1 (putF f ts[j]) (by omega) (by omega) s2 s3
      refine ⟨S2, v4, v5, v6, q1, by rw [hd]; exact q2, ?_⟩
      have hT : tupT 3 (consT (nameT 4) (consT (nameT 5) (consT (nameT 6) nilT))) (.ref rs[j]) [a0, some (.ref l), some (.ref lt), u3, u4, u5, u6, u7] S = some ([a0, some (.ref l), some (.ref lt), u3, some (.int (ts[j].1 : Nat)), some (.int (ts[j].2.1 : Nat)), some (.int ts[j].2.2), u7], S) := by
        simp only [tupT]
        rw [at_up p k1]
        rfl
      rw [forGo]
      simp only [it, hx, hT, s1]
      exact q3
    · have hx : (rs.map A.ref)[j]? = none := List.getElem?_eq_none (by simp; omega)
      refine ⟨S, u4, u5, u6, p, by rw [List.drop_eq_nil_of_le (by omega)]; exact h, ?_⟩
      rw [forGo]
      simp only [it, hx]
theorem e_web_of {S : List O} {l n : Nat} {rs : List Nat} {ts : List (Nat × Nat × Int)} (hn : 1 ≤ n) (h6 : n ≤ 6) (hr : S[l]? = some (.tup (rs.map A.ref))) (hl : rs.length = ts.length) (hs : ∀ (k r : Nat) (t : Nat × Nat × Int), rs[k]? = some r → ts[k]? = some t → S[r]? = some (.tup [.int (t.1 : Nat), .int (t.2.1 : Nat), .int t.2.2]) ∧ t.1 < n ∧ t.2.1 < n)
    (ha : d__are_arrows [.int n, .ref l] S = some (.ok (.bl true) S)) : ∃ (l' : Nat) (S' : List O), S <+: S' ∧ S.length ≤ l' ∧ WebAt S' l' n (ts.foldl putF fun _ _ => 0) ∧ d_web_of [.int n, .ref l] S = some (.ok (.ref l') S') := by
  let sa : Sa := [some (.int n), some (.ref l), none, none, none, none, none, none]
  have hc : d_check_count [.int n] S = some (.ok .non S) := by
    rw [e_check_count (t := "int") rfl]
    have : wholeA 1 6 (.int n) = true := by
      simp only [wholeA, Bool.and_eq_true, decide_eq_true_eq]
      omega
    rw [this]
    rfl
  obtain ⟨S1, z1, z2, z3⟩ := e_zeros (S := S) (n := n) (i := 0) (k := 3) (sa := sa) (by omega) rfl (by show 3 < 8; decide) (by decide)
  obtain ⟨S2, u4, u5, u6, w1, w2, w3⟩ := web_go (a0 := some (.int n)) (lt := S.length) hr hl hs (ts.length + 1) 0 none none none none none S1 (fun _ _ => 0) (by omega) (by omega) z1 z2
  rw [List.drop_zero] at w2
  obtain ⟨l', S3, v1, v2, v3, v4⟩ := e_frozen (i := 2) (k := 7) (sa := [some (.int n), some (.ref l), some (.ref S.length), none, u4, u5, u6, none]) w2 (by omega) rfl (by simp)
  have hfor : forF (seqI (varF 1)) (tupT 3 (consT (nameT 4) (consT (nameT 5) (consT (nameT 6) nilT)))) storeS [some (.int n), some (.ref l), some (.ref S.length), none, none, none, none, none] S1 = some (.nx [some (.int n), some (.ref l), some (.ref S.length), none, u4, u5, u6, none] S2) := by
    unfold forF
    rw [r_seqT (r_var rfl) (at_up z1 hr)]
    simp only
    rw [(goes_t (at_up z1 hr)).2, List.length_map, hl]
    exact w3
  refine ⟨l', S3, pft w1 v1, Nat.le_trans w1.length_le v2, v3, r_defR (r_seq (r_exp (r_call (r_cons (r_var rfl) r_nil) hc)) (r_seq (r_condF (r_not (x := true) (r_call (r_cons (r_var rfl) (r_cons (r_var rfl) r_nil)) ha)) rfl) (r_seq (r_asgN (i := 2) z3) (r_seq hfor (r_ret v4)))))⟩
end Law
set_option maxRecDepth 100000
set_option maxHeartbeats 2000000
namespace Law
open PySem L2 Vai
/-! drawing -/
def ScrO (o : O) (ns : List Int) : Prop := o = .scr ns ∨ o = .lst (ns.map A.int)
structure RowAt (S : List O) (ns : List Int) (a b c : Int) : Prop where
  s0 : ∃ o, ScrO o ns ∧ S[0]? = some o
  s1 : S[1]? = some (.lst [.ref 0, .int a, .int b, .int c])
  pos : 0 ≤ a
theorem scr_len {S : List O} {o : O} {ns : List Int} (h : ScrO o ns) (e : S[0]? = some o) : lenG [.ref 0] S = some (.int ns.length, S) := by
  unfold lenG
  simp only
  rw [e]
  rcases h with rfl | rfl
  · rfl
  · simp
theorem scr_ix {S : List O} {o : O} {ns : List Int} {k : Nat} (h : ScrO o ns) (e : S[0]? = some o) (hk : k < ns.length) : ixG (.ref 0) (.int (k : Nat)) S = some (.int ns[k], S) := by
  rcases h with rfl | rfl
  · unfold ixG
    simp only
    rw [e]
    simp only
    rw [atI_nat (List.getElem?_eq_getElem hk)]
    rfl
  · exact g_ixL e (atI_nat (by rw [List.getElem?_map, List.getElem?_eq_getElem hk]; rfl))
theorem RowAt.put {S : List O} {ns : List Int} {a b c a' b' c' : Int} (h : RowAt S ns a b c) (ha : 0 ≤ a') : RowAt (S.set 1 (.lst [.ref 0, .int a', .int b', .int c'])) ns a' b' c' := by
  obtain ⟨o, h1, h2⟩ := h.s0
  exact ⟨⟨o, h1, by rw [List.getElem?_set_ne (by decide)]; exact h2⟩, List.getElem?_set_self (List.getElem?_eq_some_iff.mp h.s1).1, ha⟩
theorem t_row {S : List O} {xs : List A} {k : Int} {j : Nat} {v : A} {sa : Sa} (h : S[1]? = some (.lst xs)) (h0 : sa[0]? = some (some (.ref 1))) (hk : ixN xs.length k = some j) : subT (varF 0) (conF (.int k)) v sa S = some (sa, S.set 1 (.lst (xs.set j v))) := by
  unfold subT
  rw [r_var h0]
  simp only [conF]
  rw [h]
  simp only
  rw [hk]
theorem e_taken {S : List O} {ns : List Int} {a b c m : Int} (h : RowAt S ns a b c) (h0 : 0 < m) (h1 : m < 1073741824) :
    ∃ r a' b' c' : Int, 0 ≤ r ∧ r < m ∧ 0 ≤ a' ∧ d__law_taken [.ref 1, .int m] S = some (.ok (.int r) (S.set 1 (.lst [.ref 0, .int a', .int b', .int c']))) := by
  obtain ⟨o, hs, hs0⟩ := h.s0
  have hr := h.s1
  let sa : Sa := [some (.ref 1), some (.int m), none, none]
  have hm : (decide (m ≠ 0)) = true := decide_eq_true (by omega)
  have hm2 : (decide (m ≠ 0) && decide (m.natAbs < 1073741824)) = true := by rw [hm, decide_eq_true (by omega)]; rfl
  have md : ∀ (i : Int) (S : List O), modG (.int i) (.int m) S = some (.int (i.fmod m), S) := fun i S => by
    show (if decide (m ≠ 0) = true then some (A.int (i.fmod m), S) else none) = _
    rw [if_pos hm]
  have fd : ∀ (i : Int) (S : List O), fdivG (.int i) (.int m) S = some (.int (i.fdiv m), S) := fun i S => by
    show (if (decide (m ≠ 0) && decide (m.natAbs < 1073741824)) = true then some (A.int (i.fdiv m), S) else none) = _
    rw [if_pos hm2]
  have rng : ∀ i : Int, 0 ≤ i.fmod m ∧ i.fmod m < m := fun i => ⟨by rw [Int.fmod_eq_emod_of_nonneg i (by omega)]; exact Int.emod_nonneg i (by omega), by rw [Int.fmod_eq_emod_of_nonneg i (by omega)]; exact Int.emod_lt_of_pos i h0⟩
  have ix : ∀ {S : List O} {xs : List A} {sa : Sa} {k : Int} {x : A}, S[1]? = some (.lst xs) → sa[0]? = some (some (.ref 1)) → atI xs k = some x → opF ixG (varF 0) (conF (.int k)) sa S = some (.ok x S) := fun e1 e2 e3 => r_op (r_var e2) r_con (g_ixL e1 e3)
  have t0 : opF (cmpG fun i j => decide (i > j)) (opF ixG (varF 0) (conF (.int 3))) (conF (.int 0)) sa S = some (.ok (.bl (decide (c > 0))) S) := r_op (ix hr rfl rfl) r_con rfl
  by_cases hc : c > 0
  · rw [decide_eq_true hc] at t0
    have a1 := r_asgN (i := 2) (sa := sa) (r_op (r_cl (g := intC) (r_cons (ix (k := 3) hr rfl rfl) r_nil) rfl) (r_var (i := 1) rfl) (md c S))
    have a2 := r_asg (z := (sa.set 2 (some (.int (c.fmod m))), S.set 1 (.lst [.ref 0, .int a, .int b, .int (c.fdiv m)]))) (r_op (ix (sa := sa.set 2 (some (.int (c.fmod m)))) (k := 3) hr rfl rfl) (r_var (i := 1) rfl) (fd c S)) (t_row (k := 3) (j := 3) hr rfl rfl)
    exact ⟨c.fmod m, a, b, c.fdiv m, (rng c).1, (rng c).2, h.pos, r_defR (r_seqR (r_condT t0 (r_seq a1 (r_seq a2 (r_ret (r_var rfl))))))⟩
  · rw [decide_eq_false hc] at t0
    have b1 := r_asg (sa := sa) (z := (sa, S.set 1 (.lst [.ref 0, .int (a + 1), .int b, .int c]))) (r_op (g := addG) (ix (k := 1) hr rfl rfl) (r_con (a := .int 1)) rfl) (t_row (k := 1) (j := 1) hr rfl rfl)
    have row1 := h.put (a' := a + 1) (b' := b) (c' := c) (by have := h.pos; omega)
    generalize hS1 : S.set 1 (.lst [.ref 0, .int (a + 1), .int b, .int c]) = S1 at b1 row1
    have hr1 := row1.s1
    have hs1 : S1[0]? = some o := by
      rw [← hS1, List.getElem?_set_ne (by decide)]
      exact hs0
    have setset : ∀ u : O, S1.set 1 u = S.set 1 u := fun u => by
      rw [← hS1, List.set_set]
    have t1 : opF (cmpG fun i j => decide (i > j)) (opF ixG (varF 0) (conF (.int 1))) (clF lenG (consF (opF ixG (varF 0) (conF (.int 0))) nilF)) sa S1 = some (.ok (.bl (decide (a + 1 > (ns.length : Int)))) S1) := r_op (ix hr1 rfl rfl) (r_cl (r_cons (ix hr1 rfl rfl) r_nil) (scr_len hs hs1)) rfl
    by_cases hl : a + 1 > (ns.length : Int)
    · rw [decide_eq_true hl] at t1
      have hmul : mulG (.int b) (.int 48271) S1 = some (.int (b * 48271), S1) := by
        show (if (Vai.small64 b || Vai.small64 48271) = true then some (A.int (b * 48271), S1) else none) = _
        rw [show Vai.small64 48271 = true from rfl, Bool.or_true, if_pos rfl]
      have b2 := r_asg (sa := sa) (z := (sa, S1.set 1 (.lst [.ref 0, .int (a + 1), .int ((b * 48271 + 11).fmod 2147483647), .int c]))) (r_op (r_cl (g := intC) (r_cons (r_op (g := addG) (r_op (ix (k := 2) hr1 rfl rfl) (r_con (a := .int 48271)) hmul) (r_con (a := .int 11)) rfl) r_nil) rfl) (r_con (a := .int 2147483647)) (g := modG) rfl) (t_row (k := 2) (j := 2) hr1 rfl rfl)
      have row2 := row1.put (a' := a + 1) (b' := (b * 48271 + 11).fmod 2147483647) (c' := c) row1.pos
      rw [setset] at b2 row2
      have b3 := r_ret (r_op (r_cl (g := intC) (r_cons (r_op (ix (sa := sa) (k := 2) row2.s1 rfl rfl) (r_con (a := .int 7)) (g := fdivG) rfl) r_nil) rfl) (r_var (i := 1) rfl) (md _ _))
      exact ⟨_, a + 1, _, c, (rng _).1, (rng _).2, row1.pos, r_defR (r_seq (sa1 := sa) (r_condF t0 rfl) (r_seq b1 (r_seqR (r_condT t1 (r_seq b2 b3)))))⟩
    · rw [decide_eq_false hl] at t1
      have hlt : a.toNat < ns.length := by
        have := h.pos
        omega
      have hcell : opF ixG (opF ixG (varF 0) (conF (.int 0))) (opF subG (opF ixG (varF 0) (conF (.int 1))) (conF (.int 1))) sa S1 = some (.ok (.int ns[a.toNat]) S1) := by
        refine r_op (ix hr1 rfl rfl) (r_op (ix hr1 rfl rfl) r_con rfl) ?_
        have e : (a + 1 - 1 : Int) = ((a.toNat : Nat) : Int) := by
          have := h.pos
          omega
        show ixG (.ref 0) (.int (a + 1 - 1)) S1 = _
        rw [e]
        exact scr_ix hs hs1 hlt
      generalize ns[a.toNat] = v at hcell
      have b2 := r_asgN (i := 3) hcell
      have hmul : mulG (.int b) (.int 48271) S1 = some (.int (b * 48271), S1) := by
        show (if (Vai.small64 b || Vai.small64 48271) = true then some (A.int (b * 48271), S1) else none) = _
        rw [show Vai.small64 48271 = true from rfl, Bool.or_true, if_pos rfl]
      let sb : Sa := [some (.ref 1), some (.int m), none, some (.int v)]
      have b3 := r_asg (sa := sb) (z := (sb, S1.set 1 (.lst [.ref 0, .int (a + 1), .int ((b * 48271 + v + 11).fmod 2147483647), .int c]))) (r_op (r_cl (g := intC) (r_cons (r_op (g := addG) (r_op (g := addG) (r_op (ix (k := 2) hr1 rfl rfl) (r_con (a := .int 48271)) hmul) (r_var (i := 3) rfl) rfl) (r_con (a := .int 11)) rfl) r_nil) rfl) (r_con (a := .int 2147483647)) (g := modG) rfl) (t_row (k := 2) (j := 2) hr1 rfl rfl)
      have row2 := row1.put (a' := a + 1) (b' := (b * 48271 + v + 11).fmod 2147483647) (c' := c) row1.pos
      rw [setset] at b3 row2
      generalize hS2 : S.set 1 (.lst [.ref 0, .int (a + 1), .int ((b * 48271 + v + 11).fmod 2147483647), .int c]) = S2 at b3 row2
      have t2 : opF (cmpG fun i j => decide (i ≥ j)) (varF 3) (opF powG (conF (.int 10)) (conF (.int 18))) sb S2 = some (.ok (.bl (decide (v ≥ 1000000000000000000))) S2) := r_op (r_var rfl) (r_op (g := powG) r_con r_con rfl) rfl
      have b5 : ∀ S3 : List O, retF (opF modG (clF intC (consF (varF 3) nilF)) (varF 1)) sb S3 = some (.rt (.int (v.fmod m)) S3) := fun S3 => r_ret (r_op (r_cl (g := intC) (r_cons (r_var rfl) r_nil) rfl) (r_var (i := 1) rfl) (md _ _))
      by_cases hv : v ≥ 1000000000000000000
      · rw [decide_eq_true hv] at t2
        have b4 := r_asg (sa := sb) (z := (sb, S2.set 1 (.lst [.ref 0, .int (a + 1), .int ((b * 48271 + v + 11).fmod 2147483647), .int (v.fdiv m)]))) (r_op (r_var (i := 3) rfl) (r_var (i := 1) rfl) (fd _ _)) (t_row (k := 3) (j := 3) row2.s1 rfl rfl)
        rw [← hS2, List.set_set] at b4
        refine ⟨v.fmod m, a + 1, (b * 48271 + v + 11).fmod 2147483647, v.fdiv m, (rng v).1, (rng v).2, row1.pos, r_defR (r_seq (sa1 := sa) (r_condF t0 rfl) (r_seq b1 (r_seq (sa1 := sa) (r_condF t1 rfl) (r_seq b2 (r_seq b3 (r_seq (r_condT t2 ?_) (b5 _)))))))⟩
        rw [← hS2]
        exact b4
      · rw [decide_eq_false hv] at t2
        refine ⟨v.fmod m, a + 1, (b * 48271 + v + 11).fmod 2147483647, c, (rng v).1, (rng v).2, row1.pos, r_defR (r_seq (sa1 := sa) (r_condF t0 rfl) (r_seq b1 (r_seq (sa1 := sa) (r_condF t1 rfl) (r_seq b2 (r_seq b3 (r_seq (sa1 := sb) (r_condF t2 rfl) (by rw [← hS2]; exact b5 _)))))))⟩
end Law
set_option maxRecDepth 100000
set_option maxHeartbeats 2000000
namespace Law
open PySem L2 Vai
theorem e_pick {S : List O} {ns : List Int} {a b c : Int} {l : Nat} {xs : List A} (h : RowAt S ns a b c) (hl : S[l]? = some (.lst xs)) (n1 : l ≠ 1) (h0 : 0 < xs.length) (h1 : xs.length < 1073741824) :
    ∃ (x : A) (a' b' c' : Int), x ∈ xs ∧ 0 ≤ a' ∧ d__law_pick [.ref 1, .ref l] S = some (.ok x (S.set 1 (.lst [.ref 0, .int a', .int b', .int c']))) := by
  obtain ⟨r, a', b', c', r0, r1, ha, e⟩ := e_taken (m := xs.length) h (by omega) (by omega)
  obtain ⟨k, rfl⟩ : ∃ k : Nat, r = (k : Int) := ⟨r.toNat, by omega⟩
  have hr : k < xs.length := by omega
  refine ⟨xs[k], a', b', c', List.getElem_mem hr, ha, r_defR (r_ret (r_op (r_var rfl) (r_call (r_cons (r_var rfl) (r_cons (r_cl (r_cons (r_var rfl) r_nil) (g_lenL hl)) r_nil)) e) ?_))⟩
  exact g_ixL (by rw [List.getElem?_set_ne (Ne.symm n1)]; exact hl) (atI_nat (List.getElem?_eq_getElem hr))
theorem RowAt.up {S S' : List O} {ns : List Int} {a b c : Int} (h : RowAt S ns a b c) (p : S <+: S') : RowAt S' ns a b c := by
  obtain ⟨o, h1, h2⟩ := h.s0
  exact ⟨⟨o, h1, at_up p h2⟩, at_up p h.s1, h.pos⟩
theorem TabAt.up {q : Nat} {S S' : List O} {l n : Nat} {f : Nat → Nat → Int} (h : TabAt q S l n f) (p : S <+: S') : TabAt q S' l n f := by
  obtain ⟨rs, h1, h2, h3, h4, h5⟩ := h
  exact ⟨rs, h1, h2, h3, at_up p h4, fun y r e => at_up p (h5 y r e)⟩
/-- the drawn row, and a table being made -/
structure LW (S : List O) (ns : List Int) (l n : Nat) (f : Nat → Nat → Int) : Prop where
  row : ∃ a b c, RowAt S ns a b c
  tab : TabAt 2 S l n f
  l2 : 2 ≤ l
theorem LW.app {S S' : List O} {ns : List Int} {l n : Nat} {f : Nat → Nat → Int} (h : LW S ns l n f) (p : S <+: S') : LW S' ns l n f := by
  obtain ⟨a, b, c, hr⟩ := h.row
  exact ⟨⟨a, b, c, hr.up p⟩, h.tab.up p, h.l2⟩
theorem LW.put {S : List O} {ns : List Int} {l n : Nat} {f : Nat → Nat → Int} {a b c : Int} (h : LW S ns l n f) (ha : 0 ≤ a) : LW (S.set 1 (.lst [.ref 0, .int a, .int b, .int c])) ns l n f := by
  obtain ⟨_, _, _, hr⟩ := h.row
  obtain ⟨rs, h1, h2, h3, h4, h5⟩ := h.tab
  refine ⟨⟨a, b, c, hr.put ha⟩, ⟨rs, h1, h2, h3, ?_, fun y r e => ?_⟩, h.l2⟩
  · rw [List.getElem?_set_ne (by have := h.l2; omega)]
    exact h4
  · have := h3.2 r (List.mem_of_getElem? e)
    rw [List.getElem?_set_ne (by omega)]
    exact h5 y r e
theorem LW.two {S : List O} {ns : List Int} {l n : Nat} {f : Nat → Nat → Int} (h : LW S ns l n f) : 2 ≤ S.length := by
  obtain ⟨_, _, _, hr⟩ := h.row
  have := (List.getElem?_eq_some_iff.mp hr.s1).1
  omega
section
variable {S : List O} {ns : List Int} {l n : Nat} {f : Nat → Nat → Int} {sa : Sa}
theorem lw_taken {fa : F} {m : Int} (h : LW S ns l n f) (h0 : sa[0]? = some (some (.ref 1))) (hm : fa sa S = some (.ok (.int m) S)) (m0 : 0 < m) (m1 : m < 1073741824) :
    ∃ (r : Int) (S' : List O), 0 ≤ r ∧ r < m ∧ LW S' ns l n f ∧ callF d__law_taken (consF (varF 0) (consF fa nilF)) sa S = some (.ok (.int r) S') := by
  obtain ⟨a, b, c, hr⟩ := h.row
  obtain ⟨r, a', b', c', r0, r1, ha, e⟩ := e_taken hr m0 m1
  exact ⟨r, _, r0, r1, h.put ha, r_call (r_cons (r_var h0) (r_cons hm r_nil)) e⟩
/-- a pick of ints -/
theorem lw_pick {fl : FL} {xs : List A} (h : LW S ns l n f) (h0 : sa[0]? = some (some (.ref 1))) (hx : fl sa S = some (.ok xs S)) (x0 : 0 < xs.length) (x1 : xs.length ≤ 1000) :
    ∃ (x : A) (S' : List O), x ∈ xs ∧ LW S' ns l n f ∧ callF d__law_pick (consF (varF 0) (consF (newF O.lst fl) nilF)) sa S = some (.ok x S') := by
  have h' := h.app (pfa S [O.lst xs])
  obtain ⟨a, b, c, hr⟩ := h'.row
  obtain ⟨x, a', b', c', hm, ha, e⟩ := e_pick (l := S.length) (xs := xs) hr at_new (by have := h.two; omega) x0 (by omega)
  exact ⟨x, _, hm, h'.put ha, r_call (r_cons (r_var h0) (r_cons (r_new hx (by omega)) r_nil)) e⟩
theorem LW.set {S' : List O} {g : Nat → Nat → Int} {r : Nat} {o' : O} (h : LW S ns l n f) (ht : TabAt 2 S' l n g) (e : S' = S.set r o') (hr : 2 ≤ r) : LW S' ns l n g := by
  obtain ⟨a, b, c, hrow⟩ := h.row
  obtain ⟨u, h1, h2⟩ := hrow.s0
  refine ⟨⟨a, b, c, ⟨⟨u, h1, ?_⟩, ?_, hrow.pos⟩⟩, ht, h.l2⟩
  · rw [e, List.getElem?_set_ne (by omega)]
    exact h2
  · rw [e, List.getElem?_set_ne (by omega)]
    exact hrow.s1
end
def put2 (f : Nat → Nat → Int) (y z : Nat) (v : Int) : Nat → Nat → Int := setF (setF f y z v) z y (0 - v)
/-- table[y][z], table[z][y] = many, 0 - many -/
abbrev storeW : FS := asgF (newF O.tup (consF (varF 9) (consF (opF subG (conF (.int 0)) (varF 9)) nilF))) (tupT 2 (consT (subT (opF ixG (varF 5) (varF 8)) (varF 7)) (consT (subT (opF ixG (varF 5) (varF 7)) (varF 8)) nilT)))
theorem e_storeW {S : List O} {ns : List Int} {l n y z : Nat} {f : Nat → Nat → Int} {sa : Sa} {v : Int} (h : LW S ns l n f) (hy : y < n) (hz : z < n) (h5 : sa[5]? = some (some (.ref l))) (h8 : sa[8]? = some (some (.int y))) (h7 : sa[7]? = some (some (.int z))) (h9 : sa[9]? = some (some (.int v))) :
    ∃ S', storeW sa S = some (.nx sa S') ∧ LW S' ns l n (put2 f y z v) := by
  have h' := h.app (pfa S [O.tup [.int v, .int (0 - v)]])
  obtain ⟨S1, a1, a2, r1, o1, o1', e1, b1, _⟩ := t_put (v := v) (sa := sa) (i := 5) (j := 8) (k := 7) h'.tab hy hz h5 h8 h7
  have w1 := h'.set a2 e1 b1
  obtain ⟨S2, a3, a4, r2, o2, o2', e2, b2, _⟩ := t_put (v := 0 - v) (sa := sa) (i := 5) (j := 7) (k := 8) w1.tab hz hy h5 h7 h8
  have w2 := w1.set a4 e2 b2
  refine ⟨S2, r_asg (z := (sa, S2)) (r_new (r_cons (r_var h9) (r_cons (r_op r_con (r_var h9) rfl) r_nil)) (by show 2 ≤ 1000000; decide)) ?_, w2⟩
  simp only [tupT]
  rw [at_new]
  simp only [consT, List.length_cons, List.length_nil, nilT, if_true]
  rw [a1]
  simp only
  rw [a3]
theorem put2_anti {n y z : Nat} {f : Nat → Nat → Int} {v : Int} (h : Anti n f) (hyz : y ≠ z) : Anti n (put2 f y z v) := by
  intro a b ha hb
  unfold put2 setF
  have := h a b ha hb
  by_cases h1 : a = z ∧ b = y
  · obtain ⟨rfl, rfl⟩ := h1
    rw [if_pos ⟨rfl, rfl⟩, if_neg (by omega), if_pos ⟨rfl, rfl⟩]
    omega
  · rw [if_neg h1]
    by_cases h2 : a = y ∧ b = z
    · obtain ⟨rfl, rfl⟩ := h2
      rw [if_pos ⟨rfl, rfl⟩, if_pos ⟨rfl, rfl⟩]
      omega
    · rw [if_neg h2, if_neg (by omega), if_neg (by omega)]
      exact this
def Two (n : Nat) (f : Nat → Nat → Int) : Prop := ∀ y z, y < n → z < n → -2 ≤ f y z ∧ f y z ≤ 2
theorem put2_two {n y z : Nat} {f : Nat → Nat → Int} {v : Int} (h : Two n f) (hv : -2 ≤ v ∧ v ≤ 2) : Two n (put2 f y z v) := by
  intro a b ha hb
  unfold put2 setF
  have := h a b ha hb
  by_cases h1 : a = z ∧ b = y
  · rw [if_pos h1]
    omega
  · rw [if_neg h1]
    by_cases h2 : a = y ∧ b = z
    · rw [if_pos h2]
      omega
    · rw [if_neg h2]
      exact this
end Law
set_option maxRecDepth 100000
set_option maxHeartbeats 2000000
namespace Law
open PySem L2 Vai
abbrev eqF (a b : F) : F := opF (eqG false) a b
abbrev drawA : FS := asgF (opF mulG (callF d__law_pick (consF (varF 0) (consF (newF O.lst (consF (conF (.int 0)) (consF (conF (.int 0)) (consF (conF (.int 1)) (consF (opF subG (conF (.int 0)) (conF (.int 1))) nilF))))) nilF))) (opF addG (conF (.int 1)) (callF d__law_taken (consF (varF 0) (consF (varF 2) nilF))))) (nameT 9)
abbrev nextF : F := clF intC (consF (eqF (varF 8) (opF subG (varF 7) (conF (.int 1)))) nilF)
abbrev drawB : FS := asgF (opF mulG (callF d__law_pick (consF (varF 0) (consF (newF O.lst (consF (conF (.int 1)) (consF (opF subG (conF (.int 0)) (conF (.int 1))) nilF))) nilF))) nextF) (nameT 9)
abbrev drawC : FS := asgF (opF subG nextF (clF intC (consF (andF (eqF (varF 8) (conF (.int 0))) (andF (eqF (varF 7) (opF subG (varF 3) (conF (.int 1)))) (opF (cmpG fun i j => decide (i > j)) (varF 3) (conF (.int 2))))) nilF))) (nameT 9)
abbrev drawS : FS := condF (opF (cmpG fun i j => decide (i < j)) (varF 4) (conF (.int 2))) drawA (condF (eqF (varF 4) (conF (.int 2))) drawB (condF (eqF (varF 4) (conF (.int 3))) drawC endF))
abbrev saW (mo way : Int) (n l : Nat) (u6 : Option A) (z y : Nat) (v : Int) (u10 : Option A) : Sa := [some (.ref 1), some (.int mo), some (.int 2), some (.int n), some (.int way), some (.ref l), u6, some (.int z), some (.int y), some (.int v), u10]
theorem next_val {mo way : Int} {n l z y : Nat} {u6 u10 : Option A} {v : Int} {S : List O} : ∃ k : Int, 0 ≤ k ∧ k ≤ 1 ∧ nextF (saW mo way n l u6 z y v u10) S = some (.ok (.int k) S) := by
  have h : eqF (varF 8) (opF subG (varF 7) (conF (.int 1))) (saW mo way n l u6 z y v u10) S = some (.ok (.bl (decide ((y : Int) = (z : Int) - 1))) S) := r_op (r_var rfl) (r_op (r_var rfl) r_con rfl) g_eqI
  refine ⟨if decide ((y : Int) = (z : Int) - 1) then 1 else 0, ?_, ?_, r_cl (r_cons h r_nil) rfl⟩
  · split <;> omega
  · split <;> omega
theorem e_draw {S : List O} {ns : List Int} {n l z y : Nat} {f : Nat → Nat → Int} {mo way : Int} {u6 u10 : Option A} (h : LW S ns l n f) :
    ∃ (v : Int) (S' : List O), (-2 ≤ v ∧ v ≤ 2) ∧ LW S' ns l n f ∧ drawS (saW mo way n l u6 z y 0 u10) S = some (.nx (saW mo way n l u6 z y v u10) S') := by
  have t1 : opF (cmpG fun i j => decide (i < j)) (varF 4) (conF (.int 2)) (saW mo way n l u6 z y 0 u10) S = some (.ok (.bl (decide (way < 2))) S) := r_op (r_var rfl) r_con rfl
  have t2 : eqF (varF 4) (conF (.int 2)) (saW mo way n l u6 z y 0 u10) S = some (.ok (.bl (decide (way = 2))) S) := r_op (r_var rfl) r_con g_eqI
  have t3 : eqF (varF 4) (conF (.int 3)) (saW mo way n l u6 z y 0 u10) S = some (.ok (.bl (decide (way = 3))) S) := r_op (r_var rfl) r_con g_eqI
  by_cases h1 : way < 2
  · rw [decide_eq_true h1] at t1
    obtain ⟨x, S1, hx, w1, e1⟩ := lw_pick (sa := saW mo way n l u6 z y 0 u10) (xs := [.int 0, .int 0, .int 1, .int (0 - 1)]) h rfl (r_cons r_con (r_cons r_con (r_cons r_con (r_cons (r_op (g := subG) (a := .int 0) (b := .int 1) r_con r_con rfl) r_nil)))) (by decide) (by decide)
    obtain ⟨k, rfl, hk⟩ : ∃ k : Int, x = .int k ∧ -1 ≤ k ∧ k ≤ 1 := by
      simp only [List.mem_cons, List.not_mem_nil, or_false] at hx
      rcases hx with rfl | rfl | rfl | rfl
      · exact ⟨0, rfl, by omega⟩
      · exact ⟨0, rfl, by omega⟩
      · exact ⟨1, rfl, by omega⟩
      · exact ⟨0 - 1, rfl, by omega⟩
    obtain ⟨r, S2, r0, r1, w2, e2⟩ := lw_taken (sa := saW mo way n l u6 z y 0 u10) (fa := varF 2) (m := 2) w1 rfl (r_var rfl) (by decide) (by decide)
    refine ⟨k * (1 + r), S2, ?_, w2, r_condT t1 (r_asgN (i := 9) (r_op e1 (r_op r_con e2 rfl) (g_mul (by omega) (by omega))))⟩
    have : r = 0 ∨ r = 1 := by omega
    rcases this with rfl | rfl <;> omega
  · rw [decide_eq_false h1] at t1
    by_cases h2 : way = 2
    · rw [decide_eq_true h2] at t2
      obtain ⟨x, S1, hx, w1, e1⟩ := lw_pick (sa := saW mo way n l u6 z y 0 u10) (xs := [.int 1, .int (0 - 1)]) h rfl (r_cons r_con (r_cons (r_op (g := subG) (a := .int 0) (b := .int 1) r_con r_con rfl) r_nil)) (by decide) (by decide)
      obtain ⟨k, rfl, hk⟩ : ∃ k : Int, x = .int k ∧ -1 ≤ k ∧ k ≤ 1 := by
        simp only [List.mem_cons, List.not_mem_nil, or_false] at hx
        rcases hx with rfl | rfl
        · exact ⟨1, rfl, by omega⟩
        · exact ⟨0 - 1, rfl, by omega⟩
      obtain ⟨j, j0, j1, e2⟩ := next_val (mo := mo) (way := way) (n := n) (l := l) (z := z) (y := y) (u6 := u6) (u10 := u10) (v := 0) (S := S1)
      refine ⟨k * j, S1, ?_, w1, r_condF t1 (r_condT t2 (r_asgN (i := 9) (r_op e1 e2 (g_mul (by omega) (by omega)))))⟩
      have : j = 0 ∨ j = 1 := by omega
      rcases this with rfl | rfl <;> omega
    · rw [decide_eq_false h2] at t2
      by_cases h3 : way = 3
      · rw [decide_eq_true h3] at t3
        obtain ⟨j, j0, j1, e2⟩ := next_val (mo := mo) (way := way) (n := n) (l := l) (z := z) (y := y) (u6 := u6) (u10 := u10) (v := 0) (S := S)
        have e3 : andF (eqF (varF 8) (conF (.int 0))) (andF (eqF (varF 7) (opF subG (varF 3) (conF (.int 1)))) (opF (cmpG fun i j => decide (i > j)) (varF 3) (conF (.int 2)))) (saW mo way n l u6 z y 0 u10) S = some (.ok (.bl (decide ((y : Int) = 0) && (decide ((z : Int) = (n : Int) - 1) && decide ((n : Int) > 2)))) S) :=
          r_and (r_op (r_var rfl) r_con g_eqI) fun _ => r_and (r_op (r_var rfl) (r_op (r_var rfl) r_con rfl) g_eqI) fun _ => r_op (r_var rfl) r_con rfl
        generalize (decide ((y : Int) = 0) && (decide ((z : Int) = (n : Int) - 1) && decide ((n : Int) > 2))) = b at e3
        refine ⟨j - (if b then 1 else 0), S, ?_, h, r_condF t1 (r_condF t2 (r_condT t3 (r_asgN (i := 9) (r_op e2 (r_cl (g := intC) (r_cons e3 r_nil) rfl) rfl))))⟩
        cases b <;> simp <;> omega
      · rw [decide_eq_false h3] at t3
        exact ⟨0, S, by omega, h, r_condF t1 (r_condF t2 (r_condF t3 rfl))⟩
abbrev saX (mo way : Int) (n l : Nat) (u6 u7 u8 u9 u10 : Option A) : Sa := [some (.ref 1), some (.int mo), some (.int 2), some (.int n), some (.int way), some (.ref l), u6, u7, u8, u9, u10]
abbrev innerS : FS := seqF (asgF (conF (.int 0)) (nameT 9)) (seqF drawS storeW)
theorem inner_go {ns : List Int} {n l z : Nat} {mo way : Int} {u6 u10 : Option A} (hz : z < n) : ∀ (m j : Nat) (u8 u9 : Option A) (S : List O) (f : Nat → Nat → Int), m + j = z + 1 → j ≤ z → LW S ns l n f → Anti n f → Two n f →
    ∃ (u8' u9' : Option A) (S' : List O) (f' : Nat → Nat → Int), LW S' ns l n f' ∧ Anti n f' ∧ Two n f' ∧ forGo (.rg 0 z) (nameT 8) innerS m j (saX mo way n l u6 (some (.int z)) u8 u9 u10) S = some (.nx (saX mo way n l u6 (some (.int z)) u8' u9' u10) S')
  | 0, j, u8, u9, S, f, e, e0, h, ha, ht => by omega
  | m + 1, j, u8, u9, S, f, e, e0, h, ha, ht => by
    by_cases hj : j < z
    · have it : itemAt (.rg 0 z) j S = some (some (.int (j : Nat))) := by
        simp only [itemAt]
        rw [if_pos hj, Int.zero_add]
      obtain ⟨v, S1, hv, w1, e1⟩ := e_draw (mo := mo) (way := way) (u6 := u6) (u10 := u10) (z := z) (y := j) h
      obtain ⟨S2, e2, w2⟩ := e_storeW (sa := saW mo way n l u6 z j v u10) (y := j) (z := z) (v := v) w1 (by omega) hz rfl rfl rfl rfl
      obtain ⟨v8, v9, S3, f3, q1, q2, q3, q4⟩ := inner_go hz m (j + 1) (some (.int (j : Nat))) (some (.int v)) S2 (put2 f j z v) (by omega) (by omega) w2 (put2_anti ha (by omega)) (put2_two ht hv)
      refine ⟨v8, v9, S3, f3, q1, q2, q3, ?_⟩
      have body : innerS ((saX mo way n l u6 (some (.int z)) u8 u9 u10).set 8 (some (.int (j : Nat)))) S = some (.nx (saW mo way n l u6 z j v u10) S2) := r_seq (r_asgN (i := 9) (r_con (a := .int 0))) (r_seq e1 e2)
      rw [forGo]
      simp only [it, nameT, body]
      exact q4
    · have it : itemAt (.rg 0 z) j S = some none := by
        simp only [itemAt]
        rw [if_neg hj]
      refine ⟨u8, u9, S, f, h, ha, ht, ?_⟩
      rw [forGo]
      simp only [it]
end Law
set_option maxRecDepth 100000
set_option maxHeartbeats 2000000
namespace Law
open PySem L2 Vai
abbrev outerS : FS := forF (rg1I (consF (varF 7) nilF)) (nameT 8) innerS
theorem rg_n {i n : Nat} {sa : Sa} {S : List O} (h : sa[i]? = some (some (.int (n : Int)))) (hn : n ≤ 1000) : rg1I (consF (varF i) nilF) sa S = some (.ok (.rg 0 n) S) := by
  have := r_rg1 (sa := sa) (S := S) (S1 := S) (fl := consF (varF i) nilF) (j := (n : Int)) (r_cons (r_var h) r_nil) (by unfold inBd; simp; omega)
  simpa using this
theorem outer_go {ns : List Int} {n l : Nat} {mo way : Int} {u6 u10 : Option A} (hn : n ≤ 1000) : ∀ (m j : Nat) (u7 u8 u9 : Option A) (S : List O) (f : Nat → Nat → Int), m + j = n - 1 + 1 → j ≤ n - 1 → LW S ns l n f → Anti n f → Two n f →
    ∃ (u7' u8' u9' : Option A) (S' : List O) (f' : Nat → Nat → Int), LW S' ns l n f' ∧ Anti n f' ∧ Two n f' ∧ forGo (.rg 1 (n - 1)) (nameT 7) outerS m j (saX mo way n l u6 u7 u8 u9 u10) S = some (.nx (saX mo way n l u6 u7' u8' u9' u10) S') := by
  intro m
  induction m with
  | zero =>
    intro j u7 u8 u9 S f e e0 h ha ht
    omega
  | succ m ih =>
    intro j u7 u8 u9 S f e e0 h ha ht
    by_cases hj : j < n - 1
    · obtain ⟨z, hz⟩ : ∃ z : Nat, z = 1 + j := ⟨_, rfl⟩
      have it : itemAt (.rg 1 (n - 1)) j S = some (some (.int (z : Int))) := by
        simp only [itemAt]
        rw [if_pos hj, hz]
        simp
      obtain ⟨v8, v9, S1, f1, q1, q2, q3, q4⟩ := inner_go (mo := mo) (way := way) (u6 := u6) (u10 := u10) (z := z) (n := n) (by omega) (z + 1) 0 u8 u9 S f (by omega) (by omega) h ha ht
      obtain ⟨w7, w8, w9, S2, f2, p1, p2, p3, p4⟩ := ih (j + 1) (some (.int (z : Int))) v8 v9 S1 f1 (by omega) (by omega) q1 q2 q3
      refine ⟨w7, w8, w9, S2, f2, p1, p2, p3, ?_⟩
      have body : outerS ((saX mo way n l u6 u7 u8 u9 u10).set 7 (some (.int (z : Int)))) S = some (.nx (saX mo way n l u6 (some (.int (z : Int))) v8 v9 u10) S1) := by
        have hi : rg1I (consF (varF 7) nilF) ((saX mo way n l u6 u7 u8 u9 u10).set 7 (some (.int (z : Int)))) S = some (.ok (.rg 0 z) S) := rg_n rfl (by omega)
        exact forF_ok hi rfl q4
      exact (forGo_step (T := nameT 7) it rfl body).trans p4
    · have it : itemAt (.rg 1 (n - 1)) j S = some none := by
        simp only [itemAt]
        rw [if_neg hj]
      refine ⟨u7, u8, u9, S, f, h, ha, ht, ?_⟩
      exact forGo_stop it
end Law
set_option maxRecDepth 100000
set_option maxHeartbeats 2000000
namespace Law
open PySem L2 Vai
abbrev treeS : FS := seqF (parF 8 9 (consF (callF d__law_taken (consF (varF 0) (consF (varF 7) nilF))) (consF (callF d__law_pick (consF (varF 0) (consF (newF O.lst (consF (conF (.int 1)) (consF (opF subG (conF (.int 0)) (conF (.int 1))) nilF))) nilF))) nilF))) storeW
theorem tree_go {ns : List Int} {n l : Nat} {mo way : Int} {u6 u10 : Option A} (hn : n ≤ 1000) : ∀ (m j : Nat) (u7 u8 u9 : Option A) (S : List O) (f : Nat → Nat → Int), m + j = n - 1 + 1 → j ≤ n - 1 → LW S ns l n f → Anti n f → Two n f →
    ∃ (u7' u8' u9' : Option A) (S' : List O) (f' : Nat → Nat → Int), LW S' ns l n f' ∧ Anti n f' ∧ Two n f' ∧ forGo (.rg 1 (n - 1)) (nameT 7) treeS m j (saX mo way n l u6 u7 u8 u9 u10) S = some (.nx (saX mo way n l u6 u7' u8' u9' u10) S') := by
  intro m
  induction m with
  | zero =>
    intro j u7 u8 u9 S f e e0 h ha ht
    omega
  | succ m ih =>
    intro j u7 u8 u9 S f e e0 h ha ht
    by_cases hj : j < n - 1
    · obtain ⟨z, hz⟩ : ∃ z : Nat, z = 1 + j := ⟨_, rfl⟩
      have it : itemAt (.rg 1 (n - 1)) j S = some (some (.int (z : Int))) := by
        simp only [itemAt]
        rw [if_pos hj, hz]
        simp
      let sa : Sa := saX mo way n l u6 (some (.int (z : Int))) u8 u9 u10
      obtain ⟨r, S1, r0, r1, w1, e1⟩ := lw_taken (sa := sa) (fa := varF 7) (m := (z : Int)) h rfl (r_var rfl) (by omega) (by omega)
      obtain ⟨y, rfl⟩ : ∃ y : Nat, r = (y : Int) := ⟨r.toNat, by omega⟩
      obtain ⟨x, S2, hx, w2, e2⟩ := lw_pick (sa := sa) (xs := [.int 1, .int (0 - 1)]) w1 rfl (r_cons r_con (r_cons (r_op (g := subG) (a := .int 0) (b := .int 1) r_con r_con rfl) r_nil)) (by decide) (by decide)
      obtain ⟨k, rfl, hk⟩ : ∃ k : Int, x = .int k ∧ -2 ≤ k ∧ k ≤ 2 := by
        simp only [List.mem_cons, List.not_mem_nil, or_false] at hx
        rcases hx with rfl | rfl
        · exact ⟨1, rfl, by omega⟩
        · exact ⟨0 - 1, rfl, by omega⟩
      have par : parF 8 9 (consF (callF d__law_taken (consF (varF 0) (consF (varF 7) nilF))) (consF (callF d__law_pick (consF (varF 0) (consF (newF O.lst (consF (conF (.int 1)) (consF (opF subG (conF (.int 0)) (conF (.int 1))) nilF))) nilF))) nilF)) sa S = some (.nx (saW mo way n l u6 z y k u10) S2) := by
        unfold parF
        rw [r_cons e1 (r_cons e2 r_nil)]
        rfl
      obtain ⟨S3, e3, w3⟩ := e_storeW (sa := saW mo way n l u6 z y k u10) (y := y) (z := z) (v := k) w2 (by omega) (by omega) rfl rfl rfl rfl
      obtain ⟨w7, w8, w9, S4, f2, p1, p2, p3, p4⟩ := ih (j + 1) (some (.int (z : Int))) (some (.int (y : Nat))) (some (.int k)) S3 (put2 f y z k) (by omega) (by omega) w3 (put2_anti ha (by omega)) (put2_two ht hk)
      refine ⟨w7, w8, w9, S4, f2, p1, p2, p3, ?_⟩
      have body : treeS ((saX mo way n l u6 u7 u8 u9 u10).set 7 (some (.int (z : Int)))) S = some (.nx (saW mo way n l u6 z y k u10) S3) := r_seq par e3
      exact (forGo_step (T := nameT 7) it rfl body).trans p4
    · have it : itemAt (.rg 1 (n - 1)) j S = some none := by
        simp only [itemAt]
        rw [if_neg hj]
      refine ⟨u7, u8, u9, S, f, h, ha, ht, ?_⟩
      exact forGo_stop it
end Law
set_option maxRecDepth 100000
set_option maxHeartbeats 2000000
namespace Law
open PySem L2 Vai
/-- the web drawn -/
structure LawS (S : List O) (ns : List Int) (l n : Nat) (f : Nat → Nat → Int) : Prop where
  row : ∃ a b c, RowAt S ns a b c
  web : WebAt S l n f
theorem e_law_web {S : List O} {ns : List Int} (h : ∃ a b c, RowAt S ns a b c) :
    ∃ (l n : Nat) (f : Nat → Nat → Int) (S' : List O), 1 ≤ n ∧ n ≤ 5 ∧ Anti n f ∧ Two n f ∧ (∃ a b c, RowAt S' ns a b c) ∧ WebAt S' l n f ∧ d__law_web [.ref 1, .int 5, .int 2] S = some (.ok (.ref l) S') := by
  obtain ⟨a, b, c, hr⟩ := h
  have two : ∀ {S : List O} {a b c : Int}, RowAt S ns a b c → 2 ≤ S.length := fun h => by
    have := (List.getElem?_eq_some_iff.mp h.s1).1
    omega
  let sa0 : Sa := [some (.ref 1), some (.int 5), some (.int 2), none, none, none, none, none, none, none, none]
  obtain ⟨r1, a1, b1, c1, g0, g1, g2, e1⟩ := e_taken (m := 5) hr (by decide) (by decide)
  have row1 := hr.put (b' := b1) (c' := c1) g2
  generalize hS1 : S.set 1 (.lst [.ref 0, .int a1, .int b1, .int c1]) = S1 at e1 row1
  obtain ⟨r2, a2, b2, c2, k0, k1, k2, e2⟩ := e_taken (m := 5) row1 (by decide) (by decide)
  have row2 := row1.put (b' := b2) (c' := c2) k2
  generalize hS2 : S1.set 1 (.lst [.ref 0, .int a2, .int b2, .int c2]) = S2 at e2 row2
  obtain ⟨n, hn⟩ : ∃ n : Nat, 1 + r1 = (n : Int) := ⟨(1 + r1).toNat, by omega⟩
  have hn1 : 1 ≤ n := by omega
  have hn5 : n ≤ 5 := by omega
  have st0 : asgF (newF O.tup (consF (opF addG (conF (.int 1)) (callF d__law_taken (consF (varF 0) (consF (varF 1) nilF)))) (consF (callF d__law_taken (consF (varF 0) (consF (conF (.int 5)) nilF))) nilF))) (tupT 2 (consT (nameT 3) (consT (nameT 4) nilT))) sa0 S = some (.nx [some (.ref 1), some (.int 5), some (.int 2), some (.int n), some (.int r2), none, none, none, none, none, none] (S2 ++ [.tup [.int n, .int r2]])) := by
    have q := r_new (mk := O.tup) (r_cons (r_op (g := addG) (sa := sa0) (r_con (a := .int 1)) (r_call (r_cons (fa := varF 0) (r_var rfl) (r_cons (fa := varF 1) (r_var rfl) r_nil)) e1) rfl) (r_cons (r_call (r_cons (fa := varF 0) (r_var rfl) (r_cons (r_con (a := .int 5)) r_nil)) e2) r_nil)) (by show 2 ≤ 1000000; decide)
    rw [hn] at q
    refine r_asg (z := (_, _)) q ?_
    simp only [tupT]
    rw [at_new]
    rfl
  have row3 := row2.up (pfa S2 [O.tup [.int n, .int r2]])
  generalize hS3 : S2 ++ [O.tup [.int n, .int r2]] = S3 at st0 row3
  let sa1 : Sa := [some (.ref 1), some (.int 5), some (.int 2), some (.int n), some (.int r2), none, none, none, none, none, none]
  obtain ⟨S4, z1, z2, z3⟩ := e_zeros (S := S3) (n := n) (i := 3) (k := 6) (sa := sa1) (by omega) rfl (by show 6 < 11; decide) (by decide)
  have tab4 : TabAt 2 S4 S3.length n (fun _ _ => 0) := by
    obtain ⟨rs, t1, t2, t3, t4, t5⟩ := z2
    exact ⟨rs, t1, t2, ⟨t3.1, fun r hr => Nat.le_trans (two row3) (t3.2 r hr)⟩, t4, t5⟩
  have lw4 : LW S4 ns S3.length n (fun _ _ => 0) := ⟨⟨_, _, _, row3.up z1⟩, tab4, two row3⟩
  have anti0 : Anti n (fun _ _ => 0) := fun _ _ _ _ => rfl
  have two0 : Two n (fun _ _ => 0) := fun _ _ _ _ => ⟨by show (-2 : Int) ≤ 0; decide, by show (0 : Int) ≤ 2; decide⟩
  have rng : ∀ (u7 u8 u9 : Option A) (S : List O), rg2I (consF (conF (.int 1)) (consF (varF 3) nilF)) (saX 5 r2 n S3.length none u7 u8 u9 none) S = some (.ok (.rg 1 (n - 1)) S) := fun u7 u8 u9 S => by
    have := r_rg2 (sa := saX 5 r2 n S3.length none u7 u8 u9 none) (S := S) (S1 := S) (fl := consF (conF (.int 1)) (consF (varF 3) nilF)) (i := 1) (j := (n : Int)) (r_cons r_con (r_cons (r_var rfl) r_nil)) (by decide) (by unfold inBd; simp; omega)
    rw [this, show ((n : Int) - 1).toNat = n - 1 from by omega]
  obtain ⟨w7, w8, w9, S5, f5, p1, p2, p3, p4⟩ := outer_go (mo := 5) (way := r2) (u6 := none) (u10 := none) (n := n) (l := S3.length) (by omega) (n - 1 + 1) 0 none none none S4 _ (by omega) (by omega) lw4 anti0 two0
  have st2 : forF (rg2I (consF (conF (.int 1)) (consF (varF 3) nilF))) (nameT 7) outerS (saX 5 r2 n S3.length none none none none none) S4 = some (.nx (saX 5 r2 n S3.length none w7 w8 w9 none) S5) := by
    exact forF_ok (rng _ _ _ _) rfl p4
  have t4 : eqF (varF 4) (conF (.int 4)) (saX 5 r2 n S3.length none w7 w8 w9 none) S5 = some (.ok (.bl (decide (r2 = 4))) S5) := r_op (r_var rfl) r_con g_eqI
  have tail : ∃ (v7 v8 v9 : Option A) (S6 : List O) (f6 : Nat → Nat → Int), LW S6 ns S3.length n f6 ∧ Anti n f6 ∧ Two n f6 ∧ condF (eqF (varF 4) (conF (.int 4))) (forF (rg2I (consF (conF (.int 1)) (consF (varF 3) nilF))) (nameT 7) treeS) endF (saX 5 r2 n S3.length none w7 w8 w9 none) S5 = some (.nx (saX 5 r2 n S3.length none v7 v8 v9 none) S6) := by
    by_cases h4 : r2 = 4
    · rw [decide_eq_true h4] at t4
      obtain ⟨v7, v8, v9, S6, f6, q1, q2, q3, q4⟩ := tree_go (mo := 5) (way := r2) (u6 := none) (u10 := none) (n := n) (l := S3.length) (by omega) (n - 1 + 1) 0 w7 w8 w9 S5 f5 (by omega) (by omega) p1 p2 p3
      refine ⟨v7, v8, v9, S6, f6, q1, q2, q3, r_condT t4 ?_⟩
      exact forF_ok (rng _ _ _ _) rfl q4
    · rw [decide_eq_false h4] at t4
      exact ⟨w7, w8, w9, S5, f5, p1, p2, p3, r_condF t4 rfl⟩
  obtain ⟨v7, v8, v9, S6, f6, q1, q2, q3, st3⟩ := tail
  obtain ⟨l', S7, x1, x2, x3, x4⟩ := e_frozen (i := 5) (k := 10) (sa := saX 5 r2 n S3.length none v7 v8 v9 none) q1.tab (by omega) rfl (by show 10 < 11; decide)
  obtain ⟨a6, b6, c6, row6⟩ := q1.row
  exact ⟨l', n, f6, S7, hn1, hn5, q2, q3, ⟨_, _, _, row6.up x1⟩, x3, r_defR (r_seq st0 (r_seq (r_asgN (i := 5) z3) (r_seq st2 (r_seq st3 (r_ret x4)))))⟩
end Law
set_option maxRecDepth 100000
set_option maxHeartbeats 2000000
namespace Law
open PySem L2 Vai
/-! what is offered -/
abbrev Up := But 1
/-- f makes something of which P holds -/
def Gd (P : List O → A → Prop) (f : F) (sa : Sa) (S0 : List O) : Prop := ∀ S, S0 <+: S → ∃ (a : A) (S' : List O), f sa S = some (.ok a S') ∧ S <+: S' ∧ P S' a
def GdL (P : List O → A → Prop) (fl : FL) (sa : Sa) (S0 : List O) (n : Nat) : Prop := ∀ S, S0 <+: S → ∃ (as : List A) (S' : List O), fl sa S = some (.ok as S') ∧ S <+: S' ∧ as.length = n ∧ ∀ a ∈ as, P S' a
def Stays (P : List O → A → Prop) : Prop := ∀ S S' a, S <+: S' → P S a → P S' a
theorem gd_nil {P : List O → A → Prop} {sa : Sa} {S0 : List O} : GdL P nilF sa S0 0 := fun S p => ⟨[], S, rfl, pf0 S, rfl, fun a h => by cases h⟩
theorem gd_cons {P : List O → A → Prop} (hP : Stays P) {fa : F} {fl : FL} {sa : Sa} {S0 : List O} {n : Nat} (h : Gd P fa sa S0) (k : GdL P fl sa S0 n) : GdL P (consF fa fl) sa S0 (n + 1) := fun S p => by
  obtain ⟨a, S1, e1, p1, q1⟩ := h S p
  obtain ⟨as, S2, e2, p2, hn, q2⟩ := k S1 (pft p p1)
  refine ⟨a :: as, S2, r_cons e1 e2, pft p1 p2, by simp [hn], fun b hb => ?_⟩
  rcases List.mem_cons.mp hb with rfl | hb
  · exact hP _ _ _ p2 q1
  · exact q2 b hb
theorem up_at {S S' : List O} {l : Nat} {o : O} (u : Up S S') (h : S[l]? = some o) (n : l ≠ 1) : S'[l]? = some o := u.2 l o n h
def BadV (S : List O) (a : A) : Prop := ∀ S', Up S S' → d_is_web [a] S' = some (.ok (.bl false) S')
theorem badV_stays : Stays BadV := fun S S' a p h S2 u => h S2 ((But.of p).trans u)
/-- flat values -/
theorem bad_flat {S : List O} {a : A} (h : flatA a = true) (hn : ∀ n, a ≠ .ty n) : BadV S a := fun S' u => by
  refine e_web_A ?_ ?_
  · cases a with
    | ref l => cases h
    | ty n => exact absurd rfl (hn n)
    | _ => exact ⟨_, rfl⟩
  · cases a with
    | ref l => cases h
    | _ => rfl
theorem gd_con {P : List O → A → Prop} {a : A} {sa : Sa} {S0 : List O} (h : ∀ S, P S a) : Gd P (conF a) sa S0 := fun S p => ⟨a, S, rfl, pf0 S, h S⟩
theorem ty_tup {S : List O} {l : Nat} {xs : List A} (h : S[l]? = some (.tup xs)) : Ty S (.ref l) := ⟨"tuple", by simp only [tyN]; rw [h]⟩
theorem tupOf_at {S : List O} {l : Nat} {xs : List A} (h : S[l]? = some (.tup xs)) : tupOf S (.ref l) = some xs := by
  simp only [tupOf]
  rw [h]
theorem bad_list {S S' : List O} {l : Nat} {xs : List A} (h : S'[l]? = some (.lst xs)) : d_is_web [.ref l] S' = some (.ok (.bl false) S') :=
  e_web_A ⟨"list", by simp only [tyN]; rw [h]⟩ (by unfold badN; simp only [tupOf]; rw [h])
theorem bad_dict {S' : List O} {l : Nat} {ks : List (Key × A)} (h : S'[l]? = some (.dic ks)) : d_is_web [.ref l] S' = some (.ok (.bl false) S') :=
  e_web_A ⟨"dict", by simp only [tyN]; rw [h]⟩ (by unfold badN; simp only [tupOf]; rw [h])
theorem bad_len {S' : List O} {l : Nat} {xs : List A} (h : S'[l]? = some (.tup xs)) (hn : xs.length = 0 ∨ 6 < xs.length) : d_is_web [.ref l] S' = some (.ok (.bl false) S') :=
  e_web_A (ty_tup h) (by
    unfold badN
    rw [tupOf_at h]
    simp only [Bool.not_eq_true', Bool.and_eq_false_iff, decide_eq_false_iff_not]
    omega)
def intT (S : List O) (r : Nat) (is : List Int) : Prop := S[r]? = some (.tup (is.map A.int))
theorem intT_ty {S : List O} {r : Nat} {is : List Int} (h : intT S r is) (hl : is.length ≤ 1000000) : Ty1 S (.ref r) ∧ ∀ xs, tupOf S (.ref r) = some xs → xs.length ≤ 1000000 := by
  refine ⟨⟨ty_tup h, fun xs e x hx => ?_⟩, fun xs e => ?_⟩
  · rw [tupOf_at h] at e
    cases e
    obtain ⟨i, _, rfl⟩ := List.mem_map.mp hx
    exact ⟨"int", rfl⟩
  · rw [tupOf_at h] at e
    cases e
    rw [List.length_map]
    exact hl
theorem intT_line {S : List O} {r : Nat} {is : List Int} {n : Int} (h : intT S r is) : lineOk S n (.ref r) = (decide ((is.length : Int) = n) && is.all fun i => wholeA (-1000) 1000 (.int i)) := by
  unfold lineOk
  rw [tupOf_at h]
  simp [List.all_map, Function.comp_def]
variable {sa : Sa} {S0 : List O}
theorem tup_ints {is : List Int} {fl : FL} {S : List O} (h : fl sa S = some (.ok (is.map A.int) S)) (hn : is.length ≤ 1000000) : newF O.tup fl sa S = some (.ok (.ref S.length) (S ++ [.tup (is.map A.int)])) := r_new h (by rw [List.length_map]; exact hn)
theorem len_up {S : List O} (p : S0 <+: S) (h : 2 ≤ S0.length) : S.length ≠ 1 := by
  have := p.length_le
  omega
/-- (line,) -/
theorem one_line {fl : FL} {S : List O} {is : List Int} (p : S0 <+: S) (h2 : 2 ≤ S0.length) (h : fl sa S = some (.ok (is.map A.int) S)) (hn : is.length ≤ 1000000) :
    newF O.tup (consF (newF O.tup fl) nilF) sa S = some (.ok (.ref (S.length + 1)) (S ++ [.tup (is.map A.int), .tup [.ref S.length]])) ∧ ∀ S', Up (S ++ [.tup (is.map A.int), .tup [.ref S.length]]) S' → intT S' S.length is ∧ S'[S.length + 1]? = some (.tup [.ref S.length]) := by
  have e := r_new (mk := O.tup) (r_cons (tup_ints h hn) r_nil) (by show 1 ≤ 1000000; decide)
  rw [List.append_assoc, List.length_append] at e
  refine ⟨e, fun S' u => ⟨up_at u (at_k (k := 0)) (len_up p h2), up_at u (at_k (k := 1)) ?_⟩⟩
  have := p.length_le
  omega
/-- (line, line) -/
theorem two_lines {fl fk : FL} {S : List O} {is js : List Int} (p : S0 <+: S) (h2 : 2 ≤ S0.length) (h : ∀ S, fl sa S = some (.ok (is.map A.int) S)) (hk : ∀ S, fk sa S = some (.ok (js.map A.int) S)) (hn : is.length ≤ 1000000) (hm : js.length ≤ 1000000) :
    newF O.tup (consF (newF O.tup fl) (consF (newF O.tup fk) nilF)) sa S = some (.ok (.ref (S.length + 2)) (S ++ [.tup (is.map A.int), .tup (js.map A.int), .tup [.ref S.length, .ref (S.length + 1)]])) ∧
    ∀ S', Up (S ++ [.tup (is.map A.int), .tup (js.map A.int), .tup [.ref S.length, .ref (S.length + 1)]]) S' → intT S' S.length is ∧ intT S' (S.length + 1) js ∧ S'[S.length + 2]? = some (.tup [.ref S.length, .ref (S.length + 1)]) := by
  have e := r_new (mk := O.tup) (r_cons (tup_ints (h S) hn) (r_cons (tup_ints (hk (S ++ [.tup (is.map A.int)])) hm) r_nil)) (by show 2 ≤ 1000000; decide)
  simp only [List.append_assoc, List.length_append, List.length_cons, List.length_nil, List.cons_append, List.nil_append] at e
  have := p.length_le
  exact ⟨e, fun S' u => ⟨up_at u (at_k (k := 0)) (by omega), up_at u (at_k (k := 1)) (by omega), up_at u (at_k (k := 2)) (by omega)⟩⟩
theorem bad_one {S' : List O} {l r : Nat} {is : List Int} (hl : S'[l]? = some (.tup [.ref r])) (h : intT S' r is) (hn : is.length ≤ 1000000) (hb : (decide ((is.length : Int) = 1) && is.all fun i => wholeA (-1000) 1000 (.int i)) = false) : d_is_web [.ref l] S' = some (.ok (.bl false) S') :=
  e_web_C hl (Nat.le_refl 1) (by show 1 ≤ 6; decide) (fun x hx => by rw [List.mem_singleton.mp hx]; exact intT_ty h hn) (by
    simp only [List.all_cons, List.all_nil, Bool.and_true]
    rw [intT_line h]
    exact hb)
theorem bad_two {S' : List O} {l r q : Nat} {is js : List Int} (hl : S'[l]? = some (.tup [.ref r, .ref q])) (h : intT S' r is) (k : intT S' q js) (hn : is.length ≤ 1000000) (hm : js.length ≤ 1000000) (hb : (decide ((is.length : Int) = 2) && is.all fun i => wholeA (-1000) 1000 (.int i)) = false) : d_is_web [.ref l] S' = some (.ok (.bl false) S') :=
  e_web_C hl (by show 1 ≤ 2; decide) (by show 2 ≤ 6; decide) (fun x hx => by
    simp only [List.mem_cons, List.not_mem_nil, or_false] at hx
    rcases hx with rfl | rfl
    · exact intT_ty h hn
    · exact intT_ty k hm) (by
    simp only [List.all_cons, List.all_nil, Bool.and_true]
    rw [intT_line h]
    exact (congrArg (· && _) hb).trans rfl)
end Law
set_option maxRecDepth 100000
set_option maxHeartbeats 2000000
namespace Law
open PySem L2 Vai
variable {sa : Sa} {S0 : List O}
theorem ints1 {i : Int} {S : List O} : consF (conF (.int i)) nilF sa S = some (.ok ([i].map A.int) S) := rfl
theorem ints2 {i j : Int} {S : List O} : consF (conF (.int i)) (consF (conF (.int j)) nilF) sa S = some (.ok ([i, j].map A.int) S) := rfl
theorem rep_ok {S : List O} {l : Nat} {x : A} {k : Int} (h : S[l]? = some (.tup [x])) (h1 : 2 ≤ k) (h2 : k ≤ 1000) : mulG (.ref l) (.int k) S = some (.ref S.length, S ++ [.tup (repA k.toNat [x])]) := by
  unfold mulG
  simp only
  rw [h]
  simp only
  rw [if_neg (by omega), if_pos]
  simp only [List.length_cons, List.length_nil, List.isEmpty_cons, Bool.not_false, Bool.and_true, Bool.and_eq_true, decide_eq_true_eq]
  omega
theorem rep_len {α : Type} (x : α) (n : Nat) : (repA n [x]).length = n := by
  rw [rep1, List.length_map, List.length_range]
theorem bad_menu (h2 : 2 ≤ S0.length) {lw : Nat} {ws : List A} (hw : S0[lw]? = some (.tup ws)) (hs : sa[2]? = some (some (.ref lw))) :
    GdL BadV (consF (conF .non) (consF (newF O.tup nilF) (consF (clF lstC (consF (varF 2) nilF)) (consF (newF O.tup (consF (newF O.tup (consF (conF (.int 1)) nilF)) nilF)) (consF (newF O.tup (consF (newF O.tup (consF (conF (.int 0)) (consF (conF (.int 1)) nilF))) (consF (newF O.tup (consF (conF (.int 1)) (consF (conF (.int 0)) nilF))) nilF))) (consF (newF O.tup (consF (newF O.tup (consF (conF (.int 0)) (consF (conF (.int 1001)) nilF))) (consF (newF O.tup (consF (unF negG (conF (.int 1001))) (consF (conF (.int 0)) nilF))) nilF))) (consF (newF O.tup (consF (newF O.tup (consF (conF (.int 0)) (consF (conF (.int 1)) nilF))) nilF)) (consF (opF mulG (newF O.tup (consF (opF mulG (newF O.tup (consF (conF (.int 0)) nilF)) (conF (.int 7))) nilF)) (conF (.int 7))) (consF (conF (.int 3)) (consF (conF (.str "web")) (consF newD nilF))))))))))) sa S0 11 := by
  have one := fun {S : List O} (p : S0 <+: S) => len_up p h2
  refine gd_cons badV_stays (gd_con fun S => bad_flat rfl (by simp)) (gd_cons badV_stays (fun S p => ?_) (gd_cons badV_stays (fun S p => ?_) (gd_cons badV_stays (fun S p => ?_) (gd_cons badV_stays (fun S p => ?_) (gd_cons badV_stays (fun S p => ?_) (gd_cons badV_stays (fun S p => ?_) (gd_cons badV_stays (fun S p => ?_)
    (gd_cons badV_stays (gd_con fun S => bad_flat rfl (by simp)) (gd_cons badV_stays (gd_con fun S => bad_flat rfl (by simp)) (gd_cons badV_stays (fun S p => ?_) gd_nil))))))))))
  · exact ⟨_, _, r_new (mk := O.tup) r_nil (Nat.zero_le _), pfa S _, fun S' u => bad_len (up_at u at_new (one p)) (.inl rfl)⟩
  · refine ⟨.ref S.length, S ++ [.lst ws], r_cl (r_cons (r_var hs) r_nil) ?_, pfa S _, fun S' u => bad_list (S := S) (up_at u at_new (one p))⟩
    unfold lstC
    simp only
    rw [at_up p hw]
  · obtain ⟨e, k⟩ := one_line (sa := sa) (is := [1]) p h2 ints1 (by decide)
    refine ⟨_, _, e, pfa S _, fun S' u => ?_⟩
    obtain ⟨k1, k2⟩ := k S' u
    have w : WebAt S' (S.length + 1) 1 fun _ _ => 1 := ⟨[S.length], rfl, k2, fun y r e => by
      have : y = 0 := by
        have := (List.getElem?_eq_some_iff.mp e).1
        simp at this
        exact this
      subst this
      cases e
      exact k1⟩
    have := e_web_D w (by decide) (by decide) (fun _ _ _ _ => ⟨by decide, by decide⟩)
    exact this
  · obtain ⟨e, k⟩ := two_lines (sa := sa) (is := [0, 1]) (js := [1, 0]) p h2 (fun _ => ints2) (fun _ => ints2) (by decide) (by decide)
    refine ⟨_, _, e, pfa S _, fun S' u => ?_⟩
    obtain ⟨k1, k2, k3⟩ := k S' u
    have w : WebAt S' (S.length + 2) 2 fun y z => if y = z then 0 else 1 := ⟨[S.length, S.length + 1], rfl, k3, fun y r e => by
      have hy := (List.getElem?_eq_some_iff.mp e).1
      have : y = 0 ∨ y = 1 := by
        simp at hy
        omega
      rcases this with rfl | rfl
      · cases e
        exact k1
      · cases e
        exact k2⟩
    have := e_web_D w (by decide) (by decide) (fun y z _ _ => by split <;> exact ⟨by decide, by decide⟩)
    exact this
  · obtain ⟨e, k⟩ := two_lines (sa := sa) (fk := consF (unF negG (conF (.int 1001))) (consF (conF (.int 0)) nilF)) (is := [0, 1001]) (js := [-1001, 0]) p h2 (fun _ => ints2) (fun _ => rfl) (by decide) (by decide)
    refine ⟨_, _, e, pfa S _, fun S' u => ?_⟩
    obtain ⟨k1, k2, k3⟩ := k S' u
    exact bad_two k3 k1 k2 (by decide) (by decide) (by decide)
  · obtain ⟨e, k⟩ := one_line (sa := sa) (is := [0, 1]) p h2 ints2 (by decide)
    refine ⟨_, _, e, pfa S _, fun S' u => ?_⟩
    obtain ⟨k1, k2⟩ := k S' u
    exact bad_one k2 k1 (by decide) (by decide)
  · have e1 := r_new (sa := sa) (S := S) (mk := O.tup) (r_cons (r_con (a := .int 0)) r_nil) (by show 1 ≤ 1000000; decide)
    have e2 := r_op (g := mulG) e1 (r_con (a := .int 7)) (rep_ok at_new (by decide) (by decide))
    have e3 := r_new (mk := O.tup) (r_cons e2 r_nil) (by show 1 ≤ 1000000; decide)
    have e4 := r_op (g := mulG) e3 (r_con (a := .int 7)) (rep_ok at_new (by decide) (by decide))
    refine ⟨_, _, e4, ?_, fun S' u => bad_len (up_at u at_new ?_) (.inr ?_)⟩
    · simp only [List.append_assoc]
      exact pfa S _
    · have := p.length_le
      simp only [List.length_append]
      omega
    · show 6 < (repA 7 _).length
      rw [rep_len]
      decide
  · exact ⟨_, _, rfl, pfa S _, fun S' u => bad_dict (up_at u at_new (one p))⟩
end Law
set_option maxRecDepth 100000
set_option maxHeartbeats 2000000
namespace Law
open PySem L2 Vai
variable {sa : Sa} {S0 : List O} {n : Nat}
def RowV (n : Nat) (S : List O) (a : A) : Prop := ∀ S', Up S S' → d_check_row [.int n, a] S' = some (.er 6 S')
theorem rowV_stays : Stays (RowV n) := fun S S' a p h S2 u => h S2 ((But.of p).trans u)
theorem row_no {S : List O} {a : A} (h : Ty1 S a) (hb : rowOk S n a = false) : d_check_row [.int n, a] S = some (.er 6 S) := by
  rw [e_check_row h, hb]
  rfl
theorem row_flat {S : List O} {a : A} (h : flatA a = true) (hn : ∀ n, a ≠ .ty n) : RowV n S a := fun S' u => by
  cases a with
  | ref l => cases h
  | ty n => exact absurd rfl (hn n)
  | _ => exact row_no ⟨⟨_, rfl⟩, fun xs e => by cases e⟩ rfl
theorem row_list {S' : List O} {l : Nat} {xs : List A} (h : S'[l]? = some (.lst xs)) : d_check_row [.int n, .ref l] S' = some (.er 6 S') := by
  have hu : tupOf S' (.ref l) = none := by simp only [tupOf]; rw [h]
  exact row_no ⟨⟨"list", by simp only [tyN]; rw [h]⟩, fun xs e => by rw [hu] at e; cases e⟩ (by unfold rowOk; rw [hu])
theorem row_tup {S' : List O} {l : Nat} {xs : List A} (h : S'[l]? = some (.tup xs)) (hx : ∀ x ∈ xs, Ty S' x) (hb : (decide (xs.length ≤ 200) && xs.all (wholeA 0 ((n : Int) - 1))) = false) : d_check_row [.int n, .ref l] S' = some (.er 6 S') :=
  row_no ⟨ty_tup h, fun ys e x hy => by rw [tupOf_at h] at e; cases e; exact hx x hy⟩ (by unfold rowOk; rw [tupOf_at h]; exact hb)
theorem row_one (h2 : 2 ≤ S0.length) {fa : F} {x : A} (hf : ∀ S, fa sa S = some (.ok x S)) (hx : ∀ S, Ty S x) (hb : wholeA 0 ((n : Int) - 1) x = false) : Gd (RowV n) (newF O.tup (consF fa nilF)) sa S0 := fun S p =>
  ⟨_, _, r_new (mk := O.tup) (r_cons (hf S) r_nil) (by show 1 ≤ 1000000; decide), pfa S _, fun S' u => row_tup (up_at u at_new (len_up p h2)) (fun y hy => by rw [List.mem_singleton.mp hy]; exact hx _) (by simp [hb])⟩
theorem told_menu (h2 : 2 ≤ S0.length) (hs : sa[3]? = some (some (.int n))) :
    GdL (RowV n) (consF (conF .non) (consF (newF O.lst (consF (conF (.int 0)) nilF)) (consF (newF O.tup (consF (varF 3) nilF)) (consF (newF O.tup (consF (opF subG (conF (.int 0)) (conF (.int 1))) nilF)) (consF (newF O.tup (consF (conF (.bl true)) nilF)) (consF (conF (.str "0")) (consF (opF mulG (newF O.tup (consF (conF (.int 0)) nilF)) (conF (.int 201))) (consF (conF (.int 3)) (consF (newF O.tup (consF (newF O.tup (consF (conF (.int 0)) nilF)) nilF)) nilF))))))))) sa S0 9 := by
  have one := fun {S : List O} (p : S0 <+: S) => len_up p h2
  refine gd_cons rowV_stays (gd_con fun S => row_flat rfl (by simp)) (gd_cons rowV_stays (fun S p => ?_) (gd_cons rowV_stays (row_one h2 (fun S => r_var hs) (fun S => ⟨"int", rfl⟩) ?_) (gd_cons rowV_stays (row_one (x := .int (0 - 1)) h2 (fun S => r_op (g := subG) (a := .int 0) (b := .int 1) r_con r_con rfl) (fun S => ⟨"int", rfl⟩) ?_) (gd_cons rowV_stays (row_one h2 (fun S => r_con) (fun S => ⟨"bool", rfl⟩) rfl)
    (gd_cons rowV_stays (gd_con fun S => row_flat rfl (by simp)) (gd_cons rowV_stays (fun S p => ?_) (gd_cons rowV_stays (gd_con fun S => row_flat rfl (by simp)) (gd_cons rowV_stays (fun S p => ?_) gd_nil))))))))
  · exact ⟨_, _, r_new (mk := O.lst) (r_cons (r_con (a := .int 0)) r_nil) (by show 1 ≤ 1000000; decide), pfa S _, fun S' u => row_list (up_at u at_new (one p))⟩
  · simp only [wholeA, Bool.and_eq_false_iff, decide_eq_false_iff_not]
    omega
  · simp only [wholeA, Bool.and_eq_false_iff, decide_eq_false_iff_not]
    omega
  · have e1 := r_new (sa := sa) (S := S) (mk := O.tup) (r_cons (r_con (a := .int 0)) r_nil) (by show 1 ≤ 1000000; decide)
    have e2 := r_op (g := mulG) e1 (r_con (a := .int 201)) (rep_ok at_new (by decide) (by decide))
    refine ⟨_, _, e2, ?_, fun S' u => row_tup (up_at u at_new ?_) (fun x hx => ?_) ?_⟩
    · simp only [List.append_assoc]
      exact pfa S _
    · have := p.length_le
      simp only [List.length_append]
      omega
    · rw [rep1] at hx
      obtain ⟨_, _, rfl⟩ := List.mem_map.mp hx
      exact ⟨"int", rfl⟩
    · rw [show decide ((repA (201 : Int).toNat [A.int 0]).length ≤ 200) = false from by rw [rep_len]; decide]
      rfl
  · obtain ⟨e, k⟩ := one_line (sa := sa) (is := [0]) p h2 ints1 (by decide)
    refine ⟨_, _, e, pfa S _, fun S' u => ?_⟩
    obtain ⟨k1, k2⟩ := k S' u
    exact row_tup k2 (fun x hx => by rw [List.mem_singleton.mp hx]; exact ty_tup k1) rfl
def OrdV (n : Nat) (S : List O) (a : A) : Prop := ∀ S', Up S S' → d__is_order [.int n, a] S' = some (.ok (.bl false) S')
theorem ordV_stays : Stays (OrdV n) := fun S S' a p h S2 u => h S2 ((But.of p).trans u)
theorem ord_flat {S : List O} {a : A} (h : flatA a = true) (hn : ∀ n, a ≠ .ty n) : OrdV n S a := fun S' u => by
  cases a with
  | ref l => cases h
  | ty n => exact absurd rfl (hn n)
  | _ => exact e_order_no ⟨⟨_, rfl⟩, fun xs e => by cases e⟩ rfl
theorem ord_list {S' : List O} {l : Nat} {xs : List A} (h : S'[l]? = some (.lst xs)) : d__is_order [.int n, .ref l] S' = some (.ok (.bl false) S') := by
  have hu : tupOf S' (.ref l) = none := by simp only [tupOf]; rw [h]
  exact e_order_no ⟨⟨"list", by simp only [tyN]; rw [h]⟩, fun xs e => by rw [hu] at e; cases e⟩ (by rw [hu])
theorem ord_len {S' : List O} {l : Nat} {xs : List A} (h : S'[l]? = some (.tup xs)) (hx : ∀ x ∈ xs, Ty S' x) (hn : xs.length ≠ n) : d__is_order [.int n, .ref l] S' = some (.ok (.bl false) S') :=
  e_order_no ⟨ty_tup h, fun ys e x hy => by rw [tupOf_at h] at e; cases e; exact hx x hy⟩ (by rw [tupOf_at h]; simp; omega)
theorem rg_int {a b : Int} {S : List O} : ∀ x ∈ rgA a b, Ty S x := fun x hx => by
  obtain ⟨_, _, rfl⟩ := List.mem_map.mp hx
  exact ⟨"int", rfl⟩
theorem rg_len {a b : Int} : (rgA a b).length = (b - a).toNat := by
  unfold rgA
  rw [List.length_map, List.length_range]
theorem ord_rep (h2 : 2 ≤ S0.length) (hs : sa[3]? = some (some (.int n))) (hn : 1 ≤ n) (h6 : n ≤ 6) {x : A} (hx : ∀ S, Ty S x) (hb : ∀ m : Int, wholeA 0 m x = false) : Gd (OrdV n) (opF mulG (newF O.tup (consF (conF x) nilF)) (varF 3)) sa S0 := fun S p => by
  have e1 := r_new (sa := sa) (S := S) (mk := O.tup) (r_cons (r_con (a := x)) r_nil) (by show 1 ≤ 1000000; decide)
  have len2 : S.length ≠ 1 := len_up p h2
  by_cases h1 : n = 1
  · subst h1
    have hm : mulG (.ref S.length) (.int ((1 : Nat) : Int)) (S ++ [.tup [x]]) = some (.ref S.length, S ++ [.tup [x]]) := by
      unfold mulG
      simp only
      rw [at_new]
      rfl
    refine ⟨_, _, r_op e1 (r_var hs) hm, pfa S _, fun S' u => e_order_node (up_at u at_new len2) rfl (by decide) (fun y hy => by rw [List.mem_singleton.mp hy]; exact hx _) (by simp [hb])⟩
  · have e2 := r_op (g := mulG) e1 (r_var hs) (rep_ok at_new (by omega) (by omega))
    refine ⟨_, _, e2, by simp only [List.append_assoc]; exact pfa S _, fun S' u => e_order_node (up_at u at_new (by have := p.length_le; simp only [List.length_append]; omega)) (by rw [rep_len]; simp) (by omega) (fun y hy => ?_) ?_⟩
    · rw [rep1] at hy
      obtain ⟨_, _, rfl⟩ := List.mem_map.mp hy
      exact hx _
    · rw [rep1, Int.toNat_natCast, List.all_map]
      cases n with
      | zero => omega
      | succ n => simp [List.range_succ, hb]
theorem order_menu (h2 : 2 ≤ S0.length) (hs : sa[3]? = some (some (.int n))) (hn : 1 ≤ n) (h6 : n ≤ 6) :
    GdL (OrdV n) (consF (conF .non) (consF (rg1F O.lst (varF 3)) (consF (rg1F O.tup (opF subG (varF 3) (conF (.int 1)))) (consF (rg1F O.tup (opF addG (varF 3) (conF (.int 1)))) (consF (rg2F O.tup (conF (.int 1)) (opF addG (varF 3) (conF (.int 1)))) (consF (opF mulG (newF O.tup (consF (conF (.str "0")) nilF)) (varF 3)) (consF (opF mulG (newF O.tup (consF (conF .non) nilF)) (varF 3)) (consF (conF (.int 3)) nilF)))))))) sa S0 8 := by
  have one := fun {S : List O} (p : S0 <+: S) => len_up p h2
  have okb : ∀ a b : Int, 0 ≤ a → a ≤ 10 → 0 ≤ b → b ≤ 10 → rgOkB a b = true := fun a b _ _ _ _ => by
    unfold rgOkB
    simp only [Bool.and_eq_true, decide_eq_true_eq]
    omega
  have r1 : ∀ (mk : List A → O) (fa : F) (i : Int) (S : List O), fa sa S = some (.ok (.int i) S) → 0 ≤ i → i ≤ 10 → rg1F mk fa sa S = some (.ok (.ref S.length) (S ++ [mk (rgA 0 i)])) := fun mk fa i S h a b => r_bnd h (by show (if rgOkB 0 i = true then _ else _) = _; rw [if_pos (okb 0 i (by omega) (by omega) a b)])
  refine gd_cons ordV_stays (gd_con fun S => ord_flat rfl (by simp)) (gd_cons ordV_stays (fun S p => ?_) (gd_cons ordV_stays (fun S p => ?_) (gd_cons ordV_stays (fun S p => ?_) (gd_cons ordV_stays (fun S p => ?_) (gd_cons ordV_stays (ord_rep h2 hs hn h6 (fun S => ⟨"str", rfl⟩) fun _ => rfl) (gd_cons ordV_stays (ord_rep h2 hs hn h6 (fun S => ⟨"NoneType", rfl⟩) fun _ => rfl)
    (gd_cons ordV_stays (gd_con fun S => ord_flat rfl (by simp)) gd_nil)))))))
  · exact ⟨_, _, r1 O.lst _ n S (r_var hs) (by omega) (by omega), pfa S _, fun S' u => ord_list (up_at u at_new (one p))⟩
  · exact ⟨_, _, r1 O.tup _ (n - 1) S (r_op (g := subG) (r_var hs) (r_con (a := .int 1)) rfl) (by omega) (by omega), pfa S _, fun S' u => ord_len (up_at u at_new (one p)) rg_int (by rw [rg_len]; omega)⟩
  · exact ⟨_, _, r1 O.tup _ (n + 1) S (r_op (g := addG) (r_var hs) (r_con (a := .int 1)) rfl) (by omega) (by omega), pfa S _, fun S' u => ord_len (up_at u at_new (one p)) rg_int (by rw [rg_len]; omega)⟩
  · have e : rg2F O.tup (conF (.int 1)) (opF addG (varF 3) (conF (.int 1))) sa S = some (.ok (.ref S.length) (S ++ [.tup (rgA 1 (n + 1))])) := r_bnd r_con (r_bnd (r_op (g := addG) (r_var hs) (r_con (a := .int 1)) rfl) (by show (if rgOkB 1 ((n : Int) + 1) = true then _ else _) = _; rw [if_pos (okb _ _ (by omega) (by omega) (by omega) (by omega))]))
    refine ⟨_, _, e, pfa S _, fun S' u => e_order_node (up_at u at_new (one p)) (by rw [rg_len]; omega) (by omega) rg_int ?_⟩
    rw [List.all_eq_false]
    refine ⟨.int n, List.mem_map.mpr ⟨n - 1, List.mem_range.mpr (by omega), by congr 1; omega⟩, ?_⟩
    simp only [wholeA, Bool.and_eq_true, decide_eq_true_eq]
    omega
end Law
set_option maxRecDepth 100000
set_option maxHeartbeats 2000000
namespace Law
open PySem L2 Vai
theorem ne_same {S : List O} {z : Str} (h : SeqAt.shaped (.str z) = true) : eqG true (.str z) (.str z) S = some (.bl false, S) := by
  show (if SeqAt.shaped (.str z) && SeqAt.shaped (.str z) then some (A.bl (!PyData.eqv (.str z) (.str z)), S) else none) = _
  rw [h]
  show some (A.bl (!PyData.eqv (.str z) (.str z)), S) = _
  rw [show PyData.eqv (.str z) (.str z) = true from decide_eq_true rfl]
  rfl
theorem eq_same {S : List O} {z : Str} (h : SeqAt.shaped (.str z) = true) : eqG false (.str z) (.str z) S = some (.bl true, S) := by
  show (if SeqAt.shaped (.str z) && SeqAt.shaped (.str z) then some (A.bl (PyData.eqv (.str z) (.str z)), S) else none) = _
  rw [h]
  show some (A.bl (PyData.eqv (.str z) (.str z)), S) = _
  rw [show PyData.eqv (.str z) (.str z) = true from decide_eq_true rfl]
theorem sh_web : SeqAt.shaped (.str "BadWeb") = true := by decide +kernel
theorem sh_row : SeqAt.shaped (.str "BadRow") = true := by decide +kernel
theorem sh_order : SeqAt.shaped (.str "BadOrder") = true := by decide +kernel
theorem sh_great : SeqAt.shaped (.str "TooGreat") = true := by decide +kernel
theorem sh_nil : SeqAt.shaped (.str "") = true := by decide +kernel
theorem toD_strs {S : List O} {l n k : Nat} {z : Str} (h : S[l]? = some (.lst (List.replicate k (.str z)))) : toD S (n + 2) (.ref l) = some (.list (List.replicate k (.str z))) := by
  rw [toD]
  rw [h]
  simp only
  have key : ∀ k : Nat, (List.replicate k (A.str z)).foldr (fun x acc => match toD S (n + 1) x, acc with
        | some d, some ds => some (d :: ds)
        | _, _ => none) (some []) = some (List.replicate k (PyData.str z)) := fun k => by
    induction k with
    | zero => rfl
    | succ k ih =>
      rw [List.replicate_succ, List.foldr_cons, ih]
      rfl
  exact congrArg (Option.map PyData.list) (key k)
theorem ne_strs {S : List O} {l m k : Nat} {z : Str} (h : S[l]? = some (.lst (List.replicate k (.str z)))) (h2 : S[m]? = some (.lst (List.replicate k (.str z)))) (hs : SeqAt.shaped (.list (List.replicate k (.str z))) = true) (he : PyData.eqv (.list (List.replicate k (.str z))) (.list (List.replicate k (.str z))) = true) : eqG true (.ref l) (.ref m) S = some (.bl false, S) := by
  unfold eqG
  rw [toD_strs (n := 10) h, toD_strs (n := 10) h2]
  simp only
  rw [hs, he]
  rfl
example : SeqAt.shaped (.list (List.replicate 6 (.str "NoNode"))) = true := by decide +kernel
example : PyData.eqv (.list (List.replicate 11 (.str "BadArrows"))) (.list (List.replicate 11 (.str "BadArrows"))) = true := by decide +kernel
end Law
set_option maxRecDepth 100000
set_option maxHeartbeats 2000000
namespace Law
open PySem L2 Vai
theorem WebAt.but {S S' : List O} {l n : Nat} {f : Nat → Nat → Int} {xs : List A} (h : WebAt S l n f) (r1 : S[1]? = some (.lst xs)) (u : Up S S') : WebAt S' l n f := by
  obtain ⟨ls, h1, h2, h3⟩ := h
  refine ⟨ls, h1, up_at u h2 (fun e => ?_), fun y r q => up_at u (h3 y r q) fun e => ?_⟩
  · rw [e, r1] at h2
    cases h2
  · have := h3 y r q
    rw [e, r1] at this
    cases this
/-- the drawn row stands -/
def Drawn (S : List O) (ns : List Int) : Prop := ∃ a b c, RowAt S ns a b c
theorem Drawn.up {S S' : List O} {ns : List Int} (h : Drawn S ns) (p : S <+: S') : Drawn S' ns := by
  obtain ⟨a, b, c, h⟩ := h
  exact ⟨a, b, c, h.up p⟩
theorem Drawn.two {S : List O} {ns : List Int} (h : Drawn S ns) : 2 ≤ S.length := by
  obtain ⟨a, b, c, h⟩ := h
  have := (List.getElem?_eq_some_iff.mp h.s1).1
  omega
theorem Drawn.lst {S : List O} {ns : List Int} (h : Drawn S ns) : ∃ xs, S[1]? = some (O.lst xs) := by
  obtain ⟨a, b, c, h⟩ := h
  exact ⟨_, h.s1⟩
theorem law_pick {P : List O → A → Prop} (hP : ∀ S S' a, Up S S' → P S a → P S' a) {fl : FL} {sa : Sa} {S : List O} {ns : List Int} {n : Nat} (h : Drawn S ns) (h1 : sa[1]? = some (some (.ref 1))) (hl : GdL P fl sa S n) (n0 : 0 < n) (n1 : n ≤ 1000) :
    ∃ (x : A) (S' : List O), callF d__law_pick (consF (varF 1) (consF (newF O.lst fl) nilF)) sa S = some (.ok x S') ∧ P S' x ∧ Up S S' ∧ Drawn S' ns := by
  obtain ⟨as, S1, e1, p1, hn, q1⟩ := hl S (pf0 S)
  have d2 := h.up (pft p1 (pfa S1 [O.lst as]))
  obtain ⟨a, b, c, hr⟩ := d2
  obtain ⟨x, a', b', c', hm, ha, e⟩ := e_pick (l := S1.length) (xs := as) hr at_new (by have := (h.up p1).two; omega) (by omega) (by omega)
  have u1 : Up S1 ((S1 ++ [O.lst as]).set 1 (.lst [.ref 0, .int a', .int b', .int c'])) := (But.of (pfa S1 _)).trans But.put
  exact ⟨x, _, r_call (r_cons (r_var h1) (r_cons (r_new e1 (by omega)) r_nil)) e, hP _ _ _ u1 (q1 x hm), (But.of p1).trans u1, ⟨a', b', c', hr.put ha⟩⟩
theorem badV_up : ∀ S S' a, Up S S' → BadV S a → BadV S' a := fun S S' a u h S2 v => h S2 (u.trans v)
theorem rowV_up {n : Nat} : ∀ S S' a, Up S S' → RowV n S a → RowV n S' a := fun S S' a u h S2 v => h S2 (u.trans v)
theorem ordV_up {n : Nat} : ∀ S S' a, Up S S' → OrdV n S a → OrdV n S' a := fun S S' a u h S2 v => h S2 (u.trans v)
/-! the lambdas of the list -/
def CallV (b : A) (S : List O) (a : A) : Prop := ∀ (G : List O) (sa : Sa), S <+: G → d_is_web [b] G = some (.ok (.bl false) G) → sa[6]? = some (some a) → (wipeA sa [6])[4]? = some (some b) → errcF nmE "" ksL 6 [6] sa G = some (.ok (.str "BadWeb") G)
theorem callV_stays {b : A} : Stays (CallV b) := fun S S' a p h G sa q => h G sa (pft p q)
theorem call0 {b : A} {sa : Sa} {S0 : List O} {id : Nat} {fb : F} (hk : ksL id = some (false, fb)) (hf : ∀ (G : List O) (sa : Sa), d_is_web [b] G = some (.ok (.bl false) G) → sa[4]? = some (some b) → fb sa G = some (.er 1 G)) : Gd (CallV b) (lamF0 id) sa S0 := fun S p => by
  refine ⟨.ref (S.length + 1), S ++ [.code] ++ [.clo id S.length none], rfl, by rw [List.append_assoc]; exact pfa S _, fun G sa q hb h6 h4 => ?_⟩
  rw [List.append_assoc] at q
  have g1 : G[S.length + 1]? = some (.clo id S.length none) := at_up q (at_k (k := 1))
  have g0 : G[S.length]? = some .code := at_up q (at_k (k := 0))
  unfold errcF
  rw [h6]
  simp only
  rw [g1]
  simp only
  rw [hk, g0]
  simp only
  exact r_errE (hf G _ hb h4) rfl
theorem call1 {b : A} {sa : Sa} {S0 : List O} {id : Nat} {fb : F} (hk : ksL id = some (true, fb)) (hf : ∀ (G : List O) (sa : Sa), d_is_web [b] G = some (.ok (.bl false) G) → sa[4]? = some (some b) → fb sa G = some (.er 1 G)) : Gd (CallV b) (lamF1 id 0) sa S0 := fun S p => by
  refine ⟨.ref (S.length + 2), S ++ [.tup [.int 0]] ++ [.code] ++ [.clo id (S.length + 1) (some S.length)], rfl, by rw [List.append_assoc, List.append_assoc]; exact pfa S _, fun G sa q hb h6 h4 => ?_⟩
  rw [List.append_assoc, List.append_assoc] at q
  have g2 : G[S.length + 2]? = some (.clo id (S.length + 1) (some S.length)) := at_up q (at_k (k := 2))
  have g1 : G[S.length + 1]? = some .code := at_up q (at_k (k := 1))
  have g0 : G[S.length]? = some (.tup [.int 0]) := at_up q (at_k (k := 0))
  unfold errcF
  rw [h6]
  simp only
  rw [g2]
  simp only
  rw [hk, g1, g0]
  simp only
  exact r_errE (hf G _ hb h4) rfl
variable {sa : Sa} {S0 : List O}
theorem calls_list {b : A} : GdL (CallV b) (consF (lamF0 0) (consF (lamF1 1 0) (consF (lamF1 2 0) (consF (lamF1 3 0) nilF)))) sa S0 4 :=
  gd_cons callV_stays (call0 (id := 0) rfl fun G sa h h4 => r_call (r_cons (r_var h4) r_nil) (bad_arrows h)) (gd_cons callV_stays (call1 (id := 1) rfl fun G sa h h4 => r_call (r_cons (r_var h4) (r_cons r_con r_nil)) (bad_turned h))
    (gd_cons callV_stays (call1 (id := 2) rfl fun G sa h h4 => r_call (r_cons (r_var h4) (r_cons r_con r_nil)) (bad_turned_all h)) (gd_cons callV_stays (call1 (id := 3) rfl fun G sa h h4 => r_call (r_cons (r_var h4) (r_cons r_con r_nil)) (bad_renamed h)) gd_nil)))
theorem calls_more {b : A} : GdL (CallV b) (consF (lamF0 4) (consF (lamF1 5 0) nilF)) sa S0 2 :=
  gd_cons callV_stays (call0 (id := 4) rfl fun G sa h h4 => r_call (r_cons (r_var h4) r_nil) (bad_parts h)) (gd_cons callV_stays (call1 (id := 5) rfl fun G sa h h4 => r_call (r_cons (r_var h4) r_nil) (bad_is_tree h)) gd_nil)
theorem ne_nils {S : List O} {l m : Nat} (h : S[l]? = some (.lst [])) (h2 : S[m]? = some (.lst [])) : eqG true (.ref l) (.ref m) S = some (.bl false, S) :=
  ne_strs (k := 0) (z := "") h h2 (by decide +kernel) (by decide +kernel)
/-- the first test -/
theorem test_calls {S : List O} {b : A} {lc : Nat} {cs : List A} (h5 : sa[5]? = some (some (.ref lc))) (h4 : sa[4]? = some (some b)) (hlen : sa.length = 15) (hc : S[lc]? = some (.lst cs)) (hn : cs.length ≤ 100) (hv : ∀ a ∈ cs, CallV b S a) (hb : BadV S b) :
    trimF (opF (eqG true) (lcF (seqI (opF addG (varF 5) (newF O.lst (consF (lamF0 4) (consF (lamF1 5 0) nilF))))) (nameX 6) [6] (opF (eqG true) (errcF nmE "" ksL 6 [6]) (conF (.str "BadWeb"))) (varF 6)) (newF O.lst nilF)) sa S = some (.ok (.bl false) S) := by
  obtain ⟨as, S1, e1, p1, hl, q1⟩ := calls_more (b := b) (sa := sa) (S0 := S) S (pf0 S)
  have p2 : S <+: S1 ++ [.lst as] := pft p1 (pfa S1 _)
  have hadd : addG (.ref lc) (.ref S1.length) (S1 ++ [.lst as]) = some (.ref (S1 ++ [O.lst as]).length, (S1 ++ [.lst as]) ++ [.lst (cs ++ as)]) := by
    unfold addG
    simp only
    rw [at_up p2 hc, at_new]
    simp only
    rw [if_pos (by omega)]
  have e2 := r_op (g := addG) (r_var h5) (r_new e1 (by omega)) hadd
  generalize hS2 : (S1 ++ [O.lst as]) ++ [O.lst (cs ++ as)] = S2 at e2
  have p3 : S1 <+: S2 := by
    rw [← hS2]
    exact pft (pfa S1 _) (pfa _ _)
  have p4 : S <+: S2 := pft p1 p3
  have l2 : S2[(S1 ++ [O.lst as]).length]? = some (.lst (cs ++ as)) := by
    rw [← hS2]
    exact at_new
  have hi := r_seqL e2 l2
  have lw : (wipeA sa [6]).length = 15 := by
    show (sa.set 6 none).length = 15
    rw [List.length_set, hlen]
  have e3 := e_lc (sa := sa) (T := nameX 6) (vs := [6]) (ft := opF (eqG true) (errcF nmE "" ksL 6 [6]) (conF (.str "BadWeb"))) (fe := varF 6) (sx := fun a => (wipeA sa [6]).set 6 (some a)) (p := fun _ => false) (g := id) hi (goes_l l2) (fun _ _ _ _ => rfl) (fun a ha G q => by
    have hv' : CallV b S2 a := by
      rcases List.mem_append.mp ha with z | z
      · exact callV_stays _ _ _ p4 (hv a z)
      · exact callV_stays _ _ _ p3 (q1 a z)
    refine r_op (hv' G _ q (hb G (But.of (pft p4 q))) (List.getElem?_set_self (by rw [lw]; decide)) ?_) r_con (ne_same sh_web)
    show ((((sa.set 6 none).set 6 (some a)).set 6 none) : Sa)[4]? = _
    rw [List.getElem?_set_ne (by decide), List.getElem?_set_ne (by decide), List.getElem?_set_ne (by decide)]
    exact h4) (fun a ha z => by cases z) (by rw [List.length_append]; omega)
  rw [show ((cs ++ as).filter fun _ => false) = [] from List.filter_eq_nil_iff.mpr fun _ _ => by simp] at e3
  exact r_trim (r_op e3 (r_new r_nil (Nat.zero_le _)) (ne_nils (at_up (pfa _ _) at_new) at_new)) rfl
end Law
set_option maxRecDepth 100000
set_option maxHeartbeats 2000000
namespace Law
open PySem L2 Vai
variable {sa : Sa} {S0 : List O}
theorem rep_rep {α : Type} (x : α) (n : Nat) : repA n [x] = List.replicate n x := by
  rw [rep1, List.map_const', List.length_range]
theorem repL_ok {S : List O} {l : Nat} {x : A} {k : Nat} (h : S[l]? = some (.lst [x])) (h2 : k ≤ 1000) : mulG (.ref l) (.int (k : Int)) S = some (.ref S.length, S ++ [.lst (List.replicate k x)]) := by
  unfold mulG
  simp only
  rw [h]
  simp only
  rw [if_pos (by simp; omega), Int.toNat_natCast, rep_rep]
/-- [e for x in xs] != [z] * k -/
theorem test_list {fi : FI} {fe : F} {S S1 : List O} {l j k : Nat} {xs : List A} {z : Str} (hi : fi sa S = some (.ok (.sl l) S1)) (p : S <+: S1) (hl : S1[l]? = some (.lst xs)) (hk : xs.length = k) (hk2 : k ≤ 1000) (he : ∀ x ∈ xs, ∀ G, S1 <+: G → fe ((wipeA sa [j]).set j (some x)) G = some (.ok (.str z) G))
    (hs : SeqAt.shaped (.list (List.replicate k (.str z))) = true) (hq : PyData.eqv (.list (List.replicate k (.str z))) (.list (List.replicate k (.str z))) = true) :
    ∃ S', opF (eqG true) (lcF fi (nameX j) [j] (conF (.bl true)) fe) (opF mulG (newF O.lst (consF (conF (.str z)) nilF)) (conF (.int (k : Int)))) sa S = some (.ok (.bl false) S') ∧ S <+: S' := by
  have e1 := e_lc0 (sa := sa) (T := nameX j) (vs := [j]) (fe := fe) (sx := fun x => (wipeA sa [j]).set j (some x)) (g := fun _ => .str z) hi (goes_l hl) (fun _ _ _ _ => rfl) he (by omega)
  rw [List.map_const', hk] at e1
  have e2 := r_op (g := mulG) (r_new (sa := sa) (S := S1 ++ [.lst (List.replicate k (.str z))]) (mk := O.lst) (r_cons (r_con (a := .str z)) r_nil) (by show 1 ≤ 1000000; decide)) (r_con (a := .int (k : Int))) (repL_ok at_new hk2)
  refine ⟨_, r_op e1 e2 (ne_strs (k := k) (z := z) (at_up (pft (pfa _ _) (pfa _ _)) at_new) at_new hs hq), ?_⟩
  exact pft p (pft (pft (pfa S1 _) (pfa _ _)) (pfa _ _))
/-- nodes that are none -/
def NodeV (n : Nat) (S : List O) (a : A) : Prop := Ty S a ∧ wholeA 0 ((n : Int) - 1) a = false
theorem nodeV_stays {n : Nat} : Stays (NodeV n) := fun S S' a p h => ⟨h.1.up p, h.2⟩
theorem nodes_menu {n : Nat} (hs : sa[3]? = some (some (.int n))) : GdL (NodeV n) (consF (conF .non) (consF (opF subG (conF (.int 0)) (conF (.int 1))) (consF (varF 3) (consF (conF (.bl true)) (consF (conF (.str "0")) (consF (newF O.tup (consF (conF (.int 0)) nilF)) nilF)))))) sa S0 6 := by
  refine gd_cons nodeV_stays (gd_con fun S => ⟨⟨_, rfl⟩, rfl⟩) (gd_cons nodeV_stays (fun S p => ⟨.int (0 - 1), S, r_op (g := subG) (a := .int 0) (b := .int 1) r_con r_con rfl, pf0 S, ⟨"int", rfl⟩, ?_⟩) (gd_cons nodeV_stays (fun S p => ⟨.int n, S, r_var hs, pf0 S, ⟨"int", rfl⟩, ?_⟩) (gd_cons nodeV_stays (gd_con fun S => ⟨⟨_, rfl⟩, rfl⟩) (gd_cons nodeV_stays (gd_con fun S => ⟨⟨_, rfl⟩, rfl⟩)
    (gd_cons nodeV_stays (fun S p => ⟨_, _, r_new (mk := O.tup) (r_cons (r_con (a := .int 0)) r_nil) (by show 1 ≤ 1000000; decide), pfa S _, ty_tup at_new, rfl⟩) gd_nil)))))
  · simp only [wholeA, Bool.and_eq_false_iff, decide_eq_false_iff_not]
    omega
  · simp only [wholeA, Bool.and_eq_false_iff, decide_eq_false_iff_not]
    omega
/-- the drawn web in the store -/
structure Fine (S : List O) (l n : Nat) (f : Nat → Nat → Int) : Prop where
  web : WebAt S l n f
  n1 : 1 ≤ n
  n5 : n ≤ 5
  anti : Anti n f
  two : Two n f
theorem Two.small {n : Nat} {f : Nat → Nat → Int} (h : Two n f) : Small n f := fun y z hy hz => by
  have := h y z hy hz
  omega
theorem Fine.up {S S' : List O} {l n : Nat} {f : Nat → Nat → Int} (h : Fine S l n f) (p : S <+: S') : Fine S' l n f := ⟨h.web.up p, h.n1, h.n5, h.anti, h.two⟩
theorem Fine.good {S : List O} {l n : Nat} {f : Nat → Nat → Int} (h : Fine S l n f) : d_is_web [.ref l] S = some (.ok (.bl true) S) := good_web h.web h.n1 (by have := h.n5; omega) h.two.small h.anti
theorem test_nodes {S : List O} {lw n : Nat} {f : Nat → Nat → Int} (h : Fine S lw n f) (h2 : sa[2]? = some (some (.ref lw))) (h3 : sa[3]? = some (some (.int n))) (hlen : sa.length = 15) :
    trimF (opF (eqG true) (lcF (seqI (newF O.lst (consF (conF .non) (consF (opF subG (conF (.int 0)) (conF (.int 1))) (consF (varF 3) (consF (conF (.bl true)) (consF (conF (.str "0")) (consF (newF O.tup (consF (conF (.int 0)) nilF)) nilF)))))))) (nameX 7) [7] (conF (.bl true)) (errF nmE "" (callF d_turned (consF (varF 2) (consF (varF 7) nilF))))) (opF mulG (newF O.lst (consF (conF (.str "NoNode")) nilF)) (conF (.int 6)))) sa S = some (.ok (.bl false) S) := by
  obtain ⟨as, S1, e1, p1, hl, q1⟩ := nodes_menu (S0 := S) h3 S (pf0 S)
  have lw7 : (wipeA sa [7]).length = 15 := by
    show (sa.set 7 none).length = 15
    rw [List.length_set, hlen]
  have hi := r_seqL (r_new (mk := O.lst) e1 (by omega)) at_new
  obtain ⟨S', t, _⟩ := test_list (z := "NoNode") (k := 6) (j := 7) (fe := errF nmE "" (callF d_turned (consF (varF 2) (consF (varF 7) nilF)))) hi (pft p1 (pfa S1 _)) at_new hl (by decide) (fun x hx G q => by
    have pG := pft (pfa S1 _) q
    obtain ⟨⟨t, ht⟩, hb⟩ := nodeV_stays _ _ _ pG (q1 x hx)
    have hG := h.up (pft p1 pG)
    obtain ⟨xs, hxs, hn⟩ := hG.web.len
    refine r_errE (r_call (r_cons (r_var ?_) (r_cons (r_var (List.getElem?_set_self (by rw [lw7]; decide))) r_nil)) (no_node hG.good hxs ht (by rw [hn]; exact hb))) rfl
    rw [List.getElem?_set_ne (by decide)]
    show (sa.set 7 none)[2]? = _
    rw [List.getElem?_set_ne (by decide)]
    exact h2) (by decide +kernel) (by decide +kernel)
  exact r_trim t rfl
/-! turning twice at 0 -/
theorem mut_congr {n x : Nat} {f g : Nat → Nat → Int} (hx : x < n) (h : ∀ y z, y < n → z < n → f y z = g y z) : ∀ y z, y < n → z < n → mutF x f y z = mutF x g y z := fun y z hy hz => by
  unfold mutF
  rw [h y z hy hz, h y x hy hx, h x z hx hz, h z x hz hx, h x y hx hy]
theorem mut_mut {n x : Nat} {f : Nat → Nat → Int} (hx : x < n) (ha : Anti n f) : ∀ y z, y < n → z < n → mutF x (mutF x f) y z = f y z := fun y z hy hz => by
  have r1 : ∀ y, y < n → mutF x f y x = -f y x := fun y hy => if_pos (.inr rfl)
  have r2 : ∀ z, z < n → mutF x f x z = -f x z := fun z hz => if_pos (.inl rfl)
  by_cases hc : x = y ∨ x = z
  · rw [show mutF x (mutF x f) y z = -(mutF x f y z) from if_pos hc, show mutF x f y z = -f y z from if_pos hc]
    omega
  · rw [show mutF x (mutF x f) y z = mutF x f y z + mx (mutF x f y x) * mx (mutF x f x z) - mx (mutF x f z x) * mx (mutF x f x y) from if_neg hc, show mutF x f y z = f y z + mx (f y x) * mx (f x z) - mx (f z x) * mx (f x y) from if_neg hc,
      r1 y hy, r1 z hz, r2 z hz, r2 y hy]
    rw [show -f y x = f x y from by rw [ha x y hx hy], show -f x z = f z x from by rw [ha z x hz hx], show -f z x = f x z from by rw [ha x z hx hz], show -f x y = f y x from by rw [ha y x hy hx]]
    rw [Int.mul_comm (mx (f x y)) (mx (f z x)), Int.mul_comm (mx (f x z)) (mx (f y x))]
    generalize mx (f y x) * mx (f x z) = p
    generalize mx (f z x) * mx (f x y) = q
    omega
theorem mx_two {i : Int} (h : -2 ≤ i ∧ i ≤ 2) : mx i = 0 ∨ mx i = 1 ∨ mx i = 2 := by
  unfold mx
  split <;> omega
theorem mul_two {a b : Int} (h : a = 0 ∨ a = 1 ∨ a = 2) (k : b = 0 ∨ b = 1 ∨ b = 2) : 0 ≤ a * b ∧ a * b ≤ 4 := by
  rcases h with rfl | rfl | rfl <;> rcases k with rfl | rfl | rfl <;> decide
theorem mut_small {n x : Nat} {f : Nat → Nat → Int} (hx : x < n) (h : Two n f) : Small n (mutF x f) := fun y z hy hz => by
  unfold mutF
  have a := h y z hy hz
  split
  · omega
  · have b := mul_two (mx_two (h y x hy hx)) (mx_two (h x z hx hz))
    have c := mul_two (mx_two (h z x hz hx)) (mx_two (h x y hx hy))
    omega
theorem row_zeros {n : Nat} {f : Nat → Nat → Int} (hn : 0 < n) (ha : Anti n f) (ht : Two n f) : ∀ (k : Nat) (g : Nat → Nat → Int), ((∀ y z, y < n → z < n → g y z = f y z) ∨ ∀ y z, y < n → z < n → g y z = mutF 0 f y z) → ∃ g', rowF n g (List.replicate k 0) = some g'
  | 0, g, _ => ⟨g, rfl⟩
  | k + 1, g, h => by
    rw [List.replicate_succ, rowF]
    have nxt : (∀ y z, y < n → z < n → mutF 0 g y z = f y z) ∨ ∀ y z, y < n → z < n → mutF 0 g y z = mutF 0 f y z := by
      rcases h with h | h
      · exact .inr (mut_congr hn h)
      · exact .inl fun y z hy hz => (mut_congr hn h y z hy hz).trans (mut_mut hn ha y z hy hz)
    have small : boundB n (mutF 0 g) = true := bound_iff.mpr fun y z hy hz => by
      rcases nxt with h | h
      · rw [h y z hy hz]
        exact ht.small y z hy hz
      · rw [h y z hy hz]
        exact mut_small hn ht y z hy hz
    rw [small]
    exact row_zeros hn ha ht k _ nxt
theorem zeros_ok {S : List O} {lw n lr : Nat} {f : Nat → Nat → Int} (h : Fine S lw n f) (hr : S[lr]? = some (.tup (List.replicate 200 (.int 0)))) : ∃ (l' : Nat) (S' : List O), d_turned_all [.ref lw, .ref lr] S = some (.ok (.ref l') S') := by
  obtain ⟨g', hg⟩ := row_zeros (by have := h.n1; omega) h.anti h.two 200 f (.inl fun _ _ _ _ => rfl)
  obtain ⟨l', S', _, e, _⟩ := e_turned_all (ws := List.replicate 200 0) h.web h.n1 (by have := h.n5; omega) h.two.small h.anti (by rw [List.map_replicate]; exact hr) (by rw [List.length_replicate]; decide) (fun x hx => by rw [List.eq_of_mem_replicate hx]; exact h.n1)
  rw [hg] at e
  exact ⟨l', S', e⟩
theorem test_rows {S : List O} {lw n : Nat} {f : Nat → Nat → Int} {told : A} (h : Fine S lw n f) (h2 : sa[2]? = some (some (.ref lw))) (h8 : sa[8]? = some (some told)) (ht : d_check_row [.int n, told] S = some (.er 6 S)) :
    trimF (orF (opF (eqG true) (trimF (errF nmE "" (callF d_turned_all (consF (varF 2) (consF (varF 8) nilF))))) (conF (.str "BadRow"))) (opF (eqG true) (trimF (errF nmE "" (callF d_turned_all (consF (varF 2) (consF (opF mulG (newF O.tup (consF (conF (.int 0)) nilF)) (conF (.int 200))) nilF))))) (conF (.str "")))) sa S = some (.ok (.bl false) S) := by
  obtain ⟨xs, hxs, hn⟩ := h.web.len
  have a1 : trimF (errF nmE "" (callF d_turned_all (consF (varF 2) (consF (varF 8) nilF)))) sa S = some (.ok (.str "BadRow") S) := r_trim (r_errE (r_call (r_cons (r_var h2) (r_cons (r_var h8) r_nil)) (bad_row h.good hxs (by rw [hn]; exact ht))) rfl) rfl
  have e1 := r_new (sa := sa) (S := S) (mk := O.tup) (r_cons (r_con (a := .int 0)) r_nil) (by show 1 ≤ 1000000; decide)
  have e2 := r_op (g := mulG) e1 (r_con (a := .int 200)) (rep_ok at_new (by decide) (by decide))
  rw [rep_rep] at e2
  obtain ⟨l', S', e3⟩ := zeros_ok (h.up (pft (pfa S [O.tup [.int 0]]) (pfa _ [O.tup (List.replicate 200 (.int 0))]))) at_new
  have a2 : trimF (errF nmE "" (callF d_turned_all (consF (varF 2) (consF (opF mulG (newF O.tup (consF (conF (.int 0)) nilF)) (conF (.int 200))) nilF)))) sa S = some (.ok (.str "") S) := r_trim (r_err (r_call (r_cons (r_var h2) (r_cons e2 r_nil)) e3)) rfl
  exact r_trim (r_or (r_op a1 r_con (ne_same sh_row)) fun _ => r_op a2 r_con (ne_same sh_nil)) rfl
theorem test_orders {S : List O} {lw n : Nat} {f : Nat → Nat → Int} {order : A} (h : Fine S lw n f) (h2 : sa[2]? = some (some (.ref lw))) (h9 : sa[9]? = some (some order)) (ho : d__is_order [.int n, order] S = some (.ok (.bl false) S)) :
    trimF (orF (opF (eqG true) (trimF (errF nmE "" (callF d_renamed (consF (varF 2) (consF (varF 9) nilF))))) (conF (.str "BadOrder"))) (opF (eqG true) (trimF (errF nmE "" (callF d_renamed (consF (newF O.tup (consF (newF O.tup (consF (conF (.int 0)) nilF)) nilF)) (consF (newF O.tup (consF (conF (.bl false)) nilF)) nilF))))) (conF (.str "BadOrder")))) sa S = some (.ok (.bl false) S) := by
  obtain ⟨xs, hxs, hn⟩ := h.web.len
  have a1 : trimF (errF nmE "" (callF d_renamed (consF (varF 2) (consF (varF 9) nilF)))) sa S = some (.ok (.str "BadOrder") S) := r_trim (r_errE (r_call (r_cons (r_var h2) (r_cons (r_var h9) r_nil)) (bad_order h.good hxs (by rw [hn]; exact ho))) rfl) rfl
  have e1 := r_new (sa := sa) (S := S) (mk := O.tup) (r_cons (r_new (mk := O.tup) (r_cons (r_con (a := .int 0)) r_nil) (by show 1 ≤ 1000000; decide)) r_nil) (by show 1 ≤ 1000000; decide)
  have e2 := r_new (sa := sa) (S := S ++ [O.tup [.int 0]] ++ [O.tup [.ref S.length]]) (mk := O.tup) (r_cons (r_con (a := .bl false)) r_nil) (by show 1 ≤ 1000000; decide)
  have w : WebAt (S ++ [O.tup [.int 0]] ++ [O.tup [.ref S.length]] ++ [O.tup [.bl false]]) (S ++ [O.tup [A.int 0]]).length 1 (fun _ _ => 0) := ⟨[S.length], rfl, at_up (pfa _ _) at_new, fun y r e => by
    have : y = 0 := by
      have := (List.getElem?_eq_some_iff.mp e).1
      simp at this
      exact this
    subst this
    cases e
    exact at_up (pft (pfa _ _) (pfa _ _)) at_new⟩
  have g := good_web w (by decide) (by decide) (fun _ _ _ _ => ⟨by decide, by decide⟩) (fun _ _ _ _ => rfl)
  obtain ⟨ys, hys, hny⟩ := w.len
  have o2 : d__is_order [.int ys.length, .ref (S ++ [O.tup [A.int 0]] ++ [O.tup [A.ref S.length]]).length] (S ++ [O.tup [.int 0]] ++ [O.tup [.ref S.length]] ++ [O.tup [.bl false]]) = some (.ok (.bl false) (S ++ [O.tup [.int 0]] ++ [O.tup [.ref S.length]] ++ [O.tup [.bl false]])) := by
    rw [hny]
    exact e_order_node at_new rfl (by decide) (fun x hx => by rw [List.mem_singleton.mp hx]; exact ⟨"bool", rfl⟩) rfl
  have a2 : trimF (errF nmE "" (callF d_renamed (consF (newF O.tup (consF (newF O.tup (consF (conF (.int 0)) nilF)) nilF)) (consF (newF O.tup (consF (conF (.bl false)) nilF)) nilF)))) sa S = some (.ok (.str "BadOrder") S) := r_trim (r_errE (r_call (r_cons e1 (r_cons e2 r_nil)) (bad_order g hys o2)) rfl) rfl
  exact r_trim (r_or (r_op a1 r_con (ne_same sh_order)) fun _ => r_op a2 r_con (ne_same sh_order)) rfl
end Law
set_option maxRecDepth 100000
set_option maxHeartbeats 2000000
namespace Law
open PySem L2 Vai
variable {sa : Sa} {S0 : List O}
def CountV (S : List O) (a : A) : Prop := Ty S a ∧ wholeA 1 6 a = false
theorem countV_stays : Stays CountV := fun S S' a p h => ⟨h.1.up p, h.2⟩
theorem test_counts {S : List O} (hlen : sa.length = 15) : ∃ S', opF (eqG true) (lcF (seqI (newF O.lst (consF (conF .non) (consF (conF (.int 0)) (consF (conF (.int 7)) (consF (conF (.bl true)) (consF (conF (.str "2")) nilF))))))) (nameX 10) [10] (conF (.bl true)) (errF nmE "" (callF d_web_of (consF (varF 10) (consF (conF .non) nilF))))) (opF mulG (newF O.lst (consF (conF (.str "BadCount")) nilF)) (conF (.int 5))) sa S = some (.ok (.bl false) S') ∧ S <+: S' := by
  have menu : GdL CountV (consF (conF .non) (consF (conF (.int 0)) (consF (conF (.int 7)) (consF (conF (.bl true)) (consF (conF (.str "2")) nilF))))) sa S 5 :=
    gd_cons countV_stays (gd_con fun S => ⟨⟨_, rfl⟩, rfl⟩) (gd_cons countV_stays (gd_con fun S => ⟨⟨_, rfl⟩, rfl⟩) (gd_cons countV_stays (gd_con fun S => ⟨⟨_, rfl⟩, rfl⟩) (gd_cons countV_stays (gd_con fun S => ⟨⟨_, rfl⟩, rfl⟩) (gd_cons countV_stays (gd_con fun S => ⟨⟨_, rfl⟩, rfl⟩) gd_nil))))
  obtain ⟨as, S1, e1, p1, hl, q1⟩ := menu S (pf0 S)
  have lw : (wipeA sa [10]).length = 15 := by
    show (sa.set 10 none).length = 15
    rw [List.length_set, hlen]
  exact test_list (z := "BadCount") (k := 5) (j := 10) (fe := errF nmE "" (callF d_web_of (consF (varF 10) (consF (conF .non) nilF)))) (r_seqL (r_new (mk := O.lst) e1 (by omega)) at_new) (pft p1 (pfa S1 _)) at_new hl (by decide) (fun x hx G q => by
    obtain ⟨ht, hb⟩ := countV_stays _ _ _ (pft (pfa S1 _) q) (q1 x hx)
    exact r_errE (r_call (r_cons (r_var (List.getElem?_set_self (by rw [lw]; decide))) (r_cons r_con r_nil)) (web_of_count ht hb)) rfl) (by decide +kernel) (by decide +kernel)
/-! what are no arrows -/
def ArrV (S : List O) (a : A) : Prop := ∀ G, S <+: G → d__are_arrows [.int 3, a] G = some (.ok (.bl false) G)
theorem arrV_stays : Stays ArrV := fun S S' a p h G q => h G (pft p q)
def arrowVal (n : Int) : List A → Bool
  | [y, z, m] => wholeA 0 (n - 1) y && (wholeA 0 (n - 1) z && (!decide (y = z) && wholeA 1 1000 m))
  | _ => false
theorem arrow_at {S : List O} {r : Nat} {n : Int} {xs : List A} (h : S[r]? = some (.tup xs)) : arrowOk S n (.ref r) = arrowVal n xs := by
  unfold arrowOk
  rw [tupOf_at h]
  cases xs with
  | nil => rfl
  | cons a xs => cases xs with
    | nil => rfl
    | cons b xs => cases xs with
      | nil => rfl
      | cons c xs => cases xs with
        | nil => rfl
        | cons d xs => rfl
theorem one_tup {fl : FL} {S : List O} {xs : List A} (h : fl sa S = some (.ok xs S)) (hn : xs.length ≤ 1000000) : newF O.tup (consF (newF O.tup fl) nilF) sa S = some (.ok (.ref (S.length + 1)) (S ++ [.tup xs, .tup [.ref S.length]])) := by
  have e := r_new (mk := O.tup) (r_cons (r_new (mk := O.tup) h hn) r_nil) (by show 1 ≤ 1000000; decide)
  rw [List.append_assoc, List.length_append] at e
  exact e
theorem two_tup {fl fk : FL} {S : List O} {xs ys : List A} (h : ∀ S, fl sa S = some (.ok xs S)) (k : ∀ S, fk sa S = some (.ok ys S)) (hn : xs.length ≤ 1000000) (hm : ys.length ≤ 1000000) : newF O.tup (consF (newF O.tup fl) (consF (newF O.tup fk) nilF)) sa S = some (.ok (.ref (S.length + 2)) (S ++ [.tup xs, .tup ys, .tup [.ref S.length, .ref (S.length + 1)]])) := by
  have e := r_new (mk := O.tup) (r_cons (r_new (S := S) (mk := O.tup) (h S) hn) (r_cons (r_new (mk := O.tup) (k (S ++ [.tup xs])) hm) r_nil)) (by show 2 ≤ 1000000; decide)
  simp only [List.append_assoc, List.length_append, List.length_cons, List.length_nil, List.cons_append, List.nil_append] at e
  exact e
theorem ty1_flat {S : List O} {xs : List A} {r : Nat} (h : S[r]? = some (.tup xs)) (hx : ∀ x ∈ xs, Ty S x) : Ty1 S (.ref r) := ⟨ty_tup h, fun ys e y hy => by rw [tupOf_at h] at e; cases e; exact hx y hy⟩
theorem arr_one {fl : FL} {xs : List A} (h : ∀ S, fl sa S = some (.ok xs S)) (hn : xs.length ≤ 1000000) (hx : ∀ x ∈ xs, ∀ S, Ty S x) (hb : arrowVal 3 xs = false) : Gd ArrV (newF O.tup (consF (newF O.tup fl) nilF)) sa S0 := fun S p =>
  ⟨_, _, one_tup (h S) hn, pfa S _, fun G q => by
    have g0 : G[S.length]? = some (.tup xs) := at_up q (at_k (k := 0))
    have g1 : G[S.length + 1]? = some (.tup [.ref S.length]) := at_up q (at_k (k := 1))
    refine e_arrows_no (ty_tup g1) fun ys e => ?_
    rw [tupOf_at g1] at e
    cases e
    refine ⟨fun x hx2 => ?_, by show 1 ≤ 1000000; decide, ?_⟩
    · rw [List.mem_singleton.mp hx2]
      exact ty1_flat g0 fun x m => hx x m G
    · simp only [List.all_cons, List.all_nil, Bool.and_true]
      rw [arrow_at g0]
      exact hb⟩
theorem arr_two {fl fk : FL} {y1 z1 m1 y2 z2 m2 : Int} (h : ∀ S, fl sa S = some (.ok [.int y1, .int z1, .int m1] S)) (k : ∀ S, fk sa S = some (.ok [.int y2, .int z2, .int m2] S)) (h1 : arrowVal 3 [.int y1, .int z1, .int m1] = true) (h2 : arrowVal 3 [.int y2, .int z2, .int m2] = true) (S : List O) :
    newF O.tup (consF (newF O.tup fl) (consF (newF O.tup fk) nilF)) sa S = some (.ok (.ref (S.length + 2)) (S ++ [.tup [.int y1, .int z1, .int m1], .tup [.int y2, .int z2, .int m2], .tup [.ref S.length, .ref (S.length + 1)]])) ∧
    ∀ G, S ++ [O.tup [.int y1, .int z1, .int m1], .tup [.int y2, .int z2, .int m2], .tup [.ref S.length, .ref (S.length + 1)]] <+: G → d__are_arrows [.int 3, .ref (S.length + 2)] G = some (.ok (.bl (decide ([mn y1 z1, mxx y1 z1] ≠ [mn y2 z2, mxx y2 z2]))) G) ∧
      G[S.length]? = some (.tup [.int y1, .int z1, .int m1]) ∧ G[S.length + 1]? = some (.tup [.int y2, .int z2, .int m2]) ∧ G[S.length + 2]? = some (.tup [.ref S.length, .ref (S.length + 1)]) := by
  refine ⟨two_tup h k (by show 3 ≤ 1000000; decide) (by show 3 ≤ 1000000; decide), fun G q => ?_⟩
  have g0 : G[S.length]? = some (.tup [.int y1, .int z1, .int m1]) := at_up q (at_k (k := 0))
  have g1 : G[S.length + 1]? = some (.tup [.int y2, .int z2, .int m2]) := at_up q (at_k (k := 1))
  have g2 : G[S.length + 2]? = some (.tup [.ref S.length, .ref (S.length + 1)]) := at_up q (at_k (k := 2))
  obtain ⟨G', p, hs⟩ := set2 (n := .int 3) (u := none) g2 g0 g1
  have tyi : ∀ (a b c : Int) (x : A), x ∈ [A.int a, A.int b, A.int c] → Ty G x := fun a b c x hx => by
    simp only [List.mem_cons, List.not_mem_nil, or_false] at hx
    rcases hx with rfl | rfl | rfl <;> exact ⟨"int", rfl⟩
  have := e_arrows_set (c := if [mn y1 z1, mxx y1 z1] = [mn y2 z2, mxx y2 z2] then 1 else 2) g2 (fun x hx => by
    simp only [List.mem_cons, List.not_mem_nil, or_false] at hx
    rcases hx with rfl | rfl
    · exact ty1_flat g0 (tyi y1 z1 m1)
    · exact ty1_flat g1 (tyi y2 z2 m2)) (by show 2 ≤ 1000000; decide) (by
    simp only [List.all_cons, List.all_nil, Bool.and_true]
    rw [arrow_at g0, arrow_at g1, h1, h2]
    rfl) p (by
    rw [hs]
    congr 3
    split <;> rfl)
  refine ⟨?_, g0, g1, g2⟩
  rw [this]
  congr 3
  by_cases hk : [mn y1 z1, mxx y1 z1] = [mn y2 z2, mxx y2 z2]
  · rw [if_pos hk, decide_eq_false (by simp), decide_eq_false (by simp [hk])]
  · rw [if_neg hk, decide_eq_true (by simp), decide_eq_true hk]
theorem r3 {a b c : A} {S : List O} : consF (conF a) (consF (conF b) (consF (conF c) nilF)) sa S = some (.ok [a, b, c] S) := rfl
theorem ty_flat {a : A} (h : flatA a = true) (hn : ∀ n, a ≠ .ty n) (S : List O) : Ty S a := by
  cases a with
  | ref l => cases h
  | ty n => exact absurd rfl (hn n)
  | _ => exact ⟨_, rfl⟩
theorem flats3 {a b c : A} (h : flatA a = true ∧ flatA b = true ∧ flatA c = true) (k : ∀ n, a ≠ .ty n ∧ b ≠ .ty n ∧ c ≠ .ty n) : ∀ x ∈ [a, b, c], ∀ S, Ty S x := fun x hx S => by
  simp only [List.mem_cons, List.not_mem_nil, or_false] at hx
  rcases hx with rfl | rfl | rfl
  · exact ty_flat h.1 (fun n => (k n).1) S
  · exact ty_flat h.2.1 (fun n => (k n).2.1) S
  · exact ty_flat h.2.2 (fun n => (k n).2.2) S
theorem odd_first : GdL ArrV (consF (conF .non) (consF (newF O.lst (consF (newF O.tup (consF (conF (.int 0)) (consF (conF (.int 1)) (consF (conF (.int 1)) nilF)))) nilF)) (consF (newF O.tup (consF (newF O.tup (consF (conF (.int 0)) (consF (conF (.int 0)) (consF (conF (.int 1)) nilF)))) nilF)) (consF (newF O.tup (consF (newF O.tup (consF (conF (.int 0)) (consF (conF (.int 3)) (consF (conF (.int 1)) nilF)))) nilF)) (consF (newF O.tup (consF (newF O.tup (consF (conF (.int 0)) (consF (conF (.int 1)) (consF (conF (.int 0)) nilF)))) nilF)) (consF (newF O.tup (consF (newF O.tup (consF (conF (.int 0)) (consF (conF (.int 1)) (consF (conF (.int 1001)) nilF)))) nilF)) (consF (newF O.tup (consF (newF O.tup (consF (conF (.int 0)) (consF (conF (.int 1)) (consF (conF (.int 1)) nilF)))) (consF (newF O.tup (consF (conF (.int 1)) (consF (conF (.int 0)) (consF (conF (.int 1)) nilF)))) nilF))) (consF (newF O.tup (consF (newF O.tup (consF (conF (.int 0)) (consF (conF (.int 1)) (consF (conF (.int 1)) nilF)))) (consF (newF O.tup (consF (conF (.int 0)) (consF (conF (.int 1)) (consF (conF (.int 1)) nilF)))) nilF))) nilF)))))))) sa S0 8 := by
  have f3 : ∀ a b c : Int, ∀ x ∈ [A.int a, A.int b, A.int c], ∀ S, Ty S x := fun a b c => flats3 ⟨rfl, rfl, rfl⟩ (by simp)
  refine gd_cons arrV_stays (gd_con fun S G q => e_arrows_no ⟨_, rfl⟩ fun xs e => by cases e) (gd_cons arrV_stays (fun S p => ?_) (gd_cons arrV_stays (arr_one (fun _ => r3) (by show 3 ≤ 1000000; decide) (f3 _ _ _) (by decide)) (gd_cons arrV_stays (arr_one (fun _ => r3) (by show 3 ≤ 1000000; decide) (f3 _ _ _) (by decide)) (gd_cons arrV_stays (arr_one (fun _ => r3) (by show 3 ≤ 1000000; decide) (f3 _ _ _) (by decide))
    (gd_cons arrV_stays (arr_one (fun _ => r3) (by show 3 ≤ 1000000; decide) (f3 _ _ _) (by decide)) (gd_cons arrV_stays (fun S p => ?_) (gd_cons arrV_stays (fun S p => ?_) gd_nil)))))))
  · have e := r_new (sa := sa) (S := S) (mk := O.lst) (r_cons (r_new (mk := O.tup) (r3 (a := .int 0) (b := .int 1) (c := .int 1)) (by show 3 ≤ 1000000; decide)) r_nil) (by show 1 ≤ 1000000; decide)
    refine ⟨_, _, e, by rw [List.append_assoc]; exact pfa S _, fun G q => ?_⟩
    have g := at_up q at_new
    exact e_arrows_no ⟨"list", by simp only [tyN]; rw [g]⟩ fun xs e => by simp only [tupOf] at e; rw [g] at e; cases e
  · obtain ⟨e, k⟩ := arr_two (sa := sa) (y1 := 0) (z1 := 1) (m1 := 1) (y2 := 1) (z2 := 0) (m2 := 1) (fun _ => r3) (fun _ => r3) (by decide) (by decide) S
    exact ⟨_, _, e, pfa S _, fun G q => (k G q).1⟩
  · obtain ⟨e, k⟩ := arr_two (sa := sa) (y1 := 0) (z1 := 1) (m1 := 1) (y2 := 0) (z2 := 1) (m2 := 1) (fun _ => r3) (fun _ => r3) (by decide) (by decide) S
    exact ⟨_, _, e, pfa S _, fun G q => (k G q).1⟩
theorem odd_more : GdL ArrV (consF (newF O.tup (consF (newF O.tup (consF (conF (.int 0)) (consF (conF (.int 1)) nilF))) nilF)) (consF (newF O.tup (consF (conF (.int 3)) nilF)) (consF (newF O.tup (consF (newF O.tup (consF (conF (.int 0)) (consF (conF (.bl true)) (consF (conF (.int 1)) nilF)))) nilF)) nilF))) sa S0 3 := by
  refine gd_cons arrV_stays (arr_one (xs := [.int 0, .int 1]) (fun _ => rfl) (by show 2 ≤ 1000000; decide) (fun x hx S => by simp only [List.mem_cons, List.not_mem_nil, or_false] at hx; rcases hx with rfl | rfl <;> exact ⟨"int", rfl⟩) rfl) (gd_cons arrV_stays (fun S p => ?_) (gd_cons arrV_stays (arr_one (xs := [.int 0, .bl true, .int 1]) (fun _ => r3) (by show 3 ≤ 1000000; decide) (flats3 ⟨rfl, rfl, rfl⟩ (by simp)) (by decide)) gd_nil))
  refine ⟨_, _, r_new (mk := O.tup) (r_cons (r_con (a := .int 3)) r_nil) (by show 1 ≤ 1000000; decide), pfa S _, fun G q => ?_⟩
  have g := at_up q at_new
  refine e_arrows_no (ty_tup g) fun xs e => ?_
  rw [tupOf_at g] at e
  cases e
  exact ⟨fun x hx => by rw [List.mem_singleton.mp hx]; exact ⟨⟨"int", rfl⟩, fun ys e => by cases e⟩, by show 1 ≤ 1000000; decide, rfl⟩
end Law
set_option maxRecDepth 100000
set_option maxHeartbeats 2000000
namespace Law
open PySem L2 Vai
variable {sa : Sa} {S0 : List O}
/-- tuples of tuples as data -/
theorem toD_ints {S : List O} {r n : Nat} {is : List Int} (h : S[r]? = some (.tup (is.map A.int))) : toD S (n + 2) (.ref r) = some (.tuple (is.map PyData.int)) := by
  rw [toD]
  rw [h]
  simp only
  have key : ∀ is : List Int, (is.map A.int).foldr (fun x acc => match toD S (n + 1) x, acc with
        | some d, some ds => some (d :: ds)
        | _, _ => none) (some []) = some (is.map PyData.int) := fun is => by
    induction is with
    | nil => rfl
    | cons i is ih =>
      rw [List.map_cons, List.foldr_cons, ih]
      rfl
  exact congrArg (Option.map PyData.tuple) (key is)
theorem toD_rows {S : List O} {l n : Nat} {ls : List Nat} {d : PyData} (h : S[l]? = some (.tup (ls.map A.ref))) (hd : ∀ r ∈ ls, toD S (n + 1) (.ref r) = some d) : toD S (n + 2) (.ref l) = some (.tuple (ls.map fun _ => d)) := by
  rw [toD]
  rw [h]
  simp only
  have key : ∀ ls : List Nat, (∀ r ∈ ls, toD S (n + 1) (.ref r) = some d) → (ls.map A.ref).foldr (fun x acc => match toD S (n + 1) x, acc with
        | some d, some ds => some (d :: ds)
        | _, _ => none) (some []) = some (ls.map fun _ => d) := fun ls => by
    induction ls with
    | nil => exact fun _ => rfl
    | cons r ls ih =>
      intro hd
      rw [List.map_cons, List.foldr_cons, ih fun q hq => hd q (List.mem_cons_of_mem _ hq), hd r (List.mem_cons_self ..)]
      rfl
  exact congrArg (Option.map PyData.tuple) (key ls hd)
theorem no_arrows {S : List O} {l : Nat} (hl : S[l]? = some (.tup [])) : d__are_arrows [.int 3, .ref l] S = some (.ok (.bl true) S) := by
  have := e_arrows_set (c := 0) hl (fun x hx => by cases hx) (Nat.zero_le _) rfl (pfa S [O.set []]) (set0 (n := .int 3) (u := none) hl)
  exact this
theorem zero_web {S : List O} : ∃ (S' : List O) (l m : Nat), opF (eqG true) (callF d_web_of (consF (conF (.int 3)) (consF (newF O.tup nilF) nilF))) (opF mulG (newF O.tup (consF (opF mulG (newF O.tup (consF (conF (.int 0)) nilF)) (conF (.int 3))) nilF)) (conF (.int 3))) sa S = some (.ok (.bl false) S') ∧ S <+: S' := by
  have e1 := r_new (sa := sa) (S := S) (mk := O.tup) r_nil (Nat.zero_le _)
  obtain ⟨l, S1, p1, _, w, e2⟩ := e_web_of (S := S ++ [.tup []]) (n := 3) (rs := []) (ts := []) (by decide) (by decide) at_new rfl (fun k r t h => by simp at h) (no_arrows at_new)
  have e3 : callF d_web_of (consF (conF (.int 3)) (consF (newF O.tup nilF) nilF)) sa S = some (.ok (.ref l) S1) := r_call (r_cons r_con (r_cons e1 r_nil)) e2
  have f1 := r_new (sa := sa) (S := S1) (mk := O.tup) (r_cons (r_con (a := .int 0)) r_nil) (by show 1 ≤ 1000000; decide)
  have f2 := r_op (g := mulG) f1 (r_con (a := .int 3)) (rep_ok at_new (by decide) (by decide))
  have f3 := r_new (mk := O.tup) (r_cons f2 r_nil) (by show 1 ≤ 1000000; decide)
  have f4 := r_op (g := mulG) f3 (r_con (a := .int 3)) (rep_ok at_new (by decide) (by decide))
  generalize hq : (S1 ++ [O.tup [A.int 0]]).length = q at f2 f3 f4
  generalize hS4 : S1 ++ [O.tup [A.int 0]] ++ [O.tup (repA (3 : Int).toNat [A.int 0])] ++ [O.tup [A.ref q]] = S4 at f4
  have hrow : S4[q]? = some (.tup (repA 3 [A.int 0])) := by
    rw [← hS4, ← hq]
    exact at_up (pfa _ _) at_new
  have p4 : S1 <+: S4 := by
    rw [← hS4]
    exact pft (pfa S1 _) (pft (pfa _ _) (pfa _ _))
  have p5 : S1 <+: S4 ++ [O.tup (repA (3 : Int).toNat [A.ref q])] := pft p4 (pfa _ _)
  refine ⟨_, l, 0, r_op e3 f4 ?_, pft (pfa S _) (pft p1 p5)⟩
  obtain ⟨ls, w1, w2, w3⟩ := w.up p5
  have d1 := toD_rows (n := 10) (d := .tuple [.int 0, .int 0, .int 0]) w2 (fun r hr => by
    obtain ⟨y, hy⟩ := List.getElem?_of_mem hr
    exact toD_ints (n := 9) (is := [0, 0, 0]) (w3 y r hy))
  have d2 := toD_rows (S := S4 ++ [O.tup (repA (3 : Int).toNat [A.ref q])]) (l := S4.length) (n := 10) (ls := [q, q, q]) (d := .tuple [.int 0, .int 0, .int 0]) at_new (fun r hr => by
    have : r = q := by
      simp only [List.mem_cons, List.not_mem_nil, or_false, or_self] at hr
      exact hr
    rw [this]
    exact toD_ints (n := 9) (is := [0, 0, 0]) (at_up (pfa _ _) hrow))
  rw [List.map_const', w1] at d1
  unfold eqG
  rw [d1, d2]
  simp only
  rw [show (SeqAt.shaped (.tuple (List.replicate 3 (.tuple [.int 0, .int 0, .int 0]))) && SeqAt.shaped (.tuple (List.map (fun _ => PyData.tuple [.int 0, .int 0, .int 0]) [q, q, q]))) = true from by
    show (SeqAt.shaped (.tuple [.tuple [.int 0, .int 0, .int 0], .tuple [.int 0, .int 0, .int 0], .tuple [.int 0, .int 0, .int 0]]) && SeqAt.shaped (.tuple [.tuple [.int 0, .int 0, .int 0], .tuple [.int 0, .int 0, .int 0], .tuple [.int 0, .int 0, .int 0]])) = true
    decide +kernel]
  rw [show PyData.eqv (.tuple (List.replicate 3 (.tuple [.int 0, .int 0, .int 0]))) (.tuple (List.map (fun _ => PyData.tuple [.int 0, .int 0, .int 0]) [q, q, q])) = true from by
    show PyData.eqv (.tuple [.tuple [.int 0, .int 0, .int 0], .tuple [.int 0, .int 0, .int 0], .tuple [.int 0, .int 0, .int 0]]) (.tuple [.tuple [.int 0, .int 0, .int 0], .tuple [.int 0, .int 0, .int 0], .tuple [.int 0, .int 0, .int 0]]) = true
    decide +kernel]
  rfl
theorem test_odd {S : List O} {lo : Nat} {as : List A} (hlen : sa.length = 15) (h11 : sa[11]? = some (some (.ref lo))) (hl : S[lo]? = some (.lst as)) (hn : as.length = 11) (hv : ∀ a ∈ as, ArrV S a) :
    ∃ S', orF (opF (eqG true) (lcF (seqI (varF 11)) (nameX 10) [10] (conF (.bl true)) (errF nmE "" (callF d_web_of (consF (conF (.int 3)) (consF (varF 10) nilF))))) (opF mulG (newF O.lst (consF (conF (.str "BadArrows")) nilF)) (conF (.int 11)))) (opF (eqG true) (callF d_web_of (consF (conF (.int 3)) (consF (newF O.tup nilF) nilF))) (opF mulG (newF O.tup (consF (opF mulG (newF O.tup (consF (conF (.int 0)) nilF)) (conF (.int 3))) nilF)) (conF (.int 3)))) sa S = some (.ok (.bl false) S') ∧ S <+: S' := by
  have lw : (wipeA sa [10]).length = 15 := by
    show (sa.set 10 none).length = 15
    rw [List.length_set, hlen]
  obtain ⟨S1, e1, p1⟩ := test_list (sa := sa) (z := "BadArrows") (k := 11) (j := 10) (fe := errF nmE "" (callF d_web_of (consF (conF (.int 3)) (consF (varF 10) nilF)))) (r_seqL (r_var h11) hl) (pf0 S) hl hn (by decide) (fun x hx G q =>
    r_errE (r_call (r_cons r_con (r_cons (r_var (List.getElem?_set_self (by rw [lw]; decide))) r_nil)) (web_of_arrows (hv x hx G q))) rfl) (by decide +kernel) (by decide +kernel)
  obtain ⟨S2, _, _, e2, p2⟩ := zero_web (sa := sa) (S := S1)
  refine ⟨S2, ?_, pft p1 p2⟩
  unfold orF
  exact r_bnd e1 e2
/-! the strong web -/
def strongF (a b : Int) : Nat → Nat → Int := [(0, 1, a), (1, 2, b)].foldl putF fun _ _ => 0
theorem strong_val {a b : Int} : ∀ y z, y < 3 → z < 3 → strongF a b y z = (if y = 0 ∧ z = 1 then a else if y = 1 ∧ z = 0 then -a else if y = 1 ∧ z = 2 then b else if y = 2 ∧ z = 1 then -b else 0) := fun y z hy hz => by
  have h1 : y = 0 ∨ y = 1 ∨ y = 2 := by omega
  have h2 : z = 0 ∨ z = 1 ∨ z = 2 := by omega
  rcases h1 with rfl | rfl | rfl <;> rcases h2 with rfl | rfl | rfl <;> rfl
theorem e_strong {S : List O} {a b : Int} (ha : 1 ≤ a ∧ a ≤ 1000) (hb : 1 ≤ b ∧ b ≤ 1000) (h12 : sa[12]? = some (some (.int a))) (h13 : sa[13]? = some (some (.int b))) :
    ∃ (l : Nat) (S' : List O), callF d_web_of (consF (conF (.int 3)) (consF (newF O.tup (consF (newF O.tup (consF (conF (.int 0)) (consF (conF (.int 1)) (consF (varF 12) nilF)))) (consF (newF O.tup (consF (conF (.int 1)) (consF (conF (.int 2)) (consF (varF 13) nilF)))) nilF))) nilF)) sa S = some (.ok (.ref l) S') ∧ WebAt S' l 3 (strongF a b) := by
  have v1 : arrowVal 3 [.int 0, .int 1, .int a] = true := by
    simp only [arrowVal, wholeA, Bool.and_eq_true, decide_eq_true_eq, Bool.not_eq_true', decide_eq_false_iff_not]
    refine ⟨by omega, by omega, by simp, by omega⟩
  have v2 : arrowVal 3 [.int 1, .int 2, .int b] = true := by
    simp only [arrowVal, wholeA, Bool.and_eq_true, decide_eq_true_eq, Bool.not_eq_true', decide_eq_false_iff_not]
    refine ⟨by omega, by omega, by simp, by omega⟩
  obtain ⟨e, k⟩ := arr_two (sa := sa) (fl := consF (conF (.int 0)) (consF (conF (.int 1)) (consF (varF 12) nilF))) (fk := consF (conF (.int 1)) (consF (conF (.int 2)) (consF (varF 13) nilF))) (fun S => r_cons r_con (r_cons r_con (r_cons (r_var h12) r_nil))) (fun S => r_cons r_con (r_cons r_con (r_cons (r_var h13) r_nil))) v1 v2 S
  obtain ⟨k1, k2, k3, k4⟩ := k _ (pf0 _)
  obtain ⟨l, S', p, _, w, e2⟩ := e_web_of (n := 3) (rs := [S.length, S.length + 1]) (ts := [(0, 1, a), (1, 2, b)]) (by decide) (by decide) k4 rfl (fun i r t h1 h2 => by
    have hi : i = 0 ∨ i = 1 := by
      have := (List.getElem?_eq_some_iff.mp h1).1
      simp at this
      omega
    rcases hi with rfl | rfl
    · cases h1
      cases h2
      exact ⟨k2, by show 0 < 3; decide, by show 1 < 3; decide⟩
    · cases h1
      cases h2
      exact ⟨k3, by show 1 < 3; decide, by show 2 < 3; decide⟩) (by
    rw [show decide ([mn 0 1, mxx 0 1] ≠ [mn 1 2, mxx 1 2]) = true from by decide] at k1
    exact k1)
  exact ⟨l, S', r_call (r_cons r_con (r_cons e r_nil)) e2, w⟩
section
variable {a b : Int} (ha : 1 ≤ a ∧ a ≤ 100) (hb : 1 ≤ b ∧ b ≤ 100)
include ha hb
theorem strong_small : Small 3 (strongF a b) := fun y z hy hz => by
  rw [strong_val y z hy hz]
  split
  · omega
  · split
    · omega
    · split
      · omega
      · split <;> omega
theorem strong_anti : Anti 3 (strongF a b) := fun y z hy hz => by
  rw [strong_val y z hy hz, strong_val z y hz hy]
  have h1 : y = 0 ∨ y = 1 ∨ y = 2 := by omega
  have h2 : z = 0 ∨ z = 1 ∨ z = 2 := by omega
  rcases h1 with rfl | rfl | rfl <;> rcases h2 with rfl | rfl | rfl <;> simp
/-- behind a turn at 1 -/
theorem strong_one : boundB 3 (mutF 1 (strongF a b)) = decide (a * b ≤ 1000) := by
  rw [Bool.eq_iff_iff, bound_iff, decide_eq_true_eq]
  have v := fun y z hy hz => strong_val (a := a) (b := b) y z hy hz
  have ma : mx a = a := if_pos (by omega)
  have mb : mx b = b := if_pos (by omega)
  have na : mx (-a) = 0 := if_neg (by omega)
  have nb : mx (-b) = 0 := if_neg (by omega)
  have e02 : mutF 1 (strongF a b) 0 2 = a * b := by
    unfold mutF
    rw [if_neg (by decide), v 0 2 (by decide) (by decide), v 0 1 (by decide) (by decide), v 1 2 (by decide) (by decide), v 2 1 (by decide) (by decide), v 1 0 (by decide) (by decide)]
    simp [ma, mb, nb]
  have e20 : mutF 1 (strongF a b) 2 0 = -(a * b) := by
    unfold mutF
    rw [if_neg (by decide), v 2 0 (by decide) (by decide), v 2 1 (by decide) (by decide), v 1 0 (by decide) (by decide), v 0 1 (by decide) (by decide), v 1 2 (by decide) (by decide)]
    simp [ma, mb, nb]
  have e00 : mutF 1 (strongF a b) 0 0 = 0 := by
    unfold mutF
    rw [if_neg (by decide), v 0 0 (by decide) (by decide), v 0 1 (by decide) (by decide), v 1 0 (by decide) (by decide)]
    simp [na]
  have e22 : mutF 1 (strongF a b) 2 2 = 0 := by
    unfold mutF
    rw [if_neg (by decide), v 2 2 (by decide) (by decide), v 2 1 (by decide) (by decide), v 1 2 (by decide) (by decide)]
    simp [nb]
  constructor
  · intro h
    have := (h 0 2 (by decide) (by decide)).2
    rw [e02] at this
    exact this
  · intro h y z hy hz
    have pos : 0 ≤ a * b := Int.mul_nonneg (by omega) (by omega)
    by_cases hc : 1 = y ∨ 1 = z
    · rw [show mutF 1 (strongF a b) y z = -strongF a b y z from if_pos hc]
      have := strong_small ha hb y z hy hz
      omega
    · have h1 : y = 0 ∨ y = 2 := by omega
      have h2 : z = 0 ∨ z = 2 := by omega
      rcases h1 with rfl | rfl <;> rcases h2 with rfl | rfl
      · rw [e00]; omega
      · rw [e02]; omega
      · rw [e20]; omega
      · rw [e22]; omega
theorem strong_zero : Small 3 (mutF 0 (strongF a b)) := fun y z hy hz => by
  have v := fun y z hy hz => strong_val (a := a) (b := b) y z hy hz
  have s := strong_small ha hb y z hy hz
  by_cases hc : 0 = y ∨ 0 = z
  · rw [show mutF 0 (strongF a b) y z = -strongF a b y z from if_pos hc]
    omega
  · rw [show mutF 0 (strongF a b) y z = strongF a b y z + mx (strongF a b y 0) * mx (strongF a b 0 z) - mx (strongF a b z 0) * mx (strongF a b 0 y) from if_neg hc]
    have k : ∀ y, y < 3 → ¬(0 = y) → mx (strongF a b y 0) = 0 := fun y hy hn => by
      rw [v y 0 hy (by decide)]
      have : y = 1 ∨ y = 2 := by omega
      rcases this with rfl | rfl
      · exact if_neg (by simp; omega)
      · exact if_neg (by simp)
    rw [k y hy (fun e => hc (.inl e)), k z hz (fun e => hc (.inr e)), Int.zero_mul, Int.zero_mul]
    omega
theorem bound_congr {n : Nat} {f g : Nat → Nat → Int} (h : ∀ y z, y < n → z < n → f y z = g y z) : boundB n f = boundB n g := by
  rw [Bool.eq_iff_iff, bound_iff, bound_iff]
  constructor
  · intro k y z hy hz
    rw [← h y z hy hz]
    exact k y z hy hz
  · intro k y z hy hz
    rw [h y z hy hz]
    exact k y z hy hz
theorem strong_row : (rowF 3 (strongF a b) [0, 0, 1]).isSome = decide (a * b ≤ 1000) := by
  have m2 := mut_mut (n := 3) (x := 0) (by decide) (strong_anti ha hb)
  have b1 : boundB 3 (mutF 0 (strongF a b)) = true := bound_iff.mpr (strong_zero ha hb)
  have b2 : boundB 3 (mutF 0 (mutF 0 (strongF a b))) = true := by
    rw [bound_congr ha hb m2]
    exact bound_iff.mpr (strong_small ha hb)
  have b3 : boundB 3 (mutF 1 (mutF 0 (mutF 0 (strongF a b)))) = decide (a * b ≤ 1000) := by
    rw [bound_congr ha hb (mut_congr (by decide) m2)]
    exact strong_one ha hb
  rw [rowF, if_pos b1, rowF, if_pos b2, rowF, b3]
  cases decide (a * b ≤ 1000) <;> rfl
end
end Law
set_option maxRecDepth 100000
set_option maxHeartbeats 2000000
namespace Law
open PySem L2 Vai
theorem drawn_taken {S : List O} {ns : List Int} {sa : Sa} {m : Int} (h : Drawn S ns) (h1 : sa[1]? = some (some (.ref 1))) (m0 : 0 < m) (m1 : m < 1073741824) : ∃ (r : Int) (S' : List O), 0 ≤ r ∧ r < m ∧ Drawn S' ns ∧ callF d__law_taken (consF (varF 1) (consF (conF (.int m)) nilF)) sa S = some (.ok (.int r) S') := by
  obtain ⟨a, b, c, hr⟩ := h
  obtain ⟨r, a', b', c', r0, r1, ha, e⟩ := e_taken hr m0 m1
  exact ⟨r, _, r0, r1, ⟨a', b', c', hr.put ha⟩, r_call (r_cons (r_var h1) (r_cons r_con r_nil)) e⟩
theorem Fine.but {S S' : List O} {l n : Nat} {f : Nat → Nat → Int} {ns : List Int} (h : Fine S l n f) (d : Drawn S ns) (u : Up S S') : Fine S' l n f := by
  obtain ⟨xs, hx⟩ := d.lst
  exact ⟨h.web.but hx u, h.n1, h.n5, h.anti, h.two⟩
/-- what comes of the strong web -/
abbrev tellF : F := ifF (opF (cmpG fun i j => decide (i > j)) (opF mulG (varF 12) (varF 13)) (conF (.int 1000))) (conF (.str "TooGreat")) (conF (.str ""))
theorem tell {sa : Sa} {S : List O} {a b : Int} (ha : 1 ≤ a ∧ a ≤ 100) (h12 : sa[12]? = some (some (.int a))) (h13 : sa[13]? = some (some (.int b))) : tellF sa S = some (.ok (.str (if a * b ≤ 1000 then "" else "TooGreat")) S) := by
  have t : opF (cmpG fun i j => decide (i > j)) (opF mulG (varF 12) (varF 13)) (conF (.int 1000)) sa S = some (.ok (.bl (decide (a * b > 1000))) S) := r_op (r_op (g := mulG) (r_var h12) (r_var h13) (g_mul (by omega) (by omega))) r_con rfl
  by_cases h : a * b ≤ 1000
  · rw [if_pos h]
    rw [decide_eq_false (by omega)] at t
    exact r_ifE t (fun z => by cases z) fun _ => rfl
  · rw [if_neg h]
    rw [decide_eq_true (by omega)] at t
    exact r_ifE t (fun _ => rfl) fun z => by cases z
theorem sh_tell {a b : Int} : SeqAt.shaped (.str (if a * b ≤ 1000 then "" else "TooGreat")) = true := by
  split
  · exact sh_nil
  · exact sh_great
theorem strong_turned {sa : Sa} {S : List O} {a b : Int} {l : Nat} (ha : 1 ≤ a ∧ a ≤ 100) (hb : 1 ≤ b ∧ b ≤ 100) (w : WebAt S l 3 (strongF a b)) (h14 : sa[14]? = some (some (.ref l))) :
    trimF (errF nmE "" (callF d_turned (consF (varF 14) (consF (conF (.int 1)) nilF)))) sa S = some (.ok (.str (if a * b ≤ 1000 then "" else "TooGreat")) S) := by
  obtain ⟨l', S', p, _, _, e⟩ := e_turned (x := 1) w (by decide) (by decide) (strong_small ha hb) (strong_anti ha hb)
  rw [strong_one ha hb] at e
  by_cases h : a * b ≤ 1000
  · rw [if_pos h]
    rw [decide_eq_true h] at e
    exact r_trim (r_err (r_call (r_cons (r_var h14) (r_cons (r_con (a := .int 1)) r_nil)) e)) rfl
  · rw [if_neg h]
    rw [decide_eq_false h] at e
    exact r_trim (r_errE (r_call (r_cons (r_var h14) (r_cons (r_con (a := .int 1)) r_nil)) e) rfl) rfl
theorem strong_turned_all {sa : Sa} {S : List O} {a b : Int} {l : Nat} (ha : 1 ≤ a ∧ a ≤ 100) (hb : 1 ≤ b ∧ b ≤ 100) (w : WebAt S l 3 (strongF a b)) (h14 : sa[14]? = some (some (.ref l))) :
    trimF (errF nmE "" (callF d_turned_all (consF (varF 14) (consF (newF O.tup (consF (conF (.int 0)) (consF (conF (.int 0)) (consF (conF (.int 1)) nilF)))) nilF)))) sa S = some (.ok (.str (if a * b ≤ 1000 then "" else "TooGreat")) S) := by
  have e1 := r_new (sa := sa) (S := S) (mk := O.tup) (r3 (a := .int 0) (b := .int 0) (c := .int 1)) (by show 3 ≤ 1000000; decide)
  obtain ⟨l', S', p, e, _⟩ := e_turned_all (ws := [0, 0, 1]) (w.up (pfa S [O.tup [.int 0, .int 0, .int 1]])) (by decide) (by decide) (strong_small ha hb) (strong_anti ha hb) at_new (by decide) (by decide)
  have r := strong_row ha hb
  by_cases h : a * b ≤ 1000
  · rw [if_pos h]
    rw [decide_eq_true h] at r
    obtain ⟨g, hg⟩ := Option.isSome_iff_exists.mp r
    rw [hg] at e
    exact r_trim (r_err (r_call (r_cons (r_var h14) (r_cons e1 r_nil)) e)) rfl
  · rw [if_neg h]
    rw [decide_eq_false h] at r
    have hg : rowF 3 (strongF a b) [0, 0, 1] = none := by
      cases hq : rowF 3 (strongF a b) [0, 0, 1] with
      | none => rfl
      | some g =>
        rw [hq] at r
        cases r
    rw [hg] at e
    exact r_trim (r_errE (r_call (r_cons (r_var h14) (r_cons e1 r_nil)) e) rfl) rfl
theorem law_true {ns : List Int} {o : O} (ho : ScrO o ns) : ∃ S', b_law [some (.ref 0), none, none, none, none, none, none, none, none, none, none, none, none, none, none] [o] = some (.rt (.bl true) S') := by
  -- the row
  have st0 := r_asgN (i := 1) (sa := [some (.ref 0), none, none, none, none, none, none, none, none, none, none, none, none, none, none]) (r_new (S := [o]) (mk := O.lst) (r_cons (fa := varF 0) (r_var rfl) (r_cons (r_con (a := .int 0)) (r_cons (r_con (a := .int 7301)) (r_cons (r_con (a := .int 0)) r_nil)))) (by show 4 ≤ 1000000; decide))
  have d1 : Drawn ([o] ++ [O.lst [.ref 0, .int 0, .int 7301, .int 0]]) ns := ⟨0, 7301, 0, ⟨o, ho, rfl⟩, rfl, by decide⟩
  generalize [o] ++ [O.lst [A.ref 0, A.int 0, A.int 7301, A.int 0]] = S1 at st0 d1
  -- the web
  obtain ⟨l, n, f, S2, hn1, hn5, hanti, htwo, d2, hweb, e2⟩ := e_law_web d1
  have d2 : Drawn S2 ns := d2
  have fine2 : Fine S2 l n f := ⟨hweb, hn1, hn5, hanti, htwo⟩
  have st1 := r_asgN (i := 2) (sa := [some (.ref 0), some (.ref 1), none, none, none, none, none, none, none, none, none, none, none, none, none]) (r_call (r_cons (fa := varF 1) (r_var rfl) (r_cons (r_con (a := .int 5)) (r_cons (r_con (a := .int 2)) r_nil))) e2)
  obtain ⟨ws, hws, hwn⟩ := hweb.len
  have st2 := r_asgN (i := 3) (sa := [some (.ref 0), some (.ref 1), some (.ref l), none, none, none, none, none, none, none, none, none, none, none, none]) (r_cl (g := lenG) (r_cons (fa := varF 2) (r_var rfl) r_nil) (g_lenT hws))
  rw [hwn] at st2
  -- bad
  obtain ⟨bad, S3, e3, hbad, u3, d3⟩ := law_pick badV_up (sa := [some (.ref 0), some (.ref 1), some (.ref l), some (.int n), none, none, none, none, none, none, none, none, none, none, none]) d2 rfl (bad_menu d2.two hws rfl) (by decide) (by decide)
  have fine3 := fine2.but d2 u3
  have st3 := r_asgN (i := 4) e3
  -- calls
  let sa4 : Sa := [some (.ref 0), some (.ref 1), some (.ref l), some (.int n), some bad, none, none, none, none, none, none, none, none, none, none]
  obtain ⟨cs, S4, e4, p4, hcs, q4⟩ := calls_list (b := bad) (sa := sa4) (S0 := S3) S3 (pf0 S3)
  have st4 := r_asgN (i := 5) (r_new (mk := O.lst) e4 (by omega))
  have p4' : S3 <+: S4 ++ [O.lst cs] := pft p4 (pfa S4 _)
  have fine4 := fine3.up p4'
  have d4 := d3.up p4'
  have hl4 : (S4 ++ [O.lst cs])[S4.length]? = some (.lst cs) := at_new
  have hv4 : ∀ a ∈ cs, CallV bad (S4 ++ [O.lst cs]) a := fun a ha => callV_stays _ _ _ (pfa S4 _) (q4 a ha)
  have hb4 : BadV (S4 ++ [O.lst cs]) bad := badV_stays _ _ _ p4' hbad
  generalize S4 ++ [O.lst cs] = S5 at st4 fine4 d4 hl4 hv4 hb4
  let sa5 : Sa := [some (.ref 0), some (.ref 1), some (.ref l), some (.int n), some bad, some (.ref S4.length), none, none, none, none, none, none, none, none, none]
  have t5 := test_calls (sa := sa5) rfl rfl rfl hl4 (by omega) hv4 hb4
  have t6 := test_nodes (sa := sa5) fine4 rfl rfl rfl
  -- told
  obtain ⟨told, S6, e7, htold, u7, d7⟩ := law_pick rowV_up (sa := sa5) d4 rfl (told_menu d4.two rfl) (by decide) (by decide)
  have fine7 := fine4.but d4 u7
  have st7 := r_asgN (i := 8) e7
  let sa8 : Sa := [some (.ref 0), some (.ref 1), some (.ref l), some (.int n), some bad, some (.ref S4.length), none, none, some told, none, none, none, none, none, none]
  have t8 := test_rows (sa := sa8) fine7 rfl rfl (htold S6 But.refl)
  -- order
  obtain ⟨order, S7, e9, horder, u9, d9⟩ := law_pick ordV_up (sa := sa8) d7 rfl (order_menu d7.two rfl hn1 (by omega)) (by decide) (by decide)
  have fine9 := fine7.but d7 u9
  have st9 := r_asgN (i := 9) e9
  let sa10 : Sa := [some (.ref 0), some (.ref 1), some (.ref l), some (.int n), some bad, some (.ref S4.length), none, none, some told, some order, none, none, none, none, none]
  have t10 := test_orders (sa := sa10) fine9 rfl rfl (horder S7 But.refl)
  obtain ⟨S8, t11, p11⟩ := test_counts (sa := sa10) (S := S7) rfl
  have d11 := d9.up p11
  -- odd
  obtain ⟨as, S9, e12, p12, has, q12⟩ := odd_first (sa := sa10) (S0 := S8) S8 (pf0 S8)
  have st12 := r_asgN (i := 11) (r_new (mk := O.lst) e12 (by omega))
  let sa13 : Sa := [some (.ref 0), some (.ref 1), some (.ref l), some (.int n), some bad, some (.ref S4.length), none, none, some told, some order, none, some (.ref S9.length), none, none, none]
  obtain ⟨bs, S10, e13, p13, hbs, q13⟩ := odd_more (sa := sa13) (S0 := S9 ++ [O.lst as]) (S9 ++ [O.lst as]) (pf0 _)
  have g1 : (S10 ++ [O.lst bs])[S9.length]? = some (.lst as) := at_up (pft p13 (pfa S10 _)) at_new
  have hadd : addG (.ref S9.length) (.ref S10.length) (S10 ++ [O.lst bs]) = some (.ref (S10 ++ [O.lst bs]).length, (S10 ++ [O.lst bs]) ++ [.lst (as ++ bs)]) := by
    unfold addG
    simp only
    rw [g1, at_new]
    simp only
    rw [if_pos (by omega)]
  have st13 := r_asgN (i := 11) (r_op (g := addG) (sa := sa13) (fa := varF 11) (r_var rfl) (r_new (mk := O.lst) e13 (by omega)) hadd)
  have pT : S10 <+: (S10 ++ [O.lst bs]) ++ [O.lst (as ++ bs)] := pft (pfa S10 _) (pfa _ _)
  have pS : S8 <+: (S10 ++ [O.lst bs]) ++ [O.lst (as ++ bs)] := pft (pft p12 (pft (pfa S9 _) p13)) pT
  have d13 := d11.up pS
  have hv13 : ∀ a ∈ as ++ bs, ArrV ((S10 ++ [O.lst bs]) ++ [O.lst (as ++ bs)]) a := fun a ha => by
    rcases List.mem_append.mp ha with z | z
    · exact arrV_stays _ _ _ (pft (pft (pfa S9 _) p13) pT) (q12 a z)
    · exact arrV_stays _ _ _ pT (q13 a z)
  have hl13 : ((S10 ++ [O.lst bs]) ++ [O.lst (as ++ bs)])[(S10 ++ [O.lst bs]).length]? = some (.lst (as ++ bs)) := at_new
  generalize (S10 ++ [O.lst bs]) ++ [O.lst (as ++ bs)] = S11 at st13 d13 hv13 hl13
  generalize (S10 ++ [O.lst bs]).length = lo at st13 hl13
  let sa14 : Sa := [some (.ref 0), some (.ref 1), some (.ref l), some (.int n), some bad, some (.ref S4.length), none, none, some told, some order, none, some (.ref lo), none, none, none]
  obtain ⟨S12, t14, p14⟩ := test_odd (sa := sa14) rfl rfl hl13 (by rw [List.length_append, has, hbs]) hv13
  have d14 := d13.up p14
  -- the strong web
  obtain ⟨r1, S13, x0, x1, d15, e15⟩ := drawn_taken (sa := sa14) (m := 30) d14 rfl (by decide) (by decide)
  obtain ⟨r2, S14, y0, y1, d16, e16⟩ := drawn_taken (sa := sa14) (m := 30) d15 rfl (by decide) (by decide)
  have st15 : parF 12 13 (consF (opF addG (conF (.int 20)) (callF d__law_taken (consF (varF 1) (consF (conF (.int 30)) nilF)))) (consF (opF addG (conF (.int 20)) (callF d__law_taken (consF (varF 1) (consF (conF (.int 30)) nilF)))) nilF)) sa14 S12 = some (.nx [some (.ref 0), some (.ref 1), some (.ref l), some (.int n), some bad, some (.ref S4.length), none, none, some told, some order, none, some (.ref lo), some (.int (20 + r1)), some (.int (20 + r2)), none] S14) := by
    unfold parF
    rw [r_cons (r_op (g := addG) (r_con (a := .int 20)) e15 rfl) (r_cons (r_op (g := addG) (r_con (a := .int 20)) e16 rfl) r_nil)]
    rfl
  have ha : 1 ≤ 20 + r1 ∧ 20 + r1 ≤ 100 := by omega
  have hb : 1 ≤ 20 + r2 ∧ 20 + r2 ≤ 100 := by omega
  generalize 20 + r1 = a at st15 ha
  generalize 20 + r2 = b at st15 hb
  let sa16 : Sa := [some (.ref 0), some (.ref 1), some (.ref l), some (.int n), some bad, some (.ref S4.length), none, none, some told, some order, none, some (.ref lo), some (.int a), some (.int b), none]
  obtain ⟨ls, S15, e17, w⟩ := e_strong (sa := sa16) (S := S14) (by omega) (by omega) rfl rfl
  have st16 := r_asgN (i := 14) e17
  let sa17 : Sa := [some (.ref 0), some (.ref 1), some (.ref l), some (.int n), some bad, some (.ref S4.length), none, none, some told, some order, none, some (.ref lo), some (.int a), some (.int b), some (.ref ls)]
  have t17 := r_trim (r_op (g := eqG true) (strong_turned (sa := sa17) ha hb w rfl) (tell (sa := sa17) (b := b) ha rfl rfl) (ne_same sh_tell)) rfl
  have t18 := r_ret (r_op (g := eqG false) (strong_turned_all (sa := sa17) ha hb w rfl) (tell (sa := sa17) (b := b) ha rfl rfl) (eq_same sh_tell))
  refine ⟨S15, ?_⟩
  unfold b_law
  exact r_seq st0 (r_seq st1 (r_seq st2 (r_seq st3 (r_seq st4 (r_seq (sa1 := sa5) (r_condF t5 rfl) (r_seq (sa1 := sa5) (r_condF t6 rfl) (r_seq st7 (r_seq (sa1 := sa8) (r_condF t8 rfl) (r_seq st9 (r_seq (sa1 := sa10) (r_condF t10 rfl) (r_seq (sa1 := sa10) (r_condF t11 rfl) (r_seq st12 (r_seq st13 (r_seq (sa1 := sa14) (r_condF t14 rfl) (r_seq st15 (r_seq st16 (r_seq (sa1 := sa17) (r_condF t17 rfl) t18)))))))))))))))))
end Law
set_option maxRecDepth 100000
set_option maxHeartbeats 4000000
namespace Law
open PySem L2 Vai PySem.Spec PyProof.Rows
abbrev s_err : Stmt := top 39
theorem sc_err : FnScope ["call"] ["call"] (defScope s_err) := ⟨rfl, rfl, rfl, by decide +kernel, rfl, by decide +kernel, by decide +kernel⟩
theorem err_ok {P : Program} {w : World} {K : PySem.W.Frag} {mg : PySem.Str → Option Value} {base : Heap} {cl : Nat → Addr} {f : Addr} {oc kV doc pm cdv ct : Value} {od an : Option Addr} {osl : Array (Option Value)} (hm : mg "_law_error" = some (.ref f)) (l : K.lookup f = some ⟨oc, od, .func (PySem.W.fnOf "_law_error" "_law_error" (defArgs s_err) (defBody s_err) (defScope s_err) .none kV doc pm an cdv ct), osl⟩)
    (c : PySem.W.codeIn K cdv "_law_error" = true) (k : PySem.W.keepIn K (.ref f) = true) (m0 : mg "WebError" = some (.ref (cl 0))) (m1 : mg "BadWeb" = some (.ref (cl 1))) (m2 : mg "NoNode" = some (.ref (cl 2))) (m3 : mg "BadCount" = some (.ref (cl 3))) (m4 : mg "BadArrows" = some (.ref (cl 4))) (m5 : mg "TooGreat" = some (.ref (cl 5))) (m6 : mg "BadRow" = some (.ref (cl 6))) (m7 : mg "BadOrder" = some (.ref (cl 7))) :
    ErrOk P w K mg base "_law_error" (csE cl) "" := by
  have F := fun_mk (st := s_err) l c k
  have B := F.binds (ps := ["call"]) fun _ _ _ _ _ _ us hl => match us, hl with | [_], _ => rfl
  refine ⟨"call", f, defArgs s_err, defBody s_err, defScope s_err, .none, kV, doc, pm, cdv, ct, oc, an, od, osl, ["call"], hm, k, l, c, B, sc_err, rfl, .inl rfl, by decide, by decide, fun X h1 h2 h3 h4 h5 => ?_⟩
  subst h1 h2 h3 h4 h5
  have nm : ∀ {x : PySem.Str} {i : Nat} (s : Shared) (H : Hp), X.mg x = some (.ref (cl i)) → (defScope s_err).names.lookup x = some .globalImplicit → (x == ("__debug__" : PySem.Str)) = false → Names (cxOf C8.CX0 X.prog X.w X.K X.mg X.base ["call"] "_law_error" (defScope s_err) f cdv X.A X.stack s H C8.E0).nox x (.ref (cl i)) := fun s H a b c => ⟨b, c, .inl a⟩
  refine err_gives (fun f => rfl) (fun s H => ?_) (fun s H => rfl)
  exact .cons (nm s H m1 rfl (by decide)) (fun _ _ _ _ _ _ _ => pss_one (ps_ret pe_str)) (.cons (nm s H m2 rfl (by decide)) (fun _ _ _ _ _ _ _ => pss_one (ps_ret pe_str)) (.cons (nm s H m3 rfl (by decide)) (fun _ _ _ _ _ _ _ => pss_one (ps_ret pe_str)) (.cons (nm s H m4 rfl (by decide)) (fun _ _ _ _ _ _ _ => pss_one (ps_ret pe_str)) (.cons (nm s H m5 rfl (by decide)) (fun _ _ _ _ _ _ _ => pss_one (ps_ret pe_str))
    (.cons (nm s H m6 rfl (by decide)) (fun _ _ _ _ _ _ _ => pss_one (ps_ret pe_str)) (.cons (nm s H m7 rfl (by decide)) (fun _ _ _ _ _ _ _ => pss_one (ps_ret pe_str)) (.cons (nm s H m0 rfl (by decide)) (fun _ _ _ _ _ _ _ => pss_one (ps_ret pe_str)) .nil)))))))
/-- the law's promise -/
def spL (K : PySem.W.Frag) (Pt : Addr) : Sp := fun vs H Q E => ∃ (a : Addr) (ns : List Int), vs = [V.ref a] ∧ H Pt = some (.tbl #[]) ∧ SqL K H a (ns.map V.int) ∧ ∀ H', Q (.bl true) H'
theorem start_rel {t : Tx} {a Pt : Addr} {H : Hp} {ns : List Int} (hT : ∀ p ∈ t.T, p.1 = Pt) (hP : H Pt = some (.tbl #[])) (h : SqL t.K H a (ns.map V.int)) : ∃ o, ScrO o ns ∧ Rel t [a] [o] H := by
  have mk : ∀ o : O, RO t [a] H a o → Rel t [a] [o] H := fun o ho => by
    refine ⟨fun l m p x y h1 h2 _ _ _ _ => ?_, rfl, fun l p x h1 h2 => ?_, fun p hp => ?_⟩
    · have z1 := (List.getElem?_eq_some_iff.mp h1).1
      have z2 := (List.getElem?_eq_some_iff.mp h2).1
      simp at z1 z2
      omega
    · have z1 := (List.getElem?_eq_some_iff.mp h1).1
      simp at z1
      subst z1
      cases h1
      cases h2
      exact ho
    · rw [hT p hp]
      exact LamX.TabS.nil hP
  rcases h with (h | ⟨u, h⟩) | h
  · refine ⟨.lst (ns.map A.int), .inr rfl, mk _ ⟨_, h, ?_⟩⟩
    clear h
    induction ns with
    | nil => exact .nil
    | cons i ns ih => exact .cons rfl ih
  · exact ⟨.scr ns, .inl rfl, mk _ (.inl ⟨u, h⟩)⟩
  · exact ⟨.scr ns, .inl rfl, mk _ (.inr (.inr h))⟩
end Law
set_option maxRecDepth 100000
set_option maxHeartbeats 4000000
namespace Law
open PySem L2 Vai PySem.Spec PyProof.Rows
def clOf (C0 C1 C2 C3 C4 C5 C6 C7 : Addr) : Nat → Addr
  | 0 => C0
  | 1 => C1
  | 2 => C2
  | 3 => C3
  | 4 => C4
  | 5 => C5
  | 6 => C6
  | 7 => C7
  | _ => 0
theorem all_mk {l : PySem.W.OpenLaw} {w : World} {K : PySem.W.Frag} {h : Heap} {mg : PySem.Str → Option Value} {fa : Addr} (X : K.In h) (G : h.Ns mainGlobals mg) (hfa : mg "law" = some (.ref fa))
    {f0 : Addr} {od0 an0 : Option Addr} {sl0 : Array (Option Value)} {oc0 kV0 dc0 pm0 cd0 ct0 : Value}
    {f1 : Addr} {od1 an1 : Option Addr} {sl1 : Array (Option Value)} {oc1 kV1 dc1 pm1 cd1 ct1 : Value}
    {f2 : Addr} {od2 an2 : Option Addr} {sl2 : Array (Option Value)} {oc2 kV2 dc2 pm2 cd2 ct2 : Value}
    {f3 : Addr} {od3 an3 : Option Addr} {sl3 : Array (Option Value)} {oc3 kV3 dc3 pm3 cd3 ct3 : Value}
    {f4 : Addr} {od4 an4 : Option Addr} {sl4 : Array (Option Value)} {oc4 kV4 dc4 pm4 cd4 ct4 : Value}
    {f5 : Addr} {od5 an5 : Option Addr} {sl5 : Array (Option Value)} {oc5 kV5 dc5 pm5 cd5 ct5 : Value}
    {f6 : Addr} {od6 an6 : Option Addr} {sl6 : Array (Option Value)} {oc6 kV6 dc6 pm6 cd6 ct6 : Value}
    {f7 : Addr} {od7 an7 : Option Addr} {sl7 : Array (Option Value)} {oc7 kV7 dc7 pm7 cd7 ct7 : Value}
    {f8 : Addr} {od8 an8 : Option Addr} {sl8 : Array (Option Value)} {oc8 kV8 dc8 pm8 cd8 ct8 : Value}
    {f9 : Addr} {od9 an9 : Option Addr} {sl9 : Array (Option Value)} {oc9 kV9 dc9 pm9 cd9 ct9 : Value}
    {f10 : Addr} {od10 an10 : Option Addr} {sl10 : Array (Option Value)} {oc10 kV10 dc10 pm10 cd10 ct10 : Value}
    {f11 : Addr} {od11 an11 : Option Addr} {sl11 : Array (Option Value)} {oc11 kV11 dc11 pm11 cd11 ct11 : Value}
    {f12 : Addr} {od12 an12 : Option Addr} {sl12 : Array (Option Value)} {oc12 kV12 dc12 pm12 cd12 ct12 : Value}
    {f13 : Addr} {od13 an13 : Option Addr} {sl13 : Array (Option Value)} {oc13 kV13 dc13 pm13 cd13 ct13 : Value}
    {f14 : Addr} {od14 an14 : Option Addr} {sl14 : Array (Option Value)} {oc14 kV14 dc14 pm14 cd14 ct14 : Value}
    {f15 : Addr} {od15 an15 : Option Addr} {sl15 : Array (Option Value)} {oc15 kV15 dc15 pm15 cd15 ct15 : Value}
    {f16 : Addr} {od16 an16 : Option Addr} {sl16 : Array (Option Value)} {oc16 kV16 dc16 pm16 cd16 ct16 : Value}
    {f17 : Addr} {od17 an17 : Option Addr} {sl17 : Array (Option Value)} {oc17 kV17 dc17 pm17 cd17 ct17 : Value}
    {f18 : Addr} {od18 an18 : Option Addr} {sl18 : Array (Option Value)} {oc18 kV18 dc18 pm18 cd18 ct18 : Value}
    {f19 : Addr} {od19 an19 : Option Addr} {sl19 : Array (Option Value)} {oc19 kV19 dc19 pm19 cd19 ct19 : Value}
    {f20 : Addr} {od20 an20 : Option Addr} {sl20 : Array (Option Value)} {oc20 kV20 dc20 pm20 cd20 ct20 : Value}
    {f21 : Addr} {od21 an21 : Option Addr} {sl21 : Array (Option Value)} {oc21 kV21 dc21 pm21 cd21 ct21 : Value}
    {f22 : Addr} {od22 an22 : Option Addr} {sl22 : Array (Option Value)} {oc22 kV22 dc22 pm22 cd22 ct22 : Value}
    {f23 : Addr} {od23 an23 : Option Addr} {sl23 : Array (Option Value)} {oc23 kV23 dc23 pm23 cd23 ct23 : Value}
    {f24 : Addr} {od24 an24 : Option Addr} {sl24 : Array (Option Value)} {oc24 kV24 dc24 pm24 cd24 ct24 : Value}
    {fL cL Pt : Addr} {odL anL : Option Addr} {slL : Array (Option Value)} {ocL kVL dcL pmL ctL : Value}
    {C0 : Addr}
    {C1 : Addr}
    {C2 : Addr}
    {C3 : Addr}
    {C4 : Addr}
    {C5 : Addr}
    {C6 : Addr}
    {C7 : Addr}
    {tk0 : Tok}
    {tk1 : Tok}
    {tk2 : Tok}
    (a0 : PySem.W.nsIn K mainGlobals "is_whole" = some (some (.ref f0))) (l0 : K.lookup f0 = some ⟨oc0, od0, .func (PySem.W.fnOf "is_whole" "is_whole" (defArgs s_is_whole) (defBody s_is_whole) (defScope s_is_whole) .none kV0 dc0 pm0 an0 cd0 ct0), sl0⟩) (c0 : PySem.W.codeIn K cd0 "is_whole" = true) (k0 : PySem.W.keepIn K (.ref f0) = true)
    (a1 : PySem.W.nsIn K mainGlobals "is_node" = some (some (.ref f1))) (l1 : K.lookup f1 = some ⟨oc1, od1, .func (PySem.W.fnOf "is_node" "is_node" (defArgs s_is_node) (defBody s_is_node) (defScope s_is_node) .none kV1 dc1 pm1 an1 cd1 ct1), sl1⟩) (c1 : PySem.W.codeIn K cd1 "is_node" = true) (k1 : PySem.W.keepIn K (.ref f1) = true)
    (a2 : PySem.W.nsIn K mainGlobals "check_count" = some (some (.ref f2))) (l2 : K.lookup f2 = some ⟨oc2, od2, .func (PySem.W.fnOf "check_count" "check_count" (defArgs s_check_count) (defBody s_check_count) (defScope s_check_count) .none kV2 dc2 pm2 an2 cd2 ct2), sl2⟩) (c2 : PySem.W.codeIn K cd2 "check_count" = true) (k2 : PySem.W.keepIn K (.ref f2) = true)
    (a3 : PySem.W.nsIn K mainGlobals "check_node" = some (some (.ref f3))) (l3 : K.lookup f3 = some ⟨oc3, od3, .func (PySem.W.fnOf "check_node" "check_node" (defArgs s_check_node) (defBody s_check_node) (defScope s_check_node) .none kV3 dc3 pm3 an3 cd3 ct3), sl3⟩) (c3 : PySem.W.codeIn K cd3 "check_node" = true) (k3 : PySem.W.keepIn K (.ref f3) = true)
    (a4 : PySem.W.nsIn K mainGlobals "check_row" = some (some (.ref f4))) (l4 : K.lookup f4 = some ⟨oc4, od4, .func (PySem.W.fnOf "check_row" "check_row" (defArgs s_check_row) (defBody s_check_row) (defScope s_check_row) .none kV4 dc4 pm4 an4 cd4 ct4), sl4⟩) (c4 : PySem.W.codeIn K cd4 "check_row" = true) (k4 : PySem.W.keepIn K (.ref f4) = true)
    (a5 : PySem.W.nsIn K mainGlobals "_is_line" = some (some (.ref f5))) (l5 : K.lookup f5 = some ⟨oc5, od5, .func (PySem.W.fnOf "_is_line" "_is_line" (defArgs s__is_line) (defBody s__is_line) (defScope s__is_line) .none kV5 dc5 pm5 an5 cd5 ct5), sl5⟩) (c5 : PySem.W.codeIn K cd5 "_is_line" = true) (k5 : PySem.W.keepIn K (.ref f5) = true)
    (a6 : PySem.W.nsIn K mainGlobals "is_web" = some (some (.ref f6))) (l6 : K.lookup f6 = some ⟨oc6, od6, .func (PySem.W.fnOf "is_web" "is_web" (defArgs s_is_web) (defBody s_is_web) (defScope s_is_web) .none kV6 dc6 pm6 an6 cd6 ct6), sl6⟩) (c6 : PySem.W.codeIn K cd6 "is_web" = true) (k6 : PySem.W.keepIn K (.ref f6) = true)
    (a7 : PySem.W.nsIn K mainGlobals "check_web" = some (some (.ref f7))) (l7 : K.lookup f7 = some ⟨oc7, od7, .func (PySem.W.fnOf "check_web" "check_web" (defArgs s_check_web) (defBody s_check_web) (defScope s_check_web) .none kV7 dc7 pm7 an7 cd7 ct7), sl7⟩) (c7 : PySem.W.codeIn K cd7 "check_web" = true) (k7 : PySem.W.keepIn K (.ref f7) = true)
    (a8 : PySem.W.nsIn K mainGlobals "arrows" = some (some (.ref f8))) (l8 : K.lookup f8 = some ⟨oc8, od8, .func (PySem.W.fnOf "arrows" "arrows" (defArgs s_arrows) (defBody s_arrows) (defScope s_arrows) .none kV8 dc8 pm8 an8 cd8 ct8), sl8⟩) (c8 : PySem.W.codeIn K cd8 "arrows" = true) (k8 : PySem.W.keepIn K (.ref f8) = true)
    (a9 : PySem.W.nsIn K mainGlobals "_is_arrow" = some (some (.ref f9))) (l9 : K.lookup f9 = some ⟨oc9, od9, .func (PySem.W.fnOf "_is_arrow" "_is_arrow" (defArgs s__is_arrow) (defBody s__is_arrow) (defScope s__is_arrow) .none kV9 dc9 pm9 an9 cd9 ct9), sl9⟩) (c9 : PySem.W.codeIn K cd9 "_is_arrow" = true) (k9 : PySem.W.keepIn K (.ref f9) = true)
    (a10 : PySem.W.nsIn K mainGlobals "_are_arrows" = some (some (.ref f10))) (l10 : K.lookup f10 = some ⟨oc10, od10, .func (PySem.W.fnOf "_are_arrows" "_are_arrows" (defArgs s__are_arrows) (defBody s__are_arrows) (defScope s__are_arrows) .none kV10 dc10 pm10 an10 cd10 ct10), sl10⟩) (c10 : PySem.W.codeIn K cd10 "_are_arrows" = true) (k10 : PySem.W.keepIn K (.ref f10) = true)
    (a11 : PySem.W.nsIn K mainGlobals "web_of" = some (some (.ref f11))) (l11 : K.lookup f11 = some ⟨oc11, od11, .func (PySem.W.fnOf "web_of" "web_of" (defArgs s_web_of) (defBody s_web_of) (defScope s_web_of) .none kV11 dc11 pm11 an11 cd11 ct11), sl11⟩) (c11 : PySem.W.codeIn K cd11 "web_of" = true) (k11 : PySem.W.keepIn K (.ref f11) = true)
    (a12 : PySem.W.nsIn K mainGlobals "_many_behind" = some (some (.ref f12))) (l12 : K.lookup f12 = some ⟨oc12, od12, .func (PySem.W.fnOf "_many_behind" "_many_behind" (defArgs s__many_behind) (defBody s__many_behind) (defScope s__many_behind) .none kV12 dc12 pm12 an12 cd12 ct12), sl12⟩) (c12 : PySem.W.codeIn K cd12 "_many_behind" = true) (k12 : PySem.W.keepIn K (.ref f12) = true)
    (a13 : PySem.W.nsIn K mainGlobals "_behind" = some (some (.ref f13))) (l13 : K.lookup f13 = some ⟨oc13, od13, .func (PySem.W.fnOf "_behind" "_behind" (defArgs s__behind) (defBody s__behind) (defScope s__behind) .none kV13 dc13 pm13 an13 cd13 ct13), sl13⟩) (c13 : PySem.W.codeIn K cd13 "_behind" = true) (k13 : PySem.W.keepIn K (.ref f13) = true)
    (a14 : PySem.W.nsIn K mainGlobals "turned" = some (some (.ref f14))) (l14 : K.lookup f14 = some ⟨oc14, od14, .func (PySem.W.fnOf "turned" "turned" (defArgs s_turned) (defBody s_turned) (defScope s_turned) .none kV14 dc14 pm14 an14 cd14 ct14), sl14⟩) (c14 : PySem.W.codeIn K cd14 "turned" = true) (k14 : PySem.W.keepIn K (.ref f14) = true)
    (a15 : PySem.W.nsIn K mainGlobals "turned_all" = some (some (.ref f15))) (l15 : K.lookup f15 = some ⟨oc15, od15, .func (PySem.W.fnOf "turned_all" "turned_all" (defArgs s_turned_all) (defBody s_turned_all) (defScope s_turned_all) .none kV15 dc15 pm15 an15 cd15 ct15), sl15⟩) (c15 : PySem.W.codeIn K cd15 "turned_all" = true) (k15 : PySem.W.keepIn K (.ref f15) = true)
    (a16 : PySem.W.nsIn K mainGlobals "_is_order" = some (some (.ref f16))) (l16 : K.lookup f16 = some ⟨oc16, od16, .func (PySem.W.fnOf "_is_order" "_is_order" (defArgs s__is_order) (defBody s__is_order) (defScope s__is_order) .none kV16 dc16 pm16 an16 cd16 ct16), sl16⟩) (c16 : PySem.W.codeIn K cd16 "_is_order" = true) (k16 : PySem.W.keepIn K (.ref f16) = true)
    (a17 : PySem.W.nsIn K mainGlobals "renamed" = some (some (.ref f17))) (l17 : K.lookup f17 = some ⟨oc17, od17, .func (PySem.W.fnOf "renamed" "renamed" (defArgs s_renamed) (defBody s_renamed) (defScope s_renamed) .none kV17 dc17 pm17 an17 cd17 ct17), sl17⟩) (c17 : PySem.W.codeIn K cd17 "renamed" = true) (k17 : PySem.W.keepIn K (.ref f17) = true)
    (a18 : PySem.W.nsIn K mainGlobals "_part_of" = some (some (.ref f18))) (l18 : K.lookup f18 = some ⟨oc18, od18, .func (PySem.W.fnOf "_part_of" "_part_of" (defArgs s__part_of) (defBody s__part_of) (defScope s__part_of) .none kV18 dc18 pm18 an18 cd18 ct18), sl18⟩) (c18 : PySem.W.codeIn K cd18 "_part_of" = true) (k18 : PySem.W.keepIn K (.ref f18) = true)
    (a19 : PySem.W.nsIn K mainGlobals "parts" = some (some (.ref f19))) (l19 : K.lookup f19 = some ⟨oc19, od19, .func (PySem.W.fnOf "parts" "parts" (defArgs s_parts) (defBody s_parts) (defScope s_parts) .none kV19 dc19 pm19 an19 cd19 ct19), sl19⟩) (c19 : PySem.W.codeIn K cd19 "parts" = true) (k19 : PySem.W.keepIn K (.ref f19) = true)
    (a20 : PySem.W.nsIn K mainGlobals "is_tree" = some (some (.ref f20))) (l20 : K.lookup f20 = some ⟨oc20, od20, .func (PySem.W.fnOf "is_tree" "is_tree" (defArgs s_is_tree) (defBody s_is_tree) (defScope s_is_tree) .none kV20 dc20 pm20 an20 cd20 ct20), sl20⟩) (c20 : PySem.W.codeIn K cd20 "is_tree" = true) (k20 : PySem.W.keepIn K (.ref f20) = true)
    (a21 : PySem.W.nsIn K mainGlobals "_law_taken" = some (some (.ref f21))) (l21 : K.lookup f21 = some ⟨oc21, od21, .func (PySem.W.fnOf "_law_taken" "_law_taken" (defArgs s__law_taken) (defBody s__law_taken) (defScope s__law_taken) .none kV21 dc21 pm21 an21 cd21 ct21), sl21⟩) (c21 : PySem.W.codeIn K cd21 "_law_taken" = true) (k21 : PySem.W.keepIn K (.ref f21) = true)
    (a22 : PySem.W.nsIn K mainGlobals "_law_pick" = some (some (.ref f22))) (l22 : K.lookup f22 = some ⟨oc22, od22, .func (PySem.W.fnOf "_law_pick" "_law_pick" (defArgs s__law_pick) (defBody s__law_pick) (defScope s__law_pick) .none kV22 dc22 pm22 an22 cd22 ct22), sl22⟩) (c22 : PySem.W.codeIn K cd22 "_law_pick" = true) (k22 : PySem.W.keepIn K (.ref f22) = true)
    (a23 : PySem.W.nsIn K mainGlobals "_law_web" = some (some (.ref f23))) (l23 : K.lookup f23 = some ⟨oc23, od23, .func (PySem.W.fnOf "_law_web" "_law_web" (defArgs s__law_web) (defBody s__law_web) (defScope s__law_web) .none kV23 dc23 pm23 an23 cd23 ct23), sl23⟩) (c23 : PySem.W.codeIn K cd23 "_law_web" = true) (k23 : PySem.W.keepIn K (.ref f23) = true)
    (a24 : PySem.W.nsIn K mainGlobals "_law_error" = some (some (.ref f24))) (l24 : K.lookup f24 = some ⟨oc24, od24, .func (PySem.W.fnOf "_law_error" "_law_error" (defArgs s_err) (defBody s_err) (defScope s_err) .none kV24 dc24 pm24 an24 cd24 ct24), sl24⟩) (c24 : PySem.W.codeIn K cd24 "_law_error" = true) (k24 : PySem.W.keepIn K (.ref f24) = true)
    (aL : PySem.W.nsIn K mainGlobals "law" = some (some (.ref fL))) (lL : K.lookup fL = some ⟨ocL, odL, .func (PySem.W.fnOf "law" "law" (defArgs s_law) (defBody s_law) (defScope s_law) .none kVL dcL pmL anL (.ref cL) ctL), slL⟩) (qL : PySem.W.codeIn K (.ref cL) "law" = true)
    (aC0 : PySem.W.nsIn K mainGlobals "WebError" = some (some (.ref C0)))
    (aC1 : PySem.W.nsIn K mainGlobals "BadWeb" = some (some (.ref C1)))
    (aC2 : PySem.W.nsIn K mainGlobals "NoNode" = some (some (.ref C2)))
    (aC3 : PySem.W.nsIn K mainGlobals "BadCount" = some (some (.ref C3)))
    (aC4 : PySem.W.nsIn K mainGlobals "BadArrows" = some (some (.ref C4)))
    (aC5 : PySem.W.nsIn K mainGlobals "TooGreat" = some (some (.ref C5)))
    (aC6 : PySem.W.nsIn K mainGlobals "BadRow" = some (some (.ref C6)))
    (aC7 : PySem.W.nsIn K mainGlobals "BadOrder" = some (some (.ref C7)))
    (xC4 : PySem.W.excIn K C4 [.type "ValueError", .type "Exception", .type "BaseException", .type "object"] "ValueError.__new__" = true) (kC4 : PySem.W.keepIn K (.ref C4) = true) (bC4 : PySem.W.subIn K (.ref C4) (.type "BaseException") = some true) (tC4 : PySem.W.typeIn K (.ref C4) = some (.type "type"))
    (xC3 : PySem.W.excIn K C3 [.type "ValueError", .type "Exception", .type "BaseException", .type "object"] "ValueError.__new__" = true) (kC3 : PySem.W.keepIn K (.ref C3) = true) (bC3 : PySem.W.subIn K (.ref C3) (.type "BaseException") = some true) (tC3 : PySem.W.typeIn K (.ref C3) = some (.type "type"))
    (xC7 : PySem.W.excIn K C7 [.type "ValueError", .type "Exception", .type "BaseException", .type "object"] "ValueError.__new__" = true) (kC7 : PySem.W.keepIn K (.ref C7) = true) (bC7 : PySem.W.subIn K (.ref C7) (.type "BaseException") = some true) (tC7 : PySem.W.typeIn K (.ref C7) = some (.type "type"))
    (xC6 : PySem.W.excIn K C6 [.type "ValueError", .type "Exception", .type "BaseException", .type "object"] "ValueError.__new__" = true) (kC6 : PySem.W.keepIn K (.ref C6) = true) (bC6 : PySem.W.subIn K (.ref C6) (.type "BaseException") = some true) (tC6 : PySem.W.typeIn K (.ref C6) = some (.type "type"))
    (xC1 : PySem.W.excIn K C1 [.type "ValueError", .type "Exception", .type "BaseException", .type "object"] "ValueError.__new__" = true) (kC1 : PySem.W.keepIn K (.ref C1) = true) (bC1 : PySem.W.subIn K (.ref C1) (.type "BaseException") = some true) (tC1 : PySem.W.typeIn K (.ref C1) = some (.type "type"))
    (xC2 : PySem.W.excIn K C2 [.type "ValueError", .type "Exception", .type "BaseException", .type "object"] "ValueError.__new__" = true) (kC2 : PySem.W.keepIn K (.ref C2) = true) (bC2 : PySem.W.subIn K (.ref C2) (.type "BaseException") = some true) (tC2 : PySem.W.typeIn K (.ref C2) = some (.type "type"))
    (xC5 : PySem.W.excIn K C5 [.type "ValueError", .type "Exception", .type "BaseException", .type "object"] "ValueError.__new__" = true) (kC5 : PySem.W.keepIn K (.ref C5) = true) (bC5 : PySem.W.subIn K (.ref C5) (.type "BaseException") = some true) (tC5 : PySem.W.typeIn K (.ref C5) = some (.type "type"))
    (y0_1 : PySem.W.exmOne K (.ref C0) (.ref C1) = some false)
    (y0_2 : PySem.W.exmOne K (.ref C0) (.ref C2) = some false)
    (y0_3 : PySem.W.exmOne K (.ref C0) (.ref C3) = some false)
    (y0_4 : PySem.W.exmOne K (.ref C0) (.ref C4) = some false)
    (y0_5 : PySem.W.exmOne K (.ref C0) (.ref C5) = some false)
    (y0_6 : PySem.W.exmOne K (.ref C0) (.ref C6) = some false)
    (y0_7 : PySem.W.exmOne K (.ref C0) (.ref C7) = some false)
    (y0_0 : PySem.W.exmOne K (.ref C0) (.ref C0) = some true)
    (y1_1 : PySem.W.exmOne K (.ref C1) (.ref C1) = some true)
    (y2_1 : PySem.W.exmOne K (.ref C2) (.ref C1) = some false)
    (y2_2 : PySem.W.exmOne K (.ref C2) (.ref C2) = some true)
    (y3_1 : PySem.W.exmOne K (.ref C3) (.ref C1) = some false)
    (y3_2 : PySem.W.exmOne K (.ref C3) (.ref C2) = some false)
    (y3_3 : PySem.W.exmOne K (.ref C3) (.ref C3) = some true)
    (y4_1 : PySem.W.exmOne K (.ref C4) (.ref C1) = some false)
    (y4_2 : PySem.W.exmOne K (.ref C4) (.ref C2) = some false)
    (y4_3 : PySem.W.exmOne K (.ref C4) (.ref C3) = some false)
    (y4_4 : PySem.W.exmOne K (.ref C4) (.ref C4) = some true)
    (y5_1 : PySem.W.exmOne K (.ref C5) (.ref C1) = some false)
    (y5_2 : PySem.W.exmOne K (.ref C5) (.ref C2) = some false)
    (y5_3 : PySem.W.exmOne K (.ref C5) (.ref C3) = some false)
    (y5_4 : PySem.W.exmOne K (.ref C5) (.ref C4) = some false)
    (y5_5 : PySem.W.exmOne K (.ref C5) (.ref C5) = some true)
    (y6_1 : PySem.W.exmOne K (.ref C6) (.ref C1) = some false)
    (y6_2 : PySem.W.exmOne K (.ref C6) (.ref C2) = some false)
    (y6_3 : PySem.W.exmOne K (.ref C6) (.ref C3) = some false)
    (y6_4 : PySem.W.exmOne K (.ref C6) (.ref C4) = some false)
    (y6_5 : PySem.W.exmOne K (.ref C6) (.ref C5) = some false)
    (y6_6 : PySem.W.exmOne K (.ref C6) (.ref C6) = some true)
    (y7_1 : PySem.W.exmOne K (.ref C7) (.ref C1) = some false)
    (y7_2 : PySem.W.exmOne K (.ref C7) (.ref C2) = some false)
    (y7_3 : PySem.W.exmOne K (.ref C7) (.ref C3) = some false)
    (y7_4 : PySem.W.exmOne K (.ref C7) (.ref C4) = some false)
    (y7_5 : PySem.W.exmOne K (.ref C7) (.ref C5) = some false)
    (y7_6 : PySem.W.exmOne K (.ref C7) (.ref C6) = some false)
    (y7_7 : PySem.W.exmOne K (.ref C7) (.ref C7) = some true)
    (g0 : PySem.W.nsIn K mainGlobals "MOST_ARROWS" = some (some (.int 1000 tk0)))
    (g1 : PySem.W.nsIn K mainGlobals "MOST_NODES" = some (some (.int 6 tk1)))
    (g2 : PySem.W.nsIn K mainGlobals "MOST_TURNS" = some (some (.int 200 tk2)))
    (z0 : PySem.W.nsIn K mainGlobals "abs" = some none)
    (z1 : PySem.W.nsIn K mainGlobals "all" = some none)
    (z2 : PySem.W.nsIn K mainGlobals "bool" = some none)
    (z3 : PySem.W.nsIn K mainGlobals "int" = some none)
    (z4 : PySem.W.nsIn K mainGlobals "isinstance" = some none)
    (z5 : PySem.W.nsIn K mainGlobals "len" = some none)
    (z6 : PySem.W.nsIn K mainGlobals "list" = some none)
    (z7 : PySem.W.nsIn K mainGlobals "max" = some none)
    (z8 : PySem.W.nsIn K mainGlobals "min" = some none)
    (z9 : PySem.W.nsIn K mainGlobals "range" = some none)
    (z10 : PySem.W.nsIn K mainGlobals "tuple" = some none)
    (hC : PySem.W.codeHdIn K cL Pt = true) (hN : K.lookup Pt = none) (hT : h.get? Pt = some { cls := .none, data := .fields #[] }) :
    LamX.LawAtS l w K (L2.CX l.prog w) 20 63 "script" mg fa h := by
  have e := hfa.symm.trans (PySem.W.mg_of X G aL)
  cases e
  have T : Txt K mg (clOf C0 C1 C2 C3 C4 C5 C6 C7) :=
    { c_MOST_ARROWS := ⟨_, ⟨_, rfl⟩, PySem.W.mg_of X G g0⟩,
      c_MOST_NODES := ⟨_, ⟨_, rfl⟩, PySem.W.mg_of X G g1⟩,
      c_MOST_TURNS := ⟨_, ⟨_, rfl⟩, PySem.W.mg_of X G g2⟩,
      e_BadArrows := ⟨xC4, PySem.W.mg_of X G aC4, kC4, bC4, tC4⟩,
      e_BadCount := ⟨xC3, PySem.W.mg_of X G aC3, kC3, bC3, tC3⟩,
      e_BadOrder := ⟨xC7, PySem.W.mg_of X G aC7, kC7, bC7, tC7⟩,
      e_BadRow := ⟨xC6, PySem.W.mg_of X G aC6, kC6, bC6, tC6⟩,
      e_BadWeb := ⟨xC1, PySem.W.mg_of X G aC1, kC1, bC1, tC1⟩,
      e_NoNode := ⟨xC2, PySem.W.mg_of X G aC2, kC2, bC2, tC2⟩,
      e_TooGreat := ⟨xC5, PySem.W.mg_of X G aC5, kC5, bC5, tC5⟩,
      n_abs := PySem.W.mg_none_of X G z0,
      n_all := PySem.W.mg_none_of X G z1,
      n_bool := PySem.W.mg_none_of X G z2,
      n_int := PySem.W.mg_none_of X G z3,
      n_isinstance := PySem.W.mg_none_of X G z4,
      n_len := PySem.W.mg_none_of X G z5,
      n_list := PySem.W.mg_none_of X G z6,
      n_max := PySem.W.mg_none_of X G z7,
      n_min := PySem.W.mg_none_of X G z8,
      n_range := PySem.W.mg_none_of X G z9,
      n_tuple := PySem.W.mg_none_of X G z10 }
  have F0 := fun_mk (st := s_is_whole) l0 c0 k0
  have b0 := F0.binds (ps := P_is_whole) fun _ _ _ _ _ _ us hl => match us, hl with | [_, _, _], _ => rfl
  have F1 := fun_mk (st := s_is_node) l1 c1 k1
  have b1 := F1.binds (ps := P_is_node) fun _ _ _ _ _ _ us hl => match us, hl with | [_, _], _ => rfl
  have F2 := fun_mk (st := s_check_count) l2 c2 k2
  have b2 := F2.binds (ps := P_check_count) fun _ _ _ _ _ _ us hl => match us, hl with | [_], _ => rfl
  have F3 := fun_mk (st := s_check_node) l3 c3 k3
  have b3 := F3.binds (ps := P_check_node) fun _ _ _ _ _ _ us hl => match us, hl with | [_, _], _ => rfl
  have F4 := fun_mk (st := s_check_row) l4 c4 k4
  have b4 := F4.binds (ps := P_check_row) fun _ _ _ _ _ _ us hl => match us, hl with | [_, _], _ => rfl
  have F5 := fun_mk (st := s__is_line) l5 c5 k5
  have b5 := F5.binds (ps := P__is_line) fun _ _ _ _ _ _ us hl => match us, hl with | [_, _], _ => rfl
  have F6 := fun_mk (st := s_is_web) l6 c6 k6
  have b6 := F6.binds (ps := P_is_web) fun _ _ _ _ _ _ us hl => match us, hl with | [_], _ => rfl
  have F7 := fun_mk (st := s_check_web) l7 c7 k7
  have b7 := F7.binds (ps := P_check_web) fun _ _ _ _ _ _ us hl => match us, hl with | [_], _ => rfl
  have F8 := fun_mk (st := s_arrows) l8 c8 k8
  have b8 := F8.binds (ps := P_arrows) fun _ _ _ _ _ _ us hl => match us, hl with | [_], _ => rfl
  have F9 := fun_mk (st := s__is_arrow) l9 c9 k9
  have b9 := F9.binds (ps := P__is_arrow) fun _ _ _ _ _ _ us hl => match us, hl with | [_, _], _ => rfl
  have F10 := fun_mk (st := s__are_arrows) l10 c10 k10
  have b10 := F10.binds (ps := P__are_arrows) fun _ _ _ _ _ _ us hl => match us, hl with | [_, _], _ => rfl
  have F11 := fun_mk (st := s_web_of) l11 c11 k11
  have b11 := F11.binds (ps := P_web_of) fun _ _ _ _ _ _ us hl => match us, hl with | [_, _], _ => rfl
  have F12 := fun_mk (st := s__many_behind) l12 c12 k12
  have b12 := F12.binds (ps := P__many_behind) fun _ _ _ _ _ _ us hl => match us, hl with | [_, _, _, _], _ => rfl
  have F13 := fun_mk (st := s__behind) l13 c13 k13
  have b13 := F13.binds (ps := P__behind) fun _ _ _ _ _ _ us hl => match us, hl with | [_, _], _ => rfl
  have F14 := fun_mk (st := s_turned) l14 c14 k14
  have b14 := F14.binds (ps := P_turned) fun _ _ _ _ _ _ us hl => match us, hl with | [_, _], _ => rfl
  have F15 := fun_mk (st := s_turned_all) l15 c15 k15
  have b15 := F15.binds (ps := P_turned_all) fun _ _ _ _ _ _ us hl => match us, hl with | [_, _], _ => rfl
  have F16 := fun_mk (st := s__is_order) l16 c16 k16
  have b16 := F16.binds (ps := P__is_order) fun _ _ _ _ _ _ us hl => match us, hl with | [_, _], _ => rfl
  have F17 := fun_mk (st := s_renamed) l17 c17 k17
  have b17 := F17.binds (ps := P_renamed) fun _ _ _ _ _ _ us hl => match us, hl with | [_, _], _ => rfl
  have F18 := fun_mk (st := s__part_of) l18 c18 k18
  have b18 := F18.binds (ps := P__part_of) fun _ _ _ _ _ _ us hl => match us, hl with | [_, _], _ => rfl
  have F19 := fun_mk (st := s_parts) l19 c19 k19
  have b19 := F19.binds (ps := P_parts) fun _ _ _ _ _ _ us hl => match us, hl with | [_], _ => rfl
  have F20 := fun_mk (st := s_is_tree) l20 c20 k20
  have b20 := F20.binds (ps := P_is_tree) fun _ _ _ _ _ _ us hl => match us, hl with | [_], _ => rfl
  have F21 := fun_mk (st := s__law_taken) l21 c21 k21
  have b21 := F21.binds (ps := P__law_taken) fun _ _ _ _ _ _ us hl => match us, hl with | [_, _], _ => rfl
  have F22 := fun_mk (st := s__law_pick) l22 c22 k22
  have b22 := F22.binds (ps := P__law_pick) fun _ _ _ _ _ _ us hl => match us, hl with | [_, _], _ => rfl
  have F23 := fun_mk (st := s__law_web) l23 c23 k23
  have b23 := F23.binds (ps := P__law_web) fun _ _ _ _ _ _ us hl => match us, hl with | [_, _, _], _ => rfl
  have FL : FunK K "law" "law" s_law fa (PySem.W.fnOf "law" "law" (defArgs s_law) (defBody s_law) (defScope s_law) .none kVL dcL pmL anL (.ref cL) ctL) cL := ⟨_, _, _, _, _, _, _, _, rfl, lL, qL⟩
  refine ⟨PySem.W.fnOf "law" "law" (defArgs s_law) (defBody s_law) (defScope s_law) .none kVL dcL pmL anL (.ref cL) ctL, [(cL, Pt)], spL K Pt, fun p hp => ?_, fun p hp => ?_, fun p hp => ?_, fun s u => .of_eq rfl, fun H a ns _ _ hH hS => ⟨a, ns, rfl, hH (cL, Pt) (List.mem_singleton.mpr rfl), hS, fun _ => rfl⟩, fun base _ _ hTB => ?_⟩
  · rw [List.mem_singleton.mp hp]; exact hT
  · rw [List.mem_singleton.mp hp]; exact hN
  · rw [List.mem_singleton.mp hp]; exact PySem.W.codeHd_of_K X hC
  have TB := hTB (cL, Pt) (List.mem_singleton.mpr rfl)
  have GE : ErrOk l.prog w K mg base "_law_error" (csE (clOf C0 C1 C2 C3 C4 C5 C6 C7)) "" := err_ok (PySem.W.mg_of X G a24) l24 c24 k24 (PySem.W.mg_of X G aC0) (PySem.W.mg_of X G aC1) (PySem.W.mg_of X G aC2) (PySem.W.mg_of X G aC3) (PySem.W.mg_of X G aC4) (PySem.W.mg_of X G aC5) (PySem.W.mg_of X G aC6) (PySem.W.mg_of X G aC7)
  have tells : ∀ cells, Tells (Tx.mk l.prog w K [(Pt, qlL)] (clOf C0 C1 C2 C3 C4 C5 C6 C7) qlL cells lamL) (csE (clOf C0 C1 C2 C3 C4 C5 C6 C7)) nmE := fun cells c z Q d H hn hq => by
    unfold nmE at hn
    split at hn
    · cases hn
      exact ⟨true, y1_1, fun _ => hq, fun z => (by cases z)⟩
    · cases hn
      exact ⟨false, y2_1, fun z => (by cases z), fun _ => ⟨true, y2_2, fun _ => hq, fun z => (by cases z)⟩⟩
    · cases hn
      exact ⟨false, y3_1, fun z => (by cases z), fun _ => ⟨false, y3_2, fun z => (by cases z), fun _ => ⟨true, y3_3, fun _ => hq, fun z => (by cases z)⟩⟩⟩
    · cases hn
      exact ⟨false, y4_1, fun z => (by cases z), fun _ => ⟨false, y4_2, fun z => (by cases z), fun _ => ⟨false, y4_3, fun z => (by cases z), fun _ => ⟨true, y4_4, fun _ => hq, fun z => (by cases z)⟩⟩⟩⟩
    · cases hn
      exact ⟨false, y5_1, fun z => (by cases z), fun _ => ⟨false, y5_2, fun z => (by cases z), fun _ => ⟨false, y5_3, fun z => (by cases z), fun _ => ⟨false, y5_4, fun z => (by cases z), fun _ => ⟨true, y5_5, fun _ => hq, fun z => (by cases z)⟩⟩⟩⟩⟩
    · cases hn
      exact ⟨false, y6_1, fun z => (by cases z), fun _ => ⟨false, y6_2, fun z => (by cases z), fun _ => ⟨false, y6_3, fun z => (by cases z), fun _ => ⟨false, y6_4, fun z => (by cases z), fun _ => ⟨false, y6_5, fun z => (by cases z), fun _ => ⟨true, y6_6, fun _ => hq, fun z => (by cases z)⟩⟩⟩⟩⟩⟩
    · cases hn
      exact ⟨false, y7_1, fun z => (by cases z), fun _ => ⟨false, y7_2, fun z => (by cases z), fun _ => ⟨false, y7_3, fun z => (by cases z), fun _ => ⟨false, y7_4, fun z => (by cases z), fun _ => ⟨false, y7_5, fun z => (by cases z), fun _ => ⟨false, y7_6, fun z => (by cases z), fun _ => ⟨true, y7_7, fun _ => hq, fun z => (by cases z)⟩⟩⟩⟩⟩⟩⟩
    · cases hn
      exact ⟨false, y0_1, fun z => (by cases z), fun _ => ⟨false, y0_2, fun z => (by cases z), fun _ => ⟨false, y0_3, fun z => (by cases z), fun _ => ⟨false, y0_4, fun z => (by cases z), fun _ => ⟨false, y0_5, fun z => (by cases z), fun _ => ⟨false, y0_6, fun z => (by cases z), fun _ => ⟨false, y0_7, fun z => (by cases z), fun _ => ⟨true, y0_0, fun _ => hq, fun z => (by cases z)⟩⟩⟩⟩⟩⟩⟩⟩
    · cases hn
  have o_is_whole : ∀ cells, DefOk l.prog w K mg base (Tx.mk l.prog w K [(Pt, qlL)] (clOf C0 C1 C2 C3 C4 C5 C6 C7) qlL cells lamL) "is_whole" P_is_whole 1 d_is_whole := fun cells => ok_is_whole T F0 (PySem.W.mg_of X G a0) b0 
  have o_is_node : ∀ cells, DefOk l.prog w K mg base (Tx.mk l.prog w K [(Pt, qlL)] (clOf C0 C1 C2 C3 C4 C5 C6 C7) qlL cells lamL) "is_node" P_is_node 2 d_is_node := fun cells => ok_is_node T F1 (PySem.W.mg_of X G a1) b1 (o_is_whole cells)
  have o_check_count : ∀ cells, DefOk l.prog w K mg base (Tx.mk l.prog w K [(Pt, qlL)] (clOf C0 C1 C2 C3 C4 C5 C6 C7) qlL cells lamL) "check_count" P_check_count 2 d_check_count := fun cells => ok_check_count T F2 (PySem.W.mg_of X G a2) b2 (o_is_whole cells)
  have o_check_node : ∀ cells, DefOk l.prog w K mg base (Tx.mk l.prog w K [(Pt, qlL)] (clOf C0 C1 C2 C3 C4 C5 C6 C7) qlL cells lamL) "check_node" P_check_node 3 d_check_node := fun cells => ok_check_node T F3 (PySem.W.mg_of X G a3) b3 (o_is_node cells)
  have o_check_row : ∀ cells, DefOk l.prog w K mg base (Tx.mk l.prog w K [(Pt, qlL)] (clOf C0 C1 C2 C3 C4 C5 C6 C7) qlL cells lamL) "check_row" P_check_row 3 d_check_row := fun cells => ok_check_row T F4 (PySem.W.mg_of X G a4) b4 (o_is_node cells)
  have o__is_line : ∀ cells, DefOk l.prog w K mg base (Tx.mk l.prog w K [(Pt, qlL)] (clOf C0 C1 C2 C3 C4 C5 C6 C7) qlL cells lamL) "_is_line" P__is_line 2 d__is_line := fun cells => ok__is_line T F5 (PySem.W.mg_of X G a5) b5 (o_is_whole cells)
  have o_is_web : ∀ cells, DefOk l.prog w K mg base (Tx.mk l.prog w K [(Pt, qlL)] (clOf C0 C1 C2 C3 C4 C5 C6 C7) qlL cells lamL) "is_web" P_is_web 3 d_is_web := fun cells => ok_is_web T F6 (PySem.W.mg_of X G a6) b6 (o__is_line cells)
  have o_check_web : ∀ cells, DefOk l.prog w K mg base (Tx.mk l.prog w K [(Pt, qlL)] (clOf C0 C1 C2 C3 C4 C5 C6 C7) qlL cells lamL) "check_web" P_check_web 4 d_check_web := fun cells => ok_check_web T F7 (PySem.W.mg_of X G a7) b7 (o_is_web cells)
  have o_arrows : ∀ cells, DefOk l.prog w K mg base (Tx.mk l.prog w K [(Pt, qlL)] (clOf C0 C1 C2 C3 C4 C5 C6 C7) qlL cells lamL) "arrows" P_arrows 5 d_arrows := fun cells => ok_arrows T F8 (PySem.W.mg_of X G a8) b8 (o_check_web cells)
  have o__is_arrow : ∀ cells, DefOk l.prog w K mg base (Tx.mk l.prog w K [(Pt, qlL)] (clOf C0 C1 C2 C3 C4 C5 C6 C7) qlL cells lamL) "_is_arrow" P__is_arrow 3 d__is_arrow := fun cells => ok__is_arrow T F9 (PySem.W.mg_of X G a9) b9 (o_is_node cells) (o_is_whole cells)
  have o__are_arrows : ∀ cells, DefOk l.prog w K mg base (Tx.mk l.prog w K [(Pt, qlL)] (clOf C0 C1 C2 C3 C4 C5 C6 C7) qlL cells lamL) "_are_arrows" P__are_arrows 4 d__are_arrows := fun cells => ok__are_arrows T F10 (PySem.W.mg_of X G a10) b10 (o__is_arrow cells)
  have o_web_of : ∀ cells, DefOk l.prog w K mg base (Tx.mk l.prog w K [(Pt, qlL)] (clOf C0 C1 C2 C3 C4 C5 C6 C7) qlL cells lamL) "web_of" P_web_of 5 d_web_of := fun cells => ok_web_of T F11 (PySem.W.mg_of X G a11) b11 (o_check_count cells) (o__are_arrows cells)
  have o__many_behind : ∀ cells, DefOk l.prog w K mg base (Tx.mk l.prog w K [(Pt, qlL)] (clOf C0 C1 C2 C3 C4 C5 C6 C7) qlL cells lamL) "_many_behind" P__many_behind 1 d__many_behind := fun cells => ok__many_behind T F12 (PySem.W.mg_of X G a12) b12 
  have o__behind : ∀ cells, DefOk l.prog w K mg base (Tx.mk l.prog w K [(Pt, qlL)] (clOf C0 C1 C2 C3 C4 C5 C6 C7) qlL cells lamL) "_behind" P__behind 2 d__behind := fun cells => ok__behind T F13 (PySem.W.mg_of X G a13) b13 (o__many_behind cells)
  have o_turned : ∀ cells, DefOk l.prog w K mg base (Tx.mk l.prog w K [(Pt, qlL)] (clOf C0 C1 C2 C3 C4 C5 C6 C7) qlL cells lamL) "turned" P_turned 5 d_turned := fun cells => ok_turned T F14 (PySem.W.mg_of X G a14) b14 (o_check_web cells) (o_check_node cells) (o__behind cells)
  have o_turned_all : ∀ cells, DefOk l.prog w K mg base (Tx.mk l.prog w K [(Pt, qlL)] (clOf C0 C1 C2 C3 C4 C5 C6 C7) qlL cells lamL) "turned_all" P_turned_all 5 d_turned_all := fun cells => ok_turned_all T F15 (PySem.W.mg_of X G a15) b15 (o_check_web cells) (o_check_row cells) (o__behind cells)
  have o__is_order : ∀ cells, DefOk l.prog w K mg base (Tx.mk l.prog w K [(Pt, qlL)] (clOf C0 C1 C2 C3 C4 C5 C6 C7) qlL cells lamL) "_is_order" P__is_order 3 d__is_order := fun cells => ok__is_order T F16 (PySem.W.mg_of X G a16) b16 (o_is_node cells)
  have o_renamed : ∀ cells, DefOk l.prog w K mg base (Tx.mk l.prog w K [(Pt, qlL)] (clOf C0 C1 C2 C3 C4 C5 C6 C7) qlL cells lamL) "renamed" P_renamed 5 d_renamed := fun cells => ok_renamed T F17 (PySem.W.mg_of X G a17) b17 (o_check_web cells) (o__is_order cells)
  have o__part_of : ∀ cells, DefOk l.prog w K mg base (Tx.mk l.prog w K [(Pt, qlL)] (clOf C0 C1 C2 C3 C4 C5 C6 C7) qlL cells lamL) "_part_of" P__part_of 1 d__part_of := fun cells => ok__part_of T F18 (PySem.W.mg_of X G a18) b18 
  have o_parts : ∀ cells, DefOk l.prog w K mg base (Tx.mk l.prog w K [(Pt, qlL)] (clOf C0 C1 C2 C3 C4 C5 C6 C7) qlL cells lamL) "parts" P_parts 5 d_parts := fun cells => ok_parts T F19 (PySem.W.mg_of X G a19) b19 (o_check_web cells) (o__part_of cells)
  have o_is_tree : ∀ cells, DefOk l.prog w K mg base (Tx.mk l.prog w K [(Pt, qlL)] (clOf C0 C1 C2 C3 C4 C5 C6 C7) qlL cells lamL) "is_tree" P_is_tree 6 d_is_tree := fun cells => ok_is_tree T F20 (PySem.W.mg_of X G a20) b20 (o_check_web cells) (o_arrows cells) (o_parts cells)
  have o__law_taken : ∀ cells, DefOk l.prog w K mg base (Tx.mk l.prog w K [(Pt, qlL)] (clOf C0 C1 C2 C3 C4 C5 C6 C7) qlL cells lamL) "_law_taken" P__law_taken 1 d__law_taken := fun cells => ok__law_taken T F21 (PySem.W.mg_of X G a21) b21 
  have o__law_pick : ∀ cells, DefOk l.prog w K mg base (Tx.mk l.prog w K [(Pt, qlL)] (clOf C0 C1 C2 C3 C4 C5 C6 C7) qlL cells lamL) "_law_pick" P__law_pick 2 d__law_pick := fun cells => ok__law_pick T F22 (PySem.W.mg_of X G a22) b22 (o__law_taken cells)
  have o__law_web : ∀ cells, DefOk l.prog w K mg base (Tx.mk l.prog w K [(Pt, qlL)] (clOf C0 C1 C2 C3 C4 C5 C6 C7) qlL cells lamL) "_law_web" P__law_web 3 d__law_web := fun cells => ok__law_web T F23 (PySem.W.mg_of X G a23) b23 (o__law_taken cells) (o__law_pick cells)
  have fn := FL.okX (P := l.prog) (w := w) (mg := mg) (base := base) (k := 8) (sp := spL K Pt) sc_law (fun vs H Q E hv => by obtain ⟨a, ns, rfl, _⟩ := hv; rfl) (fun A outer s H vs Q E hr hv => by
    obtain ⟨a, ns, rfl, hP, hS, hQ⟩ := hv
    refine ⟨_, law_body (Tb := [(Pt, qlL)]) (cl := (clOf C0 C1 C2 C3 C4 C5 C6 C7)) T GE (tells _) TB (List.mem_singleton.mpr rfl) (fun p hp _ => by rw [List.mem_singleton.mp hp]) (o__law_web _) (o__law_pick _) (o_arrows _) (o_turned _) (o_turned_all _) (o_renamed _) (o_parts _) (o_is_tree _) (o_web_of _) (o__law_taken _) hr, ?_⟩
    obtain ⟨o, ho, R⟩ := start_rel (t := Tx.mk l.prog w K [(Pt, qlL)] (clOf C0 C1 C2 C3 C4 C5 C6 C7) qlL (cellsL s) lamL) (fun p hp => by rw [List.mem_singleton.mp hp]) hP hS
    obtain ⟨S', e⟩ := law_true ho
    exact ⟨[a], _, [o], _, R, rs_start (as := [.ref 0]) (vs := [V.ref a]) 14 (.cons ⟨a, rfl, rfl⟩ .nil), e, fun r' H' v ex R' ra => by cases ra; exact hQ H'⟩)
  exact fn.mono (by decide)
end Law
set_option maxRecDepth 100000
open PySem PySem.W PyProof.Rows
set_option maxRecDepth 100000 in
set_option maxHeartbeats 0 in
theorem PySem.Challenge.cw_dartwebs_k01_webs_refused_holds : PySem.Challenge.rw_dartwebs_k01_webs_refused.Holds := by
  w_on; o_law; k_head; (case hw => w_witness2)
  k_fill
  refine LamX.walk_ofTs (l := PySem.Challenge.rw_dartwebs_k01_webs_refused) (n := 63) (k := 20) (x := "script") (CX := fun w => L2.CX (PySem.Challenge.rw_dartwebs_k01_webs_refused).prog w) rfl (by decide) rfl ⟨rfl, by decide, by decide⟩ (fun w h Y => PySem.W.km_in_of Y) ?F ?C
  case C =>
    intro w H s e s' h
    obtain ⟨_, _, _, _, _, _, _, _, _, _, _, _, z⟩ := h
    exact z.elim
  case F =>
    intro w mg fa h Y KX G hmg
    refine' Law.all_mk (Pt := 266) KX G hmg ?m_a0 ?m_l0 ?m_c0 ?m_k0 ?m_a1 ?m_l1 ?m_c1 ?m_k1 ?m_a2 ?m_l2 ?m_c2 ?m_k2 ?m_a3 ?m_l3 ?m_c3 ?m_k3 ?m_a4 ?m_l4 ?m_c4 ?m_k4 ?m_a5 ?m_l5 ?m_c5 ?m_k5 ?m_a6 ?m_l6 ?m_c6 ?m_k6 ?m_a7 ?m_l7 ?m_c7 ?m_k7 ?m_a8 ?m_l8 ?m_c8 ?m_k8 ?m_a9 ?m_l9 ?m_c9 ?m_k9 ?m_a10 ?m_l10 ?m_c10 ?m_k10 ?m_a11 ?m_l11 ?m_c11 ?m_k11 ?m_a12 ?m_l12 ?m_c12 ?m_k12 ?m_a13 ?m_l13 ?m_c13 ?m_k13 ?m_a14 ?m_l14 ?m_c14 ?m_k14 ?m_a15 ?m_l15 ?m_c15 ?m_k15 ?m_a16 ?m_l16 ?m_c16 ?m_k16 ?m_a17 ?m_l17 ?m_c17 ?m_k17 ?m_a18 ?m_l18 ?m_c18 ?m_k18 ?m_a19 ?m_l19 ?m_c19 ?m_k19 ?m_a20 ?m_l20 ?m_c20 ?m_k20 ?m_a21 ?m_l21 ?m_c21 ?m_k21 ?m_a22 ?m_l22 ?m_c22 ?m_k22 ?m_a23 ?m_l23 ?m_c23 ?m_k23 ?m_a24 ?m_l24 ?m_c24 ?m_k24 ?m_aL ?m_lL ?m_qL ?m_aC0 ?m_aC1 ?m_aC2 ?m_aC3 ?m_aC4 ?m_aC5 ?m_aC6 ?m_aC7 ?m_xC4 ?m_kC4 ?m_bC4 ?m_tC4 ?m_xC3 ?m_kC3 ?m_bC3 ?m_tC3 ?m_xC7 ?m_kC7 ?m_bC7 ?m_tC7 ?m_xC6 ?m_kC6 ?m_bC6 ?m_tC6 ?m_xC1 ?m_kC1 ?m_bC1 ?m_tC1 ?m_xC2 ?m_kC2 ?m_bC2 ?m_tC2 ?m_xC5 ?m_kC5 ?m_bC5 ?m_tC5 ?m_y0_1 ?m_y0_2 ?m_y0_3 ?m_y0_4 ?m_y0_5 ?m_y0_6 ?m_y0_7 ?m_y0_0 ?m_y1_1 ?m_y2_1 ?m_y2_2 ?m_y3_1 ?m_y3_2 ?m_y3_3 ?m_y4_1 ?m_y4_2 ?m_y4_3 ?m_y4_4 ?m_y5_1 ?m_y5_2 ?m_y5_3 ?m_y5_4 ?m_y5_5 ?m_y6_1 ?m_y6_2 ?m_y6_3 ?m_y6_4 ?m_y6_5 ?m_y6_6 ?m_y7_1 ?m_y7_2 ?m_y7_3 ?m_y7_4 ?m_y7_5 ?m_y7_6 ?m_y7_7 ?m_g0 ?m_g1 ?m_g2 ?m_z0 ?m_z1 ?m_z2 ?m_z3 ?m_z4 ?m_z5 ?m_z6 ?m_z7 ?m_z8 ?m_z9 ?m_z10 ?m_hC ?m_hN ?m_hT
    (case m_a0 => first | k_is | k_exc)
    (case m_l0 => first | k_is | k_exc)
    (case m_c0 => first | k_is | k_exc)
    (case m_k0 => first | k_is | k_exc)
    (case m_a1 => first | k_is | k_exc)
    (case m_l1 => first | k_is | k_exc)
    (case m_c1 => first | k_is | k_exc)
    (case m_k1 => first | k_is | k_exc)
    (case m_a2 => first | k_is | k_exc)
    (case m_l2 => first | k_is | k_exc)
    (case m_c2 => first | k_is | k_exc)
    (case m_k2 => first | k_is | k_exc)
    (case m_a3 => first | k_is | k_exc)
    (case m_l3 => first | k_is | k_exc)
    (case m_c3 => first | k_is | k_exc)
    (case m_k3 => first | k_is | k_exc)
    (case m_a4 => first | k_is | k_exc)
    (case m_l4 => first | k_is | k_exc)
    (case m_c4 => first | k_is | k_exc)
    (case m_k4 => first | k_is | k_exc)
    (case m_a5 => first | k_is | k_exc)
    (case m_l5 => first | k_is | k_exc)
    (case m_c5 => first | k_is | k_exc)
    (case m_k5 => first | k_is | k_exc)
    (case m_a6 => first | k_is | k_exc)
    (case m_l6 => first | k_is | k_exc)
    (case m_c6 => first | k_is | k_exc)
    (case m_k6 => first | k_is | k_exc)
    (case m_a7 => first | k_is | k_exc)
    (case m_l7 => first | k_is | k_exc)
    (case m_c7 => first | k_is | k_exc)
    (case m_k7 => first | k_is | k_exc)
    (case m_a8 => first | k_is | k_exc)
    (case m_l8 => first | k_is | k_exc)
    (case m_c8 => first | k_is | k_exc)
    (case m_k8 => first | k_is | k_exc)
    (case m_a9 => first | k_is | k_exc)
    (case m_l9 => first | k_is | k_exc)
    (case m_c9 => first | k_is | k_exc)
    (case m_k9 => first | k_is | k_exc)
    (case m_a10 => first | k_is | k_exc)
    (case m_l10 => first | k_is | k_exc)
    (case m_c10 => first | k_is | k_exc)
    (case m_k10 => first | k_is | k_exc)
    (case m_a11 => first | k_is | k_exc)
    (case m_l11 => first | k_is | k_exc)
    (case m_c11 => first | k_is | k_exc)
    (case m_k11 => first | k_is | k_exc)
    (case m_a12 => first | k_is | k_exc)
    (case m_l12 => first | k_is | k_exc)
    (case m_c12 => first | k_is | k_exc)
    (case m_k12 => first | k_is | k_exc)
    (case m_a13 => first | k_is | k_exc)
    (case m_l13 => first | k_is | k_exc)
    (case m_c13 => first | k_is | k_exc)
    (case m_k13 => first | k_is | k_exc)
    (case m_a14 => first | k_is | k_exc)
    (case m_l14 => first | k_is | k_exc)
    (case m_c14 => first | k_is | k_exc)
    (case m_k14 => first | k_is | k_exc)
    (case m_a15 => first | k_is | k_exc)
    (case m_l15 => first | k_is | k_exc)
    (case m_c15 => first | k_is | k_exc)
    (case m_k15 => first | k_is | k_exc)
    (case m_a16 => first | k_is | k_exc)
    (case m_l16 => first | k_is | k_exc)
    (case m_c16 => first | k_is | k_exc)
    (case m_k16 => first | k_is | k_exc)
    (case m_a17 => first | k_is | k_exc)
    (case m_l17 => first | k_is | k_exc)
    (case m_c17 => first | k_is | k_exc)
    (case m_k17 => first | k_is | k_exc)
    (case m_a18 => first | k_is | k_exc)
    (case m_l18 => first | k_is | k_exc)
    (case m_c18 => first | k_is | k_exc)
    (case m_k18 => first | k_is | k_exc)
    (case m_a19 => first | k_is | k_exc)
    (case m_l19 => first | k_is | k_exc)
    (case m_c19 => first | k_is | k_exc)
    (case m_k19 => first | k_is | k_exc)
    (case m_a20 => first | k_is | k_exc)
    (case m_l20 => first | k_is | k_exc)
    (case m_c20 => first | k_is | k_exc)
    (case m_k20 => first | k_is | k_exc)
    (case m_a21 => first | k_is | k_exc)
    (case m_l21 => first | k_is | k_exc)
    (case m_c21 => first | k_is | k_exc)
    (case m_k21 => first | k_is | k_exc)
    (case m_a22 => first | k_is | k_exc)
    (case m_l22 => first | k_is | k_exc)
    (case m_c22 => first | k_is | k_exc)
    (case m_k22 => first | k_is | k_exc)
    (case m_a23 => first | k_is | k_exc)
    (case m_l23 => first | k_is | k_exc)
    (case m_c23 => first | k_is | k_exc)
    (case m_k23 => first | k_is | k_exc)
    (case m_a24 => first | k_is | k_exc)
    (case m_l24 => first | k_is | k_exc)
    (case m_c24 => first | k_is | k_exc)
    (case m_k24 => first | k_is | k_exc)
    (case m_aL => first | k_is | k_exc)
    (case m_lL => first | k_is | k_exc)
    (case m_qL => first | k_is | k_exc)
    (case m_aC0 => first | k_is | k_exc)
    (case m_aC1 => first | k_is | k_exc)
    (case m_aC2 => first | k_is | k_exc)
    (case m_aC3 => first | k_is | k_exc)
    (case m_aC4 => first | k_is | k_exc)
    (case m_aC5 => first | k_is | k_exc)
    (case m_aC6 => first | k_is | k_exc)
    (case m_aC7 => first | k_is | k_exc)
    (case m_xC4 => first | k_is | k_exc)
    (case m_kC4 => first | k_is | k_exc)
    (case m_bC4 => first | k_is | k_exc)
    (case m_tC4 => first | k_is | k_exc)
    (case m_xC3 => first | k_is | k_exc)
    (case m_kC3 => first | k_is | k_exc)
    (case m_bC3 => first | k_is | k_exc)
    (case m_tC3 => first | k_is | k_exc)
    (case m_xC7 => first | k_is | k_exc)
    (case m_kC7 => first | k_is | k_exc)
    (case m_bC7 => first | k_is | k_exc)
    (case m_tC7 => first | k_is | k_exc)
    (case m_xC6 => first | k_is | k_exc)
    (case m_kC6 => first | k_is | k_exc)
    (case m_bC6 => first | k_is | k_exc)
    (case m_tC6 => first | k_is | k_exc)
    (case m_xC1 => first | k_is | k_exc)
    (case m_kC1 => first | k_is | k_exc)
    (case m_bC1 => first | k_is | k_exc)
    (case m_tC1 => first | k_is | k_exc)
    (case m_xC2 => first | k_is | k_exc)
    (case m_kC2 => first | k_is | k_exc)
    (case m_bC2 => first | k_is | k_exc)
    (case m_tC2 => first | k_is | k_exc)
    (case m_xC5 => first | k_is | k_exc)
    (case m_kC5 => first | k_is | k_exc)
    (case m_bC5 => first | k_is | k_exc)
    (case m_tC5 => first | k_is | k_exc)
    (case m_y0_1 => refine PySem.W.exm_ref ?_ ?_ ?_ ?_ <;> k_is)
    (case m_y0_2 => refine PySem.W.exm_ref ?_ ?_ ?_ ?_ <;> k_is)
    (case m_y0_3 => refine PySem.W.exm_ref ?_ ?_ ?_ ?_ <;> k_is)
    (case m_y0_4 => refine PySem.W.exm_ref ?_ ?_ ?_ ?_ <;> k_is)
    (case m_y0_5 => refine PySem.W.exm_ref ?_ ?_ ?_ ?_ <;> k_is)
    (case m_y0_6 => refine PySem.W.exm_ref ?_ ?_ ?_ ?_ <;> k_is)
    (case m_y0_7 => refine PySem.W.exm_ref ?_ ?_ ?_ ?_ <;> k_is)
    (case m_y0_0 => refine PySem.W.exm_ref ?_ ?_ ?_ ?_ <;> k_is)
    (case m_y1_1 => refine PySem.W.exm_ref ?_ ?_ ?_ ?_ <;> k_is)
    (case m_y2_1 => refine PySem.W.exm_ref ?_ ?_ ?_ ?_ <;> k_is)
    (case m_y2_2 => refine PySem.W.exm_ref ?_ ?_ ?_ ?_ <;> k_is)
    (case m_y3_1 => refine PySem.W.exm_ref ?_ ?_ ?_ ?_ <;> k_is)
    (case m_y3_2 => refine PySem.W.exm_ref ?_ ?_ ?_ ?_ <;> k_is)
    (case m_y3_3 => refine PySem.W.exm_ref ?_ ?_ ?_ ?_ <;> k_is)
    (case m_y4_1 => refine PySem.W.exm_ref ?_ ?_ ?_ ?_ <;> k_is)
    (case m_y4_2 => refine PySem.W.exm_ref ?_ ?_ ?_ ?_ <;> k_is)
    (case m_y4_3 => refine PySem.W.exm_ref ?_ ?_ ?_ ?_ <;> k_is)
    (case m_y4_4 => refine PySem.W.exm_ref ?_ ?_ ?_ ?_ <;> k_is)
    (case m_y5_1 => refine PySem.W.exm_ref ?_ ?_ ?_ ?_ <;> k_is)
    (case m_y5_2 => refine PySem.W.exm_ref ?_ ?_ ?_ ?_ <;> k_is)
    (case m_y5_3 => refine PySem.W.exm_ref ?_ ?_ ?_ ?_ <;> k_is)
    (case m_y5_4 => refine PySem.W.exm_ref ?_ ?_ ?_ ?_ <;> k_is)
    (case m_y5_5 => refine PySem.W.exm_ref ?_ ?_ ?_ ?_ <;> k_is)
    (case m_y6_1 => refine PySem.W.exm_ref ?_ ?_ ?_ ?_ <;> k_is)
    (case m_y6_2 => refine PySem.W.exm_ref ?_ ?_ ?_ ?_ <;> k_is)
    (case m_y6_3 => refine PySem.W.exm_ref ?_ ?_ ?_ ?_ <;> k_is)
    (case m_y6_4 => refine PySem.W.exm_ref ?_ ?_ ?_ ?_ <;> k_is)
    (case m_y6_5 => refine PySem.W.exm_ref ?_ ?_ ?_ ?_ <;> k_is)
    (case m_y6_6 => refine PySem.W.exm_ref ?_ ?_ ?_ ?_ <;> k_is)
    (case m_y7_1 => refine PySem.W.exm_ref ?_ ?_ ?_ ?_ <;> k_is)
    (case m_y7_2 => refine PySem.W.exm_ref ?_ ?_ ?_ ?_ <;> k_is)
    (case m_y7_3 => refine PySem.W.exm_ref ?_ ?_ ?_ ?_ <;> k_is)
    (case m_y7_4 => refine PySem.W.exm_ref ?_ ?_ ?_ ?_ <;> k_is)
    (case m_y7_5 => refine PySem.W.exm_ref ?_ ?_ ?_ ?_ <;> k_is)
    (case m_y7_6 => refine PySem.W.exm_ref ?_ ?_ ?_ ?_ <;> k_is)
    (case m_y7_7 => refine PySem.W.exm_ref ?_ ?_ ?_ ?_ <;> k_is)
    (case m_g0 => first | k_is | k_exc)
    (case m_g1 => first | k_is | k_exc)
    (case m_g2 => first | k_is | k_exc)
    (case m_z0 => first | k_is | k_exc)
    (case m_z1 => first | k_is | k_exc)
    (case m_z2 => first | k_is | k_exc)
    (case m_z3 => first | k_is | k_exc)
    (case m_z4 => first | k_is | k_exc)
    (case m_z5 => first | k_is | k_exc)
    (case m_z6 => first | k_is | k_exc)
    (case m_z7 => first | k_is | k_exc)
    (case m_z8 => first | k_is | k_exc)
    (case m_z9 => first | k_is | k_exc)
    (case m_z10 => first | k_is | k_exc)
    (case m_hC => kernel_rfl)
    (case m_hN => kernel_rfl)
    (case m_hT => exact PySem.W.km_tabs_of Y 266 (by simp))
