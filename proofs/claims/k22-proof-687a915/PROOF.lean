import PyProof.Rows.All
import Wide.All
import OpenK.AllK
import Wide.FinOn
import HandS.ForMost
import HandS.ForExc
import HandS.Lambda
import KE.KDflt
import HandS.TryMany
import HandS.IsInst
import HandS.TupSets
import HandS.SetBool
import HandS.TupMul
import HandS.TupAny
import HandS.Wide
import HandS.Small
import HandS.EndTab
import HandS.Conv
import HandS.SortInts
import HandS.Strs
import PyProof.AutoSeq1
import HandS.Style
import HandS.Steps
import HandS.SetFor
import HandS.HotCalls
import HandS.SuiteRaise
import PyProof.WalkInts
import HandS.ExcCtx
import HandS.Gcd
import KE.DataMinMax
import HandS.Dict
import HandS.WordsDict
import HandS.ListItems
import HandS.SortRule
import HandS.ExcIs
import PySem.Challenge.RW_dartwebs_k22_whole_rounds
set_option Elab.async false
set_option linter.all false
set_option maxRecDepth 100000
set_option maxHeartbeats 2000000
namespace Vai
open PySem L2

inductive A where
  | non | bl (b : Bool) | int (i : Int) | str (z : Str) | ref (l : Nat) | ty (n : String)
  deriving DecidableEq
inductive O where
  | lst (xs : List A) | tup (xs : List A) | scr (ns : List Int) | dic (kvs : List (Key × A)) | dfz (kvs : List (Key × A)) | dt (kvs : List (List Key × A)) | dtf (kvs : List (List Key × A)) | set (es : List (Nat × List Int)) | code | clo (id c : Nat) (d : Option Nat) | fz (l : Nat)
  deriving DecidableEq
/-- what never changes -/
def O.isScr : O → Bool
  | .lst _ => false
  | .dic _ => false
  | .dfz _ => false
  | .dt _ => false
  | .dtf _ => false
  | .set _ => false
  | _ => true
/-- a lambda of the text -/
structure LamI where
  params : Arguments
  body : Expr
  scope : Scope
/-- a value of ours, and one of the layer's, at the places r -/
def RA (r : List Addr) : A → V → Prop
  | .non, v => v = .non
  | .bl b, v => v = .bl b
  | .int i, v => v = .int i
  | .str z, v => v = .str z
  | .ty n, v => v = .ty n
  | .ref l, v => ∃ p, r[l]? = some p ∧ v = .ref p
/-- what the text gives: its written part, the tables of its code objects, its classes of errors -/
structure Tx where
  P : Program
  w : World
  K : PySem.W.Frag
  T : List (Addr × Str)
  cl : Nat → Addr
  ql : Str
  cells : List (Str × Addr)
  lam : Nat → LamI
/-- a lambda's object -/
def CloO (t : Tx) (p : Addr) (i : LamI) (dV : Value) (c' : Addr) : HO := .ext fun h => ∃ (doc pm ctv : Value), h.get? p = some (PySem.W.kdv_obj "<lambda>" t.ql i.params (.expr i.body) i.scope (L2.cloFrom t.cells i.scope.names []) dV doc pm c' ctv)
/-- no type among these -/
def noTy (xs : List A) : Bool := xs.all fun a => match a with
  | .ty _ => false
  | _ => true
def RO (t : Tx) (r : List Addr) (H : Hp) (p : Addr) : O → Prop
  | .lst xs => ∃ vs, H p = some (.lst vs) ∧ Paired (RA r) xs vs
  | .tup xs => ∃ vs, (H p = some (.tup vs) ∨ (noTy xs = true ∧ ∃ o, H p = some (.frz o (.tup vs)))) ∧ Paired (RA r) xs vs
  | .fz l => r[l]? = some p ∧ ∃ o vs, H p = some (.frz o (.tup vs)) ∧ o.dict = none
  | .scr ns => (∃ o, H p = some (.frz o (.lst (ns.map V.int)))) ∨ SqL t.K (fun _ => none) p (ns.map V.int)
  | .dic ks => ∃ ws, H p = some (.dK ws) ∧ Paired (fun (a : Key × A) (b : Key × V) => a.1 = b.1 ∧ RA r a.2 b.2) ks ws
  | .dfz ks => ∃ ws, (∃ o, H p = some (.frz o (.dK ws))) ∧ Paired (fun (a : Key × A) (b : Key × V) => a.1 = b.1 ∧ RA r a.2 b.2) ks ws
  | .dt ks => ∃ ws, H p = some (.dT ws) ∧ Paired (fun (a : List Key × A) (b : List Key × V) => a.1 = b.1 ∧ RA r a.2 b.2) ks ws
  | .dtf ks => ∃ ws, (∃ o, H p = some (.frz o (.dT ws))) ∧ Paired (fun (a : List Key × A) (b : List Key × V) => a.1 = b.1 ∧ RA r a.2 b.2) ks ws
  | .set es => ∃ L L0, H p = some (SetTO t.P t.w p L) ∧ Paired (fun (e : Nat × List Int) (q : Addr × List Int) => r[e.1]? = some q.1 ∧ e.2 = q.2) es L0 ∧ L.Perm L0
  | .code => H p = some (LamX.CodeO p t.ql)
  | .clo i c d => ∃ c' dV, r[c]? = some c' ∧ (match d with
      | none => dV = Value.none
      | some j => ∃ T0, r[j]? = some T0 ∧ dV = .ref T0) ∧ H p = some (CloO t p (t.lam i) dV c')
theorem tupRd {b : Bool} {H : Hp} {p : Addr} {vs : List V} (h : H p = some (.tup vs) ∨ (b = true ∧ ∃ o, H p = some (.frz o (.tup vs)))) : Rd H p (.tup vs) := h.imp id fun z => z.2
theorem sqTo {b : Bool} {K : PySem.W.Frag} {H : Hp} {p : Addr} {vs : List V} (h : H p = some (.tup vs) ∨ (b = true ∧ ∃ o, H p = some (.frz o (.tup vs)))) : SqT K H p vs := .inl (tupRd h)
structure Rel (t : Tx) (r : List Addr) (S : List O) (H : Hp) : Prop where
  inj : ∀ (l m : Nat) (p : Addr) (o u : O), r[l]? = some p → r[m]? = some p → S[l]? = some o → S[m]? = some u → o.isScr = false → u.isScr = false → l = m
  len : r.length = S.length
  ob : ∀ (l : Nat) (p : Addr) (o : O), r[l]? = some p → S[l]? = some o → RO t r H p o
  tb : LamX.Tabs t.T H
abbrev Sa := List (Option A)
def RS (r : List Addr) (sa : Sa) (σ : St) : Prop := Paired (fun a v => ∀ x, a = some x → ∃ y, v = some y ∧ RA r x y) sa σ

/-- r' goes on behind r -/
def Ext (r r' : List Addr) : Prop := ∃ q, r' = r ++ q
theorem Ext.refl (r : List Addr) : Ext r r := ⟨[], (List.append_nil r).symm⟩
theorem Ext.trans {r s t : List Addr} (a : Ext r s) (b : Ext s t) : Ext r t := by
  obtain ⟨x, rfl⟩ := a
  obtain ⟨y, rfl⟩ := b
  exact ⟨x ++ y, List.append_assoc _ _ _⟩
theorem Ext.get {r r' : List Addr} (e : Ext r r') {l : Nat} {p : Addr} (h : r[l]? = some p) : r'[l]? = some p := by
  obtain ⟨q, rfl⟩ := e
  have hl : l < r.length := (List.getElem?_eq_some_iff.mp h).1
  rw [List.getElem?_append_left hl]
  exact h
theorem RA.ext {r r' : List Addr} (e : Ext r r') : ∀ {a : A} {v : V}, RA r a v → RA r' a v
  | .non, _, h => h
  | .bl _, _, h => h
  | .int _, _, h => h
  | .str _, _, h => h
  | .ty _, _, h => h
  | .ref _, _, ⟨p, h, q⟩ => ⟨p, e.get h, q⟩
theorem pr_mono {α β : Type} {F G : α → β → Prop} (k : ∀ a b, F a b → G a b) : ∀ {xs : List α} {ys : List β}, Paired F xs ys → Paired G xs ys
  | _, _, .nil => .nil
  | _, _, .cons h t => .cons (k _ _ h) (pr_mono k t)
theorem RAs.ext {r r' : List Addr} (e : Ext r r') {xs : List A} {vs : List V} (h : Paired (RA r) xs vs) : Paired (RA r') xs vs := pr_mono (fun _ _ => RA.ext e) h
theorem RS.ext {r r' : List Addr} (e : Ext r r') {sa : Sa} {σ : St} (h : RS r sa σ) : RS r' sa σ :=
  pr_mono (fun a v q x hx => by obtain ⟨y, h1, h2⟩ := q x hx; exact ⟨y, h1, h2.ext e⟩) h
theorem pr_get {α β : Type} {F : α → β → Prop} : ∀ {xs : List α} {ys : List β} {i : Nat} {x : α}, Paired F xs ys → xs[i]? = some x → ∃ y, ys[i]? = some y ∧ F x y
  | _, _, 0, x, .cons (b := b) h t, e => ⟨b, rfl, by cases e; exact h⟩
  | _, _, i + 1, x, .cons h t, e => by
    obtain ⟨y, h1, h2⟩ := pr_get (i := i) t e
    exact ⟨y, h1, h2⟩
theorem pr_set {α β : Type} {F : α → β → Prop} {x : α} {y : β} (q : F x y) : ∀ {xs : List α} {ys : List β} (i : Nat), Paired F xs ys → Paired F (xs.set i x) (ys.set i y)
  | _, _, _, .nil => .nil
  | _, _, 0, .cons h t => .cons q t
  | _, _, i + 1, .cons h t => .cons h (pr_set q i t)
theorem pr_app {α β : Type} {F : α → β → Prop} : ∀ {xs xs' : List α} {ys ys' : List β}, Paired F xs ys → Paired F xs' ys' → Paired F (xs ++ xs') (ys ++ ys')
  | _, _, _, _, .nil, t => t
  | _, _, _, _, .cons h q, t => .cons h (pr_app q t)
theorem pr_len {α β : Type} {F : α → β → Prop} : ∀ {xs : List α} {ys : List β}, Paired F xs ys → xs.length = ys.length
  | _, _, .nil => rfl
  | _, _, .cons h t => congrArg (· + 1) (pr_len t)
theorem RS.get {r : List Addr} {sa : Sa} {σ : St} (h : RS r sa σ) {i : Nat} {a : A} (e : sa[i]? = some (some a)) : ∃ v, σ[i]? = some (some v) ∧ RA r a v := by
  obtain ⟨y, h1, h2⟩ := pr_get h e
  obtain ⟨v, rfl, h3⟩ := h2 a rfl
  exact ⟨v, h1, h3⟩
theorem RS.set {r : List Addr} {sa : Sa} {σ : St} (h : RS r sa σ) {a : A} {v : V} (q : RA r a v) (i : Nat) : RS r (sa.set i (some a)) (σ.set i (some v)) :=
  pr_set (fun x e => by cases e; exact ⟨v, rfl, q⟩) i h

/-! ### what is new, what is written -/
theorem RO.ext {t : Tx} {r r' : List Addr} {H : Hp} {p : Addr} (e : Ext r r') : ∀ {o : O}, RO t r H p o → RO t r' H p o
  | .lst _, ⟨vs, h, q⟩ => ⟨vs, h, RAs.ext e q⟩
  | .tup _, ⟨vs, h, q⟩ => ⟨vs, h, RAs.ext e q⟩
  | .scr _, h => h
  | .dic _, ⟨ws, h, q⟩ => ⟨ws, h, pr_mono (fun _ _ z => ⟨z.1, z.2.ext e⟩) q⟩
  | .dfz _, ⟨ws, h, q⟩ => ⟨ws, h, pr_mono (fun _ _ z => ⟨z.1, z.2.ext e⟩) q⟩
  | .dt _, ⟨ws, h, q⟩ => ⟨ws, h, pr_mono (fun _ _ z => ⟨z.1, z.2.ext e⟩) q⟩
  | .dtf _, ⟨ws, h, q⟩ => ⟨ws, h, pr_mono (fun _ _ z => ⟨z.1, z.2.ext e⟩) q⟩
  | .set _, ⟨L, L0, h, q, pm⟩ => ⟨L, L0, h, pr_mono (fun _ _ z => ⟨e.get z.1, z.2⟩) q, pm⟩
  | .code, h => h
  | .fz _, ⟨h1, h2⟩ => ⟨e.get h1, h2⟩
  | .clo _ _ none, ⟨c', dV, h1, h2, h3⟩ => ⟨c', dV, e.get h1, h2, h3⟩
  | .clo _ _ (some _), ⟨c', dV, h1, ⟨T0, h2, h4⟩, h3⟩ => ⟨c', dV, e.get h1, ⟨T0, e.get h2, h4⟩, h3⟩
/-- the heap changed elsewhere -/
theorem RO.heap {t : Tx} {r : List Addr} {H H' : Hp} {p : Addr} : ∀ {o : O}, RO t r H p o → (∀ u, H p = some u → H' p = some u) → RO t r H' p o
  | .lst _, ⟨vs, h, q⟩, k => ⟨vs, k _ h, q⟩
  | .tup _, ⟨vs, h, q⟩, k => ⟨vs, h.imp (k _) fun ⟨n, o, z⟩ => ⟨n, o, k _ z⟩, q⟩
  | .fz _, ⟨h1, o, vs, h2, h3⟩, k => ⟨h1, o, vs, k _ h2, h3⟩
  | .scr _, h, k => h.imp (fun ⟨o, z⟩ => ⟨o, k _ z⟩) id
  | .dic _, ⟨ws, h, q⟩, k => ⟨ws, k _ h, q⟩
  | .dfz _, ⟨ws, ⟨o, h⟩, q⟩, k => ⟨ws, ⟨o, k _ h⟩, q⟩
  | .dt _, ⟨ws, h, q⟩, k => ⟨ws, k _ h, q⟩
  | .dtf _, ⟨ws, ⟨o, h⟩, q⟩, k => ⟨ws, ⟨o, k _ h⟩, q⟩
  | .set _, ⟨L, L0, h, q⟩, k => ⟨L, L0, k _ h, q⟩
  | .code, h, k => k _ h
  | .clo _ _ _, ⟨c', dV, h1, h2, h3⟩, k => ⟨c', dV, h1, h2, k _ h3⟩
theorem RO.there {t : Tx} {r : List Addr} {H : Hp} {p : Addr} : ∀ {o : O}, RO t r H p o → o.isScr = false → ∃ u, H p = some u ∧ ∀ ps, u ≠ .tbl ps
  | .lst _, ⟨vs, h, q⟩, _ => ⟨_, h, fun _ z => by cases z⟩
  | .tup _, _, k => by cases k
  | .code, _, k => by cases k
  | .fz _, _, k => by cases k
  | .clo _ _ _, _, k => by cases k
  | .scr _, h, k => by cases k
  | .dic _, ⟨ws, h, q⟩, _ => ⟨_, h, fun _ z => by cases z⟩
  | .dfz _, ⟨ws, ⟨o, h⟩, q⟩, _ => ⟨_, h, fun _ z => by cases z⟩
  | .dt _, ⟨ws, h, q⟩, _ => ⟨_, h, fun _ z => by cases z⟩
  | .dtf _, ⟨ws, ⟨o, h⟩, q⟩, _ => ⟨_, h, fun _ z => by cases z⟩
  | .set _, ⟨L, L0, h, q⟩, _ => ⟨_, h, fun _ z => by unfold SetTO at z; cases z⟩
/-- a code object is no set of tuples -/
theorem code_not_set {P : Program} {w : World} {c p : Addr} {q : Str} {L : List (Addr × List Int)} (e : LamX.CodeO c q = SetTO P w p L) : c ≠ p := fun hc => by
  subst hc
  unfold LamX.CodeO SetTO at e
  have e2 := HO.ext.inj e
  let oc : Obj := { cls := .none, data := .fields #[.none, .str q 0] }
  let h : Heap := { objs := (List.replicate c oc ++ [oc]).toArray }
  have hg : h.get? c = some oc := by
    have g0 : h.objs[c]? = some oc := by
      show (List.replicate c oc ++ [oc]).toArray[c]? = some oc
      simp
    unfold Heap.get?
    rw [g0]
  have h1 : ∃ (oc : Obj) (vs : Array Value) (t : Tok), h.get? c = some oc ∧ oc.data = .fields vs ∧ vs[1]? = some (.str q t) := ⟨oc, #[.none, .str q 0], 0, hg, rfl, rfl⟩
  have h2 : SetT0 P w h c L := (congrFun e2 h) ▸ h1
  obtain ⟨es, ep, t, ⟨o, ho, _, hd⟩, _⟩ := h2.ex
  rw [hg] at ho
  cases ho
  cases hd
theorem clo_not_set {t : Tx} {P : Program} {w : World} {p : Addr} {i : LamI} {dV : Value} {c' : Addr} {L : List (Addr × List Int)} (e : CloO t p i dV c' = SetTO P w p L) : False := by
  unfold CloO SetTO at e
  have e2 := HO.ext.inj e
  let oc : Obj := PySem.W.kdv_obj "<lambda>" t.ql i.params (.expr i.body) i.scope (L2.cloFrom t.cells i.scope.names []) dV .none .none c' .none
  let h : Heap := { objs := (List.replicate p oc ++ [oc]).toArray }
  have hg : h.get? p = some oc := by
    have g0 : h.objs[p]? = some oc := by
      show (List.replicate p oc ++ [oc]).toArray[p]? = some oc
      simp
    unfold Heap.get?
    rw [g0]
  have h2 : SetT0 P w h p L := (congrFun e2 h) ▸ (⟨.none, .none, .none, hg⟩ : ∃ (doc pm ctv : Value), h.get? p = some (PySem.W.kdv_obj "<lambda>" t.ql i.params (.expr i.body) i.scope (L2.cloFrom t.cells i.scope.names []) dV doc pm c' ctv))
  obtain ⟨es, ep, tb, ⟨o, ho, _, hd⟩, _⟩ := h2.ex
  rw [hg] at ho
  cases ho
  cases hd
theorem Ext.snoc (r : List Addr) (p : Addr) : Ext r (r ++ [p]) := ⟨[p], rfl⟩
theorem get_snoc {α : Type} {xs : List α} {x y : α} {i : Nat} (h : (xs ++ [x])[i]? = some y) : xs[i]? = some y ∨ (i = xs.length ∧ y = x) := by
  by_cases hi : i < xs.length
  · rw [List.getElem?_append_left hi] at h
    exact .inl h
  · rw [List.getElem?_append_right (by omega)] at h
    by_cases h2 : i = xs.length
    · subst h2
      simp at h
      exact .inr ⟨rfl, h.symm⟩
    · rw [List.getElem?_eq_none (by simp; omega)] at h
      cases h
theorem get_snoc_new {α : Type} (xs : List α) (x : α) : (xs ++ [x])[xs.length]? = some x := by simp
/-- a new object -/
theorem Rel.new {t : Tx} {r : List Addr} {S : List O} {H : Hp} {p : Addr} {u : HO} {o : O} (R : Rel t r S H) (hp : H p = none) (ho : RO t (r ++ [p]) (upd H p u) p o) : Rel t (r ++ [p]) (S ++ [o]) (upd H p u) := by
  have old : ∀ (l : Nat) (q : Addr) (v : O), r[l]? = some q → S[l]? = some v → v.isScr = false → q ≠ p := fun l q v h1 h2 h3 z => by
    obtain ⟨w, e, _⟩ := (R.ob l q v h1 h2).there h3
    rw [z, hp] at e
    cases e
  refine ⟨fun l m q a b h1 h2 h3 h4 s1 s2 => ?_, by rw [List.length_append, List.length_append, R.len]; rfl, fun l q a h1 h2 => ?_, R.tb.ext fun b w e => by rw [upd_ne (ne_of_none e hp)]; exact e⟩
  · rcases get_snoc h1 with h1 | ⟨h1, e1⟩ <;> rcases get_snoc h2 with h2 | ⟨h2, e2⟩
    · rcases get_snoc h3 with h3 | ⟨h3, _⟩
      · rcases get_snoc h4 with h4 | ⟨h4, _⟩
        · exact R.inj l m q a b h1 h2 h3 h4 s1 s2
        · have := (List.getElem?_eq_some_iff.mp h2).1
          rw [R.len] at this
          omega
      · have := (List.getElem?_eq_some_iff.mp h1).1
        rw [R.len] at this
        omega
    · rcases get_snoc h3 with h3 | ⟨h3, _⟩
      · exact absurd e2 (old l q a h1 h3 s1)
      · have := (List.getElem?_eq_some_iff.mp h1).1
        rw [R.len] at this
        omega
    · rcases get_snoc h4 with h4 | ⟨h4, _⟩
      · exact absurd e1 (old m q b h2 h4 s2)
      · have := (List.getElem?_eq_some_iff.mp h2).1
        rw [R.len] at this
        omega
    · rw [h1, h2]
  · rcases get_snoc h1 with h1 | ⟨h1, e1⟩
    · rcases get_snoc h2 with h2 | ⟨h2, _⟩
      · exact ((R.ob l q a h1 h2).ext (Ext.snoc r p)).heap fun w e => by rw [upd_ne (ne_of_none e hp)]; exact e
      · have := (List.getElem?_eq_some_iff.mp h1).1
        rw [R.len] at this
        omega
    · rcases get_snoc h2 with h2 | ⟨h2, e2⟩
      · have := (List.getElem?_eq_some_iff.mp h2).1
        rw [← R.len] at this
        omega
      · rw [e1, e2]
        exact ho
/-- an object changed -/
theorem Rel.put {t : Tx} {r : List Addr} {S : List O} {H : Hp} {p : Addr} {u w : HO} {o o' : O} {l : Nat} (R : Rel t r S H) (hl : r[l]? = some p) (ho : S[l]? = some o) (hs : o.isScr = false) (hs' : o'.isScr = false) (hw : H p = some w) (hf : ∀ x y, w = .frz x y → (∃ ks, y = .dK ks) ∨ ∃ ks, y = .dT ks)
    (hn : RO t r (upd H p u) p o') : Rel t r (S.set l o') (upd H p u) := by
  have hlt : l < S.length := (List.getElem?_eq_some_iff.mp ho).1
  obtain ⟨w', e', nt⟩ := (R.ob l p o hl ho).there hs
  refine ⟨fun i m q a b h1 h2 h3 h4 s1 s2 => ?_, by rw [List.length_set]; exact R.len, fun i q a h1 h2 => ?_, fun z hz => ?_⟩
  · have back : ∀ (j : Nat) (c : O), (S.set l o')[j]? = some c → c.isScr = false → ∃ d, S[j]? = some d ∧ d.isScr = false := fun j c h s => by
      by_cases hj : l = j
      · subst hj
        exact ⟨o, ho, hs⟩
      · rw [List.getElem?_set_ne hj] at h
        exact ⟨c, h, s⟩
    obtain ⟨a', g1, g2⟩ := back i a h3 s1
    obtain ⟨b', g3, g4⟩ := back m b h4 s2
    exact R.inj i m q a' b' h1 h2 g1 g3 g2 g4
  · by_cases hj : l = i
    · subst hj
      rw [List.getElem?_set_self hlt] at h2
      cases h2
      rw [hl] at h1
      cases h1
      exact hn
    · rw [List.getElem?_set_ne hj] at h2
      have x := R.ob i q a h1 h2
      by_cases hq : q = p
      · subst hq
        cases hsc : a.isScr with
        | false => exact absurd (R.inj l i q o a hl h1 ho h2 hs hsc) hj
        | true =>
          have y := R.ob l q o hl ho
          cases a with
          | scr ns =>
            rcases x with ⟨ob, z⟩ | z
            · rw [hw] at z
              cases z
              rcases hf _ _ rfl with ⟨_, e⟩ | ⟨_, e⟩ <;> cases e
            · exact .inr z
          | tup as =>
            obtain ⟨vs, z, _⟩ := x
            rcases z with z | ⟨_, ob, z⟩
            case inr =>
              rw [hw] at z
              cases z
              rcases hf _ _ rfl with ⟨_, e⟩ | ⟨_, e⟩ <;> cases e
            cases o with
            | lst _ => obtain ⟨us, z2, _⟩ := y; rw [z2] at z; cases z
            | dic _ => obtain ⟨us, z2, _⟩ := y; rw [z2] at z; cases z
            | dt _ => obtain ⟨us, z2, _⟩ := y; rw [z2] at z; cases z
            | dfz _ => obtain ⟨us, ⟨_, z2⟩, _⟩ := y; rw [z2] at z; cases z
            | dtf _ => obtain ⟨us, ⟨_, z2⟩, _⟩ := y; rw [z2] at z; cases z
            | set _ => obtain ⟨L, L0, z2, _⟩ := y; rw [z2] at z; unfold SetTO at z; cases z
            | _ => cases hs
          | code =>
            have z : H q = some (LamX.CodeO q t.ql) := x
            cases o with
            | lst _ => obtain ⟨us, z2, _⟩ := y; rw [z2] at z; unfold LamX.CodeO at z; cases z
            | dic _ => obtain ⟨us, z2, _⟩ := y; rw [z2] at z; unfold LamX.CodeO at z; cases z
            | dt _ => obtain ⟨us, z2, _⟩ := y; rw [z2] at z; unfold LamX.CodeO at z; cases z
            | dfz _ => obtain ⟨us, ⟨_, z2⟩, _⟩ := y; rw [z2] at z; unfold LamX.CodeO at z; cases z
            | dtf _ => obtain ⟨us, ⟨_, z2⟩, _⟩ := y; rw [z2] at z; unfold LamX.CodeO at z; cases z
            | set _ => obtain ⟨L, L0, z2, _⟩ := y; rw [z2] at z; exact absurd rfl (code_not_set (Option.some.inj z.symm))
            | _ => cases hs
          | fz j =>
            obtain ⟨_, ob, us, z, _⟩ := x
            rw [hw] at z
            cases z
            rcases hf _ _ rfl with ⟨_, e⟩ | ⟨_, e⟩ <;> cases e
          | clo i c d =>
            obtain ⟨c', dV, _, _, z⟩ := x
            cases o with
            | lst _ => obtain ⟨us, z2, _⟩ := y; rw [z2] at z; unfold CloO at z; cases z
            | dic _ => obtain ⟨us, z2, _⟩ := y; rw [z2] at z; unfold CloO at z; cases z
            | dt _ => obtain ⟨us, z2, _⟩ := y; rw [z2] at z; unfold CloO at z; cases z
            | dfz _ => obtain ⟨us, ⟨_, z2⟩, _⟩ := y; rw [z2] at z; unfold CloO at z; cases z
            | dtf _ => obtain ⟨us, ⟨_, z2⟩, _⟩ := y; rw [z2] at z; unfold CloO at z; cases z
            | set _ => obtain ⟨L, L0, z2, _⟩ := y; rw [z2] at z; exact (clo_not_set (Option.some.inj z.symm)).elim
            | _ => cases hs
          | _ => cases hsc
      · exact x.heap fun w e => by rw [upd_ne hq]; exact e
  · obtain ⟨ps, h1, h2, h3⟩ := R.tb z hz
    have n1 : z.1 ≠ p := fun q => by
      rw [q, e'] at h1
      exact nt ps (Option.some.inj h1)
    refine ⟨ps, by rw [upd_ne n1]; exact h1, h2, fun pos cv hc => ?_⟩
    obtain ⟨c, e1, e2⟩ := h3 pos cv hc
    refine ⟨c, e1, ?_⟩
    have n2 : c ≠ p := fun q => by
      rw [q] at e2
      have y := R.ob l p o hl ho
      cases o with
      | lst xs => obtain ⟨vs, a, _⟩ := y; rw [e2] at a; unfold LamX.CodeO at a; cases a
      | tup xs => cases hs
      | scr ns => cases hs
      | code => cases hs
      | clo _ _ _ => cases hs
      | fz _ => cases hs
      | dic ks => obtain ⟨vs, a, _⟩ := y; rw [e2] at a; unfold LamX.CodeO at a; cases a
      | dt ks => obtain ⟨vs, a, _⟩ := y; rw [e2] at a; unfold LamX.CodeO at a; cases a
      | dfz ks => obtain ⟨vs, ⟨_, a⟩, _⟩ := y; rw [e2] at a; unfold LamX.CodeO at a; cases a
      | dtf ks => obtain ⟨vs, ⟨_, a⟩, _⟩ := y; rw [e2] at a; unfold LamX.CodeO at a; cases a
      | set es => obtain ⟨L, L0, a, _⟩ := y; rw [e2] at a; exact code_not_set (Option.some.inj a) rfl
    rw [upd_ne n2]
    exact e2
end Vai
set_option maxRecDepth 100000
set_option maxHeartbeats 2000000
namespace Vai
open PySem L2

/-! ### results -/
inductive R where
  | ok (a : A) (S : List O)
  | er (c : Nat) (S : List O)
inductive RL where
  | ok (as : List A) (S : List O)
  | er (c : Nat) (S : List O)
inductive RF where
  | nx (sa : Sa) (S : List O)
  | rt (a : A) (S : List O)
  | bk (sa : Sa) (S : List O)
  | ct (sa : Sa) (S : List O)
  | er (c : Nat) (sa : Sa) (S : List O)
abbrev F := Sa → List O → Option R
abbrev FL := Sa → List O → Option RL
abbrev FS := Sa → List O → Option RF
/-- what a def does: of its arguments and the store -/
abbrev FD := List A → List O → Option R
/-- an error's number: its class below 64; above, one more than its field's place in `flds`, and the field's int -/
def flds : List Str := ["most", "place", "at", "value", "name", "by", "x", "y"]
def decI (n : Nat) : Int := if n % 2 = 0 then ((n / 2 : Nat) : Int) else -(((n + 1) / 2 : Nat) : Int)
def encI (i : Int) : Nat := if 0 ≤ i then 2 * i.natAbs else 2 * i.natAbs - 1
def erN (c f : Nat) (i : Int) : Nat := c + 64 * (1 + f + 8 * encI i)
/-- the dict of the error with this number -/
def ErD (H : Hp) (c : Nat) (d : Option Addr) : Prop := if c < 64 then d = none else ∃ p, d = some p ∧ H p = some (.xd [(flds.getD ((c / 64 - 1) % 8) "", .int (decI ((c / 64 - 1) / 8)))])
theorem erD0 {H : Hp} {c : Nat} (h : c < 64) : ErD H c none := by
  unfold ErD
  rw [if_pos h]
def PostE (t : Tx) (W : WX) (σ : St) (Q : VK) (r : List Addr) : R → Prop
  | .ok a S => ∀ (r' : List Addr) (H : Hp) (v : V), Ext r r' → Rel t r' S H → RA r' a v → Q v H
  | .er c S => ∀ (r' : List Addr) (H : Hp), Ext r r' → Rel t r' S H → ∀ d, ErD H c d → W (.ref (t.cl c)) d σ H
def PostL (t : Tx) (W : WX) (σ : St) (Q : List V → Hp → Prop) (r : List Addr) : RL → Prop
  | .ok as S => ∀ (r' : List Addr) (H : Hp) (vs : List V), Ext r r' → Rel t r' S H → Paired (RA r') as vs → Q vs H
  | .er c S => ∀ (r' : List Addr) (H : Hp), Ext r r' → Rel t r' S H → ∀ d, ErD H c d → W (.ref (t.cl c)) d σ H
def PostS (t : Tx) (W : WX) (D : Ends) (r : List Addr) : RF → Prop
  | .nx sa S => ∀ (r' : List Addr) (H : Hp) (σ : St), Ext r r' → Rel t r' S H → RS r' sa σ → D.nx σ H
  | .rt a S => ∀ (r' : List Addr) (H : Hp) (v : V), Ext r r' → Rel t r' S H → RA r' a v → D.rt v H
  | .bk sa S => ∀ (r' : List Addr) (H : Hp) (σ : St), Ext r r' → Rel t r' S H → RS r' sa σ → D.bk σ H
  | .ct sa S => ∀ (r' : List Addr) (H : Hp) (σ : St), Ext r r' → Rel t r' S H → RS r' sa σ → D.ct σ H
  | .er c sa S => ∀ (r' : List Addr) (H : Hp) (σ : St), Ext r r' → Rel t r' S H → RS r' sa σ → ∀ d, ErD H c d → W (.ref (t.cl c)) d σ H
def lift (t : Tx) (W : WX) (f : F) : TE := fun σ H Q => ∃ r sa S x, Rel t r S H ∧ RS r sa σ ∧ f sa S = some x ∧ PostE t W σ Q r x
def liftL (t : Tx) (W : WX) (f : FL) : TA := fun σ H Q => ∃ r sa S x, Rel t r S H ∧ RS r sa σ ∧ f sa S = some x ∧ PostL t W σ Q r x
def liftS (t : Tx) (W : WX) (f : FS) : TS := fun D σ H => ∃ r sa S x, Rel t r S H ∧ RS r sa σ ∧ f sa S = some x ∧ PostS t W D r x
/-- a test -/
abbrev liftB (t : Tx) (W : WX) (f : F) : TT := tB (lift t W f)
theorem PostE.ext {t : Tx} {W : WX} {σ : St} {Q : VK} {r r' : List Addr} (e : Ext r r') : ∀ {x : R}, PostE t W σ Q r x → PostE t W σ Q r' x
  | .ok _ _, h => fun r2 H v e2 => h r2 H v (e.trans e2)
  | .er _ _, h => fun r2 H e2 => h r2 H (e.trans e2)
theorem PostL.ext {t : Tx} {W : WX} {σ : St} {Q : List V → Hp → Prop} {r r' : List Addr} (e : Ext r r') : ∀ {x : RL}, PostL t W σ Q r x → PostL t W σ Q r' x
  | .ok _ _, h => fun r2 H v e2 => h r2 H v (e.trans e2)
  | .er _ _, h => fun r2 H e2 => h r2 H (e.trans e2)
theorem PostS.ext {t : Tx} {W : WX} {D : Ends} {r r' : List Addr} (e : Ext r r') : ∀ {x : RF}, PostS t W D r x → PostS t W D r' x
  | .nx _ _, h => fun r2 H v e2 => h r2 H v (e.trans e2)
  | .rt _ _, h => fun r2 H v e2 => h r2 H v (e.trans e2)
  | .bk _ _, h => fun r2 H v e2 => h r2 H v (e.trans e2)
  | .ct _ _, h => fun r2 H v e2 => h r2 H v (e.trans e2)
  | .er _ _ _, h => fun r2 H v e2 => h r2 H v (e.trans e2)

/-! ### one behind another -/
def bnd (f : F) (k : A → F) : F := fun sa S => match f sa S with
  | some (.ok a S') => k a sa S'
  | some (.er c S') => some (.er c S')
  | none => none
section
variable {t : Tx} {W : WX} {σ : St} {H : Hp} {Q : VK} {r : List Addr} {sa : Sa} {S : List O} {x : R}
theorem go_bnd {f : F} {k : A → F} (R : Rel t r S H) (rs : RS r sa σ) (e : bnd f k sa S = some x) (p : PostE t W σ Q r x) :
    lift t W f σ H (fun v H2 => ∃ r' S' a, Ext r r' ∧ Rel t r' S' H2 ∧ RS r' sa σ ∧ RA r' a v ∧ k a sa S' = some x ∧ PostE t W σ Q r' x) := by
  unfold bnd at e
  cases hf : f sa S with
  | none =>
    rw [hf] at e
    cases e
  | some y =>
    rw [hf] at e
    cases y with
    | ok a S' => exact ⟨r, sa, S, _, R, rs, hf, fun r' H' v ex R' ra => ⟨r', S', a, ex, R', rs.ext ex, ra, e, p.ext ex⟩⟩
    | er c S' =>
      cases e
      exact ⟨r, sa, S, _, R, rs, hf, p⟩
end
theorem _root_.L2.PE.weak {X : Cx} {e : Expr} {t1 t2 : TE} (h : PE X e t1) (k : ∀ σ H Q, t2 σ H Q → t1 σ H Q) : PE X e t2 := ⟨fun pins s σ H Q I q => h.run pins s σ H Q I (k _ _ _ q)⟩
theorem _root_.L2.PT.weak {X : Cx} {e : Expr} {t1 t2 : TT} (h : PT X e t1) (k : ∀ σ H Q, t2 σ H Q → t1 σ H Q) : PT X e t2 := ⟨fun pins s σ H Q I q => h.run pins s σ H Q I (k _ _ _ q)⟩
theorem _root_.L2.PW.weak {X : Cx} {e : Expr} {t1 t2 : TT} (h : PW X e t1) (k : ∀ σ H Q, t2 σ H Q → t1 σ H Q) : PW X e t2 := ⟨fun wh pins s σ H Q I q => h.run wh pins s σ H Q I (k _ _ _ q)⟩
theorem _root_.L2.PA.weak {X : Cx} {es : List Expr} {t1 t2 : TA} (h : PA X es t1) (k : ∀ σ H Q, t2 σ H Q → t1 σ H Q) : PA X es t2 := ⟨fun pos pins s σ H Q I q => h.run pos pins s σ H Q I (k _ _ _ q)⟩
theorem _root_.L2.PS.weak {X : Cx} {e : Stmt} {t1 t2 : TS} (h : PS X e t1) (k : ∀ D σ H, t2 D σ H → t1 D σ H) : PS X e t2 := ⟨fun pins s σ H D I q => h.run pins s σ H D I (k _ _ _ q)⟩
theorem _root_.L2.PSs.weak {X : Cx} {e : List Stmt} {t1 t2 : TS} (h : PSs X e t1) (k : ∀ D σ H, t2 D σ H → t1 D σ H) : PSs X e t2 := ⟨fun pins s σ H D I q => h.run pins s σ H D I (k _ _ _ q)⟩

/-! ### names, constants -/
def varF (i : Nat) : F := fun sa S => match sa[i]? with
  | some (some a) => some (.ok a S)
  | _ => none
def conF (a : A) : F := fun _ S => some (.ok a S)
section
variable {X : Cx} {t : Tx} {W : WX}
theorem v_var (i : Nat) {x : Str} {pos : Pos} (hN : X.N[i]? = some x := by rfl) (hv : Vis X.env.scope x := by first | exact Or.inl rfl | exact Or.inr (Or.inl rfl) | exact Or.inr (Or.inr rfl)) (hd : (x == ("__debug__" : Str)) = false := by decide)
    (hcd : (x == ("__classdict__" : Str)) = false := by decide) : PE X (.Name x pos) (lift t W (varF i)) := (pe_var hN hv hd hcd).weak fun σ H Q h => by
  obtain ⟨r, sa, S, y, R, rs, e, p⟩ := h
  unfold varF at e
  split at e
  · rename_i a ha
    cases e
    obtain ⟨v, h1, h2⟩ := rs.get ha
    exact ⟨v, h1, p r H v (Ext.refl r) R h2⟩
  · cases e
theorem con_ok {a : A} {v : V} (h : ∀ r : List Addr, RA r a v) {σ : St} {H : Hp} {Q : VK} (q : lift t W (conF a) σ H Q) : tC v σ H Q := by
  obtain ⟨r, sa, S, y, R, rs, e, p⟩ := q
  cases e
  exact p r H v (Ext.refl r) R (h r)
theorem v_int {i : Int} {j pos} : PE X (.Constant (.int i) j pos) (lift t W (conF (.int i))) := pe_int.weak fun _ _ _ h => con_ok (a := .int i) (v := .int i) (fun _ => rfl) h
theorem v_bl {b : Bool} {j pos} : PE X (.Constant (.bool b) j pos) (lift t W (conF (.bl b))) := pe_bl.weak fun _ _ _ h => con_ok (a := .bl b) (v := .bl b) (fun _ => rfl) h
theorem v_non {j pos} : PE X (.Constant .none j pos) (lift t W (conF .non)) := pe_non.weak fun _ _ _ h => con_ok (a := .non) (v := .non) (fun _ => rfl) h
theorem v_str {z : Str} {j pos} : PE X (.Constant (.str z) j pos) (lift t W (conF (.str z))) := pe_str.weak fun _ _ _ h => con_ok (a := .str z) (v := .str z) (fun _ => rfl) h
/-- a module's constant that is an int -/
theorem v_gint {x : Str} {i : Int} {u : Value} {pos : Pos} (hm : X.mg x = some u) (r : RelV (.int i) u) (hg : Gl X x := by rfl) (hd : (x == ("__debug__" : Str)) = false := by decide) : PE X (.Name x pos) (lift t W (conF (.int i))) :=
  (pe_glob hg hm r hd).weak fun _ _ _ h => con_ok (a := .int i) (v := .int i) (fun _ => rfl) h
/-- a built-in class as a value -/
theorem v_ty {x : Str} {n : String} {pos : Pos} (hm : X.mg x = none) (hv : bootBuiltins x = some (.type n)) (hg : Gl X x := by rfl) (hn : x ≠ "__name__" := by decide) (hd : (x == ("__debug__" : Str)) = false := by decide) : PE X (.Name x pos) (lift t W (conF (.ty n))) :=
  (pe_bltn (v := .ty n) hg hm hv rfl hn hd).weak fun _ _ _ h => con_ok (a := .ty n) (v := .ty n) (fun _ => rfl) h

/-! ### operators, comparisons -/
/-- what comes of values, without an error -/
abbrev G1 := A → List O → Option (A × List O)
abbrev G2 := A → A → List O → Option (A × List O)
def PostG (t : Tx) (Q : VK) (r : List Addr) (x : A × List O) : Prop := ∀ (r' : List Addr) (H : Hp) (v : V), Ext r r' → Rel t r' x.2 H → RA r' x.1 v → Q v H
def toR (x : Option (A × List O)) : Option R := match x with
  | some p => some (.ok p.1 p.2)
  | none => none
theorem toR_some {x : Option (A × List O)} {y : R} (e : toR x = some y) : ∃ p, x = some p ∧ y = .ok p.1 p.2 := by
  cases x with
  | none => cases e
  | some p =>
    cases e
    exact ⟨p, rfl, rfl⟩
def Sem2 (t : Tx) (g : G2) (ro : R2) : Prop := ∀ (r : List Addr) (S : List O) (H : Hp) (a b : A) (x y : V) (p : A × List O) (Q : VK), Rel t r S H → RA r a x → RA r b y → g a b S = some p → PostG t Q r p → ro x y H Q
def opF (g : G2) (fa fb : F) : F := bnd fa fun a => bnd fb fun b => fun _ S => toR (g a b S)
theorem op_ok {g : G2} {ro : R2} (hs : Sem2 t g ro) {fa fb : F} {σ : St} {H : Hp} {Q : VK} (h : lift t W (opF g fa fb) σ H Q) : tOp ro (lift t W fa) (lift t W fb) σ H Q := by
  obtain ⟨r, sa, S, x, R, rs, e, p⟩ := h
  obtain ⟨r1, sa1, S1, y, R1, rs1, e1, p1⟩ := go_bnd R rs e p
  refine ⟨r1, sa1, S1, y, R1, rs1, e1, ?_⟩
  cases y with
  | er c S' => exact p1
  | ok a0 S0 =>
    intro r' H' v ex R' ra
    obtain ⟨r2, S2, a, e2, R2, rs2, ra2, ek, p2⟩ := p1 r' H' v ex R' ra
    obtain ⟨r3, sa3, S3, z, R3, rs3, e3, p3⟩ := go_bnd R2 rs2 ek p2
    refine ⟨r3, sa3, S3, z, R3, rs3, e3, ?_⟩
    cases z with
    | er c S' => exact p3
    | ok b0 S4 =>
      intro r4 H4 u ex4 R4 rb
      obtain ⟨r5, S5, b, e5, R5, rs5, rb5, ek5, p5⟩ := p3 r4 H4 u ex4 R4 rb
      obtain ⟨q, h1, h2⟩ := toR_some ek5
      subst h2
      exact hs r5 S5 H4 a b v u q Q R5 (ra2.ext e5) rb5 h1 p5
theorem v_op {op : Operator} {ro : R2} {g : G2} {a b : Expr} {fa fb : F} {pos : Pos} (ho : OpR X (binaryOp op) ro) (hs : Sem2 t g ro) (ha : PE X a (lift t W fa)) (hb : PE X b (lift t W fb)) : PE X (.BinOp a op b pos) (lift t W (opF g fa fb)) :=
  (pe_op ho ha hb).weak fun _ _ _ h => op_ok hs h
theorem v_cmp {op : CmpOp} {ro : R2} {g : G2} {a b : Expr} {fa fb : F} {pos : Pos} (ho : OpR X (compareOp op) ro) (hs : Sem2 t g ro) (ha : PE X a (lift t W fa)) (hb : PE X b (lift t W fb)) (hm : behindInMarks op b = false := by first | exact nomark _ | rfl) :
    PE X (.Compare a [op] [b] pos) (lift t W (opF g fa fb)) := (pe_cmpR ho ha hb hm).weak fun _ _ _ h => op_ok hs h
theorem v_cmpT {op : CmpOp} {ro : R2} {g : G2} {a b : Expr} {fa fb : F} {pos : Pos} (ho : OpR X (compareOp op) ro) (hs : Sem2 t g ro) (ha : PE X a (lift t W fa)) (hb : PE X b (lift t W fb)) (hm : behindInMarks op b = false := by first | exact nomark _ | rfl) :
    PT X (.Compare a [op] [b] pos) (liftB t W (opF g fa fb)) := (pt_cmpR ho ha hb hm).weak fun _ _ _ h => op_ok hs h
theorem v_ix {ro : R2} {g : G2} {a b : Expr} {fa fb : F} {pos : Pos} (ho : IxR X ro) (hs : Sem2 t g ro) (ha : PE X a (lift t W fa)) (hb : PE X b (lift t W fb)) (hp : PlainIx b := by exact fun _ _ => rfl) : PE X (.Subscript a b pos) (lift t W (opF g fa fb)) :=
  (pe_ix ho ha hb hp).weak fun _ _ _ h => op_ok hs h
def Sem1 (t : Tx) (g : G1) (ro : V → Hp → VK → Prop) : Prop := ∀ (r : List Addr) (S : List O) (H : Hp) (a : A) (x : V) (p : A × List O) (Q : VK), Rel t r S H → RA r a x → g a S = some p → PostG t Q r p → ro x H Q
def unF (g : G1) (fa : F) : F := bnd fa fun a => fun _ S => toR (g a S)
theorem un_ok {g : G1} {ro : V → Hp → VK → Prop} (hs : Sem1 t g ro) {fa : F} {σ : St} {H : Hp} {Q : VK} (h : lift t W (unF g fa) σ H Q) : tUn ro (lift t W fa) σ H Q := by
  obtain ⟨r, sa, S, x, R, rs, e, p⟩ := h
  obtain ⟨r1, sa1, S1, y, R1, rs1, e1, p1⟩ := go_bnd R rs e p
  refine ⟨r1, sa1, S1, y, R1, rs1, e1, ?_⟩
  cases y with
  | er c S' => exact p1
  | ok a0 S0 =>
    intro r' H' v ex R' ra
    obtain ⟨r2, S2, a, e2, R2, rs2, ra2, ek, p2⟩ := p1 r' H' v ex R' ra
    obtain ⟨q, h1, h2⟩ := toR_some ek
    subst h2
    exact hs r2 S2 H' a v q Q R2 ra2 h1 p2
theorem v_neg {a : Expr} {fa : F} {pos : Pos} {g : G1} (hs : Sem1 t g (rU fun i => .int (-i))) (ha : PE X a (lift t W fa)) : PE X (.UnaryOp .USub a pos) (lift t W (unF g fa)) := (pe_un un_neg ha).weak fun _ _ _ h => un_ok hs h

/-! ### and, or, not, chains, if -/
def andF (fa fb : F) : F := bnd fa fun a => match a with
  | .bl true => fb
  | .bl false => conF (.bl false)
  | _ => fun _ _ => none
def orF (fa fb : F) : F := bnd fa fun a => match a with
  | .bl true => conF (.bl true)
  | .bl false => fb
  | _ => fun _ _ => none
def notF (fa : F) : F := bnd fa fun a => match a with
  | .bl b => conF (.bl (!b))
  | _ => fun _ _ => none
def ifF (ft fa fb : F) : F := bnd ft fun a => match a with
  | .bl true => fa
  | .bl false => fb
  | _ => fun _ _ => none
theorem step_bnd {f : F} {k : A → F} {σ : St} {H : Hp} {Q Q2 : VK} (h : lift t W (bnd f k) σ H Q) (hk : ∀ (r : List Addr) (S : List O) (sa : Sa) (a : A) (v : V) (H1 : Hp) (x : R), Rel t r S H1 → RS r sa σ → RA r a v → k a sa S = some x → PostE t W σ Q r x → Q2 v H1) : lift t W f σ H Q2 := by
  obtain ⟨r, sa, S, x, R, rs, e, p⟩ := h
  obtain ⟨r1, sa1, S1, y, R1, rs1, e1, p1⟩ := go_bnd R rs e p
  refine ⟨r1, sa1, S1, y, R1, rs1, e1, ?_⟩
  cases y with
  | er c S' => exact p1
  | ok a0 S0 =>
    intro r' H' v ex R' ra
    obtain ⟨r2, S2, a, e2, R2, rs2, ra2, ek, p2⟩ := p1 r' H' v ex R' ra
    exact hk r2 S2 sa a v H' x R2 rs2 ra2 ek p2
theorem and_okV {fa fb : F} {σ : St} {H : Hp} {Q : VK} (h : lift t W (andF fa fb) σ H Q) : tAndV (lift t W fa) (lift t W fb) σ H Q :=
  step_bnd h fun r S sa a v H1 x R rs ra e p => by
    cases a with
    | bl b =>
      cases ra
      refine ⟨b, rfl, ?_⟩
      cases b with
      | true => exact iteT ⟨r, sa, S, x, R, rs, e, p⟩
      | false =>
        cases e
        exact iteF (p r H1 _ (Ext.refl r) R rfl)
    | _ => cases e
theorem or_okV {fa fb : F} {σ : St} {H : Hp} {Q : VK} (h : lift t W (orF fa fb) σ H Q) : tOrV (lift t W fa) (lift t W fb) σ H Q :=
  step_bnd h fun r S sa a v H1 x R rs ra e p => by
    cases a with
    | bl b =>
      cases ra
      refine ⟨b, rfl, ?_⟩
      cases b with
      | false => exact iteF ⟨r, sa, S, x, R, rs, e, p⟩
      | true =>
        cases e
        exact iteT (p r H1 _ (Ext.refl r) R rfl)
    | _ => cases e
theorem v_and {a b : Expr} {rest : List Expr} {fa fb : F} {pos : Pos} (ha : PE X a (lift t W fa)) (hb : PE X (.BoolOp .And (b :: rest) pos) (lift t W fb)) : PE X (.BoolOp .And (a :: b :: rest) pos) (lift t W (andF fa fb)) := (pe_and ha hb).weak fun _ _ _ h => and_okV h
theorem v_or {a b : Expr} {rest : List Expr} {fa fb : F} {pos : Pos} (ha : PE X a (lift t W fa)) (hb : PE X (.BoolOp .Or (b :: rest) pos) (lift t W fb)) : PE X (.BoolOp .Or (a :: b :: rest) pos) (lift t W (orF fa fb)) := (pe_or ha hb).weak fun _ _ _ h => or_okV h
theorem v_one {op} {a : Expr} {fa : F} {pos : Pos} (ha : PE X a (lift t W fa)) : PE X (.BoolOp op [a] pos) (lift t W fa) := pe_one ha
theorem v_not {a : Expr} {fa : F} {pos : Pos} (ha : PE X a (lift t W fa)) : PE X (.UnaryOp .Not a pos) (lift t W (notF fa)) := (pe_not ha).weak fun _ _ _ h =>
  step_bnd h fun r S sa a v H1 x R rs ra e p => by
    cases a with
    | bl b =>
      cases ra
      cases e
      exact ⟨b, rfl, p r H1 _ (Ext.refl r) R rfl⟩
    | _ => cases e
/-- tests -/
theorem v_val {e : Expr} {f : F} (h : PE X e (lift t W f)) (he : ∀ whole, isTrue e X.env whole = (do let v ← whole; standAt e.pos; holding [v] (truthy v)) := by intro _; rfl) : PT X e (liftB t W f) := pt_val h he
theorem v_wand1 {a : Expr} {fa : F} {pos : Pos} (ha : PT X a (liftB t W fa)) : PW X (.BoolOp .And [a] pos) (liftB t W fa) := pw_and1 ha
theorem v_wor1 {a : Expr} {fa : F} {pos : Pos} (ha : PT X a (liftB t W fa)) : PW X (.BoolOp .Or [a] pos) (liftB t W fa) := pw_or1 ha
theorem v_wand {a b : Expr} {rest : List Expr} {fa fb : F} {pos : Pos} (ha : PT X a (liftB t W fa)) (hb : PW X (.BoolOp .And (b :: rest) pos) (liftB t W fb)) : PW X (.BoolOp .And (a :: b :: rest) pos) (liftB t W (andF fa fb)) :=
  (pw_and ha hb).weak fun _ _ _ h => step_bnd h fun r S sa a v H1 x R rs ra e p => by
    cases a with
    | bl b =>
      cases ra
      refine ⟨b, rfl, ?_⟩
      cases b with
      | true => exact iteT ⟨r, sa, S, x, R, rs, e, p⟩
      | false =>
        cases e
        obtain ⟨c, e, q⟩ := p r H1 _ (Ext.refl r) R rfl
        cases e
        exact iteF q
    | _ => cases e
theorem v_wor {a b : Expr} {rest : List Expr} {fa fb : F} {pos : Pos} (ha : PT X a (liftB t W fa)) (hb : PW X (.BoolOp .Or (b :: rest) pos) (liftB t W fb)) : PW X (.BoolOp .Or (a :: b :: rest) pos) (liftB t W (orF fa fb)) :=
  (pw_or ha hb).weak fun _ _ _ h => step_bnd h fun r S sa a v H1 x R rs ra e p => by
    cases a with
    | bl b =>
      cases ra
      refine ⟨b, rfl, ?_⟩
      cases b with
      | false => exact iteF ⟨r, sa, S, x, R, rs, e, p⟩
      | true =>
        cases e
        obtain ⟨c, e, q⟩ := p r H1 _ (Ext.refl r) R rfl
        cases e
        exact iteT q
    | _ => cases e
theorem v_notT {a : Expr} {fa : F} {pos : Pos} (ha : PT X a (liftB t W fa)) : PT X (.UnaryOp .Not a pos) (liftB t W (notF fa)) :=
  (pt_not ha).weak fun _ _ _ h => step_bnd h fun r S sa a v H1 x R rs ra e p => by
    cases a with
    | bl b =>
      cases ra
      cases e
      obtain ⟨c, e, q⟩ := p r H1 _ (Ext.refl r) R rfl
      cases e
      exact ⟨b, rfl, q⟩
    | _ => cases e
theorem v_ifE {c a b : Expr} {ft fa fb : F} {pos : Pos} (hc : PT X c (liftB t W ft)) (ha : PE X a (lift t W fa)) (hb : PE X b (lift t W fb)) : PE X (.IfExp c a b pos) (lift t W (ifF ft fa fb)) :=
  (pe_ifExp hc ha hb).weak fun _ _ _ h => step_bnd h fun r S sa a v H1 x R rs ra e p => by
    cases a with
    | bl b =>
      cases ra
      refine ⟨b, rfl, ?_⟩
      cases b with
      | true => exact iteT ⟨r, sa, S, x, R, rs, e, p⟩
      | false => exact iteF ⟨r, sa, S, x, R, rs, e, p⟩
    | _ => cases e
def chF (g g' : G2) (fa fb fc : F) : F := bnd fa fun a => bnd fb fun b => bnd (fun _ S => toR (g a b S)) fun d => match d with
  | .bl true => bnd fc fun c => fun _ S2 => toR (g' b c S2)
  | .bl false => conF (.bl false)
  | _ => fun _ _ => none
theorem step_go {f : F} {k : A → F} {r : List Addr} {sa : Sa} {S : List O} {x : R} {σ : St} {H : Hp} {Q Q2 : VK} (R : Rel t r S H) (rs : RS r sa σ) (e : bnd f k sa S = some x) (p : PostE t W σ Q r x)
    (hk : ∀ (r' : List Addr) (S' : List O) (a : A) (v : V) (H1 : Hp), Ext r r' → Rel t r' S' H1 → RS r' sa σ → RA r' a v → k a sa S' = some x → PostE t W σ Q r' x → Q2 v H1) : lift t W f σ H Q2 := by
  obtain ⟨r1, sa1, S1, y, R1, rs1, e1, p1⟩ := go_bnd R rs e p
  refine ⟨r1, sa1, S1, y, R1, rs1, e1, ?_⟩
  cases y with
  | er c S' => exact p1
  | ok a0 S0 =>
    intro r' H' v ex R' ra
    obtain ⟨r2, S2, a, e2, R2, rs2, ra2, ek, p2⟩ := p1 r' H' v ex R' ra
    exact hk r2 S2 a v H' e2 R2 rs2 ra2 ek p2
theorem ch_ok {g g' : G2} {ro ro' : R2} (hs : Sem2 t g ro) (hs' : Sem2 t g' ro') {fa fb fc : F} {σ : St} {H : Hp} {Q : VK} (h : lift t W (chF g g' fa fb fc) σ H Q) : tChain ro ro' (lift t W fa) (lift t W fb) (lift t W fc) σ H Q := by
  refine step_bnd h fun r S sa a v H1 x R rs ra e p => ?_
  refine step_go R rs e p fun r2 S2 b u H2 e2 R2 rs2 rb ek p2 => ?_
  have ra2 := ra.ext e2
  cases hg : g a b S2 with
  | none =>
    simp only [bnd, hg, toR] at ek
    cases ek
  | some q =>
    refine hs r2 S2 H2 a b v u q _ R2 ra2 rb hg fun r3 H3 z e3 R3 rz => ?_
    simp only [bnd, hg, toR] at ek
    obtain ⟨d, S3⟩ := q
    cases d with
    | bl k =>
      cases rz
      refine ⟨k, rfl, ?_⟩
      cases k with
      | false =>
        cases ek
        exact iteF (p2 r3 H3 _ e3 R3 rfl)
      | true =>
        refine iteT ?_
        refine step_go (x := x) (k := fun c => fun _ S2 => toR (g' b c S2)) R3 (rs2.ext e3) ek (p2.ext e3) fun r4 S4 c w H4 e4 R4 rs4 rc ek4 p4 => ?_
        obtain ⟨q, h1, h2⟩ := toR_some ek4
        subst h2
        exact hs' r4 S4 H4 b c u w q Q R4 ((rb.ext e3).ext e4) rc h1 p4
    | _ => cases ek
theorem v_chain {op op' : CmpOp} {ro ro' : R2} {g g' : G2} {a b c : Expr} {fa fb fc : F} {pos : Pos} (ho : OpR X (compareOp op) ro) (ho' : OpR X (compareOp op') ro') (hs : Sem2 t g ro) (hs' : Sem2 t g' ro') (ha : PE X a (lift t W fa)) (hb : PE X b (lift t W fb)) (hc : PE X c (lift t W fc))
    (hm : lastMarks [op, op'] [b, c] = false := by with_unfolding_all rfl) : PE X (.Compare a [op, op'] [b, c] pos) (lift t W (chF g g' fa fb fc)) := (pe_chain ho ho' ha hb hc hm).weak fun _ _ _ h => ch_ok hs hs' h
theorem v_chainT {op op' : CmpOp} {ro ro' : R2} {g g' : G2} {a b c : Expr} {fa fb fc : F} {pos : Pos} (ho : OpR X (compareOp op) ro) (ho' : OpR X (compareOp op') ro') (hs : Sem2 t g ro) (hs' : Sem2 t g' ro') (ha : PE X a (lift t W fa)) (hb : PE X b (lift t W fb)) (hc : PE X c (lift t W fc))
    (hm : lastMarks [op, op'] [b, c] = false := by with_unfolding_all rfl) : PT X (.Compare a [op, op'] [b, c] pos) (liftB t W (chF g g' fa fb fc)) := (pt_chain ho ho' ha hb hc hm).weak fun _ _ _ h => ch_ok hs hs' h
end
end Vai
set_option maxRecDepth 100000
set_option maxHeartbeats 2000000
namespace Vai
open PySem L2
def nilF : FL := fun _ S => some (.ok [] S)
def consF (fa : F) (fl : FL) : FL := fun sa S => match fa sa S with
  | some (.ok a S1) => (match fl sa S1 with
    | some (.ok as S2) => some (.ok (a :: as) S2)
    | some (.er c S2) => some (.er c S2)
    | none => none)
  | some (.er c S1) => some (.er c S1)
  | none => none
def bndL (f : FL) (k : List A → F) : F := fun sa S => match f sa S with
  | some (.ok as S') => k as sa S'
  | some (.er c S') => some (.er c S')
  | none => none
section
variable {X : Cx} {t : Tx} {W : WX}
theorem v_nil : PA X [] (liftL t W nilF) := pa_nil.weak fun σ H Q h => by
  obtain ⟨r, sa, S, x, R, rs, e, p⟩ := h
  cases e
  exact p r H [] (Ext.refl r) R .nil
theorem v_cons {e : Expr} {es : List Expr} {fa : F} {fl : FL} (ha : PE X e (lift t W fa)) (hr : PA X es (liftL t W fl)) (hs : starEach (e :: es) X.env = (false, eval e X.env) :: starEach es X.env := by rfl) : PA X (e :: es) (liftL t W (consF fa fl)) :=
  (pa_cons ha hr hs).weak fun σ H Q h => by
    obtain ⟨r, sa, S, x, R, rs, e, p⟩ := h
    unfold consF at e
    cases hf : fa sa S with
    | none =>
      rw [hf] at e
      cases e
    | some y =>
      rw [hf] at e
      cases y with
      | er c S1 =>
        cases e
        exact ⟨r, sa, S, _, R, rs, hf, p⟩
      | ok a S1 =>
        refine ⟨r, sa, S, _, R, rs, hf, fun r1 H1 v e1 R1 ra => ?_⟩
        dsimp only at e
        cases hg : fl sa S1 with
        | none =>
          rw [hg] at e
          cases e
        | some z =>
          rw [hg] at e
          refine ⟨r1, sa, S1, z, R1, rs.ext e1, hg, ?_⟩
          cases z with
          | er c S2 =>
            cases e
            exact fun r2 H2 e2 R2 => p r2 H2 (e1.trans e2) R2
          | ok as S2 =>
            cases e
            exact fun r2 H2 vs e2 R2 rl => p r2 H2 (v :: vs) (e1.trans e2) R2 (.cons (ra.ext e2) rl)
theorem step_bndL {f : FL} {k : List A → F} {σ : St} {H : Hp} {Q : VK} {Q2 : List V → Hp → Prop} (h : lift t W (bndL f k) σ H Q)
    (hk : ∀ (r : List Addr) (S : List O) (sa : Sa) (as : List A) (vs : List V) (H1 : Hp) (x : R), Rel t r S H1 → RS r sa σ → Paired (RA r) as vs → k as sa S = some x → PostE t W σ Q r x → Q2 vs H1) : liftL t W f σ H Q2 := by
  obtain ⟨r, sa, S, x, R, rs, e, p⟩ := h
  unfold bndL at e
  cases hf : f sa S with
  | none =>
    rw [hf] at e
    cases e
  | some y =>
    rw [hf] at e
    refine ⟨r, sa, S, y, R, rs, hf, ?_⟩
    cases y with
    | er c S' =>
      cases e
      exact p
    | ok as S' => exact fun r' H' vs ex R' ra => hk r' S' sa as vs H' x R' (rs.ext ex) ra e (p.ext ex)
/-- a new object -/
theorem alloc {σ : St} {r : List Addr} {S : List O} {H : Hp} {o : O} {u : HO} {Q : VK} (R : Rel t r S H) (p : PostE t W σ Q r (.ok (.ref S.length) (S ++ [o]))) (ho : ∀ q, RO t (r ++ [q]) (upd H q u) q o) : ∀ q, H q = none → Q (.ref q) (upd H q u) :=
  fun q hq => p (r ++ [q]) _ _ (Ext.snoc r q) (R.new hq (ho q)) ⟨q, by rw [← R.len]; exact get_snoc_new r q, rfl⟩
theorem allocG {r : List Addr} {S : List O} {H : Hp} {o : O} {u : HO} {Q : VK} (R : Rel t r S H) (p : PostG t Q r (.ref S.length, S ++ [o])) (ho : ∀ q, RO t (r ++ [q]) (upd H q u) q o) : ∀ q, H q = none → Q (.ref q) (upd H q u) :=
  fun q hq => p (r ++ [q]) _ _ (Ext.snoc r q) (R.new hq (ho q)) ⟨q, by rw [← R.len]; exact get_snoc_new r q, rfl⟩
theorem big {n : Nat} (h : n ≤ 1000000) : n ≤ sizeLine := by rw [sizeLine_eq]; omega
def newF (mk : List A → O) (fl : FL) : F := bndL fl fun as => fun _ S => if as.length ≤ 1000000 then some (.ok (.ref S.length) (S ++ [mk as])) else none
theorem v_tup {es : List Expr} {x1} {fl : FL} {pos : Pos} (h : PA X es (liftL t W fl)) : PE X (.Tuple es x1 pos) (lift t W (newF O.tup fl)) := (pe_tup h).weak fun σ H Q h =>
  step_bndL h fun r S sa as vs H1 x R rs ra e p => by
    split at e
    · rename_i hl
      cases e
      exact ⟨by rw [← pr_len ra]; exact big hl, alloc R p fun q => ⟨vs, .inl upd_same, RAs.ext (Ext.snoc r q) ra⟩⟩
    · cases e
theorem v_lst {es : List Expr} {fl : FL} {pos : Pos} (h : PA X es (liftL t W fl)) : PE X (.List es pos) (lift t W (newF O.lst fl)) := (pe_lst h).weak fun σ H Q h =>
  step_bndL h fun r S sa as vs H1 x R rs ra e p => by
    split at e
    · rename_i hl
      cases e
      exact ⟨by rw [← pr_len ra]; exact big hl, alloc R p fun q => ⟨vs, upd_same, RAs.ext (Ext.snoc r q) ra⟩⟩
    · cases e
/-- {} -/
def newD : F := fun _ S => some (.ok (.ref S.length) (S ++ [.dic []]))
theorem v_dict0 {pos : Pos} : PE X (.Dict [] [] pos) (lift t W newD) := pe_dnewK.weak fun σ H Q h => by
  obtain ⟨r, sa, S, x, R, rs, e, p⟩ := h
  cases e
  exact alloc R p fun q => ⟨[], upd_same, .nil⟩

/-! ### calls -/
abbrev GN := List A → List O → Option (A × List O)
def SemN (t : Tx) (g : GN) (ro : List V → Hp → VK → Prop) : Prop := ∀ (r : List Addr) (S : List O) (H : Hp) (as : List A) (vs : List V) (p : A × List O) (Q : VK), Rel t r S H → Paired (RA r) as vs → g as S = some p → PostG t Q r p → ro vs H Q
def clF (g : GN) (fl : FL) : F := bndL fl fun as => fun _ S => toR (g as S)
theorem cl_ok {g : GN} {ro : List V → Hp → VK → Prop} (hs : SemN t g ro) {fl : FL} {σ : St} {H : Hp} {Q : VK} (h : lift t W (clF g fl) σ H Q) : tCB ro (liftL t W fl) σ H Q :=
  step_bndL h fun r S sa as vs H1 x R rs ra e p => by
    obtain ⟨q, h1, h2⟩ := toR_some e
    subst h2
    exact hs r S H1 as vs q Q R ra h1 p
theorem v_callB {id : String} {ro : List V → Hp → VK → Prop} {g : GN} {x : Str} {e : Expr} {es : List Expr} {fl : FL} {p pos : Pos} (hc : CallR X (.builtin id) ro) (hs : SemN t g ro) (hm : X.mg x = none) (hv : bootBuiltins x = some (.builtin id)) (ha : PA X (e :: es) (liftL t W fl)) (hg : Gl X x := by rfl)
    (hn : x ≠ "__name__" := by decide) (hdb : (x == ("__debug__" : Str)) = false := by decide) (he : starEach (e :: es) X.env = (false, eval e X.env) :: starEach es X.env := by rfl) (hpl : (backTo pos (starEach es X.env)).any (·.1) = false := by rfl) :
    PE X (.Call (.Name x p) (e :: es) [] pos) (lift t W (clF g fl)) := (pe_callB hc hg hm hv ha hn hdb he hpl).weak fun _ _ _ h => cl_ok hs h
theorem v_callTy {T : String} {ro : List V → Hp → VK → Prop} {g : GN} {x : Str} {e : Expr} {es : List Expr} {fl : FL} {p pos : Pos} (hc : CallR X (.type T) ro) (hs : SemN t g ro) (hm : X.mg x = none) (hv : bootBuiltins x = some (.type T)) (ha : PA X (e :: es) (liftL t W fl)) (hg : Gl X x := by rfl)
    (hn : x ≠ "__name__" := by decide) (hdb : (x == ("__debug__" : Str)) = false := by decide) (he : starEach (e :: es) X.env = (false, eval e X.env) :: starEach es X.env := by rfl) (hpl : (backTo pos (starEach es X.env)).any (·.1) = false := by rfl) :
    PE X (.Call (.Name x p) (e :: es) [] pos) (lift t W (clF g fl)) := (pe_callTy hc hg hm hv ha hn hdb he hpl).weak fun _ _ _ h => cl_ok hs h
def PostD (t : Tx) (Q : VK) (E : XK) (r : List Addr) : R → Prop
  | .ok a S => ∀ (r' : List Addr) (H : Hp) (v : V), Ext r r' → Rel t r' S H → RA r' a v → Q v H
  | .er c S => ∀ (r' : List Addr) (H : Hp), Ext r r' → Rel t r' S H → ∀ d, ErD H c d → E (.ref (t.cl c)) d H
/-- a def's promise: what the function says -/
def spF (t : Tx) (n : Nat) (f : FD) : Sp := fun vs H Q E => vs.length = n ∧ ∃ r as S x, Rel t r S H ∧ Paired (RA r) as vs ∧ f as S = some x ∧ PostD t Q E r x
def callF (f : FD) (fl : FL) : F := bndL fl fun as => fun _ S => f as S
theorem v_call {k n : Nat} {f : Addr} {fd : FuncData} {ps : List Str} {d : FD} {x : Str} {e : Expr} {es : List Expr} {fl : FL} {p pos : Pos} (G : FnOk X.prog X.w X.K X.mg X.base (L2.CX X.prog X.w) k f fd ps (spF t n d)) (hn : ps.length = n) (hr : Room k X.A) (hm : X.mg x = some (.ref f)) (hk : PySem.W.keepIn X.K (.ref f) = true)
    (hb : Binds X.K fd ps []) (tk : Takes X W) (ha : PA X (e :: es) (liftL t W fl)) (hl : ∀ vs : List V, ∀ as : List A, ∀ S S' : List O, ∀ sa, fl sa S = some (.ok as S') → as.length = n) (hg : Gl X x := by rfl)
    (hdb : (x == ("__debug__" : Str)) = false := by decide) (he : starEach (e :: es) X.env = (false, eval e X.env) :: starEach es X.env := by rfl) (hpl : (backTo pos (starEach es X.env)).any (·.1) = false := by rfl) :
    PE X (.Call (.Name x p) (e :: es) [] pos) (lift t W (callF d fl)) :=
  (pe_callS (E := WE W) G hr hg hm hk hb (fun σ => passAt tk σ) ha hdb he hpl).weak fun σ H Q h => by
    obtain ⟨r, sa, S, x, R, rs, e, p⟩ := h
    unfold callF bndL at e
    cases hf : fl sa S with
    | none =>
      rw [hf] at e
      cases e
    | some y =>
      rw [hf] at e
      refine ⟨r, sa, S, y, R, rs, hf, ?_⟩
      cases y with
      | er c S' =>
        cases e
        exact p
      | ok as S' =>
        intro r' H' vs ex R' ra
        refine ⟨by rw [← pr_len ra]; exact hl vs as S S' sa hf, r', as, S', x, R', ra, e, ?_⟩
        cases x with
        | ok a S2 => exact fun r2 H2 v e2 R2 rv => p r2 H2 v (ex.trans e2) R2 rv
        | er c S2 => exact fun r2 H2 e2 R2 => p r2 H2 (ex.trans e2) R2
/-! ### statements -/
def seqF (f g : FS) : FS := fun sa S => match f sa S with
  | some (.nx sa' S') => g sa' S'
  | x => x
def endF : FS := fun sa S => some (.nx sa S)
def retF (fa : F) : FS := fun sa S => match fa sa S with
  | some (.ok a S') => some (.rt a S')
  | some (.er c S') => some (.er c sa S')
  | none => none
def expF (fa : F) : FS := fun sa S => match fa sa S with
  | some (.ok _ S') => some (.nx sa S')
  | some (.er c S') => some (.er c sa S')
  | none => none
def condF (fc : F) (f g : FS) : FS := fun sa S => match fc sa S with
  | some (.ok (.bl true) S') => f sa S'
  | some (.ok (.bl false) S') => g sa S'
  | some (.ok _ _) => none
  | some (.er c S') => some (.er c sa S')
  | none => none
theorem v_send : PSs X [] (liftS t W endF) := pss_nil.weak fun D σ H h => by
  obtain ⟨r, sa, S, x, R, rs, e, p⟩ := h
  cases e
  exact p r H σ (Ext.refl r) R rs
theorem v_seq {st : Stmt} {rest : List Stmt} {f g : FS} (h1 : PS X st (liftS t W f)) (h2 : PSs X rest (liftS t W g)) : PSs X (st :: rest) (liftS t W (seqF f g)) := (pss_cons h1 h2).weak fun D σ H h => by
  obtain ⟨r, sa, S, x, R, rs, e, p⟩ := h
  unfold seqF at e
  cases hf : f sa S with
  | none =>
    rw [hf] at e
    cases e
  | some y =>
    rw [hf] at e
    refine ⟨r, sa, S, y, R, rs, hf, ?_⟩
    cases y with
    | nx sa' S' => exact fun r' H' σ' ex R' rs' => ⟨r', sa', S', x, R', rs', e, p.ext ex⟩
    | rt a S' =>
      cases e
      exact p
    | bk sa' S' =>
      cases e
      exact p
    | ct sa' S' =>
      cases e
      exact p
    | er c sa' S' =>
      cases e
      exact p
theorem v_s1 {st : Stmt} {f : FS} (h1 : PS X st (liftS t W f)) : PSs X [st] (liftS t W f) := pss_one h1
theorem v_ret {e : Expr} {fa : F} {pos : Pos} (h : PE X e (lift t W fa)) : PS X (.Return (some e) pos) (liftS t W (retF fa)) := (ps_ret h).weak fun D σ H h => by
  obtain ⟨r, sa, S, x, R, rs, e, p⟩ := h
  unfold retF at e
  cases hf : fa sa S with
  | none =>
    rw [hf] at e
    cases e
  | some y =>
    rw [hf] at e
    refine ⟨r, sa, S, y, R, rs, hf, ?_⟩
    cases y with
    | ok a S' =>
      cases e
      exact p
    | er c S' =>
      cases e
      exact fun r' H' ex R' => p r' H' σ ex R' (rs.ext ex)
theorem v_exp {e : Expr} {fa : F} {pos : Pos} (h : PE X e (lift t W fa)) (hs : swapsWith e none pos.line X.env = pure false := by rfl) : PS X (.Expr e pos) (liftS t W (expF fa)) := (ps_expr h hs).weak fun D σ H h => by
  obtain ⟨r, sa, S, x, R, rs, e, p⟩ := h
  unfold expF at e
  cases hf : fa sa S with
  | none =>
    rw [hf] at e
    cases e
  | some y =>
    rw [hf] at e
    refine ⟨r, sa, S, y, R, rs, hf, ?_⟩
    cases y with
    | ok a S' =>
      cases e
      exact fun r' H' v ex R' _ => p r' H' σ ex R' (rs.ext ex)
    | er c S' =>
      cases e
      exact fun r' H' ex R' => p r' H' σ ex R' (rs.ext ex)
theorem v_if {c : Expr} {a b : List Stmt} {fc : F} {f g : FS} {pos : Pos} (hc : PT X c (liftB t W fc)) (ha : PSs X a (liftS t W f)) (hb : PSs X b (liftS t W g)) : PS X (.If c a b pos) (liftS t W (condF fc f g)) := (ps_if hc ha hb).weak fun D σ H h => by
  obtain ⟨r, sa, S, x, R, rs, e, p⟩ := h
  unfold condF at e
  cases hf : fc sa S with
  | none =>
    rw [hf] at e
    cases e
  | some y =>
    rw [hf] at e
    refine ⟨r, sa, S, y, R, rs, hf, ?_⟩
    cases y with
    | er c S' =>
      cases e
      exact fun r' H' ex R' => p r' H' σ ex R' (rs.ext ex)
    | ok a S' =>
      cases a with
      | bl k =>
        intro r' H' v ex R' ra
        cases ra
        refine ⟨k, rfl, ?_⟩
        cases k with
        | true => exact iteT ⟨r', sa, S', x, R', rs.ext ex, e, p.ext ex⟩
        | false => exact iteF ⟨r', sa, S', x, R', rs.ext ex, e, p.ext ex⟩
      | _ => cases e
/-! ### targets -/
abbrev TF := A → Sa → List O → Option (Sa × List O)
abbrev TFs := List A → Sa → List O → Option (Sa × List O)
def liftG (t : Tx) (f : TF) : TG := fun v σ H Q => ∃ r sa S a z, Rel t r S H ∧ RS r sa σ ∧ RA r a v ∧ f a sa S = some z ∧ ∀ (r' : List Addr) (H' : Hp) (σ' : St), Ext r r' → Rel t r' z.2 H' → RS r' z.1 σ' → Q σ' H'
def liftGs (t : Tx) (f : TFs) : TGs := fun vs σ H Q => ∃ r sa S as z, Rel t r S H ∧ RS r sa σ ∧ Paired (RA r) as vs ∧ f as sa S = some z ∧ ∀ (r' : List Addr) (H' : Hp) (σ' : St), Ext r r' → Rel t r' z.2 H' → RS r' z.1 σ' → Q σ' H'
theorem _root_.L2.PG.weak {X : Cx} {e : Expr} {t1 t2 : TG} (h : PG X e t1) (k : ∀ v σ H Q, t2 v σ H Q → t1 v σ H Q) : PG X e t2 := by
  constructor
  intros
  apply h.run <;> first | assumption | (apply k; assumption)
theorem _root_.L2.PGs.weak {X : Cx} {e : List Expr} {t1 t2 : TGs} (h : PGs X e t1) (k : ∀ v σ H Q, t2 v σ H Q → t1 v σ H Q) : PGs X e t2 := by
  constructor
  intros
  apply h.run <;> first | assumption | (apply k; assumption)
def nameT (i : Nat) : TF := fun a sa S => some (sa.set i (some a), S)
def nilT : TFs := fun as sa S => match as with
  | [] => some (sa, S)
  | _ => none
def consT (f : TF) (g : TFs) : TFs := fun as sa S => match as with
  | [] => none
  | a :: r => match f a sa S with
    | some z => g r z.1 z.2
    | none => none
def tupT (n : Nat) (g : TFs) : TF := fun a sa S => match a with
  | .ref l => match S[l]? with
    | some (.tup as) => if as.length = n then g as sa S else none
    | _ => none
  | _ => none
def subT (fo fi : F) : TF := fun a sa S => match fo sa S with
  | some (.ok (.ref l) S1) => (match fi sa S1 with
    | some (.ok (.int k) S2) => (match S2[l]? with
      | some (.lst xs) => (match ixN xs.length k with
        | some j => some (sa, S2.set l (.lst (xs.set j a)))
        | none => none)
      | _ => none)
    | _ => none)
  | _ => none
theorem v_gname (i : Nat) {x : Str} {pos : Pos} (hN : X.N.Nodup) (hi : X.N[i]? = some x := by rfl) (hx : Loc X.env.scope x := by first | exact Or.inl rfl | exact Or.inr rfl) (hf : X.fn x = true ∨ X.env.scope.names.lookup x = some .local := by first | exact .inl rfl | exact .inr rfl | assumption) :
    PG X (.Name x pos) (liftG t (nameT i)) := (pg_name hN hi hx hf).weak fun v σ H Q h => by
  obtain ⟨r, sa, S, a, z, R, rs, ra, e, k⟩ := h
  cases e
  exact k r H _ (Ext.refl r) R (rs.set ra i)
theorem v_gnil : PGs X [] (liftGs t nilT) := pgs_nil.weak fun vs σ H Q h => by
  obtain ⟨r, sa, S, as, z, R, rs, ra, e, k⟩ := h
  cases ra with
  | nil =>
    cases e
    exact ⟨rfl, k r H σ (Ext.refl r) R rs⟩
  | cons h q => cases e
theorem v_gcons {e : Expr} {es : List Expr} {f : TF} {g : TFs} (h1 : PG X e (liftG t f)) (h2 : PGs X es (liftGs t g)) (hs : (assignEach (e :: es) X.env).map (·.2) = assign e X.env :: (assignEach es X.env).map (·.2) := by rfl) : PGs X (e :: es) (liftGs t (consT f g)) := (pgs_cons h1 h2 hs).weak fun vs σ H Q h => by
  obtain ⟨r, sa, S, as, z, R, rs, ra, e, k⟩ := h
  cases ra with
  | nil => cases e
  | @cons a v as vs h q =>
    simp only [consT] at e
    cases hf : f a sa S with
    | none =>
      rw [hf] at e
      cases e
    | some s1 =>
      rw [hf] at e
      exact ⟨v, vs, rfl, r, sa, S, a, s1, R, rs, h, hf, fun r' H' σ' ex R' rs' => ⟨r', s1.1, s1.2, as, z, R', rs', RAs.ext ex q, e, fun r2 H2 σ2 e2 R2 rs2 => k r2 H2 σ2 (ex.trans e2) R2 rs2⟩⟩
theorem tupG_ok {g : TFs} {n : Nat} (hK : X.K = t.K) {v : V} {σ : St} {H : Hp} {Q : St → Hp → Prop} (h : liftG t (tupT n g) v σ H Q) : gTup X.K n (liftGs t g) v σ H Q := by
  obtain ⟨r, sa, S, a, z, R, rs, ra, e, k⟩ := h
  unfold tupT at e
  split at e
  · rename_i l
    split at e
    · rename_i as hl
      split at e
      · rename_i hn
        obtain ⟨p, hp, rfl⟩ := ra
        obtain ⟨vs, h1, h2⟩ := R.ob l p _ hp hl
        exact ⟨p, vs, rfl, sqTo h1, by rw [← pr_len h2]; exact hn, r, sa, S, as, z, R, rs, h2, e, k⟩
      · cases e
    · cases e
  · cases e
theorem v_gsub {o i : Expr} {fo fi : F} {pos : Pos} (ho : PE X o (lift t W fo)) (hi : PE X i (lift t W fi)) (hp : PG X (.Subscript o i pos) (gSub (lift t W fo) (lift t W fi) rSetL)) : PG X (.Subscript o i pos) (liftG t (subT fo fi)) := hp.weak fun v σ H Q h => by
  obtain ⟨r, sa, S, a, z, R, rs, ra, e, k⟩ := h
  unfold subT at e
  cases hf : fo sa S with
  | none =>
    rw [hf] at e
    cases e
  | some y =>
    rw [hf] at e
    cases y with
    | er c S' => cases e
    | ok b S1 =>
      cases b with
      | ref l =>
        refine ⟨r, sa, S, _, R, rs, hf, fun r1 H1 ov e1 R1 rb => ?_⟩
        dsimp only at e
        cases hg : fi sa S1 with
        | none =>
          rw [hg] at e
          cases e
        | some y2 =>
          rw [hg] at e
          cases y2 with
          | er c S' => cases e
          | ok b2 S2 =>
            cases b2 with
            | int kk =>
              refine ⟨r1, sa, S1, _, R1, rs.ext e1, hg, fun r2 H2 iv e2 R2 rb2 => ?_⟩
              cases rb2
              obtain ⟨p, hp, rfl⟩ := rb.ext e2
              dsimp only at e
              cases hl : S2[l]? with
              | none =>
                rw [hl] at e
                cases e
              | some ob =>
                rw [hl] at e
                cases ob with
                | lst xs =>
                  obtain ⟨vs, h1, h2⟩ := R2.ob l p _ hp hl
                  dsimp only at e
                  cases hj : ixN xs.length kk with
                  | none =>
                    rw [hj] at e
                    cases e
                  | some j =>
                    rw [hj] at e
                    cases e
                    exact ⟨p, vs, kk, j, rfl, rfl, h1, by rw [← pr_len h2]; exact hj, k r2 _ σ (e1.trans e2) (R2.put (o' := .lst (xs.set j a)) hp hl rfl rfl h1 (fun _ _ z => by cases z) ⟨_, upd_same, pr_set ((ra.ext e1).ext e2) j h2⟩) (rs.ext (e1.trans e2))⟩
                | _ => cases e
            | _ => cases e
      | _ => cases e
def asgF (fa : F) (f : TF) : FS := fun sa S => match fa sa S with
  | some (.ok a S') => (match f a sa S' with
    | some z => some (.nx z.1 z.2)
    | none => none)
  | some (.er c S') => some (.er c sa S')
  | none => none
theorem asg_ok {fa : F} {f : TF} {D : Ends} {σ : St} {H : Hp} (h : liftS t W (asgF fa f) D σ H) : tAsg (lift t W fa) (liftG t f) D σ H := by
  obtain ⟨r, sa, S, x, R, rs, e, p⟩ := h
  unfold asgF at e
  cases hf : fa sa S with
  | none =>
    rw [hf] at e
    cases e
  | some y =>
    rw [hf] at e
    refine ⟨r, sa, S, y, R, rs, hf, ?_⟩
    cases y with
    | er c S' =>
      cases e
      exact fun r' H' ex R' => p r' H' σ ex R' (rs.ext ex)
    | ok a S' =>
      dsimp only at e
      cases hg : f a sa S' with
      | none =>
        rw [hg] at e
        cases e
      | some s1 =>
        rw [hg] at e
        cases e
        exact fun r' H' v ex R' ra => ⟨r', sa, S', a, s1, R', rs.ext ex, ra, hg, fun r2 H2 σ2 e2 R2 rs2 => p r2 H2 σ2 (ex.trans e2) R2 rs2⟩
def parF (i j : Nat) (fl : FL) : FS := fun sa S => match fl sa S with
  | some (.ok [a, b] S') => some (.nx ((sa.set i (some a)).set j (some b)) S')
  | some (.ok _ _) => none
  | some (.er c S') => some (.er c sa S')
  | none => none
theorem par_ok {i j : Nat} {fl : FL} {D : Ends} {σ : St} {H : Hp} (h : liftS t W (parF i j fl) D σ H) : tPar i j (liftL t W fl) D σ H := by
  obtain ⟨r, sa, S, x, R, rs, e, p⟩ := h
  unfold parF at e
  cases hf : fl sa S with
  | none =>
    rw [hf] at e
    cases e
  | some y =>
    rw [hf] at e
    refine ⟨r, sa, S, y, R, rs, hf, ?_⟩
    cases y with
    | er c S' =>
      cases e
      exact fun r' H' ex R' => p r' H' σ ex R' (rs.ext ex)
    | ok as S' =>
      intro r' H' vs ex R' ra
      split at e
      · rename_i a b S2 hy
        cases hy
        cases e
        cases ra with
        | cons h1 h2 =>
          cases h2 with
          | cons h3 h4 =>
            cases h4
            exact ⟨_, _, rfl, p r' H' _ ex R' (((rs.ext ex).set h1 i).set h3 j)⟩
      · cases e
      · rename_i hy
        cases hy
      · rename_i hy
        cases hy
theorem v_asg {tg e : Expr} {fa : F} {f : TF} {pos : Pos} (he : PE X e (lift t W fa)) (hg : PG X tg (liftG t f)) (hs : swapsWithSole [tg] e pos.line X.env = pure false := by rfl) (hw : swappedStores [tg] e X.env = pure none := by rfl) (h1 : (assignEach [tg] X.env).map (·.2) = [assign tg X.env] := by rfl) : PS X (.Assign [tg] e pos) (liftS t W (asgF fa f)) :=
  (ps_asg he hg hs hw h1).weak fun _ _ _ h => asg_ok h
end
end Vai
set_option maxRecDepth 100000
set_option maxHeartbeats 2000000
namespace Vai
open PySem L2
/-! ### what is walked -/
inductive Its where
  | sl (l : Nat) | st (l : Nat) | rg (lo : Int) (n : Nat)
inductive RI where
  | ok (i : Its) (S : List O)
  | er (c : Nat) (S : List O)
abbrev FI := Sa → List O → Option RI
def ItR (t : Tx) (r : List Addr) : Its → It → Prop
  | .sl l, J => ∃ p, r[l]? = some p ∧ J = Itl t.K p
  | .st l, J => ∃ p, r[l]? = some p ∧ J = Itt t.K p
  | .rg lo n, J => J = Itr lo n
def PostI (t : Tx) (W : WX) (σ : St) (Q : It → Hp → Prop) (r : List Addr) : RI → Prop
  | .ok i S => ∀ (r' : List Addr) (H : Hp) (J : It), Ext r r' → Rel t r' S H → ItR t r' i J → Q J H
  | .er c S => ∀ (r' : List Addr) (H : Hp), Ext r r' → Rel t r' S H → ∀ d, ErD H c d → W (.ref (t.cl c)) d σ H
def liftI (t : Tx) (W : WX) (f : FI) : TI := fun σ H Q => ∃ r sa S x, Rel t r S H ∧ RS r sa σ ∧ f sa S = some x ∧ PostI t W σ Q r x
/-- the item at a turn: some none at the end -/
def itemAt (i : Its) (j : Nat) (S : List O) : Option (Option A) := match i with
  | .sl l => (match S[l]? with
    | some (.lst xs) => some xs[j]?
    | some (.scr ns) => some ((ns[j]?).map A.int)
    | _ => none)
  | .st l => (match S[l]? with
    | some (.tup xs) => some xs[j]?
    | _ => none)
  | .rg lo n => some (if j < n then some (.int (lo + j)) else none)
def itsLen (i : Its) (S : List O) : Nat := match i with
  | .sl l => (match S[l]? with
    | some (.lst xs) => xs.length
    | some (.scr ns) => ns.length
    | _ => 0)
  | .st l => (match S[l]? with
    | some (.tup xs) => xs.length
    | _ => 0)
  | .rg _ n => n
theorem ItR.ext {t : Tx} {r r' : List Addr} (e : Ext r r') : ∀ {i : Its} {J : It}, ItR t r i J → ItR t r' i J
  | .sl _, _, ⟨p, h, q⟩ => ⟨p, e.get h, q⟩
  | .st _, _, ⟨p, h, q⟩ => ⟨p, e.get h, q⟩
  | .rg _ _, _, h => h
theorem PostI.ext {t : Tx} {W : WX} {σ : St} {Q : It → Hp → Prop} {r r' : List Addr} (e : Ext r r') : ∀ {x : RI}, PostI t W σ Q r x → PostI t W σ Q r' x
  | .ok _ _, h => fun r2 H v e2 => h r2 H v (e.trans e2)
  | .er _ _, h => fun r2 H e2 => h r2 H (e.trans e2)
theorem scr_sq {K : PySem.W.Frag} {H : Hp} {p : Addr} {ns : List Int} (h : (∃ o, H p = some (.frz o (.lst (ns.map V.int)))) ∨ SqL K (fun _ => none) p (ns.map V.int)) : SqL K H p (ns.map V.int) := by
  rcases h with ⟨o, h⟩ | h
  · exact .inl (.inr ⟨o, h⟩)
  · rcases h with (h | ⟨o, h⟩) | h
    · cases h
    · cases h
    · exact .inr h
section
variable {t : Tx} {r : List Addr} {S : List O} {H : Hp}
theorem pr_none {α β : Type} {F : α → β → Prop} : ∀ {xs : List α} {ys : List β} {i : Nat}, Paired F xs ys → xs[i]? = none → ys.length ≤ i := fun {xs ys i} h e => by
  rw [← pr_len h]
  exact List.getElem?_eq_none_iff.mp e
theorem item_go (R : Rel t r S H) {i : Its} {J : It} (hi : ItR t r i J) {j : Nat} {a : A} (h : itemAt i j S = some (some a)) : J.go j H ∧ ∀ x H', J.yld j H x H' → H' = H ∧ RA r a x := by
  cases i with
  | sl l =>
    obtain ⟨p, hp, rfl⟩ := hi
    simp only [itemAt] at h
    split at h
    · rename_i xs hl
      obtain ⟨vs, h1, h2⟩ := R.ob l p _ hp hl
      obtain ⟨y, h3, h4⟩ := pr_get h2 (Option.some.inj h)
      exact ⟨⟨vs, y, SqL.of h1, h3⟩, fun x H' ⟨e1, e2⟩ => ⟨e1, by have := e2 vs (SqL.of h1); rw [h3] at this; cases this; exact h4⟩⟩
    · rename_i ns hl
      have h1 := scr_sq (H := H) (R.ob l p _ hp hl)
      cases hn : ns[j]? with
      | none =>
        rw [hn] at h
        cases h
      | some z =>
        rw [hn] at h
        cases h
        have h3 : (ns.map V.int)[j]? = some (V.int z) := by rw [List.getElem?_map, hn] <;> rfl
        exact ⟨⟨_, _, h1, h3⟩, fun x H' ⟨e1, e2⟩ => ⟨e1, by have := e2 _ h1; rw [h3] at this; cases this; rfl⟩⟩
    · cases h
  | st l =>
    obtain ⟨p, hp, rfl⟩ := hi
    simp only [itemAt] at h
    split at h
    · rename_i xs hl
      obtain ⟨vs, h1, h2⟩ := R.ob l p _ hp hl
      obtain ⟨y, h3, h4⟩ := pr_get h2 (Option.some.inj h)
      exact ⟨⟨vs, y, sqTo h1, h3⟩, fun x H' ⟨e1, e2⟩ => ⟨e1, by have := e2 vs (sqTo h1); rw [h3] at this; cases this; exact h4⟩⟩
    · cases h
  | rg lo n =>
    cases hi
    simp only [itemAt] at h
    split at h
    · rename_i hj
      cases h
      exact ⟨hj, fun x H' ⟨e1, e2⟩ => ⟨e1, e2⟩⟩
    · cases h
theorem item_stop (R : Rel t r S H) {i : Its} {J : It} (hi : ItR t r i J) {j : Nat} (h : itemAt i j S = some none) : J.stop j H := by
  cases i with
  | sl l =>
    obtain ⟨p, hp, rfl⟩ := hi
    simp only [itemAt] at h
    split at h
    · rename_i xs hl
      obtain ⟨vs, h1, h2⟩ := R.ob l p _ hp hl
      exact ⟨vs, SqL.of h1, pr_none h2 (Option.some.inj h)⟩
    · rename_i ns hl
      have h1 := scr_sq (H := H) (R.ob l p _ hp hl)
      cases hn : ns[j]? with
      | none => exact ⟨_, h1, by rw [List.length_map]; exact List.getElem?_eq_none_iff.mp hn⟩
      | some z =>
        rw [hn] at h
        cases h
    · cases h
  | st l =>
    obtain ⟨p, hp, rfl⟩ := hi
    simp only [itemAt] at h
    split at h
    · rename_i xs hl
      obtain ⟨vs, h1, h2⟩ := R.ob l p _ hp hl
      exact ⟨vs, sqTo h1, pr_none h2 (Option.some.inj h)⟩
    · cases h
  | rg lo n =>
    cases hi
    simp only [itemAt] at h
    split at h
    · cases h
    · rename_i hj
      exact Nat.le_of_not_lt hj
end
def seqI (fa : F) : FI := fun sa S => match fa sa S with
  | some (.ok (.ref l) S') => (match S'[l]? with
    | some (.lst _) => some (.ok (.sl l) S')
    | some (.scr _) => some (.ok (.sl l) S')
    | some (.tup _) => some (.ok (.st l) S')
    | _ => none)
  | some (.ok _ _) => none
  | some (.er c S') => some (.er c S')
  | none => none
def inBd (i : Int) : Bool := decide (-4611686018427387904 ≤ i) && decide (i < 4611686018427387904)
def rg1I (fl : FL) : FI := fun sa S => match fl sa S with
  | some (.ok [.int j] S') => if inBd j then some (.ok (.rg 0 j.toNat) S') else none
  | some (.ok _ _) => none
  | some (.er c S') => some (.er c S')
  | none => none
def rg2I (fl : FL) : FI := fun sa S => match fl sa S with
  | some (.ok [.int i, .int j] S') => if inBd i && inBd j then some (.ok (.rg i (j - i).toNat) S') else none
  | some (.ok _ _) => none
  | some (.er c S') => some (.er c S')
  | none => none
theorem inBd_ok {i : Int} (h : inBd i = true) : -(2 ^ 62) ≤ i ∧ i < 2 ^ 62 := by
  unfold inBd at h
  simp only [Bool.and_eq_true, decide_eq_true_eq] at h
  omega
/-- either a list or a tuple -/
def iSeq (K : PySem.W.Frag) (tl : TE) : TI := fun σ H R => tl σ H fun x H1 => (∃ a, x = .ref a ∧ (∃ xs, SqL K H1 a xs) ∧ R (Itl K a) H1) ∨ ∃ a, x = .ref a ∧ (∃ xs, SqT K H1 a xs) ∧ R (Itt K a) H1
section
variable {X : Cx} {t : Tx} {W : WX} {tg : Expr}
theorem pi_seq {l : Expr} {tl : TE} (hl : PE X l tl) : PI X tg l (iSeq X.K tl) := by
  constructor
  intro pins s σ H R I h
  refine thn (hl.run pins s σ H _ I h) fun v s1 ⟨x, H1, I1, r1, q1⟩ => ?_
  rcases q1 with ⟨a, ea, ⟨xs, hq⟩, q⟩ | ⟨a, ea, ⟨xs, hq⟩, q⟩ <;> subst ea <;> cases r1
  · obtain ⟨us, _, pl, _⟩ := I1.list hq
    refine wpAny_pyIter_list pl.isList ⟨s1.heap.objs.size, [s1.heap.objs.size], _, _, H1, rfl, I1.kept (t' := s1.toks) fun b o z => Heap.get?_push_of_some _ z, turn_list a _, ⟨_, Heap.get?_push_size _ rfl, rfl, rfl⟩, fun b hb => ?_, q⟩
    rw [List.mem_singleton.mp hb]
    exact I1.fpOk (Nat.le_refl _) (I1.hok.fresh (Nat.le_refl _))
  · obtain ⟨us, _, pl, _⟩ := I1.tuple hq
    refine wpAny_pyIter_tuple (show s1.heap.IsTuple a us.toArray from pl) ⟨s1.heap.objs.size, [s1.heap.objs.size], _, _, H1, rfl, I1.kept (t' := s1.toks) fun b o z => Heap.get?_push_of_some _ z, turn_tuple a _, ⟨_, Heap.get?_push_size _ rfl, rfl, rfl⟩, fun b hb => ?_, q⟩
    rw [List.mem_singleton.mp hb]
    exact I1.fpOk (Nat.le_refl _) (I1.hok.fresh (Nat.le_refl _))
theorem _root_.L2.PI.weak {X : Cx} {tg e : Expr} {t1 t2 : TI} (h : PI X tg e t1) (k : ∀ σ H Q, t2 σ H Q → t1 σ H Q) : PI X tg e t2 := ⟨fun pins s σ H Q I q => h.run pins s σ H Q I (k _ _ _ q)⟩
theorem v_iseq {l : Expr} {fa : F} (hK : X.K = t.K) (hl : PE X l (lift t W fa)) : PI X tg l (liftI t W (seqI fa)) := (pi_seq hl).weak fun σ H Q h => by
  obtain ⟨r, sa, S, x, R, rs, e, p⟩ := h
  unfold seqI at e
  cases hf : fa sa S with
  | none =>
    rw [hf] at e
    cases e
  | some y =>
    rw [hf] at e
    refine ⟨r, sa, S, y, R, rs, hf, ?_⟩
    cases y with
    | er c S' =>
      cases e
      exact p
    | ok a S' =>
      cases a with
      | ref l =>
        intro r' H' v ex R' ra
        obtain ⟨q, hq, rfl⟩ := ra
        dsimp only at e
        cases hl : S'[l]? with
        | none =>
          rw [hl] at e
          cases e
        | some o =>
          rw [hl] at e
          have ho := R'.ob l q o hq hl
          rw [hK]
          cases o with
          | lst xs =>
            cases e
            obtain ⟨vs, h1, h2⟩ := ho
            exact .inl ⟨q, rfl, ⟨vs, SqL.of h1⟩, p r' H' _ ex R' ⟨q, hq, rfl⟩⟩
          | scr ns =>
            cases e
            exact .inl ⟨q, rfl, ⟨_, scr_sq ho⟩, p r' H' _ ex R' ⟨q, hq, rfl⟩⟩
          | tup xs =>
            cases e
            obtain ⟨vs, h1, h2⟩ := ho
            exact .inr ⟨q, rfl, ⟨vs, sqTo h1⟩, p r' H' _ ex R' ⟨q, hq, rfl⟩⟩
          | dic ks => cases e
          | dfz ks => cases e
          | dt ks => cases e
          | dtf ks => cases e
          | set es => cases e
          | code => cases e
          | clo _ _ _ => cases e
          | fz _ => cases e
      | _ => cases e
theorem v_irg1 {a : Expr} {fl : FL} {p pos : Pos} (hm : X.mg "range" = none) (ha : PA X [a] (liftL t W fl)) (hg : Gl X "range" := by rfl) (hs : starEach [a] X.env = [(false, eval a X.env)] := by rfl) : PI X tg (.Call (.Name "range" p) [a] [] pos) (liftI t W (rg1I fl)) :=
  (pi_range1 hg hm ha hs).weak fun σ H Q h => by
    obtain ⟨r, sa, S, x, R, rs, e, p⟩ := h
    unfold rg1I at e
    cases hf : fl sa S with
    | none =>
      rw [hf] at e
      cases e
    | some y =>
      rw [hf] at e
      refine ⟨r, sa, S, y, R, rs, hf, ?_⟩
      cases y with
      | er c S' =>
        cases e
        exact p
      | ok as S' =>
        intro r' H' vs ex R' ra
        split at e
        · rename_i j S2 hy
          cases hy
          split at e
          · rename_i hb
            cases e
            cases ra with
            | cons h1 h2 =>
              cases h1
              cases h2
              obtain ⟨b1, b2⟩ := inBd_ok hb
              exact ⟨j, rfl, b1, b2, p r' H' _ ex R' rfl⟩
          · cases e
        · cases e
        · rename_i hy
          cases hy
        · rename_i hy
          cases hy
theorem v_irg2 {a b : Expr} {fl : FL} {p pos : Pos} (hm : X.mg "range" = none) (ha : PA X [a, b] (liftL t W fl)) (hg : Gl X "range" := by rfl) (hs : starEach [a, b] X.env = [(false, eval a X.env), (false, eval b X.env)] := by rfl) (hs2 : starEach [b] X.env = [(false, eval b X.env)] := by rfl) :
    PI X tg (.Call (.Name "range" p) [a, b] [] pos) (liftI t W (rg2I fl)) :=
  (pi_range2 hg hm ha hs hs2).weak fun σ H Q h => by
    obtain ⟨r, sa, S, x, R, rs, e, p⟩ := h
    unfold rg2I at e
    cases hf : fl sa S with
    | none =>
      rw [hf] at e
      cases e
    | some y =>
      rw [hf] at e
      refine ⟨r, sa, S, y, R, rs, hf, ?_⟩
      cases y with
      | er c S' =>
        cases e
        exact p
      | ok as S' =>
        intro r' H' vs ex R' ra
        split at e
        · rename_i i j S2 hy
          cases hy
          split at e
          · rename_i hb
            cases e
            cases ra with
            | cons h1 h2 =>
              cases h1
              cases h2 with
              | cons h3 h4 =>
                cases h3
                cases h4
                rw [Bool.and_eq_true] at hb
                obtain ⟨b1, b2⟩ := inBd_ok hb.1
                obtain ⟨b3, b4⟩ := inBd_ok hb.2
                exact ⟨i, j, rfl, ⟨b1, b2, b3, b4⟩, p r' H' _ ex R' rfl⟩
          · cases e
        · cases e
        · rename_i hy
          cases hy
        · rename_i hy
          cases hy
/-! ### for -/
def forGo (i : Its) (T : TF) (body : FS) : Nat → Nat → FS
  | 0, _ => fun _ _ => none
  | n + 1, j => fun sa S => match itemAt i j S with
    | none => none
    | some none => some (.nx sa S)
    | some (some a) => (match T a sa S with
      | none => none
      | some z => (match body z.1 z.2 with
        | some (.nx sa2 S2) => forGo i T body n (j + 1) sa2 S2
        | some (.ct sa2 S2) => forGo i T body n (j + 1) sa2 S2
        | some (.bk sa2 S2) => some (.nx sa2 S2)
        | y => y))
def forF (fi : FI) (T : TF) (body : FS) : FS := fun sa S => match fi sa S with
  | some (.ok i S') => forGo i T body (itsLen i S' + 1) 0 sa S'
  | some (.er c S') => some (.er c sa S')
  | none => none
theorem v_for {iter : Expr} {body : List Stmt} {fi : FI} {T : TF} {f : FS} {pos : Pos} (hp : PassesOwn (model X.prog X.w) X.A X.env X.xe) (hi : PI X tg iter (liftI t W fi)) (hg : PG X tg (liftG t T)) (hb : PSs X body (liftS t W f)) (hc : X.calm = true := by rfl)
    (hps : PS X (.For tg iter body [] pos) (tFor (liftI t W fi) (liftG t T) (liftS t W f))) : PS X (.For tg iter body [] pos) (liftS t W (forF fi T f)) := hps.weak fun D σ H h => by
  obtain ⟨r, sa, S, x, R, rs, e, p⟩ := h
  unfold forF at e
  cases hf : fi sa S with
  | none =>
    rw [hf] at e
    cases e
  | some y =>
    rw [hf] at e
    refine ⟨r, sa, S, y, R, rs, hf, ?_⟩
    cases y with
    | er c S' =>
      cases e
      exact fun r' H' ex R' => p r' H' σ ex R' (rs.ext ex)
    | ok i S' =>
      intro r' H' J ex R' hJ
      refine ⟨fun j m σ H => ∃ r2 sa S, Ext r' r2 ∧ Rel t r2 S H ∧ RS r2 sa σ ∧ forGo i T f m j sa S = some x, ⟨_, r', sa, S', Ext.refl _, R', rs.ext ex, e⟩, ?_⟩
      rintro j m σ H ⟨r2, sa, S, e2, R2, rs2, ek⟩
      have hJ2 := hJ.ext e2
      have p2 := p.ext (ex.trans e2)
      cases m with
      | zero => cases ek
      | succ m =>
        simp only [forGo] at ek
        cases hit : itemAt i j S with
        | none =>
          rw [hit] at ek
          cases ek
        | some u =>
          rw [hit] at ek
          cases u with
          | none =>
            cases ek
            exact .inl ⟨item_stop R2 hJ2 hit, p2 r2 H σ (Ext.refl _) R2 rs2⟩
          | some a =>
            obtain ⟨g1, g2⟩ := item_go R2 hJ2 hit
            refine .inr ⟨g1, fun σ' H' => ∃ r3 sa S, Ext r' r3 ∧ Rel t r3 S H' ∧ RS r3 sa σ' ∧ forGo i T f m (j + 1) sa S = some x, fun σ' H' z => ⟨m, Nat.lt_succ_self m, z⟩, fun v H3 hy => ?_⟩
            obtain ⟨rfl, ra⟩ := g2 v H3 hy
            dsimp only at ek
            cases hT : T a sa S with
            | none =>
              rw [hT] at ek
              cases ek
            | some z =>
              rw [hT] at ek
              refine ⟨r2, sa, S, a, z, R2, rs2, ra, hT, fun r3 H4 σ4 e3 R3 rs3 => ?_⟩
              dsimp only at ek
              cases hb : f z.1 z.2 with
              | none =>
                rw [hb] at ek
                cases ek
              | some w =>
                rw [hb] at ek
                refine ⟨r3, z.1, z.2, w, R3, rs3, hb, ?_⟩
                cases w with
                | nx sa2 S2 => exact fun r4 H5 σ5 e4 R4 rs4 => ⟨r4, sa2, S2, (e2.trans e3).trans e4, R4, rs4, ek⟩
                | ct sa2 S2 => exact fun r4 H5 σ5 e4 R4 rs4 => ⟨r4, sa2, S2, (e2.trans e3).trans e4, R4, rs4, ek⟩
                | bk sa2 S2 =>
                  cases ek
                  exact fun r4 H5 σ5 e4 R4 rs4 => p2 r4 H5 σ5 (e3.trans e4) R4 rs4
                | rt a2 S2 =>
                  cases ek
                  exact fun r4 H5 v5 e4 R4 rv => p2 r4 H5 v5 (e3.trans e4) R4 rv
                | er c2 sa2 S2 =>
                  cases ek
                  exact fun r4 H5 σ5 e4 R4 rs4 => p2 r4 H5 σ5 (e3.trans e4) R4 rs4
end
end Vai
namespace Vai
open PySem L2
section
variable {X : Cx} {t : Tx} {W : WX} {tg : Expr}
theorem v_forS {iter : Expr} {body : List Stmt} {fi : FI} {T : TF} {f : FS} {pos : Pos} (hp : PassesOwn (model X.prog X.w) X.A X.env X.xe) (hi : PI X tg iter (liftI t W fi)) (hg : PG X tg (liftG t T)) (hb : PSs X body (liftS t W f)) (hc : X.calm = true := by rfl)
    (hs : ∀ x, foldedSetIterable iter X.env x = pure x := by intro _; rfl) : PS X (.For tg iter body [] pos) (liftS t W (forF fi T f)) := v_for hp hi hg hb hc (ps_for hp hc hi hg hb hs)
end
/-! ### comprehensions -/
abbrev TX := A → Sa → List O → Option Sa
abbrev TXs := List A → Sa → List O → Option Sa
def nameX (i : Nat) : TX := fun a sa _ => some (sa.set i (some a))
def nilX : TXs := fun as sa _ => match as with
  | [] => some sa
  | _ => none
def consX (f : TX) (g : TXs) : TXs := fun as sa S => match as with
  | [] => none
  | a :: r => match f a sa S with
    | some sa' => g r sa' S
    | none => none
def tupX (n : Nat) (g : TXs) : TX := fun a sa S => match a with
  | .ref l => match S[l]? with
    | some (.tup as) => if as.length = n then g as sa S else none
    | _ => none
  | _ => none
def wipeA (sa : Sa) : List Nat → Sa
  | [] => sa
  | v :: vs => (wipeA sa vs).set v none
theorem RS.wipe {r : List Addr} {sa : Sa} {σ : St} (h : RS r sa σ) : ∀ vs : List Nat, RS r (wipeA sa vs) (wipe σ vs)
  | [] => h
  | v :: vs => pr_set (fun x e => by cases e) v (RS.wipe h vs)
theorem set_comm {α : Type} {l : List α} {i j : Nat} {x y : α} (h : i ≠ j) : (l.set i x).set j y = (l.set j y).set i x := List.set_comm x y h
theorem set_same {α : Type} {l : List α} {i : Nat} {x y : α} : (l.set i x).set i y = l.set i y := List.set_set x
theorem wipe_set {σ : St} {i : Nat} {x : Option V} : ∀ {vs : List Nat}, i ∈ vs → wipe (σ.set i x) vs = wipe σ vs
  | [], h => by cases h
  | v :: vs, h => by
    show (wipe (σ.set i x) vs).set v none = (wipe σ vs).set v none
    by_cases hi : i ∈ vs
    · rw [wipe_set hi]
    · have hv : i = v := by
        rcases List.mem_cons.mp h with e | e
        · exact e
        · exact absurd e hi
      subst hv
      have key : ∀ (ws : List Nat), i ∉ ws → wipe (σ.set i x) ws = (wipe σ ws).set i x := by
        intro ws
        induction ws with
        | nil => exact fun _ => rfl
        | cons w ws ih =>
          intro hn
          rw [List.mem_cons, not_or] at hn
          show (wipe (σ.set i x) ws).set w none = ((wipe σ ws).set w none).set i x
          rw [ih hn.2, set_comm hn.1]
      rw [key vs hi, set_same]
/-- a target whose slots are vs -/
def liftGx (t : Tx) (vs : List Nat) (f : TX) : TG := fun v σ H Q => ∃ r sa S a sa', Rel t r S H ∧ RS r sa σ ∧ RA r a v ∧ f a sa S = some sa' ∧ ∀ σ' : St, wipe σ' vs = wipe σ vs → RS r sa' σ' → Q σ' H
def liftGxs (t : Tx) (vs : List Nat) (f : TXs) : TGs := fun us σ H Q => ∃ r sa S as sa', Rel t r S H ∧ RS r sa σ ∧ Paired (RA r) as us ∧ f as sa S = some sa' ∧ ∀ σ' : St, wipe σ' vs = wipe σ vs → RS r sa' σ' → Q σ' H
section
variable {X : Cx} {t : Tx} {W : WX} {vs : List Nat}
theorem v_xname (i : Nat) (hv : i ∈ vs) {x : Str} {pos : Pos} (hN : X.N.Nodup) (hi : X.N[i]? = some x := by rfl) (hx : Loc X.env.scope x := by first | exact Or.inl rfl | exact Or.inr rfl) (hf : X.fn x = true ∨ X.env.scope.names.lookup x = some .local := by first | exact .inl rfl | exact .inr rfl | assumption) :
    PG X (.Name x pos) (liftGx t vs (nameX i)) := (pg_name hN hi hx hf).weak fun v σ H Q h => by
  obtain ⟨r, sa, S, a, sa', R, rs, ra, e, k⟩ := h
  cases e
  exact k _ (wipe_set hv) (rs.set ra i)
theorem v_xnil : PGs X [] (liftGxs t vs nilX) := pgs_nil.weak fun us σ H Q h => by
  obtain ⟨r, sa, S, as, sa', R, rs, ra, e, k⟩ := h
  cases ra with
  | nil =>
    cases e
    exact ⟨rfl, k _ rfl rs⟩
  | cons h q => cases e
theorem v_xcons {e : Expr} {es : List Expr} {f : TX} {g : TXs} (h1 : PG X e (liftGx t vs f)) (h2 : PGs X es (liftGxs t vs g)) (hs : (assignEach (e :: es) X.env).map (·.2) = assign e X.env :: (assignEach es X.env).map (·.2) := by rfl) : PGs X (e :: es) (liftGxs t vs (consX f g)) := (pgs_cons h1 h2 hs).weak fun us σ H Q h => by
  obtain ⟨r, sa, S, as, sa', R, rs, ra, e, k⟩ := h
  cases ra with
  | nil => cases e
  | @cons a v as us h q =>
    simp only [consX] at e
    cases hf : f a sa S with
    | none =>
      rw [hf] at e
      cases e
    | some s1 =>
      rw [hf] at e
      exact ⟨v, us, rfl, r, sa, S, a, s1, R, rs, h, hf, fun σ' w rs' => ⟨r, s1, S, as, sa', R, rs', q, e, fun σ2 w2 rs2 => k σ2 (w2.trans w) rs2⟩⟩
theorem v_xtup {es : List Expr} {x1} {g : TXs} {n : Nat} {pos : Pos} (hK : X.K = t.K) (hp : PG X (.Tuple es x1 pos) (gTup X.K n (liftGxs t vs g))) : PG X (.Tuple es x1 pos) (liftGx t vs (tupX n g)) := hp.weak fun v σ H Q h => by
  obtain ⟨r, sa, S, a, sa', R, rs, ra, e, k⟩ := h
  unfold tupX at e
  split at e
  · rename_i l
    split at e
    · rename_i as hl
      split at e
      · rename_i hn
        obtain ⟨p, hp, rfl⟩ := ra
        obtain ⟨us, h1, h2⟩ := R.ob l p _ hp hl
        exact ⟨p, us, rfl, sqTo h1, by rw [← pr_len h2]; exact hn, r, sa, S, as, sa', R, rs, h2, e, k⟩
      · cases e
    · cases e
  · cases e
def W0 : WX := fun _ _ _ _ => False
theorem _root_.L2.PTs.weak {X : Cx} {e : List Expr} {t1 t2 : TT} (h : PTs X e t1) (k : ∀ σ H Q, t2 σ H Q → t1 σ H Q) : PTs X e t2 := ⟨fun pins s σ H Q I q => h.run pins s σ H Q I (k _ _ _ q)⟩
theorem v_ts0 : PTs X [] (liftB t W0 (conF (.bl true))) := pts_nil.weak fun σ H Q h => by
  obtain ⟨r, sa, S, x, R, rs, e, p⟩ := h
  cases e
  obtain ⟨c, e, q⟩ := p r H _ (Ext.refl r) R rfl
  cases e
  exact q
theorem v_ts1 {c : Expr} {f : F} (h : PT X c (liftB t W0 f)) : PTs X [c] (liftB t W0 f) := pts_one h
def lcGo (i : Its) (T : TX) (vs : List Nat) (ft fe : F) (d : Nat) (sa : Sa) : Nat → Nat → List O → Option (List O)
  | 0, _ => fun _ => none
  | n + 1, j => fun S => match itemAt i j S with
    | none => none
    | some none => some S
    | some (some a) => (match T a (wipeA sa vs) S with
      | none => none
      | some sa1 => (match ft sa1 S with
        | some (.ok (.bl true) S2) => (match fe sa1 S2 with
          | some (.ok y S3) => (match S3[d]? with
            | some (.lst acc) => if acc.length < 1000000 then lcGo i T vs ft fe d sa n (j + 1) (S3.set d (.lst (acc ++ [y]))) else none
            | _ => none)
          | _ => none)
        | some (.ok (.bl false) S2) => lcGo i T vs ft fe d sa n (j + 1) S2
        | _ => none))
def lcF (fi : FI) (T : TX) (vs : List Nat) (ft fe : F) : F := fun sa S => match fi sa S with
  | some (.ok i S') => (match lcGo i T vs ft fe S'.length sa (itsLen i S' + 1) 0 (S' ++ [.lst []]) with
    | some S2 => some (.ok (.ref S'.length) S2)
    | none => none)
  | some (.er c S') => some (.er c S')
  | none => none
theorem lc_ok {fi : FI} {T : TX} {ft fe : F} {σ : St} {H : Hp} {Q : VK} (h : lift t W (lcF fi T vs ft fe) σ H Q) : tLc (liftI t W fi) (liftGx t vs T) (liftB t W0 ft) (lift t W0 fe) vs σ H Q := by
  obtain ⟨r, sa, S, x, R, rs, e, p⟩ := h
  unfold lcF at e
  cases hf : fi sa S with
  | none =>
    rw [hf] at e
    cases e
  | some y =>
    rw [hf] at e
    refine ⟨r, sa, S, y, R, rs, hf, ?_⟩
    cases y with
    | er c S' =>
      cases e
      exact p
    | ok i S' =>
      intro r' H' J ex R' hJ D hD
      dsimp only at e
      cases hgo : lcGo i T vs ft fe S'.length sa (itsLen i S' + 1) 0 (S' ++ [.lst []]) with
      | none =>
        rw [hgo] at e
        cases e
      | some S2 =>
        rw [hgo] at e
        cases e
        have RD : Rel t (r' ++ [D]) (S' ++ [.lst []]) (upd H' D (.lst [])) := R'.new hD ⟨[], upd_same, .nil⟩
        have gD : (r' ++ [D])[S'.length]? = some D := by
          rw [← R'.len]
          exact get_snoc_new r' D
        refine ⟨fun j m H => ∃ r2 S, Ext (r' ++ [D]) r2 ∧ Rel t r2 S H ∧ lcGo i T vs ft fe S'.length sa m j S = some S2, ⟨_, r' ++ [D], _, Ext.refl _, RD, hgo⟩, ?_⟩
        rintro j m H ⟨r2, S, e2, R2, ek⟩
        have hJ2 := hJ.ext ((Ext.snoc r' D).trans e2)
        have exr := (ex.trans (Ext.snoc r' D)).trans e2
        cases m with
        | zero => cases ek
        | succ m =>
          simp only [lcGo] at ek
          cases hit : itemAt i j S with
          | none =>
            rw [hit] at ek
            cases ek
          | some u =>
            rw [hit] at ek
            cases u with
            | none =>
              cases ek
              exact .inl ⟨item_stop R2 hJ2 hit, p r2 H _ exr R2 ⟨D, e2.get gD, rfl⟩⟩
            | some a =>
              obtain ⟨g1, g2⟩ := item_go R2 hJ2 hit
              refine .inr ⟨g1, fun H' => ∃ r3 S, Ext (r' ++ [D]) r3 ∧ Rel t r3 S H' ∧ lcGo i T vs ft fe S'.length sa m (j + 1) S = some S2, fun H' z => ⟨m, Nat.lt_succ_self m, z⟩, fun v H3 hy => ?_⟩
              obtain ⟨rfl, ra⟩ := g2 v H3 hy
              dsimp only at ek
              cases hT : T a (wipeA sa vs) S with
              | none =>
                rw [hT] at ek
                cases ek
              | some sa1 =>
                rw [hT] at ek
                refine ⟨r2, wipeA sa vs, S, a, sa1, R2, (rs.ext exr).wipe vs, ra, hT, fun σ2 hw rs2 => ⟨hw.trans ?_, ?_⟩⟩
                · clear hw ek hT p
                  have key : ∀ (us : List Nat) (τ : St), (∀ i ∈ us, i ∈ vs) → wipe (wipe τ us) vs = wipe τ vs := by
                    intro us
                    induction us with
                    | nil => exact fun τ _ => rfl
                    | cons u us ih =>
                      intro τ hm
                      show wipe ((wipe τ us).set u none) vs = wipe τ vs
                      rw [wipe_set (hm u (List.mem_cons_self ..)), ih τ fun i hi => hm i (List.mem_cons_of_mem _ hi)]
                  exact key vs σ fun _ h => h
                · dsimp only at ek
                  cases ht : ft sa1 S with
                  | none =>
                    rw [ht] at ek
                    cases ek
                  | some w =>
                    rw [ht] at ek
                    refine ⟨r2, sa1, S, w, R2, rs2, ht, ?_⟩
                    cases w with
                    | er c S3 => cases ek
                    | ok b S3 =>
                      cases b with
                      | bl k =>
                        intro r3 H4 v4 e3 R3 rv
                        cases rv
                        refine ⟨k, rfl, ?_⟩
                        cases k with
                        | false => exact iteF ⟨r3, S3, e2.trans e3, R3, ek⟩
                        | true =>
                          refine iteT ?_
                          dsimp only at ek
                          cases he : fe sa1 S3 with
                          | none =>
                            rw [he] at ek
                            cases ek
                          | some z =>
                            rw [he] at ek
                            refine ⟨r3, sa1, S3, z, R3, rs2.ext e3, he, ?_⟩
                            cases z with
                            | er c S4 => cases ek
                            | ok y S4 =>
                              intro r4 H5 yv e4 R4 ry
                              dsimp only at ek
                              cases hd : S4[S'.length]? with
                              | none =>
                                rw [hd] at ek
                                cases ek
                              | some o =>
                                rw [hd] at ek
                                cases o with
                                | lst acc =>
                                  dsimp only at ek
                                  split at ek
                                  · rename_i hlt
                                    have gD4 := ((e2.trans e3).trans e4).get gD
                                    obtain ⟨us, h1, h2⟩ := R4.ob _ D _ gD4 hd
                                    refine ⟨us, h1, ?_, r4, _, (e2.trans e3).trans e4, R4.put (o' := .lst (acc ++ [y])) gD4 hd rfl rfl h1 (fun _ _ z => by cases z) ⟨_, upd_same, pr_app h2 (.cons ry .nil)⟩, ek⟩
                                    rw [← pr_len h2, sizeLine_eq]
                                    omega
                                  · cases ek
                                | _ => cases ek
                      | _ => cases ek
theorem v_lc (own : List (Str × Nat)) {elt iter tg : Expr} {ifs : List Expr} {scope : Scope} {vs : List Nat} {pos : Pos} {fi : FI} {T : TX} {ft fe : F} (hN : X.N.Nodup) (hi : PI X tg iter (liftI t W fi)) (ok : BlkOk X.N X.env.scope scope own)
    (hg : ∀ (s : Shared) (H : Hp) (C : Addr) (cl : List (Str × Addr)) (fp : List Addr), PG (X.blk s H scope (compEnvC scope cl C X.env) fp) tg (liftGx t vs T)) (ht : ∀ (s : Shared) (H : Hp) (C : Addr) (cl : List (Str × Addr)) (fp : List Addr), PTs (X.blk s H scope (compEnvC scope cl C X.env) fp) ifs (liftB t W0 ft))
    (he : ∀ (s : Shared) (H : Hp) (C : Addr) (cl : List (Str × Addr)) (fp : List Addr), PE (X.blk s H scope (compEnvC scope cl C X.env) fp) elt (lift t W0 fe)) (hvs : own.map (·.2) = vs := by rfl) (hc : X.calm = true := by rfl) (hs : ∀ x, foldedSetIterable iter X.env x = pure x := by intro _; rfl) :
    PE X (.ListComp elt [⟨tg, iter, ifs, 0⟩] scope pos) (lift t W (lcF fi T vs ft fe)) := by
  subst hvs
  exact (pe_lc hc hN hi ok hg ht he hs).weak fun _ _ _ h => lc_ok h
theorem v_setLc (own : List (Str × Nat)) {i : Nat} {y : Str} {py : Pos} {elt iter tg : Expr} {ifs : List Expr} {scope : Scope} {vs : List Nat} {pos spos : Pos} {fi : FI} {T : TX} {ft fe : F} (hN : X.N.Nodup) (hy : X.N[i]? = some y) (hyl : X.env.scope.names.lookup y = some .local)
    (hsw : swapsWith (.ListComp elt [⟨tg, iter, ifs, 0⟩] scope pos) (some (.Name y py)) spos.line X.env = pure true) (hi : PI X tg iter (liftI t W fi)) (ok : BlkOk X.N X.env.scope scope own)
    (hg : ∀ (s : Shared) (H : Hp) (C : Addr) (cl : List (Str × Addr)) (fp : List Addr), PG (X.blk s H scope (compEnvC scope cl C X.env) fp) tg (liftGx t vs T)) (ht : ∀ (s : Shared) (H : Hp) (C : Addr) (cl : List (Str × Addr)) (fp : List Addr), PTs (X.blk s H scope (compEnvC scope cl C X.env) fp) ifs (liftB t W0 ft))
    (he : ∀ (s : Shared) (H : Hp) (C : Addr) (cl : List (Str × Addr)) (fp : List Addr), PE (X.blk s H scope (compEnvC scope cl C X.env) fp) elt (lift t W0 fe)) (hvs : own.map (·.2) = vs := by rfl) (hc : X.calm = true := by rfl) (hs : ∀ x, foldedSetIterable iter X.env x = pure x := by intro _; rfl) :
    PS X (.Assign [.Name y py] (.ListComp elt [⟨tg, iter, ifs, 0⟩] scope pos) spos) (liftS t W (asgF (lcF fi T vs ft fe) (nameT i))) := by
  subst hvs
  refine (ps_setLc hc hN hy hyl hsw hi ok hg ht he hs).weak fun D σ H h => ?_
  obtain ⟨r, sa, S, x, R, rs, e, p⟩ := h
  refine lc_ok (W := W) ?_
  unfold asgF at e
  cases hf : lcF fi T (own.map (·.2)) ft fe sa S with
  | none =>
    rw [hf] at e
    cases e
  | some z =>
    rw [hf] at e
    refine ⟨r, sa, S, z, R, rs, hf, ?_⟩
    cases z with
    | er c S' =>
      cases e
      exact fun r' H' ex R' => p r' H' σ ex R' (rs.ext ex)
    | ok a S' =>
      cases e
      exact fun r' H' v ex R' ra => p r' H' _ ex R' ((rs.ext ex).set ra i)
end
end Vai
set_option maxRecDepth 100000
set_option maxHeartbeats 2000000
namespace Vai
open PySem L2
section
variable {X : Cx} {t : Tx} {W : WX} {vs : List Nat}
theorem wipe_wipe (σ : St) (vs : List Nat) : wipe (wipe σ vs) vs = wipe σ vs := by
  have key : ∀ (us : List Nat) (τ : St), (∀ i ∈ us, i ∈ vs) → wipe (wipe τ us) vs = wipe τ vs := by
    intro us
    induction us with
    | nil => exact fun τ _ => rfl
    | cons u us ih =>
      intro τ hm
      show wipe ((wipe τ us).set u none) vs = wipe τ vs
      rw [wipe_set (hm u (List.mem_cons_self ..)), ih τ fun i hi => hm i (List.mem_cons_of_mem _ hi)]
  exact key vs σ fun _ h => h
/-- the turns of a comprehension's (last) for -/
theorem lcGo_ok {i : Its} {T : TX} {ft fe : F} {d : Nat} {D : Addr} {sa : Sa} {σ : St} {J : It} {r : List Addr} {n : Nat} {S Sf : List O} {H : Hp} {Fin : Hp → Prop} (R : Rel t r S H) (rs : RS r sa σ) (gD : r[d]? = some D) (hJ : ItR t r i J) (hgo : lcGo i T vs ft fe d sa n 0 S = some Sf)
    (hF : ∀ (r' : List Addr) (H' : Hp), Ext r r' → Rel t r' Sf H' → Fin H') : ∃ W1 : Nat → Nat → Hp → Prop, (∃ m, W1 0 m H) ∧ ∀ j m H, W1 j m H →
      (J.stop j H ∧ Fin H) ∨ (J.go j H ∧ ∃ Nx : Hp → Prop, (∀ H', Nx H' → ∃ m', m' < m ∧ W1 (j + 1) m' H') ∧ ∀ x H', J.yld j H x H' → liftGx t vs T x (wipe σ vs) H' fun σ2 H2 => wipe σ2 vs = wipe σ vs ∧ liftB t W0 ft σ2 H2 fun b H3 =>
        if b = true then lift t W0 fe σ2 H3 fun y H4 => ∃ acc, H4 D = some (.lst acc) ∧ acc.length < sizeLine ∧ Nx (upd H4 D (.lst (acc ++ [y]))) else Nx H3) := by
  refine ⟨fun j m H => ∃ r2 S, Ext r r2 ∧ Rel t r2 S H ∧ lcGo i T vs ft fe d sa m j S = some Sf, ⟨_, r, S, Ext.refl _, R, hgo⟩, ?_⟩
  rintro j m H ⟨r2, S, e2, R2, ek⟩
  have hJ2 := hJ.ext e2
  cases m with
  | zero => cases ek
  | succ m =>
    simp only [lcGo] at ek
    cases hit : itemAt i j S with
    | none =>
      rw [hit] at ek
      cases ek
    | some u =>
      rw [hit] at ek
      cases u with
      | none =>
        cases ek
        exact .inl ⟨item_stop R2 hJ2 hit, hF r2 H e2 R2⟩
      | some a =>
        obtain ⟨g1, g2⟩ := item_go R2 hJ2 hit
        refine .inr ⟨g1, fun H' => ∃ r3 S, Ext r r3 ∧ Rel t r3 S H' ∧ lcGo i T vs ft fe d sa m (j + 1) S = some Sf, fun H' z => ⟨m, Nat.lt_succ_self m, z⟩, fun v H3 hy => ?_⟩
        obtain ⟨rfl, ra⟩ := g2 v H3 hy
        dsimp only at ek
        cases hT : T a (wipeA sa vs) S with
        | none =>
          rw [hT] at ek
          cases ek
        | some sa1 =>
          rw [hT] at ek
          refine ⟨r2, wipeA sa vs, S, a, sa1, R2, (rs.ext e2).wipe vs, ra, hT, fun σ2 hw rs2 => ⟨hw.trans (wipe_wipe σ vs), ?_⟩⟩
          dsimp only at ek
          cases ht : ft sa1 S with
          | none =>
            rw [ht] at ek
            cases ek
          | some w =>
            rw [ht] at ek
            refine ⟨r2, sa1, S, w, R2, rs2, ht, ?_⟩
            cases w with
            | er c S3 => cases ek
            | ok b S3 =>
              cases b with
              | bl k =>
                intro r3 H4 v4 e3 R3 rv
                cases rv
                refine ⟨k, rfl, ?_⟩
                cases k with
                | false => exact iteF ⟨r3, S3, e2.trans e3, R3, ek⟩
                | true =>
                  refine iteT ?_
                  dsimp only at ek
                  cases he : fe sa1 S3 with
                  | none =>
                    rw [he] at ek
                    cases ek
                  | some z =>
                    rw [he] at ek
                    refine ⟨r3, sa1, S3, z, R3, rs2.ext e3, he, ?_⟩
                    cases z with
                    | er c S4 => cases ek
                    | ok y S4 =>
                      intro r4 H5 yv e4 R4 ry
                      dsimp only at ek
                      cases hd : S4[d]? with
                      | none =>
                        rw [hd] at ek
                        cases ek
                      | some o =>
                        rw [hd] at ek
                        cases o with
                        | lst acc =>
                          dsimp only at ek
                          split at ek
                          · rename_i hlt
                            have gD4 := ((e2.trans e3).trans e4).get gD
                            obtain ⟨us, h1, h2⟩ := R4.ob _ D _ gD4 hd
                            refine ⟨us, h1, ?_, r4, _, (e2.trans e3).trans e4, R4.put (o' := .lst (acc ++ [y])) gD4 hd rfl rfl h1 (fun _ _ z => by cases z) ⟨_, upd_same, pr_app h2 (.cons ry .nil)⟩, ek⟩
                            rw [← pr_len h2, sizeLine_eq]
                            omega
                          · cases ek
                        | _ => cases ek
              | _ => cases ek
def lc2Go (i : Its) (T : TX) (vs : List Nat) (ft : F) (fi1 : FI) (T1 : TX) (vs1 : List Nat) (ft1 fe : F) (d : Nat) (sa : Sa) : Nat → Nat → List O → Option (List O)
  | 0, _ => fun _ => none
  | n + 1, j => fun S => match itemAt i j S with
    | none => none
    | some none => some S
    | some (some a) => (match T a (wipeA sa vs) S with
      | none => none
      | some sa1 => (match ft sa1 S with
        | some (.ok (.bl true) S2) => (match fi1 sa1 S2 with
          | some (.ok i1 S3) => (match lcGo i1 T1 vs1 ft1 fe d sa1 (itsLen i1 S3 + 1) 0 S3 with
            | some S4 => lc2Go i T vs ft fi1 T1 vs1 ft1 fe d sa n (j + 1) S4
            | none => none)
          | _ => none)
        | some (.ok (.bl false) S2) => lc2Go i T vs ft fi1 T1 vs1 ft1 fe d sa n (j + 1) S2
        | _ => none))
def lc2F (fi : FI) (T : TX) (vs : List Nat) (ft : F) (fi1 : FI) (T1 : TX) (vs1 : List Nat) (ft1 fe : F) : F := fun sa S => match fi sa S with
  | some (.ok i S') => (match lc2Go i T vs ft fi1 T1 vs1 ft1 fe S'.length sa (itsLen i S' + 1) 0 (S' ++ [.lst []]) with
    | some S2 => some (.ok (.ref S'.length) S2)
    | none => none)
  | some (.er c S') => some (.er c S')
  | none => none
theorem lc2_ok {fi fi1 : FI} {T T1 : TX} {vs1 : List Nat} {ft ft1 fe : F} {σ : St} {H : Hp} {Q : VK} (h : lift t W (lc2F fi T vs ft fi1 T1 vs1 ft1 fe) σ H Q) :
    tLc2 (liftI t W fi) (liftGx t vs T) (liftB t W0 ft) (liftI t W0 fi1) (liftGx t vs1 T1) (liftB t W0 ft1) (lift t W0 fe) vs vs1 σ H Q := by
  obtain ⟨r, sa, S, x, R, rs, e, p⟩ := h
  unfold lc2F at e
  cases hf : fi sa S with
  | none =>
    rw [hf] at e
    cases e
  | some y =>
    rw [hf] at e
    refine ⟨r, sa, S, y, R, rs, hf, ?_⟩
    cases y with
    | er c S' =>
      cases e
      exact p
    | ok i S' =>
      intro r' H' J ex R' hJ D hD
      dsimp only at e
      cases hgo : lc2Go i T vs ft fi1 T1 vs1 ft1 fe S'.length sa (itsLen i S' + 1) 0 (S' ++ [.lst []]) with
      | none =>
        rw [hgo] at e
        cases e
      | some S2 =>
        rw [hgo] at e
        cases e
        have RD : Rel t (r' ++ [D]) (S' ++ [.lst []]) (upd H' D (.lst [])) := R'.new hD ⟨[], upd_same, .nil⟩
        have gD : (r' ++ [D])[S'.length]? = some D := by
          rw [← R'.len]
          exact get_snoc_new r' D
        refine ⟨fun j m H => ∃ r2 S, Ext (r' ++ [D]) r2 ∧ Rel t r2 S H ∧ lc2Go i T vs ft fi1 T1 vs1 ft1 fe S'.length sa m j S = some S2, ⟨_, r' ++ [D], _, Ext.refl _, RD, hgo⟩, ?_⟩
        rintro j m H ⟨r2, S, e2, R2, ek⟩
        have hJ2 := hJ.ext ((Ext.snoc r' D).trans e2)
        have exr := (ex.trans (Ext.snoc r' D)).trans e2
        cases m with
        | zero => cases ek
        | succ m =>
          simp only [lc2Go] at ek
          cases hit : itemAt i j S with
          | none =>
            rw [hit] at ek
            cases ek
          | some u =>
            rw [hit] at ek
            cases u with
            | none =>
              cases ek
              exact .inl ⟨item_stop R2 hJ2 hit, p r2 H _ exr R2 ⟨D, e2.get gD, rfl⟩⟩
            | some a =>
              obtain ⟨g1, g2⟩ := item_go R2 hJ2 hit
              refine .inr ⟨g1, fun H' => ∃ r3 S, Ext (r' ++ [D]) r3 ∧ Rel t r3 S H' ∧ lc2Go i T vs ft fi1 T1 vs1 ft1 fe S'.length sa m (j + 1) S = some S2, fun H' z => ⟨m, Nat.lt_succ_self m, z⟩, fun v H3 hy => ?_⟩
              obtain ⟨rfl, ra⟩ := g2 v H3 hy
              dsimp only at ek
              cases hT : T a (wipeA sa vs) S with
              | none =>
                rw [hT] at ek
                cases ek
              | some sa1 =>
                rw [hT] at ek
                refine ⟨r2, wipeA sa vs, S, a, sa1, R2, (rs.ext exr).wipe vs, ra, hT, fun σ2 hw rs2 => ⟨hw.trans (wipe_wipe σ vs), ?_⟩⟩
                dsimp only at ek
                cases ht : ft sa1 S with
                | none =>
                  rw [ht] at ek
                  cases ek
                | some w =>
                  rw [ht] at ek
                  refine ⟨r2, sa1, S, w, R2, rs2, ht, ?_⟩
                  cases w with
                  | er c S3 => cases ek
                  | ok b S3 =>
                    cases b with
                    | bl k =>
                      intro r3 H4 v4 e3 R3 rv
                      cases rv
                      refine ⟨k, rfl, ?_⟩
                      cases k with
                      | false => exact iteF ⟨r3, S3, e2.trans e3, R3, ek⟩
                      | true =>
                        refine iteT ?_
                        dsimp only at ek
                        cases hi : fi1 sa1 S3 with
                        | none =>
                          rw [hi] at ek
                          cases ek
                        | some z =>
                          rw [hi] at ek
                          refine ⟨r3, sa1, S3, z, R3, rs2.ext e3, hi, ?_⟩
                          cases z with
                          | er c S4 => cases ek
                          | ok i1 S4 =>
                            intro r4 H5 J1 e4 R4 hJ1
                            dsimp only at ek
                            cases hin : lcGo i1 T1 vs1 ft1 fe S'.length sa1 (itsLen i1 S4 + 1) 0 S4 with
                            | none =>
                              rw [hin] at ek
                              cases ek
                            | some S5 =>
                              rw [hin] at ek
                              exact lcGo_ok R4 ((rs2.ext e3).ext e4) (((e2.trans e3).trans e4).get gD) hJ1 hin fun r6 H6 e6 R6 => ⟨r6, S5, ((e2.trans e3).trans e4).trans e6, R6, ek⟩
                    | _ => cases ek
theorem v_lc2 (own : List (Str × Nat)) {elt iter tg iter1 tg1 : Expr} {ifs ifs1 : List Expr} {scope : Scope} {vs vs1 : List Nat} {pos : Pos} {fi fi1 : FI} {T T1 : TX} {ft ft1 fe : F} (hN : X.N.Nodup) (hi : PI X tg iter (liftI t W fi)) (ok : BlkOk X.N X.env.scope scope own)
    (hg : ∀ (s : Shared) (H : Hp) (C : Addr) (cl : List (Str × Addr)) (fp : List Addr), PG (X.blk s H scope (compEnvC scope cl C X.env) fp) tg (liftGx t vs T)) (ht : ∀ (s : Shared) (H : Hp) (C : Addr) (cl : List (Str × Addr)) (fp : List Addr), PTs (X.blk s H scope (compEnvC scope cl C X.env) fp) ifs (liftB t W0 ft))
    (hi1 : ∀ (s : Shared) (H : Hp) (C : Addr) (cl : List (Str × Addr)) (fp : List Addr), PI (X.blk s H scope (compEnvC scope cl C X.env) fp) tg1 iter1 (liftI t W0 fi1))
    (hg1 : ∀ (s : Shared) (H : Hp) (C : Addr) (cl : List (Str × Addr)) (fp : List Addr), PG (X.blk s H scope (compEnvC scope cl C X.env) fp) tg1 (liftGx t vs1 T1)) (ht1 : ∀ (s : Shared) (H : Hp) (C : Addr) (cl : List (Str × Addr)) (fp : List Addr), PTs (X.blk s H scope (compEnvC scope cl C X.env) fp) ifs1 (liftB t W0 ft1))
    (he : ∀ (s : Shared) (H : Hp) (C : Addr) (cl : List (Str × Addr)) (fp : List Addr), PE (X.blk s H scope (compEnvC scope cl C X.env) fp) elt (lift t W0 fe)) (hvs : own.map (·.2) = vs := by rfl) (hv : ∀ i ∈ vs1, i ∈ own.map (·.2) := by decide) (hc : X.calm = true := by rfl)
    (hs : ∀ x, foldedSetIterable iter X.env x = pure x := by intro _; rfl) (hs1 : ∀ env x, foldedSetIterable iter1 env x = pure x := by intro _ _; rfl) :
    PE X (.ListComp elt [⟨tg, iter, ifs, 0⟩, ⟨tg1, iter1, ifs1, 0⟩] scope pos) (lift t W (lc2F fi T vs ft fi1 T1 vs1 ft1 fe)) := by
  subst hvs
  exact (pe_lc2 hc hN hi ok hv hg ht hi1 hg1 ht1 he hs hs1).weak fun _ _ _ h => lc2_ok h
end
end Vai
set_option maxRecDepth 100000
set_option maxHeartbeats 4000000
namespace Vai
open PySem L2 PySem.Spec PyProof.Rows
/-! ### tuple * 1 -/
theorem tuple_mul1 (l : Addr) (items : Array Value) (n : Nat) (dd : Option Addr) (sl : Array (Option Value)) (u : Tok) :
    Meets (Builtin.«tuple.__mul__» ⟨[.ref l, .int 1 u], []⟩) (fun _ R s => s.heap.get? l = some { cls := .type "tuple", dict := dd, data := .seq items n, slots := sl } ∧ R (.ok (.ret (Value.ref l))) s) :=
  .of_wp fun prog w A R s h => by
    obtain ⟨hp, g, d, tk, os⟩ := s
    obtain ⟨hl, h⟩ := h
    have f1 := AutoSeq1.idx_int
    wp_walk using wpAny_loadPart' hl
    exact ⟨_, rfl, h⟩
def rRepT1 (K : PySem.W.Frag) : R2 := fun x y H Q => ∃ l xs, x = .ref l ∧ y = .int 1 ∧ SqT K H l xs ∧ Q (.ref l) H
theorem op_repT1 {X : Cx} : OpR X (binaryOp .Mult) (rRepT1 X.K) := by
  intro pins s σ H x y v u Q J rx ry h
  obtain ⟨l, xs, rfl, rfl, hT, q⟩ := h
  cases rx
  obtain ⟨t, rfl⟩ := ry
  obtain ⟨its, r, ⟨⟨cls, dd, data, sl⟩, ho, hc, n, hd⟩, hs⟩ := J.tuple hT
  simp only at hc hd
  subst hc hd
  refine wpAny_binaryOp_repeat_ref (T := "tuple") (U := "int") (by decide) ⟨_, ho, rfl⟩ (fun s' => typeIs_int s' 1 t) noFill_tuple_mul F.fills_int_mul F.slot_int_rmul repeat_tuple F.slot_int_index.lookup
    (call_meets F.slot_int_rmul (typeIs_int s 1 t) F.entry_int_rmul (F.args_int_rmul_2 _ _) (int_rmul_tuple 1 t l its.toArray n dd sl) ⟨ho, rfl, ⟨_, ho, rfl⟩, ?_⟩)
  exact call_meets F.slot_tuple_mul ⟨_, ho, rfl⟩ F.entry_tuple_mul (F.args_tuple_mul_2 _ _) (tuple_mul1 l its.toArray n dd sl t) ⟨ho, .ref l, H, J, rfl, q⟩
end Vai
set_option maxRecDepth 100000
set_option maxHeartbeats 2000000
namespace Vai
open PySem L2
theorem opOr {X : Cx} {f : Value → Value → Sem Value} {a b : R2} (h : OpR X f a) (k : OpR X f b) : OpR X f (fun x y H Q => a x y H Q ∨ b x y H Q) := by
  intro pins s σ H x y v u Q I rx ry q
  exact q.elim (h pins s σ H x y v u Q I rx ry) (k pins s σ H x y v u Q I rx ry)
theorem okG {t : Tx} {Q : VK} {r : List Addr} {a : A} {S : List O} {H : Hp} {v : V} (R : Rel t r S H) (p : PostG t Q r (a, S)) (h : RA r a v) : Q v H := p r H v (Ext.refl r) R h
theorem seq_of {t : Tx} {r : List Addr} {S : List O} {H : Hp} {l : Nat} {xs : List A} (R : Rel t r S H) {x : V} (ra : RA r (.ref l) x) (hl : S[l]? = some (.lst xs)) : ∃ p vs, x = .ref p ∧ H p = some (.lst vs) ∧ Paired (RA r) xs vs := by
  obtain ⟨p, hp, rfl⟩ := ra
  obtain ⟨vs, h1, h2⟩ := R.ob l p _ hp hl
  exact ⟨p, vs, rfl, h1, h2⟩
theorem tup_of {t : Tx} {r : List Addr} {S : List O} {H : Hp} {l : Nat} {xs : List A} (R : Rel t r S H) {x : V} (ra : RA r (.ref l) x) (hl : S[l]? = some (.tup xs)) : ∃ p vs, x = .ref p ∧ (H p = some (.tup vs) ∨ (noTy xs = true ∧ ∃ o, H p = some (.frz o (.tup vs)))) ∧ Paired (RA r) xs vs := by
  obtain ⟨p, hp, rfl⟩ := ra
  obtain ⟨vs, h1, h2⟩ := R.ob l p _ hp hl
  exact ⟨p, vs, rfl, h1, h2⟩
theorem scr_of {t : Tx} {r : List Addr} {S : List O} {H : Hp} {l : Nat} {ns : List Int} (R : Rel t r S H) {x : V} (ra : RA r (.ref l) x) (hl : S[l]? = some (.scr ns)) : ∃ p, x = .ref p ∧ SqL t.K H p (ns.map V.int) := by
  obtain ⟨p, hp, rfl⟩ := ra
  exact ⟨p, rfl, scr_sq (R.ob l p _ hp hl)⟩
theorem pr_nilA {α β : Type} {F : α → β → Prop} {xs : List α} {ys : List β} (h : Paired F xs ys) : xs.isEmpty = true ↔ ys = [] := by
  cases h with
  | nil => simp
  | cons _ _ => simp
/-! ### + -/
def addG : G2 := fun a b S => match a, b with
  | .int i, .int j => some (.int (i + j), S)
  | .str x, .str y => if x.length + y.length ≤ 1000000 then some (.str (x ++ y), S) else none
  | .ref l, .ref m => (match S[l]?, S[m]? with
    | some (.lst xs), some (.lst ys) => if xs.length + ys.length ≤ 1000000 then some (.ref S.length, S ++ [.lst (xs ++ ys)]) else none
    | some (.tup xs), some (.tup ys) => if xs.length + ys.length ≤ 1000000 then (if xs.isEmpty then some (.ref m, S) else if ys.isEmpty then some (.ref l, S) else some (.ref S.length, S ++ [.tup (xs ++ ys)])) else none
    | _, _ => none)
  | _, _ => none
def rAdd (K : PySem.W.Frag) : R2 := fun x y H Q => (rI0 (fun i j => .int (i + j)) x y H Q ∨ (∃ i j, x = .str i ∧ y = .str j ∧ i.length + j.length ≤ sizeLine ∧ Q (.str (i ++ j)) H)) ∨ rCat x y H Q ∨ rCatA K x y H Q
theorem op_addU {X : Cx} : OpR X (binaryOp .Add) (rAdd X.K) := opOr (opOr op_add op_add_str) (opOr op_cat op_catA)
theorem s_add {t : Tx} {K : PySem.W.Frag} (hK : K = t.K) : Sem2 t addG (rAdd K) := by
  subst hK
  intro r S H a b x y p Q R ra rb e k
  unfold addG at e
  split at e
  · cases e
    cases ra
    cases rb
    exact .inl (.inl ⟨_, _, rfl, rfl, okG R k rfl⟩)
  · split at e
    · rename_i hz
      cases e
      cases ra
      cases rb
      exact .inl (.inr ⟨_, _, rfl, rfl, big hz, okG R k rfl⟩)
    · cases e
  · split at e
    · rename_i l m xs ys h1 h2
      split at e
      · rename_i hz
        cases e
        obtain ⟨p1, vs, rfl, g1, q1⟩ := seq_of R ra h1
        obtain ⟨p2, us, rfl, g2, q2⟩ := seq_of R rb h2
        refine .inr (.inl ⟨p1, p2, vs, us, rfl, rfl, g1, g2, by rw [← pr_len q1, ← pr_len q2]; exact big hz, allocG R k fun q => ⟨_, upd_same, RAs.ext (Ext.snoc r q) (pr_app q1 q2)⟩⟩)
      · cases e
    · rename_i l m xs ys h1 h2
      split at e
      · rename_i hz
        have ra' := ra
        have rb' := rb
        obtain ⟨p1, vs, rfl, g1, q1⟩ := tup_of R ra h1
        obtain ⟨p2, us, rfl, g2, q2⟩ := tup_of R rb h2
        refine .inr (.inr ⟨p1, p2, vs, us, rfl, rfl, sqTo g1, sqTo g2, by rw [← pr_len q1, ← pr_len q2]; exact big hz, fun z => ?_, fun z1 z2 => ?_, fun z1 z2 => ?_⟩)
        · rw [if_pos ((pr_nilA q1).mpr z)] at e
          cases e
          exact okG R k rb'
        · rw [if_neg (fun w => z1 ((pr_nilA q1).mp w)), if_pos ((pr_nilA q2).mpr z2)] at e
          cases e
          exact okG R k ra'
        · rw [if_neg (fun w => z1 ((pr_nilA q1).mp w)), if_neg (fun w => z2 ((pr_nilA q2).mp w))] at e
          cases e
          exact allocG R k fun q => ⟨_, .inl upd_same, RAs.ext (Ext.snoc r q) (pr_app q1 q2)⟩
      · cases e
    · cases e
  · cases e
/-! ### -, *, //, %, ** -/
def intG (c : Int → Int → Bool) (f : Int → Int → Int) : G2 := fun a b S => match a, b with
  | .int i, .int j => if c i j then some (.int (f i j), S) else none
  | _, _ => none
theorem s_int {t : Tx} {c : Int → Int → Bool} {C : Int → Int → Prop} {f : Int → Int → Int} (hc : ∀ i j, c i j = true → C i j) : Sem2 t (intG c f) (rI C fun i j => .int (f i j)) := by
  intro r S H a b x y p Q R ra rb e k
  unfold intG at e
  split at e
  · split at e
    · rename_i h
      cases e
      cases ra
      cases rb
      exact ⟨_, _, rfl, rfl, hc _ _ h, okG R k rfl⟩
    · cases e
  · cases e
theorem s_int0 {t : Tx} {f : Int → Int → Int} : Sem2 t (intG (fun _ _ => true) f) (rI0 fun i j => .int (f i j)) := by
  intro r S H a b x y p Q R ra rb e k
  unfold intG at e
  split at e
  · split at e
    · cases e
      cases ra
      cases rb
      exact ⟨_, _, rfl, rfl, okG R k rfl⟩
    · cases e
  · cases e
abbrev subG : G2 := intG (fun _ _ => true) fun i j => i - j
theorem s_sub {t : Tx} : Sem2 t subG (rI0 fun i j => .int (i - j)) := s_int0
def small64 (i : Int) : Bool := decide (-18446744073709551616 < i) && decide (i < 18446744073709551616)
theorem small64_ok {i : Int} (h : small64 i = true) : -(2 ^ 64) < i ∧ i < 2 ^ 64 := by
  unfold small64 at h
  simp only [Bool.and_eq_true, decide_eq_true_eq] at h
  omega
def repA {α : Type} (n : Nat) (xs : List α) : List α := (List.replicate n xs).flatten
theorem pr_rep {α β : Type} {F : α → β → Prop} {xs : List α} {ys : List β} (h : Paired F xs ys) : ∀ n, Paired F (repA n xs) (repA n ys)
  | 0 => .nil
  | n + 1 => by
    show Paired F (List.replicate (n + 1) xs).flatten (List.replicate (n + 1) ys).flatten
    rw [List.replicate_succ, List.replicate_succ, List.flatten_cons, List.flatten_cons]
    exact pr_app h (pr_rep h n)
def mulG : G2 := fun a b S => match a, b with
  | .int i, .int j => if small64 i || small64 j || decide (i.natAbs.log2 + j.natAbs.log2 < 1000000) then some (.int (i * j), S) else none
  | .ref l, .int k => (match S[l]? with
    | some (.lst xs) => if decide (0 ≤ k) && decide (k ≤ 1000) && decide (xs.length ≤ 1000) then some (.ref S.length, S ++ [.lst (repA k.toNat xs)]) else none
    | some (.tup xs) => if k = 1 then some (.ref l, S) else if decide (2 ≤ k) && decide (k ≤ 1000) && decide (xs.length ≤ 1000) && !xs.isEmpty then some (.ref S.length, S ++ [.tup (repA k.toNat xs)]) else none
    | _ => none)
  | _, _ => none
def rMulU (K : PySem.W.Frag) : R2 := fun x y H Q => rI CMul (fun i j => .int (i * j)) x y H Q ∨ rRep x y H Q ∨ rRepT K x y H Q ∨ rRepT1 K x y H Q ∨ rI CMulW (fun i j => .int (i * j)) x y H Q
theorem op_mulU {X : Cx} : OpR X (binaryOp .Mult) (rMulU X.K) := opOr op_mul (opOr op_rep (opOr op_repT (opOr op_repT1 op_mulW)))
theorem s_mul {t : Tx} {K : PySem.W.Frag} (hK : K = t.K) : Sem2 t mulG (rMulU K) := by
  subst hK
  intro r S H a b x y p Q R ra rb e k
  unfold mulG at e
  split at e
  · split at e
    · rename_i h
      cases e
      cases ra
      cases rb
      rcases Bool.or_eq_true_iff.mp h with h | h
      · refine .inl ⟨_, _, rfl, rfl, ?_, okG R k rfl⟩
        rcases Bool.or_eq_true_iff.mp h with h | h
        · exact .inl (small64_ok h)
        · exact .inr (small64_ok h)
      · exact .inr (.inr (.inr (.inr ⟨_, _, rfl, rfl, (by simpa [CMulW] using h), okG R k rfl⟩)))
    · cases e
  · cases rb
    split at e
    · rename_i l kk _ xs h1
      split at e
      · rename_i hz
        simp only [Bool.and_eq_true, decide_eq_true_eq] at hz
        cases e
        obtain ⟨p1, vs, rfl, g1, q1⟩ := seq_of R ra h1
        refine .inr (.inl ⟨p1, kk, vs, rfl, rfl, g1, by omega, by omega, ?_, allocG R k fun q => ⟨_, upd_same, RAs.ext (Ext.snoc r q) (pr_rep q1 _)⟩⟩)
        rw [← pr_len q1, sizeLine_eq]
        have h2 : kk.toNat ≤ 1000 := by omega
        have h3 : xs.length * kk.toNat ≤ 1000 * 1000 := Nat.mul_le_mul hz.2 h2
        omega
      · cases e
    · rename_i l kk _ xs h1
      split at e
      · rename_i h1k
        subst h1k
        cases e
        have ra' := ra
        obtain ⟨p1, vs, rfl, g1, q1⟩ := tup_of R ra h1
        exact .inr (.inr (.inr (.inl ⟨p1, vs, rfl, rfl, sqTo g1, okG R k ra'⟩)))
      split at e
      · rename_i hz
        simp only [Bool.and_eq_true, decide_eq_true_eq, Bool.not_eq_true'] at hz
        cases e
        obtain ⟨p1, vs, rfl, g1, q1⟩ := tup_of R ra h1
        refine .inr (.inr (.inl ⟨p1, kk, vs, rfl, rfl, sqTo g1, fun z => ?_, by omega, by omega, by rw [← pr_len q1]; exact hz.1.2, allocG R k fun q => ⟨_, .inl upd_same, RAs.ext (Ext.snoc r q) (pr_rep q1 _)⟩⟩))
        have := (pr_nilA q1).mpr z
        rw [hz.2] at this
        cases this
      · cases e
    · cases e
  · cases e
abbrev modG : G2 := intG (fun _ j => decide (j ≠ 0)) fun i j => i.fmod j
theorem s_mod {t : Tx} : Sem2 t modG (rI (fun _ j => j ≠ 0) fun i j => .int (i.fmod j)) := s_int fun i j h => of_decide_eq_true h
abbrev fdivG : G2 := intG (fun _ j => decide (j ≠ 0) && decide (j.natAbs < 1073741824) || decide (0 < j) && decide (j.natAbs.log2 < 9000)) fun i j => i.fdiv j
def rFdivU : R2 := fun x y H Q => rI CDivN (fun i j => .int (i.fdiv j)) x y H Q ∨ rI CDivW (fun i j => .int (i / j)) x y H Q
theorem op_fdivU {X : Cx} : OpR X (binaryOp .FloorDiv) rFdivU := opOr op_fdivN op_fdivW
theorem s_fdiv {t : Tx} : Sem2 t fdivG rFdivU := by
  intro r S H a b x y p Q R ra rb e k
  unfold fdivG intG at e
  split at e
  · split at e
    · rename_i h
      cases e
      cases ra
      cases rb
      rcases Bool.or_eq_true_iff.mp h with h | h
      · simp only [Bool.and_eq_true, decide_eq_true_eq] at h
        exact .inl ⟨_, _, rfl, rfl, h, okG R k rfl⟩
      · simp only [Bool.and_eq_true, decide_eq_true_eq] at h
        exact .inr ⟨_, _, rfl, rfl, h, okG R k (by show V.int (_ / _) = V.int (Int.fdiv _ _); rw [Int.fdiv_eq_ediv_of_nonneg _ (by omega)])⟩
    · cases e
  · cases e
def CPowX (i j : Int) : Prop := 0 ≤ j ∧ ((Builtin.Int.intBits i : Nat) : Int) * j ≤ 2 ^ 27
theorem op_powX {X : Cx} : OpR X (binaryOp .Pow) (rI CPowX fun i j => .int (i ^ j.toNat)) := opI fun _ _ _ _ _ _ _ hc q => PyProof.Rows.pow_int hc.1 hc.2 q
abbrev powG : G2 := intG (fun i j => decide (0 ≤ j) && (decide (j ≤ 1000000) && decide (i.natAbs < 18446744073709551616) || decide (((Builtin.Int.intBits i : Nat) : Int) * j ≤ 134217728))) fun i j => i ^ j.toNat
def rPowU : R2 := fun x y H Q => rI CPow (fun i j => .int (i ^ j.toNat)) x y H Q ∨ rI CPowX (fun i j => .int (i ^ j.toNat)) x y H Q
theorem op_powU {X : Cx} : OpR X (binaryOp .Pow) rPowU := opOr op_pow op_powX
theorem s_pow {t : Tx} : Sem2 t powG rPowU := by
  intro r S H a b x y p Q R ra rb e k
  unfold powG intG at e
  split at e
  · split at e
    · rename_i h
      cases e
      cases ra
      cases rb
      simp only [Bool.and_eq_true, Bool.or_eq_true, decide_eq_true_eq] at h
      rcases h.2 with h2 | h2
      · exact .inl ⟨_, _, rfl, rfl, ⟨h.1, h2.1, by omega⟩, okG R k rfl⟩
      · exact .inr ⟨_, _, rfl, rfl, ⟨h.1, by omega⟩, okG R k rfl⟩
    · cases e
  · cases e
/-! ### comparisons -/
def cmpG (f : Int → Int → Bool) : G2 := fun a b S => match a, b with
  | .int i, .int j => some (.bl (f i j), S)
  | _, _ => none
theorem s_cmp {t : Tx} {f : Int → Int → Bool} : Sem2 t (cmpG f) (rI0 fun i j => .bl (f i j)) := by
  intro r S H a b x y p Q R ra rb e k
  unfold cmpG at e
  split at e
  · cases e
    cases ra
    cases rb
    exact ⟨_, _, rfl, rfl, okG R k rfl⟩
  · cases e
/-- data, read off the store -/
def toD (S : List O) : Nat → A → Option PyData
  | 0, _ => none
  | n + 1, a => match a with
    | .non => some .none
    | .bl b => some (.bool b)
    | .int i => some (.int i)
    | .str z => some (.str z)
    | .ref l => (match S[l]? with
      | some (.lst xs) => (xs.foldr (fun x acc => match toD S n x, acc with
        | some d, some ds => some (d :: ds)
        | _, _ => none) (some [])).map .list
      | some (.tup xs) => (xs.foldr (fun x acc => match toD S n x, acc with
        | some d, some ds => some (d :: ds)
        | _, _ => none) (some [])).map .tuple
      | _ => none)
    | .ty _ => none
def toDs (S : List O) (n : Nat) (xs : List A) : Option (List PyData) := xs.foldr (fun x acc => match toD S n x, acc with
        | some d, some ds => some (d :: ds)
        | _, _ => none) (some [])
theorem toDs_ok {K : PySem.W.Frag} {H : Hp} {S : List O} {n : Nat} {r : List Addr} (ih : ∀ a x d, RA r a x → toD S n a = some d → Dp K H x d) : ∀ {xs : List A} {vs : List V} {ds : List PyData}, Paired (RA r) xs vs → toDs S n xs = some ds → DpAll K H vs ds
  | _, _, ds, .nil, e => by
    cases e
    exact .nil
  | x :: xs, v :: vs, ds, .cons h t, e => by
    simp only [toDs, List.foldr_cons] at e
    split at e
    · rename_i d ds' h1 h2
      cases e
      exact .cons (ih _ _ _ h h1) (toDs_ok ih t h2)
    · cases e
theorem toD_ok {t : Tx} {r : List Addr} {S : List O} {H : Hp} (R : Rel t r S H) : ∀ (n : Nat) (a : A) (x : V) (d : PyData), RA r a x → toD S n a = some d → Dp t.K H x d
  | 0, _, _, _, _, e => by cases e
  | n + 1, a, x, d, ra, e => by
    cases a with
    | non => cases ra; cases e; exact .non
    | bl b => cases ra; cases e; exact .bl b
    | int i => cases ra; cases e; exact .int i
    | str z => cases ra; cases e; exact .str z
    | ty z => cases e
    | ref l =>
      simp only [toD] at e
      split at e
      · rename_i xs hl
        obtain ⟨p, vs, rfl, h1, h2⟩ := seq_of R ra hl
        cases hd : toDs S n xs with
        | none =>
          simp only [toDs] at hd
          rw [hd] at e
          cases e
        | some ds =>
          have hd' := hd
          simp only [toDs] at hd
          rw [hd] at e
          cases e
          exact .lst (SqL.of h1) (toDs_ok (fun a x d => toD_ok R n a x d) h2 hd')
      · rename_i xs hl
        obtain ⟨p, vs, rfl, h1, h2⟩ := tup_of R ra hl
        cases hd : toDs S n xs with
        | none =>
          simp only [toDs] at hd
          rw [hd] at e
          cases e
        | some ds =>
          have hd' := hd
          simp only [toDs] at hd
          rw [hd] at e
          cases e
          exact .tup (sqTo h1) (toDs_ok (fun a x d => toD_ok R n a x d) h2 hd')
      · cases e
def eqG (neg : Bool) : G2 := fun a b S => match toD S 12 a, toD S 12 b with
  | some d, some e => if SeqAt.shaped d && SeqAt.shaped e then some (.bl (if neg then !PyData.eqv d e else PyData.eqv d e), S) else none
  | _, _ => none
theorem s_eq {t : Tx} {K : PySem.W.Frag} (hK : K = t.K) : Sem2 t (eqG false) (rEqD K) := by
  subst hK
  intro r S H a b x y p Q R ra rb e k
  unfold eqG at e
  split at e
  · rename_i d1 d2 h1 h2
    split at e
    · rename_i hs
      cases e
      rw [Bool.and_eq_true] at hs
      exact ⟨d1, d2, toD_ok R _ _ _ _ ra h1, toD_ok R _ _ _ _ rb h2, hs.1, hs.2, okG R k rfl⟩
    · cases e
  · cases e
theorem s_ne {t : Tx} {K : PySem.W.Frag} (hK : K = t.K) : Sem2 t (eqG true) (rNeD K) := by
  subst hK
  intro r S H a b x y p Q R ra rb e k
  unfold eqG at e
  split at e
  · rename_i d1 d2 h1 h2
    split at e
    · rename_i hs
      cases e
      rw [Bool.and_eq_true] at hs
      exact ⟨d1, d2, toD_ok R _ _ _ _ ra h1, toD_ok R _ _ _ _ rb h2, hs.1, hs.2, okG R k rfl⟩
    · cases e
  · cases e
/-! ### in -/
def toV : A → Option V
  | .non => some .non
  | .bl b => some (.bl b)
  | .int i => some (.int i)
  | .str z => some (.str z)
  | _ => none
theorem toV_ok {r : List Addr} {a : A} {v x : V} (ra : RA r a x) (h : toV a = some v) : x = v ∧ flatV v = true := by
  cases a <;> cases h <;> cases ra <;> exact ⟨rfl, rfl⟩
def toVs : List A → Option (List V)
  | [] => some []
  | a :: as => match toV a, toVs as with
    | some v, some vs => some (v :: vs)
    | _, _ => none
theorem toVs_ok {r : List Addr} : ∀ {as : List A} {vs xs : List V}, Paired (RA r) as xs → toVs as = some vs → xs = vs ∧ vs.all flatV = true
  | _, _, _, .nil, h => by
    cases h
    exact ⟨rfl, rfl⟩
  | a :: as, vs, x :: xs, .cons h t, e => by
    simp only [toVs] at e
    split at e
    · rename_i v vs' h1 h2
      cases e
      obtain ⟨e1, f1⟩ := toV_ok h h1
      obtain ⟨e2, f2⟩ := toVs_ok t h2
      subst e1 e2
      exact ⟨rfl, by rw [List.all_cons, f1, f2]; rfl⟩
    · cases e
def inG (neg : Bool) : G2 := fun a b S => match b with
  | .ref l => (match S[l]? with
    | some (.lst ys) => (match toV a, toVs ys with
      | some v, some vs => some (.bl (if neg then !inV v vs else inV v vs), S)
      | _, _ => none)
    | some (.tup ys) => (match toV a, toVs ys with
      | some v, some vs => some (.bl (if neg then !inV v vs else inV v vs), S)
      | _, _ => none)
    | _ => none)
  | _ => none
theorem s_in {t : Tx} {K : PySem.W.Frag} {neg : Bool} (hK : K = t.K) : Sem2 t (inG neg) (rIn K neg) := by
  subst hK
  intro r S H a b x y p Q R ra rb e k
  unfold inG at e
  split at e
  · split at e
    · rename_i l ys hl
      obtain ⟨p1, vs, rfl, g1, q1⟩ := seq_of R rb hl
      split at e
      · rename_i v ws h1 h2
        cases e
        obtain ⟨rfl, f1⟩ := toV_ok ra h1
        obtain ⟨rfl, f2⟩ := toVs_ok q1 h2
        exact ⟨p1, vs, rfl, .inl (SqL.of g1), f1, f2, okG R k rfl⟩
      · cases e
    · rename_i l ys hl
      obtain ⟨p1, vs, rfl, g1, q1⟩ := tup_of R rb hl
      split at e
      · rename_i v ws h1 h2
        cases e
        obtain ⟨rfl, f1⟩ := toV_ok ra h1
        obtain ⟨rfl, f2⟩ := toVs_ok q1 h2
        exact ⟨p1, vs, rfl, .inr (sqTo g1), f1, f2, okG R k rfl⟩
      · cases e
    · cases e
  · cases e
/-! ### items -/
def ixG : G2 := fun a b S => match a, b with
  | .ref l, .int k => (match S[l]? with
    | some (.lst xs) => (atI xs k).map fun x => (x, S)
    | some (.tup xs) => (atI xs k).map fun x => (x, S)
    | some (.scr ns) => (atI ns k).map fun n => (.int n, S)
    | _ => none)
  | _, _ => none
theorem atI_pr {α β : Type} {F : α → β → Prop} {xs : List α} {ys : List β} {k : Int} {x : α} (h : Paired F xs ys) (e : atI xs k = some x) : ∃ y, atI ys k = some y ∧ F x y := by
  unfold atI at e ⊢
  rw [← pr_len h]
  cases hj : ixN xs.length k with
  | none =>
    rw [hj] at e
    cases e
  | some j =>
    rw [hj] at e
    exact pr_get (i := j) h e
theorem atI_map {α β : Type} {f : α → β} {xs : List α} {k : Int} {x : α} (e : atI xs k = some x) : atI (xs.map f) k = some (f x) := by
  unfold atI at e ⊢
  rw [List.length_map]
  cases hj : ixN xs.length k with
  | none =>
    rw [hj] at e
    cases e
  | some j =>
    rw [hj] at e
    show (xs.map f)[j]? = some (f x)
    have e' : xs[j]? = some x := e
    rw [List.getElem?_map, e'] <;> rfl
def rIxU (K : PySem.W.Frag) : R2 := fun x y H Q => rIxL K x y H Q ∨ rIxT K x y H Q
theorem ix_U {X : Cx} : IxR X (rIxU X.K) := ix_list.or ix_tup
theorem s_ix {t : Tx} {K : PySem.W.Frag} (hK : K = t.K) : Sem2 t ixG (rIxU K) := by
  subst hK
  intro r S H a b x y p Q R ra rb e k
  unfold ixG at e
  split at e
  · cases rb
    split at e
    · rename_i l kk _ xs hl
      obtain ⟨p1, vs, rfl, g1, q1⟩ := seq_of R ra hl
      cases hx : atI xs kk with
      | none =>
        rw [hx] at e
        cases e
      | some z =>
        rw [hx] at e
        cases e
        obtain ⟨y, h1, h2⟩ := atI_pr q1 hx
        exact .inl ⟨p1, vs, kk, y, rfl, rfl, SqL.of g1, h1, okG R k h2⟩
    · rename_i l kk _ xs hl
      obtain ⟨p1, vs, rfl, g1, q1⟩ := tup_of R ra hl
      cases hx : atI xs kk with
      | none =>
        rw [hx] at e
        cases e
      | some z =>
        rw [hx] at e
        cases e
        obtain ⟨y, h1, h2⟩ := atI_pr q1 hx
        exact .inr ⟨p1, vs, kk, y, rfl, rfl, sqTo g1, h1, okG R k h2⟩
    · rename_i l kk _ ns hl
      obtain ⟨p1, rfl, g1⟩ := scr_of R ra hl
      cases hx : atI ns kk with
      | none =>
        rw [hx] at e
        cases e
      | some z =>
        rw [hx] at e
        cases e
        exact .inl ⟨p1, _, kk, .int z, rfl, rfl, g1, atI_map hx, okG R k rfl⟩
    · cases e
  · cases e
abbrev negG : G1 := fun a S => match a with
  | .int i => some (.int (-i), S)
  | _ => none
theorem s_neg {t : Tx} : Sem1 t negG (rU fun i => .int (-i)) := by
  intro r S H a x p Q R ra e k
  cases a with
  | int i =>
    cases e
    cases ra
    exact ⟨i, rfl, okG R k rfl⟩
  | _ => cases e
end Vai
set_option maxRecDepth 100000
set_option maxHeartbeats 2000000
namespace Vai
open PySem L2
/-! ### built-ins -/
def lenG : GN := fun as S => match as with
  | [.str z] => if z.length ≤ 1000000 then some (.int z.length, S) else none
  | [.ref l] => (match S[l]? with
    | some (.lst xs) => some (.int xs.length, S)
    | some (.tup xs) => some (.int xs.length, S)
    | some (.scr ns) => some (.int ns.length, S)
    | _ => none)
  | _ => none
theorem pr_one {r : List Addr} {a : A} {vs : List V} (h : Paired (RA r) [a] vs) : ∃ v, vs = [v] ∧ RA r a v := by
  cases h with
  | cons h t =>
    cases t
    exact ⟨_, rfl, h⟩
theorem pr_two {r : List Addr} {a b : A} {vs : List V} (h : Paired (RA r) [a, b] vs) : ∃ v w, vs = [v, w] ∧ RA r a v ∧ RA r b w := by
  cases h with
  | cons h t =>
    cases t with
    | cons k t =>
      cases t
      exact ⟨_, _, rfl, h, k⟩
theorem s_len {t : Tx} {K : PySem.W.Frag} (hK : K = t.K) : SemN t lenG (fun xs H Q => ∃ x n, xs = [x] ∧ LenV K x H n ∧ Q (.int n) H) := by
  subst hK
  intro r S H as vs p Q R ra e k
  unfold lenG at e
  split at e
  · obtain ⟨v, rfl, h⟩ := pr_one ra
    cases h
    split at e
    · rename_i hz
      cases e
      exact ⟨_, _, rfl, ⟨big hz, rfl⟩, okG R k rfl⟩
    · cases e
  · obtain ⟨v, rfl, h⟩ := pr_one ra
    split at e
    · rename_i xs hl
      cases e
      obtain ⟨p1, us, rfl, g1, q1⟩ := seq_of R h hl
      exact ⟨_, us.length, rfl, .inl ⟨us, SqL.of g1, rfl⟩, okG R k (by rw [← pr_len q1]; rfl)⟩
    · rename_i xs hl
      cases e
      obtain ⟨p1, us, rfl, g1, q1⟩ := tup_of R h hl
      exact ⟨_, us.length, rfl, .inr ⟨us, sqTo g1, rfl⟩, okG R k (by rw [← pr_len q1]; rfl)⟩
    · rename_i ns hl
      cases e
      obtain ⟨p1, rfl, g1⟩ := scr_of R h hl
      exact ⟨_, (ns.map V.int).length, rfl, .inl ⟨_, g1, rfl⟩, okG R k (by rw [List.length_map]; rfl)⟩
    · cases e
  · cases e
def tyN (S : List O) : A → Option String
  | .non => some "NoneType"
  | .bl _ => some "bool"
  | .int _ => some "int"
  | .str _ => some "str"
  | .ref l => (match S[l]? with
    | some (.lst _) => some "list"
    | some (.scr _) => some "list"
    | some (.tup _) => some "tuple"
    | some (.dic _) => some "dict"
    | _ => none)
  | .ty _ => none
theorem tyN_ok {t : Tx} {r : List Addr} {S : List O} {H : Hp} (R : Rel t r S H) {a : A} {x : V} {n : String} (ra : RA r a x) (h : tyN S a = some n) : TyX t.K H x (.type n) := by
  cases a with
  | non => cases ra; cases h; exact .base .non
  | bl b => cases ra; cases h; exact .base (.bl b)
  | int i => cases ra; cases h; exact .base (.int i)
  | str z => cases ra; cases h; exact .base (.str z)
  | ty z => cases h
  | ref l =>
    simp only [tyN] at h
    obtain ⟨p, hp, rfl⟩ := ra
    split at h
    · rename_i xs hl
      cases h
      obtain ⟨vs, h1, _⟩ := R.ob l p _ hp hl
      exact .base (.lst h1)
    · rename_i ns hl
      cases h
      rcases R.ob l p _ hp hl with ⟨o, z⟩ | z
      · exact .base (.frz z)
      · rcases z with (z | ⟨o, z⟩) | ⟨o, its, n, z1, z2, _⟩
        · cases z
        · cases z
        · exact .kList z1 z2
    · rename_i xs hl
      cases h
      obtain ⟨vs, h1, _⟩ := R.ob l p _ hp hl
      rcases h1 with h1 | ⟨_, ob, h1⟩
      · exact .base (.tup h1)
      · exact .fTuple h1
    · rename_i ks hl
      cases h
      obtain ⟨vs, h1, _⟩ := R.ob l p _ hp hl
      exact .base (.dK h1)
    · cases h
def isiAny (t : String) : List A → Option Bool
  | [] => some false
  | .ty n :: r => (match kitB t n, isiAny t r with
    | some true, some _ => some true
    | some false, some b => some b
    | _, _ => none)
  | _ :: _ => none
def isiG : GN := fun as S => match as with
  | [a, .ty n] => (match tyN S a with
    | some t => (kitB t n).map fun b => (.bl b, S)
    | none => none)
  | [a, .ref l] => (match tyN S a, S[l]? with
    | some t, some (.tup cs) => if noTy cs = true then none else (isiAny t cs).map fun b => (.bl b, S)
    | _, _ => none)
  | _ => none
theorem isiAny_ok {K : PySem.W.Frag} {t : String} {r : List Addr} : ∀ {cs : List A} {vs : List V} {b : Bool}, Paired (RA r) cs vs → isiAny t cs = some b → ∃ us, Paired ClsV vs us ∧ PySem.W.kitAny K (.type t) us = some b
  | _, _, b, .nil, h => by
    cases h
    exact ⟨[], .nil, kitAny_nil⟩
  | c :: cs, v :: vs, b, .cons h q, e => by
    cases c with
    | ty n =>
      cases h
      simp only [isiAny] at e
      split at e
      · rename_i b' h1 h2
        cases e
        obtain ⟨us, g1, g2⟩ := isiAny_ok (K := K) q h2
        exact ⟨.type n :: us, .cons (.ty n) g1, kitAny_cons (kit_ty h1) (fun z => by cases z) (fun _ => rfl)⟩
      · rename_i b' h1 h2
        cases e
        obtain ⟨us, g1, g2⟩ := isiAny_ok (K := K) q h2
        exact ⟨.type n :: us, .cons (.ty n) g1, kitAny_cons (kit_ty h1) (fun _ => g2) (fun z => by cases z)⟩
      · cases e
    | _ => cases e
theorem isi_U {X : Cx} : CallR X (.builtin "isinstance") (fun xs H Q => rIsi X.K xs H Q ∨ rIsiT X.K xs H Q) := by
  intro pins s σ H xs us Q I r h
  exact h.elim (call_isi pins s σ H xs us Q I r) (call_isiT pins s σ H xs us Q I r)
theorem s_isi {t : Tx} {K : PySem.W.Frag} (hK : K = t.K) : SemN t isiG (fun xs H Q => rIsi K xs H Q ∨ rIsiT K xs H Q) := by
  subst hK
  intro r S H as vs p Q R ra e k
  unfold isiG at e
  split at e
  · obtain ⟨v, w, rfl, h1, h2⟩ := pr_two ra
    cases h2
    split at e
    · rename_i tn ht
      cases hb : kitB tn _ with
      | none =>
        rw [hb] at e
        cases e
      | some b =>
        rw [hb] at e
        cases e
        exact .inl ⟨v, _, _, _, b, rfl, .ty _, tyN_ok R h1 ht, kit_ty hb, okG R k rfl⟩
    · cases e
  · obtain ⟨v, w, rfl, h1, h2⟩ := pr_two ra
    split at e
    · rename_i tn cs ht hl
      by_cases hty : noTy cs = true
      · rw [if_pos hty] at e
        cases e
      rw [if_neg hty] at e
      cases hb : isiAny tn cs with
      | none =>
        rw [hb] at e
        cases e
      | some b =>
        rw [hb] at e
        cases e
        obtain ⟨p1, us, rfl, g1, q1⟩ := tup_of R h2 hl
        have g1 := g1.elim id fun z => absurd z.1 hty
        obtain ⟨ws, g2, g3⟩ := isiAny_ok (K := t.K) q1 hb
        exact .inr ⟨v, p1, us, _, ws, b, rfl, g1, g2, tyN_ok R h1 ht, g3, okG R k rfl⟩
    · cases e
  · cases e
/-- two ints -/
def twoG (f : Int → Int → Int) : GN := fun as S => match as with
  | [.int i, .int j] => some (.int (f i j), S)
  | _ => none
theorem s_two {t : Tx} {f : Int → Int → Int} : SemN t (twoG f) (fun xs H Q => ∃ i j, xs = [.int i, .int j] ∧ Q (.int (f i j)) H) := by
  intro r S H as vs p Q R ra e k
  unfold twoG at e
  split at e
  · cases e
    obtain ⟨v, w, rfl, h1, h2⟩ := pr_two ra
    cases h1
    cases h2
    exact ⟨_, _, rfl, okG R k rfl⟩
  · cases e
def absG : GN := fun as S => match as with
  | [.int i] => some (.int (if i < 0 then -i else i), S)
  | _ => none
theorem s_abs {t : Tx} : SemN t absG (fun xs H Q => ∃ i, xs = [.int i] ∧ Q (.int (if i < 0 then -i else i)) H) := by
  intro r S H as vs p Q R ra e k
  unfold absG at e
  split at e
  · cases e
    obtain ⟨v, rfl, h1⟩ := pr_one ra
    cases h1
    exact ⟨_, rfl, okG R k rfl⟩
  · cases e
def intC : GN := fun as S => match as with
  | [.int i] => some (.int i, S)
  | [.bl b] => some (.int (if b then 1 else 0), S)
  | _ => none
theorem s_intC {t : Tx} : SemN t intC (fun xs H Q => (∃ i, xs = [.int i] ∧ Q (.int i) H) ∨ ∃ k, xs = [.bl k] ∧ Q (.int (if k then 1 else 0)) H) := by
  intro r S H as vs p Q R ra e k
  unfold intC at e
  split at e
  · cases e
    obtain ⟨v, rfl, h1⟩ := pr_one ra
    cases h1
    exact .inl ⟨_, rfl, okG R k rfl⟩
  · cases e
    obtain ⟨v, rfl, h1⟩ := pr_one ra
    cases h1
    exact .inr ⟨_, rfl, okG R k rfl⟩
  · cases e
def toBs : List A → Option (List Bool)
  | [] => some []
  | .bl b :: r => (match toBs r with
    | some bs => some (b :: bs)
    | none => none)
  | _ :: _ => none
theorem toBs_ok {r : List Addr} : ∀ {as : List A} {vs : List V} {bs : List Bool}, Paired (RA r) as vs → toBs as = some bs → vs = bs.map V.bl
  | _, _, _, .nil, h => by
    cases h
    rfl
  | a :: as, v :: vs, bs, .cons h q, e => by
    cases a with
    | bl b =>
      cases h
      simp only [toBs] at e
      split at e
      · rename_i b' h1
        cases e
        rw [toBs_ok q h1]
        rfl
      · cases e
    | _ => cases e
def allG (f : List Bool → Bool) : GN := fun as S => match as with
  | [.ref l] => (match S[l]? with
    | some (.lst xs) => (match toBs xs with
      | some bs => some (.bl (f bs), S)
      | none => none)
    | _ => none)
  | _ => none
theorem s_all {t : Tx} {K : PySem.W.Frag} (hK : K = t.K) : SemN t (allG fun bs => bs.all id) (rAll K) := by
  subst hK
  intro r S H as vs p Q R ra e k
  unfold allG at e
  split at e
  · obtain ⟨v, rfl, h⟩ := pr_one ra
    split at e
    · rename_i xs hl
      obtain ⟨p1, us, rfl, g1, q1⟩ := seq_of R h hl
      split at e
      · rename_i bs hb
        cases e
        rw [toBs_ok q1 hb] at g1
        exact ⟨p1, bs, rfl, SqL.of g1, okG R k rfl⟩
      · cases e
    · cases e
  · cases e
/-- tuple(xs), list(xs) -/
def tupC : GN := fun as S => match as with
  | [.ref l] => (match S[l]? with
    | some (.lst xs) => some (.ref S.length, S ++ [.tup xs])
    | some (.tup _) => some (.ref l, S)
    | _ => none)
  | _ => none
theorem s_tupC {t : Tx} {K : PySem.W.Frag} (hK : K = t.K) : SemN t tupC (fun xs H Q => ∃ p ys, xs = [.ref p] ∧ ((SqL K H p ys ∧ ∀ l, H l = none → Q (.ref l) (upd H l (.tup ys))) ∨ (SqT K H p ys ∧ Q (.ref p) H))) := by
  subst hK
  intro r S H as vs p Q R ra e k
  unfold tupC at e
  split at e
  · obtain ⟨v, rfl, h⟩ := pr_one ra
    split at e
    · rename_i xs hl
      cases e
      obtain ⟨p1, us, rfl, g1, q1⟩ := seq_of R h hl
      exact ⟨p1, us, rfl, .inl ⟨SqL.of g1, allocG R k fun q => ⟨_, .inl upd_same, RAs.ext (Ext.snoc r q) q1⟩⟩⟩
    · rename_i xs hl
      cases e
      have h' := h
      obtain ⟨p1, us, rfl, g1, q1⟩ := tup_of R h hl
      exact ⟨p1, us, rfl, .inr ⟨sqTo g1, okG R k h'⟩⟩
    · cases e
  · cases e
def lstC : GN := fun as S => match as with
  | [.ref l] => (match S[l]? with
    | some (.lst xs) => some (.ref S.length, S ++ [.lst xs])
    | some (.tup xs) => some (.ref S.length, S ++ [.lst xs])
    | _ => none)
  | _ => none
theorem s_lstC {t : Tx} {K : PySem.W.Frag} (hK : K = t.K) : SemN t lstC (fun xs H Q => ∃ p ys, xs = [.ref p] ∧ (SqL K H p ys ∨ SqT K H p ys) ∧ ∀ l, H l = none → Q (.ref l) (upd H l (.lst ys))) := by
  subst hK
  intro r S H as vs p Q R ra e k
  unfold lstC at e
  split at e
  · obtain ⟨v, rfl, h⟩ := pr_one ra
    split at e
    · rename_i xs hl
      cases e
      obtain ⟨p1, us, rfl, g1, q1⟩ := seq_of R h hl
      exact ⟨p1, us, rfl, .inl (SqL.of g1), allocG R k fun q => ⟨_, upd_same, RAs.ext (Ext.snoc r q) q1⟩⟩
    · rename_i xs hl
      cases e
      obtain ⟨p1, us, rfl, g1, q1⟩ := tup_of R h hl
      exact ⟨p1, us, rfl, .inr (sqTo g1), allocG R k fun q => ⟨_, upd_same, RAs.ext (Ext.snoc r q) q1⟩⟩
    · cases e
  · cases e
/-! ### what no rule serves: it must not be reached -/
def noF : F := fun _ _ => none
def noL : FL := fun _ _ => none
def noS : FS := fun _ _ => none
section
variable {X : Cx} {t : Tx} {W : WX}
theorem v_no {e : Expr} : PE X e (lift t W noF) := ⟨fun _ _ _ _ _ _ ⟨_, _, _, _, _, _, h, _⟩ => by cases h⟩
theorem v_noT {e : Expr} : PT X e (liftB t W noF) := ⟨fun _ _ _ _ _ _ ⟨_, _, _, _, _, _, h, _⟩ => by cases h⟩
theorem v_noS {st : Stmt} : PS X st (liftS t W noS) := ⟨fun _ _ _ _ _ _ ⟨_, _, _, _, _, _, h, _⟩ => by cases h⟩
theorem v_noSs {st : List Stmt} : PSs X st (liftS t W noS) := ⟨fun _ _ _ _ _ _ ⟨_, _, _, _, _, _, h, _⟩ => by cases h⟩
/-! ### raise X() -/
theorem pmk_own0 {C : Addr} {bmB : List Value} {B newId initId : String} {x : Str} {p pos : Pos} (F : ExcBaseFacts B newId initId bmB) (q : PySem.W.excIn X.K C bmB newId = true) (gC : X.mg x = some (.ref C)) (kC : PySem.W.keepIn X.K (.ref C) = true) (r : Raises X (.ref C)) (hg : Gl X x)
    (hdb : (x == ("__debug__" : Str)) = false := by decide) : PMk X (.Call (.Name x p) [] [] pos) (fun _ H Q => Q (.ref C) none H) := by
  intro pins s σ H Q I h
  refine wpAny_Call_Name_kw (ld_glob I hg gC (PySem.W.callWith_K0 I.kIn kC ?_) hdb)
  obtain ⟨bm, N, nm, qn, bs, hdct, sn, sub, ab, col, dd, k0, k1, k2, k3, k5, mN, hC, hN, hni, T⟩ := exc_obj I.kIn q
  exact wpAny_call_exc_subT F T hC hN hni (fun h' e hm => mk_of I hm r h (I.hok.gone hm.new)) (Nat.zero_le _)
def raiseF (c : Nat) : FS := fun sa S => some (.er c sa S)
theorem v_raise {c : Nat} {bmB : List Value} {B newId initId : String} {x : Str} {p pos pos' : Pos} (F : ExcBaseFacts B newId initId bmB) (q : PySem.W.excIn X.K (t.cl c) bmB newId = true) (gC : X.mg x = some (.ref (t.cl c))) (kC : PySem.W.keepIn X.K (.ref (t.cl c)) = true) (r : Raises X (.ref (t.cl c)))
    (tk : Takes X W) (hc : X.calm = true := by rfl) (hg : Gl X x := by rfl) (hdb : (x == ("__debug__" : Str)) = false := by decide) (h64 : c < 64 := by decide) : PS X (.Raise (some (.Call (.Name x p) [] [] pos)) none pos') (liftS t W (raiseF c)) :=
  (ps_raise hc tk (pmk_own0 F q gC kC r hg hdb)).weak fun D σ H h => by
    obtain ⟨r, sa, S, x, R, rs, e, p⟩ := h
    cases e
    exact p r H σ (Ext.refl r) R rs none (erD0 h64)
/-- a, b = e, f (two local names) -/
theorem v_par {i j : Nat} {x y : Str} {a b : Expr} {fl : FL} {px py pt pos : Pos} {kt k2 pt2} (hN : X.N.Nodup) (ha : PA X [a, b] (liftL t W fl)) (hi : X.N[i]? = some x := by rfl) (hj : X.N[j]? = some y := by rfl) (hij : i ≠ j := by decide) (hx : X.env.scope.names.lookup x = some .local := by rfl) (hy : X.env.scope.names.lookup y = some .local := by rfl)
    (hw : swappedStores [.Tuple [.Name x px, .Name y py] kt pt] (.Tuple [a, b] k2 pt2) X.env = pure (some [x, y]) := by rfl) (hs : swapsWithSole [.Tuple [.Name x px, .Name y py] kt pt] (.Tuple [a, b] k2 pt2) pos.line X.env = pure false := by rfl) (hc : X.calm = true := by rfl) :
    PS X (.Assign [.Tuple [.Name x px, .Name y py] kt pt] (.Tuple [a, b] k2 pt2) pos) (liftS t W (parF i j fl)) := (ps_par hc hN hi hj hij hx hy ha hw hs).weak fun _ _ _ h => par_ok h
end
/-! ### a def -/
def defF (m : Nat) (b : FS) : FD := fun as S => match b (as.map some ++ List.replicate (m - as.length) none) S with
  | some (.nx _ S') => some (.ok .non S')
  | some (.rt a S') => some (.ok a S')
  | some (.er c _ S') => some (.er c S')
  | _ => none
theorem rs_start {r : List Addr} : ∀ {as : List A} {vs : List V} (n : Nat), Paired (RA r) as vs → RS r (as.map some ++ List.replicate n none) (vs.map some ++ List.replicate n none)
  | _, _, n, .nil => by
    show RS r (List.replicate n none) (List.replicate n none)
    induction n with
    | zero => exact .nil
    | succ n ih => exact .cons (fun x e => by cases e) ih
  | a :: as, v :: vs, n, .cons h q => .cons (fun x e => by cases e; exact ⟨v, rfl, h⟩) (rs_start n q)
theorem v_def {P : Program} {w : World} {K : PySem.W.Frag} {mg : Str → Option Value} {base : Heap} {x qual : Str} {st : Stmt} {f : Addr} {fd : FuncData} {N ps : List Str} {k : Nat} {t : Tx} {b : FS} (F : Fun K x qual st f fd) (S : FnScope N ps (defScope st))
    (hb : ∀ (cdv : Value) (A : Around) (outer : List Env) (s : Shared) (H : Hp) (E : XK), Room k (A.deeper (PyProof.Rows.envOfC qual (defScope st) s.heap.objs.size f cdv)) →
      PSs (cxOf (L2.CX P w) P w K mg base N qual (defScope st) f cdv A outer s H E) (defBody st) (liftS t (fun cls d _ H => E cls d H) b)) : FnOk P w K mg base (L2.CX P w) (k + 1) f fd ps (spF t ps.length (defF N.length b)) := by
  refine F.okX S (fun vs H Q E h => h.1) fun cdv A outer s H vs Q E hr h => ⟨_, hb cdv A outer s H E hr, ?_⟩
  obtain ⟨hl, r, as, S0, x, R, ra, e, p⟩ := h
  unfold defF at e
  cases hbo : b (as.map some ++ List.replicate (N.length - as.length) none) S0 with
  | none =>
    rw [hbo] at e
    cases e
  | some y =>
    rw [hbo] at e
    refine ⟨r, _, S0, y, R, by show RS r _ (vs.map some ++ List.replicate (N.length - vs.length) none); rw [← pr_len ra]; exact rs_start _ ra, hbo, ?_⟩
    cases y with
    | nx sa S' =>
      cases e
      exact fun r' H' σ' ex R' _ => p r' H' .non ex R' rfl
    | rt a S' =>
      cases e
      exact fun r' H' v ex R' rv => p r' H' v ex R' rv
    | er c sa S' =>
      cases e
      exact fun r' H' σ' ex R' _ => p r' H' ex R'
    | bk sa S' => cases e
    | ct sa S' => cases e
end Vai
set_option maxRecDepth 100000
set_option maxHeartbeats 2000000
namespace Vai
open PySem L2
theorem takesW0 {X : Cx} : Takes X W0 := takes0
/-- how many come -/
def Ar (fl : FL) (n : Nat) : Prop := ∀ sa S as S', fl sa S = some (.ok as S') → as.length = n
theorem ar_nil : Ar nilF 0 := fun sa S as S' e => by
  cases e
  rfl
theorem ar_cons {fa : F} {fl : FL} {n : Nat} (h : Ar fl n) : Ar (consF fa fl) (n + 1) := fun sa S as S' e => by
  unfold consF at e
  cases hf : fa sa S with
  | none =>
    rw [hf] at e
    cases e
  | some y =>
    rw [hf] at e
    cases y with
    | er c S1 => cases e
    | ok a S1 =>
      dsimp only at e
      cases hg : fl sa S1 with
      | none =>
        rw [hg] at e
        cases e
      | some z =>
        rw [hg] at e
        cases z with
        | er c S2 => cases e
        | ok bs S2 =>
          cases e
          show bs.length + 1 = n + 1
          rw [h sa S1 bs _ hg]
/-- a def that stands, and what it does -/
structure DefOk (P : Program) (w : World) (K : PySem.W.Frag) (mg : Str → Option Value) (base : Heap) (t : Tx) (x : Str) (ps : List Str) (k : Nat) (d : FD) : Prop where
  ex : ∃ f fd, mg x = some (.ref f) ∧ PySem.W.keepIn K (.ref f) = true ∧ Binds K fd ps [] ∧ FnOk P w K mg base (L2.CX P w) k f fd ps (spF t ps.length d)
section
variable {X : Cx} {t : Tx} {W : WX}
theorem v_callD {k : Nat} {ps : List Str} {d : FD} {x : Str} {e : Expr} {es : List Expr} {fl : FL} {p pos : Pos} (G : DefOk X.prog X.w X.K X.mg X.base t x ps k d) (hr : Room k X.A) (tk : Takes X W) (ha : PA X (e :: es) (liftL t W fl)) (hl : Ar fl ps.length) (hg : Gl X x := by rfl)
    (hdb : (x == ("__debug__" : Str)) = false := by decide) (he : starEach (e :: es) X.env = (false, eval e X.env) :: starEach es X.env := by rfl) (hpl : (backTo pos (starEach es X.env)).any (·.1) = false := by rfl) :
    PE X (.Call (.Name x p) (e :: es) [] pos) (lift t W (callF d fl)) := by
  obtain ⟨f, fd, h1, h2, h3, h4⟩ := G.ex
  exact v_call h4 rfl hr h1 h2 h3 tk ha (fun _ as S S' sa h => hl sa S as S' h) hg hdb he hpl
theorem def_ok {P : Program} {w : World} {K : PySem.W.Frag} {mg : Str → Option Value} {base : Heap} {x qual : Str} {st : Stmt} {f : Addr} {fd : FuncData} {N ps : List Str} {k : Nat} {b : FS} (F : Fun K x qual st f fd) (hm : mg x = some (.ref f)) (B : Binds K fd ps []) (S : FnScope N ps (defScope st))
    (hb : ∀ (cdv : Value) (A : Around) (outer : List Env) (s : Shared) (H : Hp) (E : XK), Room k (A.deeper (PyProof.Rows.envOfC qual (defScope st) s.heap.objs.size f cdv)) →
      PSs (cxOf (L2.CX P w) P w K mg base N qual (defScope st) f cdv A outer s H E) (defBody st) (liftS t (fun cls d _ H => E cls d H) b)) : DefOk P w K mg base t x ps (k + 1) (defF N.length b) := ⟨f, fd, hm, F.kp, B, v_def F S hb⟩
theorem v_gtupS {es : List Expr} {x1} {g : TFs} {n : Nat} {pos : Pos} (hK : X.K = t.K) (hp : PG X (.Tuple es x1 pos) (gTup X.K n (liftGs t g))) : PG X (.Tuple es x1 pos) (liftG t (tupT n g)) := hp.weak fun _ _ _ _ h => tupG_ok hK h
end
end Vai
namespace Vai
open PySem L2
theorem v_gintE {X : Cx} {t : Tx} {W : WX} {x : Str} {i : Int} {pos : Pos} (h : ∃ u, RelV (.int i) u ∧ X.mg x = some u) (hg : Gl X x := by rfl) (hd : (x == ("__debug__" : Str)) = false := by decide) : PE X (.Name x pos) (lift t W (conF (.int i))) := by
  obtain ⟨u, h1, h2⟩ := h
  exact v_gint h2 h1 hg hd
end Vai
set_option maxRecDepth 100000
set_option maxHeartbeats 4000000
namespace Vai
open PySem L2 PySem.Spec PyProof.Rows
/-! ### len({e for x in xs}), e a tuple of ints -/
theorem in1_units {A : Around} : A.in1.units = A.units + 1 := rfl
section
variable {X : Cx}
theorem tup_add {pins : List (Addr × Obj)} {σ : L2.St} {H : Hp} {s : Shared} {E : Value → Shared → Prop} {D b : Addr} {L : List (Addr × List Int)} {k : List Int} {Q : Value → Shared → Prop} (J : Inv X pins σ H s) (hD : H D = some (SetTO X.prog X.w D L)) (hb : SqT X.K H b (k.map V.int))
    (hL : ∀ q ∈ L, SqT X.K H q.1 (q.2.map V.int)) (few : L.length + 1 < 64) (hu : X.A.units + 64 < cLine)
    (h : ∀ s' L', Inv X pins σ (upd H D (SetTO X.prog X.w D L')) s' → (k ∈ L.map (·.2) → L' = L) → (k ∉ L.map (·.2) → L'.Perm ((b, k) :: L)) → Q .none s') : wpAny (model X.prog X.w) X.A (call (.builtin "set.add") [.ref D, .ref b]) Q E s := by
  have R0 : SetT0 X.prog X.w s.heap D L := (J.hok D _ hD).1
  obtain ⟨es, ep, tb, RR⟩ := R0.full fun q hq => J.isT (hL q hq)
  obtain ⟨o, ho, hex, hd⟩ := RR.ob
  have hT : s.TypeIs (.ref D) "set" := ⟨o, ho, hex.1⟩
  have hk := J.isT hb
  refine wpAny_call_entry F.slot_set_add hT F.entry_set_add ?_ (F.args_set_add_2 _ _)
  unfold Builtin.«set.add» Builtin.Frozenset.oneOther
  simp only [List.isEmpty_nil, bind_assoc]
  unfold Builtin.Frozenset.addrOf setAdd
  refine wpAny_bind (wpAny_pure ?_)
  try dsimp only
  refine wpAny_bind (wpAny_pure ?_)
  try dsimp only
  refine wpAny_bind (wpAny_holding (wpAny_bind (wpAny_pyHash_tuple (by rw [in1_units]; omega) hk ?_)))
  refine add_at (s := { s with toks := s.toks + (k.length + 1) }) RR hk (by rw [in1_units]; omega) few fun bo h' L' es' ep' t' sb R2 c1 c2 => ?_
  show wpAny _ _ (ret Value.none) _ _ _
  have there : ∃ u, h'.get? D = some u := by
    obtain ⟨o', ho', _⟩ := R2.ob
    exact ⟨o', ho'⟩
  exact wpAny_pure ⟨_, rfl, h _ L' (J.write (e := D) (t' := s.toks + (k.length + 1)) (by rw [hD]; trivial) (.inl rfl) (fun c u hc hu' => (sb.2 c hc).trans hu') there (setTO_new R2.t0)) c1 c2⟩
/-- the reading: D the new set, L what it holds -/
def tSetT (P : Program) (w : World) (K : PySem.W.Frag) (wi : TI) (g : TG) (tt : TT) (te : TE) (vs : List Nat) : TE := fun σ H Q => wi σ H fun J H1 => ∀ D, H1 D = none → ∃ W : Nat → Nat → Hp → Prop, (∃ m, W 0 m (upd H1 D (SetTO P w D []))) ∧ ∀ i m H, W i m H →
  (J.stop i H ∧ Q (.ref D) H) ∨ (J.go i H ∧ ∃ Nx : Hp → Prop, (∀ H', Nx H' → ∃ m', m' < m ∧ W (i + 1) m' H') ∧ ∀ x H', J.yld i H x H' → g x (wipe σ vs) H' fun σ2 H2 => wipe σ2 vs = wipe σ vs ∧ tt σ2 H2 fun b H3 =>
    if b = true then te σ2 H3 fun y H4 => ∃ (c : Addr) (k : List Int) (L : List (Addr × List Int)), y = .ref c ∧ SqT K H4 c (k.map V.int) ∧ H4 D = some (SetTO P w D L) ∧ (∀ q ∈ L, SqT K H4 q.1 (q.2.map V.int)) ∧ L.length + 1 < 64 ∧
      ∀ L', (k ∈ L.map (·.2) → L' = L) → (k ∉ L.map (·.2) → L'.Perm ((c, k) :: L)) → Nx (upd H4 D (SetTO P w D L')) else Nx H3)
theorem fresh_set {P : Program} {w : World} {h : Heap} : SetT0 P w (h.push { cls := .type "set", dict := none, data := .set #[] 0 (.fresh 0 0 (!w.params.followText "set-order")) }) h.objs.size [] :=
  SetTR.t0 (setTR_fresh (Heap.get?_push_size _ rfl))
theorem pe_setT {elt tg iter : Expr} {ifs : List Expr} {scope : Scope} {own : List (PySem.Str × Nat)} {pos : Pos} {wi : TI} {g : TG} {tt : TT} {te : TE} (hc : X.calm = true) (hN : X.N.Nodup) (hu : X.A.units + 64 < cLine) (hi : PI X tg iter wi) (ok : BlkOk X.N X.env.scope scope own)
    (hg : ∀ (s : Shared) (H : Hp) (C : Addr) (cl : List (PySem.Str × Addr)) (fp : List Addr), PG (X.blk s H scope (compEnvC scope cl C X.env) fp) tg g) (ht : ∀ (s : Shared) (H : Hp) (C : Addr) (cl : List (PySem.Str × Addr)) (fp : List Addr), PTs (X.blk s H scope (compEnvC scope cl C X.env) fp) ifs tt)
    (he : ∀ (s : Shared) (H : Hp) (C : Addr) (cl : List (PySem.Str × Addr)) (fp : List Addr), PE (X.blk s H scope (compEnvC scope cl C X.env) fp) elt te) (hs : ∀ x, foldedSetIterable iter X.env x = pure x := by intro _; rfl) :
    PE X (.SetComp elt [⟨tg, iter, ifs, 0⟩] scope pos) (tSetT X.prog X.w X.K wi g tt te (own.map (·.2))) := by
  constructor
  intro pins s σ H Q J0 hq0
  rw [PpSet.eval_SetComp]
  have captured : ∀ y ∈ scope.names, y.2 = .free → ∃ c, X.env.cells.lookup y.1 = some c := fun y hy e => (ok.free y hy e).elim (fun k => J0.ok.has _ (.inl k)) (fun k => J0.ok.has _ (.inr k))
  refine wpAny_comprehension_free (use := none) rfl hs (closure_ok captured) ok.kind (fun y hy e => by rw [ok.uniq y hy, e]) (thn (hi.run pins s σ H _ J0 hq0) fun _ s1 hx => thn hx fun _ s2 h2 => ?_)
  obtain ⟨it, fp, tn, J, H2, e, I2, T, st2, f2, q⟩ := h2
  subst e
  refine PpSet.newSet_ok (newEnv_comp ?_)
  generalize hD : s2.heap.objs.size = D
  have freeD : H2 D = none := I2.hok.fresh (Nat.le_of_eq hD)
  obtain ⟨W, ⟨m0, w0⟩, turn⟩ := q D freeD
  generalize hs3 : ({ s2 with heap := s2.heap.push { cls := .type "set", dict := none, data := .set #[] 0 (.fresh 0 0 (!X.w.params.followText "set-order")) } } : Shared) = s3
  have I3 : Inv X pins σ (upd H2 D (SetTO X.prog X.w D [])) s3 := by
    subst hs3
    refine I2.laid (t' := s2.toks) (fun b o z => Heap.get?_push_of_some _ z) (Nat.le_of_eq hD) (setTO_new ?_)
    subst hD
    exact fresh_set
  have h3 : s3.heap = s2.heap.push { cls := .type "set", dict := none, data := .set #[] 0 (.fresh 0 0 (!X.w.params.followText "set-order")) } := by subst hs3; rfl
  have below : ∀ b ∈ fp, b < s2.heap.objs.size := fun b hb => by
    obtain ⟨_, z, _⟩ := T.obj _ _ st2 b hb
    exact Heap.lt_size z
  have f3 : ∀ b ∈ fp, FpOk X pins (upd H2 D (SetTO X.prog X.w D [])) b ∧ b < s3.heap.objs.size := fun b hb => by
    have lt := below b hb
    have nD : b ≠ D := by subst hD; exact Nat.ne_of_lt lt
    exact ⟨⟨by rw [upd_ne nD]; exact (f2 b hb).1, (f2 b hb).2⟩, by rw [h3, Heap.size_push]; exact Nat.lt_succ_of_lt lt⟩
  have st3 : tn 0 s3.heap := T.keep _ _ _ st2 fun b _ o z => by rw [h3]; exact Heap.get?_push_of_some _ z
  have I4 := block_start I3 ok hN f3
  have pg := hg s3 (upd H2 D (SetTO X.prog X.w D [])) s3.heap.objs.size (cellsFrom (s3.heap.objs.size + 1) scope.names (cloFrom X.env.cells scope.names [])) fp
  have pt := ht s3 (upd H2 D (SetTO X.prog X.w D [])) s3.heap.objs.size (cellsFrom (s3.heap.objs.size + 1) scope.names (cloFrom X.env.cells scope.names [])) fp
  have pe := he s3 (upd H2 D (SetTO X.prog X.w D [])) s3.heap.objs.size (cellsFrom (s3.heap.objs.size + 1) scope.names (cloFrom X.env.cells scope.names [])) fp
  have none3 : ∀ b ∈ fp, (upd H2 D (SetTO X.prog X.w D [])) b = none := fun b hb => (f3 b hb).1.1
  show codeAny _ _ (.compStart (.SetComp elt [⟨tg, iter, ifs, 0⟩] scope pos) 0 (.ref it) (.ref D) (compEnvC scope (cellsFrom (s3.heap.objs.size + 1) scope.names (cloFrom X.env.cells scope.names [])) s3.heap.objs.size X.env)) (compPost (model X.prog X.w) X.A X.xe none (EP X pins σ Q) (.ref D) s3.heap.objs.size) { s3 with heap := pushCells (s3.heap.push { cls := .type "dict", data := .dict #[] }) scope.names }
  generalize hce : compEnvC scope (cellsFrom (s3.heap.objs.size + 1) scope.names (cloFrom X.env.cells scope.names [])) s3.heap.objs.size X.env = ce at I4 pg pt pe ⊢
  have cL : ce.locals = s3.heap.objs.size := by subst hce; rfl
  generalize hH3 : upd H2 D (SetTO X.prog X.w D []) = H3 at I3 I4 pg pt pe w0 none3 f3
  generalize hs4 : ({ s3 with heap := pushCells (s3.heap.push { cls := .type "dict", data := .dict #[] }) scope.names } : Shared) = s4 at I4 ⊢
  have st4 : tn 0 s4.heap := T.keep _ _ _ st3 fun b _ o z => by subst hs4; exact pushCells_keeps _ _ _ _ (Heap.get?_push_of_some _ z)
  have still : ∀ {τ : L2.St} {G : Hp} {v : Shared}, Inv (X.blk s3 H3 scope ce fp) [] τ G v → (∀ b ∈ fp, G b = none) → ∀ b ∈ fp, FpOk (X.blk s3 H3 scope ce fp) [] G b := fun {τ G v} I' hn b hb =>
    ⟨hn b hb, (I'.ok.exf b hb).1, I'.ok.exfs b hb, .inl hb, fun x c z => (I'.ok.exf b hb).2 x c z, fun p hp => absurd (show p ∈ ([] : List (Addr × Obj)) ++ [] from hp) (by simp)⟩
  have loop : codeAny (model X.prog X.w) X.A (.compLoop (.SetComp elt [⟨tg, iter, ifs, 0⟩] scope pos) 0 (.ref it) (.ref D) ce) (compPost (model X.prog X.w) X.A X.xe none (EP X pins σ Q) (.ref D) s3.heap.objs.size) s4 := by
    refine PpSet.compLoopS_any (fun n v => ∃ i G, Inv (X.blk s3 H3 scope ce fp) [] (wipe σ (own.map (·.2))) G v ∧ tn i v.heap ∧ (∀ b ∈ fp, G b = none) ∧ W i n G) ?_ m0 ⟨0, H3, I4, st4, none3, w0⟩
    rintro n s5 ⟨i, H5, I5, st5, n5, w5⟩
    rcases turn i n H5 w5 with ⟨stop, qq⟩ | ⟨go, Nx, hNx, step⟩
    · refine thnF (T.done (X.blk s3 H3 scope ce fp) rfl rfl rfl hc i [] s5 _ H5 (fun _ _ => False) I5 (still I5 n5) st5 stop) fun r s6 ⟨hr, I6⟩ => ?_
      subst hr
      have I7 : Inv X pins σ H5 s6 := I3.call' (ch := fp) I6.os I6.base I6.hok I6.bare fun b hb => ⟨(f3 b hb).1.2.2.2.1, (f3 b hb).1.2.1, (f3 b hb).1.2.2.2.2.1, (f3 b hb).1.2.2.2.2.2⟩
      have nC : H5 s3.heap.objs.size = none := by
        have z : H5 ce.locals = none := I6.free
        rwa [cL] at z
      obtain ⟨m, hn, _⟩ := I6.loc
      have hn : s6.heap.Ns ce.locals m := hn
      rw [cL] at hn
      refine ⟨m, hn, fun h'' sb => ?_⟩
      obtain ⟨x0, x1, x2, x3, x4, x5⟩ := I3.fpOk (Nat.le_refl _) nC
      exact ⟨.ref D, H5, I7.turned (t' := s6.toks) (fun b o hb z => (sb.2 b hb).trans z) x0 x1 x3 x4 x5, rfl, qq⟩
    · refine thnF (T.item (X.blk s3 H3 scope ce fp) rfl rfl rfl hc i [] s5 _ H5 (fun _ _ => False) I5 (still I5 n5) st5 go) fun r s6 ⟨u, hr, h6⟩ => ?_
      subst hr
      refine thnF h6 fun _ s7 ⟨x, H7, I7, r7, y7, st7, n7⟩ => ?_
      refine thnF (pg.run _ s7 _ H7 x u _ (I7.pinned (still I7 n7) (T.obj _ _ st7)) r7 (step x H7 y7)) fun _ s8 ⟨σ8, H8, I8, hw8, q8⟩ => ?_
      refine thnF (pt.run _ s8 σ8 H8 _ I8 q8) fun b s9 ⟨H9, I9, q9⟩ => ?_
      have fin : ∀ {v : Shared} {G : Hp}, Inv (X.blk s3 H3 scope ce fp) ([] ++ pinsAt fp s7.heap) σ8 G v → Nx G → ∃ m, m < n ∧ ∃ i H', Inv (X.blk s3 H3 scope ce fp) [] (wipe σ (own.map (·.2))) H' v ∧ tn i v.heap ∧ (∀ b ∈ fp, H' b = none) ∧ W i m H' := fun {v G} I' nx => by
        obtain ⟨m', hm, w'⟩ := hNx G nx
        have pinned : ∀ b ∈ fp, ∀ o, s7.heap.get? b = some o → v.heap.get? b = some o ∧ G b = none := fun b hb o z =>
          ⟨(I'.pin (b, o) (List.mem_append_right _ (List.mem_append_right _ (mem_pinsAt hb z)))).1, (I'.pin (b, o) (List.mem_append_right _ (List.mem_append_right _ (mem_pinsAt hb z)))).2.1⟩
        refine ⟨m', hm, i + 1, G, (I'.unpinned (pins := [])).weak (by rw [← hw8, wipe_length]) (fun j y z => ?_), T.keep _ _ _ st7 fun b hb o z => (pinned b hb o z).1, fun b hb => ?_, w'⟩
        · rw [← hw8] at z
          exact (wipe_some z).1
        · obtain ⟨o, z, _⟩ := T.obj _ _ st7 b hb
          exact (pinned b hb o z).2
      cases b with
      | false =>
        simp only [Bool.false_eq_true, if_false] at q9 ⊢
        exact fin I9 q9
      | true =>
        simp only [if_true] at q9 ⊢
        refine thnF (pe.run _ s9 σ8 H9 _ I9 q9) fun z s10 ⟨yv, H10, I10, r10, cb, kk, L0, ey, hT10, hD10, hL10, few, nx⟩ => ?_
        subst ey
        cases (show z = Value.ref cb from r10)
        exact tup_add (X := X.blk s3 H3 scope ce fp) I10 hD10 hT10 hL10 few hu fun s11 L' I11 c1 c2 => fin I11 (nx L' c1 c2)
  exact PpSet.codeAny_compStart_set loop (T.self X.A 0 _ _ _ st4 loop)
/-- len of such a set -/
def rLenT0 (P : Program) (w : World) (K : PySem.W.Frag) : List V → Hp → VK → Prop := fun xs H Q => ∃ D L, xs = [V.ref D] ∧ H D = some (SetTO P w D L) ∧ (∀ q ∈ L, SqT K H q.1 (q.2.map V.int)) ∧ Q (.int L.length) H
theorem call_lenT : CallR X (.builtin "len") (rLenT0 X.prog X.w X.K) := by
  intro pins s σ H xs us Q J rv h
  obtain ⟨D, L, rfl, hD, hL, q⟩ := h
  rw [Vals.ref1 rv]
  have R0 : SetT0 X.prog X.w s.heap D L := (J.hok D _ hD).1
  obtain ⟨es, ep, tb, RR⟩ := R0.full fun x hx => J.isT (hL x hx)
  obtain ⟨o, ho, hex, hd⟩ := RR.ob
  have hsz := RR.size
  have few := RR.few
  refine call_len_set ho hex hd RR.fits (by omega) ?_
  rw [hsz]
  exact ⟨.int L.length, H, J.tok _, ⟨_, rfl⟩, q⟩
end
end Vai
set_option maxRecDepth 100000
set_option maxHeartbeats 4000000
namespace Vai
open PySem L2
def toInts : List A → Option (List Int)
  | [] => some []
  | .int i :: r => (match toInts r with
    | some is => some (i :: is)
    | none => none)
  | _ :: _ => none
theorem toInts_ok {r : List Addr} : ∀ {as : List A} {vs : List V} {is : List Int}, Paired (RA r) as vs → toInts as = some is → vs = is.map V.int
  | _, _, _, .nil, h => by
    cases h
    rfl
  | a :: as, v :: vs, bs, .cons h q, e => by
    cases a with
    | int i =>
      cases h
      simp only [toInts] at e
      split at e
      · rename_i b' h1
        cases e
        rw [toInts_ok q h1]
        rfl
      · cases e
    | _ => cases e
/-- the entry is the tuple of its ints -/
def entOk (S : List O) (e : Nat × List Int) : Bool := match S[e.1]? with
  | some (.tup as) => decide (toInts as = some e.2)
  | _ => false
def scGo (i : Its) (T : TX) (vs : List Nat) (ft fe : F) (d : Nat) (sa : Sa) : Nat → Nat → List O → Option (List O)
  | 0, _ => fun _ => none
  | n + 1, j => fun S => match itemAt i j S with
    | none => none
    | some none => some S
    | some (some a) => (match T a (wipeA sa vs) S with
      | none => none
      | some sa1 => (match ft sa1 S with
        | some (.ok (.bl true) S2) => (match fe sa1 S2 with
          | some (.ok (.ref l) S3) => (match S3[l]?, S3[d]? with
            | some (.tup as), some (.set es) => (match toInts as with
              | some k => if es.all (entOk S3) && decide (es.length < 62) then scGo i T vs ft fe d sa n (j + 1) (if es.any (fun e => decide (e.2 = k)) then S3 else S3.set d (.set (es ++ [(l, k)]))) else none
              | none => none)
            | _, _ => none)
          | _ => none)
        | some (.ok (.bl false) S2) => scGo i T vs ft fe d sa n (j + 1) S2
        | _ => none))
def lenSetF (fi : FI) (T : TX) (vs : List Nat) (ft fe : F) : F := fun sa S => match fi sa S with
  | some (.ok i S') => (match scGo i T vs ft fe S'.length sa (itsLen i S' + 1) 0 (S' ++ [.set []]) with
    | some S2 => (match S2[S'.length]? with
      | some (.set es) => if es.all (entOk S2) then some (.ok (.int es.length) S2) else none
      | _ => none)
    | none => none)
  | some (.er c S') => some (.er c S')
  | none => none
theorem pr_mem {α β : Type} {F : α → β → Prop} : ∀ {xs : List α} {ys : List β} {y : β}, Paired F xs ys → y ∈ ys → ∃ x ∈ xs, F x y
  | _, _, _, .nil, h => by cases h
  | _, _, y, .cons (a := a) (b := b) h t, m => by
    rcases List.mem_cons.mp m with e | m
    · subst e
      exact ⟨a, List.mem_cons_self .., h⟩
    · obtain ⟨x, hx, hf⟩ := pr_mem t m
      exact ⟨x, List.mem_cons_of_mem _ hx, hf⟩
theorem pr_mem' {α β : Type} {F : α → β → Prop} : ∀ {xs : List α} {ys : List β} {x : α}, Paired F xs ys → x ∈ xs → ∃ y ∈ ys, F x y
  | _, _, _, .nil, h => by cases h
  | _, _, y, .cons (a := a) (b := b) h t, m => by
    rcases List.mem_cons.mp m with e | m
    · subst e
      exact ⟨b, List.mem_cons_self .., h⟩
    · obtain ⟨x, hx, hf⟩ := pr_mem' t m
      exact ⟨x, List.mem_cons_of_mem _ hx, hf⟩
section
variable {X : Cx} {t : Tx} {W : WX} {vs : List Nat}
/-- the entries stand -/
theorem ents {r : List Addr} {S : List O} {H : Hp} {es : List (Nat × List Int)} {L L0 : List (Addr × List Int)} (R : Rel t r S H) (hp : Paired (fun (e : Nat × List Int) (q : Addr × List Int) => r[e.1]? = some q.1 ∧ e.2 = q.2) es L0) (pm : L.Perm L0) (ho : es.all (entOk S) = true) : ∀ q ∈ L, SqT t.K H q.1 (q.2.map V.int) := fun q hq => by
  obtain ⟨e, he, h1, h2⟩ := pr_mem hp (pm.mem_iff.mp hq)
  have hk := List.all_eq_true.mp ho e he
  unfold entOk at hk
  split at hk
  · rename_i as hs
    obtain ⟨us, g1, g2⟩ := R.ob _ _ _ h1 hs
    rw [toInts_ok g2 (of_decide_eq_true hk), h2] at g1
    exact sqTo g1
  · cases hk
theorem has_key {r : List Addr} {es : List (Nat × List Int)} {L L0 : List (Addr × List Int)} {k : List Int} (hp : Paired (fun (e : Nat × List Int) (q : Addr × List Int) => r[e.1]? = some q.1 ∧ e.2 = q.2) es L0) (pm : L.Perm L0) : k ∈ L.map (·.2) ↔ es.any (fun e => decide (e.2 = k)) = true := by
  rw [List.mem_map, List.any_eq_true]
  constructor
  · rintro ⟨q, hq, e⟩
    obtain ⟨x, hx, h1, h2⟩ := pr_mem hp (pm.mem_iff.mp hq)
    exact ⟨x, hx, decide_eq_true (h2.trans e)⟩
  · rintro ⟨x, hx, e⟩
    obtain ⟨q, hq, h1, h2⟩ := pr_mem' hp hx
    exact ⟨q, pm.mem_iff.mpr hq, h2.symm.trans (of_decide_eq_true e)⟩
theorem setO_frz {P : Program} {w : World} {p : Addr} {L : List (Addr × List Int)} (x : Obj) (y : HO) : SetTO P w p L ≠ .frz x y := fun z => by
  unfold SetTO at z
  cases z
theorem lenSet_ok {fi : FI} {T : TX} {ft fe : F} {σ : St} {H : Hp} {Q : VK} (h : lift t W (lenSetF fi T vs ft fe) σ H Q) : tCB (rLenT0 t.P t.w t.K) (tCons (tSetT t.P t.w t.K (liftI t W fi) (liftGx t vs T) (liftB t W0 ft) (lift t W0 fe) vs) tNil) σ H Q := by
  obtain ⟨r, sa, S, x, R, rs, e, p⟩ := h
  unfold lenSetF at e
  cases hf : fi sa S with
  | none =>
    rw [hf] at e
    cases e
  | some y =>
    rw [hf] at e
    refine ⟨r, sa, S, y, R, rs, hf, ?_⟩
    cases y with
    | er c S' =>
      cases e
      exact p
    | ok i S' =>
      intro r' H' J ex R' hJ D hD
      dsimp only at e
      cases hgo : scGo i T vs ft fe S'.length sa (itsLen i S' + 1) 0 (S' ++ [.set []]) with
      | none =>
        rw [hgo] at e
        cases e
      | some S2 =>
        rw [hgo] at e
        have RD : Rel t (r' ++ [D]) (S' ++ [.set []]) (upd H' D (SetTO t.P t.w D [])) := R'.new hD ⟨[], [], upd_same, .nil, .nil⟩
        have gD : (r' ++ [D])[S'.length]? = some D := by
          rw [← R'.len]
          exact get_snoc_new r' D
        refine ⟨fun j m H => ∃ r2 S, Ext (r' ++ [D]) r2 ∧ Rel t r2 S H ∧ scGo i T vs ft fe S'.length sa m j S = some S2, ⟨_, r' ++ [D], _, Ext.refl _, RD, hgo⟩, ?_⟩
        rintro j m H ⟨r2, S, e2, R2, ek⟩
        have hJ2 := hJ.ext ((Ext.snoc r' D).trans e2)
        have exr := (ex.trans (Ext.snoc r' D)).trans e2
        cases m with
        | zero => cases ek
        | succ m =>
          simp only [scGo] at ek
          cases hit : itemAt i j S with
          | none =>
            rw [hit] at ek
            cases ek
          | some u =>
            rw [hit] at ek
            cases u with
            | none =>
              cases ek
              refine .inl ⟨item_stop R2 hJ2 hit, ?_⟩
              dsimp only at e
              cases hd : S2[S'.length]? with
              | none =>
                rw [hd] at e
                cases e
              | some o =>
                rw [hd] at e
                cases o with
                | set es =>
                  dsimp only at e
                  split at e
                  · rename_i hall
                    cases e
                    obtain ⟨L, L0, g1, g2, g3⟩ := R2.ob _ D _ (e2.get gD) hd
                    refine ⟨D, L, rfl, g1, ents R2 g2 g3 hall, ?_⟩
                    have hlen : L.length = es.length := by rw [g3.length_eq, pr_len g2]
                    rw [hlen]
                    exact p r2 H _ exr R2 rfl
                  · cases e
                | _ => cases e
            | some a =>
              obtain ⟨g1, g2⟩ := item_go R2 hJ2 hit
              refine .inr ⟨g1, fun H' => ∃ r3 S, Ext (r' ++ [D]) r3 ∧ Rel t r3 S H' ∧ scGo i T vs ft fe S'.length sa m (j + 1) S = some S2, fun H' z => ⟨m, Nat.lt_succ_self m, z⟩, fun v H3 hy => ?_⟩
              obtain ⟨rfl, ra⟩ := g2 v H3 hy
              dsimp only at ek
              cases hT : T a (wipeA sa vs) S with
              | none =>
                rw [hT] at ek
                cases ek
              | some sa1 =>
                rw [hT] at ek
                refine ⟨r2, wipeA sa vs, S, a, sa1, R2, (rs.ext exr).wipe vs, ra, hT, fun σ2 hw rs2 => ⟨hw.trans (wipe_wipe σ vs), ?_⟩⟩
                dsimp only at ek
                cases ht : ft sa1 S with
                | none =>
                  rw [ht] at ek
                  cases ek
                | some w =>
                  rw [ht] at ek
                  refine ⟨r2, sa1, S, w, R2, rs2, ht, ?_⟩
                  cases w with
                  | er c S3 => cases ek
                  | ok b S3 =>
                    cases b with
                    | bl kb =>
                      intro r3 H4 v4 e3 R3 rv
                      cases rv
                      refine ⟨kb, rfl, ?_⟩
                      cases kb with
                      | false => exact iteF ⟨r3, S3, e2.trans e3, R3, ek⟩
                      | true =>
                        refine iteT ?_
                        dsimp only at ek
                        cases he : fe sa1 S3 with
                        | none =>
                          rw [he] at ek
                          cases ek
                        | some z =>
                          rw [he] at ek
                          refine ⟨r3, sa1, S3, z, R3, rs2.ext e3, he, ?_⟩
                          cases z with
                          | er c S4 => cases ek
                          | ok y S4 =>
                            cases y with
                            | ref l =>
                              intro r4 H5 yv e4 R4 ry
                              dsimp only at ek
                              split at ek
                              · rename_i as es hl hd
                                split at ek
                                · rename_i k hk
                                  split at ek
                                  · rename_i hch
                                    rw [Bool.and_eq_true] at hch
                                    have few := of_decide_eq_true hch.2
                                    have gD4 := ((e2.trans e3).trans e4).get gD
                                    obtain ⟨L, L0, q1, q2, q3⟩ := R4.ob _ D _ gD4 hd
                                    obtain ⟨c, hcl, rfl⟩ := ry
                                    obtain ⟨us, u1, u2⟩ := R4.ob l c _ hcl hl
                                    rw [toInts_ok u2 hk] at u1
                                    have hlen : L.length = es.length := by rw [q3.length_eq, pr_len q2]
                                    refine ⟨c, k, L, rfl, sqTo u1, q1, ents R4 q2 q3 hch.1, by omega, fun L' c1 c2 => ?_⟩
                                    have e6 := (e2.trans e3).trans e4
                                    by_cases hany : es.any (fun e => decide (e.2 = k)) = true
                                    · rw [if_pos hany] at ek
                                      rw [c1 ((has_key q2 q3).mpr hany)]
                                      have R5 := R4.put (o' := .set es) gD4 hd rfl rfl q1 (fun x y z => absurd z (setO_frz x y)) ⟨L, L0, upd_same, q2, q3⟩
                                      have same : S4.set S'.length (.set es) = S4 := by
                                        apply List.ext_getElem?
                                        intro n
                                        by_cases hn : S'.length = n
                                        · subst hn
                                          rw [List.getElem?_set_self (List.getElem?_eq_some_iff.mp hd).1, hd]
                                        · rw [List.getElem?_set_ne hn]
                                      rw [same] at R5
                                      exact ⟨r4, S4, e6, R5, ek⟩
                                    · rw [if_neg hany] at ek
                                      have pm2 := c2 (fun z => hany ((has_key q2 q3).mp z))
                                      refine ⟨r4, _, e6, R4.put (o' := .set (es ++ [(l, k)])) gD4 hd rfl rfl q1 (fun x y z => absurd z (setO_frz x y)) ⟨L', L0 ++ [(c, k)], upd_same, pr_app q2 (.cons ⟨hcl, rfl⟩ .nil), ?_⟩, ek⟩
                                      exact pm2.trans ((List.Perm.cons _ q3).trans (List.perm_append_singleton _ _).symm)
                                  · cases ek
                                · cases ek
                              · cases ek
                            | _ => cases ek
                    | _ => cases ek
theorem v_lenSet (own : List (Str × Nat)) {elt iter tg : Expr} {ifs : List Expr} {scope : Scope} {p pos pos2 : Pos} {fi : FI} {T : TX} {ft fe : F} (hN : X.N.Nodup) (hu : X.A.units + 64 < cLine) (hm : X.mg "len" = none) (hi : PI X tg iter (liftI t W fi)) (ok : BlkOk X.N X.env.scope scope own)
    (hg : ∀ (s : Shared) (H : Hp) (C : Addr) (cl : List (Str × Addr)) (fp : List Addr), PG (X.blk s H scope (compEnvC scope cl C X.env) fp) tg (liftGx t vs T)) (ht : ∀ (s : Shared) (H : Hp) (C : Addr) (cl : List (Str × Addr)) (fp : List Addr), PTs (X.blk s H scope (compEnvC scope cl C X.env) fp) ifs (liftB t W0 ft))
    (he : ∀ (s : Shared) (H : Hp) (C : Addr) (cl : List (Str × Addr)) (fp : List Addr), PE (X.blk s H scope (compEnvC scope cl C X.env) fp) elt (lift t W0 fe)) (hvs : own.map (·.2) = vs := by rfl) (hP : X.prog = t.P := by rfl) (hw : X.w = t.w := by rfl) (hK : X.K = t.K := by rfl) (hc : X.calm = true := by rfl) (hg2 : Gl X "len" := by rfl)
    (hs : ∀ x, foldedSetIterable iter X.env x = pure x := by intro _; rfl) (hst : starEach [.SetComp elt [⟨tg, iter, ifs, 0⟩] scope pos] X.env = (false, eval (.SetComp elt [⟨tg, iter, ifs, 0⟩] scope pos) X.env) :: starEach [] X.env := by rfl)
    (hpl : (backTo pos2 (starEach [] X.env)).any (·.1) = false := by rfl) : PE X (.Call (.Name "len" p) [.SetComp elt [⟨tg, iter, ifs, 0⟩] scope pos] [] pos2) (lift t W (lenSetF fi T vs ft fe)) := by
  subst hvs
  have h1 := pe_setT (tt := liftB t W0 ft) hc hN hu hi ok hg ht he hs (pos := pos)
  have h2 := pe_callB (p := p) (pos := pos2) (x := "len") call_lenT hg2 hm PySem.boot_len (pa_cons h1 pa_nil hst) (by decide) (by decide) hst hpl
  refine h2.weak fun σ H Q h => ?_
  rw [hP, hw, hK]
  exact lenSet_ok h
end
end Vai
set_option maxRecDepth 100000
set_option maxHeartbeats 4000000
namespace Vai
open PySem L2 PySem.Spec PyProof.Rows
/-! ### def err(call): try: call() / except X: return 'X' / .. / return '' -/
/-- what the clauses make of an error -/
def clF2 (K : PySem.W.Frag) (Q : VK) : List (Value × PySem.Str) → XK
  | [] => fun _ _ _ => False
  | (c, z) :: r => fun cls d H => ∃ b, PySem.W.exmOne K cls c = some b ∧ (b = true → Q (.str z) H) ∧ (b = false → clF2 K Q r cls d H)
def lOf (cs : List (Value × PySem.Str)) : List (Value × (Addr → Value → Option Addr → TS)) := cs.map fun p => (p.1, fun _ _ _ => tRet (tC (.str p.2)))
theorem cl_many {K : PySem.W.Frag} {D : Ends} : ∀ (cs : List (Value × PySem.Str)) (cls : Value) (d : Option Addr) (σ : L2.St) (H : Hp), clF2 K D.rt cs cls d H → wMany K (fun _ _ _ _ => False) D (lOf cs) cls d σ H
  | [], _, _, _, _, h => h
  | (c, z) :: r, cls, d, σ, H, ⟨b, e, h1, h2⟩ => ⟨b, e, fun hb a _ => h1 hb, fun hb => cl_many r cls d σ H (h2 hb)⟩
def TErr (K : PySem.W.Frag) (cs : List (Value × PySem.Str)) (e0 : PySem.Str) : (XK → Hp → VK → Prop) → Hp → VK → Prop := fun tl H Q => tl (clF2 K Q cs) H (fun _ H' => Q (.str e0) H')
/-- the def that calls what it got; Cy: what is known of that thing -/
def Gives (X : Cx) (Ng : List PySem.Str) (x : PySem.Str) (sg : Scope) (g : Addr) (cdg : Value) (bg : List Stmt) (a : PySem.Str) (TT : (XK → Hp → VK → Prop) → Hp → VK → Prop) : Prop :=
  ∀ (f : Addr) (Cy : Hp → Prop) (s : Shared) (H : Hp) (Q : VK) (tl : XK → Hp → VK → Prop),
    (∀ (W : WX) (pn : List (Addr × Obj)) (xe : Value → Shared → Prop) (E : XK) (p1 p2 : Pos), Takes ((cxOf C8.CX0 X.prog X.w X.K X.mg X.base Ng x sg g cdg X.A X.stack s H C8.E0).tr pn xe) W → (∀ cls d σ' H', E cls d H' → W cls d σ' H') →
      PE ((cxOf C8.CX0 X.prog X.w X.K X.mg X.base Ng x sg g cdg X.A X.stack s H C8.E0).tr pn xe) (.Call (.Name a p1) [] [] p2) (fun σZ HZ Q => σZ[0]? = some (some (.ref f)) ∧ Cy HZ ∧ tl E HZ Q)) →
    Cy H → TT tl H Q → ∃ t, PSs (cxOf C8.CX0 X.prog X.w X.K X.mg X.base Ng x sg g cdg X.A X.stack s H C8.E0).nox bg t ∧ t { nx := fun _ H' => Q .non H', rt := Q } (L2.start Ng [.ref f]) H
theorem Gives.to {X : Cx} {Ng : List PySem.Str} {x : PySem.Str} {sg : Scope} {g : Addr} {cdg : Value} {bg : List Stmt} {a q : PySem.Str} {TT : (XK → Hp → VK → Prop) → Hp → VK → Prop} (h : Gives X Ng x sg g cdg bg a TT) : LamX.GivesTo X Ng x sg g cdg bg a q TT :=
  fun f c' s H Q tl act hc ht => h f (fun H => H c' = some (LamX.CodeO c' q)) s H Q tl act hc ht
section
variable {X : Cx}
theorem err_gives {Ng : List PySem.Str} {x a e0 : PySem.Str} {sg : Scope} {g : Addr} {cdg : Value} {j : Nat} {p1 p2 p3 p4 p5 p6 : Pos} {cs : List (Value × PySem.Str)} {h0 : ExceptHandler} {hds : List ExceptHandler} (hs0 : ∀ f : Addr, (L2.start Ng [V.ref f])[0]? = some (some (V.ref f)))
    (hh : ∀ (s : Shared) (H : Hp), HdsOk (cxOf C8.CX0 X.prog X.w X.K X.mg X.base Ng x sg g cdg X.A X.stack s H C8.E0).nox (h0 :: hds) (lOf cs)) (hsw : ∀ (s : Shared) (H : Hp), swapsWith (.Call (.Name a p1) [] [] p2) none p3.line (cxOf C8.CX0 X.prog X.w X.K X.mg X.base Ng x sg g cdg X.A X.stack s H C8.E0).env = pure false) :
    Gives X Ng x sg g cdg [.Try [.Expr (.Call (.Name a p1) [] [] p2) p3] (h0 :: hds) [] [] p4, .Return (some (.Constant (.str e0) j p5)) p6] a (TErr X.K cs e0) := by
  intro f Cy s H Q tl act hc h
  refine ⟨_, pss_cons (ps_try_many (X := (cxOf C8.CX0 X.prog X.w X.K X.mg X.base Ng x sg g cdg X.A X.stack s H C8.E0).nox)
      (tb := fun W D σ H => ∃ Ech : XK, (∀ cls d σ' H', Ech cls d H' → W cls d σ' H') ∧ σ[0]? = some (some (.ref f)) ∧ Cy H ∧ tl Ech H (fun _ H' => D.nx σ H'))
      rfl rfl takes_none5 (fun W pn xe tk _ => ?_) (hh s H)) (pss_one (ps_ret pe_str)), ?_⟩
  · refine ⟨fun pins s' σ H' D J h' => ?_⟩
    obtain ⟨Ech, hW, h1, h2, h3⟩ := h'
    have hp := act W pn xe Ech p1 p2 tk hW
    exact (pss_one (ps_expr hp (hsw s H))).run pins s' σ H' D J ⟨h1, h2, h3⟩
  · exact ⟨clF2 X.K Q cs, fun cls d σ' H' z => cl_many (D := { nx := _, rt := Q }) cs cls d σ' H' z, hs0 f, hc, h⟩
/-! ### in the evaluator -/
/-- the name of the clause for the class c -/
def errF (nm : Nat → Option PySem.Str) (e0 : PySem.Str) (fb : F) : F := fun sa S => match fb sa S with
  | some (.ok _ S') => some (.ok (.str e0) S')
  | some (.er c S') => (match nm c with
    | some z => some (.ok (.str z) S')
    | none => none)
  | none => none
/-- the clauses tell the classes by these names -/
def Tells (t : Tx) (cs : List (Value × PySem.Str)) (nm : Nat → Option PySem.Str) : Prop := ∀ (c : Nat) (z : PySem.Str) (Q : VK) (d : Option Addr) (H : Hp), nm c = some z → Q (.str z) H → clF2 t.K Q cs (.ref (t.cl c)) d H
theorem Rel.extN {t : Tx} {r : List Addr} {S : List O} {H H1 : Hp} (R : Rel t r S H) (e : LamX.ExtN H H1) (hT : LamX.Tabs t.T H1) : Rel t r S H1 := by
  refine ⟨R.inj, R.len, fun l p o h1 h2 => ?_, hT⟩
  have x := R.ob l p o h1 h2
  cases o with
  | lst xs => obtain ⟨vs, a, b⟩ := x; exact ⟨vs, e _ _ a (fun _ z => by cases z), b⟩
  | tup xs => obtain ⟨vs, a, b⟩ := x; exact ⟨vs, a.imp (fun a => e _ _ a (fun _ z => by cases z)) fun ⟨n, o, a⟩ => ⟨n, o, e _ _ a (fun _ z => by cases z)⟩, b⟩
  | fz l => obtain ⟨g, o, vs, a, b⟩ := x; exact ⟨g, o, vs, e _ _ a (fun _ z => by cases z), b⟩
  | scr ns => exact x.imp (fun ⟨o, z⟩ => ⟨o, e _ _ z (fun _ z => by cases z)⟩) id
  | dic ks => obtain ⟨vs, a, b⟩ := x; exact ⟨vs, e _ _ a (fun _ z => by cases z), b⟩
  | dt ks => obtain ⟨vs, a, b⟩ := x; exact ⟨vs, e _ _ a (fun _ z => by cases z), b⟩
  | dfz ks => obtain ⟨vs, ⟨o, a⟩, b⟩ := x; exact ⟨vs, ⟨o, e _ _ a (fun _ z => by cases z)⟩, b⟩
  | dtf ks => obtain ⟨vs, ⟨o, a⟩, b⟩ := x; exact ⟨vs, ⟨o, e _ _ a (fun _ z => by cases z)⟩, b⟩
  | set es => obtain ⟨L, L0, a, b⟩ := x; exact ⟨L, L0, e _ _ a (fun _ z => by unfold SetTO at z; cases z), b⟩
  | code => exact e _ _ x LamX.codeO_ne
  | clo i c d => obtain ⟨c', dV, a1, a2, a3⟩ := x; exact ⟨c', dV, a1, a2, e _ _ a3 (fun _ z => by unfold CloO at z; cases z)⟩
/-- the reading of err(lambda: body) -/
theorem err_read {t : Tx} {W : WX} {cs : List (Value × PySem.Str)} {nm : Nat → Option PySem.Str} {e0 : PySem.Str} {fb : F} {K : PySem.W.Frag} (hK : K = t.K) (tells : Tells t cs nm) {σ : L2.St} {H : Hp} {Q : VK} (h : lift t W (errF nm e0 fb) σ H Q) :
    LamX.tLam t.T (TErr K cs e0) (fun E => lift t (fun cls d _ H => E cls d H) fb) σ H Q := by
  subst hK
  obtain ⟨r, sa, S, x, R, rs, e, p⟩ := h
  refine ⟨R.tb, fun H1 eN hT => ?_⟩
  have R1 := R.extN eN hT
  unfold errF at e
  cases hf : fb sa S with
  | none =>
    rw [hf] at e
    cases e
  | some y =>
    rw [hf] at e
    refine ⟨r, sa, S, y, R1, rs, hf, ?_⟩
    cases y with
    | ok a S' =>
      cases e
      exact fun r' H' v ex R' _ => p r' H' _ ex R' rfl
    | er c S' =>
      dsimp only at e
      cases hn : nm c with
      | none =>
        rw [hn] at e
        cases e
      | some z =>
        rw [hn] at e
        cases e
        exact fun r' H' ex R' => fun d _ => tells c z Q d H' hn (p r' H' _ ex R' rfl)
end
end Vai
set_option maxRecDepth 100000
set_option maxHeartbeats 4000000
namespace Vai
open PySem L2 PySem.Spec PyProof.Rows
/-! ### err(lambda a=d: body): one parameter, its default an int -/
structure LamS1 (N : List PySem.Str) (sc scope : Scope) (a0 : PySem.Str) : Prop where
  kind : scope.kind = .function
  co : scope.isCoroutine = false
  gen : scope.isGenerator = false
  noCell : ∀ y ∈ scope.names, y.2 ≠ .cell
  loc : ∀ y ∈ scope.names, y.2 = .local → y.1 = a0
  a0loc : scope.names.lookup a0 = some .local
  out : a0 ∉ N
  free : ∀ y ∈ scope.names, y.2 = .free → sc.names.lookup y.1 = some .cell ∨ sc.names.lookup y.1 = some .free
def lamS1B (N : List PySem.Str) (sc scope : Scope) (a0 : PySem.Str) : Bool :=
  decide (scope.kind = .function) && !scope.isCoroutine && !scope.isGenerator && (scope.names.all fun y => !decide (y.2 = .cell) && (!decide (y.2 = .local) || decide (y.1 = a0)) && (!decide (y.2 = .free) || decide (sc.names.lookup y.1 = some .cell) || decide (sc.names.lookup y.1 = some .free))) &&
    decide (scope.names.lookup a0 = some .local) && decide (a0 ∉ N)
theorem lamS1_by {N : List PySem.Str} {sc scope : Scope} {a0 : PySem.Str} (h : lamS1B N sc scope a0 = true) : LamS1 N sc scope a0 := by
  unfold lamS1B at h
  simp only [Bool.and_eq_true, Bool.or_eq_true, Bool.not_eq_true', decide_eq_true_eq, decide_eq_false_iff_not, List.all_eq_true] at h
  obtain ⟨⟨⟨⟨⟨h1, h2⟩, h3⟩, h4⟩, h5⟩, h6⟩ := h
  refine ⟨h1, h2, h3, fun y hy => (h4 y hy).1.1, fun y hy e => ?_, h5, h6, fun y hy e => ?_⟩
  · exact (h4 y hy).1.2.elim (fun z => absurd e z) id
  · rcases (h4 y hy).2 with (z | z) | z
    · exact absurd e z
    · exact .inl z
    · exact .inr z
theorem LamS1.has {X : Cx} {scope : Scope} {a0 : PySem.Str} (L : LamS1 X.N X.env.scope scope a0) (ok : X.Ok) : ∀ y ∈ scope.names, y.2 = .free → ∃ c, X.env.cells.lookup y.1 = some c := fun y hy e => (L.free y hy e).elim (fun k => ok.has _ (.inl k)) fun k => ok.has _ (.inr k)
section
variable {X : Cx} {pins : List (Addr × Obj)} {σ : L2.St} {H HZ : Hp} {s s1 : Shared}
theorem notFr (J : Inv X pins σ H s) {f : Addr} (hf : s.heap.objs.size ≤ f) : f ∉ frs X.stack := fun z => by
  rcases List.mem_cons.mp (J.stkSub _ z) with e | e
  · have h1 := J.lt
    rw [← e] at h1
    exact absurd hf (Nat.not_le.mpr h1)
  · exact J.nofs hf e
theorem lam_made1 {T : List (Addr × PySem.Str)} {c P : Addr} {params : Arguments} {body : Expr} {scope : Scope} {pos dpos : Pos} {a0 : PySem.Str} {d : Int} {dj : Nat} {E : Value → Shared → Prop} {Q : Value → Shared → Prop} (J : Inv X pins σ H s) (TB : LamX.TabB X.base X.mg c P) (hcode : X.env.code = .ref c)
    (hm : (P, X.env.qual ++ "<lambda>") ∈ T) (hu : ∀ p ∈ T, p.1 = P → p.2 = X.env.qual ++ "<lambda>") (hT : LamX.Tabs T H) (hd : params.defaults = [.Constant (.int d) dj dpos]) (hk0 : params.kw_defaults = []) (L : LamS1 X.N X.env.scope scope a0)
    (h : ∀ (f c' T0 : Addr) (tk : Tok) (doc pm ctv : Value) (H1 : Hp) (s' : Shared), Inv X pins σ H1 s' → LamX.ExtN H H1 → LamX.Tabs T H1 →
      s'.heap.get? f = some (PySem.W.kdv_obj "<lambda>" (X.env.qual ++ "<lambda>") params (.expr body) scope (cloFrom X.env.cells scope.names []) (.ref T0) doc pm c' ctv) → s'.heap.get? T0 = some (PySem.W.kdv_tup [.int d tk]) →
      H1 f = none → H1 T0 = none → f ∉ frs X.stack → T0 ∉ frs X.stack → H1 c' = some (LamX.CodeO c' (X.env.qual ++ "<lambda>")) → Q (.ref f) s') :
    wpAny (model X.prog X.w) X.A (eval (.Lambda params body scope pos) X.env) Q E s := by
  refine PySem.W.kdv_lam (by rw [hd]; rfl) hk0 ?_
  rw [hd]
  refine PySem.W.kdv_all1 (wpAny_Constant_int (PySem.W.kdv_all0 ?_))
  rw [makeFunction_eq]
  simp only [List.zip_nil_right, List.filterMap_nil, List.isEmpty_nil, if_true, pure_bind, List.isEmpty_cons, Bool.false_eq_true, if_false]
  refine wpAny_bind (wpAny_newTextTuple ?_)
  obtain ⟨ps, hP, ht, ha⟩ := hT _ hm
  have J1 : Inv X pins σ H { s with toks := s.toks + 1 } := J.tok _
  generalize hs2 : ({ s with heap := s.heap.push (PySem.W.kdv_tup [.int d s.toks]), toks := s.toks + 1 } : Shared) = s2
  have hh2 : s2.heap = s.heap.push (PySem.W.kdv_tup [.int d s.toks]) := by subst hs2; rfl
  have J2 : Inv X pins σ H s2 := by
    subst hs2
    exact J1.kept (t' := s.toks + 1) fun b o e => Heap.get?_push_of_some _ e
  have hT0 : s2.heap.get? s.heap.objs.size = some (PySem.W.kdv_tup [.int d s.toks]) := by rw [hh2]; exact Heap.get?_push_size _ rfl
  have nT0 : H s.heap.objs.size = none := J.hok.fresh (Nat.le_refl _)
  have fT0 : s.heap.objs.size ∉ frs X.stack := notFr J (Nat.le_refl _)
  have lt0 : s.heap.objs.size < s2.heap.objs.size := by rw [hh2, Heap.size_push]; exact Nat.lt_succ_self _
  have hfree := L.has J.ok
  have bP : s2.heap.BuiltinsAt X.mg P := TB.bm.keeps J2.bk
  have hP' : s2.heap.get? P = some { cls := .none, data := .fields ps } := J2.hok P _ hP
  have nPT : s.heap.objs.size ≠ P := fun z => by
    rw [z] at hT0
    rw [hT0] at hP'
    cases hP'
  show wpAny (model X.prog X.w) X.A (makeTail "<lambda>" (X.env.qual ++ "<lambda>") params (.expr body) scope X.env (.ref s.heap.objs.size) .none none pos pos.line) Q E s2
  cases hc : codeAmong pos ps.toList with
  | none =>
    refine PySem.W.kdv_makeTail (mg := X.mg) (c := c) (P := P) (ps := ps) (closure_ok hfree) J2.ok.glob (J2.mod.glob.keeps J2.bk) hcode (TB.code.keeps J2.bk) hP' ht hc TB.gP bP fun c' ctv doc h' tk hx hge hlt hrec htb => ?_
    obtain ⟨c2, oc, vs, tq, e2, hoc, hdd, hv⟩ := hrec
    cases e2
    have hsz : s2.heap.objs.size ≤ h'.objs.size := Nat.le_trans hge (Nat.le_of_lt hlt)
    have nC : H c' = none := J2.hok.fresh hge
    have J3 := LamX.inv_table (t' := tk) (more := #[rawInt pos.line, rawInt pos.col, .ref c']) (q := X.env.qual ++ "<lambda>") (h' := h'.push (PySem.W.kdv_obj "<lambda>" (X.env.qual ++ "<lambda>") params (.expr body) scope (cloFrom X.env.cells scope.names []) (.ref s.heap.objs.size) doc ((X.mg "__name__").getD .none) c' ctv)) J2 hP
      (fun b o hb e => Heap.get?_push_of_some _ (hx b o hb e)) (Heap.get?_push_of_some _ htb) hge ⟨oc, vs, tq, Heap.get?_push_of_some _ hoc, hdd, hv⟩
    have hE : LamX.ExtN H (upd (upd H P (.tbl (ps ++ #[rawInt pos.line, rawInt pos.col, .ref c']))) c' (LamX.CodeO c' (X.env.qual ++ "<lambda>"))) := fun b o e n => by
      rw [upd_ne (ne_of_none e nC), upd_ne (fun z => n ps (Option.some.inj (e.symm.trans (by rw [z]; exact hP))))]
      exact e
    have eL : (ps ++ #[rawInt pos.line, rawInt pos.col, .ref c']).toList = ps.toList ++ [rawInt pos.line, rawInt pos.col, .ref c'] := by simp
    have tops : ∀ b, b ≠ c' → b ≠ P → H b = none → (upd (upd H P (.tbl (ps ++ #[rawInt pos.line, rawInt pos.col, .ref c']))) c' (LamX.CodeO c' (X.env.qual ++ "<lambda>"))) b = none := fun b h1 h2 h3 => by rw [upd_ne h1, upd_ne h2]; exact h3
    refine h h'.objs.size c' s.heap.objs.size s.toks doc ((X.mg "__name__").getD .none) ctv _ _ J3 hE (fun p hp => ?_) (Heap.get?_push_size _ rfl) (Heap.get?_push_of_some _ (hx _ _ nPT hT0)) ?_ ?_ (notFr J2 hsz) fT0 upd_same
    · by_cases hb : p.1 = P
      · rw [hu p hp hb, hb]
        refine ⟨_, by rw [upd_ne (ne_of_none hP nC), upd_same], by rw [eL]; exact PySem.TriplesOk_snoc _ _ _ _ ht, fun p' cv hcv => ?_⟩
        rw [eL] at hcv
        rcases LamX.among_app _ ht hcv with z | z
        · obtain ⟨k0, e1, e2⟩ := ha p' cv z
          exact ⟨k0, e1, hE _ _ e2 LamX.codeO_ne⟩
        · exact ⟨c', z, upd_same⟩
      · obtain ⟨ps', a1, a2, a3⟩ := hT p hp
        refine ⟨ps', by rw [upd_ne (ne_of_none a1 nC), upd_ne hb]; exact a1, a2, fun p' cv hcv => ?_⟩
        obtain ⟨k0, e1, e2⟩ := a3 p' cv hcv
        exact ⟨k0, e1, hE _ _ e2 LamX.codeO_ne⟩
    · exact tops _ (Nat.ne_of_gt hlt) (Nat.ne_of_gt (Nat.lt_of_lt_of_le (Heap.lt_size hP') hsz)) (J2.hok.fresh hsz)
    · refine tops _ (fun z => ?_) nPT nT0
      rw [← z] at hge
      omega
  | some cv =>
    obtain ⟨c', e, hco⟩ := ha pos cv hc
    subst e
    refine PySem.W.kdv_makeTailHit (mg := X.mg) (c := c) (P := P) (ps := ps) (closure_ok hfree) J2.ok.glob (J2.mod.glob.keeps J2.bk) hcode (TB.code.keeps J2.bk) hP' ht hc bP fun ctv doc h' tk hx hsz => ?_
    have J3 : Inv X pins σ H { s2 with heap := h'.push { cls := .type "function", data := .func (PySem.W.kdv_fn "<lambda>" (X.env.qual ++ "<lambda>") params (.expr body) scope (cloFrom X.env.cells scope.names []) (.ref s.heap.objs.size) doc ((X.mg "__name__").getD .none) (.ref c') ctv) }, toks := tk } := J2.kept fun b o e => Heap.get?_push_of_some _ (hx b o e)
    exact h h'.objs.size c' s.heap.objs.size s.toks doc ((X.mg "__name__").getD .none) ctv H _ J3 (LamX.ExtN.refl H) hT (Heap.get?_push_size _ rfl) (Heap.get?_push_of_some _ (hx _ _ hT0)) (J2.hok.fresh hsz) nT0 (notFr J2 hsz) fT0 hco
end
end Vai
set_option maxRecDepth 100000
set_option maxHeartbeats 4000000
namespace Vai
open PySem L2 PySem.Spec PyProof.Rows
section
variable {X : Cx} {pins : List (Addr × Obj)} {σ : L2.St} {H HZ : Hp} {s s1 : Shared}
/-- the body's start: the one parameter bound -/
theorem lam_begin1 {A : Around} {outer : List Env} {E : XK} {scope : Scope} {a0 : PySem.Str} {u0 : Value} {f c' : Addr} {h1 : Heap} {tk : Nat} (J : Inv X pins σ H s) (L : LamS1 X.N X.env.scope scope a0) (e0 : Env0 X.prog X.w X.K X.mg X.base A outer s1 HZ) (hd : A.handled = none)
    (un : Un (frs X.stack) [] H HZ s.heap s1.heap) (hns : h1.Ns s1.heap.objs.size fun y => ([(a0, u0)] : List (PySem.Str × Value)).reverse.lookup y) (kp : ∀ b o, s1.heap.get? b = some o → h1.get? b = some o) :
    Inv (LamX.lamCx X A outer s1 HZ E scope f c') [] σ HZ { s1 with heap := h1, toks := tk } := by
  have hfree := L.has J.ok
  have cm : ∀ {y c}, (cloFrom X.env.cells scope.names []).lookup y = some c → X.env.cells.lookup y = some c := fun {y c} e => by
    rcases cloFrom_mem (PySem.mem_of_lookup e) with hm | ⟨g1, g2⟩
    · cases hm
    · obtain ⟨k1, hc⟩ := hfree _ g1 rfl
      have hc : X.env.cells.lookup y = some k1 := hc
      rw [hc] at g2 ⊢
      exact congrArg some (show k1 = c from by rw [g2]; rfl)
  have look : ∀ {y}, scope.names.lookup y = some .free → ∃ c, (cloFrom X.env.cells scope.names []).lookup y = some c := fun {y} hl => mem_lookup (cloFrom_has (cells := X.env.cells) (acc := []) (PySem.mem_of_lookup hl))
  have cellK : ∀ {c : Addr} {v : Option Value}, H c = none → s.heap.IsCell c v → h1.IsCell c v := fun {c v} n ⟨o, ho, hd'⟩ => by
    obtain ⟨sl, q⟩ := un.any ho n (by simp)
    exact ⟨_, kp _ _ q, hd'⟩
  have noA : ∀ b : Addr, b ∉ (LamX.lamCx X A outer s1 HZ E scope f c').ex := fun b z => absurd (show b ∈ ([] : List Addr) from z) (by simp)
  have ok : (LamX.lamCx X A outer s1 HZ E scope f c').Ok := by
    refine ⟨e0.mod, L.kind, rfl, rfl, Nat.le_refl _, fun y z c e1 e2 => J.ok.inj y z c (cm e1) (cm e2), fun y hy => ?_, fun y c z _ => ?_, fun _ => hd, Around.frames_deeper e0.frames, .inr ⟨rfl, rfl⟩, fun b z => absurd z (noA b), e0.bs, e0.bsz, fun b _ _ => noA b, fun b z => absurd z (noA b), e0.funs, e0.frf⟩
    · have hy : scope.names.lookup y = some .cell ∨ scope.names.lookup y = some .free := hy
      exact hy.elim (fun k => absurd rfl (L.noCell _ (PySem.mem_of_lookup k))) look
    · have z : false = true := z
      cases z
  refine ⟨ok, rfl, e0.bare, Un.kept kp, ⟨_, hns, fun i y v e1 e2 e3 => ?_⟩, fun y c e => ?_, e0.hok.fresh (Nat.le_refl _), fun y c e => ?_, fun q hq => absurd (show q ∈ ([] : List (Addr × Obj)) ++ [] from hq) (by simp), e0.hok.kept kp, J.len⟩
  · have e1 : X.N[i]? = some y := e1
    have e3 : Vis scope y := e3
    rcases e3 with k | k | k
    · have hy := L.loc _ (PySem.mem_of_lookup k) rfl
      exact absurd (List.mem_of_getElem? (by rw [← show y = a0 from hy]; exact e1)) L.out
    · exact absurd rfl (L.noCell _ (PySem.mem_of_lookup k))
    · obtain ⟨m, hn, hl⟩ := J.loc
      have hvis : Vis X.env.scope y := (L.free _ (PySem.mem_of_lookup k) rfl).elim (fun k => .inr (.inl k)) (fun k => .inr (.inr k))
      obtain ⟨w', r, q⟩ := hl i y v e1 e2 hvis
      obtain ⟨c2, h2⟩ := look k
      refine ⟨w', r, .inr ⟨.inr k, c2, h2, ?_⟩⟩
      have c1 := cm h2
      rcases q with ⟨k', _⟩ | ⟨_, c3, e', z⟩
      · have k' : X.env.scope.names.lookup y = some .local := k'
        rcases L.free _ (PySem.mem_of_lookup k) rfl with k2 | k2 <;> rw [show X.env.scope.names.lookup y = _ from k2] at k' <;> cases k'
      · rw [c1] at e'
        cases e'
        exact cellK (J.freeC y _ c1) z
  · obtain ⟨w', z⟩ := J.cell y c (cm e)
    exact ⟨w', cellK (J.freeC y c (cm e)) z⟩
  · obtain ⟨v, o, ho, hd'⟩ := J.cell y c (cm e)
    exact un.free c o ho (J.freeC y c (cm e)) (by simp)
/-- x() in the def that got it -/
theorem pe_act1 {CXg : CXT} {Eg : XK} {Ng : List PySem.Str} {qg : PySem.Str} {sg : Scope} {g f c' T0 : Addr} {cdg pm doc ctv : Value} {tk0 : Tok} {d : Int} {a0 : PySem.Str} {params : Arguments} {body : Expr} {scope : Scope} {k i : Nat} {a : PySem.Str} {pn : List (Addr × Obj)} {xe : Value → Shared → Prop} {W : WX} {E : XK} {tb : TE} {p1 p2 : Pos}
    (J : Inv X pins σ H s) (L : LamS1 X.N X.env.scope scope a0) (hf : s.heap.get? f = some (PySem.W.kdv_obj "<lambda>" (X.env.qual ++ "<lambda>") params (.expr body) scope (cloFrom X.env.cells scope.names []) (.ref T0) doc pm c' ctv)) (hT0 : s.heap.get? T0 = some (PySem.W.kdv_tup [.int d tk0]))
    (hfn : H f = none) (hTn : H T0 = none) (hfr : f ∉ frs X.stack) (hTr : T0 ∉ frs X.stack)
    (hbind : ∀ cdv, ∃ kk, bindArgs (PySem.W.kdv_fn "<lambda>" (X.env.qual ++ "<lambda>") params (.expr body) scope (cloFrom X.env.cells scope.names []) (.ref T0) doc pm cdv ctv) ⟨[], []⟩ = seqItems? (.ref T0) >>= kk ∧ kk (some #[.int d tk0]) = pure [(a0, .int d tk0)])
    (tk : Takes ((cxOf CXg X.prog X.w X.K X.mg X.base Ng qg sg g cdg X.A X.stack s H Eg).tr pn xe) W) (hW : ∀ cls d σ' H', E cls d H' → W cls d σ' H') (hr : Room (k + 1) (X.A.deeper (envOfC qg sg s.heap.objs.size g cdg)))
    (hbody : ∀ (A : Around) (outer : List Env) (s : Shared) (H : Hp), Room k (A.deeper (LamX.lamEnv X scope s.heap.objs.size f c')) → PE (LamX.lamCx X A outer s H E scope f c') body tb)
    (hN : Ng[i]? = some a) (hv : Vis sg a) (hd : (a == ("__debug__" : PySem.Str)) = false := by decide) (hcd : (a == ("__classdict__" : PySem.Str)) = false := by decide) :
    PE ((cxOf CXg X.prog X.w X.K X.mg X.base Ng qg sg g cdg X.A X.stack s H Eg).tr pn xe) (.Call (.Name a p1) [] [] p2)
      (fun σZ HZ Q => σZ[i]? = some (some (.ref f)) ∧ HZ c' = some (LamX.CodeO c' (X.env.qual ++ "<lambda>")) ∧ tb σ HZ Q) := by
  constructor
  intro pinsZ sZ σZ HZ Q IZ ⟨hs, hc, ht⟩
  refine wpAny_Call_Name_kw (thn ((pe_var (pos := p1) (i := i) hN hv hd hcd).run pinsZ sZ σZ HZ (fun v H1 => v = .ref f ∧ H1 = HZ) IZ ⟨.ref f, hs, rfl, rfl⟩) fun u s1 ⟨v, H1, J1, r1, ev, eH⟩ => ?_)
  subst ev
  rw [eH] at J1
  obtain rfl : u = Value.ref f := r1
  have of1 := J1.base.keep f _ hf hfn hfr (fun z => nomatch (show f ∈ ([] : List Addr) from z))
  have oT1 := J1.base.keep T0 _ hT0 hTn hTr (fun z => nomatch (show T0 ∈ ([] : List Addr) from z))
  refine PySem.W.callWith_F0 ⟨_, _, _, _, of1⟩ ?_
  obtain ⟨⟨oc, vs, t, hoc, hdc, hvc⟩, _, _⟩ := J1.hok c' _ hc
  obtain ⟨kk, b1, b2⟩ := hbind (.ref c')
  have bt : BindsTo s1 (PySem.W.kdv_fn "<lambda>" (X.env.qual ++ "<lambda>") params (.expr body) scope (cloFrom X.env.cells scope.names []) (.ref T0) doc pm (.ref c') ctv) ⟨[], []⟩ [(a0, .int d tk0)] := BindsTo.of_defaults rfl oT1 rfl b1 b2
  have rc : codeAny (model X.prog X.w) (X.A.deeper (envOfC qg sg s.heap.objs.size g cdg)) (.call (.ref f) ⟨[], []⟩) (CR (L2.CX X.prog X.w) (envOfC qg sg s.heap.objs.size g cdg :: X.stack) X.prog X.w HZ s1 Q E) s1 := by
    refine PySem.W.kla_callFunE hr.depth of1 rfl L.co L.gen rfl ⟨c', oc, vs, t, rfl, hoc, hdc, hvc⟩ (bt _ _ _ _ ?_)
    refine wpAny_newFunctionEnv (fun y hy => L.noCell y hy) (fun y hy => ?_) (fun h1 hns hsb => ⟨J1.nolimit.fresh _ hsb, ?_⟩) L.kind
    · rw [List.mem_singleton.mp hy]
      exact L.a0loc
    · show codeAny _ _ (.expr body (LamX.lamEnv X scope s1.heap.objs.size f c')) _ _
      have kp : ∀ b o, s1.heap.get? b = some o → h1.get? b = some o := fun b o e => hsb.extBut b o (Nat.ne_of_lt (Heap.lt_size e)) (Heap.get?_push_of_some _ e)
      have J2 : Inv (LamX.lamCx X (X.A.deeper (envOfC qg sg s.heap.objs.size g cdg)) (envOfC qg sg s.heap.objs.size g cdg :: X.stack) s1 HZ E scope f c') [] σ HZ { s1 with heap := h1, toks := s1.toks + ([(a0, Value.int d tk0)] : List (PySem.Str × Value)).length } :=
        lam_begin1 J L J1.env0 hr.hd J1.base hns kp
      refine PySem.W.kla_codeExpr (wpAny_mono ((hbody _ _ s1 HZ (hr.deeper _)).run [] _ _ HZ Q J2 ht) (fun v s' ⟨w', H', J3, rv, q⟩ => ?_) fun e s' hq => hq)
      exact ⟨w', H', J3.os, J3.bare, J3.base, J3.hok, rv, q⟩
  have hx : Passes (L2.CX X.prog X.w) ((cxOf CXg X.prog X.w X.K X.mg X.base Ng qg sg g cdg X.A X.stack s H Eg).tr pn xe) E := passes_call tk hW
  refine wpAny_call (codeAny_mono rc fun r s' hq => ?_)
  cases r with
  | error e => exact hx pinsZ σZ HZ s1 e s' J1 hq
  | ok fl =>
    cases fl with
    | ret u => exact J1.after hq
    | next => exact False.elim hq
    | brk => exact False.elim hq
    | cont => exact False.elim hq
/-- the def err, as it stands -/
structure ErrOk (P : Program) (w : World) (K : PySem.W.Frag) (mg : PySem.Str → Option Value) (base : Heap) (x : PySem.Str) (cs : List (Value × PySem.Str)) (e0 : PySem.Str) : Prop where
  ex : ∃ (a : PySem.Str) (g : Addr) (pg : Arguments) (bg : List Stmt) (sg : Scope) (dV kV doc pm cdv ct oc : Value) (an od : Option Addr) (osl : Array (Option Value)) (Ng : List PySem.Str),
    mg x = some (.ref g) ∧ PySem.W.keepIn K (.ref g) = true ∧ K.lookup g = some ⟨oc, od, .func (PySem.W.fnOf x x pg bg sg dV kV doc pm an cdv ct), osl⟩ ∧ PySem.W.codeIn K cdv x = true ∧ L2.Binds K (PySem.W.fnOf x x pg bg sg dV kV doc pm an cdv ct) [a] [] ∧ FnScope Ng [a] sg ∧ Ng[0]? = some a ∧ Vis sg a ∧
      (a == ("__debug__" : PySem.Str)) = false ∧ (a == ("__classdict__" : PySem.Str)) = false ∧ ∀ (X : Cx), X.prog = P → X.w = w → X.K = K → X.mg = mg → X.base = base → Gives X Ng x sg g cdv bg a (TErr K cs e0)
theorem v_err0 {t : Tx} {W : WX} {x : PySem.Str} {cs : List (Value × PySem.Str)} {nm : Nat → Option PySem.Str} {e0 : PySem.Str} {fb : F} {c P : Addr} {k : Nat} {params : Arguments} {body : Expr} {scope : Scope} {p lpos pos : Pos} (G : ErrOk X.prog X.w X.K X.mg X.base x cs e0) (tells : Tells t cs nm) (TB : LamX.TabB X.base X.mg c P) (hcode : X.env.code = .ref c)
    (hmT : (P, X.env.qual ++ "<lambda>") ∈ t.T) (hu : ∀ p ∈ t.T, p.1 = P → p.2 = X.env.qual ++ "<lambda>") (hr : Room (k + 2) X.A) (L : LamX.LamS X.env.scope scope)
    (hbody : ∀ (A : Around) (outer : List Env) (s : Shared) (H : Hp) (E : XK) (f c' : Addr), Room k (A.deeper (LamX.lamEnv X scope s.heap.objs.size f c')) → PE (LamX.lamCx X A outer s H E scope f c') body (lift t (fun cls d _ H => E cls d H) fb))
    (hK : X.K = t.K := by rfl) (hg : Gl X x := by rfl) (hdef : defaultsOf params X.env = ([], []) := by rfl) (hbind : ∀ (q : PySem.Str) (cl : List (PySem.Str × Addr)) (pm cv ctv : Value), bindArgs (PySem.W.kla_fn "<lambda>" q params body scope cl pm cv ctv) ⟨[], []⟩ = pure [] := by intros; rfl) (hdb : (x == ("__debug__" : PySem.Str)) = false := by decide) :
    PE X (.Call (.Name x p) [.Lambda params body scope lpos] [] pos) (lift t W (errF nm e0 fb)) := by
  obtain ⟨a, g, pg, bg, sg, dV, kV, doc, pm, cdv, ct, oc, an, od, osl, Ng, h1, h2, h3, h4, h5, h6, h7, h8, h9, h10, h11⟩ := G.ex
  exact (LamX.pe_lamcall (T := t.T) (TT := TErr X.K cs e0) (p := p) (lpos := lpos) (pos := pos) hg h1 h2 h3 h4 h5 h6 h7 h8 (h11 X rfl rfl rfl rfl rfl).to TB hcode hmT hu hr L hdef hbind (fun A outer s H E f c' hr2 => hbody A outer s H E f c' hr2) hdb h9 h10).weak fun σ H Q h => err_read hK tells h
theorem v_err1 {t : Tx} {W : WX} {x a0 : PySem.Str} {d : Int} {dj : Nat} {dpos : Pos} {cs : List (Value × PySem.Str)} {nm : Nat → Option PySem.Str} {e0 : PySem.Str} {fb : F} {c P : Addr} {k : Nat} {params : Arguments} {body : Expr} {scope : Scope} {p lpos pos : Pos} (G : ErrOk X.prog X.w X.K X.mg X.base x cs e0) (tells : Tells t cs nm) (TB : LamX.TabB X.base X.mg c P) (hcode : X.env.code = .ref c)
    (hmT : (P, X.env.qual ++ "<lambda>") ∈ t.T) (hu : ∀ p ∈ t.T, p.1 = P → p.2 = X.env.qual ++ "<lambda>") (hr : Room (k + 2) X.A) (L : LamS1 X.N X.env.scope scope a0)
    (hbody : ∀ (A : Around) (outer : List Env) (s : Shared) (H : Hp) (E : XK) (f c' : Addr), Room k (A.deeper (LamX.lamEnv X scope s.heap.objs.size f c')) → PE (LamX.lamCx X A outer s H E scope f c') body (lift t (fun cls d _ H => E cls d H) fb))
    (hd : params.defaults = [.Constant (.int d) dj dpos] := by rfl) (hk0 : params.kw_defaults = [] := by rfl)
    (hbind : ∀ (q : PySem.Str) (cl : List (PySem.Str × Addr)) (T0 : Addr) (tk0 : Tok) (doc pm cdv ctv : Value), ∃ kk, bindArgs (PySem.W.kdv_fn "<lambda>" q params (.expr body) scope cl (.ref T0) doc pm cdv ctv) ⟨[], []⟩ = seqItems? (.ref T0) >>= kk ∧ kk (some #[.int d tk0]) = pure [(a0, .int d tk0)] := by intros; exact ⟨_, rfl, rfl⟩)
    (hK : X.K = t.K := by rfl) (hg : Gl X x := by rfl) (hdb : (x == ("__debug__" : PySem.Str)) = false := by decide) :
    PE X (.Call (.Name x p) [.Lambda params body scope lpos] [] pos) (lift t W (errF nm e0 fb)) := by
  obtain ⟨a, g, pg, bg, sg, dV, kV, doc, pm, cdv, ct, oc, an, od, osl, Ng, h1, h2, h3, h4, h5, h6, h7, h8, h9, h10, h11⟩ := G.ex
  constructor
  intro pins s σ H Q J h0
  obtain ⟨hT, h⟩ := err_read (W := W) hK tells h0
  refine wpAny_Call_Name_kw (ld_glob J hg h1 ?_ hdb)
  refine PySem.W.callWith_K (h₀ := X.base) J.ok.mod.kin h2 ?_ (by rfl) (by rfl)
  show wpAny _ _ (spliced ((false, eval (.Lambda params body scope lpos) X.env) :: backTo pos (starEach [] X.env))) _ _ s
  refine Calls.spliced_cons (lam_made1 J TB hcode hmT hu hT hd hk0 L fun f c' T0 tk0 doc' pm' ctv H1 s' J1 eN T1 hf hT0 hfn hTn hfr hTr hco => ?_)
  refine Calls.spliced_nil ⟨J1.kIn, ?_⟩
  have rc : codeAny (model X.prog X.w) X.A (.call (.ref g) ⟨[.ref f], []⟩) (CR C8.CX0 X.stack X.prog X.w H1 s' Q C8.E0) s' := by
    refine LamX.run_ofS (N := Ng) (ps := [a]) (us := [.ref f]) (vs := [.ref f]) h3 h4 h6 hr J1.env0 (h5 s' [.ref f] J1.kIn rfl) (.cons rfl .nil) rfl fun hr' => ?_
    obtain ⟨t', ht', hq'⟩ := (h11 X rfl rfl rfl rfl rfl).to (q := X.env.qual ++ "<lambda>") f c' s' H1 Q (fun E H' Q' => lift t (fun cls d _ H => E cls d H) fb σ H' Q')
      (fun W pn xe E p1 p2 tk hW => pe_act1 (i := 0) J1 L hf hT0 hfn hTn hfr hTr (fun cdv => hbind _ _ _ _ _ _ _ _) tk hW hr' (fun A outer s H hr2 => hbody A outer s H E f c' hr2) h7 h8 h9 h10) hco (h H1 eN T1)
    exact ⟨t', ht'.nox, hq'⟩
  refine wpAny_call (codeAny_mono rc fun r s2 hq => ?_)
  cases r with
  | error e => exact (show False from hq).elim
  | ok fl =>
    cases fl with
    | ret u => exact J1.after hq
    | next => exact False.elim hq
    | brk => exact False.elim hq
    | cont => exact False.elim hq
end
end Vai
set_option maxRecDepth 100000
set_option maxHeartbeats 4000000
namespace Vai
open PySem L2 PySem.Spec PyProof.Rows
/-! ### lambdas as values -/
section
variable {X : Cx} {pins : List (Addr × Obj)} {σ : L2.St} {H : Hp} {s : Shared}
/-- dV: no defaults, or the tuple's place -/
theorem tail_val {t : Tx} {c P : Addr} {i : LamI} {pos : Pos} {dV : Value} {E : Value → Shared → Prop} {Q : Value → Shared → Prop} (J2 : Inv X pins σ H s) (TB : LamX.TabB X.base X.mg c P) (hcode : X.env.code = .ref c) (hql : t.ql = X.env.qual ++ "<lambda>") (hce : t.cells = X.env.cells)
    (hm : (P, t.ql) ∈ t.T) (hu : ∀ p ∈ t.T, p.1 = P → p.2 = t.ql) (hT : LamX.Tabs t.T H) (hfree : ∀ y ∈ i.scope.names, y.2 = .free → ∃ c, X.env.cells.lookup y.1 = some c)
    (h : ∀ (f c' : Addr) (H1 : Hp) (s' : Shared), Inv X pins σ (upd H1 f (CloO t f i dV c')) s' → H1 f = none → LamX.ExtN H H1 → LamX.Tabs t.T H1 → H1 c' = some (LamX.CodeO c' t.ql) → Q (.ref f) s') :
    wpAny (model X.prog X.w) X.A (makeTail "<lambda>" (X.env.qual ++ "<lambda>") i.params (.expr i.body) i.scope X.env dV .none none pos pos.line) Q E s := by
  rw [← hql]
  obtain ⟨ps, hP, ht, ha⟩ := hT _ hm
  have bP : s.heap.BuiltinsAt X.mg P := TB.bm.keeps J2.bk
  have hP' : s.heap.get? P = some { cls := .none, data := .fields ps } := J2.hok P _ hP
  cases hc : codeAmong pos ps.toList with
  | none =>
    refine PySem.W.kdv_makeTail (mg := X.mg) (c := c) (P := P) (ps := ps) (closure_ok hfree) J2.ok.glob (J2.mod.glob.keeps J2.bk) hcode (TB.code.keeps J2.bk) hP' ht hc TB.gP bP fun c' ctv doc h' tk hx hge hlt hrec htb => ?_
    obtain ⟨c2, oc, vs, tq, e2, hoc, hdd, hv⟩ := hrec
    cases e2
    have nC : H c' = none := J2.hok.fresh hge
    have J3 := LamX.inv_table (t' := tk) (more := #[rawInt pos.line, rawInt pos.col, .ref c']) (q := t.ql) (h' := h') J2 hP (fun b o hb e => hx b o hb e) htb hge ⟨oc, vs, tq, hoc, hdd, hv⟩
    have hE : LamX.ExtN H (upd (upd H P (.tbl (ps ++ #[rawInt pos.line, rawInt pos.col, .ref c']))) c' (LamX.CodeO c' t.ql)) := fun b o e n => by
      rw [upd_ne (ne_of_none e nC), upd_ne (fun z => n ps (Option.some.inj (e.symm.trans (by rw [z]; exact hP))))]
      exact e
    have eL : (ps ++ #[rawInt pos.line, rawInt pos.col, .ref c']).toList = ps.toList ++ [rawInt pos.line, rawInt pos.col, .ref c'] := by simp
    have J4 := J3.laid (a := h'.objs.size) (t' := tk) (o := CloO t h'.objs.size i dV c') (h' := h'.push (PySem.W.kdv_obj "<lambda>" t.ql i.params (.expr i.body) i.scope (cloFrom t.cells i.scope.names []) dV doc ((X.mg "__name__").getD .none) c' ctv)) (fun b u e => Heap.get?_push_of_some _ e) (Nat.le_refl _)
      ⟨⟨doc, _, ctv, Heap.get?_push_size _ rfl⟩, ⟨_, Heap.get?_push_size _ rfl⟩, fun h1 h2 ⟨x, y, z, e⟩ k => ⟨x, y, z, k _ e⟩⟩
    rw [hce] at J4
    refine h h'.objs.size c' _ _ (by rw [hce] at *; exact J4) (J3.hok.fresh (Nat.le_refl _)) hE (fun p hp => ?_) upd_same
    by_cases hb : p.1 = P
    · rw [hu p hp hb, hb]
      refine ⟨_, by rw [upd_ne (ne_of_none hP nC), upd_same], by rw [eL]; exact PySem.TriplesOk_snoc _ _ _ _ ht, fun p' cv hcv => ?_⟩
      rw [eL] at hcv
      rcases LamX.among_app _ ht hcv with z | z
      · obtain ⟨k0, e1, e2⟩ := ha p' cv z
        exact ⟨k0, e1, hE _ _ e2 LamX.codeO_ne⟩
      · exact ⟨c', z, upd_same⟩
    · obtain ⟨ps', a1, a2, a3⟩ := hT p hp
      refine ⟨ps', by rw [upd_ne (ne_of_none a1 nC), upd_ne hb]; exact a1, a2, fun p' cv hcv => ?_⟩
      obtain ⟨k0, e1, e2⟩ := a3 p' cv hcv
      exact ⟨k0, e1, hE _ _ e2 LamX.codeO_ne⟩
  | some cv =>
    obtain ⟨c', e, hco⟩ := ha pos cv hc
    subst e
    refine PySem.W.kdv_makeTailHit (mg := X.mg) (c := c) (P := P) (ps := ps) (closure_ok hfree) J2.ok.glob (J2.mod.glob.keeps J2.bk) hcode (TB.code.keeps J2.bk) hP' ht hc bP fun ctv doc h' tk hx hsz => ?_
    have J3 : Inv X pins σ H { s with heap := h', toks := tk } := J2.kept fun b o e => hx b o e
    have J4 := J3.laid (a := h'.objs.size) (t' := tk) (o := CloO t h'.objs.size i dV c') (h' := h'.push (PySem.W.kdv_obj "<lambda>" t.ql i.params (.expr i.body) i.scope (cloFrom t.cells i.scope.names []) dV doc ((X.mg "__name__").getD .none) c' ctv)) (fun b u e => Heap.get?_push_of_some _ e) (Nat.le_refl _)
      ⟨⟨doc, _, ctv, Heap.get?_push_size _ rfl⟩, ⟨_, Heap.get?_push_size _ rfl⟩, fun h1 h2 ⟨x, y, z, e⟩ k => ⟨x, y, z, k _ e⟩⟩
    refine h h'.objs.size c' H _ (by rw [hce] at *; exact J4) (J3.hok.fresh (Nat.le_refl _)) (LamX.ExtN.refl H) hT hco
end
def lamF0 (id : Nat) : F := fun _ S => some (.ok (.ref (S.length + 1)) (S ++ [.code] ++ [.clo id S.length none]))
def lamF1 (id : Nat) (d : Int) : F := fun _ S => some (.ok (.ref (S.length + 2)) (S ++ [.tup [.int d]] ++ [.code] ++ [.clo id (S.length + 1) (some S.length)]))
/-- one more of what never changes -/
theorem Rel.more {t : Tx} {r : List Addr} {S : List O} {H : Hp} {p : Addr} {o : O} (R : Rel t r S H) (hs : o.isScr = true) (ho : RO t (r ++ [p]) H p o) : Rel t (r ++ [p]) (S ++ [o]) H := by
  refine ⟨fun l m q a b h1 h2 h3 h4 s1 s2 => ?_, by rw [List.length_append, List.length_append, R.len]; rfl, fun l q a h1 h2 => ?_, R.tb⟩
  · have old : ∀ (n : Nat) (b : O), (S ++ [o])[n]? = some b → b.isScr = false → S[n]? = some b := fun n b h s => by
      rcases get_snoc h with h | ⟨_, e⟩
      · exact h
      · rw [e, hs] at s
        cases s
    have oldr : ∀ (n : Nat) (q : Addr) (b : O), (r ++ [p])[n]? = some q → S[n]? = some b → r[n]? = some q := fun n q b h k => by
      rcases get_snoc h with h | ⟨e, _⟩
      · exact h
      · have := (List.getElem?_eq_some_iff.mp k).1
        rw [← R.len] at this
        omega
    have k3 := old l a h3 s1
    have k4 := old m b h4 s2
    exact R.inj l m q a b (oldr l q a h1 k3) (oldr m q b h2 k4) k3 k4 s1 s2
  · rcases get_snoc h1 with h1 | ⟨h1, e1⟩
    · rcases get_snoc h2 with h2 | ⟨h2, _⟩
      · exact (R.ob l q a h1 h2).ext (Ext.snoc r p)
      · have := (List.getElem?_eq_some_iff.mp h1).1
        rw [R.len] at this
        omega
    · rcases get_snoc h2 with h2 | ⟨h2, e2⟩
      · have := (List.getElem?_eq_some_iff.mp h2).1
        rw [← R.len] at this
        omega
      · rw [e1, e2]
        exact ho
section
variable {X : Cx} {t : Tx} {W : WX}
theorem v_lam1 {id : Nat} {d : Int} {dj : Nat} {dpos pos : Pos} {c P : Addr} {a0 : PySem.Str} {params : Arguments} {body : Expr} {scope : Scope} (hid : t.lam id = ⟨params, body, scope⟩) (TB : LamX.TabB X.base X.mg c P) (hcode : X.env.code = .ref c) (hql : t.ql = X.env.qual ++ "<lambda>") (hce : t.cells = X.env.cells)
    (hm : (P, t.ql) ∈ t.T) (hu : ∀ p ∈ t.T, p.1 = P → p.2 = t.ql) (L : LamS1 X.N X.env.scope scope a0) (hd : params.defaults = [.Constant (.int d) dj dpos] := by rfl) (hk0 : params.kw_defaults = [] := by rfl) : PE X (.Lambda params body scope pos) (lift t W (lamF1 id d)) := by
  constructor
  intro pins s σ H Q J hq
  obtain ⟨r, sa, S, x, R, rs, e, p⟩ := hq
  cases e
  refine PySem.W.kdv_lam (by rw [hd]; rfl) hk0 ?_
  rw [hd]
  refine PySem.W.kdv_all1 (wpAny_Constant_int (PySem.W.kdv_all0 ?_))
  rw [makeFunction_eq]
  simp only [List.zip_nil_right, List.filterMap_nil, List.isEmpty_nil, if_true, pure_bind, List.isEmpty_cons, Bool.false_eq_true, if_false]
  refine wpAny_bind (wpAny_newTextTuple ?_)
  have J1 : Inv X pins σ H { s with toks := s.toks + 1 } := J.tok _
  have nT0 : H s.heap.objs.size = none := J.hok.fresh (Nat.le_refl _)
  have J2 := J1.laid (a := s.heap.objs.size) (t' := s.toks + 1) (o := .tup [.int d]) (h' := s.heap.push (PySem.W.kdv_tup [.int d s.toks])) (fun b u z => Heap.get?_push_of_some _ z) (Nat.le_refl _) ⟨by show 1 ≤ sizeLine; rw [sizeLine_eq]; omega, [.int d s.toks], .cons ⟨_, rfl⟩ .nil, ⟨_, Heap.get?_push_size _ rfl, rfl, _, rfl⟩⟩
  have R2 : Rel t (r ++ [s.heap.objs.size]) (S ++ [.tup [.int d]]) (upd H s.heap.objs.size (.tup [.int d])) := R.new nT0 ⟨[.int d], .inl upd_same, .cons rfl .nil⟩
  have hi : t.lam id = ⟨params, body, scope⟩ := hid
  refine tail_val (t := t) (i := ⟨params, body, scope⟩) J2 TB hcode hql hce hm hu R2.tb (L.has J.ok) fun f c' H1 s' J3 nf eN T1 hco => ?_
  have R3 := R2.extN eN T1
  have R4 : Rel t (r ++ [s.heap.objs.size] ++ [c']) (S ++ [.tup [.int d]] ++ [.code]) H1 := R3.more rfl hco
  have g1 : (r ++ [s.heap.objs.size] ++ [c'] ++ [f])[S.length + 1]? = some c' := by
    have := get_snoc_new (r ++ [s.heap.objs.size]) c'
    rw [List.length_append, R.len] at this
    rw [List.getElem?_append_left (by simp [R.len])]
    exact this
  have g0 : (r ++ [s.heap.objs.size] ++ [c'] ++ [f])[S.length]? = some s.heap.objs.size := by
    rw [List.append_assoc, List.append_assoc, List.getElem?_append_right (by rw [R.len]; exact Nat.le_refl _), R.len, Nat.sub_self]
    rfl
  have R5 : Rel t (r ++ [s.heap.objs.size] ++ [c'] ++ [f]) (S ++ [.tup [.int d]] ++ [.code] ++ [.clo id (S.length + 1) (some S.length)]) (upd H1 f (CloO t f ⟨params, body, scope⟩ (.ref s.heap.objs.size) c')) :=
    R4.new nf ⟨c', .ref s.heap.objs.size, g1, ⟨_, g0, rfl⟩, by rw [hi]; exact upd_same⟩
  have g2 : (r ++ [s.heap.objs.size] ++ [c'] ++ [f])[S.length + 2]? = some f := by
    have := get_snoc_new (r ++ [s.heap.objs.size] ++ [c']) f
    rw [List.length_append, List.length_append, R.len] at this
    exact this
  exact ⟨.ref f, _, J3, rfl, p _ _ _ (((Ext.snoc r _).trans (Ext.snoc _ c')).trans (Ext.snoc _ f)) R5 ⟨f, g2, rfl⟩⟩
theorem v_lam0 {id : Nat} {pos : Pos} {c P : Addr} {params : Arguments} {body : Expr} {scope : Scope} (hid : t.lam id = ⟨params, body, scope⟩) (TB : LamX.TabB X.base X.mg c P) (hcode : X.env.code = .ref c) (hql : t.ql = X.env.qual ++ "<lambda>") (hce : t.cells = X.env.cells)
    (hm : (P, t.ql) ∈ t.T) (hu : ∀ p ∈ t.T, p.1 = P → p.2 = t.ql) (L : LamX.LamS X.env.scope scope) (hd : params.defaults = [] := by rfl) (hk0 : params.kw_defaults = [] := by rfl) : PE X (.Lambda params body scope pos) (lift t W (lamF0 id)) := by
  constructor
  intro pins s σ H Q J hq
  obtain ⟨r, sa, S, x, R, rs, e, p⟩ := hq
  cases e
  have hdef : defaultsOf params X.env = ([], []) := by
    rw [defaultsOf_eq, hd, hk0]
    rfl
  refine PySem.W.kla_eval hdef ?_
  rw [makeFunction_eq]
  simp only [List.zip_nil_right, List.filterMap_nil, List.isEmpty_nil, if_true, pure_bind]
  refine tail_val (t := t) (i := ⟨params, body, scope⟩) J TB hcode hql hce hm hu R.tb (L.has J.ok) fun f c' H1 s' J3 nf eN T1 hco => ?_
  have R3 := R.extN eN T1
  have R4 : Rel t (r ++ [c']) (S ++ [.code]) H1 := R3.more rfl hco
  have g1 : (r ++ [c'] ++ [f])[S.length]? = some c' := by
    have := get_snoc_new r c'
    rw [R.len] at this
    rw [List.getElem?_append_left (by simp [R.len])]
    exact this
  have R5 : Rel t (r ++ [c'] ++ [f]) (S ++ [.code] ++ [.clo id S.length none]) (upd H1 f (CloO t f ⟨params, body, scope⟩ .none c')) :=
    R4.new nf ⟨c', .none, g1, rfl, by rw [hid]; exact upd_same⟩
  have g2 : (r ++ [c'] ++ [f])[S.length + 1]? = some f := by
    have := get_snoc_new (r ++ [c']) f
    rw [List.length_append, R.len] at this
    exact this
  exact ⟨.ref f, _, J3, rfl, p _ _ _ ((Ext.snoc r c').trans (Ext.snoc _ f)) R5 ⟨f, g2, rfl⟩⟩
end
end Vai
set_option maxRecDepth 100000
set_option maxHeartbeats 4000000
namespace Vai
open PySem L2 PySem.Spec PyProof.Rows
/-! ### a list comprehension whose tests know of the def around it -/
section
variable {X : Cx}
theorem pe_lcJ {elt tg iter : Expr} {ifs : List Expr} {scope : Scope} {own : List (PySem.Str × Nat)} {pos : Pos} {wi : TI} {g : TG} {tt : TT} {te : TE} (hc : X.calm = true) (hN : X.N.Nodup) (hi : PI X tg iter wi) (ok : BlkOk X.N X.env.scope scope own)
    (hg : ∀ (s : Shared) (H : Hp) (C : Addr) (cl : List (PySem.Str × Addr)) (fp : List Addr), PG (X.blk s H scope (compEnvC scope cl C X.env) fp) tg g) (ht : ∀ (pins : List (Addr × Obj)) (σ : L2.St) (s : Shared) (H : Hp) (C : Addr) (cl : List (PySem.Str × Addr)) (fp : List Addr), Inv X pins σ H s → (∀ b ∈ fp, FpOk X pins H b ∧ b < s.heap.objs.size) → PTs (X.blk s H scope (compEnvC scope cl C X.env) fp) ifs (fun σ2 H2 Q2 => wipe σ2 (own.map (·.2)) = wipe σ (own.map (·.2)) ∧ tt σ2 H2 Q2))
    (he : ∀ (s : Shared) (H : Hp) (C : Addr) (cl : List (PySem.Str × Addr)) (fp : List Addr), PE (X.blk s H scope (compEnvC scope cl C X.env) fp) elt te) (hs : ∀ x, foldedSetIterable iter X.env x = pure x := by intro _; rfl) :
    PE X (.ListComp elt [⟨tg, iter, ifs, 0⟩] scope pos) (tLc wi g tt te (own.map (·.2))) := by
  constructor
  intro pins s σ H Q J0 hq0
  rw [eval_ListComp]
  have captured : ∀ y ∈ scope.names, y.2 = .free → ∃ c, X.env.cells.lookup y.1 = some c := fun y hy e => (ok.free y hy e).elim (fun k => J0.ok.has _ (.inl k)) (fun k => J0.ok.has _ (.inr k))
  refine wpAny_comprehension_free (use := none) rfl hs (closure_ok captured) ok.kind (fun y hy e => by rw [ok.uniq y hy, e]) (thn (hi.run pins s σ H _ J0 hq0) fun _ s1 hx => thn hx fun _ s2 h2 => ?_)
  obtain ⟨it, fp, tn, J, H2, e, I2, T, st2, f2, q⟩ := h2
  subst e
  refine wpAny_newObj_type (newEnv_comp ?_) (by show 0 ≤ sizeLine; decide)
  generalize hD : s2.heap.objs.size = D
  have freeD : H2 D = none := I2.hok.fresh (Nat.le_of_eq hD)
  obtain ⟨W, ⟨m0, w0⟩, turn⟩ := q D freeD
  generalize hs3 : ({ s2 with heap := s2.heap.push { cls := .type "list", data := .seq ([] : List Value).toArray } } : Shared) = s3
  have I3 : Inv X pins σ (upd H2 D (.lst [])) s3 := by
    subst hs3
    refine I2.laid (t' := s2.toks) (fun b o z => Heap.get?_push_of_some _ z) (Nat.le_of_eq hD) ⟨Nat.zero_le _, [], 0, .nil, ?_⟩
    subst hD
    exact Heap.get?_push_size _ rfl
  have h3 : s3.heap = s2.heap.push { cls := .type "list", data := .seq ([] : List Value).toArray } := by subst hs3; rfl
  have below : ∀ b ∈ fp, b < s2.heap.objs.size := fun b hb => by
    obtain ⟨_, z, _⟩ := T.obj _ _ st2 b hb
    exact Heap.lt_size z
  have f3 : ∀ b ∈ fp, FpOk X pins (upd H2 D (.lst [])) b ∧ b < s3.heap.objs.size := fun b hb => by
    have lt := below b hb
    have nD : b ≠ D := by subst hD; exact Nat.ne_of_lt lt
    exact ⟨⟨by rw [upd_ne nD]; exact (f2 b hb).1, (f2 b hb).2⟩, by rw [h3, Heap.size_push]; exact Nat.lt_succ_of_lt lt⟩
  have st3 : tn 0 s3.heap := T.keep _ _ _ st2 fun b _ o z => by rw [h3]; exact Heap.get?_push_of_some _ z
  have I4 := block_start I3 ok hN f3
  have pg := hg s3 (upd H2 D (.lst [])) s3.heap.objs.size (cellsFrom (s3.heap.objs.size + 1) scope.names (cloFrom X.env.cells scope.names [])) fp
  have pt := ht pins σ s3 (upd H2 D (.lst [])) s3.heap.objs.size (cellsFrom (s3.heap.objs.size + 1) scope.names (cloFrom X.env.cells scope.names [])) fp I3 f3
  have pe := he s3 (upd H2 D (.lst [])) s3.heap.objs.size (cellsFrom (s3.heap.objs.size + 1) scope.names (cloFrom X.env.cells scope.names [])) fp
  have none3 : ∀ b ∈ fp, (upd H2 D (.lst [])) b = none := fun b hb => (f3 b hb).1.1
  show codeAny _ _ (.compStart (.ListComp elt [⟨tg, iter, ifs, 0⟩] scope pos) 0 (.ref it) (.ref D) (compEnvC scope (cellsFrom (s3.heap.objs.size + 1) scope.names (cloFrom X.env.cells scope.names [])) s3.heap.objs.size X.env)) (compPost (model X.prog X.w) X.A X.xe none (EP X pins σ Q) (.ref D) s3.heap.objs.size) { s3 with heap := pushCells (s3.heap.push { cls := .type "dict", data := .dict #[] }) scope.names }
  generalize hce : compEnvC scope (cellsFrom (s3.heap.objs.size + 1) scope.names (cloFrom X.env.cells scope.names [])) s3.heap.objs.size X.env = ce at I4 pg pt pe ⊢
  have cL : ce.locals = s3.heap.objs.size := by subst hce; rfl
  generalize hH3 : upd H2 D (.lst []) = H3 at I3 I4 pg pt pe w0 none3 f3
  generalize hs4 : ({ s3 with heap := pushCells (s3.heap.push { cls := .type "dict", data := .dict #[] }) scope.names } : Shared) = s4 at I4 ⊢
  have st4 : tn 0 s4.heap := T.keep _ _ _ st3 fun b _ o z => by subst hs4; exact pushCells_keeps _ _ _ _ (Heap.get?_push_of_some _ z)
  have still : ∀ {τ : L2.St} {G : Hp} {v : Shared}, Inv (X.blk s3 H3 scope ce fp) [] τ G v → (∀ b ∈ fp, G b = none) → ∀ b ∈ fp, FpOk (X.blk s3 H3 scope ce fp) [] G b := fun {τ G v} I' hn b hb =>
    ⟨hn b hb, (I'.ok.exf b hb).1, I'.ok.exfs b hb, .inl hb, fun x c z => (I'.ok.exf b hb).2 x c z, fun p hp => absurd (show p ∈ ([] : List (Addr × Obj)) ++ [] from hp) (by simp)⟩
  have loop : codeAny (model X.prog X.w) X.A (.compLoop (.ListComp elt [⟨tg, iter, ifs, 0⟩] scope pos) 0 (.ref it) (.ref D) ce) (compPost (model X.prog X.w) X.A X.xe none (EP X pins σ Q) (.ref D) s3.heap.objs.size) s4 := by
    refine compLoop_any (fun n v => ∃ i G, Inv (X.blk s3 H3 scope ce fp) [] (wipe σ (own.map (·.2))) G v ∧ tn i v.heap ∧ (∀ b ∈ fp, G b = none) ∧ W i n G) ?_ m0 ⟨0, H3, I4, st4, none3, w0⟩
    rintro n s5 ⟨i, H5, I5, st5, n5, w5⟩
    rcases turn i n H5 w5 with ⟨stop, qq⟩ | ⟨go, Nx, hNx, step⟩
    · refine thnF (T.done (X.blk s3 H3 scope ce fp) rfl rfl rfl hc i [] s5 _ H5 (fun _ _ => False) I5 (still I5 n5) st5 stop) fun r s6 ⟨hr, I6⟩ => ?_
      subst hr
      have I7 : Inv X pins σ H5 s6 := I3.call' (ch := fp) I6.os I6.base I6.hok I6.bare fun b hb => ⟨(f3 b hb).1.2.2.2.1, (f3 b hb).1.2.1, (f3 b hb).1.2.2.2.2.1, (f3 b hb).1.2.2.2.2.2⟩
      have nC : H5 s3.heap.objs.size = none := by
        have z : H5 ce.locals = none := I6.free
        rwa [cL] at z
      obtain ⟨m, hn, _⟩ := I6.loc
      have hn : s6.heap.Ns ce.locals m := hn
      rw [cL] at hn
      refine ⟨m, hn, fun h'' sb => ?_⟩
      obtain ⟨x0, x1, x2, x3, x4, x5⟩ := I3.fpOk (Nat.le_refl _) nC
      exact ⟨.ref D, H5, I7.turned (t' := s6.toks) (fun b o hb z => (sb.2 b hb).trans z) x0 x1 x3 x4 x5, rfl, qq⟩
    · refine thnF (T.item (X.blk s3 H3 scope ce fp) rfl rfl rfl hc i [] s5 _ H5 (fun _ _ => False) I5 (still I5 n5) st5 go) fun r s6 ⟨u, hr, h6⟩ => ?_
      subst hr
      refine thnF h6 fun _ s7 ⟨x, H7, I7, r7, y7, st7, n7⟩ => ?_
      refine thnF (pg.run _ s7 _ H7 x u _ (I7.pinned (still I7 n7) (T.obj _ _ st7)) r7 (step x H7 y7)) fun _ s8 ⟨σ8, H8, I8, hw8, q8⟩ => ?_
      refine thnF (pt.run _ s8 σ8 H8 _ I8 ⟨hw8, q8⟩) fun b s9 ⟨H9, I9, q9⟩ => ?_
      have fin : ∀ {v : Shared} {G : Hp}, Inv (X.blk s3 H3 scope ce fp) ([] ++ pinsAt fp s7.heap) σ8 G v → Nx G → ∃ m, m < n ∧ ∃ i H', Inv (X.blk s3 H3 scope ce fp) [] (wipe σ (own.map (·.2))) H' v ∧ tn i v.heap ∧ (∀ b ∈ fp, H' b = none) ∧ W i m H' := fun {v G} I' nx => by
        obtain ⟨m', hm, w'⟩ := hNx G nx
        have pinned : ∀ b ∈ fp, ∀ o, s7.heap.get? b = some o → v.heap.get? b = some o ∧ G b = none := fun b hb o z =>
          ⟨(I'.pin (b, o) (List.mem_append_right _ (List.mem_append_right _ (mem_pinsAt hb z)))).1, (I'.pin (b, o) (List.mem_append_right _ (List.mem_append_right _ (mem_pinsAt hb z)))).2.1⟩
        refine ⟨m', hm, i + 1, G, (I'.unpinned (pins := [])).weak (by rw [← hw8, wipe_length]) (fun j y z => ?_), T.keep _ _ _ st7 fun b hb o z => (pinned b hb o z).1, fun b hb => ?_, w'⟩
        · rw [← hw8] at z
          exact (wipe_some z).1
        · obtain ⟨o, z, _⟩ := T.obj _ _ st7 b hb
          exact (pinned b hb o z).2
      cases b with
      | false =>
        simp only [Bool.false_eq_true, if_false] at q9 ⊢
        exact fin I9 q9
      | true =>
        simp only [if_true] at q9 ⊢
        refine thnF (pe.run _ s9 σ8 H9 _ I9 q9) fun z s10 ⟨yv, H10, I10, r10, acc, hD10, few, nx⟩ => ?_
        exact app_ok (X := X.blk s3 H3 scope ce fp) I10 hD10 few r10 fun s11 I11 => fin I11 nx
  exact codeAny_compStart_list loop (T.self X.A 0 _ _ _ st4 loop)
/-! ### a lambda of the store, called -/
/-- how a lambda binds: without a default, or with one int -/
structure LamK (X : Cx) (i : LamI) (d : Bool) : Prop where
  co : i.scope.isCoroutine = false
  gen : i.scope.isGenerator = false
  kind : i.scope.kind = .function
  noCell : ∀ y ∈ i.scope.names, y.2 ≠ .cell
  free : ∀ y ∈ i.scope.names, y.2 = .free → X.env.scope.names.lookup y.1 = some .cell ∨ X.env.scope.names.lookup y.1 = some .free
  b0 : d = false → LamX.LamS X.env.scope i.scope ∧ ∀ (q : PySem.Str) (cl : List (PySem.Str × Addr)) (doc pm cdv ctv : Value), bindArgs (PySem.W.kdv_fn "<lambda>" q i.params (.expr i.body) i.scope cl .none doc pm cdv ctv) ⟨[], []⟩ = pure []
  b1 : d = true → ∃ a0, LamS1 X.N X.env.scope i.scope a0 ∧ ∀ (q : PySem.Str) (cl : List (PySem.Str × Addr)) (T0 : Addr) (n : Int) (tk0 : Tok) (doc pm cdv ctv : Value), ∃ kk, bindArgs (PySem.W.kdv_fn "<lambda>" q i.params (.expr i.body) i.scope cl (.ref T0) doc pm cdv ctv) ⟨[], []⟩ = seqItems? (.ref T0) >>= kk ∧ kk (some #[.int n tk0]) = pure [(a0, .int n tk0)]
def CyO (t : Tx) (f c' : Addr) (i : LamI) (d : Bool) (dV : Value) : Hp → Prop := fun HZ => HZ f = some (CloO t f i dV c') ∧ HZ c' = some (LamX.CodeO c' t.ql) ∧ (d = false → dV = .none) ∧ (d = true → ∃ (T0 : Addr) (n : Int), dV = .ref T0 ∧ Rd HZ T0 (.tup [.int n]))
theorem pe_actC {CXg : CXT} {Eg : XK} {Ng : List PySem.Str} {qg : PySem.Str} {sg : Scope} {g f c' : Addr} {cdg dV : Value} {t : Tx} {i : LamI} {d : Bool} {k z : Nat} {a : PySem.Str} {pn : List (Addr × Obj)} {xe : Value → Shared → Prop} {W : WX} {E : XK} {tb : TE} {p1 p2 : Pos} {pins : List (Addr × Obj)} {σ : L2.St} {H : Hp} {s : Shared}
    (J : Inv X pins σ H s) (L : LamK X i d) (hql : t.ql = X.env.qual ++ "<lambda>") (hce : t.cells = X.env.cells)
    (tk : Takes ((cxOf CXg X.prog X.w X.K X.mg X.base Ng qg sg g cdg X.A X.stack s H Eg).tr pn xe) W) (hW : ∀ cls d σ' H', E cls d H' → W cls d σ' H') (hr : Room (k + 1) (X.A.deeper (envOfC qg sg s.heap.objs.size g cdg)))
    (hbody : ∀ (A : Around) (outer : List Env) (s : Shared) (H : Hp), Room k (A.deeper (LamX.lamEnv X i.scope s.heap.objs.size f c')) → PE (LamX.lamCx X A outer s H E i.scope f c') i.body tb)
    (hN : Ng[z]? = some a) (hv : Vis sg a) (hd : (a == ("__debug__" : PySem.Str)) = false := by decide) (hcd : (a == ("__classdict__" : PySem.Str)) = false := by decide) :
    PE ((cxOf CXg X.prog X.w X.K X.mg X.base Ng qg sg g cdg X.A X.stack s H Eg).tr pn xe) (.Call (.Name a p1) [] [] p2)
      (fun σZ HZ Q => σZ[z]? = some (some (.ref f)) ∧ CyO t f c' i d dV HZ ∧ tb σ HZ Q) := by
  constructor
  intro pinsZ sZ σZ HZ Q IZ ⟨hs, ⟨hclo, hc, hd0, hd1⟩, ht⟩
  refine wpAny_Call_Name_kw (thn ((pe_var (pos := p1) (i := z) hN hv hd hcd).run pinsZ sZ σZ HZ (fun v H1 => v = .ref f ∧ H1 = HZ) IZ ⟨.ref f, hs, rfl, rfl⟩) fun u s1 ⟨v, H1, J1, r1, ev, eH⟩ => ?_)
  subst ev
  rw [eH] at J1
  obtain rfl : u = Value.ref f := r1
  obtain ⟨⟨doc, pm, ctv, of1⟩, _, _⟩ := J1.hok f _ hclo
  rw [hql, hce] at of1
  refine PySem.W.callWith_F0 ⟨_, _, _, _, of1⟩ ?_
  rw [hql] at hc
  obtain ⟨⟨oc, vs, tq, hoc, hdc, hvc⟩, _, _⟩ := J1.hok c' _ hc
  have rc : codeAny (model X.prog X.w) (X.A.deeper (envOfC qg sg s.heap.objs.size g cdg)) (.call (.ref f) ⟨[], []⟩) (CR (L2.CX X.prog X.w) (envOfC qg sg s.heap.objs.size g cdg :: X.stack) X.prog X.w HZ s1 Q E) s1 := by
    have go : ∀ (bs : List (PySem.Str × Value)), BindsTo s1 (PySem.W.kdv_fn "<lambda>" (X.env.qual ++ "<lambda>") i.params (.expr i.body) i.scope (cloFrom X.env.cells i.scope.names []) dV doc pm (.ref c') ctv) ⟨[], []⟩ bs → (∀ y ∈ bs, i.scope.names.lookup y.1 = some .local) →
        (∀ h1 : Heap, (∀ b o, s1.heap.get? b = some o → h1.get? b = some o) → h1.Ns s1.heap.objs.size (fun y => bs.reverse.lookup y) → Inv (LamX.lamCx X (X.A.deeper (envOfC qg sg s.heap.objs.size g cdg)) (envOfC qg sg s.heap.objs.size g cdg :: X.stack) s1 HZ E i.scope f c') [] σ HZ { s1 with heap := h1, toks := s1.toks + bs.length }) →
        codeAny (model X.prog X.w) (X.A.deeper (envOfC qg sg s.heap.objs.size g cdg)) (.call (.ref f) ⟨[], []⟩) (CR (L2.CX X.prog X.w) (envOfC qg sg s.heap.objs.size g cdg :: X.stack) X.prog X.w HZ s1 Q E) s1 := fun bs bt hl st => by
      refine PySem.W.kla_callFunE hr.depth of1 rfl L.co L.gen rfl ⟨c', oc, vs, tq, rfl, hoc, hdc, hvc⟩ (bt _ _ _ _ ?_)
      refine wpAny_newFunctionEnv (fun y hy => L.noCell y hy) hl (fun h1 hns hsb => ⟨J1.nolimit.fresh _ hsb, ?_⟩) L.kind
      show codeAny _ _ (.expr i.body (LamX.lamEnv X i.scope s1.heap.objs.size f c')) _ _
      have kp : ∀ b o, s1.heap.get? b = some o → h1.get? b = some o := fun b o e => hsb.extBut b o (Nat.ne_of_lt (Heap.lt_size e)) (Heap.get?_push_of_some _ e)
      refine PySem.W.kla_codeExpr (wpAny_mono ((hbody _ _ s1 HZ (hr.deeper _)).run [] _ _ HZ Q (st h1 kp hns) ht) (fun v s' ⟨w', H', J3, rv, q⟩ => ?_) fun e s' hq => hq)
      exact ⟨w', H', J3.os, J3.bare, J3.base, J3.hok, rv, q⟩
    cases d with
    | false =>
      obtain ⟨L0, hb⟩ := L.b0 rfl
      cases hd0 rfl
      exact go [] (.of_eq (hb _ _ _ _ _ _)) (fun y hy => absurd hy (by simp)) fun h1 kp hns => LamX.lam_start2 J L0 J1.env0 hr.hd J1.base hns kp
    | true =>
      obtain ⟨a0, L1, hb⟩ := L.b1 rfl
      obtain ⟨T0, n, e, hT⟩ := hd1 rfl
      cases e
      obtain ⟨_, its, rv, oT, h1, h2, m, h3⟩ := hT.ok J1.hok
      cases rv with
      | cons r0 rr =>
        cases rr
        obtain ⟨tk0, rfl⟩ := r0
        obtain ⟨kk, b1, b2⟩ := hb (X.env.qual ++ "<lambda>") (cloFrom X.env.cells i.scope.names []) T0 n tk0 doc pm (.ref c') ctv
        refine go [(a0, .int n tk0)] (.of_defaults rfl h1 h3 b1 b2) (fun y hy => ?_) fun h1 kp hns => lam_begin1 J L1 J1.env0 hr.hd J1.base hns kp
        rw [List.mem_singleton.mp hy]
        exact L1.a0loc
  have hx : Passes (L2.CX X.prog X.w) ((cxOf CXg X.prog X.w X.K X.mg X.base Ng qg sg g cdg X.A X.stack s H Eg).tr pn xe) E := passes_call tk hW
  refine wpAny_call (codeAny_mono rc fun r s' hq => ?_)
  cases r with
  | error e => exact hx pinsZ σZ HZ s1 e s' J1 hq
  | ok fl =>
    cases fl with
    | ret u => exact J1.after hq
    | next => exact False.elim hq
    | brk => exact False.elim hq
    | cont => exact False.elim hq
theorem pr_of_get {α β : Type} {F : α → β → Prop} : ∀ {xs : List α} {ys : List β}, xs.length = ys.length → (∀ (i : Nat) (x : α) (y : β), xs[i]? = some x → ys[i]? = some y → F x y) → Paired F xs ys
  | [], [], _, _ => .nil
  | x :: xs, y :: ys, hl, h => .cons (h 0 x y rfl rfl) (pr_of_get (Nat.succ.inj hl) fun i a b p q => h (i + 1) a b p q)
theorem RS.unwipe {r : List Addr} {sa : Sa} {σ : L2.St} {vs : List Nat} (h : RS r sa (L2.wipe σ vs)) : RS r sa σ := by
  have hl := pr_len h
  rw [wipe_length] at hl
  refine pr_of_get hl fun i a v h1 h2 x e => ?_
  subst e
  obtain ⟨w, g1, g2⟩ := RS.get h h1
  have g3 := (wipe_some g1).1
  rw [h2] at g3
  exact ⟨w, Option.some.inj g3, g2⟩
/-- a lambda of the store, handed to the teller of errors -/
def errcF (nm : Nat → Option PySem.Str) (e0 : PySem.Str) (ks : Nat → Option (Bool × F)) (j : Nat) (vs : List Nat) : F := fun sa S => match sa[j]? with
  | some (some (.ref l)) => (match S[l]? with
    | some (.clo id ci none) => (match ks id, S[ci]? with
      | some (false, fb), some .code => errF nm e0 fb (wipeA sa vs) S
      | _, _ => none)
    | some (.clo id ci (some di)) => (match ks id, S[ci]?, S[di]? with
      | some (true, fb), some .code, some (.tup [.int _]) => errF nm e0 fb (wipeA sa vs) S
      | _, _, _ => none)
    | _ => none)
  | _ => none
def LamsOk (X : Cx) (t : Tx) (k : Nat) (ks : Nat → Option (Bool × F)) : Prop := ∀ id d fb, ks id = some (d, fb) → LamK X (t.lam id) d ∧ ∀ (A : Around) (outer : List Env) (s : Shared) (H : Hp) (E : XK) (f c' : Addr), Room k (A.deeper (LamX.lamEnv X (t.lam id).scope s.heap.objs.size f c')) →
  PE (LamX.lamCx X A outer s H E (t.lam id).scope f c') (t.lam id).body (lift t (fun cls d _ H => E cls d H) fb)
/-- what errcF found -/
theorem errc_found {t : Tx} {nm : Nat → Option PySem.Str} {e0 : PySem.Str} {ks : Nat → Option (Bool × F)} {j : Nat} {vs : List Nat} {sa : Sa} {S : List O} {x : R} {r : List Addr} {H : Hp} (R1 : Rel t r S H) (e : errcF nm e0 ks j vs sa S = some x) :
    ∃ l f id d fb dV c', sa[j]? = some (some (.ref l)) ∧ r[l]? = some f ∧ ks id = some (d, fb) ∧ CyO t f c' (t.lam id) d dV H ∧ errF nm e0 fb (wipeA sa vs) S = some x := by
  have at_ : ∀ {l : Nat} {o : O}, S[l]? = some o → ∃ p, r[l]? = some p ∧ RO t r H p o := fun {l o} h => by
    have hl : l < r.length := by rw [R1.len]; exact (List.getElem?_eq_some_iff.mp h).1
    exact ⟨r[l], List.getElem?_eq_getElem hl, R1.ob l _ o (List.getElem?_eq_getElem hl) h⟩
  unfold errcF at e
  split at e
  · rename_i l hl
    split at e
    · rename_i id ci hS
      split at e
      · rename_i fb hk hc
        obtain ⟨f, gf, c', dV, h1, h2, h3⟩ := at_ hS
        obtain ⟨c2, g2, h4⟩ := at_ hc
        rw [h1] at g2
        cases g2
        exact ⟨l, f, id, false, fb, dV, c', hl, gf, hk, ⟨h3, h4, fun _ => h2, fun z => by cases z⟩, e⟩
      · cases e
    · rename_i id ci di hS
      split at e
      · rename_i fb n hk hc hd
        obtain ⟨f, gf, c', dV, h1, ⟨T0, h2, h5⟩, h3⟩ := at_ hS
        obtain ⟨c2, g2, h4⟩ := at_ hc
        obtain ⟨T2, g3, us, h6, h7⟩ := at_ hd
        rw [h1] at g2
        cases g2
        rw [h2] at g3
        cases g3
        cases h7 with
        | cons a b =>
          cases b
          cases a
          exact ⟨l, f, id, true, fb, dV, c', hl, gf, hk, ⟨h3, h4, fun z => by (cases z), fun _ => ⟨T0, n, h5, tupRd h6⟩⟩, e⟩
      · cases e
    · cases e
  · cases e
theorem v_errc {t : Tx} {W : WX} {x y : PySem.Str} {cs : List (Value × PySem.Str)} {nm : Nat → Option PySem.Str} {e0 : PySem.Str} {ks : Nat → Option (Bool × F)} {j k : Nat} {vs : List Nat} {p py pos : Pos} {pins : List (Addr × Obj)} {σ : L2.St} {H0 : Hp} {s0 : Shared} {scope : Scope} {cenv : Env} {fp : List Addr}
    (G : ErrOk X.prog X.w X.K X.mg X.base x cs e0) (tells : Tells t cs nm) (hql : t.ql = X.env.qual ++ "<lambda>") (hce : t.cells = X.env.cells) (hr : Room (k + 2) X.A) (LO : LamsOk X t k ks) (I3 : Inv X pins σ H0 s0) (f3 : ∀ b ∈ fp, FpOk X pins H0 b ∧ b < s0.heap.objs.size)
    (hN : X.N[j]? = some y) (hv : Vis cenv.scope y) (hK : X.K = t.K) (hg : Gl (X.blk s0 H0 scope cenv fp) x) (hst : ∀ env : Env, starEach [.Name y py] env = [(false, eval (.Name y py) env)]) (hdb : (x == ("__debug__" : PySem.Str)) = false := by decide) (hyd : (y == ("__debug__" : PySem.Str)) = false := by decide) (hyc : (y == ("__classdict__" : PySem.Str)) = false := by decide) :
    PE (X.blk s0 H0 scope cenv fp) (.Call (.Name x p) [.Name y py] [] pos) (fun σ2 H2 Q2 => wipe σ2 vs = wipe σ vs ∧ lift t W (errcF nm e0 ks j vs) σ2 H2 Q2) := by
  obtain ⟨a, g, pg, bg, sg, dV0, kV, doc0, pm0, cdv, ct, oc, an, od, osl, Ng, h1, h2, h3, h4, h5, h6, h7, h8, h9, h10, h11⟩ := G.ex
  constructor
  intro pins' s σ2 H Q J' ⟨hw, r, sa, S, xx, RR, rs, e, post⟩
  obtain ⟨l, f, id, d, fb, dV, c', hj, hf, hk, cy, e2⟩ := errc_found RR e
  obtain ⟨LK, hbody⟩ := LO id d fb hk
  obtain ⟨v, hv1, hv2⟩ := rs.get hj
  obtain ⟨f2, hf2, rfl⟩ := hv2
  rw [hf] at hf2
  cases hf2
  have back : ∀ {H : Hp} {s : Shared}, Inv (X.blk s0 H0 scope cenv fp) pins' σ2 H s → Inv X pins σ H s := fun {H s} I => I3.call' (ch := fp) I.os I.base I.hok I.bare fun b hb => ⟨(f3 b hb).1.2.2.2.1, (f3 b hb).1.2.1, (f3 b hb).1.2.2.2.2.1, (f3 b hb).1.2.2.2.2.2⟩
  have rs2 : RS r (wipeA sa vs) σ := by
    have := rs.wipe vs
    rw [hw] at this
    exact (RS.unwipe (vs := vs) this)
  refine wpAny_Call_Name_kw (ld_glob J' hg h1 ?_ hdb)
  refine PySem.W.callWith_K (h₀ := X.base) J'.ok.mod.kin h2 ?_ (by rfl) (by rfl)
  rw [hst]
  show wpAny _ _ (spliced ((false, eval (.Name y py) _) :: backTo pos [])) _ _ s
  refine Calls.spliced_cons (thn ((pe_var (pos := py) (i := j) (X := X.blk s0 H0 scope cenv fp) hN hv hyd hyc).run pins' s σ2 H (fun v H1 => v = .ref f ∧ H1 = H) J' ⟨.ref f, hv1, rfl, rfl⟩) fun u s' ⟨v, H1, J1, r1, ev, eH⟩ => ?_)
  subst ev
  rw [eH] at J1
  obtain rfl : u = Value.ref f := r1
  refine Calls.spliced_nil ⟨J1.kIn, ?_⟩
  have J2 := back J1
  have rc : codeAny (model X.prog X.w) X.A (.call (.ref g) ⟨[.ref f], []⟩) (CR C8.CX0 X.stack X.prog X.w H s' Q C8.E0) s' := by
    refine LamX.run_ofS (N := Ng) (ps := [a]) (us := [.ref f]) (vs := [.ref f]) h3 h4 h6 hr J2.env0 (h5 s' [.ref f] J2.kIn rfl) (.cons rfl .nil) rfl fun hr' => ?_
    have lf : lift t W (errF nm e0 fb) σ H Q := by
      refine ⟨r, wipeA sa vs, S, xx, RR, rs2, e2, ?_⟩
      cases xx with
      | ok a S' => exact post
      | er c S' =>
        exfalso
        unfold errF at e2
        split at e2
        · cases e2
        · split at e2 <;> cases e2
        · cases e2
    have tt := (err_read hK tells lf).2 H (LamX.ExtN.refl H) RR.tb
    obtain ⟨t', ht', hq'⟩ := h11 X rfl rfl rfl rfl rfl f (CyO t f c' (t.lam id) d dV) s' H Q (fun E H' Q' => lift t (fun cls d _ H => E cls d H) fb σ H' Q')
      (fun W pn xe E p1 p2 tk hW => pe_actC (z := 0) J2 LK hql hce tk hW hr' (fun A outer s H hr2 => hbody A outer s H E f c' hr2) h7 h8 h9 h10) cy tt
    exact ⟨t', ht'.nox, hq'⟩
  refine wpAny_call (codeAny_mono rc fun r s2 hq => ?_)
  cases r with
  | error e => exact (show False from hq).elim
  | ok fl =>
    cases fl with
    | ret u => exact J1.after hq
    | next => exact False.elim hq
    | brk => exact False.elim hq
    | cont => exact False.elim hq
end
end Vai
set_option maxRecDepth 100000
set_option maxHeartbeats 4000000
namespace Vai
open PySem L2 PySem.Spec PyProof.Rows
/-! ### list(range(..)), tuple(range(..)) -/
def rgA (a b : Int) : List A := (List.range (b - a).toNat).map fun i => .int (a + (i : Nat))
def rgOkB (a b : Int) : Bool := decide (0 ≤ a) && decide (a ≤ 16777216) && decide (0 ≤ b) && decide (b ≤ 16777216)
theorem rgOk_by {a b : Int} (h : rgOkB a b = true) : RgOk a b := by
  unfold rgOkB at h
  simp only [Bool.and_eq_true, decide_eq_true_eq] at h
  exact RgOk.of_le (by omega) (by omega) (by omega) (by omega)
theorem pr_rg {r : List Addr} (a b : Int) : Paired (RA r) (rgA a b) (rgV a b) := by
  unfold rgA rgV
  generalize (b - a).toNat = n
  have key : ∀ l : List Nat, Paired (RA r) (l.map fun i => A.int (a + (i : Nat))) (l.map fun i => V.int (a + (i : Nat))) := fun l => by
    induction l with
    | nil => exact .nil
    | cons x l ih => exact .cons rfl ih
  exact key _
def rg1F (mk : List A → O) (fa : F) : F := bnd fa fun a => fun _ S => match a with
  | .int n => if rgOkB 0 n then some (.ok (.ref S.length) (S ++ [mk (rgA 0 n)])) else none
  | _ => none
def rg2F (mk : List A → O) (fa fb : F) : F := bnd fa fun a => bnd fb fun b => fun _ S => match a, b with
  | .int m, .int n => if rgOkB m n then some (.ok (.ref S.length) (S ++ [mk (rgA m n)])) else none
  | _, _ => none
section
variable {X : Cx} {t : Tx} {W : WX}
theorem rg1_ok {mk : List A → O} {u : List V → HO} (hm : ∀ (r : List Addr) (H : Hp) (q : Addr) (a b : Int), RO t r (upd H q (u (rgV a b))) q (mk (rgA a b))) {fa : F} {σ : L2.St} {H : Hp} {Q : VK} (h : lift t W (rg1F mk fa) σ H Q) :
    tRg1 (lift t W fa) σ H fun a b H1 => RgOk a b ∧ ∀ q, H1 q = none → Q (.ref q) (upd H1 q (u (rgV a b))) := step_bnd h fun r S sa a v H1 x R rs ra e p => by
  cases a with
  | int n =>
    cases ra
    dsimp only at e
    split at e
    · rename_i hz
      cases e
      exact ⟨n, rfl, rgOk_by hz, alloc R p fun q => hm _ _ q 0 n⟩
    · cases e
  | _ => cases e
theorem rg2_ok {mk : List A → O} {u : List V → HO} (hm : ∀ (r : List Addr) (H : Hp) (q : Addr) (a b : Int), RO t r (upd H q (u (rgV a b))) q (mk (rgA a b))) {fa fb : F} {σ : L2.St} {H : Hp} {Q : VK} (h : lift t W (rg2F mk fa fb) σ H Q) :
    tRg2 (lift t W fa) (lift t W fb) σ H fun a b H1 => RgOk a b ∧ ∀ q, H1 q = none → Q (.ref q) (upd H1 q (u (rgV a b))) := step_bnd h fun r S sa a v H1 x R rs ra e p =>
  step_go R rs e p fun r2 S2 b w H2 e2 R2 rs2 rb ek p2 => by
    cases a with
    | int m =>
      cases ra
      cases b with
      | int n =>
        cases rb
        dsimp only at ek
        split at ek
        · rename_i hz
          cases ek
          exact ⟨m, n, rfl, rfl, rgOk_by hz, alloc R2 p2 fun q => hm _ _ q m n⟩
        · cases ek
      | _ => cases ek
    | _ => cases ek
theorem ro_lstRg (r : List Addr) (H : Hp) (q : Addr) (a b : Int) : RO t r (upd H q (.lst (rgV a b))) q (.lst (rgA a b)) := ⟨_, upd_same, pr_rg a b⟩
theorem ro_tupRg (r : List Addr) (H : Hp) (q : Addr) (a b : Int) : RO t r (upd H q (.tup (rgV a b))) q (.tup (rgA a b)) := ⟨_, .inl upd_same, pr_rg a b⟩
theorem v_lstRg1 {a : Expr} {fa : F} {p p2 pos pos2 : Pos} (hm : X.mg "list" = none) (hr : X.mg "range" = none) (ha : PE X a (lift t W fa)) (hc : X.calm = true := by rfl) (hg : Gl X "list" := by rfl) (hg2 : Gl X "range" := by rfl) (na : starEach [a] X.env = (false, eval a X.env) :: starEach [] X.env := by rfl)
    (nb : starEach [.Call (.Name "range" p) [a] [] pos] X.env = (false, eval (.Call (.Name "range" p) [a] [] pos) X.env) :: starEach [] X.env := by rfl) : PE X (.Call (.Name "list" p2) [.Call (.Name "range" p) [a] [] pos] [] pos2) (lift t W (rg1F O.lst fa)) :=
  (pe_listRg hc hg hm (prg_1 hg2 hr ha na) nb).weak fun _ _ _ h => rg1_ok ro_lstRg h
theorem v_tupRg1 {a : Expr} {fa : F} {p p2 pos pos2 : Pos} (hm : X.mg "tuple" = none) (hr : X.mg "range" = none) (ha : PE X a (lift t W fa)) (hc : X.calm = true := by rfl) (hg : Gl X "tuple" := by rfl) (hg2 : Gl X "range" := by rfl) (na : starEach [a] X.env = (false, eval a X.env) :: starEach [] X.env := by rfl)
    (nb : starEach [.Call (.Name "range" p) [a] [] pos] X.env = (false, eval (.Call (.Name "range" p) [a] [] pos) X.env) :: starEach [] X.env := by rfl) : PE X (.Call (.Name "tuple" p2) [.Call (.Name "range" p) [a] [] pos] [] pos2) (lift t W (rg1F O.tup fa)) :=
  (pe_tupRg hc hg hm (prg_1 hg2 hr ha na) nb).weak fun _ _ _ h => rg1_ok ro_tupRg h
theorem v_lstRg2 {a b : Expr} {fa fb : F} {p p2 pos pos2 : Pos} (hm : X.mg "list" = none) (hr : X.mg "range" = none) (ha : PE X a (lift t W fa)) (hb : PE X b (lift t W fb)) (hc : X.calm = true := by rfl) (hg : Gl X "list" := by rfl) (hg2 : Gl X "range" := by rfl) (na : starEach [a, b] X.env = (false, eval a X.env) :: starEach [b] X.env := by rfl) (nc : starEach [b] X.env = (false, eval b X.env) :: starEach [] X.env := by rfl)
    (nb : starEach [.Call (.Name "range" p) [a, b] [] pos] X.env = (false, eval (.Call (.Name "range" p) [a, b] [] pos) X.env) :: starEach [] X.env := by rfl) : PE X (.Call (.Name "list" p2) [.Call (.Name "range" p) [a, b] [] pos] [] pos2) (lift t W (rg2F O.lst fa fb)) :=
  (pe_listRg hc hg hm (prg_2 hg2 hr ha hb na nc (by rw [nc]; rfl)) nb).weak fun _ _ _ h => rg2_ok ro_lstRg h
theorem v_tupRg2 {a b : Expr} {fa fb : F} {p p2 pos pos2 : Pos} (hm : X.mg "tuple" = none) (hr : X.mg "range" = none) (ha : PE X a (lift t W fa)) (hb : PE X b (lift t W fb)) (hc : X.calm = true := by rfl) (hg : Gl X "tuple" := by rfl) (hg2 : Gl X "range" := by rfl) (na : starEach [a, b] X.env = (false, eval a X.env) :: starEach [b] X.env := by rfl) (nc : starEach [b] X.env = (false, eval b X.env) :: starEach [] X.env := by rfl)
    (nb : starEach [.Call (.Name "range" p) [a, b] [] pos] X.env = (false, eval (.Call (.Name "range" p) [a, b] [] pos) X.env) :: starEach [] X.env := by rfl) : PE X (.Call (.Name "tuple" p2) [.Call (.Name "range" p) [a, b] [] pos] [] pos2) (lift t W (rg2F O.tup fa fb)) :=
  (pe_tupRg hc hg hm (prg_2 hg2 hr ha hb na nc (by rw [nc]; rfl)) nb).weak fun _ _ _ h => rg2_ok ro_tupRg h
end
end Vai
set_option maxRecDepth 100000
set_option maxHeartbeats 4000000
namespace Vai
open PySem L2
/-! ### what is left behind may be forgotten -/
def stR : R → List O
  | .ok _ S => S
  | .er _ S => S
def stL : RL → List O
  | .ok _ S => S
  | .er _ S => S
def stI : RI → List O
  | .ok _ S => S
  | .er _ S => S
def stF : RF → List O
  | .nx _ S => S
  | .rt _ S => S
  | .bk _ S => S
  | .ct _ S => S
  | .er _ _ S => S
def PreF (f : F) : Prop := ∀ sa S x, f sa S = some x → S <+: stR x
def PreL (f : FL) : Prop := ∀ sa S x, f sa S = some x → S <+: stL x
def PreI (f : FI) : Prop := ∀ sa S x, f sa S = some x → S <+: stI x
def PreS (f : FS) : Prop := ∀ sa S x, f sa S = some x → S <+: stF x
def PreD (f : FD) : Prop := ∀ as S x, f as S = some x → S <+: stR x
def PreT (f : TF) : Prop := ∀ a sa S z, f a sa S = some z → S <+: z.2
def PreTs (f : TFs) : Prop := ∀ as sa S z, f as sa S = some z → S <+: z.2
def Pre1 (g : G1) : Prop := ∀ a S z, g a S = some z → S <+: z.2
def Pre2 (g : G2) : Prop := ∀ a b S z, g a b S = some z → S <+: z.2
def PreN (g : GN) : Prop := ∀ as S z, g as S = some z → S <+: z.2
theorem pf0 (S : List O) : S <+: S := List.prefix_rfl
theorem pfa (S T : List O) : S <+: S ++ T := List.prefix_append S T
theorem pft {S T U : List O} (a : S <+: T) (b : T <+: U) : S <+: U := a.trans b
theorem pre_set {P S : List O} {d : Nat} {o : O} (h : P <+: S) (hd : P.length ≤ d) : P <+: S.set d o := by
  obtain ⟨G, rfl⟩ := h
  rw [List.set_append_right _ _ hd]
  exact ⟨_, rfl⟩
theorem pre_var {i : Nat} : PreF (varF i) := fun sa S x e => by
  unfold varF at e
  split at e
  · cases e; exact pf0 S
  · cases e
theorem pre_con {a : A} : PreF (conF a) := fun sa S x e => by cases e; exact pf0 S
theorem pre_no : PreF noF := fun sa S x e => by cases e
theorem pre_noS : PreS noS := fun sa S x e => by cases e
theorem pre_bnd {f : F} {k : A → F} (h : PreF f) (hk : ∀ a, PreF (k a)) : PreF (bnd f k) := fun sa S x e => by
  unfold bnd at e
  split at e
  · rename_i a S1 h1
    exact pft (h sa S _ h1) (hk a sa S1 x e)
  · rename_i c S1 h1
    cases e
    exact h sa S _ h1
  · cases e
theorem pre_none : PreF (fun _ _ => none) := fun sa S x e => by cases e
theorem pre_toR {g : List O → Option (A × List O)} (h : ∀ S z, g S = some z → S <+: z.2) : PreF (fun _ S => toR (g S)) := fun sa S x e => by
  obtain ⟨p, h1, rfl⟩ := toR_some e
  exact h S p h1
theorem pre_op {g : G2} {fa fb : F} (hg : Pre2 g) (ha : PreF fa) (hb : PreF fb) : PreF (opF g fa fb) := pre_bnd ha fun a => pre_bnd hb fun b => pre_toR fun S z e => hg a b S z e
theorem pre_un {g : G1} {fa : F} (hg : Pre1 g) (ha : PreF fa) : PreF (unF g fa) := pre_bnd ha fun a => pre_toR fun S z e => hg a S z e
theorem pre_bl {f : Bool → F} (h : ∀ b, PreF (f b)) (a : A) : PreF (match a with | .bl true => f true | .bl false => f false | _ => fun _ _ => none) := by
  cases a with
  | bl b => cases b <;> exact h _
  | _ => exact pre_none
theorem pre_and {fa fb : F} (ha : PreF fa) (hb : PreF fb) : PreF (andF fa fb) := pre_bnd ha fun a => by
  cases a with
  | bl b => cases b <;> first | exact hb | exact pre_con
  | _ => exact pre_none
theorem pre_or {fa fb : F} (ha : PreF fa) (hb : PreF fb) : PreF (orF fa fb) := pre_bnd ha fun a => by
  cases a with
  | bl b => cases b <;> first | exact hb | exact pre_con
  | _ => exact pre_none
theorem pre_not {fa : F} (ha : PreF fa) : PreF (notF fa) := pre_bnd ha fun a => by
  cases a with
  | bl b => exact pre_con
  | _ => exact pre_none
theorem pre_ifF {ft fa fb : F} (h : PreF ft) (ha : PreF fa) (hb : PreF fb) : PreF (ifF ft fa fb) := pre_bnd h fun a => by
  cases a with
  | bl b => cases b <;> first | exact ha | exact hb
  | _ => exact pre_none
theorem pre_ch {g g' : G2} {fa fb fc : F} (hg : Pre2 g) (hg' : Pre2 g') (ha : PreF fa) (hb : PreF fb) (hc : PreF fc) : PreF (chF g g' fa fb fc) :=
  pre_bnd ha fun a => pre_bnd hb fun b => pre_bnd (pre_toR fun S z e => hg a b S z e) fun d => by
    cases d with
    | bl k =>
      cases k
      · exact pre_con
      · exact pre_bnd hc fun c => pre_toR fun S z e => hg' b c S z e
    | _ => exact pre_none
theorem pre_nil : PreL nilF := fun sa S x e => by cases e; exact pf0 S
theorem pre_cons {fa : F} {fl : FL} (ha : PreF fa) (hl : PreL fl) : PreL (consF fa fl) := fun sa S x e => by
  unfold consF at e
  split at e
  · rename_i a S1 h1
    split at e
    · rename_i as S2 h2
      cases e
      exact pft (ha sa S _ h1) (hl sa S1 (.ok as S2) h2)
    · rename_i c S2 h2
      cases e
      exact pft (ha sa S _ h1) (hl sa S1 (.er c S2) h2)
    · cases e
  · rename_i c S1 h1
    cases e
    exact ha sa S _ h1
  · cases e
theorem pre_bndL {f : FL} {k : List A → F} (h : PreL f) (hk : ∀ a, PreF (k a)) : PreF (bndL f k) := fun sa S x e => by
  unfold bndL at e
  split at e
  · rename_i a S1 h1
    exact pft (h sa S _ h1) (hk a sa S1 x e)
  · rename_i c S1 h1
    cases e
    exact h sa S _ h1
  · cases e
theorem pre_new {mk : List A → O} {fl : FL} (h : PreL fl) : PreF (newF mk fl) := pre_bndL h fun as sa S x e => by
  split at e
  · cases e; exact pfa S _
  · cases e
theorem pre_newD : PreF newD := fun sa S x e => by cases e; exact pfa S _
theorem pre_cl {g : GN} {fl : FL} (hg : PreN g) (h : PreL fl) : PreF (clF g fl) := pre_bndL h fun as => pre_toR fun S z e => hg as S z e
theorem pre_call {d : FD} {fl : FL} (hd : PreD d) (h : PreL fl) : PreF (callF d fl) := pre_bndL h fun as sa S x e => hd as S x e
theorem pre_rg1 {mk : List A → O} {fa : F} (h : PreF fa) : PreF (rg1F mk fa) := pre_bnd h fun a sa S x e => by
  split at e
  · split at e
    · cases e; exact pfa S _
    · cases e
  · cases e
theorem pre_rg2 {mk : List A → O} {fa fb : F} (h : PreF fa) (h2 : PreF fb) : PreF (rg2F mk fa fb) := pre_bnd h fun a => pre_bnd h2 fun b sa S x e => by
  split at e
  · split at e
    · cases e; exact pfa S _
    · cases e
  · cases e
theorem pre_lam0 {i : Nat} : PreF (lamF0 i) := fun sa S x e => by
  cases e
  rw [stR, List.append_assoc]
  exact pfa S _
theorem pre_lam1 {i : Nat} {d : Int} : PreF (lamF1 i d) := fun sa S x e => by
  cases e
  rw [stR, List.append_assoc, List.append_assoc]
  exact pfa S _
theorem pre_err {nm : Nat → Option Str} {e0 : Str} {fb : F} (h : PreF fb) : PreF (errF nm e0 fb) := fun sa S x e => by
  unfold errF at e
  split at e
  · rename_i a S1 h1
    have q := h sa S _ h1
    cases e
    exact q
  · rename_i c S1 h1
    split at e
    · have q := h sa S _ h1
      cases e
      exact q
    · cases e
  · cases e
theorem pre_errc {nm : Nat → Option Str} {e0 : Str} {ks : Nat → Option (Bool × F)} {j : Nat} {vs : List Nat} (h : ∀ id d fb, ks id = some (d, fb) → PreF fb) : PreF (errcF nm e0 ks j vs) := fun sa S x e => by
  unfold errcF at e
  split at e
  · split at e
    · split at e
      · rename_i fb hk _
        exact pre_err (h _ _ _ hk) _ _ _ e
      · cases e
    · split at e
      · rename_i fb _ hk _ _
        exact pre_err (h _ _ _ hk) _ _ _ e
      · cases e
    · cases e
  · cases e
theorem pre_seqI {fa : F} (h : PreF fa) : PreI (seqI fa) := fun sa S x e => by
  unfold seqI at e
  split at e
  · rename_i l S1 h1
    split at e <;> first | (cases e; exact h sa S _ h1) | cases e
  · cases e
  · rename_i c S1 h1
    cases e
    exact h sa S _ h1
  · cases e
theorem pre_rg1I {fl : FL} (h : PreL fl) : PreI (rg1I fl) := fun sa S x e => by
  unfold rg1I at e
  split at e
  · rename_i l S1 h1
    split at e <;> first | (cases e; exact h sa S _ h1) | cases e
  · cases e
  · rename_i c S1 h1
    cases e
    exact h sa S _ h1
  · cases e
theorem pre_rg2I {fl : FL} (h : PreL fl) : PreI (rg2I fl) := fun sa S x e => by
  unfold rg2I at e
  split at e
  · rename_i l S1 h1
    split at e <;> first | (cases e; exact h sa S _ h1) | cases e
  · cases e
  · rename_i c S1 h1
    cases e
    exact h sa S _ h1
  · cases e
theorem pre_lcGo {i : Its} {T : TX} {vs : List Nat} {ft fe : F} {d : Nat} {sa : Sa} {P : List O} (ht : PreF ft) (he : PreF fe) (hd : P.length ≤ d) : ∀ (n j : Nat) (S S2 : List O), P <+: S → lcGo i T vs ft fe d sa n j S = some S2 → P <+: S2
  | 0, _, _, _, _, e => by cases e
  | n + 1, j, S, S2, p, e => by
    simp only [lcGo] at e
    split at e
    · cases e
    · cases e; exact p
    · split at e
      · cases e
      · split at e
        · rename_i S3 h3
          have p3 := pft p (ht _ _ _ h3)
          split at e
          · rename_i y S4 h4
            have p4 := pft p3 (he _ _ _ h4)
            split at e
            · split at e
              · exact pre_lcGo ht he hd n (j + 1) _ _ (pre_set p4 hd) e
              · cases e
            · cases e
          · cases e
        · rename_i S3 h3
          exact pre_lcGo ht he hd n (j + 1) _ _ (pft p (ht _ _ _ h3)) e
        · cases e
theorem pre_lc {fi : FI} {T : TX} {vs : List Nat} {ft fe : F} (hi : PreI fi) (ht : PreF ft) (he : PreF fe) : PreF (lcF fi T vs ft fe) := fun sa S x e => by
  unfold lcF at e
  split at e
  · rename_i i S1 h1
    split at e
    · rename_i S2 h2
      cases e
      exact pft (hi sa S _ h1) (pre_lcGo ht he (Nat.le_refl _) _ _ _ _ (pfa S1 _) h2)
    · cases e
  · rename_i c S1 h1
    cases e
    exact hi sa S _ h1
  · cases e
theorem pre_lc2Go {i : Its} {T : TX} {vs : List Nat} {ft : F} {fi1 : FI} {T1 : TX} {vs1 : List Nat} {ft1 fe : F} {d : Nat} {sa : Sa} {P : List O} (ht : PreF ft) (hi1 : PreI fi1) (ht1 : PreF ft1) (he : PreF fe) (hd : P.length ≤ d) : ∀ (n j : Nat) (S S2 : List O), P <+: S → lc2Go i T vs ft fi1 T1 vs1 ft1 fe d sa n j S = some S2 → P <+: S2
  | 0, _, _, _, _, e => by cases e
  | n + 1, j, S, S2, p, e => by
    simp only [lc2Go] at e
    split at e
    · cases e
    · cases e; exact p
    · split at e
      · cases e
      · split at e
        · rename_i S3 h3
          have p3 := pft p (ht _ _ _ h3)
          split at e
          · rename_i y S4 h4
            have p4 := pft p3 (hi1 _ _ _ h4)
            split at e
            · rename_i S5 h5
              exact pre_lc2Go ht hi1 ht1 he hd n (j + 1) _ _ (pre_lcGo ht1 he hd _ _ _ _ p4 h5) e
            · cases e
          · cases e
        · rename_i S3 h3
          exact pre_lc2Go ht hi1 ht1 he hd n (j + 1) _ _ (pft p (ht _ _ _ h3)) e
        · cases e
theorem pre_lc2 {fi : FI} {T : TX} {vs : List Nat} {ft : F} {fi1 : FI} {T1 : TX} {vs1 : List Nat} {ft1 fe : F} (hi : PreI fi) (ht : PreF ft) (hi1 : PreI fi1) (ht1 : PreF ft1) (he : PreF fe) : PreF (lc2F fi T vs ft fi1 T1 vs1 ft1 fe) := fun sa S x e => by
  unfold lc2F at e
  split at e
  · rename_i i S1 h1
    split at e
    · rename_i S2 h2
      cases e
      exact pft (hi sa S _ h1) (pre_lc2Go ht hi1 ht1 he (Nat.le_refl _) _ _ _ _ (pfa S1 _) h2)
    · cases e
  · rename_i c S1 h1
    cases e
    exact hi sa S _ h1
  · cases e
theorem pre_scGo {i : Its} {T : TX} {vs : List Nat} {ft fe : F} {d : Nat} {sa : Sa} {P : List O} (ht : PreF ft) (he : PreF fe) (hd : P.length ≤ d) : ∀ (n j : Nat) (S S2 : List O), P <+: S → scGo i T vs ft fe d sa n j S = some S2 → P <+: S2
  | 0, _, _, _, _, e => by cases e
  | n + 1, j, S, S2, p, e => by
    simp only [scGo] at e
    split at e
    · cases e
    · cases e; exact p
    · split at e
      · cases e
      · split at e
        · rename_i S3 h3
          have p3 := pft p (ht _ _ _ h3)
          split at e
          · rename_i y S4 h4
            have p4 := pft p3 (he _ _ _ h4)
            split at e
            · split at e
              · split at e
                · refine pre_scGo ht he hd n (j + 1) _ _ ?_ e
                  split
                  · exact p4
                  · exact pre_set p4 hd
                · cases e
              · cases e
            · cases e
          · cases e
        · rename_i S3 h3
          exact pre_scGo ht he hd n (j + 1) _ _ (pft p (ht _ _ _ h3)) e
        · cases e
theorem pre_lenSet {fi : FI} {T : TX} {vs : List Nat} {ft fe : F} (hi : PreI fi) (ht : PreF ft) (he : PreF fe) : PreF (lenSetF fi T vs ft fe) := fun sa S x e => by
  unfold lenSetF at e
  split at e
  · rename_i i S1 h1
    split at e
    · rename_i S2 h2
      split at e
      · split at e
        · cases e
          exact pft (hi sa S _ h1) (pre_scGo ht he (Nat.le_refl _) _ _ _ _ (pfa S1 _) h2)
        · cases e
      · cases e
    · cases e
  · rename_i c S1 h1
    cases e
    exact hi sa S _ h1
  · cases e
/-! statements -/
theorem pre_send : PreS endF := fun sa S x e => by cases e; exact pf0 S
theorem pre_raise {c : Nat} : PreS (raiseF c) := fun sa S x e => by cases e; exact pf0 S
theorem pre_seq {f g : FS} (h : PreS f) (k : PreS g) : PreS (seqF f g) := fun sa S x e => by
  unfold seqF at e
  split at e
  · rename_i sa1 S1 h1
    exact pft (h sa S _ h1) (k sa1 S1 x e)
  · exact h sa S x e
theorem pre_ret {fa : F} (h : PreF fa) : PreS (retF fa) := fun sa S x e => by
  unfold retF at e
  split at e
  · rename_i a S1 h1; cases e; exact h sa S _ h1
  · rename_i a S1 h1; cases e; exact h sa S _ h1
  · cases e
theorem pre_exp {fa : F} (h : PreF fa) : PreS (expF fa) := fun sa S x e => by
  unfold expF at e
  split at e
  · rename_i a S1 h1; cases e; exact h sa S _ h1
  · rename_i a S1 h1; cases e; exact h sa S _ h1
  · cases e
theorem pre_cond {fc : F} {f g : FS} (h : PreF fc) (hf : PreS f) (hg : PreS g) : PreS (condF fc f g) := fun sa S x e => by
  unfold condF at e
  split at e
  · rename_i S1 h1; exact pft (h sa S _ h1) (hf sa S1 x e)
  · rename_i S1 h1; exact pft (h sa S _ h1) (hg sa S1 x e)
  · cases e
  · rename_i a S1 h1; cases e; exact h sa S _ h1
  · cases e
theorem pre_nameT {i : Nat} : PreT (nameT i) := fun a sa S z e => by cases e; exact pf0 S
theorem pre_nilT : PreTs nilT := fun as sa S z e => by
  cases as with
  | nil => cases e; exact pf0 S
  | cons _ _ => cases e
theorem pre_consT {f : TF} {g : TFs} (h : PreT f) (k : PreTs g) : PreTs (consT f g) := fun as sa S z e => by
  cases as with
  | nil => cases e
  | cons a r =>
    simp only [consT] at e
    split at e
    · rename_i y h1; exact pft (h a sa S y h1) (k r _ _ z e)
    · cases e
theorem pre_tupT {n : Nat} {g : TFs} (k : PreTs g) : PreT (tupT n g) := fun a sa S z e => by
  unfold tupT at e
  split at e
  · split at e
    · split at e
      · exact k _ _ _ _ e
      · cases e
    · cases e
  · cases e
theorem pre_asg {fa : F} {f : TF} (h : PreF fa) (k : PreT f) : PreS (asgF fa f) := fun sa S x e => by
  unfold asgF at e
  split at e
  · rename_i a S1 h1
    split at e
    · rename_i z h2
      cases e
      exact pft (h sa S _ h1) (k _ _ _ _ h2)
    · cases e
  · rename_i a S1 h1; cases e; exact h sa S _ h1
  · cases e
theorem pre_par {i j : Nat} {fl : FL} (h : PreL fl) : PreS (parF i j fl) := fun sa S x e => by
  unfold parF at e
  split at e
  · rename_i a b S1 h1; cases e; exact h sa S _ h1
  · cases e
  · rename_i a S1 h1; cases e; exact h sa S _ h1
  · cases e
theorem pre_forGo {i : Its} {T : TF} {f : FS} (hT : PreT T) (hf : PreS f) : ∀ (n j : Nat) (sa : Sa) (S : List O) (x : RF), forGo i T f n j sa S = some x → S <+: stF x
  | 0, _, _, _, _, e => by cases e
  | n + 1, j, sa, S, x, e => by
    simp only [forGo] at e
    split at e
    · cases e
    · cases e; exact pf0 S
    · split at e
      · cases e
      · rename_i z h1
        have p1 := hT _ _ _ _ h1
        split at e
        · rename_i sa2 S2 h2; exact pft (pft p1 (hf _ _ _ h2)) (pre_forGo hT hf n (j + 1) _ _ _ e)
        · rename_i sa2 S2 h2; exact pft (pft p1 (hf _ _ _ h2)) (pre_forGo hT hf n (j + 1) _ _ _ e)
        · rename_i sa2 S2 h2; have q := hf _ _ _ h2; cases e; exact pft p1 q
        · exact pft p1 (hf _ _ _ e)
theorem pre_for {fi : FI} {T : TF} {f : FS} (hi : PreI fi) (hT : PreT T) (hf : PreS f) : PreS (forF fi T f) := fun sa S x e => by
  unfold forF at e
  split at e
  · rename_i i S1 h1; exact pft (hi sa S _ h1) (pre_forGo hT hf _ _ _ _ _ e)
  · rename_i a S1 h1; cases e; exact hi sa S _ h1
  · cases e
theorem pre_def {m : Nat} {b : FS} (h : PreS b) : PreD (defF m b) := fun as S x e => by
  unfold defF at e
  split at e
  · rename_i h1; cases e; exact h _ S _ h1
  · rename_i h1; cases e; exact h _ S _ h1
  · rename_i h1; cases e; exact h _ S _ h1
  · cases e
/-! the operators -/
theorem pre_map {α : Type} {o : Option α} {f : α → A} {S : List O} {z : A × List O} (e : o.map (fun x => (f x, S)) = some z) : S <+: z.2 := by
  cases o with
  | none => cases e
  | some x => cases e; exact pf0 S
theorem pre_addG : Pre2 addG := fun a b S z e => by unfold addG at e; (repeat' split at e) <;> first | (cases e; first | exact pf0 _ | exact pfa _ _) | (cases e) | (exact pre_map e)
theorem pre_intG {c f} : Pre2 (intG c f) := fun a b S z e => by unfold intG at e; (repeat' split at e) <;> first | (cases e; first | exact pf0 _ | exact pfa _ _) | (cases e) | (exact pre_map e)
theorem pre_mulG : Pre2 mulG := fun a b S z e => by unfold mulG at e; (repeat' split at e) <;> first | (cases e; first | exact pf0 _ | exact pfa _ _) | (cases e) | (exact pre_map e)
theorem pre_cmpG {f} : Pre2 (cmpG f) := fun a b S z e => by unfold cmpG at e; (repeat' split at e) <;> first | (cases e; first | exact pf0 _ | exact pfa _ _) | (cases e) | (exact pre_map e)
theorem pre_eqG {n} : Pre2 (eqG n) := fun a b S z e => by unfold eqG at e; (repeat' split at e) <;> first | (cases e; first | exact pf0 _ | exact pfa _ _) | (cases e) | (exact pre_map e)
theorem pre_inG {n} : Pre2 (inG n) := fun a b S z e => by unfold inG at e; (repeat' split at e) <;> first | (cases e; first | exact pf0 _ | exact pfa _ _) | (cases e) | (exact pre_map e)
theorem pre_ixG : Pre2 ixG := fun a b S z e => by unfold ixG at e; (repeat' split at e) <;> first | (cases e; first | exact pf0 _ | exact pfa _ _) | (cases e) | (exact pre_map e)
theorem pre_negG : Pre1 negG := fun a S z e => by unfold negG at e; (repeat' split at e) <;> first | (cases e; first | exact pf0 _ | exact pfa _ _) | (cases e) | (exact pre_map e)
theorem pre_lenG : PreN lenG := fun a S z e => by unfold lenG at e; (repeat' split at e) <;> first | (cases e; first | exact pf0 _ | exact pfa _ _) | (cases e) | (exact pre_map e)
theorem pre_isiG : PreN isiG := fun a S z e => by unfold isiG at e; (repeat' split at e) <;> first | (cases e; first | exact pf0 _ | exact pfa _ _) | (cases e) | (exact pre_map e)
theorem pre_twoG {f} : PreN (twoG f) := fun a S z e => by unfold twoG at e; (repeat' split at e) <;> first | (cases e; first | exact pf0 _ | exact pfa _ _) | (cases e) | (exact pre_map e)
theorem pre_absG : PreN absG := fun a S z e => by unfold absG at e; (repeat' split at e) <;> first | (cases e; first | exact pf0 _ | exact pfa _ _) | (cases e) | (exact pre_map e)
theorem pre_intC : PreN intC := fun a S z e => by unfold intC at e; (repeat' split at e) <;> first | (cases e; first | exact pf0 _ | exact pfa _ _) | (cases e) | (exact pre_map e)
theorem pre_allG {f} : PreN (allG f) := fun a S z e => by unfold allG at e; (repeat' split at e) <;> first | (cases e; first | exact pf0 _ | exact pfa _ _) | (cases e) | (exact pre_map e)
theorem pre_tupC : PreN tupC := fun a S z e => by unfold tupC at e; (repeat' split at e) <;> first | (cases e; first | exact pf0 _ | exact pfa _ _) | (cases e) | (exact pre_map e)
theorem pre_lstC : PreN lstC := fun a S z e => by unfold lstC at e; (repeat' split at e) <;> first | (cases e; first | exact pf0 _ | exact pfa _ _) | (cases e) | (exact pre_map e)
end Vai
set_option maxRecDepth 100000
set_option maxHeartbeats 4000000
namespace Vai
open PySem L2
def flatA : A → Bool
  | .ref _ => false
  | _ => true
def trimR (S : List O) : R → R
  | .ok a S' => if flatA a then .ok a S else .ok a S'
  | .er c _ => .er c S
def trimF (f : F) : F := fun sa S => (f sa S).map (trimR S)
def trimD (d : FD) : FD := fun as S => (d as S).map (trimR S)
section
variable {t : Tx} {r q : List Addr} {S G : List O} {H H0 : Hp}
theorem RA.cut {a : A} {v u : V} (h0 : RA r a u) (h : RA (r ++ q) a v) : RA r a v := by
  cases a with
  | ref l =>
    obtain ⟨p0, e0, _⟩ := h0
    obtain ⟨p, e, rfl⟩ := h
    have hl := (List.getElem?_eq_some_iff.mp e0).1
    rw [List.getElem?_append_left hl] at e
    exact ⟨p, e, rfl⟩
  | _ => exact h
theorem RA.flat {r' : List Addr} {a : A} {v : V} (hf : flatA a = true) (h : RA r' a v) : RA r a v := by
  cases a with
  | ref l => cases hf
  | _ => exact h
theorem RAs.cut : ∀ {xs : List A} {vs us : List V}, Paired (RA r) xs us → Paired (RA (r ++ q)) xs vs → Paired (RA r) xs vs
  | _, _, _, .nil, .nil => .nil
  | _, _, _, .cons a b, .cons c d => .cons (RA.cut a c) (RAs.cut b d)
theorem get_cut {l : Nat} {p0 p : Addr} (e0 : r[l]? = some p0) (e : (r ++ q)[l]? = some p) : r[l]? = some p := by
  rw [List.getElem?_append_left (List.getElem?_eq_some_iff.mp e0).1] at e
  exact e
theorem RO.cut {p p0 : Addr} : ∀ {o : O}, RO t r H0 p0 o → RO t (r ++ q) H p o → RO t r H p o
  | .lst _, ⟨us, _, a⟩, ⟨vs, h, b⟩ => ⟨vs, h, RAs.cut a b⟩
  | .tup _, ⟨us, _, a⟩, ⟨vs, h, b⟩ => ⟨vs, h, RAs.cut a b⟩
  | .scr _, _, h => h
  | .code, _, h => h
  | .fz _, ⟨a, _⟩, ⟨b, h⟩ => ⟨get_cut a b, h⟩
  | .dic _, ⟨us, _, a⟩, ⟨ws, h, b⟩ => ⟨ws, h, by
    have key : ∀ {ks : List (Key × A)} {us ws : List (Key × V)}, Paired (fun (a : Key × A) (b : Key × V) => a.1 = b.1 ∧ RA r a.2 b.2) ks us → Paired (fun (a : Key × A) (b : Key × V) => a.1 = b.1 ∧ RA (r ++ q) a.2 b.2) ks ws → Paired (fun (a : Key × A) (b : Key × V) => a.1 = b.1 ∧ RA r a.2 b.2) ks ws := by
      intro ks us ws h1 h2
      induction h2 generalizing us with
      | nil => exact .nil
      | cons x y ih =>
        cases h1 with
        | cons u v => exact .cons ⟨x.1, RA.cut u.2 x.2⟩ (ih v)
    exact key a b⟩
  | .dfz _, ⟨us, _, a⟩, ⟨ws, h, b⟩ => ⟨ws, h, by
    have key : ∀ {ks : List (Key × A)} {us ws : List (Key × V)}, Paired (fun (a : Key × A) (b : Key × V) => a.1 = b.1 ∧ RA r a.2 b.2) ks us → Paired (fun (a : Key × A) (b : Key × V) => a.1 = b.1 ∧ RA (r ++ q) a.2 b.2) ks ws → Paired (fun (a : Key × A) (b : Key × V) => a.1 = b.1 ∧ RA r a.2 b.2) ks ws := by
      intro ks us ws h1 h2
      induction h2 generalizing us with
      | nil => exact .nil
      | cons x y ih =>
        cases h1 with
        | cons u v => exact .cons ⟨x.1, RA.cut u.2 x.2⟩ (ih v)
    exact key a b⟩
  | .dt _, ⟨us, _, a⟩, ⟨ws, h, b⟩ => ⟨ws, h, by
    have key : ∀ {ks : List (List Key × A)} {us ws : List (List Key × V)}, Paired (fun (a : List Key × A) (b : List Key × V) => a.1 = b.1 ∧ RA r a.2 b.2) ks us → Paired (fun (a : List Key × A) (b : List Key × V) => a.1 = b.1 ∧ RA (r ++ q) a.2 b.2) ks ws → Paired (fun (a : List Key × A) (b : List Key × V) => a.1 = b.1 ∧ RA r a.2 b.2) ks ws := by
      intro ks us ws h1 h2
      induction h2 generalizing us with
      | nil => exact .nil
      | cons x y ih =>
        cases h1 with
        | cons u v => exact .cons ⟨x.1, RA.cut u.2 x.2⟩ (ih v)
    exact key a b⟩
  | .dtf _, ⟨us, _, a⟩, ⟨ws, h, b⟩ => ⟨ws, h, by
    have key : ∀ {ks : List (List Key × A)} {us ws : List (List Key × V)}, Paired (fun (a : List Key × A) (b : List Key × V) => a.1 = b.1 ∧ RA r a.2 b.2) ks us → Paired (fun (a : List Key × A) (b : List Key × V) => a.1 = b.1 ∧ RA (r ++ q) a.2 b.2) ks ws → Paired (fun (a : List Key × A) (b : List Key × V) => a.1 = b.1 ∧ RA r a.2 b.2) ks ws := by
      intro ks us ws h1 h2
      induction h2 generalizing us with
      | nil => exact .nil
      | cons x y ih =>
        cases h1 with
        | cons u v => exact .cons ⟨x.1, RA.cut u.2 x.2⟩ (ih v)
    exact key a b⟩
  | .set _, ⟨_, L1, _, a, _⟩, ⟨L, L0, h, b, pm⟩ => ⟨L, L0, h, by
    have key : ∀ {es : List (Nat × List Int)} {us ws : List (Addr × List Int)}, Paired (fun (e : Nat × List Int) (q : Addr × List Int) => r[e.1]? = some q.1 ∧ e.2 = q.2) es us → Paired (fun (e : Nat × List Int) (z : Addr × List Int) => (r ++ q)[e.1]? = some z.1 ∧ e.2 = z.2) es ws → Paired (fun (e : Nat × List Int) (q : Addr × List Int) => r[e.1]? = some q.1 ∧ e.2 = q.2) es ws := by
      intro es us ws h1 h2
      induction h2 generalizing us with
      | nil => exact .nil
      | cons x y ih =>
        cases h1 with
        | cons u v => exact .cons ⟨get_cut u.1 x.1, x.2⟩ (ih v)
    exact key a b, pm⟩
  | .clo _ _ none, ⟨_, _, a, _⟩, ⟨c', dV, h1, h2, h3⟩ => ⟨c', dV, get_cut a h1, h2, h3⟩
  | .clo _ _ (some _), ⟨_, _, a, ⟨_, b, _⟩, _⟩, ⟨c', dV, h1, ⟨T0, h2, h4⟩, h3⟩ => ⟨c', dV, get_cut a h1, ⟨T0, get_cut b h2, h4⟩, h3⟩
/-- what was there before stands by itself -/
theorem Rel.cut {r' : List Addr} {S' : List O} (R0 : Rel t r S H0) (ex : Ext r r') (pr : S <+: S') (R : Rel t r' S' H) : Rel t r S H := by
  obtain ⟨q, rfl⟩ := ex
  obtain ⟨G, rfl⟩ := pr
  have gl : ∀ {l : Nat} {p : Addr}, r[l]? = some p → (r ++ q)[l]? = some p := fun {l p} h => by
    rw [List.getElem?_append_left (List.getElem?_eq_some_iff.mp h).1]
    exact h
  have gS : ∀ {l : Nat} {o : O}, S[l]? = some o → (S ++ G)[l]? = some o := fun {l o} h => by
    rw [List.getElem?_append_left (List.getElem?_eq_some_iff.mp h).1]
    exact h
  exact ⟨fun l m p o u h1 h2 h3 h4 s1 s2 => R.inj l m p o u (gl h1) (gl h2) (gS h3) (gS h4) s1 s2, R0.len, fun l p o h1 h2 => (R0.ob l p o h1 h2).cut (R.ob l p o (gl h1) (gS h2)), R.tb⟩
end
section
variable {X : Cx} {t : Tx} {W : WX}
theorem trim_lift {f : F} (hp : PreF f) {σ : St} {H : Hp} {Q : VK} (h : lift t W (trimF f) σ H Q) : lift t W f σ H Q := by
  obtain ⟨r, sa, S, x, R, rs, e, p⟩ := h
  unfold trimF at e
  cases hf : f sa S with
  | none =>
    rw [hf] at e
    cases e
  | some y =>
    rw [hf] at e
    have pr := hp sa S y hf
    refine ⟨r, sa, S, y, R, rs, hf, ?_⟩
    cases y with
    | er c S' =>
      have e : Vai.R.er c S = x := Option.some.inj e
      subst e
      exact fun r' H' ex R' => p r H' (Ext.refl r) (R.cut ex pr R')
    | ok a S' =>
      intro r' H' v ex R' ra
      have e : trimR S (.ok a S') = x := Option.some.inj e
      by_cases hfl : flatA a = true
      · rw [show trimR S (.ok a S') = .ok a S from if_pos hfl] at e
        subst e
        exact p r H' v (Ext.refl r) (R.cut ex pr R') (RA.flat hfl ra)
      · rw [show trimR S (.ok a S') = .ok a S' from if_neg hfl] at e
        subst e
        exact p r' H' v ex R' ra
theorem v_trim {e : Expr} {f : F} (hp : PreF f) (h : PE X e (lift t W f)) : PE X e (lift t W (trimF f)) := h.weak fun _ _ _ q => trim_lift hp q
theorem v_trimT {e : Expr} {f : F} (hp : PreF f) (h : PT X e (liftB t W f)) : PT X e (liftB t W (trimF f)) := h.weak fun _ _ _ q => trim_lift hp q
theorem pre_trim {f : F} (hp : PreF f) : PreF (trimF f) := fun sa S x e => by
  unfold trimF at e
  cases hf : f sa S with
  | none =>
    rw [hf] at e
    cases e
  | some y =>
    rw [hf] at e
    have pr := hp sa S y hf
    have e : trimR S y = x := Option.some.inj e
    subst e
    cases y with
    | er c S' => exact pf0 S
    | ok a S' =>
      by_cases hfl : flatA a = true
      · rw [show trimR S (.ok a S') = .ok a S from if_pos hfl]
        exact pf0 S
      · rw [show trimR S (.ok a S') = .ok a S' from if_neg hfl]
        exact pr
theorem pre_trimD {d : FD} (hp : PreD d) : PreD (trimD d) := fun as S x e => by
  unfold trimD at e
  cases hf : d as S with
  | none =>
    rw [hf] at e
    cases e
  | some y =>
    rw [hf] at e
    have pr := hp as S y hf
    have e : trimR S y = x := Option.some.inj e
    subst e
    cases y with
    | er c S' => exact pf0 S
    | ok a S' =>
      by_cases hfl : flatA a = true
      · rw [show trimR S (.ok a S') = .ok a S from if_pos hfl]
        exact pf0 S
      · rw [show trimR S (.ok a S') = .ok a S' from if_neg hfl]
        exact pr
theorem DefOk.trim {P : Program} {w : World} {K : PySem.W.Frag} {mg : Str → Option Value} {base : Heap} {x : Str} {ps : List Str} {k : Nat} {d : FD} (hp : PreD d) (h : DefOk P w K mg base t x ps k d) : DefOk P w K mg base t x ps k (trimD d) := by
  obtain ⟨f, fd, h1, h2, h3, h4⟩ := h.ex
  refine ⟨f, fd, h1, h2, h3, h4.imp fun vs H Q E ⟨hl, r, as, S, x, R, ra, e, p⟩ => ?_⟩
  unfold trimD at e
  cases hf : d as S with
  | none =>
    rw [hf] at e
    cases e
  | some y =>
    rw [hf] at e
    have pr := hp as S y hf
    refine ⟨hl, r, as, S, y, R, ra, hf, ?_⟩
    cases y with
    | er c S' =>
      have e : Vai.R.er c S = x := Option.some.inj e
      subst e
      exact fun r' H' ex R' => p r H' (Ext.refl r) (R.cut ex pr R')
    | ok a S' =>
      intro r' H' v ex R' ra
      have e : trimR S (.ok a S') = x := Option.some.inj e
      by_cases hfl : flatA a = true
      · rw [show trimR S (.ok a S') = .ok a S from if_pos hfl] at e
        subst e
        exact p r H' v (Ext.refl r) (R.cut ex pr R') (RA.flat hfl ra)
      · rw [show trimR S (.ok a S') = .ok a S' from if_neg hfl] at e
        subst e
        exact p r' H' v ex R' ra
/-- another function of the same promise -/
theorem DefOk.imp {P : Program} {w : World} {K : PySem.W.Frag} {mg : Str → Option Value} {base : Heap} {x : Str} {ps : List Str} {k : Nat} {d d' : FD} (h : DefOk P w K mg base t x ps k d) (hd : ∀ as S x, d' as S = some x → d as S = some x) : DefOk P w K mg base t x ps k d' := by
  obtain ⟨f, fd, h1, h2, h3, h4⟩ := h.ex
  exact ⟨f, fd, h1, h2, h3, h4.imp fun vs H Q E ⟨hl, r, as, S, x, R, ra, e, p⟩ => ⟨hl, r, as, S, x, R, ra, hd as S x e, p⟩⟩
end
/-! ### what is left behind may be left out, and the rest counted anew -/
def AR (sel : List Nat) : A → A → Prop
  | .ref j, b => ∃ i, sel[j]? = some i ∧ b = .ref i
  | a, b => b = a
def OR (sel : List Nat) : O → O → Prop
  | .lst xs, o => ∃ ys, o = .lst ys ∧ Paired (AR sel) xs ys
  | .tup xs, o => ∃ ys, o = .tup ys ∧ Paired (AR sel) xs ys
  | .scr ns, o => o = .scr ns
  | _, _ => False
/-- x2 is x1 with only what sel names -/
def Pull (n : Nat) (S1 S2 : List O) (a1 a2 : A) : Prop := ∃ sel : List Nat, (∀ j, j < n → sel[j]? = some j) ∧ sel.length = S2.length ∧ sel.Nodup ∧ AR sel a2 a1 ∧ ∀ (j i : Nat) (o : O), sel[j]? = some i → S2[j]? = some o → ∃ o', S1[i]? = some o' ∧ OR sel o o'
section
variable {t : Tx} {r r' : List Addr} {S S1 S2 : List O} {H H0 : Hp} {a1 a2 : A} {v : V}
theorem Rel.pull (R0 : Rel t r S H0) (ex : Ext r r') (R : Rel t r' S1 H) (ra : RA r' a1 v) (h : Pull S.length S1 S2 a1 a2) : ∃ r2, Ext r r2 ∧ Rel t r2 S2 H ∧ RA r2 a2 v := by
  obtain ⟨sel, s1, s2, s3, s4, s5⟩ := h
  have inS : ∀ {j i : Nat}, sel[j]? = some i → ∃ p, r'[i]? = some p := fun {j i} e => by
    have hj : j < S2.length := by rw [← s2]; exact (List.getElem?_eq_some_iff.mp e).1
    obtain ⟨o', e', _⟩ := s5 j i _ e (List.getElem?_eq_getElem hj)
    have hi : i < r'.length := by rw [R.len]; exact (List.getElem?_eq_some_iff.mp e').1
    exact ⟨_, List.getElem?_eq_getElem hi⟩
  let r2 : List Addr := sel.map fun i => (r'[i]?).getD 0
  have g2 : ∀ {j i : Nat} {p : Addr}, sel[j]? = some i → r'[i]? = some p → r2[j]? = some p := fun {j i p} e1 e2 => by
    show (sel.map fun i => (r'[i]?).getD 0)[j]? = some p
    rw [List.getElem?_map, e1]
    show some ((r'[i]?).getD 0) = some p
    rw [e2]
    rfl
  have g2i : ∀ {j : Nat} {p : Addr}, r2[j]? = some p → ∃ i, sel[j]? = some i ∧ r'[i]? = some p := fun {j p} e => by
    have e : (sel.map fun i => (r'[i]?).getD 0)[j]? = some p := e
    rw [List.getElem?_map] at e
    cases hs : sel[j]? with
    | none =>
      rw [hs] at e
      cases e
    | some i =>
      rw [hs] at e
      obtain ⟨p', hp⟩ := inS hs
      have e : some ((r'[i]?).getD 0) = some p := e
      rw [hp] at e
      cases e
      exact ⟨i, rfl, hp⟩
  have ar : ∀ {a b : A} {v : V}, AR sel a b → RA r' b v → RA r2 a v := fun {a b v} h1 h2 => by
    cases a with
    | ref j =>
      obtain ⟨i, e, rfl⟩ := h1
      obtain ⟨p, e2, rfl⟩ := h2
      exact ⟨p, g2 e e2, rfl⟩
    | _ =>
      cases h1
      exact h2
  have ars : ∀ {xs ys : List A} {vs : List V}, Paired (AR sel) xs ys → Paired (RA r') ys vs → Paired (RA r2) xs vs := fun {xs ys vs} h1 h2 => by
    induction h1 generalizing vs with
    | nil =>
      cases h2
      exact .nil
    | cons x y ih =>
      cases h2 with
      | cons u w => exact .cons (ar x u) (ih w)
  refine ⟨r2, ?_, ⟨fun l m p o u h1 h2 h3 h4 c1 c2 => ?_, ?_, fun l p o h1 h2 => ?_, R.tb⟩, ar s4 ra⟩
  · obtain ⟨q, rfl⟩ := ex
    refine ⟨r2.drop r.length, ?_⟩
    have hp : r2.take r.length = r := by
      apply List.ext_getElem?
      intro j
      rw [List.getElem?_take]
      split
      · rename_i hj
        have gq : (r ++ q)[j]? = some r[j] := by
          rw [List.getElem?_append_left hj]
          exact List.getElem?_eq_getElem hj
        rw [g2 (s1 j (by rw [← R0.len]; exact hj)) gq]
        exact (List.getElem?_eq_getElem hj).symm
      · rename_i hj
        exact (List.getElem?_eq_none (by omega)).symm
    calc r2 = r2.take r.length ++ r2.drop r.length := (List.take_append_drop _ _).symm
      _ = r ++ r2.drop r.length := by rw [hp]
  · obtain ⟨i, e1, e2⟩ := g2i h1
    obtain ⟨k, e3, e4⟩ := g2i h2
    obtain ⟨o', f1, f2⟩ := s5 l i o e1 h3
    obtain ⟨u', f3, f4⟩ := s5 m k u e3 h4
    have sc : ∀ {o o' : O}, OR sel o o' → o.isScr = false → o'.isScr = false := fun {o o'} h1 h2 => by
      cases o with
      | lst xs => obtain ⟨ys, rfl, _⟩ := h1; rfl
      | tup xs => cases h2
      | scr ns => cases h2
      | _ => exact h1.elim
    have := R.inj i k p o' u' e2 e4 f1 f3 (sc f2 c1) (sc f4 c2)
    subst this
    have hl := (List.getElem?_eq_some_iff.mp e1).1
    exact (List.getElem?_inj hl s3).mp (e1.trans e3.symm)
  · show (sel.map _).length = _
    rw [List.length_map]
    exact s2
  · obtain ⟨i, e1, e2⟩ := g2i h1
    obtain ⟨o', f1, f2⟩ := s5 l i o e1 h2
    have x := R.ob i p o' e2 f1
    cases o with
    | lst xs =>
      obtain ⟨ys, rfl, g⟩ := f2
      obtain ⟨vs, y1, y2⟩ := x
      exact ⟨vs, y1, ars g y2⟩
    | tup xs =>
      obtain ⟨ys, rfl, g⟩ := f2
      obtain ⟨vs, y1, y2⟩ := x
      have nt : ∀ {xs ys : List A}, Paired (AR sel) xs ys → noTy ys = true → noTy xs = true := fun {xs ys} h1 => by
        induction h1 with
        | nil => exact fun _ => rfl
        | cons x y ih =>
          intro h
          unfold noTy at h ⊢
          rw [List.all_cons, Bool.and_eq_true] at h ⊢
          refine ⟨?_, ih h.2⟩
          rename_i a b _ _
          cases a with
          | ty n => cases x; exact h.1
          | _ => rfl
      exact ⟨vs, y1.imp id fun z => ⟨nt g z.1, z.2⟩, ars g y2⟩
    | scr ns =>
      cases f2
      exact x
    | _ => exact f2.elim
theorem DefOk.pull {P : Program} {w : World} {K : PySem.W.Frag} {mg : Str → Option Value} {base : Heap} {x : Str} {ps : List Str} {k : Nat} {d d' : FD} (h : DefOk P w K mg base t x ps k d) (hd : ∀ as S x, d' as S = some x → ∃ a2 S2 a1 S1, x = .ok a2 S2 ∧ d as S = some (.ok a1 S1) ∧ Pull S.length S1 S2 a1 a2) : DefOk P w K mg base t x ps k d' := by
  obtain ⟨f, fd, h1, h2, h3, h4⟩ := h.ex
  refine ⟨f, fd, h1, h2, h3, h4.imp fun vs H Q E ⟨hl, r, as, S, x, R, ra, e, p⟩ => ?_⟩
  obtain ⟨a2, S2, a1, S1, rfl, e1, pl⟩ := hd as S x e
  refine ⟨hl, r, as, S, _, R, ra, e1, fun r' H' v ex R' rv => ?_⟩
  obtain ⟨r2, x1, x2, x3⟩ := R.pull ex R' rv pl
  exact p r2 H' v x1 x2 x3
end
end Vai
set_option maxRecDepth 100000
set_option maxHeartbeats 4000000
namespace Vai
open PySem L2 PySem.Spec PyProof.Rows
/-! ### [y for y in lambdas if err(y) != z] -/
section
variable {X : Cx} {t : Tx} {W : WX}
theorem v_lcE {t : Tx} {W : WX} {x y z e0 : PySem.Str} {cs : List (Value × PySem.Str)} {nm : Nat → Option PySem.Str} {ks : Nat → Option (Bool × F)} {j k zj : Nat} {iter : Expr} {scope : Scope} {p p1 p2 p3 p4 p5 p6 pos : Pos} {fi : FI} (hN : X.N.Nodup) (hu : X.A.units + 64 < cLine) (hi : PI X (.Name y p1) iter (liftI t W fi)) (ok : BlkOk X.N X.env.scope scope [(y, j)])
    (G : ErrOk X.prog X.w X.K X.mg X.base x cs e0) (tells : Tells t cs nm) (hql : t.ql = X.env.qual ++ "<lambda>") (hce : t.cells = X.env.cells) (hr : Room (k + 2) X.A) (LO : LamsOk X t k ks) (hj : X.N[j]? = some y) (hK : X.K = t.K)
    (hg : ∀ (s : Shared) (H : Hp) (C : Addr) (cl : List (PySem.Str × Addr)) (fp : List Addr), PG (X.blk s H scope (compEnvC scope cl C X.env) fp) (.Name y p1) (liftGx t [j] (nameX j)))
    (he : ∀ (s : Shared) (H : Hp) (C : Addr) (cl : List (PySem.Str × Addr)) (fp : List Addr), PE (X.blk s H scope (compEnvC scope cl C X.env) fp) (.Name y p2) (lift t W0 (varF j)))
    (hv : ∀ (C : Addr) (cl : List (PySem.Str × Addr)), Vis (compEnvC scope cl C X.env).scope y) (hgx : ∀ (s : Shared) (H : Hp) (C : Addr) (cl : List (PySem.Str × Addr)) (fp : List Addr), Gl (X.blk s H scope (compEnvC scope cl C X.env) fp) x)
    (hdb : (x == ("__debug__" : PySem.Str)) = false := by decide) (hyd : (y == ("__debug__" : PySem.Str)) = false := by decide) (hyc : (y == ("__classdict__" : PySem.Str)) = false := by decide) (hc : X.calm = true := by rfl) (hs : ∀ x, foldedSetIterable iter X.env x = pure x := by intro _; rfl) :
    PE X (.ListComp (.Name y p2) [⟨.Name y p1, iter, [.Compare (.Call (.Name x p) [.Name y p3] [] p4) [.NotEq] [.Constant (.str z) zj p5] p6], 0⟩] scope pos)
      (lift t W (lcF fi (nameX j) [j] (opF (eqG true) (errcF nm e0 ks j [j]) (conF (.str z))) (varF j))) := by
  refine (pe_lcJ (own := [(y, j)]) (tt := liftB t W0 (opF (eqG true) (errcF nm e0 ks j [j]) (conF (.str z)))) hc hN hi ok hg (fun pins σ s H C cl fp I3 f3 => pts_one ?_) he hs).weak fun _ _ _ h => lc_ok h
  have h1 := v_errc (t := t) (W := W0) (vs := [j]) (py := p3) (p := p) (pos := p4) G tells hql hce hr LO I3 f3 hj (hv C cl) hK (hgx s H C cl fp) (fun _ => rfl) hdb hyd hyc (e0 := e0)
  have hu2 : (X.blk s H scope (compEnvC scope cl C X.env) fp).A.units + 64 < cLine := hu
  have h2 := pt_cmpR (pos := p6) (op_neD hu2) h1 (v_str (t := t) (W := W0) (z := z) (j := zj) (pos := p5)) (nomark _)
  exact h2.weak fun σ2 H2 Q2 h => ⟨h.1, op_ok (s_ne hK) h.2⟩
end
end Vai
set_option maxRecDepth 100000
set_option maxHeartbeats 4000000
namespace Vai
open PySem L2 PySem.Spec PyProof.Rows
/-! ### the law's def: its code object is known -/
structure FunK (K : PySem.W.Frag) (x qual : PySem.Str) (st : Stmt) (f : Addr) (fd : FuncData) (c : Addr) : Prop where
  ex : ∃ (oc : Value) (od : Option Addr) (kV doc pm : Value) (an : Option Addr) (ct : Value) (osl : Array (Option Value)),
    fd = PySem.W.fnOf x qual (defArgs st) (defBody st) (defScope st) .none kV doc pm an (.ref c) ct ∧ K.lookup f = some ⟨oc, od, .func fd, osl⟩ ∧ PySem.W.codeIn K (.ref c) qual = true
theorem FunK.okX {P : Program} {w : World} {K : PySem.W.Frag} {mg : PySem.Str → Option Value} {base : Heap} {x qual : PySem.Str} {st : Stmt} {f c : Addr} {fd : FuncData} {N ps : List PySem.Str} {k : Nat} {sp : Sp} (F : FunK K x qual st f fd c) (S : FnScope N ps (defScope st)) (len : ∀ vs H Q E, sp vs H Q E → vs.length = ps.length)
    (hbody : ∀ (A : Around) (outer : List Env) (s : Shared) (H : Hp) (vs : List V) (Q : VK) (E : XK), Room k (A.deeper (envOfC qual (defScope st) s.heap.objs.size f (.ref c))) → sp vs H Q E →
      ∃ t, PSs (cxOf (L2.CX P w) P w K mg base N qual (defScope st) f (.ref c) A outer s H E) (defBody st) t ∧ t { nx := fun _ H' => Q .non H', rt := Q } (L2.start N vs) H) : FnOk P w K mg base (L2.CX P w) (k + 1) f fd ps sp := by
  obtain ⟨oc, od, kV, doc, pm, an, ct, osl, rfl, lk, hcd⟩ := F.ex
  exact fn_of lk hcd S len fun A outer s H vs Q E hr hsp => hbody A outer s H vs Q E hr hsp
theorem lamK0 {X : Cx} {i : LamI} (L : LamX.LamS X.env.scope i.scope) (hb : ∀ (q : PySem.Str) (cl : List (PySem.Str × Addr)) (doc pm cdv ctv : Value), bindArgs (PySem.W.kdv_fn "<lambda>" q i.params (.expr i.body) i.scope cl .none doc pm cdv ctv) ⟨[], []⟩ = pure []) : LamK X i false :=
  ⟨L.co, L.gen, L.kind, fun y hy => (L.own y hy).2, fun y hy e => L.free y hy e, fun _ => ⟨L, hb⟩, fun z => by cases z⟩
theorem lamK1 {X : Cx} {i : LamI} {a0 : PySem.Str} (L : LamS1 X.N X.env.scope i.scope a0) (hb : ∀ (q : PySem.Str) (cl : List (PySem.Str × Addr)) (T0 : Addr) (n : Int) (tk0 : Tok) (doc pm cdv ctv : Value), ∃ kk, bindArgs (PySem.W.kdv_fn "<lambda>" q i.params (.expr i.body) i.scope cl (.ref T0) doc pm cdv ctv) ⟨[], []⟩ = seqItems? (.ref T0) >>= kk ∧ kk (some #[.int n tk0]) = pure [(a0, .int n tk0)]) : LamK X i true :=
  ⟨L.co, L.gen, L.kind, L.noCell, L.free, fun z => (by cases z), fun _ => ⟨a0, L, hb⟩⟩
/-- the parts of a text in which lambdas stand -/
def lamOf : Expr → LamI
  | .Lambda p b s _ => ⟨p, b, s⟩
  | e => ⟨⟨[], [], none, [], [], none, []⟩, e, default⟩
def nulE : Expr := .Constant .none 0 ⟨0, 0, 0, 0⟩
def lstEs : Expr → List Expr
  | .List es _ => es
  | _ => []
def asgE : Stmt → Expr
  | .Assign _ e _ => e
  | _ => nulE
def ifE : Stmt → Expr
  | .If e _ _ _ => e
  | _ => nulE
def cmpL : Expr → Expr
  | .Compare e _ _ _ => e
  | _ => nulE
def compIt : Expr → Expr
  | .ListComp _ (g :: _) _ _ => g.iter
  | _ => nulE
def binR : Expr → Expr
  | .BinOp _ _ e _ => e
  | _ => nulE
end Vai
set_option maxRecDepth 100000
set_option maxHeartbeats 4000000
/-! sorted of a tuple of ints: the hand layer knows lists alone -/
namespace SrtO
open PySem PyProof.Rows Srt
section
variable {prog : Program} {w : World} {A : Around} {E : Value → Shared → Prop} {s : Shared}
theorem collect_tupW {l : Addr} {vs : List Value} {Q : List Value → Shared → Prop} (hl : IsTup s.heap l vs.toArray)
    (h : Q vs { s with heap := (s.heap.push (seqObj "list" #[] 0)).update s.heap.objs.size (Obj.mapSeq (· ++ vs.toArray)) }) (hsz : vs.length ≤ sizeLine) :
    wpAny (model prog w) A (collect (.ref l)) Q E s := by
  obtain ⟨o, ho, hc, n, hd⟩ := id hl
  unfold collect
  refine wpAny_bind (wpAny_runValue (codeAny_builtin entry_proto_collect' ?_))
  show wpAny _ _ (do again (.builtin "list.__iadd__" ⟨[← newList [], .ref l], []⟩)) _ _ s
  refine wpAny_bind (wpAny_newList (wpAny_pure ⟨Code.quiet_builtin _ (by decide +kernel), codeAny_builtin entry_list_iadd' ?_⟩))
  show wpAny _ _ (Builtin.List.listExtendWith (.ref s.heap.objs.size) (.ref l) (.ref s.heap.objs.size)) _ _ { s with heap := s.heap.push (seqObj "list" #[] 0) }
  unfold Builtin.List.listExtendWith
  have ho' : (s.heap.push (seqObj "list" #[] 0)).get? l = some o := Heap.get?_push_of_some _ ho
  refine wpAny_bind (wpAny_typeOf (T := "tuple") ⟨o, ho', hc⟩ ?_)
  have ht : (Value.type "tuple" == Value.type "tuple") = true := by rfl
  rw [if_pos (by rw [ht]; simp)]
  refine wpAny_bind (listItems_at ho' hd ?_)
  refine wpAny_bind (listItems_at (xs := #[]) (n := 0) (Heap.get?_push_size _ rfl) rfl ?_)
  rw [if_neg (by simp)]
  refine wpAny_bind (listUpdate_at (xs := #[]) (n := 0) (Heap.get?_push_size _ rfl) rfl ?_ (Nat.zero_le _) (by show (#[] ++ vs.toArray).size ≤ sizeLine + 1; simp only [Array.size_append, List.size_toArray, List.length_nil]; omega))
  refine wpAny_pure ?_
  show wpAny (model prog w) A (do
      let o ← load s.heap.objs.size
      match o.data with
      | .seq xs _ => pure xs.toList
      | _ => unsupported "internal:collect") Q E { s with heap := (s.heap.push (seqObj "list" #[] 0)).update s.heap.objs.size (Obj.mapSeq (· ++ vs.toArray)) }
  refine wpAny_bind (wpAny_load (get?_update_seq (Heap.get?_push_size _ rfl) _) ?_)
  show wpAny _ _ (pure ((#[] : Array Value) ++ vs.toArray).toList) Q E _
  rw [show ((#[] : Array Value) ++ vs.toArray).toList = vs by simp]
  exact wpAny_pure h
theorem sorted_ordW {l : Addr} {vs : List Value} {ltv : Value → Value → Bool} {Q : Value → Shared → Prop} (O : Swo ltv) (hl : IsTup s.heap l vs.toArray) (hz : vs.length ≤ sizeLine)
    (hS : 2 ≤ vs.length → ∀ (h₁ : Heap) (a : Addr), h₁.get? a = some (seqObj "list" vs.toArray 0) → (∀ b o, s.heap.get? b = some o → b ≠ a ∧ h₁.get? b = some o) → SortableO prog w A.in1.in1 { s with heap := h₁ } a vs ltv)
    (h : ∀ out : List Value, Srtd ltv out → Stb ltv out vs → Q (.ref (s.heap.objs.size + 1)) { s with heap := sortedAll s.heap vs out.toArray }) :
    wpAny (model prog w) A (call (.builtin "sorted") [.ref l]) Q E s := by
  refine Calls.call_function_entry kind_sorted plain_sorted entry_sorted (args_sorted1 _) ?_
  unfold Builtin.«sorted»
  refine wpAny_bind (m := checkCount "sorted" 1 1 _) (wpAny_pure ?_)
  refine wpAny_bind (collect_tupW hl ?_ hz)
  refine wpAny_bind (wpAny_newList ?_ hz)
  have hsz : ((s.heap.push (seqObj "list" #[] 0)).update s.heap.objs.size (Obj.mapSeq (· ++ vs.toArray))).objs.size = s.heap.objs.size + 1 := by
    rw [Heap.size_update, size_push']
  have hoL : (((s.heap.push (seqObj "list" #[] 0)).update s.heap.objs.size (Obj.mapSeq (· ++ vs.toArray))).push (seqObj "list" vs.toArray 0)).get? (s.heap.objs.size + 1) = some (seqObj "list" vs.toArray 0) := by
    rw [← hsz]; exact Heap.get?_push_size _ rfl
  have keep : ∀ b o, s.heap.get? b = some o → b ≠ s.heap.objs.size + 1 ∧ (((s.heap.push (seqObj "list" #[] 0)).update s.heap.objs.size (Obj.mapSeq (· ++ vs.toArray))).push (seqObj "list" vs.toArray 0)).get? b = some o := fun b o q => by
    have hlt : b < s.heap.objs.size := Heap.lt_size q
    refine ⟨Nat.ne_of_lt (Nat.lt_succ_of_lt hlt), Heap.get?_push_of_some _ ?_⟩
    rw [Heap.get?_update_ne _ _ _ _ (Nat.ne_of_lt hlt)]
    exact Heap.get?_push_of_some _ q
  show wpAny _ _ _ _ _ { s with heap := ((s.heap.push (seqObj "list" #[] 0)).update s.heap.objs.size (Obj.mapSeq (· ++ vs.toArray))).push (seqObj "list" vs.toArray 0) }
  rw [hsz]
  refine wpAny_bind (wpAny_holding (wpAny_call_entry slot_list_sort ⟨_, hoL, rfl⟩ entry_list_sort (list_sort_ord O hoL hz (fun h2 => hS h2 _ _ hoL keep) fun out hs hb => ⟨_, rfl, ?_⟩) (args_list_sort _)))
  exact wpAny_pure ⟨_, rfl, h out hs hb⟩
end
end SrtO
namespace Vai
open PySem L2 PySem.Spec PyProof.Rows
section
variable {X : Cx}
def rSortedIT (K : PySem.W.Frag) : List V → Hp → VK → Prop := fun vs H Q => ∃ (a : Addr) (ns : List Int), vs = [V.ref a] ∧ SqT K H a (ns.map V.int) ∧
  ∀ (ns' : List Int) (p : Addr), ns'.Perm ns → ns'.Pairwise (· ≤ ·) → H p = none → Q (.ref p) (upd H p (.lst (ns'.map V.int)))
theorem cr_sortedIT : CallR X (.builtin "sorted") (rSortedIT X.K) := by
  intro pins s σ H vs us Q I r h
  obtain ⟨a, ns, rfl, hs, q⟩ := h
  obtain ⟨its, rv, hl, hz⟩ := I.tuple hs
  rw [Vals.ref1 r]
  have hi := rv.ints
  refine SrtO.sorted_ordW SrtO.swo_int hl (by rw [← rv.length]; exact hz) (fun h2 h₁ a' _ _ => SrtO.ints_sortable hi h2) fun out h1 h2 => ?_
  obtain ⟨k1, k2, k3⟩ := SrtO.ints_out hi h1 h2
  obtain ⟨ep, he'⟩ := PyProof.Rows.sortedAll_at s.heap its out.toArray
  have hlen : ((out.map SrtO.iv).map V.int).length ≤ sizeLine := by
    rw [List.length_map, k2.length_eq]
    rw [List.length_map] at hz
    exact hz
  exact ⟨.ref _, upd H (s.heap.objs.size + 1) (.lst ((out.map SrtO.iv).map V.int)), I.laid (t' := s.toks) (fun _ _ => PyProof.Rows.sortedAll_old) (Nat.le_succ _) ⟨hlen, out, ep, vals_of_ints k1, he'⟩, rfl, q _ _ k2 k3 (I.hok.fresh (Nat.le_succ _))⟩
end
/-! ### sorted in the evaluator -/
def sortL (ns : List Int) : List Int := ns.mergeSort fun a b => decide (a ≤ b)
theorem sortL_perm (ns : List Int) : (sortL ns).Perm ns := List.mergeSort_perm ns _
theorem sortL_pw (ns : List Int) : (sortL ns).Pairwise (· ≤ ·) := by
  have h := List.pairwise_mergeSort (le := fun a b : Int => decide (a ≤ b)) (fun a b c h1 h2 => by
    have := of_decide_eq_true h1
    have := of_decide_eq_true h2
    exact decide_eq_true (by omega)) (fun a b => by
    rw [Bool.or_eq_true, decide_eq_true_eq, decide_eq_true_eq]
    omega) ns
  exact h.imp fun h => of_decide_eq_true h
theorem sort_uniq : ∀ {xs ys : List Int}, xs.Perm ys → xs.Pairwise (· ≤ ·) → ys.Pairwise (· ≤ ·) → xs = ys
  | [], ys, p, _, _ => (List.Perm.eq_nil p.symm).symm
  | x :: xs, [], p, _, _ => absurd p.length_eq (by simp)
  | x :: xs, y :: ys, p, hx, hy => by
    have e : x = y := by
      have h1 : x ∈ y :: ys := p.mem_iff.mp List.mem_cons_self
      have h2 : y ∈ x :: xs := p.mem_iff.mpr List.mem_cons_self
      rw [List.pairwise_cons] at hx hy
      rcases List.mem_cons.mp h1 with h1 | h1
      · exact h1
      · rcases List.mem_cons.mp h2 with h2 | h2
        · exact h2.symm
        · have := hx.1 _ h2
          have := hy.1 _ h1
          omega
    subst e
    rw [sort_uniq (List.perm_cons _ |>.mp p) (List.pairwise_cons.mp hx).2 (List.pairwise_cons.mp hy).2]
def intsOf (S : List O) (l : Nat) : Option (List Int) := match S[l]? with
  | some (.lst xs) => toInts xs
  | some (.tup xs) => toInts xs
  | _ => none
def sortG : GN := fun as S => match as with
  | [.ref l] => (match intsOf S l with
    | some ns => some (.ref S.length, S ++ [.lst ((sortL ns).map A.int)])
    | none => none)
  | _ => none
theorem pr_ints {r : List Addr} : ∀ ns : List Int, Paired (RA r) (ns.map A.int) (ns.map V.int)
  | [] => .nil
  | n :: ns => .cons rfl (pr_ints ns)
def rSortU (K : PySem.W.Frag) : List V → Hp → VK → Prop := fun vs H Q => rSortedI K vs H Q ∨ rSortedIT K vs H Q
theorem cr_sortU {X : Cx} : CallR X (.builtin "sorted") (rSortU X.K) := by
  intro pins s σ H vs us Q I r h
  rcases h with h | h
  · exact cr_sortedI _ _ _ _ _ _ _ I r h
  · exact cr_sortedIT _ _ _ _ _ _ _ I r h
theorem ints_at {t : Tx} {r : List Addr} {S : List O} {H : Hp} {l : Nat} {ns : List Int} (R : Rel t r S H) {x : V} (ra : RA r (.ref l) x) (h : intsOf S l = some ns) : ∃ p, x = .ref p ∧ (SqL t.K H p (ns.map V.int) ∨ SqT t.K H p (ns.map V.int)) := by
  unfold intsOf at h
  split at h
  · rename_i xs hl
    obtain ⟨p, vs, rfl, g, q⟩ := seq_of R ra hl
    rw [toInts_ok q h] at g
    exact ⟨p, rfl, .inl (SqL.of g)⟩
  · rename_i xs hl
    obtain ⟨p, vs, rfl, g, q⟩ := tup_of R ra hl
    rw [toInts_ok q h] at g
    exact ⟨p, rfl, .inr (sqTo g)⟩
  · cases h
theorem s_sort {t : Tx} {K : PySem.W.Frag} (hK : K = t.K) : SemN t sortG (rSortU K) := by
  subst hK
  intro r S H as vs p Q R ra e k
  unfold sortG at e
  split at e
  · rename_i l
    obtain ⟨v, rfl, rv⟩ := pr_one ra
    split at e
    · rename_i ns hn
      cases e
      obtain ⟨a, rfl, h⟩ := ints_at R rv hn
      have fin : ∀ (ns' : List Int) (p : Addr), ns'.Perm ns → ns'.Pairwise (· ≤ ·) → H p = none → Q (.ref p) (upd H p (.lst (ns'.map V.int))) := fun ns' p h1 h2 hp => by
        rw [sort_uniq (h1.trans (sortL_perm ns).symm) h2 (sortL_pw ns)]
        exact allocG R k (fun q => ⟨_, upd_same, pr_ints _⟩) p hp
      rcases h with h | h
      · exact .inl ⟨a, ns, rfl, h, fin⟩
      · exact .inr ⟨a, ns, rfl, h, fin⟩
    · cases e
  · cases e
theorem pre_sortG : PreN sortG := fun a S z e => by
  unfold sortG at e
  split at e
  · split at e
    · cases e
      exact pfa S _
    · cases e
  · cases e
end Vai
set_option maxRecDepth 100000
set_option maxHeartbeats 4000000
namespace Vai
open PySem L2 PySem.Spec PyProof.Rows
/-! ### tuples of which is known that they are plain objects -/
section
variable {X : Cx}
def tTupZ (ta : TA) : TE := fun σ H Q => ta σ H fun xs H1 => xs.length ≤ sizeLine ∧ ∀ (p : Addr) (o : Obj), o.dict = none → H1 p = none → Q (.ref p) (upd H1 p (.frz o (.tup xs)))
theorem pe_tupZ {es : List Expr} {ta : TA} {x1} {pos : Pos} (h : PA X es ta) : PE X (.Tuple es x1 pos) (tTupZ ta) := ⟨fun pins s σ H Q I hq => wpAny_Tuple_spliced (thn (h.run pos pins s σ H _ I hq) fun us s1 ⟨xs, H1, I1, r, z, q⟩ => ⟨by rw [← r.length]; exact z,
  .ref s1.heap.objs.size, _, I1.laid (t' := s1.toks) (fun b u e => Heap.get?_push_of_some _ e) (Nat.le_refl _) (o := .frz { cls := .type "tuple", data := .seq us.toArray } (.tup xs)) ⟨Heap.get?_push_size _ rfl, z, us, r, ⟨_, Heap.get?_push_size _ rfl, rfl, _, rfl⟩⟩, rfl,
  q _ _ rfl (I1.hok.fresh (Nat.le_refl _))⟩)⟩
def rTupZ (K : PySem.W.Frag) : List V → Hp → VK → Prop := fun xs H Q => ∃ p ys, xs = [.ref p] ∧ SqL K H p ys ∧ ∀ (l : Addr) (o : Obj), o.dict = none → H l = none → Q (.ref l) (upd H l (.frz o (.tup ys)))
theorem cr_tupZ : CallR X (.type "tuple") (rTupZ X.K) := by
  intro pins s σ H xs us Q I r ⟨p, ys, e0, hq, q⟩
  subst e0
  obtain ⟨u, rfl, rx⟩ := vals1 r
  cases rx
  obtain ⟨its, rv, pl, hz⟩ := I.list hq
  refine call_tuple_list pl.isList (fun h' kp => ?_) (by rw [List.size_toArray, ← rv.length]; exact hz)
  have I1 : Inv X pins σ H { s with heap := h' } := I.kept (t' := s.toks) kp
  exact ⟨.ref h'.objs.size, _, I1.laid (t' := s.toks) (fun b o e => Heap.get?_push_of_some _ e) (Nat.le_refl _) (o := .frz { cls := .type "tuple", data := .seq its.toArray } (.tup ys)) ⟨Heap.get?_push_size _ rfl, hz, its, rv, IsTup.new _ _⟩, rfl, q _ _ rfl (I1.hok.fresh (Nat.le_refl _))⟩
def rCatZ (K : PySem.W.Frag) : R2 := fun x y H Q => ∃ a b xs ys, x = .ref a ∧ y = .ref b ∧ SqT K H a xs ∧ SqT K H b ys ∧ xs.length + ys.length ≤ sizeLine ∧
  (xs = [] → Q (.ref b) H) ∧ (xs ≠ [] → ys = [] → Q (.ref a) H) ∧ (xs ≠ [] → ys ≠ [] → ∀ (p : Addr) (o : Obj), o.dict = none → H p = none → Q (.ref p) (upd H p (.frz o (.tup (xs ++ ys)))))
theorem op_catZ : OpR X (binaryOp .Add) (rCatZ X.K) := by
  intro pins s σ H x y v u Q I rx ry ⟨a, b, xs, ys, e1, e2, ha, hb, hz, q0, q1, q2⟩
  subst e1 e2
  by_cases hx : xs = []
  · exact op_catA pins s σ H _ _ v u Q I rx ry ⟨a, b, xs, ys, rfl, rfl, ha, hb, hz, q0, fun z => absurd hx z, fun z => absurd hx z⟩
  · cases rx
    cases ry
    obtain ⟨its, r1, p1, _⟩ := I.tuple ha
    obtain ⟨its2, r2, p2, _⟩ := I.tuple hb
    exact HT.cat_tup p1 p2 (fun z => hx (r1.nil_iff.mp z)) (fun z => ⟨.ref a, H, I, rfl, q1 hx (r2.nil_iff.mp z)⟩) (fun z =>
      ⟨.ref s.heap.objs.size, _, I.laid (t' := s.toks) (o := .frz { cls := .type "tuple", data := .seq (its ++ its2).toArray } (.tup (xs ++ ys))) (fun b ob q => Heap.get?_push_of_some _ q) (Nat.le_refl _)
        ⟨Heap.get?_push_size _ rfl, by rw [List.length_append]; exact hz, _, r1.append r2, IsTup.new _ _⟩, rfl, q2 hx (fun w => z (r2.nil_iff.mpr w)) _ _ rfl (I.hok.fresh (Nat.le_refl _))⟩) (by rw [← r1.length, ← r2.length]; exact hz)
/-- t.index(k), t such a tuple of ints -/
def rIdxZ : V → List V → Hp → VK → Prop := fun x xs H Q => ∃ (p : Addr) (o : Obj) (ns : List Int) (k : Int) (j : Nat), x = .ref p ∧ xs = [.int k] ∧ H p = some (.frz o (.tup (ns.map V.int))) ∧ ns[j]? = some k ∧ (∀ m, m < j → ns[m]? ≠ some k) ∧ Q (.int (j : Nat)) H
theorem flat_ints : ∀ ns : List Int, (ns.map V.int).all flatV = true
  | [] => rfl
  | n :: ns => flat_ints ns
theorem mt_idxZ : MtR X "tuple.index" rIdxZ := by
  intro pins s σ H x xs v us Q I rx rs ⟨p, o, ns, k, j, e1, e2, hq, hy, hno, q⟩
  subst e1 e2
  cases rx
  obtain ⟨u, rfl, tk, rfl⟩ := vals1 rs
  obtain ⟨its, r, pl, hz⟩ := I.tuple (.inl (.inr ⟨o, hq⟩) : SqT X.K H p (ns.map V.int))
  obtain ⟨⟨cls, dd, dt, sl⟩, ho, hc, n, hd⟩ := pl
  simp only at hc hd
  subst hc hd
  have hl : its.toArray.size = ns.length := by rw [List.size_toArray, ← r.length, List.length_map]
  have at' : ∀ (m : Nat) (hm : m < its.toArray.size), ∃ y t', ns[m]? = some y ∧ its.toArray[m] = Value.int y t' := fun m hm => by
    have hm' : m < ns.length := hl ▸ hm
    obtain ⟨w, hw, t', hw'⟩ := r.get (i := m) (x := .int ns[m]) (by simp [hm'])
    exact ⟨ns[m], t', List.getElem?_eq_getElem hm', by rw [← hw', ← (List.getElem?_eq_some_iff.mp hw).2]; simp⟩
  have hj : j < its.toArray.size := hl.symm ▸ (List.getElem?_eq_some_iff.mp hy).1
  refine call_meets PySem.F.slot_tuple_index ⟨_, ho, rfl⟩ PySem.F.entry_tuple_index (PySem.F.args_tuple_index_2 _ _) (TI.tuple_indexAt p its.toArray n dd sl (.int k tk) (eqU (.int k)) j hj ?_ fun m hm hmj => ?_)
    ⟨ho, fun w hw => mem_eqAt (x := .int k) ⟨tk, rfl⟩ rfl r (flat_ints ns) w (by simpa using hw), ⟨.int (j : Nat), H, I.tok _, ⟨_, rfl⟩, q⟩⟩
  · obtain ⟨y, t', h1, h2⟩ := at' j hj
    rw [hy] at h1
    cases h1
    rw [h2]
    exact decide_eq_true rfl
  · obtain ⟨y, t', h1, h2⟩ := at' m hm
    rw [h2]
    exact decide_eq_false fun e => hno m hmj (e ▸ h1)
def tIdxZ (to : TE) (t : TA) : TE := fun σ H Q => to σ H fun x H1 => (∃ p o ys, x = .ref p ∧ H1 p = some (.frz o (.tup ys)) ∧ o.dict = none) ∧ t σ H1 fun xs H2 => rIdxZ x xs H2 Q
theorem pe_idxZ {o e : Expr} {es : List Expr} {to : TE} {t : TA} {apos cpos : Pos} (ho : PE X o to) (ha : PA X (e :: es) t)
    (hbase : attributeBase o "index" X.env (eval o X.env) = eval o X.env := by rfl)
    (hfew : ((backTo cpos (starEach (e :: es) X.env)).all (fun x => !x.1) && (backToKw cpos (keywordEach [] X.env)).all (fun x => x.1.isSome) && decide ((e :: es).length + ([] : List Keyword).length + (if ([] : List Keyword).isEmpty then 0 else 1) < 30)) = true := by rfl)
    (hline : (apos.endLine == cpos.line) = true := by rfl) (hs : starEach (e :: es) X.env = (false, eval e X.env) :: starEach es X.env := by rfl) (hplain : (backTo cpos (starEach es X.env)).any (·.1) = false := by rfl) :
    PE X (.Call (.Attribute o "index" apos) (e :: es) [] cpos) (tIdxZ to t) := ⟨fun pins s σ H Q I h => by
  refine wpAny_Call_method_late hbase hfew hline rfl (thn (ho.run pins s σ H _ I h) fun v s1 ⟨x, H1, I1, r1, ⟨p, o, ys, e1, hp, hd⟩, q1⟩ => ?_)
  subst e1
  cases r1
  obtain ⟨ob, _, it, _, o2, g1, g2, _⟩ := I1.hok p _ hp
  have hA := ha.run cpos pins s1 σ H1 _ I1 q1
  rw [hs] at hA ⊢
  exact ⟨"tuple", "tuple.index", PySem.F.plainAttrs_tuple, PySem.F.slot_tuple_index, PySem.F.type_tuple_index, ⟨o2, g1, g2⟩, fun a e => by cases e; exact ⟨o, ob, hd⟩,
    Calls.callWith_builtin (by show (false || (backTo cpos (starEach es X.env)).any (·.1)) = false; rw [hplain] <;> rfl) (Calls.evalArgs_plain (thn hA fun us s2 ⟨vs, H2, I2, r2, q2⟩ => mt_idxZ pins s2 σ H2 (.ref p) vs (.ref p) us Q I2 rfl r2 q2))⟩⟩
end
end Vai
set_option maxRecDepth 100000
set_option maxHeartbeats 4000000
namespace PySem.AutoSeq1
open PySem
theorem extend_tupW (l b : Addr) (items items2 : Array Value) (n n2 : Nat) (dd : Option Addr) (sl : Array (Option Value)) (h0 : ¬(!items.isEmpty && Builtin.List.listTooLong (items.size + items2.size)) = true) (h1 : items.size ≤ sizeLine) (h2 : items.size + items2.size ≤ sizeLine + 1) :
    Meets (Builtin.«list.extend» ⟨[.ref l, .ref b], []⟩) fun _ R s => s.heap.get? l = some { cls := .type "list", dict := none, data := .seq items n, slots := #[] } ∧ s.heap.get? b = some { cls := .type "tuple", dict := dd, data := .seq items2 n2, slots := sl } ∧
      R (.ok (.ret Value.none)) { s with heap := s.heap.update l (Obj.mapSeq fun x => x ++ items2), toks := s.toks } := .of_wp fun prog w A R s h => by
  obtain ⟨hp, g, d, tk, os⟩ := s
  obtain ⟨hl, hb, h⟩ := h
  have f2 := sub_tuple_tuple; have f5 := sub_list_tuple; have f4 := sub_tuple_list; have f3 := sub_list_list
  have hz' : (items ++ items2).size ≤ sizeLine + 1 := by rw [Array.size_append]; exact h2
  wp_walk using (wpAny_updateSeq hl rfl (hz := h1) (_hz' := hz')), wpAny_loadPart' hl, wpAny_loadPart' hb
  exact ⟨_, rfl, h⟩
end PySem.AutoSeq1
namespace Vai
open PySem L2 PySem.Spec PyProof.Rows
section
variable {X : Cx}
def rExtT (K : PySem.W.Frag) : V → List V → Hp → VK → Prop := fun x vs H Q => ∃ l b xs zs, x = .ref l ∧ vs = [.ref b] ∧ H l = some (.lst xs) ∧ SqT K H b zs ∧ xs.length + zs.length ≤ sizeLine ∧ Q .non (upd H l (.lst (xs ++ zs)))
theorem mt_extT : MtM X "list.extend" (rExtT X.K) := by
  intro pins s σ H x vs v us Q I rx rv ⟨l, b, xs, zs, e1, e2, hH, hB, hz, q⟩
  subst e1 e2
  cases rx
  obtain ⟨u, rfl, ru⟩ := rv.one
  cases ru
  obtain ⟨z, its, n, r, hl, e⟩ := I.lstM hH
  obtain ⟨its2, r2, ⟨⟨cls, dd, dt, sl⟩, ho, hc, n2, hd⟩, _⟩ := I.tuple hB
  simp only at hc hd
  subst hc hd
  have hl2 := r2.length
  have hsz : its.toArray.size + its2.toArray.size ≤ sizeLine := by rw [List.size_toArray, List.size_toArray, ← hl, ← hl2]; exact hz
  have hlong : ¬ (!its.toArray.isEmpty && Builtin.List.listTooLong (its.toArray.size + its2.toArray.size)) = true := by rw [notLongL hsz, Bool.and_false]; exact Bool.false_ne_true
  exact call_meets F.slot_list_extend ⟨_, e, rfl⟩ F.entry_list_extend (F.args_list_extend_2 _ _) (AutoSeq1.extend_tupW l b its.toArray its2.toArray n n2 dd sl hlong (by omega) (by omega))
    ⟨e, ho, .non, _, I.lset (its' := its ++ its2) hH e (by simp) (r.append r2) (by rw [List.length_append]; exact hz), rfl, q⟩
def rExtU (K : PySem.W.Frag) : V → List V → Hp → VK → Prop := fun x vs H Q => rExtend x vs H Q ∨ rExtT K x vs H Q
theorem mt_extU : MtM X "list.extend" (rExtU X.K) := MtR.or mt_extend mt_extT
end
/-! ### in the evaluator -/
abbrev GM := A → List A → List O → Option (A × List O)
def SemM (t : Tx) (g : GM) (ro : V → List V → Hp → VK → Prop) : Prop := ∀ (r : List Addr) (S : List O) (H : Hp) (a : A) (as : List A) (x : V) (vs : List V) (p : A × List O) (Q : VK), Rel t r S H → RA r a x → Paired (RA r) as vs → g a as S = some p → PostG t Q r p → ro x vs H Q
def isLstB (S : List O) : A → Bool
  | .ref l => match S[l]? with
    | some (.lst _) => true
    | _ => false
  | _ => false
def mtF (c : List O → A → Bool) (g : GM) (fo : F) (fl : FL) : F := bnd fo fun x sa S => if c S x = true then bndL fl (fun as _ S2 => toR (g x as S2)) sa S else none
theorem step_goL {t : Tx} {W : WX} {f : FL} {k : List A → F} {r : List Addr} {sa : Sa} {S : List O} {x : R} {σ : L2.St} {H : Hp} {Q : VK} {Q2 : List V → Hp → Prop} (R : Rel t r S H) (rs : RS r sa σ) (e : bndL f k sa S = some x) (p : PostE t W σ Q r x)
    (hk : ∀ (r' : List Addr) (S' : List O) (as : List A) (vs : List V) (H1 : Hp), Ext r r' → Rel t r' S' H1 → RS r' sa σ → Paired (RA r') as vs → k as sa S' = some x → PostE t W σ Q r' x → Q2 vs H1) : liftL t W f σ H Q2 := by
  unfold bndL at e
  cases hf : f sa S with
  | none =>
    rw [hf] at e
    cases e
  | some y =>
    rw [hf] at e
    refine ⟨r, sa, S, y, R, rs, hf, ?_⟩
    cases y with
    | er c S' =>
      cases e
      exact p
    | ok as S' => exact fun r' H1 vs ex R' ra => hk r' S' as vs H1 ex R' (rs.ext ex) ra e (p.ext ex)
theorem RA.func {r r' : List Addr} (ex : Ext r r') {a : A} {v : V} (h : RA r a v) : RA r' a v := RA.ext ex h
theorem toR_post {t : Tx} {W : WX} {σ : L2.St} {Q : VK} {r : List Addr} {z : Option (A × List O)} {x : R} (e : toR z = some x) (p : PostE t W σ Q r x) : ∃ q, z = some q ∧ PostG t Q r q := by
  obtain ⟨q, h1, h2⟩ := toR_some e
  subst h2
  exact ⟨q, h1, p⟩
theorem mt_ok {t : Tx} {W : WX} {c : List O → A → Bool} {g : GM} {K : PySem.W.Frag} {T : String} {ro : V → List V → Hp → VK → Prop} (hs : SemM t g ro) (hc : ∀ (r : List Addr) (S : List O) (H : Hp) (a : A) (x : V), Rel t r S H → RA r a x → c S a = true → tyV K T x H)
    {fo : F} {fl : FL} {σ : L2.St} {H : Hp} {Q : VK} (h : lift t W (mtF c g fo fl) σ H Q) : tBM K T ro (lift t W fo) (liftL t W fl) σ H Q := step_bnd h fun r S sa a v H1 x R rs ra e p => by
  split at e
  · rename_i hk
    exact ⟨hc r S H1 a v R ra hk, step_goL R rs e p fun r2 S2 as vs H2 ex R2 rs2 ras ek p2 => by
      obtain ⟨q, h1, h2⟩ := toR_post ek p2
      exact hs r2 S2 H2 a as v vs q Q R2 (RA.ext ex ra) ras h1 h2⟩
  · cases e
theorem lst_ty {t : Tx} {r : List Addr} {S : List O} {H : Hp} {a : A} {x : V} {K : PySem.W.Frag} (R : Rel t r S H) (ra : RA r a x) (h : isLstB S a = true) : tyV K "list" x H := by
  cases a with
  | ref l =>
    unfold isLstB at h
    dsimp only at h
    split at h
    · rename_i xs hl
      obtain ⟨p, vs, rfl, g, _⟩ := seq_of R ra hl
      exact .inl ⟨rfl, vs, SqL.of g⟩
    · cases h
  | _ => cases h
def appG : GM := fun a as S => match a, as with
  | .ref l, [x] => (match S[l]? with
    | some (.lst xs) => if xs.length < 1000000 then some (.non, S.set l (.lst (xs ++ [x]))) else none
    | _ => none)
  | _, _ => none
def extG : GM := fun a as S => match a, as with
  | .ref l, [.ref m] => (match S[l]?, S[m]? with
    | some (.lst xs), some (.tup ys) => if xs.length + ys.length ≤ 1000000 then some (.non, S.set l (.lst (xs ++ ys))) else none
    | some (.lst xs), some (.lst ys) => if xs.length + ys.length ≤ 1000000 then some (.non, S.set l (.lst (xs ++ ys))) else none
    | _, _ => none)
  | _, _ => none
def popG : GM := fun a as S => match a, as with
  | .ref l, [] => (match S[l]? with
    | some (.lst xs) => (match xs[xs.length - 1]? with
      | some x => some (x, S.set l (.lst xs.dropLast))
      | none => none)
    | _ => none)
  | _, _ => none
/-- a list written anew -/
theorem putG {t : Tx} {r : List Addr} {S : List O} {H : Hp} {Q : VK} {l : Nat} {p : Addr} {xs ys : List A} {vs us : List V} {a : A} {v : V} (R : Rel t r S H) (hp : r[l]? = some p) (hl : S[l]? = some (.lst xs)) (hH : H p = some (.lst vs)) (q : Paired (RA r) ys us) (ra : RA r a v)
    (k : PostG t Q r (a, S.set l (.lst ys))) : Q v (upd H p (.lst us)) := k r _ v (Ext.refl r) (R.put (o' := .lst ys) hp hl rfl rfl hH (fun _ _ z => by cases z) ⟨us, upd_same, q⟩) ra
theorem seq_at {t : Tx} {r : List Addr} {S : List O} {H : Hp} {l : Nat} {xs : List A} (R : Rel t r S H) {x : V} (ra : RA r (.ref l) x) (hl : S[l]? = some (.lst xs)) : ∃ p vs, x = .ref p ∧ r[l]? = some p ∧ H p = some (.lst vs) ∧ Paired (RA r) xs vs := by
  obtain ⟨p, hp, rfl⟩ := ra
  obtain ⟨vs, h1, h2⟩ := R.ob l p _ hp hl
  exact ⟨p, vs, rfl, hp, h1, h2⟩
theorem s_app {t : Tx} : SemM t appG rAppend := fun r S H a as x vs p Q R ra ras e k => by
  unfold appG at e
  split at e
  · rename_i l y
    obtain ⟨w, rfl, rw'⟩ := pr_one ras
    split at e
    · rename_i xs hl
      split at e
      · rename_i hz
        cases e
        obtain ⟨q, us, rfl, hq, hH, hp⟩ := seq_at R ra hl
        exact ⟨q, us, w, rfl, rfl, hH, by rw [← pr_len hp, sizeLine_eq]; omega, putG R hq hl hH (pr_app hp (.cons rw' .nil)) (show RA r A.non V.non from rfl) k⟩
      · cases e
    · cases e
  · cases e
theorem s_ext {t : Tx} {K : PySem.W.Frag} : SemM t extG (rExtU K) := fun r S H a as x vs p Q R ra ras e k => by
  unfold extG at e
  split at e
  · rename_i l m
    obtain ⟨w, rfl, rw'⟩ := pr_one ras
    split at e
    · rename_i xs ys hl hm
      split at e
      · rename_i hz
        cases e
        obtain ⟨q, us, rfl, hq, hH, hp⟩ := seq_at R ra hl
        obtain ⟨q2, us2, rfl, h2, hp2⟩ := tup_of R rw' hm
        exact .inr ⟨q, q2, us, us2, rfl, rfl, hH, sqTo h2, by rw [← pr_len hp, ← pr_len hp2, sizeLine_eq]; omega, putG R hq hl hH (pr_app hp hp2) (show RA r A.non V.non from rfl) k⟩
      · cases e
    · rename_i xs ys hl hm
      split at e
      · rename_i hz
        cases e
        obtain ⟨q, us, rfl, hq, hH, hp⟩ := seq_at R ra hl
        obtain ⟨q2, us2, rfl, _, h2, hp2⟩ := seq_at R rw' hm
        exact .inl ⟨q, q2, us, us2, rfl, rfl, hH, h2, by rw [← pr_len hp, ← pr_len hp2, sizeLine_eq]; omega, putG R hq hl hH (pr_app hp hp2) (show RA r A.non V.non from rfl) k⟩
      · cases e
    · cases e
  · cases e
theorem pr_dropLast {α β : Type} {F : α → β → Prop} : ∀ {xs : List α} {ys : List β}, Paired F xs ys → Paired F xs.dropLast ys.dropLast
  | _, _, .nil => .nil
  | _, _, .cons a .nil => .nil
  | _, _, .cons a (.cons b t) => .cons a (pr_dropLast (.cons b t))
theorem s_pop {t : Tx} : SemM t popG rPop := fun r S H a as x vs p Q R ra ras e k => by
  unfold popG at e
  split at e
  · rename_i l
    cases ras
    split at e
    · rename_i xs hl
      split at e
      · rename_i y hy
        cases e
        obtain ⟨q, us, rfl, hq, hH, hp⟩ := seq_at R ra hl
        obtain ⟨w, h1, h2⟩ := pr_get hp hy
        exact ⟨q, us, w, rfl, rfl, hH, by rw [← pr_len hp]; exact h1, putG R hq hl hH (pr_dropLast hp) h2 k⟩
      · cases e
    · cases e
  · cases e
section
variable {X : Cx} {t : Tx} {W : WX} {o e : Expr} {es : List Expr} {fo : F} {fl : FL} {apos cpos : Pos}
theorem v_append (ho : PE X o (lift t W fo)) (ha : PA X (e :: es) (liftL t W fl)) (hbase : attributeBase o "append" X.env (eval o X.env) = eval o X.env := by rfl)
    (hfew : ((backTo cpos (starEach (e :: es) X.env)).all (fun x => !x.1) && (backToKw cpos (keywordEach [] X.env)).all (fun x => x.1.isSome) && decide ((e :: es).length + ([] : List Keyword).length + (if ([] : List Keyword).isEmpty then 0 else 1) < 30)) = true := by rfl)
    (hline : (apos.endLine == cpos.line) = true := by rfl) (hs : starEach (e :: es) X.env = (false, eval e X.env) :: starEach es X.env := by rfl) (hplain : (backTo cpos (starEach es X.env)).any (·.1) = false := by rfl) :
    PE X (.Call (.Attribute o "append" apos) (e :: es) [] cpos) (lift t W (mtF isLstB appG fo fl)) :=
  (pe_bm PySem.F.plainAttrs_list PySem.F.slot_list_append PySem.F.type_list_append mt_append ho ha hbase hfew hline hs hplain).weak fun _ _ _ h => mt_ok s_app (fun _ _ _ _ _ R ra h => lst_ty R ra h) h
theorem v_extend (hK : X.K = t.K) (ho : PE X o (lift t W fo)) (ha : PA X (e :: es) (liftL t W fl)) (hbase : attributeBase o "extend" X.env (eval o X.env) = eval o X.env := by rfl)
    (hfew : ((backTo cpos (starEach (e :: es) X.env)).all (fun x => !x.1) && (backToKw cpos (keywordEach [] X.env)).all (fun x => x.1.isSome) && decide ((e :: es).length + ([] : List Keyword).length + (if ([] : List Keyword).isEmpty then 0 else 1) < 30)) = true := by rfl)
    (hline : (apos.endLine == cpos.line) = true := by rfl) (hs : starEach (e :: es) X.env = (false, eval e X.env) :: starEach es X.env := by rfl) (hplain : (backTo cpos (starEach es X.env)).any (·.1) = false := by rfl) :
    PE X (.Call (.Attribute o "extend" apos) (e :: es) [] cpos) (lift t W (mtF isLstB extG fo fl)) :=
  (pe_bm PySem.F.plainAttrs_list PySem.F.slot_list_extend PySem.F.type_list_extend mt_extU ho ha hbase hfew hline hs hplain).weak fun _ _ _ h => mt_ok s_ext (fun _ _ _ _ _ R ra h => lst_ty R ra h) h
theorem v_pop (ho : PE X o (lift t W fo)) (hbase : attributeBase o "pop" X.env (eval o X.env) = eval o X.env := by rfl) (hline : (apos.endLine == cpos.line) = true := by rfl) :
    PE X (.Call (.Attribute o "pop" apos) [] [] cpos) (lift t W (mtF isLstB popG fo nilF)) :=
  (pe_bm0 PySem.F.plainAttrs_list PySem.F.slot_list_pop PySem.F.type_list_pop mt_pop ho hbase hline).weak fun σ H Q h => by
    refine step_bnd h fun r S sa a v H1 x R rs ra e p => ?_
    split at e
    · rename_i hk
      refine ⟨lst_ty R ra hk, ?_⟩
      obtain ⟨q, h1, h2⟩ := toR_post (W := W) (σ := σ) (show toR (popG a [] S) = some x from e) p
      exact s_pop r S H1 a [] v [] q Q R ra .nil h1 h2
    · cases e
end
end Vai
set_option maxRecDepth 100000
set_option maxHeartbeats 4000000
namespace Vai
open PySem L2 PySem.Spec PyProof.Rows
theorem allocZ {t : Tx} {r : List Addr} {S : List O} {H : Hp} {Q : VK} {as : List A} {vs : List V} (R : Rel t r S H) (ra : Paired (RA r) as vs) (hn : noTy as = true) (k : PostG t Q r (.ref S.length, S ++ [.tup as] ++ [.fz S.length])) :
    ∀ (q : Addr) (o : Obj), o.dict = none → H q = none → Q (.ref q) (upd H q (.frz o (.tup vs))) := fun q o ho hq => by
  have R1 : Rel t (r ++ [q]) (S ++ [.tup as]) (upd H q (.frz o (.tup vs))) := R.new hq ⟨vs, .inr ⟨hn, o, upd_same⟩, RAs.ext (Ext.snoc r q) ra⟩
  have g : (r ++ [q])[S.length]? = some q := by rw [← R.len]; exact get_snoc_new r q
  have R2 : Rel t (r ++ [q] ++ [q]) (S ++ [.tup as] ++ [.fz S.length]) (upd H q (.frz o (.tup vs))) := R1.more rfl ⟨(Ext.snoc _ q).get g, o, vs, upd_same, ho⟩
  exact k _ _ _ ⟨[q, q], by simp⟩ R2 ⟨q, (Ext.snoc _ q).get g, rfl⟩
def okZ (as : List A) : Bool := decide (as.length ≤ 1000000) && noTy as
def newZ (fl : FL) : F := bndL fl fun as _ S => if okZ as = true then some (.ok (.ref S.length) (S ++ [.tup as] ++ [.fz S.length])) else none
theorem okZ_ok {as : List A} (h : okZ as = true) : as.length ≤ 1000000 ∧ noTy as = true := by
  unfold okZ at h
  rw [Bool.and_eq_true, decide_eq_true_eq] at h
  exact h
def tupZG : GN := fun as S => match as with
  | [.ref l] => (match S[l]? with
    | some (.lst xs) => if okZ xs = true then some (.ref S.length, S ++ [.tup xs] ++ [.fz S.length]) else none
    | _ => none)
  | _ => none
def catZG : G2 := fun a b S => match a, b with
  | .ref l, .ref m => (match S[l]?, S[m]? with
    | some (.tup xs), some (.tup ys) => if okZ (xs ++ ys) = true then (if xs.isEmpty then some (.ref m, S) else if ys.isEmpty then some (.ref l, S) else some (.ref S.length, S ++ [.tup (xs ++ ys)] ++ [.fz S.length])) else none
    | _, _ => none)
  | _, _ => none
def idxI (k : Int) : List Int → Option Nat
  | [] => none
  | n :: ns => if n = k then some 0 else (idxI k ns).map (· + 1)
theorem idxI_ok {k : Int} : ∀ {ns : List Int} {j : Nat}, idxI k ns = some j → ns[j]? = some k ∧ ∀ m, m < j → ns[m]? ≠ some k
  | [], _, h => by cases h
  | n :: ns, j, h => by
    unfold idxI at h
    split at h
    · rename_i e
      cases h
      exact ⟨by rw [e]; rfl, fun m hm => absurd hm (by omega)⟩
    · rename_i ne
      cases hi : idxI k ns with
      | none =>
        rw [hi] at h
        cases h
      | some i =>
        rw [hi] at h
        cases h
        obtain ⟨h1, h2⟩ := idxI_ok hi
        refine ⟨h1, fun m hm => ?_⟩
        cases m with
        | zero => exact fun z => ne (Option.some.inj z)
        | succ m => exact h2 m (Nat.lt_of_succ_lt_succ hm)
def isFzB (S : List O) : A → Bool
  | .ref l => decide (O.fz l ∈ S)
  | _ => false
def idxG : GM := fun a as S => match a, as with
  | .ref l, [.int k] => (match S[l]? with
    | some (.tup xs) => (match toInts xs with
      | some ns => if decide (O.fz l ∈ S) = true then (idxI k ns).map fun j => (.int (j : Nat), S) else none
      | none => none)
    | _ => none)
  | _, _ => none
theorem fz_at {t : Tx} {r : List Addr} {S : List O} {H : Hp} {l : Nat} {x : V} (R : Rel t r S H) (ra : RA r (.ref l) x) (h : O.fz l ∈ S) : ∃ p o vs, x = .ref p ∧ r[l]? = some p ∧ H p = some (.frz o (.tup vs)) ∧ o.dict = none := by
  obtain ⟨p, hp, rfl⟩ := ra
  obtain ⟨m, hm, e⟩ := List.getElem_of_mem h
  have hm' : m < r.length := by rw [R.len]; exact hm
  have e' : S[m]? = some (O.fz l) := by rw [List.getElem?_eq_getElem hm, e]
  obtain ⟨g, o, vs, h1, h2⟩ := R.ob m _ _ (List.getElem?_eq_getElem hm') e'
  rw [hp] at g
  cases g
  exact ⟨_, o, vs, rfl, hp, h1, h2⟩
theorem s_idx {t : Tx} : SemM t idxG rIdxZ := fun r S H a as x vs p Q R ra ras e k => by
  unfold idxG at e
  split at e
  · rename_i l y
    obtain ⟨w, rfl, rw'⟩ := pr_one ras
    cases rw'
    split at e
    · rename_i xs hl
      split at e
      · rename_i ns hn
        split at e
        · rename_i hz
          cases hj : idxI y ns with
          | none =>
            rw [hj] at e
            cases e
          | some j =>
            rw [hj] at e
            cases e
            obtain ⟨q, o, us, rfl, hq, h1, h2⟩ := fz_at R ra (of_decide_eq_true hz)
            obtain ⟨us2, h3, h4⟩ := R.ob l q _ hq hl
            have h3 : H q = some (.frz o (.tup us2)) := by
              rcases h3 with h3 | ⟨_, o2, h3⟩
              · rw [h1] at h3; cases h3
              · rw [h1] at h3; cases h3; exact h1
            rw [toInts_ok h4 hn] at h3
            obtain ⟨g1, g2⟩ := idxI_ok hj
            exact ⟨q, o, ns, y, j, rfl, rfl, h3, g1, g2, okG R k rfl⟩
        · cases e
      · cases e
    · cases e
  · cases e
section
variable {X : Cx} {t : Tx} {W : WX}
theorem v_tupZ {es : List Expr} {x1} {fl : FL} {pos : Pos} (h : PA X es (liftL t W fl)) : PE X (.Tuple es x1 pos) (lift t W (newZ fl)) := (pe_tupZ h).weak fun σ H Q h => step_bndL h fun r S sa as vs H1 x R rs ra e p => by
  split at e
  · rename_i hz
    cases e
    obtain ⟨h1, h2⟩ := okZ_ok hz
    exact ⟨by rw [← pr_len ra, sizeLine_eq]; omega, allocZ R ra h2 p⟩
  · cases e
theorem s_tupZ {K : PySem.W.Frag} : SemN t tupZG (rTupZ K) := fun r S H as vs p Q R ras e k => by
  unfold tupZG at e
  split at e
  · obtain ⟨v, rfl, rv⟩ := pr_one ras
    split at e
    · rename_i xs hl
      split at e
      · rename_i hz
        cases e
        obtain ⟨q, us, rfl, h1, h2⟩ := seq_of R rv hl
        exact ⟨q, us, rfl, SqL.of h1, allocZ R h2 (okZ_ok hz).2 k⟩
      · cases e
    · cases e
  · cases e
theorem s_catZ {K : PySem.W.Frag} : Sem2 t catZG (rCatZ K) := fun r S H a b x y p Q R ra rb e k => by
  unfold catZG at e
  split at e
  · rename_i l m
    split at e
    · rename_i xs ys hl hm
      split at e
      · rename_i hz
        have ra' := ra
        have rb' := rb
        obtain ⟨p1, vs, rfl, g1, q1⟩ := tup_of R ra hl
        obtain ⟨p2, us, rfl, g2, q2⟩ := tup_of R rb hm
        obtain ⟨z1, z2⟩ := okZ_ok hz
        rw [List.length_append] at z1
        refine ⟨p1, p2, vs, us, rfl, rfl, sqTo g1, sqTo g2, by rw [← pr_len q1, ← pr_len q2, sizeLine_eq]; omega, fun w => ?_, fun w1 w2 => ?_, fun w1 w2 => ?_⟩
        · rw [if_pos ((pr_nilA q1).mpr w)] at e
          cases e
          exact okG R k rb'
        · rw [if_neg (fun w => w1 ((pr_nilA q1).mp w)), if_pos ((pr_nilA q2).mpr w2)] at e
          cases e
          exact okG R k ra'
        · rw [if_neg (fun w => w1 ((pr_nilA q1).mp w)), if_neg (fun w => w2 ((pr_nilA q2).mp w))] at e
          cases e
          exact allocZ R (pr_app q1 q2) z2 k
      · cases e
    · cases e
  · cases e
theorem v_index {o e : Expr} {es : List Expr} {fo : F} {fl : FL} {apos cpos : Pos} (ho : PE X o (lift t W fo)) (ha : PA X (e :: es) (liftL t W fl)) (hbase : attributeBase o "index" X.env (eval o X.env) = eval o X.env := by rfl)
    (hfew : ((backTo cpos (starEach (e :: es) X.env)).all (fun x => !x.1) && (backToKw cpos (keywordEach [] X.env)).all (fun x => x.1.isSome) && decide ((e :: es).length + ([] : List Keyword).length + (if ([] : List Keyword).isEmpty then 0 else 1) < 30)) = true := by rfl)
    (hline : (apos.endLine == cpos.line) = true := by rfl) (hs : starEach (e :: es) X.env = (false, eval e X.env) :: starEach es X.env := by rfl) (hplain : (backTo cpos (starEach es X.env)).any (·.1) = false := by rfl) :
    PE X (.Call (.Attribute o "index" apos) (e :: es) [] cpos) (lift t W (mtF isFzB idxG fo fl)) := (pe_idxZ ho ha hbase hfew hline hs hplain).weak fun σ H Q h => step_bnd h fun r S sa a v H1 x R rs ra e p => by
  split at e
  · rename_i hk
    refine ⟨?_, step_goL R rs e p fun r2 S2 as vs H2 ex R2 rs2 ras ek p2 => by
      obtain ⟨q, h1, h2⟩ := toR_post ek p2
      exact s_idx r2 S2 H2 a as v vs q Q R2 (RA.ext ex ra) ras h1 h2⟩
    cases a with
    | ref l =>
      obtain ⟨q, o, us, e1, _, h1, h2⟩ := fz_at R ra (of_decide_eq_true hk)
      exact ⟨q, o, us, e1, h1, h2⟩
    | _ => cases hk
  · cases e
end
end Vai
set_option maxRecDepth 100000
set_option maxHeartbeats 4000000
namespace Vai
open PySem L2 PySem.Spec PyProof.Rows
section
variable {X : Cx} {t : Tx} {W : WX}
/-! ### a value as a test: lists, tuples, ints, strs -/
def truB (S : List O) : A → Option Bool
  | .non => some false
  | .bl b => some b
  | .int i => some (i != 0)
  | .ref l => (match S[l]? with
    | some (.lst xs) => some (!xs.isEmpty)
    | some (.tup xs) => some (!xs.isEmpty)
    | _ => none)
  | _ => none
def truF (f : F) : F := bnd f fun a _ S => match truB S a with
  | some b => some (.ok (.bl b) S)
  | none => none
theorem pr_isEmpty {α β : Type} {F : α → β → Prop} {xs : List α} {ys : List β} (h : Paired F xs ys) : xs.isEmpty = ys.isEmpty := by cases h <;> rfl
theorem truB_ok {r : List Addr} {S : List O} {H : Hp} {a : A} {x : V} {b : Bool} (R : Rel t r S H) (ra : RA r a x) (h : truB S a = some b) : TruV t.K x H b := by
  cases a with
  | non => cases ra; cases h; exact rfl
  | bl c => cases ra; cases h; exact rfl
  | int i => cases ra; cases h; exact rfl
  | ref l =>
    unfold truB at h
    dsimp only at h
    split at h
    · rename_i xs hl
      cases h
      obtain ⟨p, vs, rfl, g, q⟩ := seq_of R ra hl
      exact .inl ⟨vs, SqL.of g, by rw [pr_isEmpty q]⟩
    · rename_i xs hl
      cases h
      obtain ⟨p, vs, rfl, g, q⟩ := tup_of R ra hl
      exact .inr (.inl ⟨vs, sqTo g, by rw [pr_isEmpty q]⟩)
    · cases h
  | _ => cases h
theorem v_tru {e : Expr} {f : F} (hK : X.K = t.K) (h : PE X e (lift t W f)) (he : ∀ whole, isTrue e X.env whole = (do let v ← whole; standAt e.pos; holding [v] (truthy v)) := by intro _; rfl) : PT X e (liftB t W (truF f)) := (pt_truth h he).weak fun σ H Q h => step_bnd h fun r S sa a v H1 x R rs ra e p => by
  split at e
  · rename_i b hb
    cases e
    obtain ⟨c, e1, q⟩ := p r H1 (.bl b) (Ext.refl r) R rfl
    cases e1
    exact ⟨b, hK ▸ truB_ok R ra hb, q⟩
  · cases e
/-! ### while -/
def whGo (fc : F) (f : FS) : Nat → FS
  | 0 => fun _ _ => none
  | n + 1 => fun sa S => match fc sa S with
    | some (.ok (.bl true) S1) => (match f sa S1 with
      | some (.nx sa2 S2) => whGo fc f n sa2 S2
      | some (.ct sa2 S2) => whGo fc f n sa2 S2
      | some (.bk sa2 S2) => some (.nx sa2 S2)
      | y => y)
    | some (.ok (.bl false) S1) => some (.nx sa S1)
    | some (.ok _ _) => none
    | some (.er c S1) => some (.er c sa S1)
    | none => none
def whF (fc : F) (f : FS) : FS := whGo fc f 100000
theorem v_while {c : Expr} {body : List Stmt} {fc : F} {f : FS} {pos : Pos} (hp : PassesOwn (model X.prog X.w) X.A X.env X.xe) (hc : PT X c (liftB t W fc)) (hb : PSs X body (liftS t W f)) : PS X (.While c body [] pos) (liftS t W (whF fc f)) := (ps_while hp hc hb).weak fun D σ H h => by
  obtain ⟨r, sa, S, x, R, rs, e, p⟩ := h
  refine ⟨fun m σ H => ∃ r2 sa S, Ext r r2 ∧ Rel t r2 S H ∧ RS r2 sa σ ∧ whGo fc f m sa S = some x, ⟨_, r, sa, S, Ext.refl _, R, rs, e⟩, ?_⟩
  rintro m σ H ⟨r2, sa, S, e2, R2, rs2, ek⟩
  have p2 := p.ext e2
  cases m with
  | zero => cases ek
  | succ m =>
    simp only [whGo] at ek
    cases hf : fc sa S with
    | none =>
      rw [hf] at ek
      cases ek
    | some y =>
      rw [hf] at ek
      refine ⟨r2, sa, S, y, R2, rs2, hf, ?_⟩
      cases y with
      | er c S1 =>
        cases ek
        exact fun r3 H3 e3 R3 => p2 r3 H3 σ e3 R3 (rs2.ext e3)
      | ok a S1 =>
        intro r3 H3 v e3 R3 ra
        cases a with
        | bl b =>
          cases ra
          refine ⟨b, rfl, ?_⟩
          cases b with
          | false =>
            rw [if_neg (by decide)]
            cases ek
            exact p2 r3 H3 σ e3 R3 (rs2.ext e3)
          | true =>
            rw [if_pos rfl]
            refine ⟨fun σ' H' => ∃ r4 sa S, Ext r r4 ∧ Rel t r4 S H' ∧ RS r4 sa σ' ∧ whGo fc f m sa S = some x, fun σ' H' z => ⟨m, Nat.lt_succ_self m, z⟩, ?_⟩
            dsimp only at ek
            cases hb : f sa S1 with
            | none =>
              rw [hb] at ek
              cases ek
            | some w =>
              rw [hb] at ek
              refine ⟨r3, sa, S1, w, R3, rs2.ext e3, hb, ?_⟩
              cases w with
              | nx sa2 S2 => exact fun r4 H5 σ5 e4 R4 rs4 => ⟨r4, sa2, S2, (e2.trans e3).trans e4, R4, rs4, ek⟩
              | ct sa2 S2 => exact fun r4 H5 σ5 e4 R4 rs4 => ⟨r4, sa2, S2, (e2.trans e3).trans e4, R4, rs4, ek⟩
              | bk sa2 S2 =>
                cases ek
                exact fun r4 H5 σ5 e4 R4 rs4 => p2 r4 H5 σ5 (e3.trans e4) R4 rs4
              | rt a2 S2 =>
                cases ek
                exact fun r4 H5 v5 e4 R4 rv => p2 r4 H5 v5 (e3.trans e4) R4 rv
              | er c2 sa2 S2 =>
                cases ek
                exact fun r4 H5 σ5 e4 R4 rs4 => p2 r4 H5 σ5 (e3.trans e4) R4 rs4
        | _ => cases ek
/-! ### is -/
def isG (neg : Bool) : G2 := fun a b S => match a, b with
  | .bl x, .bl y => some (.bl (decide (x = y) != neg), S)
  | .ref _, .non => some (.bl neg, S)
  | .non, .non => some (.bl (!neg), S)
  | .bl _, .non => some (.bl neg, S)
  | .int _, .non => some (.bl neg, S)
  | .str _, .non => some (.bl neg, S)
  | _, _ => none
def rIsU : R2 := fun x y H Q => rIsN x y H Q ∨ rIsB x y H Q
def rNotU : R2 := fun x y H Q => rNotN x y H Q ∨ rNotB x y H Q
theorem op_isU : OpR X (compareOp .Is) rIsU := opOr op_isN1 op_isBl
theorem op_notU : OpR X (compareOp .IsNot) rNotU := opOr op_notN1 op_notBl
theorem s_isU : Sem2 t (isG false) rIsU := fun r S H a b x y p Q R ra rb e k => by
  unfold isG at e
  split at e <;> first | (cases e; done) | skip
  · cases e; cases ra; cases rb; exact .inr ⟨_, _, rfl, rfl, okG R k (by simp only [Bool.bne_false]; rfl)⟩
  · cases e; obtain ⟨q, _, rfl⟩ := ra; cases rb; exact .inl ⟨rfl, okG R k rfl⟩
  all_goals (cases e; cases ra; cases rb; exact .inl ⟨rfl, okG R k rfl⟩)
theorem s_notU : Sem2 t (isG true) rNotU := fun r S H a b x y p Q R ra rb e k => by
  unfold isG at e
  split at e <;> first | (cases e; done) | skip
  · cases e; cases ra; cases rb; exact .inr ⟨_, _, rfl, rfl, okG R k (by simp only [Bool.bne_true]; rfl)⟩
  · cases e; obtain ⟨q, _, rfl⟩ := ra; cases rb; exact .inl ⟨rfl, okG R k rfl⟩
  all_goals (cases e; cases ra; cases rb; exact .inl ⟨rfl, okG R k rfl⟩)
end
end Vai
set_option maxRecDepth 100000
set_option maxHeartbeats 4000000
namespace Vai
open PySem L2 PySem.Spec PyProof.Rows
section
variable {X : Cx} {t : Tx} {W : WX}
/-! ### slices -/
def bndO (f : Option F) (k : Option Int → F) : F := match f with
  | none => k none
  | some g => bnd g fun a => match a with
    | .int i => k (some i)
    | _ => fun _ _ => none
def tOf (t : Tx) (W : WX) : Option F → TO
  | none => tNoPart
  | some f => tPart (lift t W f)
def cutA (xs : List A) (lo hi : Option Int) : List A := (xs.drop (HT.sIx xs.length 0 lo)).take (HT.sIx xs.length xs.length hi - HT.sIx xs.length 0 lo)
def wholeB (n : Nat) (lo hi : Option Int) : Bool := decide (HT.sIx n 0 lo = 0 ∧ HT.sIx n n hi = n)
def slG (lo hi : Option Int) : G1 := fun a S => match a with
  | .ref l => (match S[l]? with
    | some (.lst xs) => some (.ref S.length, S ++ [.lst (cutA xs lo hi)])
    | some (.tup xs) => if wholeB xs.length lo hi = true then some (.ref l, S) else some (.ref S.length, S ++ [.tup (cutA xs lo hi)])
    | _ => none)
  | _ => none
def slF (fo : F) (fl fh : Option F) : F := bnd fo fun a => bndO fl fun l => bndO fh fun h => fun _ S => toR (slG l h a S)
theorem step_goO {f : Option F} {k : Option Int → F} {r : List Addr} {sa : Sa} {S : List O} {x : R} {σ : L2.St} {H : Hp} {Q : VK} {Q2 : Option Int → Hp → Prop} (R : Rel t r S H) (rs : RS r sa σ) (e : bndO f k sa S = some x) (p : PostE t W σ Q r x)
    (hk : ∀ (r' : List Addr) (S' : List O) (i : Option Int) (H1 : Hp), Ext r r' → Rel t r' S' H1 → RS r' sa σ → k i sa S' = some x → PostE t W σ Q r' x → Q2 i H1) : tOf t W f σ H Q2 := by
  cases f with
  | none => exact hk r S none H (Ext.refl r) R rs e p
  | some g =>
    have e : bnd g (fun a => match a with
      | .int i => k (some i)
      | _ => fun _ _ => none) sa S = some x := e
    unfold bnd at e
    cases hf : g sa S with
    | none =>
      rw [hf] at e
      cases e
    | some y =>
      rw [hf] at e
      refine ⟨r, sa, S, y, R, rs, hf, ?_⟩
      cases y with
      | er c S' =>
        cases e
        exact p
      | ok a S' =>
        intro r' H1 v ex R' ra
        cases a with
        | int i =>
          cases ra
          exact ⟨i, rfl, hk r' S' (some i) H1 ex R' (rs.ext ex) e (p.ext ex)⟩
        | _ => cases e
theorem pr_drop {α β : Type} {F : α → β → Prop} : ∀ {xs : List α} {ys : List β} (n : Nat), Paired F xs ys → Paired F (xs.drop n) (ys.drop n)
  | _, _, 0, h => h
  | _, _, _ + 1, .nil => .nil
  | _, _, n + 1, .cons _ h => pr_drop n h
theorem pr_take {α β : Type} {F : α → β → Prop} : ∀ {xs : List α} {ys : List β} (n : Nat), Paired F xs ys → Paired F (xs.take n) (ys.take n)
  | _, _, 0, _ => .nil
  | _, _, _ + 1, .nil => .nil
  | _, _, n + 1, .cons a h => .cons a (pr_take n h)
theorem pr_cut {r : List Addr} {xs : List A} {vs : List V} (lo hi : Option Int) (h : Paired (RA r) xs vs) : Paired (RA r) (cutA xs lo hi) (cutV vs lo hi) := by
  unfold cutA cutV
  rw [pr_len h]
  exact pr_take _ (pr_drop _ h)
def rSlU (K : PySem.W.Frag) : V → Option Int → Option Int → Hp → VK → Prop := fun x lo hi H Q => rSlL K x lo hi H Q ∨ rSlA K x lo hi H Q
theorem sl_U : SlR X (rSlU X.K) := SlR.or sl_list sl_tupA
theorem s_sl {r : List Addr} {S : List O} {H : Hp} {a : A} {x : V} {lo hi : Option Int} {p : A × List O} {Q : VK} (R : Rel t r S H) (ra : RA r a x) (e : slG lo hi a S = some p) (k : PostG t Q r p) : rSlU t.K x lo hi H Q := by
  unfold slG at e
  split at e
  · rename_i l
    split at e
    · rename_i xs hl
      cases e
      obtain ⟨q, vs, rfl, g, h⟩ := seq_of R ra hl
      exact .inl ⟨q, vs, rfl, SqL.of g, allocG R k fun q => ⟨_, upd_same, RAs.ext (Ext.snoc r q) (pr_cut lo hi h)⟩⟩
    · rename_i xs hl
      have ra' := ra
      obtain ⟨q, vs, rfl, g, h⟩ := tup_of R ra hl
      refine .inr ⟨q, vs, rfl, sqTo g, fun w => ?_, fun w => ?_⟩
      · rw [← pr_len h] at w
        rw [if_pos (show wholeB xs.length lo hi = true from decide_eq_true w)] at e
        cases e
        exact okG R k ra'
      · rw [← pr_len h] at w
        rw [if_neg (fun z : wholeB xs.length lo hi = true => w (of_decide_eq_true z))] at e
        cases e
        exact allocG R k fun q => ⟨_, .inl upd_same, RAs.ext (Ext.snoc r q) (pr_cut lo hi h)⟩
    · cases e
  · cases e
theorem po_of0 : PO X none (tOf t W none) := po_none
theorem po_of {e : Expr} {f : F} (h : PE X e (lift t W f)) : PO X (some e) (tOf t W (some f)) := po_some h
theorem v_slice {o : Expr} {lo hi : Option Expr} {fo : F} {fl fh : Option F} {p2 pos : Pos} (hK : X.K = t.K) (ho : PE X o (lift t W fo)) (hl : PO X lo (tOf t W fl)) (hh : PO X hi (tOf t W fh)) : PE X (.Subscript o (.Slice lo hi none p2) pos) (lift t W (slF fo fl fh)) :=
  (pe_slice sl_U ho hl hh).weak fun σ H Q h => step_bnd h fun r S sa a v H1 x R rs ra e p => step_goO R rs e p fun r2 S2 i H2 e2 R2 rs2 ek p2 => step_goO R2 rs2 ek p2 fun r3 S3 j H3 e3 R3 rs3 ek3 p3 => by
    obtain ⟨q, h1, h2⟩ := toR_post ek3 p3
    rw [hK]
    exact s_sl R3 (RA.ext (e2.trans e3) ra) h1 h2
def revG : G1 := fun a S => match a with
  | .ref l => (match S[l]? with
    | some (.lst xs) => some (.ref S.length, S ++ [.lst xs.reverse])
    | _ => none)
  | _ => none
theorem pr_rev {α β : Type} {F : α → β → Prop} : ∀ {xs : List α} {ys : List β}, Paired F xs ys → Paired F xs.reverse ys.reverse
  | _, _, .nil => .nil
  | _, _, .cons a h => by
    rw [List.reverse_cons, List.reverse_cons]
    exact pr_app (pr_rev h) (.cons a .nil)
theorem v_revL {o : Expr} {fo : F} {k : Nat} {p1 p2 p3 pos : Pos} (hK : X.K = t.K) (ho : PE X o (lift t W fo)) : PE X (.Subscript o (.Slice none none (some (.UnaryOp .USub (.Constant (.int 1) k p1) p2)) p3) pos) (lift t W (unF revG fo)) :=
  (pe_revL ho).weak fun σ H Q h => step_bnd h fun r S sa a v H1 x R rs ra e p => by
    obtain ⟨q, h1, h2⟩ := toR_post e p
    unfold revG at h1
    split at h1
    · rename_i l
      split at h1
      · rename_i xs hl
        cases h1
        obtain ⟨q, vs, rfl, g, h⟩ := seq_of R ra hl
        exact ⟨q, vs, rfl, hK ▸ SqL.of g, allocG R h2 fun q => ⟨_, upd_same, RAs.ext (Ext.snoc r q) (pr_rev h)⟩⟩
      · cases h1
    · cases h1
/-! ### max, min, sum of a list of ints -/
def mxL (b : Bool) : List Int → Option Int
  | [] => none
  | i :: r => match mxL b r with
    | none => some i
    | some j => some (if b = true then max i j else min i j)
theorem mxL_ok {b : Bool} : ∀ {ns : List Int} {m : Int}, mxL b ns = some m → m ∈ ns ∧ ∀ y ∈ ns, if b = true then y ≤ m else m ≤ y
  | [], _, h => by cases h
  | i :: r, m, h => by
    unfold mxL at h
    cases hr : mxL b r with
    | none =>
      rw [hr] at h
      cases h
      have e : r = [] := by
        cases r with
        | nil => rfl
        | cons j s =>
          unfold mxL at hr
          cases hs : mxL b s <;> rw [hs] at hr <;> cases hr
      subst e
      exact ⟨List.mem_cons_self, fun y hy => by rw [List.mem_singleton.mp hy]; cases b <;> simp⟩
    | some j =>
      rw [hr] at h
      cases h
      obtain ⟨h1, h2⟩ := mxL_ok hr
      cases b with
      | true =>
        refine ⟨?_, fun y hy => ?_⟩
        · rw [if_pos rfl]
          rcases Int.le_total i j with c | c
          · rw [Int.max_eq_right c]; exact List.mem_cons_of_mem _ h1
          · rw [Int.max_eq_left c]; exact List.mem_cons_self
        · rw [if_pos rfl, if_pos rfl]
          rcases List.mem_cons.mp hy with hy | hy
          · omega
          · have := h2 y hy
            rw [if_pos rfl] at this
            omega
      | false =>
        refine ⟨?_, fun y hy => ?_⟩
        · rw [if_neg (by decide)]
          rcases Int.le_total i j with c | c
          · rw [Int.min_eq_left c]; exact List.mem_cons_self
          · rw [Int.min_eq_right c]; exact List.mem_cons_of_mem _ h1
        · rw [if_neg (by decide), if_neg (by decide)]
          rcases List.mem_cons.mp hy with hy | hy
          · omega
          · have := h2 y hy
            rw [if_neg (by decide)] at this
            omega
def lstInts (S : List O) (l : Nat) : Option (List Int) := match S[l]? with
  | some (.lst xs) => toInts xs
  | _ => none
def mxG (b : Bool) : GN := fun as S => match as with
  | [.ref l] => (match lstInts S l with
    | some ns => (mxL b ns).map fun m => (.int m, S)
    | none => none)
  | _ => none
def sumG : GN := fun as S => match as with
  | [.ref l] => (match lstInts S l with
    | some ns => some (.int ns.sum, S)
    | none => none)
  | _ => none
theorem lst_ints {r : List Addr} {S : List O} {H : Hp} {l : Nat} {ns : List Int} (R : Rel t r S H) {x : V} (ra : RA r (.ref l) x) (h : lstInts S l = some ns) : ∃ p, x = .ref p ∧ SqL t.K H p (ns.map V.int) := by
  unfold lstInts at h
  split at h
  · rename_i xs hl
    obtain ⟨p, vs, rfl, g, q⟩ := seq_of R ra hl
    rw [toInts_ok q h] at g
    exact ⟨p, rfl, SqL.of g⟩
  · cases h
theorem s_mx {r : List Addr} {S : List O} {H : Hp} {as : List A} {vs : List V} {b : Bool} {p : A × List O} {Q : VK} (R : Rel t r S H) (ras : Paired (RA r) as vs) (e : mxG b as S = some p) (k : PostG t Q r p) :
    ∃ (a : Addr) (ns : List Int), vs = [V.ref a] ∧ SqL t.K H a (ns.map V.int) ∧ 0 < ns.length ∧ ∀ m, m ∈ ns → (∀ y, y ∈ ns → if b = true then y ≤ m else m ≤ y) → Q (.int m) H := by
  unfold mxG at e
  split at e
  · rename_i l
    obtain ⟨v, rfl, rv⟩ := pr_one ras
    split at e
    · rename_i ns hn
      cases hm : mxL b ns with
      | none =>
        rw [hm] at e
        cases e
      | some m =>
        rw [hm] at e
        cases e
        obtain ⟨q, rfl, h⟩ := lst_ints R rv hn
        obtain ⟨h1, h2⟩ := mxL_ok hm
        refine ⟨q, ns, rfl, h, List.length_pos_of_mem h1, fun m' g1 g2 => ?_⟩
        have a := h2 m' g1
        have c := g2 m h1
        have e : m' = m := by
          cases b with
          | true => rw [if_pos rfl] at a c; omega
          | false => rw [if_neg (by decide)] at a c; omega
        rw [e]
        exact okG R k rfl
    · cases e
  · cases e
theorem s_max1 {K : PySem.W.Frag} (hK : K = t.K) : SemN t (mxG true) (rMax K) := fun r S H as vs p Q R ras e k => by
  subst hK
  obtain ⟨a, ns, h1, h2, h3, h4⟩ := s_mx R ras e k
  exact ⟨a, ns, h1, h2, h3, fun m g1 g2 => h4 m g1 fun y hy => by rw [if_pos rfl]; exact g2 y hy⟩
theorem s_min1 {K : PySem.W.Frag} (hK : K = t.K) : SemN t (mxG false) (rMin K) := fun r S H as vs p Q R ras e k => by
  subst hK
  obtain ⟨a, ns, h1, h2, h3, h4⟩ := s_mx R ras e k
  exact ⟨a, ns, h1, h2, h3, fun m g1 g2 => h4 m g1 fun y hy => by rw [if_neg (by decide)]; exact g2 y hy⟩
theorem s_sum {K : PySem.W.Frag} (hK : K = t.K) : SemN t sumG (rSum K) := fun r S H as vs p Q R ras e k => by
  subst hK
  unfold sumG at e
  split at e
  · rename_i l
    obtain ⟨v, rfl, rv⟩ := pr_one ras
    split at e
    · rename_i ns hn
      cases e
      obtain ⟨q, rfl, h⟩ := lst_ints R rv hn
      exact ⟨q, ns, rfl, h, okG R k rfl⟩
    · cases e
  · cases e
end
end Vai
set_option maxRecDepth 100000
set_option maxHeartbeats 4000000
namespace L2
open PySem PySem.Spec PyProof.Rows
/-! ### set(xs) of a list of ints: the heap with the new set, what set.__init__ does there, the call -/
abbrev setZ (w : World) : Obj := { cls := .type "set", dict := none, data := .set #[] 0 (.fresh 0 0 (!w.params.followText "set-order")) }
abbrev hpZ (w : World) (s : Shared) : Heap := s.heap.push (setZ w)
/-- the new set holds these ints, what was there stands -/
def DoneZ (w : World) (s : Shared) (ns : List Int) (s2 : Shared) : Prop := ∃ (h' : Heap) (tk c : Nat), s2 = { s with heap := h', toks := tk } ∧ SetR w h' s.heap.objs.size (fun j => decide (j ∈ ns)) c ∧ c ≤ ns.length ∧ ∀ b o, s.heap.get? b = some o → h'.get? b = some o
theorem newZ_at (w : World) (s : Shared) : (hpZ w s).get? s.heap.objs.size = some (setZ w) := Heap.get?_push_size _ rfl
section
variable {P : Program} {w : World} {A : Around} {E : Value → Shared → Prop} {s : Shared} {l : Addr} {items : Array Value} {ns : List Int}
theorem vals_nth (hit : IntsAre items.toList ns) (i : Nat) (v : Value) (hv : items[i]? = some v) : ∃ k t, ns[i]? = some k ∧ v = .int k t := by
  have hi : i < ns.length := by have q := IntsAre.length hit; rw [Array.length_toList] at q; rw [← q]; exact (Array.getElem?_eq_some_iff.mp hv).1
  obtain ⟨t, e⟩ := IntsAre.int_at hit i v (by rw [Array.getElem?_toList]; exact hv)
  exact ⟨ns[i], t, List.getElem?_eq_getElem hi, by rw [e, List.getD_eq_getElem?_getD, List.getElem?_eq_getElem hi] <;> rfl⟩
theorem initZ (hh : A.handled = none) (hl : s.heap.IsList l items) (hit : IntsAre items.toList ns) (hb : ns.length + 1 < scanBound) :
    codeAny (model P w) A (.call (.builtin "set.__init__") ⟨[.ref s.heap.objs.size, .ref l], []⟩) (wants (fun r s2 => r = .none ∧ DoneZ w s ns s2) E) { s with heap := hpZ w s } := by
  have hsz : items.size = ns.length := by have q := IntsAre.length hit; rw [Array.length_toList] at q; exact q
  refine codeAny_call_builtin F.called_set.init.plain F.entry_set_init (check_set_init_1 ⟨_, newZ_at w s, rfl⟩ ?_)
  obtain ⟨⟨ocls, odict, odata, oslots⟩, hol, hcl, nl, hdl⟩ := hl
  simp only at hcl hdl; subst hcl hdl
  have hol' : (hpZ w s).get? l = some { cls := .type "list", dict := odict, data := .seq items nl, slots := oslots } := Heap.get?_push_of_some _ hol
  have hl1 : (hpZ w s).IsList l items := ⟨_, hol', rfl, nl, rfl⟩
  have a1 := F.sub_list_set; have a2 := F.sub_list_frozenset; have a3 : (Value.type "list" == Value.type "dict") = false := by decide
  have hlS : l < s.heap.objs.size := Heap.lt_size hol
  have hz : (hpZ w s).objs.size = s.heap.objs.size + 1 := Heap.size_push ..
  unfold Builtin.«set.__init__» noKeywords Builtin.Frozenset.updateFrom
  generalize hPI : pyIter = PI
  wp_walk
  subst hPI
  refine wpAny_pyIter_list hl1 (wpAny_bind (wpAny_runValue (set_update_ints ((Walks.list (by simp [hh]) _ l (by rw [hz]; exact Nat.ne_of_lt (Nat.lt_succ_of_lt hlS)) items).toS) s.heap.objs.size (by rw [hz]; simp only [List.mem_cons, List.not_mem_nil, or_false, not_or]; exact ⟨Nat.ne_of_lt (Nat.lt_succ_self _), Nat.ne_of_gt hlS⟩) ns hsz hb (vals_nth hit)
    (items.size - 0) 0 _ (by omega) (Nat.zero_le _) ⟨⟨_, Heap.get?_push_size _ rfl, rfl, rfl⟩, hl1.push _⟩ ⟨0, Nat.le_refl 0, setR_new_at (Heap.get?_push_of_some _ (newZ_at w s))⟩ fun s' c' hm hc' hS' => ?_)))
  obtain ⟨h', g2, d', tk', os'⟩ := s'
  obtain rfl : g2 = s.gens := hm.gens
  obtain rfl : d' = s.drawn := hm.drawn
  obtain rfl : os' = s.os := hm.os
  show wpAny _ _ _ _ _ _
  refine wpAny_pure (wpAny_pure ⟨rfl, h', tk', c', rfl, hS', hsz ▸ hc', fun b o e => ?_⟩)
  have hb0 : b < s.heap.objs.size := Heap.lt_size e
  exact hm.heap b o (by rw [hz]; simp only [List.mem_cons, List.not_mem_nil, or_false, not_or]; exact ⟨Nat.ne_of_lt hb0, Nat.ne_of_lt (Nat.lt_succ_of_lt hb0)⟩) (Heap.get?_push_of_some _ (Heap.get?_push_of_some _ e))
theorem callZ (hh : A.handled = none) (hl : s.heap.IsList l items) (hit : IntsAre items.toList ns) (hb : ns.length + 1 < scanBound) {Q : Value → Shared → Prop} (h : ∀ s2, DoneZ w s ns s2 → Q (.ref s.heap.objs.size) s2) : wpAny (model P w) A (call (.type "set") [.ref l]) Q E s := by
  obtain ⟨c, tl, hmro⟩ := F.called_set.mro
  have b1 := F.called_set.made; have b2 := F.called_set.sub; have b3 := F.called_set.notType; have b4 := F.called_set.canCreate; have b5 := F.typeCall_set_1 (.ref l)
  refine wpAny_call (codeAny_of_tree ?_)
  show wpAny _ _ (callAny (.type "set") _) _ _ _
  refine wpAny_pure ⟨Code.quiet_builtin _ (by decide +kernel), codeAny_builtin F.entry_type_call ?_⟩
  rw [Around.under_plain (weight_type_call_type "set" [.ref l] []) rfl]
  repeat (any_goals (first | assumption | wp_step))
  refine codeAny_mono (code_set_led1 (.ref l) (E := E) (Q₁ := fun obj s1 => obj = .ref s.heap.objs.size ∧ s1 = { s with heap := hpZ w s }) ⟨rfl, rfl⟩) fun r s1 hr => ?_
  match r, hr with
  | .error e, hr => exact hr
  | .ok (.ret obj), ⟨h1, h2⟩ =>
    subst h1 h2
    have c1 := F.called_set.init.lookup; have c2 := F.called_set.init.bind (.ref s.heap.objs.size)
    have c3 : Shared.TypeIs { s with heap := hpZ w s } (.ref s.heap.objs.size) "set" := ⟨_, newZ_at w s, rfl⟩
    repeat (any_goals (first | assumption | wp_step))
    refine codeAny_mono (initZ (E := E) (by simp [hh]) hl hit hb) fun r2 s2 hr2 => ?_
    match r2, hr2 with
    | .error e, hr2 => exact hr2
    | .ok (.ret v), ⟨h1, h2⟩ =>
      subst h1
      repeat (any_goals (first | assumption | wp_step))
      exact h _ h2
end
section
variable {X : Cx}
def rSetI1 (K : PySem.W.Frag) (w : World) : List V → Hp → VK → Prop := fun xs H Q => ∃ (l : Addr) (ns : List Int), xs = [V.ref l] ∧ SqL K H l (ns.map V.int) ∧ ns.length < 63 ∧
  ∀ (p : Addr) (c : Nat), H p = none → c ≤ ns.length → Q (.ref p) (upd H p (SetO w p (fun j => decide (j ∈ ns)) c))
theorem cr_setL (hc : X.calm = true) : CallR X (.type "set") (rSetI1 X.K X.w) := by
  intro pins s σ H xs us Q I r ⟨l, ns, e, hl, hf, q⟩
  subst e
  rw [Vals.ref1 r]
  obtain ⟨its, rv, pl, hz⟩ := I.list hl
  refine callZ (ns := ns) (I.ok.hd hc) pl.isList (by simpa using rv.ints) (by unfold scanBound; omega) fun s2 ⟨h', tk, c, e2, hS, hc', k⟩ => ?_
  subst e2
  exact ⟨.ref s.heap.objs.size, _, I.laid (t' := tk) k (Nat.le_refl _) (setO_new hS), rfl, q _ c (I.hok.fresh (Nat.le_refl _)) hc'⟩
end
end L2
set_option maxRecDepth 100000
set_option maxHeartbeats 4000000
namespace Vai
open PySem L2 PySem.Spec PyProof.Rows
/-! ### sorted(set(xs)) -/
def insU (k : Int) : List Int → List Int
  | [] => [k]
  | n :: ns => if k < n then k :: n :: ns else if k = n then n :: ns else n :: insU k ns
def ssort (ns : List Int) : List Int := ns.foldr insU []
theorem insU_mem {k j : Int} : ∀ {ns : List Int}, j ∈ insU k ns ↔ j = k ∨ j ∈ ns
  | [] => by simp [insU]
  | n :: ns => by
    unfold insU
    split
    · simp
    · split
      · rename_i e
        simp [e]
      · rw [List.mem_cons, insU_mem, List.mem_cons]
        constructor
        · rintro (h | h | h)
          · exact .inr (.inl h)
          · exact .inl h
          · exact .inr (.inr h)
        · rintro (h | h | h)
          · exact .inr (.inl h)
          · exact .inl h
          · exact .inr (.inr h)
theorem insU_pw {k : Int} : ∀ {ns : List Int}, ns.Pairwise (· < ·) → (insU k ns).Pairwise (· < ·)
  | [], _ => by simp [insU]
  | n :: ns, h => by
    unfold insU
    rw [List.pairwise_cons] at h
    split
    · rename_i c
      refine List.pairwise_cons.mpr ⟨fun j hj => ?_, List.pairwise_cons.mpr h⟩
      rcases List.mem_cons.mp hj with hj | hj
      · rw [hj]; exact c
      · have := h.1 j hj
        omega
    · split
      · exact List.pairwise_cons.mpr h
      · rename_i c d
        refine List.pairwise_cons.mpr ⟨fun j hj => ?_, insU_pw h.2⟩
        rcases insU_mem.mp hj with hj | hj
        · rw [hj]; omega
        · exact h.1 j hj
theorem ssort_mem {k : Int} : ∀ {ns : List Int}, k ∈ ssort ns ↔ k ∈ ns
  | [] => Iff.rfl
  | n :: ns => by
    show k ∈ insU n (ssort ns) ↔ _
    rw [insU_mem, ssort_mem, List.mem_cons]
theorem ssort_pw : ∀ ns : List Int, (ssort ns).Pairwise (· < ·)
  | [] => .nil
  | n :: ns => insU_pw (ssort_pw ns)
theorem strict_uniq : ∀ {xs ys : List Int}, xs.Pairwise (· < ·) → ys.Pairwise (· < ·) → (∀ k, k ∈ xs ↔ k ∈ ys) → xs = ys
  | [], [], _, _, _ => rfl
  | [], y :: ys, _, _, h => absurd ((h y).mpr List.mem_cons_self) List.not_mem_nil
  | x :: xs, [], _, _, h => absurd ((h x).mp List.mem_cons_self) List.not_mem_nil
  | x :: xs, y :: ys, hx, hy, h => by
    rw [List.pairwise_cons] at hx hy
    have e : x = y := by
      rcases List.mem_cons.mp ((h x).mp List.mem_cons_self) with a | a
      · exact a
      · rcases List.mem_cons.mp ((h y).mpr List.mem_cons_self) with b | b
        · exact b.symm
        · have := hx.1 _ b
          have := hy.1 _ a
          omega
    subst e
    rw [strict_uniq hx.2 hy.2 fun k => ⟨fun hk => ?_, fun hk => ?_⟩]
    · rcases List.mem_cons.mp ((h k).mp (List.mem_cons_of_mem _ hk)) with a | a
      · have := hx.1 k hk
        omega
      · exact a
    · rcases List.mem_cons.mp ((h k).mpr (List.mem_cons_of_mem _ hk)) with a | a
      · have := hy.1 k hk
        omega
      · exact a
def sortSetF (fa : F) : F := bnd fa fun a _ S => match a with
  | .ref l => (match lstInts S l with
    | some ns => if ns.length < 63 then some (.ok (.ref S.length) (S ++ [.lst ((ssort ns).map A.int)])) else none
    | none => none)
  | _ => none
section
variable {X : Cx} {t : Tx} {W : WX}
theorem v_sortSet {e : Expr} {fa : F} {p q pos pos2 : Pos} (hK : X.K = t.K) (hm : X.mg "sorted" = none) (hm2 : X.mg "set" = none) (ha : PE X e (lift t W fa)) (hc : X.calm = true := by rfl) (hg : Gl X "sorted" := by rfl) (hg2 : Gl X "set" := by rfl)
    (he : starEach [.Call (.Name "set" q) [e] [] pos2] X.env = [(false, eval (.Call (.Name "set" q) [e] [] pos2) X.env)] := by rfl) (he2 : starEach [e] X.env = [(false, eval e X.env)] := by rfl) :
    PE X (.Call (.Name "sorted" p) [.Call (.Name "set" q) [e] [] pos2] [] pos) (lift t W (sortSetF fa)) := by
  have h1 : PE X (.Call (.Name "set" q) [e] [] pos2) (tCB (rSetI1 X.K X.w) (tCons (lift t W fa) tNil)) := pe_callTy (cr_setL hc) hg2 hm2 (by decide +kernel) (pa_cons ha pa_nil he2) (by decide) (by decide) he2 (by rfl)
  have h2 := pe_callB (p := p) (pos := pos) (cr_sortedSet hc) hg hm (by decide +kernel) (pa_cons h1 pa_nil he) (by decide) (by decide) he (by rfl)
  refine h2.weak fun σ H Q h => step_bnd h fun r S sa a v H1 x R rs ra e p => ?_
  cases a with
  | ref l =>
    dsimp only at e
    cases hn : lstInts S l with
    | none =>
      rw [hn] at e
      cases e
    | some ns =>
      rw [hn] at e
      dsimp only at e
      split at e
      · rename_i hz
        cases e
        obtain ⟨pl, rfl, hs⟩ := lst_ints R ra hn
        refine ⟨pl, ns, rfl, hK ▸ hs, hz, fun D c hD hcl => ?_⟩
        refine ⟨D, _, c, rfl, upd_same, by omega, fun ns' p' h1 h2 h3 hp' => ?_⟩
        have e1 : ns' = ssort ns := strict_uniq h1 (ssort_pw ns) fun k => by rw [h2 k, ssort_mem, decide_eq_true_eq]
        subst e1
        have nD : p' ≠ D := fun z => by rw [z, upd_same] at hp'; cases hp'
        have R1 : Rel t r S (upd H1 D (SetO X.w D (fun j => decide (j ∈ ns)) c)) := ⟨R.inj, R.len, fun m q o h1 h2 => (R.ob m q o h1 h2).heap fun u z => by rw [upd_ne (ne_of_none z hD)]; exact z, R.tb.ext fun b u z => by rw [upd_ne (ne_of_none z hD)]; exact z⟩
        exact alloc R1 p (fun q => ⟨_, upd_same, pr_ints _⟩) p' hp'
      · cases e
  | _ => cases e
end
/-! ### what these leave as it was -/
theorem pre_slF {fo : F} {fl fh : Option F} (ho : PreF fo) (hl : ∀ f, fl = some f → PreF f) (hh : ∀ f, fh = some f → PreF f) : PreF (slF fo fl fh) := by
  have bo : ∀ {f : Option F} {k : Option Int → F}, (∀ g, f = some g → PreF g) → (∀ i, PreF (k i)) → PreF (bndO f k) := fun {f k} h hk => by
    cases f with
    | none => exact hk none
    | some g => exact pre_bnd (h g rfl) fun a => by cases a <;> first | exact hk _ | exact pre_none
  refine pre_bnd ho fun a => bo hl fun l => bo hh fun h => pre_toR fun S z e => ?_
  unfold slG at e
  split at e
  · split at e
    · cases e; exact pfa S _
    · split at e <;> cases e <;> first | exact pf0 S | exact pfa S _
    · cases e
  · cases e
theorem pre_nofs : ∀ f : F, (none : Option F) = some f → PreF f := fun f h => by cases h
theorem pre_somef {f : F} (h : PreF f) : ∀ g : F, some f = some g → PreF g := fun g e => by cases e; exact h
theorem pre_revG : Pre1 revG := fun a S z e => by
  unfold revG at e
  split at e
  · split at e
    · cases e; exact pfa S _
    · cases e
  · cases e
theorem pre_mxG {b : Bool} : PreN (mxG b) := fun as S z e => by
  unfold mxG at e
  split at e
  · split at e
    · exact pre_map e
    · cases e
  · cases e
theorem pre_sumG : PreN sumG := fun as S z e => by
  unfold sumG at e
  split at e
  · split at e
    · cases e; exact pf0 S
    · cases e
  · cases e
theorem pre_isG {b : Bool} : Pre2 (isG b) := fun x y S z e => by
  unfold isG at e
  split at e <;> cases e <;> exact pf0 S
theorem pre_tru {f : F} (h : PreF f) : PreF (truF f) := pre_bnd h fun a sa S x e => by
  split at e
  · cases e; exact pf0 S
  · cases e
theorem pre_newZ {fl : FL} (h : PreL fl) : PreF (newZ fl) := pre_bndL h fun as sa S x e => by
  split at e
  · cases e
    show S <+: S ++ _ ++ _
    rw [List.append_assoc]
    exact pfa S _
  · cases e
theorem pre_tupZG : PreN tupZG := fun as S z e => by
  unfold tupZG at e
  split at e
  · split at e
    · split at e
      · cases e
        show S <+: S ++ _ ++ _
        rw [List.append_assoc]
        exact pfa S _
      · cases e
    · cases e
  · cases e
theorem pre_catZG : Pre2 catZG := fun a b S z e => by
  unfold catZG at e
  split at e
  · split at e
    · split at e
      · split at e
        · cases e; exact pf0 S
        · split at e
          · cases e; exact pf0 S
          · cases e
            show S <+: S ++ _ ++ _
            rw [List.append_assoc]
            exact pfa S _
      · cases e
    · cases e
  · cases e
theorem pre_idx {fo : F} {fl : FL} (ho : PreF fo) (hl : PreL fl) : PreF (mtF isFzB idxG fo fl) := pre_bnd ho fun a sa S x e => by
  split at e
  · exact pre_bndL hl (fun as => pre_toR fun S2 z ez => by
      unfold idxG at ez
      split at ez
      · split at ez
        · split at ez
          · split at ez
            · exact pre_map ez
            · cases ez
          · cases ez
        · cases ez
      · cases ez) sa S x e
  · cases e
theorem pre_sortSet {fa : F} (h : PreF fa) : PreF (sortSetF fa) := pre_bnd h fun a sa S x e => by
  cases a with
  | ref l =>
    dsimp only at e
    split at e
    · split at e
      · cases e; exact pfa S _
      · cases e
    · cases e
  | _ => cases e
end Vai
set_option maxRecDepth 100000
set_option maxHeartbeats 4000000
namespace Vai
open PySem L2 PySem.Spec PyProof.Rows
/-- a def of which nothing is said -/
def noD : FD := fun _ _ => none
theorem pd_noD : PreD noD := fun as S x e => by cases e
theorem def_no {P : Program} {w : World} {K : PySem.W.Frag} {mg : Str → Option Value} {base : Heap} {t : Tx} {x qual : Str} {st : Stmt} {f : Addr} {fd : FuncData} {ps : List Str} (F : Fun K x qual st f fd) (hm : mg x = some (.ref f)) (B : Binds K fd ps []) : DefOk P w K mg base t x ps 0 noD :=
  ⟨f, fd, hm, F.kp, B, ⟨fun vs H Q E h => h.1, fun A outer s H args us vs Q E _ _ _ _ ⟨_, _, _, _, _, _, _, e, _⟩ => by cases e⟩⟩
end Vai
set_option maxRecDepth 100000
set_option maxHeartbeats 4000000
namespace HotX
open PySem PySem.Spec PyProof.Rows
section
variable {prog : Program} {w : World} {A : Around} {E : Value → Shared → Prop} {s : Shared}
theorem next_list_hot {it l x1 : Addr} {i : Nat} {items : Array Value} {Q : Option Value → Shared → Prop} (hot : HotAt A x1 s.heap) (hn : x1 ≠ it) (hit : s.heap.IsListIter it l i) (hl : s.heap.IsList l items) (hx : items[i]? = none)
    (hQ : ∀ h', Heap.ExtBut it s.heap h' → Q none { s with heap := h' }) : wpAny (model prog w) A (pyNext (.ref it)) Q E s := by
  obtain ⟨hh, o1, vs1, h1, d1, c1⟩ := hot
  obtain ⟨o, ho, hc, hd⟩ := id hit
  obtain ⟨ol, hol, _, nl, hdl⟩ := hl
  unfold pyNext
  refine wpAny_bind (wpAny_attempt (wpAny_callSpecial?_slot (name := Str.ofString "__next__") hit.typeIs slot_listiter_next (wpAny_call_entry slot_listiter_next hit.typeIs entry_listiter_next ?_ (args_listiter_next _))))
  show wpAny _ _ (field (.ref it) 0 >>= _) _ _ s
  refine wpAny_bind (wpAny_field ho hd (x := .ref l) rfl ?_); show wpAny _ _ (if (Value.ref l == Value.none) = true then _ else _) _ _ s
  rw [if_neg (show ¬ ((Value.ref l == Value.none) = true) from Bool.false_ne_true)]; show wpAny _ _ (field (.ref it) 1 >>= _) _ _ s
  refine wpAny_bind (wpAny_field ho hd (x := .int i 0) rfl ?_); show wpAny _ _ (seqItems? (.ref l) >>= _) _ _ s
  refine wpAny_bind (wpAny_seqItems hol hdl ?_); simp only [Int.toNat_natCast, hx]
  refine wpAny_bind (wpAny_rule (wpAny_bind (wpAny_setField ho hd (by simp) ?_))); show wpAny _ _ (newExc (.type "StopIteration") [] >>= _) _ _ _
  refine wpAny_bind ?_; simp only [newExc, newTuple]
  refine wpAny_bind (wpAny_newObj_type ?_ (by size_fits)); refine wpAny_bind (m := firstArgMember _ _) (wpAny_of_eq (a := Value.none) (by first | rfl | (simp only [firstArgMember]; rfl)) (wpAny_newObj_type ?_ (by size_fits)))
  have k1 : ∀ (f : Obj → Obj), (s.heap.update it f).get? x1 = some o1 := fun f => by rw [Heap.get?_update_other _ _ (Ne.symm hn)]; exact h1
  refine raiseNew_hot ⟨hh, o1, vs1, Heap.get?_push_of_some _ (Heap.get?_push_of_some _ (k1 _)), d1, c1⟩ (Nat.ne_of_lt (Heap.lt_size (Heap.get?_push_of_some _ (k1 _)))) (Heap.get?_push_size _ rfl) rfl (by first | (simp; done) | (simp; omega) | (simp only [Array.size_append]; simp; omega)) ?_
  refine wpAny_bind (wpAny_isInstance (T := "StopIteration") (b := true) ⟨_, Heap.get?_update_self _ (Heap.get?_push_size _ rfl) rfl, rfl⟩ isSubtype_stop (wpAny_pure (hQ _ fun b o hb e => ?_)))
  have k2 : ∀ (f : Obj → Obj), (s.heap.update it f).get? b = some o := fun f => by rw [Heap.get?_update_other _ _ (Ne.symm hb)]; exact e
  rw [Heap.get?_update_other _ _ (Nat.ne_of_gt (Heap.lt_size (Heap.get?_push_of_some _ (k2 _))))]
  exact Heap.get?_push_of_some _ (Heap.get?_push_of_some _ (k2 _))
theorem next_tuple_hot {it l x1 : Addr} {i : Nat} {items : Array Value} {Q : Option Value → Shared → Prop} (hot : HotAt A x1 s.heap) (hn : x1 ≠ it) (hit : s.heap.IsTupleIter it l i) (hl : s.heap.IsTuple l items) (hx : items[i]? = none)
    (hQ : ∀ h', Heap.ExtBut it s.heap h' → Q none { s with heap := h' }) : wpAny (model prog w) A (pyNext (.ref it)) Q E s := by
  obtain ⟨hh, o1, vs1, h1, d1, c1⟩ := hot
  obtain ⟨o, ho, hc, hd⟩ := id hit
  obtain ⟨ol, hol, _, nl, hdl⟩ := hl
  unfold pyNext
  refine wpAny_bind (wpAny_attempt (wpAny_callSpecial?_slot (name := Str.ofString "__next__") hit.typeIs F.slot_tuple_iterator_next (wpAny_call_entry F.slot_tuple_iterator_next hit.typeIs F.entry_tuple_iterator_next ?_ (F.args_tuple_iterator_next_1 _))))
  show wpAny _ _ (field (.ref it) 0 >>= _) _ _ s
  refine wpAny_bind (wpAny_field ho hd (x := .ref l) rfl ?_); show wpAny _ _ (if (Value.ref l == Value.none) = true then _ else _) _ _ s
  rw [if_neg (show ¬ ((Value.ref l == Value.none) = true) from Bool.false_ne_true)]; show wpAny _ _ (field (.ref it) 1 >>= _) _ _ s
  refine wpAny_bind (wpAny_field ho hd (x := .int i 0) rfl ?_); show wpAny _ _ (seqItems? (.ref l) >>= _) _ _ s
  refine wpAny_bind (wpAny_seqItems hol hdl ?_); simp only [Int.toNat_natCast, hx]
  refine wpAny_bind (wpAny_rule (wpAny_bind (wpAny_setField ho hd (by simp) ?_))); show wpAny _ _ (newExc (.type "StopIteration") [] >>= _) _ _ _
  refine wpAny_bind ?_; simp only [newExc, newTuple]
  refine wpAny_bind (wpAny_newObj_type ?_ (by size_fits)); refine wpAny_bind (m := firstArgMember _ _) (wpAny_of_eq (a := Value.none) (by first | rfl | (simp only [firstArgMember]; rfl)) (wpAny_newObj_type ?_ (by size_fits)))
  have k1 : ∀ (f : Obj → Obj), (s.heap.update it f).get? x1 = some o1 := fun f => by rw [Heap.get?_update_other _ _ (Ne.symm hn)]; exact h1
  refine raiseNew_hot ⟨hh, o1, vs1, Heap.get?_push_of_some _ (Heap.get?_push_of_some _ (k1 _)), d1, c1⟩ (Nat.ne_of_lt (Heap.lt_size (Heap.get?_push_of_some _ (k1 _)))) (Heap.get?_push_size _ rfl) rfl (by first | (simp; done) | (simp; omega) | (simp only [Array.size_append]; simp; omega)) ?_
  refine wpAny_bind (wpAny_isInstance (T := "StopIteration") (b := true) ⟨_, Heap.get?_update_self _ (Heap.get?_push_size _ rfl) rfl, rfl⟩ isSubtype_stop (wpAny_pure (hQ _ fun b o hb e => ?_)))
  have k2 : ∀ (f : Obj → Obj), (s.heap.update it f).get? b = some o := fun f => by rw [Heap.get?_update_other _ _ (Ne.symm hb)]; exact e
  rw [Heap.get?_update_other _ _ (Nat.ne_of_gt (Heap.lt_size (Heap.get?_push_of_some _ (k2 _))))]
  exact Heap.get?_push_of_some _ (Heap.get?_push_of_some _ (k2 _))
end
end HotX

namespace Vai
open PySem L2 L2H PySem.Spec PyProof.Rows
theorem hot_off {X : Cx} {pins : List (Addr × Obj)} {σ : L2.St} {H : Hp} {s : Shared} {b : Addr} (hc : HotC X) (I : Inv X pins σ H s) (f : FpOk X pins H b) : ∃ x1, HotX.HotAt X.A x1 s.heap ∧ x1 ≠ b := by
  obtain ⟨p, ⟨hh, v1, e1, c1⟩, hp⟩ := hc
  exact ⟨p.1, ⟨hh, p.2, v1, (I.pin p (List.mem_append_left _ hp)).1, e1, c1⟩, f.2.2.2.2.2 p (List.mem_append_left _ hp)⟩
theorem turnH_list {P : Program} {w : World} {K : PySem.W.Frag} {tg : Expr} (a it : Addr) : TurnH P w K tg (Itl K a) [it] it (fun i h => h.IsListIter it a i) where
  mem := (turn_list (P := P) (w := w) (K := K) (tg := tg) a it).mem
  obj := (turn_list (P := P) (w := w) (K := K) (tg := tg) a it).obj
  keep := (turn_list (P := P) (w := w) (K := K) (tg := tg) a it).keep
  self := (turn_list (P := P) (w := w) (K := K) (tg := tg) a it).self
  item := fun X hP hw hK hc i pins s σ H E I hf st hg => by
    subst hP hw hK
    obtain ⟨xs, x, hq, hx⟩ := hg
    obtain ⟨its, rv, p, hz⟩ := I.list hq
    obtain ⟨u, hu, ru⟩ := rv.get hx
    obtain ⟨f0, f1, f2, f3, f4, f5⟩ := hf it (by simp)
    exact wpAny_pyNext_list_item st p.isList (x := u) (by simpa using hu) fun h' st' sb => by
      obtain ⟨o, e, c, d⟩ := id st'
      exact ⟨u, rfl, go_of (s := { s with heap := h' }) e c d (by decide) ⟨x, H, I.turned (t' := s.toks) (fun b o hb e => (sb.2 b hb).trans e) f0 f1 f3 f4 f5, ru, ⟨rfl, fun ys hy => by rw [I.list_inj hy hq]; exact hx⟩, st', fun b hb => (hf b hb).1⟩⟩
  done := fun X hP hw hK hc i pins s σ H E I hf st ⟨xs, hq, hx⟩ => by
    subst hP hw hK
    obtain ⟨its, rv, p, hz⟩ := I.list hq
    obtain ⟨x1, h1, h2⟩ := hot_off hc I (hf it (by simp))
    obtain ⟨f0, f1, f2, f3, f4, f5⟩ := hf it (by simp)
    have hl := rv.length
    exact HotX.next_list_hot h1 h2 st p.isList (by simp; omega) fun h' eb => ⟨rfl, I.turned (t' := s.toks) (fun b o hb e => eb b o hb e) f0 f1 f3 f4 f5⟩
theorem turnH_tuple {P : Program} {w : World} {K : PySem.W.Frag} {tg : Expr} (a it : Addr) : TurnH P w K tg (Itt K a) [it] it (fun i h => h.IsTupleIter it a i) where
  mem := (turn_tuple (P := P) (w := w) (K := K) (tg := tg) a it).mem
  obj := (turn_tuple (P := P) (w := w) (K := K) (tg := tg) a it).obj
  keep := (turn_tuple (P := P) (w := w) (K := K) (tg := tg) a it).keep
  self := (turn_tuple (P := P) (w := w) (K := K) (tg := tg) a it).self
  item := fun X hP hw hK hc i pins s σ H E I hf st hg => by
    subst hP hw hK
    obtain ⟨xs, x, hq, hx⟩ := hg
    obtain ⟨its, rv, p, hz⟩ := I.tuple hq
    obtain ⟨u, hu, ru⟩ := rv.get hx
    obtain ⟨f0, f1, f2, f3, f4, f5⟩ := hf it (by simp)
    exact wpAny_pyNext_tuple_item st (show s.heap.IsTuple a its.toArray from p) (x := u) (by simpa using hu) fun h' st' sb => by
      obtain ⟨o, e, c, d⟩ := id st'
      exact ⟨u, rfl, go_of (s := { s with heap := h' }) e c d (by decide) ⟨x, H, I.turned (t' := s.toks) (fun b o hb e => (sb.2 b hb).trans e) f0 f1 f3 f4 f5, ru, ⟨rfl, fun ys hy => by rw [I.tuple_inj hy hq]; exact hx⟩, st', fun b hb => (hf b hb).1⟩⟩
  done := fun X hP hw hK hc i pins s σ H E I hf st ⟨xs, hq, hx⟩ => by
    subst hP hw hK
    obtain ⟨its, rv, p, hz⟩ := I.tuple hq
    obtain ⟨x1, h1, h2⟩ := hot_off hc I (hf it (by simp))
    obtain ⟨f0, f1, f2, f3, f4, f5⟩ := hf it (by simp)
    have hl := rv.length
    exact HotX.next_tuple_hot h1 h2 st (show s.heap.IsTuple a its.toArray from p) (by simp; omega) fun h' eb => ⟨rfl, I.turned (t' := s.toks) (fun b o hb e => eb b o hb e) f0 f1 f3 f4 f5⟩
section
variable {X : Cx} {t : Tx} {W : WX} {tg : Expr}
theorem pi_seqH {l : Expr} {tl : TE} (hl : PE X l tl) : PIH X tg l (iSeq X.K tl) := by
  constructor
  intro pins s σ H R I h
  refine thn (hl.run pins s σ H _ I h) fun v s1 ⟨x, H1, I1, r1, q1⟩ => ?_
  rcases q1 with ⟨a, ea, ⟨xs, hq⟩, q⟩ | ⟨a, ea, ⟨xs, hq⟩, q⟩ <;> subst ea <;> cases r1
  · obtain ⟨us, _, pl, _⟩ := I1.list hq
    refine wpAny_pyIter_list pl.isList ⟨s1.heap.objs.size, [s1.heap.objs.size], _, _, H1, rfl, I1.kept (t' := s1.toks) fun b o z => Heap.get?_push_of_some _ z, turnH_list a _, ⟨_, Heap.get?_push_size _ rfl, rfl, rfl⟩, fun b hb => ?_, q⟩
    rw [List.mem_singleton.mp hb]
    exact I1.fpOk (Nat.le_refl _) (I1.hok.fresh (Nat.le_refl _))
  · obtain ⟨us, _, pl, _⟩ := I1.tuple hq
    refine wpAny_pyIter_tuple (show s1.heap.IsTuple a us.toArray from pl) ⟨s1.heap.objs.size, [s1.heap.objs.size], _, _, H1, rfl, I1.kept (t' := s1.toks) fun b o z => Heap.get?_push_of_some _ z, turnH_tuple a _, ⟨_, Heap.get?_push_size _ rfl, rfl, rfl⟩, fun b hb => ?_, q⟩
    rw [List.mem_singleton.mp hb]
    exact I1.fpOk (Nat.le_refl _) (I1.hok.fresh (Nat.le_refl _))
end
end Vai
set_option maxRecDepth 100000
set_option maxHeartbeats 4000000
namespace Vai
open PySem L2 L2H PySem.Spec PyProof.Rows
/-! ### a list comprehension while an exception is handled -/
section
variable {X : Cx}
theorem repin {pn' pins : List (Addr × Obj)} {σ : L2.St} {H : Hp} {s : Shared} (I : Inv X pins σ H s) (h : ∀ p ∈ pn' ++ pins, s.heap.get? p.1 = some p.2 ∧ H p.1 = none ∧ p.1 ≠ X.env.locals ∧ p.1 ∉ X.fs ∧ ∀ v, p.2.data ≠ .cell v) : Inv { X with pn := pn' } pins σ H s :=
  ⟨⟨I.ok.mod, I.ok.kind, I.ok.glob, I.ok.blt, I.ok.above, I.ok.inj, I.ok.has, I.ok.cab, I.ok.hd, I.ok.frames, I.ok.stk, I.ok.exf, I.ok.bs, I.ok.bsz, I.ok.noex, I.ok.exfs, I.ok.funs, I.ok.frf⟩, I.os, I.bare, I.base, I.loc, I.cell, I.free, I.freeC, h, I.hok, I.len⟩
abbrev blkH (X : Cx) (s : Shared) (H : Hp) (scope : Scope) (cenv : Env) (fp : List Addr) : Cx := { X.blk s H scope cenv fp with pn := X.pn }
theorem block_startH {pins : List (Addr × Obj)} {σ : L2.St} {H : Hp} {s : Shared} {scope : Scope} {own : List (PySem.Str × Nat)} {fp : List Addr} (I : Inv X pins σ H s) (ok : BlkOk X.N X.env.scope scope own) (hN : X.N.Nodup) (hfp : ∀ b ∈ fp, FpOk X pins H b ∧ b < s.heap.objs.size) :
    Inv (blkH X s H scope (compEnvC scope (cellsFrom (s.heap.objs.size + 1) scope.names (cloFrom X.env.cells scope.names [])) s.heap.objs.size X.env) fp) [] (wipe σ (own.map (·.2))) H { s with heap := pushCells (s.heap.push { cls := .type "dict", data := .dict #[] }) scope.names } :=
  repin (block_start I ok hN hfp) fun p hp => by
    rw [List.append_nil] at hp
    obtain ⟨h1, h2, h3, h4, h5⟩ := I.pin p (List.mem_append_left _ hp)
    refine ⟨pushCells_keeps _ _ _ _ (Heap.get?_push_of_some _ h1), h2, Nat.ne_of_lt (Heap.lt_size h1), ?_, h5⟩
    show p.1 ∉ frs X.stack
    rcases I.ok.stk with e | ⟨e, e2⟩
    · rw [e]; exact h4
    · rw [e]
      show p.1 ∉ (X.env :: X.outer).filterMap (·.frame)
      rw [List.filterMap_cons, e2]
      exact fun z => (List.mem_cons.mp z).elim h3 h4
theorem pe_lcH {elt tg iter : Expr} {ifs : List Expr} {scope : Scope} {own : List (PySem.Str × Nat)} {pos : Pos} {wi : TI} {g : TG} {tt : TT} {te : TE} (hc : HotC X) (hN : X.N.Nodup) (hi : PIH X tg iter wi) (ok : BlkOk X.N X.env.scope scope own)
    (hg : ∀ (s : Shared) (H : Hp) (C : Addr) (cl : List (PySem.Str × Addr)) (fp : List Addr), PG (blkH X s H scope (compEnvC scope cl C X.env) fp) tg g) (ht : ∀ (pins : List (Addr × Obj)) (σ : L2.St) (s : Shared) (H : Hp) (C : Addr) (cl : List (PySem.Str × Addr)) (fp : List Addr), Inv X pins σ H s → (∀ b ∈ fp, FpOk X pins H b ∧ b < s.heap.objs.size) → PTs (blkH X s H scope (compEnvC scope cl C X.env) fp) ifs (fun σ2 H2 Q2 => wipe σ2 (own.map (·.2)) = wipe σ (own.map (·.2)) ∧ tt σ2 H2 Q2))
    (he : ∀ (s : Shared) (H : Hp) (C : Addr) (cl : List (PySem.Str × Addr)) (fp : List Addr), PE (blkH X s H scope (compEnvC scope cl C X.env) fp) elt te) (hs : ∀ x, foldedSetIterable iter X.env x = pure x := by intro _; rfl) :
    PE X (.ListComp elt [⟨tg, iter, ifs, 0⟩] scope pos) (tLc wi g tt te (own.map (·.2))) := by
  constructor
  intro pins s σ H Q J0 hq0
  rw [eval_ListComp]
  have captured : ∀ y ∈ scope.names, y.2 = .free → ∃ c, X.env.cells.lookup y.1 = some c := fun y hy e => (ok.free y hy e).elim (fun k => J0.ok.has _ (.inl k)) (fun k => J0.ok.has _ (.inr k))
  refine wpAny_comprehension_free (use := none) rfl hs (closure_ok captured) ok.kind (fun y hy e => by rw [ok.uniq y hy, e]) (thn (hi.run pins s σ H _ J0 hq0) fun _ s1 hx => thn hx fun _ s2 h2 => ?_)
  obtain ⟨it, fp, tn, J, H2, e, I2, T, st2, f2, q⟩ := h2
  subst e
  refine wpAny_newObj_type (newEnv_comp ?_) (by show 0 ≤ sizeLine; decide)
  generalize hD : s2.heap.objs.size = D
  have freeD : H2 D = none := I2.hok.fresh (Nat.le_of_eq hD)
  obtain ⟨W, ⟨m0, w0⟩, turn⟩ := q D freeD
  generalize hs3 : ({ s2 with heap := s2.heap.push { cls := .type "list", data := .seq ([] : List Value).toArray } } : Shared) = s3
  have I3 : Inv X pins σ (upd H2 D (.lst [])) s3 := by
    subst hs3
    refine I2.laid (t' := s2.toks) (fun b o z => Heap.get?_push_of_some _ z) (Nat.le_of_eq hD) ⟨Nat.zero_le _, [], 0, .nil, ?_⟩
    subst hD
    exact Heap.get?_push_size _ rfl
  have h3 : s3.heap = s2.heap.push { cls := .type "list", data := .seq ([] : List Value).toArray } := by subst hs3; rfl
  have below : ∀ b ∈ fp, b < s2.heap.objs.size := fun b hb => by
    obtain ⟨_, z, _⟩ := T.obj _ _ st2 b hb
    exact Heap.lt_size z
  have f3 : ∀ b ∈ fp, FpOk X pins (upd H2 D (.lst [])) b ∧ b < s3.heap.objs.size := fun b hb => by
    have lt := below b hb
    have nD : b ≠ D := by subst hD; exact Nat.ne_of_lt lt
    exact ⟨⟨by rw [upd_ne nD]; exact (f2 b hb).1, (f2 b hb).2⟩, by rw [h3, Heap.size_push]; exact Nat.lt_succ_of_lt lt⟩
  have st3 : tn 0 s3.heap := T.keep _ _ _ st2 fun b _ o z => by rw [h3]; exact Heap.get?_push_of_some _ z
  have I4 := block_startH I3 ok hN f3
  have pg := hg s3 (upd H2 D (.lst [])) s3.heap.objs.size (cellsFrom (s3.heap.objs.size + 1) scope.names (cloFrom X.env.cells scope.names [])) fp
  have pt := ht pins σ s3 (upd H2 D (.lst [])) s3.heap.objs.size (cellsFrom (s3.heap.objs.size + 1) scope.names (cloFrom X.env.cells scope.names [])) fp I3 f3
  have pe := he s3 (upd H2 D (.lst [])) s3.heap.objs.size (cellsFrom (s3.heap.objs.size + 1) scope.names (cloFrom X.env.cells scope.names [])) fp
  have none3 : ∀ b ∈ fp, (upd H2 D (.lst [])) b = none := fun b hb => (f3 b hb).1.1
  show codeAny _ _ (.compStart (.ListComp elt [⟨tg, iter, ifs, 0⟩] scope pos) 0 (.ref it) (.ref D) (compEnvC scope (cellsFrom (s3.heap.objs.size + 1) scope.names (cloFrom X.env.cells scope.names [])) s3.heap.objs.size X.env)) (compPost (model X.prog X.w) X.A X.xe none (EP X pins σ Q) (.ref D) s3.heap.objs.size) { s3 with heap := pushCells (s3.heap.push { cls := .type "dict", data := .dict #[] }) scope.names }
  generalize hce : compEnvC scope (cellsFrom (s3.heap.objs.size + 1) scope.names (cloFrom X.env.cells scope.names [])) s3.heap.objs.size X.env = ce at I4 pg pt pe ⊢
  have cL : ce.locals = s3.heap.objs.size := by subst hce; rfl
  generalize hH3 : upd H2 D (.lst []) = H3 at I3 I4 pg pt pe w0 none3 f3
  generalize hs4 : ({ s3 with heap := pushCells (s3.heap.push { cls := .type "dict", data := .dict #[] }) scope.names } : Shared) = s4 at I4 ⊢
  have st4 : tn 0 s4.heap := T.keep _ _ _ st3 fun b _ o z => by subst hs4; exact pushCells_keeps _ _ _ _ (Heap.get?_push_of_some _ z)
  have still : ∀ {τ : L2.St} {G : Hp} {v : Shared}, Inv (blkH X s3 H3 scope ce fp) [] τ G v → (∀ b ∈ fp, G b = none) → ∀ b ∈ fp, FpOk (blkH X s3 H3 scope ce fp) [] G b := fun {τ G v} I' hn b hb =>
    ⟨hn b hb, (I'.ok.exf b hb).1, I'.ok.exfs b hb, .inl hb, fun x c z => (I'.ok.exf b hb).2 x c z, fun p hp => (f3 b hb).1.2.2.2.2.2 p (List.mem_append_left _ (by simpa using hp))⟩
  have loop : codeAny (model X.prog X.w) X.A (.compLoop (.ListComp elt [⟨tg, iter, ifs, 0⟩] scope pos) 0 (.ref it) (.ref D) ce) (compPost (model X.prog X.w) X.A X.xe none (EP X pins σ Q) (.ref D) s3.heap.objs.size) s4 := by
    refine compLoop_any (fun n v => ∃ i G, Inv (blkH X s3 H3 scope ce fp) [] (wipe σ (own.map (·.2))) G v ∧ tn i v.heap ∧ (∀ b ∈ fp, G b = none) ∧ W i n G) ?_ m0 ⟨0, H3, I4, st4, none3, w0⟩
    rintro n s5 ⟨i, H5, I5, st5, n5, w5⟩
    rcases turn i n H5 w5 with ⟨stop, qq⟩ | ⟨go, Nx, hNx, step⟩
    · refine thnF (T.done (blkH X s3 H3 scope ce fp) rfl rfl rfl hc i [] s5 _ H5 (fun _ _ => False) I5 (still I5 n5) st5 stop) fun r s6 ⟨hr, I6⟩ => ?_
      subst hr
      have I7 : Inv X pins σ H5 s6 := I3.call' (ch := fp) I6.os I6.base I6.hok I6.bare fun b hb => ⟨(f3 b hb).1.2.2.2.1, (f3 b hb).1.2.1, (f3 b hb).1.2.2.2.2.1, (f3 b hb).1.2.2.2.2.2⟩
      have nC : H5 s3.heap.objs.size = none := by
        have z : H5 ce.locals = none := I6.free
        rwa [cL] at z
      obtain ⟨m, hn, _⟩ := I6.loc
      have hn : s6.heap.Ns ce.locals m := hn
      rw [cL] at hn
      refine ⟨m, hn, fun h'' sb => ?_⟩
      obtain ⟨x0, x1, x2, x3, x4, x5⟩ := I3.fpOk (Nat.le_refl _) nC
      exact ⟨.ref D, H5, I7.turned (t' := s6.toks) (fun b o hb z => (sb.2 b hb).trans z) x0 x1 x3 x4 x5, rfl, qq⟩
    · refine thnF (T.item (blkH X s3 H3 scope ce fp) rfl rfl rfl hc i [] s5 _ H5 (fun _ _ => False) I5 (still I5 n5) st5 go) fun r s6 ⟨u, hr, h6⟩ => ?_
      subst hr
      refine thnF h6 fun _ s7 ⟨x, H7, I7, r7, y7, st7, n7⟩ => ?_
      refine thnF (pg.run _ s7 _ H7 x u _ (I7.pinned (still I7 n7) (T.obj _ _ st7)) r7 (step x H7 y7)) fun _ s8 ⟨σ8, H8, I8, hw8, q8⟩ => ?_
      refine thnF (pt.run _ s8 σ8 H8 _ I8 ⟨hw8, q8⟩) fun b s9 ⟨H9, I9, q9⟩ => ?_
      have fin : ∀ {v : Shared} {G : Hp}, Inv (blkH X s3 H3 scope ce fp) ([] ++ pinsAt fp s7.heap) σ8 G v → Nx G → ∃ m, m < n ∧ ∃ i H', Inv (blkH X s3 H3 scope ce fp) [] (wipe σ (own.map (·.2))) H' v ∧ tn i v.heap ∧ (∀ b ∈ fp, H' b = none) ∧ W i m H' := fun {v G} I' nx => by
        obtain ⟨m', hm, w'⟩ := hNx G nx
        have pinned : ∀ b ∈ fp, ∀ o, s7.heap.get? b = some o → v.heap.get? b = some o ∧ G b = none := fun b hb o z =>
          ⟨(I'.pin (b, o) (List.mem_append_right _ (List.mem_append_right _ (mem_pinsAt hb z)))).1, (I'.pin (b, o) (List.mem_append_right _ (List.mem_append_right _ (mem_pinsAt hb z)))).2.1⟩
        refine ⟨m', hm, i + 1, G, (I'.unpinned (pins := [])).weak (by rw [← hw8, wipe_length]) (fun j y z => ?_), T.keep _ _ _ st7 fun b hb o z => (pinned b hb o z).1, fun b hb => ?_, w'⟩
        · rw [← hw8] at z
          exact (wipe_some z).1
        · obtain ⟨o, z, _⟩ := T.obj _ _ st7 b hb
          exact (pinned b hb o z).2
      cases b with
      | false =>
        simp only [Bool.false_eq_true, if_false] at q9 ⊢
        exact fin I9 q9
      | true =>
        simp only [if_true] at q9 ⊢
        refine thnF (pe.run _ s9 σ8 H9 _ I9 q9) fun z s10 ⟨yv, H10, I10, r10, acc, hD10, few, nx⟩ => ?_
        exact app_ok (X := blkH X s3 H3 scope ce fp) I10 hD10 few r10 fun s11 I11 => fin I11 nx
  exact codeAny_compStart_list loop (T.self X.A 0 _ _ _ st4 loop)
end
end Vai
set_option maxRecDepth 100000
set_option maxHeartbeats 4000000
namespace Vai
open PySem L2 L2H PySem.Spec PyProof.Rows
section
variable {X : Cx} {t : Tx} {W : WX} {tg : Expr}
theorem _root_.L2H.PIH.weak {X : Cx} {tg e : Expr} {t1 t2 : TI} (h : PIH X tg e t1) (k : ∀ σ H Q, t2 σ H Q → t1 σ H Q) : PIH X tg e t2 := ⟨fun pins s σ H Q I q => h.run pins s σ H Q I (k _ _ _ q)⟩
theorem iseq_ok {fa : F} {K : PySem.W.Frag} (hK : K = t.K) {σ : L2.St} {H : Hp} {Q : It → Hp → Prop} (h : liftI t W (seqI fa) σ H Q) : iSeq K (lift t W fa) σ H Q := by
  obtain ⟨r, sa, S, x, R, rs, e, p⟩ := h
  unfold seqI at e
  cases hf : fa sa S with
  | none =>
    rw [hf] at e
    cases e
  | some y =>
    rw [hf] at e
    refine ⟨r, sa, S, y, R, rs, hf, ?_⟩
    cases y with
    | er c S' =>
      cases e
      exact p
    | ok a S' =>
      cases a with
      | ref l =>
        intro r' H' v ex R' ra
        obtain ⟨q, hq, rfl⟩ := ra
        dsimp only at e
        cases hl : S'[l]? with
        | none =>
          rw [hl] at e
          cases e
        | some o =>
          rw [hl] at e
          have ho := R'.ob l q o hq hl
          rw [hK]
          cases o with
          | lst xs =>
            cases e
            obtain ⟨vs, h1, h2⟩ := ho
            exact .inl ⟨q, rfl, ⟨vs, SqL.of h1⟩, p r' H' _ ex R' ⟨q, hq, rfl⟩⟩
          | scr ns =>
            cases e
            exact .inl ⟨q, rfl, ⟨_, scr_sq ho⟩, p r' H' _ ex R' ⟨q, hq, rfl⟩⟩
          | tup xs =>
            cases e
            obtain ⟨vs, h1, h2⟩ := ho
            exact .inr ⟨q, rfl, ⟨vs, sqTo h1⟩, p r' H' _ ex R' ⟨q, hq, rfl⟩⟩
          | dic ks => cases e
          | dfz ks => cases e
          | dt ks => cases e
          | dtf ks => cases e
          | set es => cases e
          | code => cases e
          | clo _ _ _ => cases e
          | fz _ => cases e
      | _ => cases e
theorem irg1_ok {fl : FL} {σ : L2.St} {H : Hp} {Q : It → Hp → Prop} (h : liftI t W (rg1I fl) σ H Q) : iRng1 (liftL t W fl) σ H Q := by
    obtain ⟨r, sa, S, x, R, rs, e, p⟩ := h
    unfold rg1I at e
    cases hf : fl sa S with
    | none =>
      rw [hf] at e
      cases e
    | some y =>
      rw [hf] at e
      refine ⟨r, sa, S, y, R, rs, hf, ?_⟩
      cases y with
      | er c S' =>
        cases e
        exact p
      | ok as S' =>
        intro r' H' vs ex R' ra
        split at e
        · rename_i j S2 hy
          cases hy
          split at e
          · rename_i hb
            cases e
            cases ra with
            | cons h1 h2 =>
              cases h1
              cases h2
              obtain ⟨b1, b2⟩ := inBd_ok hb
              exact ⟨j, rfl, b1, b2, p r' H' _ ex R' rfl⟩
          · cases e
        · cases e
        · rename_i hy
          cases hy
        · rename_i hy
          cases hy
theorem v_iseqH {l : Expr} {fa : F} (hK : X.K = t.K) (hl : PE X l (lift t W fa)) : PIH X tg l (liftI t W (seqI fa)) := (pi_seqH hl).weak fun σ H Q h => iseq_ok hK h
theorem v_irg1H {a : Expr} {fl : FL} {p pos : Pos} (hm : X.mg "range" = none) (ha : PA X [a] (liftL t W fl)) (hg : Gl X "range" := by rfl) (hs : starEach [a] X.env = [(false, eval a X.env)] := by rfl) : PIH X tg (.Call (.Name "range" p) [a] [] pos) (liftI t W (rg1I fl)) :=
  (pi_range1H hg hm ha hs).weak fun σ H Q h => irg1_ok h
theorem v_forP {iter : Expr} {body : List Stmt} {fi : FI} {T : TF} {f : FS} {pos : Pos} (hps : PS X (.For tg iter body [] pos) (tFor (liftI t W fi) (liftG t T) (liftS t W f))) : PS X (.For tg iter body [] pos) (liftS t W (forF fi T f)) := hps.weak fun D σ H h => by
  obtain ⟨r, sa, S, x, R, rs, e, p⟩ := h
  unfold forF at e
  cases hf : fi sa S with
  | none =>
    rw [hf] at e
    cases e
  | some y =>
    rw [hf] at e
    refine ⟨r, sa, S, y, R, rs, hf, ?_⟩
    cases y with
    | er c S' =>
      cases e
      exact fun r' H' ex R' => p r' H' σ ex R' (rs.ext ex)
    | ok i S' =>
      intro r' H' J ex R' hJ
      refine ⟨fun j m σ H => ∃ r2 sa S, Ext r' r2 ∧ Rel t r2 S H ∧ RS r2 sa σ ∧ forGo i T f m j sa S = some x, ⟨_, r', sa, S', Ext.refl _, R', rs.ext ex, e⟩, ?_⟩
      rintro j m σ H ⟨r2, sa, S, e2, R2, rs2, ek⟩
      have hJ2 := hJ.ext e2
      have p2 := p.ext (ex.trans e2)
      cases m with
      | zero => cases ek
      | succ m =>
        simp only [forGo] at ek
        cases hit : itemAt i j S with
        | none =>
          rw [hit] at ek
          cases ek
        | some u =>
          rw [hit] at ek
          cases u with
          | none =>
            cases ek
            exact .inl ⟨item_stop R2 hJ2 hit, p2 r2 H σ (Ext.refl _) R2 rs2⟩
          | some a =>
            obtain ⟨g1, g2⟩ := item_go R2 hJ2 hit
            refine .inr ⟨g1, fun σ' H' => ∃ r3 sa S, Ext r' r3 ∧ Rel t r3 S H' ∧ RS r3 sa σ' ∧ forGo i T f m (j + 1) sa S = some x, fun σ' H' z => ⟨m, Nat.lt_succ_self m, z⟩, fun v H3 hy => ?_⟩
            obtain ⟨rfl, ra⟩ := g2 v H3 hy
            dsimp only at ek
            cases hT : T a sa S with
            | none =>
              rw [hT] at ek
              cases ek
            | some z =>
              rw [hT] at ek
              refine ⟨r2, sa, S, a, z, R2, rs2, ra, hT, fun r3 H4 σ4 e3 R3 rs3 => ?_⟩
              dsimp only at ek
              cases hb : f z.1 z.2 with
              | none =>
                rw [hb] at ek
                cases ek
              | some w =>
                rw [hb] at ek
                refine ⟨r3, z.1, z.2, w, R3, rs3, hb, ?_⟩
                cases w with
                | nx sa2 S2 => exact fun r4 H5 σ5 e4 R4 rs4 => ⟨r4, sa2, S2, (e2.trans e3).trans e4, R4, rs4, ek⟩
                | ct sa2 S2 => exact fun r4 H5 σ5 e4 R4 rs4 => ⟨r4, sa2, S2, (e2.trans e3).trans e4, R4, rs4, ek⟩
                | bk sa2 S2 =>
                  cases ek
                  exact fun r4 H5 σ5 e4 R4 rs4 => p2 r4 H5 σ5 (e3.trans e4) R4 rs4
                | rt a2 S2 =>
                  cases ek
                  exact fun r4 H5 v5 e4 R4 rv => p2 r4 H5 v5 (e3.trans e4) R4 rv
                | er c2 sa2 S2 =>
                  cases ek
                  exact fun r4 H5 σ5 e4 R4 rs4 => p2 r4 H5 σ5 (e3.trans e4) R4 rs4
theorem v_forSH {iter : Expr} {body : List Stmt} {fi : FI} {T : TF} {f : FS} {pos : Pos} (hot : HotC X) (hp : PassesOwn (model X.prog X.w) X.A X.env X.xe) (hi : PIH X tg iter (liftI t W fi)) (hg : PG X tg (liftG t T)) (hb : PSs X body (liftS t W f))
    (hs : ∀ x, foldedSetIterable iter X.env x = pure x := by intro _; rfl) : PS X (.For tg iter body [] pos) (liftS t W (forF fi T f)) := v_forP (ps_forH hp hot hi hg hb hs)
theorem v_lcH (own : List (PySem.Str × Nat)) {elt iter tg : Expr} {ifs : List Expr} {scope : Scope} {vs : List Nat} {pos : Pos} {fi : FI} {T : TX} {ft fe : F} (hot : HotC X) (hN : X.N.Nodup) (hi : PIH X tg iter (liftI t W fi)) (ok : BlkOk X.N X.env.scope scope own)
    (hg : ∀ (s : Shared) (H : Hp) (C : Addr) (cl : List (PySem.Str × Addr)) (fp : List Addr), PG (blkH X s H scope (compEnvC scope cl C X.env) fp) tg (liftGx t vs T)) (ht : ∀ (s : Shared) (H : Hp) (C : Addr) (cl : List (PySem.Str × Addr)) (fp : List Addr), PTs (blkH X s H scope (compEnvC scope cl C X.env) fp) ifs (liftB t W0 ft))
    (he : ∀ (s : Shared) (H : Hp) (C : Addr) (cl : List (PySem.Str × Addr)) (fp : List Addr), PE (blkH X s H scope (compEnvC scope cl C X.env) fp) elt (lift t W0 fe)) (hvs : own.map (·.2) = vs := by rfl) (hs : ∀ x, foldedSetIterable iter X.env x = pure x := by intro _; rfl) :
    PE X (.ListComp elt [⟨tg, iter, ifs, 0⟩] scope pos) (lift t W (lcF fi T vs ft fe)) := by
  subst hvs
  exact (pe_lcH hot hN hi ok hg (fun _ _ s H C cl fp _ _ => L2.PTs.weak (ht s H C cl fp) fun _ _ _ h => h.2) he hs).weak fun _ _ _ h => lc_ok h
theorem call_ok {n : Nat} {d : FD} {fl : FL} (hl : ∀ vs : List V, ∀ as : List A, ∀ S S' : List O, ∀ sa, fl sa S = some (.ok as S') → as.length = n) {σ : L2.St} {H : Hp} {Q : VK} (h : lift t W (callF d fl) σ H Q) : tCallS (spF t n d) (WE W) (liftL t W fl) σ H Q := by
    obtain ⟨r, sa, S, x, R, rs, e, p⟩ := h
    unfold callF bndL at e
    cases hf : fl sa S with
    | none =>
      rw [hf] at e
      cases e
    | some y =>
      rw [hf] at e
      refine ⟨r, sa, S, y, R, rs, hf, ?_⟩
      cases y with
      | er c S' =>
        cases e
        exact p
      | ok as S' =>
        intro r' H' vs ex R' ra
        refine ⟨by rw [← pr_len ra]; exact hl vs as S S' sa hf, r', as, S', x, R', ra, e, ?_⟩
        cases x with
        | ok a S2 => exact fun r2 H2 v e2 R2 rv => p r2 H2 v (ex.trans e2) R2 rv
        | er c S2 => exact fun r2 H2 e2 R2 => p r2 H2 (ex.trans e2) R2
end
/-- a def that stands, called while an exception is handled -/
structure DefOkH (P : Program) (w : World) (K : PySem.W.Frag) (mg : PySem.Str → Option Value) (base : Heap) (t : Tx) (x : PySem.Str) (ps : List PySem.Str) (k : Nat) (d : FD) : Prop where
  ex : ∃ f fd, mg x = some (.ref f) ∧ PySem.W.keepIn K (.ref f) = true ∧ Binds K fd ps [] ∧ FnH P w K mg base (L2.CX P w) k f fd ps (spF t ps.length d)
section
variable {X : Cx} {t : Tx} {W : WX}
theorem v_callDH {k : Nat} {ps : List PySem.Str} {d : FD} {x : PySem.Str} {e : Expr} {es : List Expr} {fl : FL} {p pos : Pos} (G : DefOkH X.prog X.w X.K X.mg X.base t x ps k d) (hr : RoomH k X.A) (hot : HotC X) (tk : L2.Takes X W) (ha : PA X (e :: es) (liftL t W fl)) (hl : Ar fl ps.length) (hg : Gl X x := by rfl)
    (hdb : (x == ("__debug__" : PySem.Str)) = false := by decide) (he : starEach (e :: es) X.env = (false, eval e X.env) :: starEach es X.env := by rfl) (hpl : (backTo pos (starEach es X.env)).any (·.1) = false := by rfl) :
    PE X (.Call (.Name x p) (e :: es) [] pos) (lift t W (callF d fl)) := by
  obtain ⟨f, fd, h1, h2, h3, h4⟩ := G.ex
  exact (pe_callH (E := WE W) h4 hr hot hg h1 h2 h3 (fun σ => passAt tk σ) ha hdb he hpl).weak fun σ H Q h => call_ok (fun _ as S S' sa h => hl sa S as S' h) h
end
end Vai
set_option maxRecDepth 100000
set_option maxHeartbeats 4000000
namespace HotX
open PySem PySem.Spec PyProof.Rows
section
variable {prog : Program} {w : World} {A : Around} {E : Value → Shared → Prop} {s : Shared}
theorem items_hot {t x1 : Addr} {items : Array Value} {Q : List Value → Shared → Prop} (hot : HotAt A x1 s.heap) (ht : IsTup s.heap t items) (h : ∀ h', Heap.ExtBut s.heap.objs.size s.heap h' → Q items.toList { s with heap := h' }) : wpAny (model prog w) A (unpackItems (.ref t) items.size none) Q E s := by
  have hlt : t ≠ s.heap.objs.size := let ⟨o, ho, _⟩ := ht; Nat.ne_of_lt (Heap.lt_size ho)
  obtain ⟨hh, o1, vs1, g1, d1, c1⟩ := hot
  have hx : x1 < s.heap.objs.size := Heap.lt_size g1
  unfold unpackItems notIterableAtAll
  refine wpAny_bind ?_; refine wpAny_bind (wpAny_specialOf ht.typeIs slot_tuple_iter.lookup (wpAny_pure ?_))
  simp only [Bool.false_eq_true, if_false]
  refine wpAny_bind (wpAny_holding (iter_tuple ht (wpAny_bind (wpAny_holding (draw_tuple hlt items.size 0 _ _ ⟨_, Heap.get?_push_size _ rfl, rfl, rfl⟩ (ht.push _) (by omega) fun h₁ hit₁ hs₁ => ?_)))))
  rw [show List.take items.size (List.drop 0 items.toList) = items.toList by rw [List.drop_zero]; exact List.take_of_length_le (by simp), if_neg (by simp)]
  have k1 : h₁.get? x1 = some o1 := hs₁.extBut x1 o1 (Nat.ne_of_lt hx) (Heap.get?_push_of_some _ g1)
  refine wpAny_bind (wpAny_holding (next_tuple_hot ⟨hh, o1, vs1, k1, d1, c1⟩ (Nat.ne_of_lt hx) hit₁ (show h₁.IsTuple t items from (ht.push _).extBut hs₁.extBut hlt) (by simp) fun h₂ he₂ => ?_))
  simp only [Option.isSome_none, Bool.false_eq_true, if_false]
  exact wpAny_pure (h h₂ fun b o hb e => he₂ b o hb (hs₁.extBut b o hb (Heap.get?_push_of_some _ e)))
theorem unpack_hot {t x1 : Addr} {items : Array Value} {targets : List (Bool × (Value → Sem Unit))} {Q : Unit → Shared → Prop} (hot : HotAt A x1 s.heap) (ht : IsTup s.heap t items) (hn : targets.length = items.size) (hstar : targets.findIdx? (·.1) = none)
    (h : ∀ h', Heap.ExtBut s.heap.objs.size s.heap h' → wpAny (model prog w) A (assignInOrder (targets.map (·.2)) items.toList) Q E { s with heap := h' }) : wpAny (model prog w) A (unpack (.ref t) targets) Q E s := by
  unfold unpack; rw [hn, hstar]
  exact wpAny_bind (wpAny_holding (items_hot hot ht h))
end
end HotX
namespace Vai
open PySem L2 L2H PySem.Spec PyProof.Rows
section
variable {X : Cx} {t : Tx} {W : WX}
theorem pg_tupH {es : List Expr} {k : Nat} {t : TGs} {n : Nat} (hc : HotC X) (h : PGs X es t) (hn : (assignEach es X.env).length = n := by rfl) (hst : (assignEach es X.env).findIdx? (·.1) = none := by rfl) : PG X (.Tuple es k pos) (gTup X.K n t) := by
  refine ⟨fun pins s σ H v u Q I r ⟨a, xs, e1, hq, hl, hw⟩ => ?_⟩
  subst e1
  cases r
  obtain ⟨its, rv, ht, hz⟩ := I.tuple hq
  obtain ⟨x1, hot⟩ := hc.at I
  rw [assign_Tuple]
  refine wpAny_bind (wpAny_standAt (HotX.unpack_hot hot ht (by simp [hn, ← hl, rv.length]) hst fun h' hx => ?_))
  exact h.run pins _ σ H xs _ Q (I.kept (t' := s.toks) fun b o e => hx b o (Nat.ne_of_lt (Heap.lt_size e)) e) (by simpa using rv) hw
theorem ps_parH {i j : Nat} {x y : PySem.Str} {a b : Expr} {ta : TA} {px py pt pos : Pos} {kt k2 pt2} (hot : HotC X) (hN : X.N.Nodup) (hi : X.N[i]? = some x) (hj : X.N[j]? = some y) (hij : i ≠ j) (hx : X.env.scope.names.lookup x = some .local) (hy : X.env.scope.names.lookup y = some .local) (ha : PA X [a, b] ta)
    (hw : swappedStores [.Tuple [.Name x px, .Name y py] kt pt] (.Tuple [a, b] k2 pt2) X.env = pure (some [x, y])) (hs : swapsWithSole [.Tuple [.Name x px, .Name y py] kt pt] (.Tuple [a, b] k2 pt2) pos.line X.env = pure false) :
    PS X (.Assign [.Tuple [.Name x px, .Name y py] kt pt] (.Tuple [a, b] k2 pt2) pos) (tPar i j ta) := ⟨fun pins s σ H D I h => by
  rw [exec_Assign_arm]; refine wpAny_bind (wpAny_standAt ?_); rw [hs]; refine wpAny_bind (wpAny_pure ?_); rw [if_neg (by decide)]
  refine wpAny_bind (Tuple_ (thn (ha.run _ pins s σ H _ I h) fun us s1 ⟨vs, H1, I1, r1, v, w, e1, q1⟩ => ?_)); subst e1
  obtain ⟨u1, u2, rfl, rv, rw'⟩ : ∃ u1 u2, us = [u1, u2] ∧ RelV v u1 ∧ RelV w u2 := by
    cases r1 with
    | cons p q => cases q with
      | cons p' q' => cases q'; exact ⟨_, _, rfl, p, p'⟩
  refine wpAny_newObj_type ?_ (by show 2 ≤ sizeLine; decide)
  have I2 : Inv X pins σ H1 { s1 with heap := s1.heap.push { cls := .type "tuple", data := .seq [u1, u2].toArray } } := I1.kept (t' := s1.toks) fun b o e => Heap.get?_push_of_some _ e
  obtain ⟨x1, h1⟩ := hot.at I2
  rw [hw]
  refine wpAny_bind (wpAny_pure ?_)
  show wpAny (model X.prog X.w) X.A (do rule "assign.swapped-stores"; let items ← unpackItems (.ref s1.heap.objs.size) 2 none; assignInOrder [fun v => bindName X.env y v, fun v => bindName X.env x v] items.reverse; pure Flow.next) _ _ _
  refine wpAny_bind (wpAny_rule (wpAny_bind (HotX.items_hot (items := #[u1, u2]) h1 (IsTup.new s1.heap _) fun h' hx' => ?_)))
  have I3 := I2.kept (h' := h') (t' := s1.toks) fun b o e => hx' b o (Nat.ne_of_lt (Heap.lt_size e)) e
  show wpAny _ _ (assignInOrder [fun v => bindName X.env y v, fun v => bindName X.env x v] [u2, u1] >>= fun _ => pure Flow.next) _ _ _
  exact wpAny_bind (assignInOrder_cons (wpAny_bindName (store_ok I3 hN hj (.inl hy) rw' (fun s2 I4 => assignInOrder_cons (wpAny_bindName (store_ok I4 hN hi (.inl hx) rv (fun s3 I5 => assignInOrder_nil (wpAny_pure (by
    rw [List.set_comm _ _ (Ne.symm hij)] at I5
    exact ⟨_, H1, I5, q1⟩))) (.inr hx)))) (.inr hy))))⟩
theorem v_parH {i j : Nat} {x y : PySem.Str} {a b : Expr} {fl : FL} {px py pt pos : Pos} {kt k2 pt2} (hot : HotC X) (hN : X.N.Nodup) (ha : PA X [a, b] (liftL t W fl)) (hi : X.N[i]? = some x := by rfl) (hj : X.N[j]? = some y := by rfl) (hij : i ≠ j := by decide) (hx : X.env.scope.names.lookup x = some .local := by rfl) (hy : X.env.scope.names.lookup y = some .local := by rfl)
    (hw : swappedStores [.Tuple [.Name x px, .Name y py] kt pt] (.Tuple [a, b] k2 pt2) X.env = pure (some [x, y]) := by rfl) (hs : swapsWithSole [.Tuple [.Name x px, .Name y py] kt pt] (.Tuple [a, b] k2 pt2) pos.line X.env = pure false := by rfl) :
    PS X (.Assign [.Tuple [.Name x px, .Name y py] kt pt] (.Tuple [a, b] k2 pt2) pos) (liftS t W (parF i j fl)) := (ps_parH hot hN hi hj hij hx hy ha hw hs).weak fun _ _ _ h => par_ok h
theorem def_okH {P : Program} {w : World} {K : PySem.W.Frag} {mg : PySem.Str → Option Value} {base : Heap} {x qual : PySem.Str} {st : Stmt} {f : Addr} {fd : FuncData} {N ps : List PySem.Str} {k : Nat} {b : FS} {t : Tx} (F : Fun K x qual st f fd) (hm : mg x = some (.ref f)) (B : Binds K fd ps []) (S : FnScope N ps (defScope st))
    (hb : ∀ (cdv : Value) (A : Around) (outer : List Env) (s : Shared) (H : Hp) (E : XK) (p : Addr × Obj), HotC (cxH (L2.CX P w) P w K mg base N qual (defScope st) f cdv A outer s H E p) → RoomH k (A.deeper (PyProof.Rows.envOfC qual (defScope st) s.heap.objs.size f cdv)) →
      PSs (cxH (L2.CX P w) P w K mg base N qual (defScope st) f cdv A outer s H E p) (defBody st) (liftS t (fun cls d _ H => E cls d H) b)) : DefOkH P w K mg base t x ps (k + 1) (defF N.length b) := by
  refine ⟨f, fd, hm, F.kp, B, ?_⟩
  obtain ⟨oc, od, kV, doc, pm, an, cdv, ct, osl, rfl, lk, hcd⟩ := F.ex
  refine fn_ofH lk hcd S (fun vs H Q E h => h.1) fun A outer s H vs Q E p hot hr ⟨hl, r, as, S0, x, R, ra, e, pd⟩ => ⟨_, hb cdv A outer s H E p ⟨p, hot, List.mem_singleton.mpr rfl⟩ hr, ?_⟩
  unfold defF at e
  cases hbo : b (as.map some ++ List.replicate (N.length - as.length) none) S0 with
  | none =>
    rw [hbo] at e
    cases e
  | some y =>
    rw [hbo] at e
    refine ⟨r, _, S0, y, R, by show RS r _ (vs.map some ++ List.replicate (N.length - vs.length) none); rw [← pr_len ra]; exact rs_start _ ra, hbo, ?_⟩
    cases y with
    | nx sa S' =>
      cases e
      exact fun r' H' σ' ex R' _ => pd r' H' .non ex R' rfl
    | rt a S' =>
      cases e
      exact fun r' H' v ex R' rv => pd r' H' v ex R' rv
    | er c sa S' =>
      cases e
      exact fun r' H' σ' ex R' _ => pd r' H' ex R'
    | bk sa S' => cases e
    | ct sa S' => cases e
end
end Vai
set_option maxRecDepth 100000
set_option maxHeartbeats 4000000
namespace HotX
open PySem PySem.Spec PyProof.Rows
theorem walks_hot {prog : Program} {w : World} {A : Around} {x1 : Addr} {o1 : Obj} {vs1 : Array Value} (hh : A.handled = some (.ref x1)) (d1 : o1.data = .fields vs1) (c1 : vs1[2]? = some .none) (I ax : Addr) (hne : ax ≠ I) (hx : x1 ≠ I) (items : Array Value) :
    Walks prog w A I [I, ax, x1] [I] items.size (fun i v => items[i]? = some v) (fun i h => h.IsListIter I ax i ∧ h.IsList ax items ∧ h.get? x1 = some o1) where
  sub := fun b hb => by rw [List.mem_singleton.mp hb]; exact List.mem_cons_self
  frame := fun _ _ _ st hk => ⟨st.1.at fun o e => hk I (by simp) o e, st.2.1.at fun o e => hk ax (by simp) o e, hk x1 (by simp) _ st.2.2⟩
  item := fun i s Q E hi st hQ => wpAny_pyNext_list_item st.1 st.2.1 (x := items[i]) (by simp [hi]) fun h' hit' hs' =>
    hQ _ h' s.toks (by simp [hi]) ⟨hit', st.2.1.extBut hs'.extBut hne, hs'.extBut _ _ hx st.2.2⟩ fun b o hb e => hs'.extBut b o (fun h => hb (by simp [h])) e
  done := fun s Q E st hQ => next_list_hot ⟨hh, o1, vs1, st.2.2, d1, c1⟩ hx st.1 st.2.1 (by simp) fun h' he' => hQ h' s.toks fun b o hb e => he' b o (fun h => hb (by simp [h])) e
  self := fun _ _ _ _ st hQ => wpAny_pyIter_listiter st.1 hQ
end HotX
namespace Vai
open PySem L2 L2H PySem.Spec PyProof.Rows
section
variable {X : Cx}
theorem cr_maxH (hc : HotC X) : CallR X (.builtin "max") (rMax X.K) := by
  intro pins s σ H vs us Q I r ⟨a, ns, e0, hs, hne, q⟩
  subst e0
  obtain ⟨its, rv, hl, _⟩ := I.list hs
  rw [Vals.ref1 r]
  obtain ⟨x1, hh, o1, vs1, g1, d1, c1⟩ := hc.at I
  have hi := rv.ints
  obtain ⟨xs, e⟩ := hi.allInts.items
  have hn : numsOf (intItems xs).toList = ns := by rw [← e]; exact hi.numsOf
  rw [nums_intItems] at hn
  subst hn
  have hl' := hl.isList
  rw [e] at hl'
  have hsz : 0 < xs.size := by simpa using hne
  refine call_max_walk (iter_intList hl' fun s₂ e st hfp hlI => ?_)
  subst e
  have hx : x1 < s.heap.objs.size := Heap.lt_size g1
  refine ⟨_, _, _, _, _, _, _, rfl, HotX.walks_hot (A := X.A.in1) hh d1 c1 _ a hlI (Nat.ne_of_lt hx) (intItems xs), ⟨st.1, st.2, Heap.get?_push_of_some _ g1⟩, fun b hb => ?_, by simpa [intItems] using hsz, CmpOf.ints_gt (numAt xs) (fun _ _ => intItems_at), fun v h' tk hv hk => ?_⟩
  · rcases List.mem_cons.mp hb with hb | hb
    · exact hfp b (by rw [hb]; exact List.mem_cons_self)
    · rcases List.mem_cons.mp hb with hb | hb
      · exact hfp b (by rw [hb]; simp)
      · rw [List.mem_singleton.mp hb]
        show x1 < (s.heap.push _).objs.size
        rw [Heap.size_push]
        exact Nat.lt_succ_of_lt hx
  · obtain ⟨t, rfl⟩ := intItems_at (xs := xs) (by simpa [intItems] using hv)
    obtain ⟨h1, h2⟩ := argBest_gt (numAt xs) (xs.size - 1)
    refine ⟨.int _, H, I.kept (t' := tk) (old_kept hk), ⟨_, rfl⟩, q _ ?_ fun y hy => ?_⟩
    · rw [numAt_eq]
      exact PySem.getD_mem (by rw [List.length_map, Array.length_toList]; have h1' : argBest (fun i j => decide (numAt xs j < numAt xs i)) (xs.size - 1) ≤ xs.size - 1 := h1; omega)
    · obtain ⟨j, hj, rfl⟩ := mem_getD hy
      rw [List.length_map, Array.length_toList] at hj
      rw [← numAt_eq]
      exact h2 j (by omega)
end
end Vai
set_option maxRecDepth 100000
set_option maxHeartbeats 4000000
namespace Vai
open PySem L2 L2H PySem.Spec PyProof.Rows
/-! ### defs whose exceptions are known to come without a context: what a suite that calls asks of the body -/
structure DefOkN (P : Program) (w : World) (K : PySem.W.Frag) (mg : PySem.Str → Option Value) (base : Heap) (t : Tx) (x : PySem.Str) (ps : List PySem.Str) (k : Nat) (d : FD) : Prop where
  ex : ∃ f fd, mg x = some (.ref f) ∧ PySem.W.keepIn K (.ref f) = true ∧ Binds K fd ps [] ∧ FnOk P w K mg base (L2N.CX P w) k f fd ps (spF t ps.length d)
section
variable {X : Cx} {t : Tx} {W : WX}
theorem takesN0 : L2N.Takes X W0 := fun u s' ⟨_, _, _, _, _, _, _, _, _, _, _, _, _, _, _, _, w⟩ => w.elim
theorem v_callDN {k : Nat} {ps : List PySem.Str} {d : FD} {x : PySem.Str} {e : Expr} {es : List Expr} {fl : FL} {p pos : Pos} (G : DefOkN X.prog X.w X.K X.mg X.base t x ps k d) (hr : Room k X.A) (tk : L2N.Takes X W) (ha : PA X (e :: es) (liftL t W fl)) (hl : Ar fl ps.length) (hg : Gl X x := by rfl)
    (hdb : (x == ("__debug__" : PySem.Str)) = false := by decide) (he : starEach (e :: es) X.env = (false, eval e X.env) :: starEach es X.env := by rfl) (hpl : (backTo pos (starEach es X.env)).any (·.1) = false := by rfl) :
    PE X (.Call (.Name x p) (e :: es) [] pos) (lift t W (callF d fl)) := by
  obtain ⟨f, fd, h1, h2, h3, h4⟩ := G.ex
  exact (pe_callS (E := WE W) h4 hr hg h1 h2 h3 (fun σ => L2N.passAt tk σ) ha hdb he hpl).weak fun σ H Q h => call_ok (fun _ as S S' sa h => hl sa S as S' h) h
theorem pmk_own0N {C : Addr} {bmB : List Value} {B newId initId : String} {x : PySem.Str} {p pos : Pos} (F : ExcBaseFacts B newId initId bmB) (q : PySem.W.excIn X.K C bmB newId = true) (gC : X.mg x = some (.ref C)) (kC : PySem.W.keepIn X.K (.ref C) = true) (r : Raises X (.ref C)) (hg : Gl X x)
    (hdb : (x == ("__debug__" : PySem.Str)) = false := by decide) : L2N.PMk X (.Call (.Name x p) [] [] pos) (fun _ H Q => Q (.ref C) none H) := by
  intro pins s σ H Q I h
  refine wpAny_Call_Name_kw (ld_glob I hg gC (PySem.W.callWith_K0 I.kIn kC ?_) hdb)
  obtain ⟨bm, N, nm, qn, bs, hdct, sn, sub, ab, col, dd, k0, k1, k2, k3, k5, mN, hC, hN, hni, T⟩ := exc_obj I.kIn q
  exact wpAny_call_exc_subT F T hC hN hni (fun h' e hm => L2N.mk_of I hm r h (I.hok.gone hm.new)) (Nat.zero_le _)
theorem v_raiseN {c : Nat} {bmB : List Value} {B newId initId : String} {x : PySem.Str} {p pos pos' : Pos} (F : ExcBaseFacts B newId initId bmB) (q : PySem.W.excIn X.K (t.cl c) bmB newId = true) (gC : X.mg x = some (.ref (t.cl c))) (kC : PySem.W.keepIn X.K (.ref (t.cl c)) = true) (r : Raises X (.ref (t.cl c))) (tk : L2N.Takes X W) (hc : X.calm = true := by rfl) (hg : Gl X x := by rfl)
    (hdb : (x == ("__debug__" : PySem.Str)) = false := by decide) (h64 : c < 64 := by decide) : PS X (.Raise (some (.Call (.Name x p) [] [] pos)) none pos') (liftS t W (raiseF c)) := (L2N.ps_raise hc tk (pmk_own0N F q gC kC r hg hdb)).weak fun D σ H h => by
  obtain ⟨r, sa, S, y, R, rs, e, p⟩ := h
  cases e
  exact p r H σ (Ext.refl r) R rs none (erD0 h64)
theorem def_okN {P : Program} {w : World} {K : PySem.W.Frag} {mg : PySem.Str → Option Value} {base : Heap} {x qual : PySem.Str} {st : Stmt} {f : Addr} {fd : FuncData} {N ps : List PySem.Str} {k : Nat} {b : FS} {t : Tx} (F : Fun K x qual st f fd) (hm : mg x = some (.ref f)) (B : Binds K fd ps []) (S : FnScope N ps (defScope st))
    (hb : ∀ (cdv : Value) (A : Around) (outer : List Env) (s : Shared) (H : Hp) (E : XK), Room k (A.deeper (PyProof.Rows.envOfC qual (defScope st) s.heap.objs.size f cdv)) →
      PSs (cxOf (L2N.CX P w) P w K mg base N qual (defScope st) f cdv A outer s H E) (defBody st) (liftS t (fun cls d _ H => E cls d H) b)) : DefOkN P w K mg base t x ps (k + 1) (defF N.length b) := by
  refine ⟨f, fd, hm, F.kp, B, ?_⟩
  obtain ⟨oc, od, kV, doc, pm, an, cdv, ct, osl, rfl, lk, hcd⟩ := F.ex
  refine fn_of lk hcd S (fun vs H Q E h => h.1) fun A outer s H vs Q E hr h => ⟨_, hb cdv A outer s H E hr, ?_⟩
  obtain ⟨hl, r, as, S0, x, R, ra, e, p⟩ := h
  unfold defF at e
  cases hbo : b (as.map some ++ List.replicate (N.length - as.length) none) S0 with
  | none =>
    rw [hbo] at e
    cases e
  | some y =>
    rw [hbo] at e
    refine ⟨r, _, S0, y, R, by show RS r _ (vs.map some ++ List.replicate (N.length - vs.length) none); rw [← pr_len ra]; exact rs_start _ ra, hbo, ?_⟩
    cases y with
    | nx sa S' =>
      cases e
      exact fun r' H' σ' ex R' _ => p r' H' .non ex R' rfl
    | rt a S' =>
      cases e
      exact fun r' H' v ex R' rv => p r' H' v ex R' rv
    | er c sa S' =>
      cases e
      exact fun r' H' σ' ex R' _ => p r' H' ex R'
    | bk sa S' => cases e
    | ct sa S' => cases e
theorem def_noN {P : Program} {w : World} {K : PySem.W.Frag} {mg : PySem.Str → Option Value} {base : Heap} {t : Tx} {x qual : PySem.Str} {st : Stmt} {f : Addr} {fd : FuncData} {ps : List PySem.Str} (F : Fun K x qual st f fd) (hm : mg x = some (.ref f)) (B : Binds K fd ps []) : DefOkN P w K mg base t x ps 0 noD :=
  ⟨f, fd, hm, F.kp, B, ⟨fun vs H Q E h => h.1, fun A outer s H args us vs Q E _ _ _ _ ⟨_, _, _, _, _, _, _, e, _⟩ => by cases e⟩⟩
theorem DefOkN.trim {P : Program} {w : World} {K : PySem.W.Frag} {mg : PySem.Str → Option Value} {base : Heap} {x : PySem.Str} {ps : List PySem.Str} {k : Nat} {d : FD} (hp : PreD d) (h : DefOkN P w K mg base t x ps k d) : DefOkN P w K mg base t x ps k (trimD d) := by
  obtain ⟨f, fd, h1, h2, h3, h4⟩ := h.ex
  refine ⟨f, fd, h1, h2, h3, h4.imp fun vs H Q E ⟨hl, r, as, S, x, R, ra, e, p⟩ => ?_⟩
  unfold trimD at e
  cases hf : d as S with
  | none =>
    rw [hf] at e
    cases e
  | some y =>
    rw [hf] at e
    have pr := hp as S y hf
    refine ⟨hl, r, as, S, y, R, ra, hf, ?_⟩
    cases y with
    | er c S' =>
      have e : Vai.R.er c S = x := Option.some.inj e
      subst e
      exact fun r' H' ex R' => p r H' (Ext.refl r) (R.cut ex pr R')
    | ok a S' =>
      intro r' H' v ex R' ra
      have e : trimR S (.ok a S') = x := Option.some.inj e
      by_cases hfl : flatA a = true
      · rw [show trimR S (.ok a S') = .ok a S from if_pos hfl] at e
        subst e
        exact p r H' v (Ext.refl r) (R.cut ex pr R') (RA.flat hfl ra)
      · rw [show trimR S (.ok a S') = .ok a S' from if_neg hfl] at e
        subst e
        exact p r' H' v ex R' ra

/-! ### try: .. except X: .. -/
def tryF (c : Nat) (fb fs : FS) : FS := fun sa S => match fb sa S with
  | some (.er c' sa' S') => if c' = c then fs sa' S' else none
  | y => y
theorem v_try {c : Nat} {x : PySem.Str} {np pos pos' : Pos} {body suite : List Stmt} {b₀ : Stmt} {fb fs : FS} (hs : X.stack = X.env :: X.outer) (hf : X.env.frame = some X.env.locals) (hc : Names X x (.ref (t.cl c))) (hpa : ∀ hd : Option Value, PassesOwnAt (model X.prog X.w) (X.A.mark hd) X.A X.env X.xe) (tk : L2.Takes X W)
    (hK : X.K = t.K) (hx : PySem.W.exmOne t.K (.ref (t.cl c)) (.ref (t.cl c)) = some true)
    (hb : ∀ (W' : WX) (pn : List (Addr × Obj)) (xe : Value → Shared → Prop), L2N.Takes (X.tr pn xe) W' → PassesOwn (model X.prog X.w) X.A X.env xe → PSs (X.tr pn xe) body (liftS t W' fb))
    (hsu : ∀ (a : Addr) (pn : List (Addr × Obj)), L2.Takes (suiteX X a pn) W → HotC (suiteX X a pn) → PSs (suiteX X a pn) (b₀ :: suite) (liftS t W fs)) :
    PS X (.Try body [.ExceptHandler (some (.Name x np)) none (b₀ :: suite) pos'] [] [] pos) (liftS t W (tryF c fb fs)) :=
  (ps_try_onlyX (tb := fun W' => liftS t W' fb) (ts := fun _ _ _ => liftS t W fs) hs hf hc hpa tk (fun W' pn xe t1 _ hp => hb W' pn xe t1 hp) fun a oe cls d pn _ _ t2 hot => hsu a ((a, oe) :: pn) t2 hot).weak fun D σ H h => by
    obtain ⟨r, sa, S, y, R, rs, e, p⟩ := h
    unfold tryF at e
    cases hf : fb sa S with
    | none =>
      rw [hf] at e
      cases e
    | some z =>
      rw [hf] at e
      refine ⟨r, sa, S, z, R, rs, hf, ?_⟩
      cases z with
      | er c' sa' S' =>
        dsimp only at e
        split at e
        · rename_i ec
          subst ec
          exact fun r' H' σ' ex R' rs' d _ => ⟨true, hK ▸ hx, fun _ a _ => ⟨r', sa', S', y, R', rs', e, p.ext ex⟩, fun z => by cases z⟩
        · cases e
      | nx sa' S' => cases e; exact p
      | rt a S' => cases e; exact p
      | bk sa' S' => cases e; exact p
      | ct sa' S' => cases e; exact p
end
end Vai
set_option maxRecDepth 100000
set_option maxHeartbeats 4000000
namespace Vai
open PySem L2 L2H PySem.Spec PyProof.Rows
theorem sky_zc {B : Heap} {l : List Env} {a : Addr} {L : Addr} {h : Heap} {cls : Value} {d : Option Addr} (x : L2.Sky B l a (L2N.Zn cls d) L h) : L2.Sky B l a (Zc cls d) L h := by
  rcases x with ⟨h1, h2, h3, oe, vs, h4, h5, h6⟩ | x | x
  · exact .inl ⟨h1, h2, h3, oe, vs, h4, h5.zc, h6⟩
  · exact .inr (.inl (flyingZ_imp (fun o z => z.zc) x))
  · exact .inr (.inr ⟨x.1, x.2.1, x.2.2.1, tracedZ_imp (fun o z => z.zc) x.2.2.2⟩)
theorem takesN_of {X : Cx} {W : WX} (tk : L2.Takes X W) : L2N.Takes X W := fun u s' ⟨a, B, sI, pins, σ, H, cls, d, e, I, nb, up, sky, r⟩ => tk u s' ⟨a, B, sI, pins, σ, H, cls, d, e, I, nb, up, sky_zc sky, r⟩
theorem room_mark {k : Nat} {A : Around} {hd : Option Value} (r : Room k A) : RoomH k (A.mark hd) := ⟨r.dp, r.un⟩
end Vai
set_option maxRecDepth 100000
set_option maxHeartbeats 4000000
namespace Vai
open PySem L2 PySem.Spec PyProof.Rows
/-! math.gcd -/
def gcdG : GN := fun as S => match as with
  | [.int i, .int j] => some (.int ((Nat.gcd i.natAbs j.natAbs : Nat) : Int), S)
  | _ => none
theorem s_gcd {t : Tx} : SemN t gcdG rGcd := by
  intro r S H as vs p Q R ra e k
  unfold gcdG at e
  split at e
  · cases e
    obtain ⟨v, w, rfl, h1, h2⟩ := pr_two ra
    cases h1
    cases h2
    exact ⟨_, _, rfl, okG R k rfl⟩
  · cases e
section
variable {X : Cx} {t : Tx} {W : WX}
theorem v_callBf {id : String} {ro : List V → Hp → VK → Prop} {g : GN} {x : PySem.Str} {e : Expr} {es : List Expr} {fl : FL} {p pos : Pos} (hc : CallR X (.builtin id) ro) (hs : SemN t g ro) (hm : X.mg x = some (.builtin id)) (ha : PA X (e :: es) (liftL t W fl)) (hg : Gl X x := by rfl)
    (hdb : (x == ("__debug__" : PySem.Str)) = false := by decide) (he : starEach (e :: es) X.env = (false, eval e X.env) :: starEach es X.env := by rfl) (hpl : (backTo pos (starEach es X.env)).any (·.1) = false := by rfl) :
    PE X (.Call (.Name x p) (e :: es) [] pos) (lift t W (clF g fl)) := (pe_callBfun hc hg hm ha hdb he hpl).weak fun _ _ _ h => cl_ok hs h
end
theorem pre_gcdG : PreN gcdG := fun a S z e => by unfold gcdG at e; (repeat' split at e) <;> first | (cases e; first | exact pf0 _ | exact pfa _ _) | (cases e) | (exact pre_map e)
/-! max of a tuple of ints -/
def rMaxT (K : PySem.W.Frag) : List V → Hp → VK → Prop := fun vs H Q => ∃ (a : Addr) (n : Int) (ns : List Int), vs = [V.ref a] ∧ SqT K H a ((n :: ns).map V.int) ∧ Q (.int (ns.foldl max n)) H
theorem alike_ints (ns : List Int) : PySem.W.AlikeAll (ns.map PyData.int) := ⟨fun x hx y hy => by
  obtain ⟨i, _, rfl⟩ := List.mem_map.mp hx
  obtain ⟨j, _, rfl⟩ := List.mem_map.mp hy
  rfl, fun x hx => by
  obtain ⟨i, _, rfl⟩ := List.mem_map.mp hx
  exact PyData.noConfusion⟩
theorem depth_ints : ∀ ns : List Int, PyData.depthAll (ns.map PyData.int) = 0
  | [] => rfl
  | n :: ns => by
    show max (PyData.depth (.int n)) (PyData.depthAll (ns.map PyData.int)) = 0
    rw [depth_ints ns]
    rfl
theorem cr_maxT {X : Cx} (hc : X.calm = true) (hu : X.A.units + 64 < cLine) : CallR X (.builtin "max") (rMaxT X.K) := by
  intro pins s σ H vs us Q I r h
  obtain ⟨a, n, ns, rfl, hs, q⟩ := h
  obtain ⟨its, rv, ht, _⟩ := I.tuple hs
  rw [Vals.ref1 r]
  have hr : ReadsAll s.heap its.toArray.toList (.int n :: ns.map .int) [] := by
    have := rv.ints.reads s.heap
    simpa using this
  refine PySem.W.max_tuple_data (I.ok.hd hc) ht hr (alike_ints (n :: ns)) (by
    show _ + 1 + PyData.depthAll ((n :: ns).map PyData.int) < _
    rw [depth_ints]
    omega) fun i v h' tk bs hi hrd hk => ?_
  rw [PySem.W.maxD_ints] at hrd
  cases hrd
  exact ⟨.int _, H, I.kept hk, ⟨_, rfl⟩, q⟩
def mxUG : GN := fun as S => match as with
  | [.ref l] => (match S[l]? with
    | some (.tup xs) => (match toInts xs with
      | some (n :: ns) => some (.int (ns.foldl max n), S)
      | _ => none)
    | _ => mxG true as S)
  | _ => none
def rMaxU (K : PySem.W.Frag) : List V → Hp → VK → Prop := fun vs H Q => rMax K vs H Q ∨ rMaxT K vs H Q
theorem cr_maxU {X : Cx} (hc : X.calm = true) (hu : X.A.units + 64 < cLine) : CallR X (.builtin "max") (rMaxU X.K) := fun pins s σ H vs us Q I r h => h.elim (cr_max hc pins s σ H vs us Q I r) (cr_maxT hc hu pins s σ H vs us Q I r)
theorem s_maxU {t : Tx} {K : PySem.W.Frag} (hK : K = t.K) : SemN t mxUG (rMaxU K) := fun r S H as vs p Q R ras e k => by
  unfold mxUG at e
  split at e
  · rename_i l
    split at e
    · rename_i xs hl
      split at e
      · rename_i n ns hn
        cases e
        obtain ⟨v, rfl, rv⟩ := pr_one ras
        obtain ⟨p, vs, rfl, g, q⟩ := tup_of R rv hl
        have e2 := toInts_ok q hn
        subst e2 hK
        exact .inr ⟨p, n, ns, rfl, sqTo g, okG R k rfl⟩
      · cases e
    · exact .inl (s_max1 hK r S H _ vs p Q R ras e k)
  · cases e
theorem pre_mxUG : PreN mxUG := fun as S z e => by
  unfold mxUG at e
  split at e
  · split at e
    · split at e
      · cases e; exact pf0 _
      · cases e
    · exact pre_mxG _ S z e
  · cases e
end Vai
set_option maxRecDepth 100000
set_option maxHeartbeats 4000000
namespace Vai
open PySem L2 PySem.Spec PyProof.Rows
/-! ## dicts with ints or texts as keys -/
def keyA : A → Option Key
  | .int i => some (.inl i)
  | .str z => some (.inr z)
  | _ => none
def kA : Key → A
  | .inl i => .int i
  | .inr z => .str z
theorem keyA_kV {r : List Addr} {a : A} {v : V} {k : Key} (ra : RA r a v) (h : keyA a = some k) : v = kV k := by
  cases a <;> simp only [keyA] at h <;> cases h <;> exact ra
def valA (ks : List (Key × A)) (k : Key) : Option A := (ks.find? fun kv => decide (kv.1 = k)).map (·.2)
def putA (ks : List (Key × A)) (k : Key) (a : A) : List (Key × A) := if (ks.any fun kv => decide (kv.1 = k)) = true then ks.map (fun kv => if kv.1 = k then (kv.1, a) else kv) else ks ++ [(k, a)]
abbrev KR (r : List Addr) (a : Key × A) (b : Key × V) : Prop := a.1 = b.1 ∧ RA r a.2 b.2
theorem val_pr {r : List Addr} {k : Key} : ∀ {ks : List (Key × A)} {ws : List (Key × V)}, Paired (KR r) ks ws → (∀ a, valA ks k = some a → ∃ v, valV ws k = some v ∧ RA r a v) ∧ (valA ks k = none → valV ws k = none)
  | _, _, .nil => ⟨fun a h => (by cases h), fun _ => rfl⟩
  | x :: ks, y :: ws, .cons h t => by
    have ih := val_pr (k := k) t
    unfold valA valV
    rw [List.find?_cons, List.find?_cons, ← h.1]
    by_cases e : x.1 = k
    · rw [decide_eq_true e]
      exact ⟨fun a ha => by cases ha; exact ⟨_, rfl, h.2⟩, fun z => by cases z⟩
    · rw [decide_eq_false e]
      exact ih
theorem any_pr {r : List Addr} {k : Key} : ∀ {ks : List (Key × A)} {ws : List (Key × V)}, Paired (KR r) ks ws → (ks.any fun kv => decide (kv.1 = k)) = (ws.any fun kv => decide (kv.1 = k))
  | _, _, .nil => rfl
  | x :: ks, y :: ws, .cons h t => by rw [List.any_cons, List.any_cons, any_pr t, h.1]
theorem map_pr {r : List Addr} {k : Key} {a : A} {v : V} (q : RA r a v) : ∀ {ks : List (Key × A)} {ws : List (Key × V)}, Paired (KR r) ks ws → Paired (KR r) (ks.map fun kv => if kv.1 = k then (kv.1, a) else kv) (ws.map fun kv => if kv.1 = k then (kv.1, v) else kv)
  | _, _, .nil => .nil
  | (x1, x2) :: ks, (y1, y2) :: ws, .cons h t => by
    have h1 : x1 = y1 := h.1
    subst h1
    refine .cons ?_ (map_pr q t)
    by_cases e : x1 = k
    · show KR r (if x1 = k then (x1, a) else (x1, x2)) (if x1 = k then (x1, v) else (x1, y2))
      rw [if_pos e, if_pos e]
      exact ⟨rfl, q⟩
    · show KR r (if x1 = k then (x1, a) else (x1, x2)) (if x1 = k then (x1, v) else (x1, y2))
      rw [if_neg e, if_neg e]
      exact h
theorem put_pr {r : List Addr} {k : Key} {a : A} {v : V} (q : RA r a v) {ks : List (Key × A)} {ws : List (Key × V)} (h : Paired (KR r) ks ws) : Paired (KR r) (putA ks k a) (putK ws k v) := by
  unfold putA putK
  rw [any_pr h]
  split
  · exact map_pr q h
  · exact pr_app h (.cons ⟨rfl, q⟩ .nil)
theorem dic_of {t : Tx} {r : List Addr} {S : List O} {H : Hp} {l : Nat} {ks : List (Key × A)} (R : Rel t r S H) {x : V} (ra : RA r (.ref l) x) (hl : S[l]? = some (.dic ks)) : ∃ p ws, r[l]? = some p ∧ x = .ref p ∧ H p = some (.dK ws) ∧ Paired (KR r) ks ws := by
  obtain ⟨p, hp, rfl⟩ := ra
  obtain ⟨ws, h1, h2⟩ := R.ob l p _ hp hl
  exact ⟨p, ws, hp, rfl, h1, h2⟩
/-- d[k] -/
def dgetG : G2 := fun a b S => match a, keyA b with
  | .ref l, some k => (match S[l]? with
    | some (.dic ks) => (valA ks k).map fun c => (c, S)
    | _ => none)
  | _, _ => none
def rDGet : R2 := fun x y H Q => ∃ a v, x = .ref a ∧ DGet H a y (some v) ∧ Q v H
theorem s_dget {t : Tx} : Sem2 t dgetG rDGet := by
  intro r S H a b x y p Q R ra rb e k
  unfold dgetG at e
  split at e
  · rename_i l kk hk
    split at e
    · rename_i ks hl
      cases hv : valA ks kk with
      | none => rw [hv] at e; cases e
      | some c =>
        rw [hv] at e
        cases e
        obtain ⟨q, ws, hq, rfl, h1, h2⟩ := dic_of R ra hl
        obtain ⟨v, h3, h4⟩ := (val_pr h2).1 c hv
        refine ⟨q, v, rfl, ?_, okG R k h4⟩
        rw [keyA_kV rb hk, ← h3]
        exact DGet.k h1
    · cases e
  · cases e
/-- k in d -/
def dinG (neg : Bool) : G2 := fun b a S => match a, keyA b with
  | .ref l, some k => (match S[l]? with
    | some (.dic ks) => some (.bl (if neg then !(valA ks k).isSome else (valA ks k).isSome), S)
    | _ => none)
  | _, _ => none
def rDIn (neg : Bool) : R2 := fun y x H Q => ∃ a o, x = .ref a ∧ DGet H a y o ∧ Q (.bl (if neg then !o.isSome else o.isSome)) H
theorem s_din {t : Tx} {neg : Bool} : Sem2 t (dinG neg) (rDIn neg) := by
  intro r S H b a y x p Q R rb ra e k
  unfold dinG at e
  split at e
  · rename_i l kk hk
    split at e
    · rename_i ks hl
      cases e
      obtain ⟨q, ws, hq, rfl, h1, h2⟩ := dic_of R ra hl
      refine ⟨q, valV ws kk, rfl, ?_, okG R k ?_⟩
      · rw [keyA_kV rb hk]
        exact DGet.k h1
      · have : (valV ws kk).isSome = (valA ks kk).isSome := by
          cases hv : valA ks kk with
          | none => rw [(val_pr h2).2 hv]; rfl
          | some c =>
            obtain ⟨v, h3, _⟩ := (val_pr h2).1 c hv
            rw [h3]; rfl
        show V.bl _ = V.bl _
        rw [this]
    · cases e
  · cases e
/-- d.get(k, x) -/
def isDicB (S : List O) : A → Bool
  | .ref l => (match S[l]? with
    | some (.dic _) => true
    | _ => false)
  | _ => false
def dget2G (d k z : A) (S : List O) : Option (A × List O) := match d, keyA k with
  | .ref l, some kk => (match S[l]? with
    | some (.dic ks) => some ((valA ks kk).getD z, S)
    | _ => none)
  | _, _ => none
def dg2F (fo fe ff : F) : F := bnd fo fun d => fun sa S => if isDicB S d then (bnd fe fun k => bnd ff fun z => fun _ S => toR (dget2G d k z S)) sa S else none
/-- d[k] = v -/
def dputG (v d k : A) (S : List O) : Option (List O) := match d, keyA k with
  | .ref l, some kk => (match S[l]? with
    | some (.dic ks) => if ks.length < 1000000 then some (S.set l (.dic (putA ks kk v))) else none
    | _ => none)
  | _, _ => none
def putF (fo fi fv : F) : F := bnd fv fun v => bnd fo fun d => bnd fi fun k => fun _ S => toR ((dputG v d k S).map fun S' => (.non, S'))
def lenDG : GN := fun as S => match as with
  | [.ref l] => (match S[l]? with
    | some (.dic ks) => some (.int ks.length, S)
    | _ => none)
  | _ => none
theorem s_lenD {t : Tx} : SemN t lenDG (fun xs H Q => ∃ a kvs, xs = [V.ref a] ∧ H a = some (.dK kvs) ∧ Q (.int kvs.length) H) := by
  intro r S H as vs p Q R ra e k
  unfold lenDG at e
  split at e
  · rename_i l
    split at e
    · rename_i ks hl
      cases e
      obtain ⟨v, rfl, rv⟩ := pr_one ra
      obtain ⟨q, ws, hq, rfl, h1, h2⟩ := dic_of R rv hl
      exact ⟨q, ws, rfl, h1, okG R k (by show V.int _ = V.int _; rw [pr_len h2])⟩
    · cases e
  · cases e
section
variable {X : Cx} {t : Tx} {W : WX}
theorem exp_ok {fa : F} {D : Ends} {σ : L2.St} {H : Hp} (h : liftS t W (expF fa) D σ H) : lift t W fa σ H fun _ H' => D.nx σ H' := by
  obtain ⟨r, sa, S, x, R, rs, e, p⟩ := h
  unfold expF at e
  cases hf : fa sa S with
  | none =>
    rw [hf] at e
    cases e
  | some y =>
    rw [hf] at e
    refine ⟨r, sa, S, y, R, rs, hf, ?_⟩
    cases y with
    | ok a S' =>
      cases e
      exact fun r' H' v ex R' _ => p r' H' σ ex R' (rs.ext ex)
    | er c S' =>
      cases e
      exact fun r' H' ex R' => p r' H' σ ex R' (rs.ext ex)
theorem v_dget {o i : Expr} {fo fi : F} {pos : Pos} (hu : X.A.units + 64 < cLine) (ho : PE X o (lift t W fo)) (hi : PE X i (lift t W fi)) (hs : NoSl i := by exact fun _ _ => rfl) : PE X (.Subscript o i pos) (lift t W (opF dgetG fo fi)) :=
  (pe_dget (by omega) ho hi hs).weak fun _ _ _ h => op_ok s_dget h
theorem isD_of {r : List Addr} {S : List O} {H : Hp} {d : A} {x : V} (R : Rel t r S H) (ra : RA r d x) (h : isDicB S d = true) : ∃ a, x = .ref a ∧ IsD H a := by
  unfold isDicB at h
  split at h
  · rename_i l
    split at h
    · rename_i ks hl
      obtain ⟨q, ws, hq, rfl, h1, h2⟩ := dic_of R ra hl
      exact ⟨q, rfl, .inl ⟨ws, .inl h1⟩⟩
    · cases h
  · cases h
theorem v_dget2 {o e f : Expr} {fo fe ff : F} {apos cpos : Pos} (hu : X.A.units + 64 < cLine) (ho : PE X o (lift t W fo)) (he : PE X e (lift t W fe)) (hf : PE X f (lift t W ff)) (m : M2 X o "get" apos e f cpos) :
    PE X (.Call (.Attribute o "get" apos) [e, f] [] cpos) (lift t W (dg2F fo fe ff)) := (pe_dget2 (by omega) ho he hf m).weak fun σ H Q h => by
  refine step_bnd h fun r S sa d x H1 y R rs rd e p => ?_
  split at e
  · rename_i hd
    obtain ⟨a, rfl, ia⟩ := isD_of R rd hd
    refine ⟨a, rfl, ia, ?_⟩
    refine step_go R rs e p fun r2 S2 k u H2 e2 R2 rs2 rk ek p2 => ?_
    refine step_go R2 rs2 ek p2 fun r3 S3 z v H3 e3 R3 rs3 rz ek3 p3 => ?_
    obtain ⟨q, h1, h2⟩ := toR_some ek3
    subst h2
    unfold dget2G at h1
    split at h1
    · rename_i l kk hk
      split at h1
      · rename_i ks hl
        cases h1
        obtain ⟨q, ws, hq, hx, g1, g2⟩ := dic_of R3 ((rd.ext e2).ext e3) hl
        cases hx
        refine ⟨valV ws kk, ?_, ?_⟩
        · rw [keyA_kV (rk.ext e3) hk]
          exact DGet.k g1
        · refine p3 r3 H3 _ (Ext.refl _) R3 ?_
          cases hv : valA ks kk with
          | none => rw [(val_pr g2).2 hv]; exact rz
          | some c =>
            obtain ⟨v2, h3, h4⟩ := (val_pr g2).1 c hv
            rw [h3]
            exact h4
      · cases h1
    · cases h1
  · cases e
theorem v_dput {o i value : Expr} {fo fi fv : F} {pos pos' : Pos} (hu : X.A.units + 64 < cLine) (ho : PE X o (lift t W fo)) (hi : PE X i (lift t W fi)) (hv : PE X value (lift t W fv)) (hs : swapsWith value (some (.Subscript o i pos')) pos.line X.env = pure false := by rfl) :
    PS X (.Assign [.Subscript o i pos'] value pos) (liftS t W (expF (putF fo fi fv))) := (ps_dput (by omega) ho hi hv hs).weak fun D σ H h => by
  refine step_bnd (exp_ok h) fun r S sa v x H1 y R rs rv e p => ?_
  refine step_go R rs e p fun r2 S2 d u H2 e2 R2 rs2 rd ek p2 => ?_
  refine step_go R2 rs2 ek p2 fun r3 S3 k w H3 e3 R3 rs3 rk ek3 p3 => ?_
  obtain ⟨q, h1, h2⟩ := toR_some ek3
  subst h2
  cases hp : dputG v d k S3 with
  | none => rw [hp] at h1; cases h1
  | some S4 =>
    rw [hp] at h1
    cases h1
    unfold dputG at hp
    split at hp
    · rename_i l kk hk
      split at hp
      · rename_i ks hl
        split at hp
        · rename_i hlen
          cases hp
          obtain ⟨q, ws, hq, hx, g1, g2⟩ := dic_of R3 (rd.ext e3) hl
          refine ⟨q, upd H3 q (.dK (putK ws kk x)), hx, ?_, ?_⟩
          · rw [keyA_kV rk hk]
            exact DPut.k g1 (by rw [← pr_len g2, sizeLine_eq]; omega)
          · exact p3 r3 _ .non (Ext.refl _) (R3.put (o' := .dic (putA ks kk v)) hq hl rfl rfl g1 (fun _ _ z => by cases z) ⟨_, upd_same, put_pr ((rv.ext e2).ext e3) g2⟩) rfl
        · cases hp
      · cases hp
    · cases hp
theorem v_dinT {o i : Expr} {fo fi : F} {pos : Pos} (hu : X.A.units + 64 < cLine) (hi : PE X i (lift t W fi)) (ho : PE X o (lift t W fo)) : PC X .In i o (tOp (rDIn false) (lift t W fi) (lift t W fo)) := pc_din (by omega) hi ho
theorem v_din {o i : Expr} {fo fi : F} {pos : Pos} (hu : X.A.units + 64 < cLine) (hi : PE X i (lift t W fi)) (ho : PE X o (lift t W fo)) (hm : behindInMarks .In o = false := by rfl) : PE X (.Compare i [.In] [o] pos) (lift t W (opF (dinG false) fi fo)) := (pe_cmp (pc_din (by omega) hi ho) hm).weak fun _ _ _ h => op_ok (s_din (neg := false)) h
theorem v_dinB {o i : Expr} {fo fi : F} {pos : Pos} (hu : X.A.units + 64 < cLine) (hi : PE X i (lift t W fi)) (ho : PE X o (lift t W fo)) (hm : behindInMarks .In o = false := by rfl) : PT X (.Compare i [.In] [o] pos) (liftB t W (opF (dinG false) fi fo)) := (pt_cmp (pc_din (by omega) hi ho) hm).weak fun _ _ _ h => op_ok (s_din (neg := false)) h
theorem v_dni {o i : Expr} {fo fi : F} {pos : Pos} (hu : X.A.units + 64 < cLine) (hi : PE X i (lift t W fi)) (ho : PE X o (lift t W fo)) (hm : behindInMarks .NotIn o = false := by rfl) : PE X (.Compare i [.NotIn] [o] pos) (lift t W (opF (dinG true) fi fo)) := (pe_cmp (pc_dnotin (by omega) hi ho) hm).weak fun _ _ _ h => op_ok (s_din (neg := true)) h
theorem v_dniB {o i : Expr} {fo fi : F} {pos : Pos} (hu : X.A.units + 64 < cLine) (hi : PE X i (lift t W fi)) (ho : PE X o (lift t W fo)) (hm : behindInMarks .NotIn o = false := by rfl) : PT X (.Compare i [.NotIn] [o] pos) (liftB t W (opF (dinG true) fi fo)) := (pt_cmp (pc_dnotin (by omega) hi ho) hm).weak fun _ _ _ h => op_ok (s_din (neg := true)) h
end
end Vai
set_option maxRecDepth 100000
set_option maxHeartbeats 4000000
namespace Vai
open PySem L2 PySem.Spec PyProof.Rows
/-! ## errors with an int in a field -/
theorem dec_enc (i : Int) : decI (encI i) = i := by
  unfold encI decI
  by_cases h : 0 ≤ i
  · rw [if_pos h, if_pos (by omega)]
    omega
  · rw [if_neg h, if_neg (by omega)]
    omega
theorem erN_mod {c f : Nat} {i : Int} (hc : c < 64) : erN c f i % 64 = c := by
  unfold erN
  omega
theorem erD_of {H : Hp} {c f : Nat} {i : Int} {d : Addr} (hc : c < 64) (hf : f < 8) (h : H d = some (.xd [(flds.getD f "", .int i)])) : ErD H (erN c f i) (some d) := by
  unfold ErD
  have e1 : (erN c f i / 64 - 1) % 8 = f := by unfold erN; omega
  have e2 : (erN c f i / 64 - 1) / 8 = encI i := by unfold erN; omega
  rw [if_neg (by unfold erN; omega), e1, e2, dec_enc]
  exact ⟨d, rfl, h⟩
theorem Rel.keep {t : Tx} {r : List Addr} {S : List O} {H H' : Hp} (R : Rel t r S H) (k : ∀ b o, H b = some o → H' b = some o) : Rel t r S H' := ⟨R.inj, R.len, fun l p o h1 h2 => (R.ob l p o h1 h2).heap fun u e => k _ _ e, R.tb.ext k⟩
def raiseXF (c f : Nat) (fa : F) : FS := fun sa S => match fa sa S with
  | some (.ok (.int i) S') => some (.er (erN c f i) sa S')
  | some (.er c' S') => some (.er c' sa S')
  | _ => none
/-- what the raise of an error with a field asks -/
theorem raiseX_ok {t : Tx} {W : WX} {c f : Nat} {C : Addr} {fld : PySem.Str} {fa : F} {D : Ends} {σ : L2.St} {H : Hp} (hc : c < 64) (hf : f < 8) (hfl : flds.getD f "" = fld) (hcl : ∀ n, n % 64 = c → t.cl n = C) (h : liftS t W (raiseXF c f fa) D σ H) :
    liftL t W (consF fa nilF) σ H fun vs H1 => ∃ v, vs = [v] ∧ ∀ d, H1 d = none → W (.ref C) (some d) σ (upd H1 d (.xd [(fld, v)])) := by
  obtain ⟨r, sa, S, x, R, rs, e, p⟩ := h
  unfold raiseXF at e
  cases hq : fa sa S with
  | none => rw [hq] at e; cases e
  | some y =>
    rw [hq] at e
    cases y with
    | er c' S' =>
      cases e
      exact ⟨r, sa, S, .er c' S', R, rs, by unfold consF; rw [hq], fun r' H' ex R' d hd => p r' H' σ ex R' (rs.ext ex) d hd⟩
    | ok a S' =>
      cases a with
      | int i =>
        cases e
        refine ⟨r, sa, S, .ok [.int i] S', R, rs, by unfold consF; rw [hq]; rfl, fun r' H' vs ex R' ra => ?_⟩
        obtain ⟨v, rfl, h1⟩ := pr_one ra
        cases h1
        refine ⟨_, rfl, fun d hd => ?_⟩
        have := p r' (upd H' d (.xd [(fld, .int i)])) σ ex (R'.keep fun b o e => by rw [upd_ne (ne_of_none e hd)]; exact e) (rs.ext ex) (some d) (erD_of hc hf (by rw [hfl]; exact upd_same))
        rw [hcl _ (erN_mod hc)] at this
        exact this
      | _ => cases e
theorem pre_raiseX {c f : Nat} {fa : F} (h : PreF fa) : PreS (raiseXF c f fa) := fun sa S x e => by
  unfold raiseXF at e
  split at e
  · rename_i i S1 h1; cases e; exact h sa S _ h1
  · rename_i c1 S1 h1; cases e; exact h sa S _ h1
  · cases e
end Vai
set_option maxRecDepth 100000
set_option maxHeartbeats 4000000
namespace Vai
open PySem L2 PySem.Spec PyProof.Rows LiI
/-! ## list(d.items()) -/
/-- one more thing that never changes -/
theorem Rel.addS {t : Tx} {r : List Addr} {S : List O} {H : Hp} {q : Addr} {o : O} (R : Rel t r S H) (hs : o.isScr = true) (ho : RO t (r ++ [q]) H q o) : Rel t (r ++ [q]) (S ++ [o]) H := by
  refine ⟨fun l m p a b h1 h2 h3 h4 s1 s2 => ?_, by rw [List.length_append, List.length_append, R.len]; rfl, fun l p a h1 h2 => ?_, R.tb⟩
  · rcases get_snoc h3 with h3 | ⟨_, e3⟩
    · rcases get_snoc h4 with h4 | ⟨_, e4⟩
      · have k1 := (List.getElem?_eq_some_iff.mp h3).1
        have k2 := (List.getElem?_eq_some_iff.mp h4).1
        rw [List.getElem?_append_left (by rw [R.len]; exact k1)] at h1
        rw [List.getElem?_append_left (by rw [R.len]; exact k2)] at h2
        exact R.inj l m p a b h1 h2 h3 h4 s1 s2
      · rw [e4, hs] at s2
        cases s2
    · rw [e3, hs] at s1
      cases s1
  · rcases get_snoc h2 with h2 | ⟨e1, e2⟩
    · have k1 := (List.getElem?_eq_some_iff.mp h2).1
      rw [List.getElem?_append_left (by rw [R.len]; exact k1)] at h1
      exact (R.ob l p a h1 h2).ext (Ext.snoc r q)
    · subst e1 e2
      rw [← R.len, get_snoc_new] at h1
      cases h1
      exact ho
/-- a new thing at p that may change -/
theorem Rel.addM {t : Tx} {r : List Addr} {S : List O} {H : Hp} {p : Addr} {o : O} (R : Rel t r S H) (hp : ∀ (l : Nat) (v : O), r[l]? = some p → S[l]? = some v → v.isScr = true) (ho : RO t (r ++ [p]) H p o) : Rel t (r ++ [p]) (S ++ [o]) H := by
  refine ⟨fun l m q a b h1 h2 h3 h4 s1 s2 => ?_, by rw [List.length_append, List.length_append, R.len]; rfl, fun l q a h1 h2 => ?_, R.tb⟩
  · have old : ∀ (i : Nat) (c : O), S[i]? = some c → (r ++ [p])[i]? = some q → r[i]? = some q := fun i c hc h => by
      have k1 := (List.getElem?_eq_some_iff.mp hc).1
      rwa [List.getElem?_append_left (by rw [R.len]; exact k1)] at h
    rcases get_snoc h3 with h3 | ⟨e3, f3⟩ <;> rcases get_snoc h4 with h4 | ⟨e4, f4⟩
    · exact R.inj l m q a b (old l a h3 h1) (old m b h4 h2) h3 h4 s1 s2
    · subst e4
      rw [← R.len, get_snoc_new] at h2
      cases h2
      rw [hp l a (old l a h3 h1) h3] at s1
      cases s1
    · subst e3
      rw [← R.len, get_snoc_new] at h1
      cases h1
      rw [hp m b (old m b h4 h2) h4] at s2
      cases s2
    · rw [e3, e4]
  · rcases get_snoc h2 with h2 | ⟨e1, e2⟩
    · have k1 := (List.getElem?_eq_some_iff.mp h2).1
      rw [List.getElem?_append_left (by rw [R.len]; exact k1)] at h1
      exact (R.ob l q a h1 h2).ext (Ext.snoc r p)
    · subst e1 e2
      rw [← R.len, get_snoc_new] at h1
      cases h1
      exact ho
def itT (p : Key × A) : O := .tup [kA p.1, p.2]
theorem kA_RA {r : List Addr} (k : Key) : RA r (kA k) (kV k) := by cases k <;> rfl
/-- the pairs, one behind another -/
theorem Rel.addTs {t : Tx} {H : Hp} : ∀ {ks : List (Key × A)} {ws : List (Key × V)} {ts : List Addr} {r : List Addr} {S : List O}, Rel t r S H → Paired (KR r) ks ws → Paired (fun (t : Addr) (q : Key × V) => H t = some (.tup [kV q.1, q.2])) ts ws → Rel t (r ++ ts) (S ++ ks.map itT) H
  | _, _, _, r, S, R, .nil, .nil => by rw [List.map_nil, List.append_nil, List.append_nil]; exact R
  | k :: ks, w :: ws, q :: ts, r, S, R, .cons h1 t1, .cons h2 t2 => by
    have R1 : Rel t (r ++ [q]) (S ++ [itT k]) H := R.addS rfl ⟨_, .inl h2, .cons (by rw [h1.1]; exact kA_RA _) (.cons (h1.2.ext (Ext.snoc r q)) .nil)⟩
    have := Rel.addTs (r := r ++ [q]) (S := S ++ [itT k]) R1 (pr_mono (fun _ _ z => ⟨z.1, z.2.ext (Ext.snoc r q)⟩) t1) t2
    rw [List.append_assoc, List.append_assoc] at this
    exact this
def lsItG : G1 := fun d S => match d with
  | .ref l => (match S[l]? with
    | some (.dic ks) => some (.ref (S.length + ks.length), S ++ ks.map itT ++ [.lst ((List.range ks.length).map fun i => .ref (S.length + i))])
    | _ => none)
  | _ => none
theorem refs_pr {r ts : List Addr} {n : Nat} (hn : r.length = n) : ∀ (m : Nat), m = ts.length → Paired (RA (r ++ ts)) ((List.range m).map fun i => A.ref (n + i)) (ts.map V.ref) := by
  intro m hm
  subst hm
  have : ∀ (k : Nat) (us vs : List Addr), ts = us ++ vs → us.length = k → Paired (RA (r ++ ts)) ((List.range' k vs.length).map fun i => A.ref (n + i)) (vs.map V.ref) := by
    intro k us vs
    induction vs generalizing k us with
    | nil => exact fun _ _ => .nil
    | cons v vs ih =>
      intro e hk
      rw [List.length_cons, List.range'_succ, List.map_cons, List.map_cons]
      refine .cons ⟨v, ?_, rfl⟩ (ih (k + 1) (us ++ [v]) (by rw [e, List.append_assoc]; rfl) (by rw [List.length_append, hk]; rfl))
      rw [List.getElem?_append_right (by omega), e, List.getElem?_append_right (by omega)]
      simp [hn, hk]
  have h := this 0 [] ts rfl rfl
  rwa [← List.range_eq_range'] at h
theorem s_lsIt {t : Tx} : Sem1 t lsItG rItemsL := by
  intro r S H d x p Q R rd e k
  unfold lsItG at e
  split at e
  · rename_i l
    split at e
    · rename_i ks hl
      cases e
      obtain ⟨q, ws, hq, rfl, h1, h2⟩ := dic_of R rd hl
      show rItemsL (V.ref q) H Q
      unfold rItemsL
      refine ⟨q, ws, rfl, h1, fun H' p ts keep hp hts hpt hl' pr => ?_⟩
      have R1 := (R.keep keep).addTs h2 pr
      have len : ts.length = ks.length := (pr_len pr).trans (pr_len h2).symm
      have R2 := R1.addM (p := p) (o := .lst ((List.range ks.length).map fun i => .ref (S.length + i))) (fun i v hi hv => by
        rcases Nat.lt_or_ge i r.length with z | z
        · rw [List.getElem?_append_left z] at hi
          rw [List.getElem?_append_left (by rw [← R.len]; exact z)] at hv
          cases hs : v.isScr with
          | true => rfl
          | false =>
            obtain ⟨u, hu, _⟩ := (R.ob i p v hi hv).there hs
            rw [hp] at hu
            cases hu
        · rw [List.getElem?_append_right z] at hi
          exact absurd (List.mem_of_getElem? hi) hpt) ⟨_, hl', by
          have := refs_pr (ts := ts) R.len ks.length len.symm
          exact RAs.ext (Ext.snoc _ _) this⟩
      refine k _ H' _ ⟨ts ++ [p], by rw [List.append_assoc]⟩ R2 ⟨p, ?_, rfl⟩
      have e : (r ++ ts).length = S.length + ks.length := by rw [List.length_append, R.len, len]
      rw [← e]
      exact get_snoc_new _ _
    · cases e
  · cases e
section
variable {X : Cx} {t : Tx} {W : WX} {p apos cpos pos : Pos}
theorem v_listItems {e : Expr} {fe : F} (hc : X.calm = true) (he : PE X e (lift t W fe)) (hg : Gl X "list") (hm : X.mg "list" = none) (hv : bootBuiltins "list" = some (.type "list")) (hbase : attributeBase e "items" X.env (eval e X.env) = eval e X.env := by rfl) (hline : (apos.endLine == cpos.line) = true := by rfl)
    (hs : starEach [.Call (.Attribute e "items" apos) [] [] cpos] X.env = (false, eval (.Call (.Attribute e "items" apos) [] [] cpos) X.env) :: starEach [] X.env := by rfl) :
    PE X (.Call (.Name "list" p) [.Call (.Attribute e "items" apos) [] [] cpos] [] pos) (lift t W (unF lsItG fe)) :=
  (pe_listItems hc he hg hm hv hbase hline hs).weak fun _ _ _ h => un_ok s_lsIt h
end
end Vai
set_option maxRecDepth 100000
set_option maxHeartbeats 4000000
namespace Vai
open PySem L2 PySem.Spec PyProof.Rows
/-! ## {1: 2, ..}: a dict of constants -/
def cV : A → V
  | .int i => .int i
  | .bl b => .bl b
  | .str z => .str z
  | _ => .non
def okC : A → Bool
  | .int _ => true
  | .bl _ => true
  | .str _ => true
  | .non => true
  | _ => false
theorem cV_ra {r : List Addr} {a : A} (h : okC a = true) : RA r a (cV a) := by
  cases a <;> simp only [okC] at h <;> first | rfl | cases h
abbrev trC (ks : List (Key × A)) : List (TE × TE) := ks.map fun kv => (tC (kV kv.1), tC (cV kv.2))
theorem tPairs_c {σ : L2.St} : ∀ {ks : List (Key × A)} {H : Hp} {Q : List (V × V) → Hp → Prop}, Q (ks.map fun kv => (kV kv.1, cV kv.2)) H → tPairs (trC ks) σ H Q
  | [], _, _, h => h
  | kv :: ks, H, Q, h => by
    show tPairs (trC ks) σ H fun ps H3 => Q ((kV kv.1, cV kv.2) :: ps) H3
    exact tPairs_c h
def putsA (ks : List (Key × A)) : List (Key × A) := ks.foldl (fun acc kv => putA acc kv.1 kv.2) []
theorem puts_pr {r : List Addr} : ∀ {ks acc : List (Key × A)} {ws : List (Key × V)}, (∀ kv ∈ ks, okC kv.2 = true) → Paired (KR r) acc ws → Paired (KR r) (ks.foldl (fun acc kv => putA acc kv.1 kv.2) acc) (mergeK ws (ks.map fun kv => (kv.1, cV kv.2)))
  | [], _, _, _, h => h
  | kv :: ks, acc, ws, ho, h => by
    show Paired (KR r) (ks.foldl (fun acc kv => putA acc kv.1 kv.2) (putA acc kv.1 kv.2)) (mergeK (putK ws kv.1 (cV kv.2)) (ks.map fun kv => (kv.1, cV kv.2)))
    exact puts_pr (fun q hq => ho q (List.mem_cons_of_mem _ hq)) (put_pr (cV_ra (ho kv (List.mem_cons_self ..))) h)
def newDC (ks : List (Key × A)) : F := fun _ S => some (.ok (.ref S.length) (S ++ [.dic (putsA ks)]))
section
variable {X : Cx} {t : Tx} {W : WX}
theorem dc_nil {pos : Pos} : PPs X pos [] [] (trC []) := pps_nil
theorem dc_cons {pos : Pos} {k v : Expr} {ks : List (Option Expr)} {vs : List Expr} {q : Key} {a : A} {r : List (Key × A)} (hk : PE X k (tC (kV q))) (hv : PE X v (tC (cV a))) (hr : PPs X pos ks vs (trC r)) : PPs X pos (some k :: ks) (v :: vs) (trC ((q, a) :: r)) := pps_cons hk hv hr
theorem v_dispC {pos : Pos} {keys : List (Option Expr)} {values : List Expr} {ks : List (Key × A)} (h : PPs X pos keys values (trC ks)) (hall : keys.all (·.isSome) = true) (hl : keys.length = values.length) (h0 : keys ≠ []) (h15 : keys.length ≤ 15) (hk : ks.length ≤ 15) (ho : ∀ kv ∈ ks, okC kv.2 = true) :
    PE X (.Dict keys values pos) (lift t W (newDC ks)) := (pe_disp h hall hl h0 h15).weak fun σ H Q h => by
  obtain ⟨r, sa, S, x, R, rs, e, p⟩ := h
  cases e
  intro q hq
  refine tPairs_c ⟨upd_same, ks.map fun kv => (kv.1, cV kv.2), by rw [List.map_map]; rfl, by rw [List.length_map]; exact hk, ?_⟩
  rw [upd_upd]
  exact alloc R p (fun q => ⟨_, upd_same, puts_pr ho .nil⟩) q hq
end
theorem pre_newDC {ks : List (Key × A)} : PreF (newDC ks) := fun sa S x e => by cases e; exact pfa S _
end Vai
set_option maxRecDepth 100000
set_option maxHeartbeats 4000000
namespace Vai
open PySem L2 PySem.Spec PyProof.Rows
/-! ## sorted(pairs of ints) -/
section
variable {α : Type} {lt : α → α → Bool}
/-- a stable sort is the only one -/
theorem stb_uniq (O : SrtO.Swo lt) : ∀ {ys zs xs : List α}, SrtO.Srtd lt ys → SrtO.Srtd lt zs → ys.Perm zs → (∀ x, ys.filter (SrtO.eqv lt x) = zs.filter (SrtO.eqv lt x)) → ys = zs
  | [], zs, _, _, _, p, _ => (List.Perm.eq_nil p.symm).symm
  | y :: ys, [], _, _, _, p, _ => absurd p.length_eq (by simp)
  | y :: ys, z :: zs, _, hy, hz, p, f => by
    have h1 : y ∈ z :: zs := p.mem_iff.mp List.mem_cons_self
    have h2 : z ∈ y :: ys := p.mem_iff.mpr List.mem_cons_self
    have a : lt y z = false := by
      rcases List.mem_cons.mp h1 with e | h
      · rw [e]; exact O.refl z
      · exact (List.pairwise_cons.mp hz).1 y h
    have b : lt z y = false := by
      rcases List.mem_cons.mp h2 with e | h
      · rw [e]; exact O.refl y
      · exact (List.pairwise_cons.mp hy).1 z h
    have e : y = z := by
      have := f y
      rw [List.filter_cons, if_pos (SrtO.eqv_iff.mpr ⟨O.refl y, O.refl y⟩), List.filter_cons, if_pos (SrtO.eqv_iff.mpr ⟨a, b⟩)] at this
      exact (List.cons.inj this).1
    subst e
    rw [stb_uniq O (xs := ys) (List.pairwise_cons.mp hy).2 (List.pairwise_cons.mp hz).2 ((List.perm_cons _).mp p) fun x => ?_]
    have := f x
    rw [List.filter_cons, List.filter_cons] at this
    split at this
    · exact (List.cons.inj this).2
    · exact this
def insB (lt : α → α → Bool) (x : α) : List α → List α
  | [] => [x]
  | y :: l => if lt y x = true then y :: insB lt x l else x :: y :: l
def sortB (lt : α → α → Bool) : List α → List α
  | [] => []
  | x :: l => insB lt x (sortB lt l)
theorem insB_perm (x : α) : ∀ l : List α, (insB lt x l).Perm (x :: l)
  | [] => List.Perm.refl _
  | y :: l => by
    unfold insB
    split
    · exact ((insB_perm x l).cons y).trans (List.Perm.swap x y l)
    · exact List.Perm.refl _
theorem sortB_perm : ∀ l : List α, (sortB lt l).Perm l
  | [] => List.Perm.refl _
  | x :: l => (insB_perm x _).trans ((sortB_perm l).cons x)
theorem insB_srtd (O : SrtO.Swo lt) (x : α) : ∀ {l : List α}, SrtO.Srtd lt l → SrtO.Srtd lt (insB lt x l)
  | [], _ => List.pairwise_singleton _ _
  | y :: l, h => by
    unfold insB
    split
    · rename_i e
      refine List.pairwise_cons.mpr ⟨fun z hz => ?_, insB_srtd O x (List.pairwise_cons.mp h).2⟩
      rcases List.mem_cons.mp ((insB_perm x l).mem_iff.mp hz) with q | q
      · rw [q]; exact O.asym y x e
      · exact (List.pairwise_cons.mp h).1 z q
    · rename_i e
      have e' : lt y x = false := by
        cases q : lt y x with
        | true => exact absurd q e
        | false => rfl
      refine List.pairwise_cons.mpr ⟨fun z hz => ?_, h⟩
      rcases List.mem_cons.mp hz with q | q
      · rw [q]; exact e'
      · exact O.tr x y z e' ((List.pairwise_cons.mp h).1 z q)
theorem sortB_srtd (O : SrtO.Swo lt) : ∀ l : List α, SrtO.Srtd lt (sortB lt l)
  | [] => List.Pairwise.nil
  | x :: l => insB_srtd O x (sortB_srtd O l)
theorem insB_cls (O : SrtO.Swo lt) (x w : α) : ∀ l : List α, (insB lt x l).filter (SrtO.eqv lt w) = (x :: l).filter (SrtO.eqv lt w)
  | [] => rfl
  | y :: l => by
    unfold insB
    split
    · rename_i e
      rw [List.filter_cons, insB_cls O x w l]
      by_cases hx : SrtO.eqv lt w x = true
      · have hy : ¬ SrtO.eqv lt w y = true := fun hy => by
          have h1 := SrtO.eqv_iff.mp hx
          have h2 := SrtO.eqv_iff.mp hy
          -- w ~ x, w ~ y, y < x
          have := O.tr x w y h1.1 h2.2
          rw [e] at this
          cases this
        rw [if_neg hy, List.filter_cons, if_pos hx, List.filter_cons, if_pos hx, List.filter_cons, if_neg hy]
      · rw [List.filter_cons, if_neg hx, List.filter_cons, if_neg hx]
        rw [List.filter_cons]
    · rfl
theorem sortB_cls (O : SrtO.Swo lt) (w : α) : ∀ l : List α, (sortB lt l).filter (SrtO.eqv lt w) = l.filter (SrtO.eqv lt w)
  | [] => rfl
  | x :: l => by
    show (insB lt x (sortB lt l)).filter _ = _
    rw [insB_cls O, List.filter_cons, List.filter_cons, sortB_cls O w l]
end
def pairA (S : List O) : A → Option (Int × Int)
  | .ref l => (match S[l]? with
    | some (.tup [.int i, .int j]) => some (i, j)
    | _ => none)
  | _ => none
def pairsA (S : List O) : List A → Option (List ((Int × Int) × A))
  | [] => some []
  | a :: as => (match pairA S a, pairsA S as with
    | some p, some ps => some ((p, a) :: ps)
    | _, _ => none)
def ltQ {β : Type} (x y : (Int × Int) × β) : Bool := SrtO.lexB x.1 y.1
def itemsA (S : List O) (l : Nat) : Option (List A) := match S[l]? with
  | some (.lst xs) => some xs
  | some (.tup xs) => some xs
  | _ => none
def sortPG : GN := fun as S => match as with
  | [.ref l] => (match itemsA S l with
    | some xs => (match pairsA S xs with
      | some ps => some (.ref S.length, S ++ [.lst ((sortB ltQ ps).map (·.2))])
      | none => none)
    | none => none)
  | _ => none
/-- pairs of ints anywhere, in a list or a tuple -/
def rSortedPQ (K : PySem.W.Frag) : List V → Hp → VK → Prop := fun vs H Q => ∃ (a : Addr) (xs : List V) (k : V → Int × Int), vs = [V.ref a] ∧ (SqL K H a xs ∨ SqT K H a xs) ∧ (∀ x ∈ xs, ∃ t, x = V.ref t ∧ SqT K H t [.int (k x).1, .int (k x).2]) ∧
  ∀ ys p, SrtO.Srtd (ltP k) ys → SrtO.Stb (ltP k) ys xs → H p = none → Q (.ref p) (upd H p (.lst ys))
theorem sorted_pairsW {prog : Program} {w : World} {A : Around} {s : Shared} {E : Value → Shared → Prop} {l : Addr} {vs : List Value} {k : Value → Int × Int} {Q : Value → Shared → Prop} (hl : IsTup s.heap l vs.toArray) (hz : vs.length ≤ sizeLine) (hp : ∀ v ∈ vs, Srt.IsPair s.heap v (k v).1 (k v).2)
    (h : ∀ (h' : Heap) (d : Addr) (out : List Value), SrtO.Srtd (fun v u => SrtO.lexB (k v) (k u)) out → SrtO.Stb (fun v u => SrtO.lexB (k v) (k u)) out vs → (∀ b o, s.heap.get? b = some o → h'.get? b = some o) → s.heap.objs.size ≤ d → (∃ n, h'.get? d = some (seqObj "list" out.toArray n)) → Q (.ref d) { s with heap := h' }) :
    wpAny (model prog w) A (call (.builtin "sorted") [.ref l]) Q E s := by
  refine SrtO.sorted_ordW (SrtO.swo_lex k) hl hz (fun h2 h₁ a ha kk => ?_) fun out hs hb => ?_
  · refine SrtO.pairs_sortableO (s := { s with heap := h₁ }) (by omega) (fun v hm => (hp v hm).keeps fun b o e _ => (kk b o e).2) fun o e => ?_
    have e' : some o = some (seqObj "list" vs.toArray 0) := e.symm.trans ha
    cases e'
    intro c
    exact absurd (Value.type.inj c) (by decide)
  · exact h _ _ out hs hb (fun b o e => sortedAll_old e) (Nat.le_succ _) (sortedAll_at s.heap vs out.toArray)
theorem cr_sortedPQ {X : Cx} : CallR X (.builtin "sorted") (rSortedPQ X.K) := by
  intro pins s σ H vs us Q I r h
  obtain ⟨a, xs, k, rfl, hs, hx, q⟩ := h
  obtain ⟨u, rfl, ru⟩ := vals1 r
  obtain rfl : u = Value.ref a := ru
  have go : ∀ its, Vals xs its → xs.length ≤ sizeLine → (∀ v ∈ its, Srt.IsPair s.heap v (k (backV v)).1 (k (backV v)).2) ∧ (∀ (h' : Heap) (d : Addr) (out : List Value), SrtO.Srtd (fun v u => SrtO.lexB (k (backV v)) (k (backV u))) out → SrtO.Stb (fun v u => SrtO.lexB (k (backV v)) (k (backV u))) out its → (∀ b o, s.heap.get? b = some o → h'.get? b = some o) → s.heap.objs.size ≤ d → (∃ n, h'.get? d = some (seqObj "list" out.toArray n)) → ∃ v H', Inv X pins σ H' { s with heap := h' } ∧ RelV v (.ref d) ∧ Q v H') := by
    intro its rv hz
    obtain ⟨e1, e2⟩ := refs_back rv fun x m => by
      obtain ⟨t, e, _⟩ := hx x m
      exact ⟨t, e⟩
    refine ⟨fun v hv => ?_, fun h' d out h1 h2 kp hd hn => ?_⟩
    · obtain ⟨t, rfl⟩ := e2 v hv
      have hm : V.ref t ∈ xs := by rw [e1]; exact List.mem_map.mpr ⟨_, hv, rfl⟩
      obtain ⟨t', e, ht⟩ := hx _ hm
      cases e
      obtain ⟨its2, r2, ⟨o, ho, hc, n, hd⟩, _⟩ := I.tuple ht
      obtain ⟨u1, u2, rfl, ri, rj⟩ := vals2 r2
      obtain ⟨t1, rfl⟩ := ri
      obtain ⟨t2, rfl⟩ := rj
      exact ⟨t, o, t1, t2, n, rfl, ho, hc, hd⟩
    · have h3 : ∀ u ∈ out, ∃ a, u = Value.ref a := fun u hu => e2 u (h2.perm.mem_iff.mp hu)
      obtain ⟨n, hn⟩ := hn
      have hb : SrtO.Stb (ltP k) (out.map backV) xs := by
        rw [e1]
        exact SrtO.Stb.map (ltP_swo k) backV h2
      refine ⟨.ref d, upd H d (.lst (out.map backV)), I.laid (t' := s.toks) kp hd ⟨?_, out, n, vals_back h3, hn⟩, rfl, q _ d (SrtO.srtd_map h1) hb (I.hok.fresh hd)⟩
      rw [hb.len]
      exact hz
  rcases hs with hs | hs
  · obtain ⟨its, rv, hl, hz⟩ := I.list hs
    obtain ⟨g1, g2⟩ := go its rv hz
    exact SrtO.sorted_pairsO (k := fun u => k (backV u)) hl.isList (by rw [← rv.length]; exact hz) g1 g2
  · obtain ⟨its, rv, hl, hz⟩ := I.tuple hs
    obtain ⟨g1, g2⟩ := go its rv hz
    exact sorted_pairsW (k := fun u => k (backV u)) hl (by rw [← rv.length]; exact hz) g1 g2
def kPV (H : Hp) : V → Int × Int
  | .ref t => (match H t with
    | some (.tup [.int i, .int j]) => (i, j)
    | some (.frz _ (.tup [.int i, .int j])) => (i, j)
    | _ => (0, 0))
  | _ => (0, 0)
theorem pairs_pr {t : Tx} {r : List Addr} {S : List O} {H : Hp} (R : Rel t r S H) : ∀ {as : List A} {vs : List V} {ps : List ((Int × Int) × A)}, pairsA S as = some ps → Paired (RA r) as vs → (∀ v ∈ vs, ∃ q, v = V.ref q ∧ SqT t.K H q [.int (kPV H v).1, .int (kPV H v).2]) ∧ Paired (fun (p : (Int × Int) × A) (v : V) => p.1 = kPV H v ∧ RA r p.2 v) ps vs
  | [], _, ps, e, .nil => by
    cases e
    exact ⟨fun v h => (by cases h), .nil⟩
  | a :: as, v :: vs, ps, e, .cons ha hs => by
    unfold pairsA at e
    split at e
    · rename_i p ps' e1 e2
      cases e
      obtain ⟨i1, i2⟩ := pairs_pr R e2 hs
      unfold pairA at e1
      split at e1
      · rename_i l
        split at e1
        · rename_i i j hl
          cases e1
          obtain ⟨q, ws, rfl, g, rw'⟩ := tup_of R ha hl
          obtain ⟨w1, w2, rfl, h1, h2⟩ : ∃ w1 w2, ws = [w1, w2] ∧ RA r (.int i) w1 ∧ RA r (.int j) w2 := by
            cases rw' with
            | cons h1 t => cases t with
              | cons h2 t => cases t with
                | nil => exact ⟨_, _, rfl, h1, h2⟩
          have e1 : w1 = .int i := h1
          have e2 : w2 = .int j := h2
          subst e1 e2
          have gk : kPV H (.ref q) = (i, j) := by
            unfold kPV
            rcases g with g | ⟨_, o, g⟩ <;> simp only <;> rw [g]
          refine ⟨fun v hv => ?_, .cons ⟨gk.symm, ha⟩ i2⟩
          rcases List.mem_cons.mp hv with rfl | hv
          · exact ⟨q, rfl, by rw [gk]; exact sqTo g⟩
          · exact i1 v hv
        · cases e1
      · cases e1
    · cases e
theorem ins_pr {H : Hp} {r : List Addr} {p : (Int × Int) × A} {v : V} (h : p.1 = kPV H v ∧ RA r p.2 v) : ∀ {ps : List ((Int × Int) × A)} {vs : List V}, Paired (fun (p : (Int × Int) × A) (v : V) => p.1 = kPV H v ∧ RA r p.2 v) ps vs → Paired (fun (p : (Int × Int) × A) (v : V) => p.1 = kPV H v ∧ RA r p.2 v) (insB ltQ p ps) (insB (ltP (kPV H)) v vs)
  | _, _, .nil => .cons h .nil
  | y :: ps, u :: vs, .cons hy t => by
    unfold insB
    have e : ltQ y p = ltP (kPV H) u v := by
      show SrtO.lexB y.1 p.1 = SrtO.lexB (kPV H u) (kPV H v)
      rw [hy.1, h.1]
    rw [e]
    split
    · exact .cons hy (ins_pr h t)
    · exact .cons h (.cons hy t)
theorem sort_pr {H : Hp} {r : List Addr} : ∀ {ps : List ((Int × Int) × A)} {vs : List V}, Paired (fun (p : (Int × Int) × A) (v : V) => p.1 = kPV H v ∧ RA r p.2 v) ps vs → Paired (fun (p : (Int × Int) × A) (v : V) => p.1 = kPV H v ∧ RA r p.2 v) (sortB ltQ ps) (sortB (ltP (kPV H)) vs)
  | _, _, .nil => .nil
  | _, _, .cons h t => ins_pr h (sort_pr t)
theorem map_pr2 {H : Hp} {r : List Addr} : ∀ {ps : List ((Int × Int) × A)} {vs : List V}, Paired (fun (p : (Int × Int) × A) (v : V) => p.1 = kPV H v ∧ RA r p.2 v) ps vs → Paired (RA r) (ps.map (·.2)) vs
  | _, _, .nil => .nil
  | _, _, .cons h t => .cons h.2 (map_pr2 t)
/-- sorted of ints, or of pairs of ints -/
def sort2G : GN := fun as S => match sortG as S with
  | some z => some z
  | none => sortPG as S
def rSort2 (K : PySem.W.Frag) : List V → Hp → VK → Prop := fun vs H Q => rSortU K vs H Q ∨ rSortedPQ K vs H Q
theorem cr_sort2 {X : Cx} : CallR X (.builtin "sorted") (rSort2 X.K) := by
  intro pins s σ H vs us Q I r h
  rcases h with h | h
  · exact cr_sortU _ _ _ _ _ _ _ I r h
  · exact cr_sortedPQ _ _ _ _ _ _ _ I r h
theorem s_sort2 {t : Tx} {K : PySem.W.Frag} (hK : K = t.K) : SemN t sort2G (rSort2 K) := by
  subst hK
  intro r S H as vs p Q R ra e k
  unfold sort2G at e
  cases hs : sortG as S with
  | some z =>
    rw [hs] at e
    cases e
    exact .inl (s_sort rfl r S H as vs _ Q R ra hs k)
  | none =>
    rw [hs] at e
    simp only at e
    refine .inr ?_
    unfold sortPG at e
    split at e
    · rename_i l
      split at e
      · rename_i xs hl
        split at e
        · rename_i ps hp
          cases e
          obtain ⟨v, rfl, rv⟩ := pr_one ra
          obtain ⟨q, ws, rfl, g, rw'⟩ : ∃ q ws, v = .ref q ∧ (SqL t.K H q ws ∨ SqT t.K H q ws) ∧ Paired (RA r) xs ws := by
            unfold itemsA at hl
            split at hl
            · rename_i ys hl'
              cases hl
              obtain ⟨q, ws, e, g, rw'⟩ := seq_of R rv hl'
              exact ⟨q, ws, e, .inl (SqL.of g), rw'⟩
            · rename_i ys hl'
              cases hl
              obtain ⟨q, ws, e, g, rw'⟩ := tup_of R rv hl'
              exact ⟨q, ws, e, .inr (sqTo g), rw'⟩
            · cases hl
          obtain ⟨j1, j2⟩ := pairs_pr R hp rw'
          refine ⟨q, ws, kPV H, rfl, g, j1, fun ys p hys hst hpn => ?_⟩
          rw [stb_uniq (ltP_swo (kPV H)) (xs := ws) hys (sortB_srtd (ltP_swo _) ws) (hst.perm.trans (sortB_perm ws).symm) fun x => (hst.cls x).trans (sortB_cls (ltP_swo _) x ws).symm]
          exact allocG R k (fun q => ⟨_, upd_same, RAs.ext (Ext.snoc r q) (map_pr2 (sort_pr j2))⟩) p hpn
        · cases e
      · cases e
    · cases e
theorem pre_sort2G : PreN sort2G := fun a S z e => by
  unfold sort2G at e
  split at e
  · rename_i z' h
    cases e
    exact pre_sortG a S _ h
  · unfold sortPG at e
    split at e
    · split at e
      · split at e
        · cases e
          exact pfa S _
        · cases e
      · cases e
    · cases e
end Vai
set_option maxRecDepth 100000
set_option maxHeartbeats 2000000
namespace Vai
open PySem L2
/-! ### evaluating, a rule each -/
section
variable {sa sa1 sa2 : Sa} {S S1 S2 S3 : List O} {a b c : A} {fa fb fc : F} {fl : FL}
theorem trim_ok {d : FD} {as : List A} {S S' : List O} {a : A} (h : d as S = some (.ok a S')) (hf : flatA a = true) : trimD d as S = some (.ok a S) := by
  unfold trimD trimR
  rw [h]
  simp [hf]
theorem trim_ref {d : FD} {as : List A} {S S' : List O} {l : Nat} (h : d as S = some (.ok (.ref l) S')) : trimD d as S = some (.ok (.ref l) S') := by
  unfold trimD trimR
  rw [h]
  simp [flatA]
theorem trim_er {d : FD} {as : List A} {S S' : List O} {c : Nat} (h : d as S = some (.er c S')) : trimD d as S = some (.er c S) := by
  unfold trimD trimR
  rw [h]
  rfl
theorem r_trim {f : F} (h : f sa S = some (.ok a S1)) (hf : flatA a = true) : trimF f sa S = some (.ok a S) := by
  unfold trimF trimR
  rw [h]
  simp [hf]
theorem r_var {i : Nat} (h : sa[i]? = some (some a)) : varF i sa S = some (.ok a S) := by
  unfold varF
  rw [h]
theorem r_con : conF a sa S = some (.ok a S) := rfl
theorem r_bnd {f : F} {k : A → F} {y : Option R} (h : f sa S = some (.ok a S1)) (hk : k a sa S1 = y) : bnd f k sa S = y := by
  unfold bnd
  rw [h]
  exact hk
theorem r_bndE {f : F} {k : A → F} {e : Nat} (h : f sa S = some (.er e S1)) : bnd f k sa S = some (.er e S1) := by
  unfold bnd
  rw [h]
theorem r_op {g : G2} (ha : fa sa S = some (.ok a S1)) (hb : fb sa S1 = some (.ok b S2)) (hg : g a b S2 = some (c, S3)) : opF g fa fb sa S = some (.ok c S3) :=
  r_bnd ha (r_bnd hb (by show toR (g a b S2) = _; rw [hg]; rfl))
theorem r_un {g : G1} (ha : fa sa S = some (.ok a S1)) (hg : g a S1 = some (c, S3)) : unF g fa sa S = some (.ok c S3) := r_bnd ha (by show toR (g a S1) = _; rw [hg]; rfl)
theorem r_and {x y : Bool} (ha : fa sa S = some (.ok (.bl x) S1)) (hb : x = true → fb sa S1 = some (.ok (.bl y) S1)) : andF fa fb sa S = some (.ok (.bl (x && y)) S1) := by
  refine r_bnd ha ?_
  cases x with
  | true => exact hb rfl
  | false => rfl
theorem r_or {x y : Bool} (ha : fa sa S = some (.ok (.bl x) S1)) (hb : x = false → fb sa S1 = some (.ok (.bl y) S1)) : orF fa fb sa S = some (.ok (.bl (x || y)) S1) := by
  refine r_bnd ha ?_
  cases x with
  | true => rfl
  | false => exact hb rfl
theorem r_not {x : Bool} (ha : fa sa S = some (.ok (.bl x) S1)) : notF fa sa S = some (.ok (.bl (!x)) S1) := r_bnd ha rfl
theorem r_ifE {x : Bool} (h : fc sa S = some (.ok (.bl x) S1)) (ha : x = true → fa sa S1 = some (.ok a S2)) (hb : x = false → fb sa S1 = some (.ok a S2)) : ifF fc fa fb sa S = some (.ok a S2) := by
  refine r_bnd h ?_
  cases x with
  | true => exact ha rfl
  | false => exact hb rfl
theorem r_ch {g g' : G2} {x y : Bool} (ha : fa sa S = some (.ok a S1)) (hb : fb sa S1 = some (.ok b S2)) (hg : g a b S2 = some (.bl x, S2)) (hc : fc sa S2 = some (.ok c S2)) (hg' : g' b c S2 = some (.bl y, S2)) : chF g g' fa fb fc sa S = some (.ok (.bl (x && y)) S2) := by
  refine r_bnd ha (r_bnd hb (r_bnd (a := .bl x) (S1 := S2) ?_ ?_))
  · show toR (g a b S2) = _
    rw [hg]
    rfl
  · cases x with
    | true =>
      refine r_bnd hc ?_
      show toR (g' b c S2) = _
      rw [hg']
      rfl
    | false => rfl
theorem r_nil : nilF sa S = some (.ok [] S) := rfl
theorem r_cons {as : List A} (ha : fa sa S = some (.ok a S1)) (hl : fl sa S1 = some (.ok as S2)) : consF fa fl sa S = some (.ok (a :: as) S2) := by
  unfold consF
  rw [ha]
  simp only
  rw [hl]
theorem r_bndL {as : List A} {k : List A → F} {y : Option R} (h : fl sa S = some (.ok as S1)) (hk : k as sa S1 = y) : bndL fl k sa S = y := by
  unfold bndL
  rw [h]
  exact hk
theorem r_new {mk : List A → O} {as : List A} (h : fl sa S = some (.ok as S1)) (hn : as.length ≤ 1000000) : newF mk fl sa S = some (.ok (.ref S1.length) (S1 ++ [mk as])) := r_bndL h (if_pos hn)
theorem r_cl {g : GN} {as : List A} (h : fl sa S = some (.ok as S1)) (hg : g as S1 = some (c, S2)) : clF g fl sa S = some (.ok c S2) := r_bndL h (by show toR (g as S1) = _; rw [hg]; rfl)
theorem r_call {d : FD} {as : List A} {y : Option R} (h : fl sa S = some (.ok as S1)) (hd : d as S1 = y) : callF d fl sa S = y := r_bndL h hd
theorem r_err {nm : Nat → Option Str} {e0 : Str} (h : fb sa S = some (.ok a S1)) : errF nm e0 fb sa S = some (.ok (.str e0) S1) := by
  unfold errF
  rw [h]
theorem r_errE {nm : Nat → Option Str} {e0 z : Str} {e : Nat} (h : fb sa S = some (.er e S1)) (hn : nm e = some z) : errF nm e0 fb sa S = some (.ok (.str z) S1) := by
  unfold errF
  rw [h]
  simp only
  rw [hn]
/-! statements -/
variable {f g : FS} {y : Option RF}
theorem r_seq (h : f sa S = some (.nx sa1 S1)) (k : g sa1 S1 = y) : seqF f g sa S = y := by
  unfold seqF
  rw [h]
  exact k
theorem r_seqR (h : f sa S = some (.rt a S1)) : seqF f g sa S = some (.rt a S1) := by
  unfold seqF
  rw [h]
theorem r_seqE {e : Nat} (h : f sa S = some (.er e sa1 S1)) : seqF f g sa S = some (.er e sa1 S1) := by
  unfold seqF
  rw [h]
theorem r_ret (h : fa sa S = some (.ok a S1)) : retF fa sa S = some (.rt a S1) := by
  unfold retF
  rw [h]
theorem r_retE {e : Nat} (h : fa sa S = some (.er e S1)) : retF fa sa S = some (.er e sa S1) := by
  unfold retF
  rw [h]
theorem r_exp (h : fa sa S = some (.ok a S1)) : expF fa sa S = some (.nx sa S1) := by
  unfold expF
  rw [h]
theorem r_expE {e : Nat} (h : fa sa S = some (.er e S1)) : expF fa sa S = some (.er e sa S1) := by
  unfold expF
  rw [h]
theorem r_condT (h : fc sa S = some (.ok (.bl true) S1)) (k : f sa S1 = y) : condF fc f g sa S = y := by
  unfold condF
  rw [h]
  exact k
theorem r_condF (h : fc sa S = some (.ok (.bl false) S1)) (k : g sa S1 = y) : condF fc f g sa S = y := by
  unfold condF
  rw [h]
  exact k
theorem r_asg {T : TF} {z : Sa × List O} (h : fa sa S = some (.ok a S1)) (k : T a sa S1 = some z) : asgF fa T sa S = some (.nx z.1 z.2) := by
  unfold asgF
  rw [h]
  simp only
  rw [k]
theorem r_asgN {i : Nat} (h : fa sa S = some (.ok a S1)) : asgF fa (nameT i) sa S = some (.nx (sa.set i (some a)) S1) := r_asg (T := nameT i) (z := (sa.set i (some a), S1)) h rfl
theorem r_defR {m : Nat} {b : FS} {as : List A} (h : b (as.map some ++ List.replicate (m - as.length) none) S = some (.rt a S1)) : defF m b as S = some (.ok a S1) := by
  unfold defF
  rw [h]
theorem r_defN {m : Nat} {b : FS} {as : List A} (h : b (as.map some ++ List.replicate (m - as.length) none) S = some (.nx sa S1)) : defF m b as S = some (.ok .non S1) := by
  unfold defF
  rw [h]
theorem r_defE {m : Nat} {b : FS} {as : List A} {e : Nat} (h : b (as.map some ++ List.replicate (m - as.length) none) S = some (.er e sa S1)) : defF m b as S = some (.er e S1) := by
  unfold defF
  rw [h]
/-! the operators on what stands in the store -/
theorem g_ixT {l : Nat} {k : Int} {xs : List A} {x : A} (h : S[l]? = some (.tup xs)) (hx : atI xs k = some x) : ixG (.ref l) (.int k) S = some (x, S) := by
  unfold ixG
  simp only
  rw [h]
  simp only
  rw [hx]
  rfl
theorem g_ixL {l : Nat} {k : Int} {xs : List A} {x : A} (h : S[l]? = some (.lst xs)) (hx : atI xs k = some x) : ixG (.ref l) (.int k) S = some (x, S) := by
  unfold ixG
  simp only
  rw [h]
  simp only
  rw [hx]
  rfl
theorem g_lenT {l : Nat} {xs : List A} (h : S[l]? = some (.tup xs)) : lenG [.ref l] S = some (.int xs.length, S) := by
  unfold lenG
  simp only
  rw [h]
theorem g_lenL {l : Nat} {xs : List A} (h : S[l]? = some (.lst xs)) : lenG [.ref l] S = some (.int xs.length, S) := by
  unfold lenG
  simp only
  rw [h]
theorem g_tupL {l : Nat} {xs : List A} (h : S[l]? = some (.lst xs)) : tupC [.ref l] S = some (.ref S.length, S ++ [.tup xs]) := by
  unfold tupC
  simp only
  rw [h]
theorem g_all {l : Nat} {xs : List A} {bs : List Bool} {f : List Bool → Bool} (h : S[l]? = some (.lst xs)) (hb : toBs xs = some bs) : allG f [.ref l] S = some (.bl (f bs), S) := by
  unfold allG
  simp only
  rw [h]
  simp only
  rw [hb]
theorem toBs_map {α : Type} (p : α → Bool) : ∀ xs : List α, toBs (xs.map fun x => A.bl (p x)) = some (xs.map p)
  | [] => rfl
  | x :: xs => by
    show (match toBs (xs.map fun x => A.bl (p x)) with
      | some bs => some (p x :: bs)
      | none => none) = _
    rw [toBs_map p xs]
    rfl
theorem g_isi {t n : String} {b : Bool} (h : tyN S a = some t) (hk : kitB t n = some b) : isiG [a, .ty n] S = some (.bl b, S) := by
  unfold isiG
  simp only
  rw [h]
  simp only
  rw [hk]
  rfl
theorem at_up {l : Nat} {o : O} (p : S <+: S1) (h : S[l]? = some o) : S1[l]? = some o := by
  obtain ⟨G, rfl⟩ := p
  rw [List.getElem?_append_left (List.getElem?_eq_some_iff.mp h).1]
  exact h
theorem at_new {o : O} : (S ++ [o])[S.length]? = some o := get_snoc_new S o
theorem tyN_up {t : String} (p : S <+: S1) (h : tyN S a = some t) : tyN S1 a = some t := by
  cases a with
  | ref l =>
    simp only [tyN] at h ⊢
    cases hl : S[l]? with
    | none =>
      rw [hl] at h
      cases h
    | some o =>
      rw [hl] at h
      rw [at_up p hl]
      exact h
  | _ => exact h
/-! a list comprehension that leaves nothing but its list -/
theorem e_lcGo {i : Its} {T : TX} {vs : List Nat} {ft fe : F} {xs : List A} {sx : A → Sa} {p : A → Bool} {g : A → A} (items : ∀ G, S1 <+: G → ∀ j, itemAt i j G = some xs[j]?)
    (hT : ∀ x ∈ xs, ∀ G, S1 <+: G → T x (wipeA sa vs) G = some (sx x)) (ht : ∀ x ∈ xs, ∀ G, S1 <+: G → ft (sx x) G = some (.ok (.bl (p x)) G)) (he : ∀ x ∈ xs, p x = true → ∀ G, S1 <+: G → fe (sx x) G = some (.ok (g x) G)) :
    ∀ (n j : Nat) (acc : List A), n + j = xs.length + 1 → j ≤ xs.length → acc.length + (xs.length - j) ≤ 1000000 → lcGo i T vs ft fe S1.length sa n j (S1 ++ [.lst acc]) = some (S1 ++ [.lst (acc ++ ((xs.drop j).filter p).map g)])
  | 0, j, acc, e, e0, ha => by omega
  | n + 1, j, acc, e, e0, ha => by
    have pre : S1 <+: S1 ++ [O.lst acc] := pfa S1 _
    simp only [lcGo]
    rw [items _ pre j]
    by_cases hj : j < xs.length
    · have hx : xs[j]? = some xs[j] := List.getElem?_eq_getElem hj
      have hm : xs[j] ∈ xs := List.getElem_mem hj
      have hd : xs.drop j = xs[j] :: xs.drop (j + 1) := List.drop_eq_getElem_cons hj
      rw [hx]
      simp only
      rw [hT _ hm _ pre]
      simp only
      rw [ht _ hm _ pre]
      cases hp : p xs[j] with
      | false =>
        simp only
        rw [e_lcGo items hT ht he n (j + 1) acc (by omega) (by omega) (by omega), hd, List.filter_cons, hp]
        rfl
      | true =>
        simp only
        rw [he _ hm hp _ pre]
        simp only
        rw [at_new]
        simp only
        rw [if_pos (by omega)]
        have e2 : (S1 ++ [O.lst acc]).set S1.length (.lst (acc ++ [g xs[j]])) = S1 ++ [O.lst (acc ++ [g xs[j]])] := by
          rw [List.set_append_right _ _ (Nat.le_refl _), Nat.sub_self]
          rfl
        rw [e2, e_lcGo items hT ht he n (j + 1) (acc ++ [g xs[j]]) (by omega) (by omega) (by rw [List.length_append]; simp; omega), hd, List.filter_cons, hp]
        simp
    · have hx : xs[j]? = none := List.getElem?_eq_none (by omega)
      rw [hx]
      simp only
      rw [List.drop_eq_nil_of_le (by omega)]
      simp
/-- what is gone through: the items xs, whatever is laid behind -/
def Goes (i : Its) (S : List O) (xs : List A) : Prop := (∀ G, S <+: G → ∀ j, itemAt i j G = some xs[j]?) ∧ itsLen i S = xs.length
theorem goes_l {l : Nat} {xs : List A} (h : S[l]? = some (.lst xs)) : Goes (.sl l) S xs := ⟨fun G p j => by
  simp only [itemAt]
  rw [at_up p h], by
  simp only [itsLen]
  rw [h]⟩
theorem goes_t {l : Nat} {xs : List A} (h : S[l]? = some (.tup xs)) : Goes (.st l) S xs := ⟨fun G p j => by
  simp only [itemAt]
  rw [at_up p h], by
  simp only [itsLen]
  rw [h]⟩
theorem goes_r {lo : Int} {n : Nat} : Goes (.rg lo n) S ((List.range n).map fun i => .int (lo + (i : Nat))) := ⟨fun G p j => by
  simp only [itemAt]
  rw [List.getElem?_map]
  split
  · rename_i h
    rw [List.getElem?_range h]
    rfl
  · rename_i h
    rw [List.getElem?_eq_none (by simp; omega)]
    rfl, by simp [itsLen]⟩
theorem r_seqL {l : Nat} {xs : List A} (h : fa sa S = some (.ok (.ref l) S1)) (hl : S1[l]? = some (.lst xs)) : seqI fa sa S = some (.ok (.sl l) S1) := by
  unfold seqI
  rw [h]
  simp only
  rw [hl]
theorem r_seqT {l : Nat} {xs : List A} (h : fa sa S = some (.ok (.ref l) S1)) (hl : S1[l]? = some (.tup xs)) : seqI fa sa S = some (.ok (.st l) S1) := by
  unfold seqI
  rw [h]
  simp only
  rw [hl]
theorem r_rg1 {j : Int} (h : fl sa S = some (.ok [.int j] S1)) (hb : inBd j = true) : rg1I fl sa S = some (.ok (.rg 0 j.toNat) S1) := by
  unfold rg1I
  rw [h]
  simp only
  rw [if_pos hb]
theorem r_rg2 {i j : Int} (h : fl sa S = some (.ok [.int i, .int j] S1)) (hb : inBd i = true) (hb2 : inBd j = true) : rg2I fl sa S = some (.ok (.rg i (j - i).toNat) S1) := by
  unfold rg2I
  rw [h]
  simp only
  rw [if_pos (by rw [hb, hb2]; rfl)]
theorem e_lc {fi : FI} {i : Its} {T : TX} {vs : List Nat} {ft fe : F} {xs : List A} {sx : A → Sa} {p : A → Bool} {g : A → A} (hi : fi sa S = some (.ok i S1)) (hg : Goes i S1 xs)
    (hT : ∀ x ∈ xs, ∀ G, S1 <+: G → T x (wipeA sa vs) G = some (sx x)) (ht : ∀ x ∈ xs, ∀ G, S1 <+: G → ft (sx x) G = some (.ok (.bl (p x)) G)) (he : ∀ x ∈ xs, p x = true → ∀ G, S1 <+: G → fe (sx x) G = some (.ok (g x) G)) (hl : xs.length ≤ 1000000) :
    lcF fi T vs ft fe sa S = some (.ok (.ref S1.length) (S1 ++ [.lst ((xs.filter p).map g)])) := by
  unfold lcF
  rw [hi]
  simp only
  rw [hg.2, e_lcGo hg.1 hT ht he (xs.length + 1) 0 [] (by omega) (by omega) (by simp; omega)]
  simp
/-- without a test -/
theorem e_lc0 {fi : FI} {i : Its} {T : TX} {vs : List Nat} {fe : F} {xs : List A} {sx : A → Sa} {g : A → A} (hi : fi sa S = some (.ok i S1)) (hg : Goes i S1 xs)
    (hT : ∀ x ∈ xs, ∀ G, S1 <+: G → T x (wipeA sa vs) G = some (sx x)) (he : ∀ x ∈ xs, ∀ G, S1 <+: G → fe (sx x) G = some (.ok (g x) G)) (hl : xs.length ≤ 1000000) :
    lcF fi T vs (conF (.bl true)) fe sa S = some (.ok (.ref S1.length) (S1 ++ [.lst (xs.map g)])) := by
  have := e_lc (ft := conF (.bl true)) (p := fun _ => true) hi hg hT (fun _ _ _ _ => rfl) (fun x hx _ => he x hx) hl
  rw [List.filter_eq_self.mpr fun _ _ => rfl] at this
  exact this
/-- all([.. for ..]) -/
theorem e_allLc {fi : FI} {i : Its} {T : TX} {vs : List Nat} {fe : F} {xs : List A} {sx : A → Sa} {q : A → Bool} (hi : fi sa S = some (.ok i S1)) (hg : Goes i S1 xs)
    (hT : ∀ x ∈ xs, ∀ G, S1 <+: G → T x (wipeA sa vs) G = some (sx x)) (he : ∀ x ∈ xs, ∀ G, S1 <+: G → fe (sx x) G = some (.ok (.bl (q x)) G)) (hl : xs.length ≤ 1000000) :
    clF (allG fun bs => bs.all id) (consF (lcF fi T vs (conF (.bl true)) fe) nilF) sa S = some (.ok (.bl (xs.all q)) (S1 ++ [.lst (xs.map fun x => .bl (q x))])) := by
  have h1 := e_lc0 (g := fun x => .bl (q x)) hi hg hT he hl
  have h2 := r_cl (g := allG fun bs => bs.all id) (r_cons h1 r_nil) (g_all at_new (toBs_map q xs))
  rw [h2]
  simp [List.all_map]
/-! two fors -/
theorem e_lc2Go {i : Its} {T T1 : TX} {vs vs1 : List Nat} {fi1 : FI} {fe : F} {xs : List A} {ys : A → List A} {i1 : A → Its} {sx : A → Sa} {sy : A → A → Sa} {g : A → A → A} (items : ∀ G, S1 <+: G → ∀ j, itemAt i j G = some xs[j]?)
    (hT : ∀ x ∈ xs, ∀ G, S1 <+: G → T x (wipeA sa vs) G = some (sx x)) (hi1 : ∀ x ∈ xs, ∀ G, S1 <+: G → fi1 (sx x) G = some (.ok (i1 x) G)) (hg1 : ∀ x ∈ xs, ∀ G, S1 <+: G → Goes (i1 x) G (ys x))
    (hT1 : ∀ x ∈ xs, ∀ y ∈ ys x, ∀ G, S1 <+: G → T1 y (wipeA (sx x) vs1) G = some (sy x y)) (he : ∀ x ∈ xs, ∀ y ∈ ys x, ∀ G, S1 <+: G → fe (sy x y) G = some (.ok (g x y) G)) :
    ∀ (n j : Nat) (acc : List A), n + j = xs.length + 1 → j ≤ xs.length → acc.length + ((xs.drop j).map fun x => (ys x).length).sum ≤ 1000000 →
      lc2Go i T vs (conF (.bl true)) fi1 T1 vs1 (conF (.bl true)) fe S1.length sa n j (S1 ++ [.lst acc]) = some (S1 ++ [.lst (acc ++ (xs.drop j).flatMap fun x => (ys x).map (g x))])
  | 0, j, acc, e, e0, ha => by omega
  | n + 1, j, acc, e, e0, ha => by
    have pre : S1 <+: S1 ++ [O.lst acc] := pfa S1 _
    simp only [lc2Go]
    rw [items _ pre j]
    by_cases hj : j < xs.length
    · have hx : xs[j]? = some xs[j] := List.getElem?_eq_getElem hj
      have hm : xs[j] ∈ xs := List.getElem_mem hj
      have hd : xs.drop j = xs[j] :: xs.drop (j + 1) := List.drop_eq_getElem_cons hj
      rw [hd, List.map_cons, List.sum_cons] at ha
      rw [hx]
      simp only
      rw [hT _ hm _ pre]
      simp only [conF]
      rw [hi1 _ hm _ pre]
      simp only
      rw [(hg1 _ hm _ pre).2]
      have h2 := e_lcGo (S1 := S1) (sa := sx xs[j]) (i := i1 xs[j]) (T := T1) (vs := vs1) (ft := conF (.bl true)) (fe := fe) (xs := ys xs[j]) (sx := sy xs[j]) (p := fun _ => true) (g := g xs[j]) (fun G p => (hg1 _ hm S1 (pf0 S1)).1 G p) (fun y hy G p => hT1 _ hm y hy G p) (fun _ _ _ _ => rfl) (fun y hy _ G p => he _ hm y hy G p) ((ys xs[j]).length + 1) 0 acc (by omega) (by omega) (by omega)
      rw [List.drop_zero, List.filter_eq_self.mpr fun _ _ => rfl] at h2
      rw [h2]
      simp only
      have h4 := e_lc2Go items hT hi1 hg1 hT1 he n (j + 1) (acc ++ (ys xs[j]).map (g xs[j])) (by omega) (by omega) (by rw [List.length_append, List.length_map]; omega)
      rw [h4, hd, List.flatMap_cons, List.append_assoc]
    · have hx : xs[j]? = none := List.getElem?_eq_none (by omega)
      rw [hx]
      simp only
      rw [List.drop_eq_nil_of_le (by omega)]
      simp
theorem e_lc2 {fi fi1 : FI} {i : Its} {T T1 : TX} {vs vs1 : List Nat} {fe : F} {xs : List A} {ys : A → List A} {i1 : A → Its} {sx : A → Sa} {sy : A → A → Sa} {g : A → A → A} (hi : fi sa S = some (.ok i S1)) (hg : Goes i S1 xs)
    (hT : ∀ x ∈ xs, ∀ G, S1 <+: G → T x (wipeA sa vs) G = some (sx x)) (hi1 : ∀ x ∈ xs, ∀ G, S1 <+: G → fi1 (sx x) G = some (.ok (i1 x) G)) (hg1 : ∀ x ∈ xs, ∀ G, S1 <+: G → Goes (i1 x) G (ys x))
    (hT1 : ∀ x ∈ xs, ∀ y ∈ ys x, ∀ G, S1 <+: G → T1 y (wipeA (sx x) vs1) G = some (sy x y)) (he : ∀ x ∈ xs, ∀ y ∈ ys x, ∀ G, S1 <+: G → fe (sy x y) G = some (.ok (g x y) G)) (hl : (xs.map fun x => (ys x).length).sum ≤ 1000000) :
    lc2F fi T vs (conF (.bl true)) fi1 T1 vs1 (conF (.bl true)) fe sa S = some (.ok (.ref S1.length) (S1 ++ [.lst (xs.flatMap fun x => (ys x).map (g x))])) := by
  unfold lc2F
  rw [hi]
  simp only
  rw [hg.2, e_lc2Go hg.1 hT hi1 hg1 hT1 he (xs.length + 1) 0 [] (by omega) (by omega) (by simpa using hl)]
  simp
theorem e_allLc2 {fi fi1 : FI} {i : Its} {T T1 : TX} {vs vs1 : List Nat} {fe : F} {xs : List A} {ys : A → List A} {i1 : A → Its} {sx : A → Sa} {sy : A → A → Sa} {q : A → A → Bool} (hi : fi sa S = some (.ok i S1)) (hg : Goes i S1 xs)
    (hT : ∀ x ∈ xs, ∀ G, S1 <+: G → T x (wipeA sa vs) G = some (sx x)) (hi1 : ∀ x ∈ xs, ∀ G, S1 <+: G → fi1 (sx x) G = some (.ok (i1 x) G)) (hg1 : ∀ x ∈ xs, ∀ G, S1 <+: G → Goes (i1 x) G (ys x))
    (hT1 : ∀ x ∈ xs, ∀ y ∈ ys x, ∀ G, S1 <+: G → T1 y (wipeA (sx x) vs1) G = some (sy x y)) (he : ∀ x ∈ xs, ∀ y ∈ ys x, ∀ G, S1 <+: G → fe (sy x y) G = some (.ok (.bl (q x y)) G)) (hl : (xs.map fun x => (ys x).length).sum ≤ 1000000) :
    ∃ o, clF (allG fun bs => bs.all id) (consF (lc2F fi T vs (conF (.bl true)) fi1 T1 vs1 (conF (.bl true)) fe) nilF) sa S = some (.ok (.bl (xs.all fun x => (ys x).all (q x))) (S1 ++ [o])) := by
  have h1 := e_lc2 (g := fun x y => .bl (q x y)) hi hg hT hi1 hg1 hT1 he hl
  have hb : toBs (xs.flatMap fun x => (ys x).map fun y => A.bl (q x y)) = some (xs.flatMap fun x => (ys x).map (q x)) := by
    clear h1 hl he hT1 hg1 hi1 hT hg hi
    induction xs with
    | nil => rfl
    | cons x xs ih =>
      have app : ∀ (us : List A) (bs : List Bool) (ys : List A), toBs us = some bs → toBs ((ys.map fun y => A.bl (q x y)) ++ us) = some (ys.map (q x) ++ bs) := fun us bs ys h => by
        induction ys with
        | nil => exact h
        | cons y ys ih2 =>
          show (match toBs ((ys.map fun y => A.bl (q x y)) ++ us) with
            | some bs => some (q x y :: bs)
            | none => none) = _
          rw [ih2]
          rfl
      rw [List.flatMap_cons, List.flatMap_cons]
      exact app _ _ _ ih
  refine ⟨.lst (xs.flatMap fun x => (ys x).map fun y => .bl (q x y)), ?_⟩
  have h2 := r_cl (g := allG fun bs => bs.all id) (r_cons h1 r_nil) (g_all at_new hb)
  rw [h2]
  have h3 : (xs.flatMap fun x => (ys x).map (q x)).all id = xs.all fun x => (ys x).all (q x) := by
    rw [List.all_flatMap]
    congr 1
    funext x
    rw [List.all_map]
    rfl
  rw [h3]
end
end Vai
set_option maxRecDepth 100000
set_option maxHeartbeats 2000000
namespace Vai
open PySem L2
/-- S' has all of S but what stands at d -/
def But (d : Nat) (S S' : List O) : Prop := S.length ≤ S'.length ∧ ∀ (l : Nat) (o : O), l ≠ d → S[l]? = some o → S'[l]? = some o
theorem But.refl {d : Nat} {S : List O} : But d S S := ⟨Nat.le_refl _, fun _ _ _ h => h⟩
theorem But.trans {d : Nat} {S T U : List O} (a : But d S T) (b : But d T U) : But d S U := ⟨Nat.le_trans a.1 b.1, fun l o n h => b.2 l o n (a.2 l o n h)⟩
theorem But.of {d : Nat} {S S' : List O} (p : S <+: S') : But d S S' := ⟨p.length_le, fun l o _ h => by
  obtain ⟨G, rfl⟩ := p
  rw [List.getElem?_append_left (List.getElem?_eq_some_iff.mp h).1]
  exact h⟩
theorem But.put {d : Nat} {S : List O} {o : O} : But d S (S.set d o) := ⟨by rw [List.length_set]; exact Nat.le_refl _, fun l u n h => by rw [List.getElem?_set_ne (Ne.symm n)]; exact h⟩
section
variable {sa : Sa} {S S1 : List O}
/-- a list comprehension whose elements make objects: each is new, and stands as o says -/
theorem e_lcAGo {i : Its} {T : TX} {vs : List Nat} {fe : F} {xs : List A} {sx : A → Sa} {o : A → O} (items : ∀ G, S1 <+: G → ∀ j, itemAt i j G = some xs[j]?)
    (hT : ∀ x ∈ xs, ∀ G, S1 <+: G → T x (wipeA sa vs) G = some (sx x)) (he : ∀ x ∈ xs, ∀ G, S1 <+: G → S1.length < G.length → ∃ (r : Nat) (G' : List O), fe (sx x) G = some (.ok (.ref r) G') ∧ G <+: G' ∧ G.length ≤ r ∧ G'[r]? = some (o x)) :
    ∀ (n j : Nat) (rs : List Nat) (G : List O), n + j = xs.length + 1 → j ≤ xs.length → rs.length = j → xs.length ≤ 1000000 → S1 <+: G → G[S1.length]? = some (.lst (rs.map A.ref)) → (∀ (k : Nat) (x : A) (r : Nat), xs[k]? = some x → rs[k]? = some r → r ≠ S1.length ∧ r < G.length ∧ G[r]? = some (o x)) → rs.Nodup →
      ∃ (rs2 : List Nat) (G2 : List O), lcGo i T vs (conF (.bl true)) fe S1.length sa n j G = some G2 ∧ S1 <+: G2 ∧ G2[S1.length]? = some (.lst (rs2.map A.ref)) ∧ rs2.length = xs.length ∧ (∀ (k : Nat) (x : A) (r : Nat), xs[k]? = some x → rs2[k]? = some r → r ≠ S1.length ∧ G2[r]? = some (o x)) ∧ rs2.Nodup ∧ ∀ r ∈ rs2, r ∈ rs ∨ G.length ≤ r
  | 0, j, rs, G, e, e0, hr, hs, pre, hd, ho, nd => by omega
  | n + 1, j, rs, G, e, e0, hr, hs, pre, hd, ho, nd => by
    simp only [lcGo]
    rw [items _ pre j]
    by_cases hj : j < xs.length
    · have hx : xs[j]? = some xs[j] := List.getElem?_eq_getElem hj
      have hm : xs[j] ∈ xs := List.getElem_mem hj
      have hlt : S1.length < G.length := (List.getElem?_eq_some_iff.mp hd).1
      obtain ⟨r, G', h1, h2, h3, h4⟩ := he _ hm G pre hlt
      rw [hx]
      simp only
      rw [hT _ hm _ pre]
      simp only [conF]
      rw [h1]
      simp only
      have hd' : G'[S1.length]? = some (.lst (rs.map A.ref)) := at_up h2 hd
      rw [hd']
      simp only
      rw [if_pos (by rw [List.length_map, hr]; omega)]
      have pre' : S1 <+: G'.set S1.length (.lst (rs.map A.ref ++ [.ref r])) := pre_set (pft pre h2) (Nat.le_refl _)
      have hlt' : S1.length < G'.length := (List.getElem?_eq_some_iff.mp hd').1
      have new : ∀ k ∈ rs, k < G.length := fun k hk => by
        obtain ⟨m, hm⟩ := List.getElem?_of_mem hk
        have hml : m < xs.length := by
          have := (List.getElem?_eq_some_iff.mp hm).1
          omega
        exact (ho m _ k (List.getElem?_eq_getElem hml) hm).2.1
      have step := e_lcAGo items hT he n (j + 1) (rs ++ [r]) (G'.set S1.length (.lst (rs.map A.ref ++ [.ref r]))) (by omega) (by omega) (by rw [List.length_append, hr]; rfl) hs pre' (by rw [List.getElem?_set_self hlt', List.map_append]; rfl) (fun k x q e1 e2 => by
        rcases get_snoc e2 with e5 | ⟨ek, er⟩
        · obtain ⟨a1, a2, a3⟩ := ho k x q e1 e5
          refine ⟨a1, ?_, ?_⟩
          · rw [List.length_set]
            exact Nat.lt_of_lt_of_le a2 h2.length_le
          · rw [List.getElem?_set_ne (Ne.symm a1)]
            exact at_up h2 a3
        · subst er
          rw [ek, hr, hx] at e1
          cases e1
          have nq : q ≠ S1.length := by omega
          refine ⟨nq, ?_, ?_⟩
          · rw [List.length_set]
            exact (List.getElem?_eq_some_iff.mp h4).1
          · rw [List.getElem?_set_ne (Ne.symm nq)]
            exact h4) (List.nodup_append.mpr ⟨nd, by simp, fun a ha b hb => by
              rw [List.mem_singleton.mp hb]
              have := new a ha
              omega⟩)
      obtain ⟨rs2, G2, k1, k2, k3, k4, k5, k6, k7⟩ := step
      refine ⟨rs2, G2, k1, k2, k3, k4, k5, k6, fun q hq => ?_⟩
      rcases k7 q hq with z | z
      · rcases List.mem_append.mp z with z | z
        · exact .inl z
        · rw [List.mem_singleton.mp z]
          exact .inr h3
      · rw [List.length_set] at z
        exact .inr (Nat.le_trans h2.length_le z)
    · have hx : xs[j]? = none := List.getElem?_eq_none (by omega)
      rw [hx]
      simp only
      exact ⟨rs, G, rfl, pre, hd, by omega, fun k x r e1 e2 => ⟨(ho k x r e1 e2).1, (ho k x r e1 e2).2.2⟩, nd, fun r hr => .inl hr⟩
theorem e_lcA {fi : FI} {i : Its} {T : TX} {vs : List Nat} {fe : F} {xs : List A} {sx : A → Sa} {o : A → O} (hi : fi sa S = some (.ok i S1)) (hg : Goes i S1 xs)
    (hT : ∀ x ∈ xs, ∀ G, S1 <+: G → T x (wipeA sa vs) G = some (sx x)) (he : ∀ x ∈ xs, ∀ G, S1 <+: G → S1.length < G.length → ∃ (r : Nat) (G' : List O), fe (sx x) G = some (.ok (.ref r) G') ∧ G <+: G' ∧ G.length ≤ r ∧ G'[r]? = some (o x)) (hl : xs.length ≤ 1000000) :
    ∃ (rs : List Nat) (G : List O), lcF fi T vs (conF (.bl true)) fe sa S = some (.ok (.ref S1.length) G) ∧ S1 <+: G ∧ G[S1.length]? = some (.lst (rs.map A.ref)) ∧ rs.length = xs.length ∧ (∀ (k : Nat) (x : A) (r : Nat), xs[k]? = some x → rs[k]? = some r → r ≠ S1.length ∧ G[r]? = some (o x)) ∧ rs.Nodup ∧ ∀ r ∈ rs, S1.length < r := by
  obtain ⟨rs, G, h1, h2, h3, h4, h5, h6, h7⟩ := e_lcAGo hg.1 hT he (xs.length + 1) 0 [] (S1 ++ [.lst []]) (by omega) (by omega) rfl hl (pfa S1 _) at_new (fun k x r _ e => by simp at e) List.nodup_nil
  refine ⟨rs, G, ?_, h2, h3, h4, h5, h6, fun r hr => ?_⟩
  · unfold lcF
    rw [hi]
    simp only
    rw [hg.2, h1]
  · rcases h7 r hr with z | z
    · cases z
    · rw [List.length_append] at z
      simp at z
      omega
end
section
variable {i : Its} {T : TF} {body : FS} {m j : Nat} {sa sa1 sa2 : Sa} {S S1 S2 : List O} {a : A}
theorem forGo_step (it : itemAt i j S = some (some a)) (hT : T a sa S = some (sa1, S1)) (hb : body sa1 S1 = some (.nx sa2 S2)) : forGo i T body (m + 1) j sa S = forGo i T body m (j + 1) sa2 S2 := by
  rw [forGo]
  simp only [it, hT, hb]
theorem forGo_stop (it : itemAt i j S = some none) : forGo i T body (m + 1) j sa S = some (.nx sa S) := by
  rw [forGo]
  simp only [it]
theorem forF_ok {fi : FI} {n : Nat} {y : Option RF} (hi : fi sa S = some (.ok i S1)) (hn : itsLen i S1 = n) (h : forGo i T body (n + 1) 0 sa S1 = y) : forF fi T body sa S = y := by
  unfold forF
  rw [hi]
  simp only [hn]
  exact h
end
end Vai
set_option maxRecDepth 100000
set_option maxHeartbeats 2000000
namespace Vai
open PySem L2
/-! ## trees: what stands in the store, without places -/
inductive T where
  | non | bl (b : Bool) | int (i : Int) | str (z : Str) | ty (n : String) | row
  | tup (z : Bool) (xs : List T) | lst (xs : List T) | dic (ks : List Key) (ts : List T) | clo (id : Nat) (d : Bool)
mutual
def T.noL : T → Bool
  | .lst _ => false
  | .row => false
  | .dic _ _ => false
  | .tup _ xs => noLs xs
  | _ => true
def noLs : List T → Bool
  | [] => true
  | x :: xs => x.noL && noLs xs
end
def O.isLst : O → Bool
  | .lst _ => true
  | .set _ => true
  | .dic _ => true
  | .dfz _ => true
  | .dt _ => true
  | .dtf _ => true
  | _ => false
mutual
/-- the value a, read in S, is the tree t; C tells which lists may be read -/
def Rt (C : Nat → Nat → Prop) (S : List O) : Nat → A → T → Prop
  | _, a, .non => a = .non
  | _, a, .bl b => a = .bl b
  | _, a, .int i => a = .int i
  | _, a, .str z => a = .str z
  | _, a, .ty n => a = .ty n
  | _, a, .row => a = .ref 1
  | k, a, .dic ks ts => ∃ l as, a = .ref l ∧ S[l]? = some (.dic (ks.zip as)) ∧ ks.length = as.length ∧ C k l ∧ RtL C S (k - 1) as ts
  | _, a, .clo id false => ∃ l c, a = .ref l ∧ S[l]? = some (.clo id c none) ∧ S[c]? = some .code
  | _, a, .clo id true => ∃ l c d i, a = .ref l ∧ S[l]? = some (.clo id c (some d)) ∧ S[c]? = some .code ∧ S[d]? = some (.tup [.int i])
  | k, a, .tup z ts => ∃ l as, a = .ref l ∧ S[l]? = some (.tup as) ∧ (z = true → O.fz l ∈ S) ∧ RtL C S (k - 1) as ts
  | k, a, .lst ts => ∃ l as, a = .ref l ∧ S[l]? = some (.lst as) ∧ C k l ∧ RtL C S (k - 1) as ts
def RtL (C : Nat → Nat → Prop) (S : List O) : Nat → List A → List T → Prop
  | _, [], [] => True
  | k, a :: as, t :: ts => Rt C S k a t ∧ RtL C S k as ts
  | _, _, _ => False
end
/-- lists at Y may be changed, all else stays -/
def Mv (Y : Nat → Prop) (S S' : List O) : Prop := S.length ≤ S'.length ∧ ∀ (l : Nat) (o : O), S[l]? = some o → (Y l → o.isLst = false) → S'[l]? = some o
theorem Mv.refl {Y : Nat → Prop} {S : List O} : Mv Y S S := ⟨Nat.le_refl _, fun _ _ h _ => h⟩
theorem Mv.trans {Y : Nat → Prop} {S T U : List O} (a : Mv Y S T) (b : Mv Y T U) : Mv Y S U := ⟨Nat.le_trans a.1 b.1, fun l o h n => b.2 l o (a.2 l o h n) n⟩
theorem Mv.of {Y : Nat → Prop} {S S' : List O} (p : S <+: S') : Mv Y S S' := ⟨p.length_le, fun l o h _ => by
  obtain ⟨G, rfl⟩ := p
  rw [List.getElem?_append_left (List.getElem?_eq_some_iff.mp h).1]
  exact h⟩
theorem Mv.weak {Y Z : Nat → Prop} {S S' : List O} (h : Mv Y S S') (k : ∀ l, Y l → Z l) : Mv Z S S' := ⟨h.1, fun l o e n => h.2 l o e fun y => n (k l y)⟩
theorem Mv.fz {Y : Nat → Prop} {S S' : List O} (h : Mv Y S S') {l : Nat} (k : O.fz l ∈ S) : O.fz l ∈ S' := by
  obtain ⟨i, hi⟩ := List.getElem?_of_mem k
  exact List.mem_of_getElem? (h.2 i _ hi fun _ => rfl)
section
variable {C C' : Nat → Nat → Prop} {S S' : List O}
mutual
theorem Rt.mv {Y : Nat → Prop} (h : Mv Y S S') : ∀ {t : T} {k : Nat} {a : A}, (∀ i l, Y l → ¬ C (k - i) l) → Rt C S k a t → Rt C S' k a t
  | .non, _, _, _, x => by simp only [Rt] at x ⊢; exact x
  | .bl _, _, _, _, x => by simp only [Rt] at x ⊢; exact x
  | .int _, _, _, _, x => by simp only [Rt] at x ⊢; exact x
  | .str _, _, _, _, x => by simp only [Rt] at x ⊢; exact x
  | .ty _, _, _, _, x => by simp only [Rt] at x ⊢; exact x
  | .row, _, _, _, x => by simp only [Rt] at x ⊢; exact x
  | .dic ks ts, k, a, hy, x => by
    simp only [Rt] at x ⊢
    obtain ⟨l, as, e, g, n, c, r⟩ := x
    exact ⟨l, as, e, h.2 l _ g fun y => absurd c (hy 0 l y), n, c, RtL.mv h (fun i l y => by rw [Nat.sub_sub]; exact hy _ l y) r⟩
  | .clo _ false, _, _, _, x => by
    simp only [Rt] at x ⊢
    obtain ⟨l, c, e, g, f⟩ := x
    exact ⟨l, c, e, h.2 l _ g fun _ => rfl, h.2 c _ f fun _ => rfl⟩
  | .clo _ true, _, _, _, x => by
    simp only [Rt] at x ⊢
    obtain ⟨l, c, d, i, e, g, f, q⟩ := x
    exact ⟨l, c, d, i, e, h.2 l _ g fun _ => rfl, h.2 c _ f fun _ => rfl, h.2 d _ q fun _ => rfl⟩
  | .tup z ts, k, a, hy, x => by
    simp only [Rt] at x ⊢
    obtain ⟨l, as, e, g, f, r⟩ := x
    exact ⟨l, as, e, h.2 l _ g fun _ => rfl, fun q => h.fz (f q), RtL.mv h (fun i l y => by rw [Nat.sub_sub]; exact hy _ l y) r⟩
  | .lst ts, k, a, hy, x => by
    simp only [Rt] at x ⊢
    obtain ⟨l, as, e, g, c, r⟩ := x
    exact ⟨l, as, e, h.2 l _ g fun y => absurd c (hy 0 l y), c, RtL.mv h (fun i l y => by rw [Nat.sub_sub]; exact hy _ l y) r⟩
theorem RtL.mv {Y : Nat → Prop} (h : Mv Y S S') : ∀ {ts : List T} {k : Nat} {as : List A}, (∀ i l, Y l → ¬ C (k - i) l) → RtL C S k as ts → RtL C S' k as ts
  | [], _, [], _, _ => by simp only [RtL]
  | [], _, _ :: _, _, x => by simp only [RtL] at x
  | _ :: _, _, [], _, x => by simp only [RtL] at x
  | t :: ts, k, a :: as, hy, x => by
    simp only [RtL] at x ⊢
    exact ⟨Rt.mv h hy x.1, RtL.mv h hy x.2⟩
end
mutual
theorem Rt.gen : ∀ {t : T} {k k' : Nat} {a : A}, (∀ i l, l < S.length → C (k - i) l → C' (k' - i) l) → Rt C S k a t → Rt C' S k' a t
  | .non, _, _, _, _, x => by simp only [Rt] at x ⊢; exact x
  | .bl _, _, _, _, _, x => by simp only [Rt] at x ⊢; exact x
  | .int _, _, _, _, _, x => by simp only [Rt] at x ⊢; exact x
  | .str _, _, _, _, _, x => by simp only [Rt] at x ⊢; exact x
  | .ty _, _, _, _, _, x => by simp only [Rt] at x ⊢; exact x
  | .row, _, _, _, _, x => by simp only [Rt] at x ⊢; exact x
  | .dic ks ts, k, k', a, hy, x => by
    simp only [Rt] at x ⊢
    obtain ⟨l, as, e, g, n, c, r⟩ := x
    exact ⟨l, as, e, g, n, hy 0 l (List.getElem?_eq_some_iff.mp g).1 c, RtL.gen (fun i l y => by rw [Nat.sub_sub, Nat.sub_sub]; exact hy _ l y) r⟩
  | .clo _ false, _, _, _, _, x => by simp only [Rt] at x ⊢; exact x
  | .clo _ true, _, _, _, _, x => by simp only [Rt] at x ⊢; exact x
  | .tup z ts, k, k', a, hy, x => by
    simp only [Rt] at x ⊢
    obtain ⟨l, as, e, g, f, r⟩ := x
    exact ⟨l, as, e, g, f, RtL.gen (fun i l y => by rw [Nat.sub_sub, Nat.sub_sub]; exact hy _ l y) r⟩
  | .lst ts, k, k', a, hy, x => by
    simp only [Rt] at x ⊢
    obtain ⟨l, as, e, g, c, r⟩ := x
    exact ⟨l, as, e, g, hy 0 l (List.getElem?_eq_some_iff.mp g).1 c, RtL.gen (fun i l y => by rw [Nat.sub_sub, Nat.sub_sub]; exact hy _ l y) r⟩
theorem RtL.gen : ∀ {ts : List T} {k k' : Nat} {as : List A}, (∀ i l, l < S.length → C (k - i) l → C' (k' - i) l) → RtL C S k as ts → RtL C' S k' as ts
  | [], _, _, [], _, _ => by simp only [RtL]
  | [], _, _, _ :: _, _, x => by simp only [RtL] at x
  | _ :: _, _, _, [], _, x => by simp only [RtL] at x
  | t :: ts, k, k', a :: as, hy, x => by
    simp only [RtL] at x ⊢
    exact ⟨Rt.gen hy x.1, RtL.gen hy x.2⟩
end
mutual
theorem Rt.free : ∀ {t : T} {k k' : Nat} {a : A}, t.noL = true → Rt C S k a t → Rt C' S k' a t
  | .non, _, _, _, _, x => by simp only [Rt] at x ⊢; exact x
  | .bl _, _, _, _, _, x => by simp only [Rt] at x ⊢; exact x
  | .int _, _, _, _, _, x => by simp only [Rt] at x ⊢; exact x
  | .str _, _, _, _, _, x => by simp only [Rt] at x ⊢; exact x
  | .ty _, _, _, _, _, x => by simp only [Rt] at x ⊢; exact x
  | .row, _, _, _, h, _ => by simp only [T.noL] at h; cases h
  | .dic _ _, _, _, _, h, _ => by simp only [T.noL] at h; cases h
  | .clo _ false, _, _, _, _, x => by simp only [Rt] at x ⊢; exact x
  | .clo _ true, _, _, _, _, x => by simp only [Rt] at x ⊢; exact x
  | .tup z ts, k, k', a, h, x => by
    simp only [Rt] at x ⊢
    simp only [T.noL] at h
    obtain ⟨l, as, e, g, f, r⟩ := x
    exact ⟨l, as, e, g, f, RtL.free h r⟩
  | .lst ts, k, k', a, h, x => by simp only [T.noL] at h; cases h
theorem RtL.free : ∀ {ts : List T} {k k' : Nat} {as : List A}, noLs ts = true → RtL C S k as ts → RtL C' S k' as ts
  | [], _, _, [], _, _ => by simp only [RtL]
  | [], _, _, _ :: _, _, x => by simp only [RtL] at x
  | _ :: _, _, _, [], _, x => by simp only [RtL] at x
  | t :: ts, k, k', a :: as, h, x => by
    simp only [noLs, Bool.and_eq_true] at h
    simp only [RtL] at x ⊢
    exact ⟨Rt.free h.1 x.1, RtL.free h.2 x.2⟩
end
theorem RtL.len : ∀ {ts : List T} {k : Nat} {as : List A}, RtL C S k as ts → as.length = ts.length
  | [], _, [], _ => rfl
  | [], _, _ :: _, x => by simp only [RtL] at x
  | _ :: _, _, [], x => by simp only [RtL] at x
  | t :: ts, k, a :: as, x => by
    simp only [RtL] at x
    simp [RtL.len x.2]
theorem RtL.get : ∀ {ts : List T} {k : Nat} {as : List A} {i : Nat} {t : T}, RtL C S k as ts → ts[i]? = some t → ∃ a, as[i]? = some a ∧ Rt C S k a t
  | [], _, _, i, _, _, e => by simp at e
  | _ :: _, _, [], _, _, x, _ => by simp only [RtL] at x
  | t :: ts, k, a :: as, 0, _, x, e => by
    simp only [RtL] at x
    cases e
    exact ⟨a, rfl, x.1⟩
  | t :: ts, k, a :: as, i + 1, _, x, e => by
    simp only [RtL] at x
    exact RtL.get (i := i) x.2 e
theorem RtL.get' : ∀ {ts : List T} {k : Nat} {as : List A} {i : Nat} {a : A}, RtL C S k as ts → as[i]? = some a → ∃ t, ts[i]? = some t ∧ Rt C S k a t
  | _, _, [], i, _, _, e => by simp at e
  | [], _, _ :: _, _, _, x, _ => by simp only [RtL] at x
  | t :: ts, k, a :: as, 0, _, x, e => by
    simp only [RtL] at x
    cases e
    exact ⟨t, rfl, x.1⟩
  | t :: ts, k, a :: as, i + 1, _, x, e => by
    simp only [RtL] at x
    exact RtL.get' (i := i) x.2 e
theorem RtL.app : ∀ {ts us : List T} {k : Nat} {as bs : List A}, RtL C S k as ts → RtL C S k bs us → RtL C S k (as ++ bs) (ts ++ us)
  | [], _, _, [], _, _, y => y
  | [], _, _, _ :: _, _, x, _ => by simp only [RtL] at x
  | _ :: _, _, _, [], _, x, _ => by simp only [RtL] at x
  | t :: ts, _, k, a :: as, _, x, y => by
    simp only [RtL, List.cons_append] at x ⊢
    exact ⟨x.1, RtL.app x.2 y⟩
theorem RtL.set : ∀ {ts : List T} {k : Nat} {as : List A} {i : Nat} {a : A} {t : T}, RtL C S k as ts → Rt C S k a t → RtL C S k (as.set i a) (ts.set i t)
  | [], _, [], _, _, _, _, _ => by simp only [List.set_nil, RtL]
  | [], _, _ :: _, _, _, _, x, _ => by simp only [RtL] at x
  | _ :: _, _, [], _, _, _, x, _ => by simp only [RtL] at x
  | t :: ts, k, a :: as, 0, _, _, x, y => by
    simp only [RtL, List.set_cons_zero] at x ⊢
    exact ⟨y, x.2⟩
  | t :: ts, k, a :: as, i + 1, _, _, x, y => by
    simp only [RtL, List.set_cons_succ] at x ⊢
    exact ⟨x.1, RtL.set x.2 y⟩
theorem RtL.drop : ∀ {ts : List T} {k : Nat} {as : List A} {i : Nat}, RtL C S k as ts → RtL C S k (as.drop i) (ts.drop i)
  | _, _, _, 0, x => x
  | [], _, [], i + 1, _ => by simp only [List.drop_nil, RtL]
  | [], _, _ :: _, _ + 1, x => by simp only [RtL] at x
  | _ :: _, _, [], _ + 1, x => by simp only [RtL] at x
  | t :: ts, k, a :: as, i + 1, x => by
    simp only [RtL] at x
    exact RtL.drop (i := i) x.2
theorem RtL.take : ∀ {ts : List T} {k : Nat} {as : List A} {i : Nat}, RtL C S k as ts → RtL C S k (as.take i) (ts.take i)
  | _, _, _, 0, x => by simp only [List.take_zero, RtL]
  | [], _, [], i + 1, _ => by simp only [List.take_nil, RtL]
  | [], _, _ :: _, _ + 1, x => by simp only [RtL] at x
  | _ :: _, _, [], _ + 1, x => by simp only [RtL] at x
  | t :: ts, k, a :: as, i + 1, x => by
    simp only [RtL, List.take_succ_cons] at x ⊢
    exact ⟨x.1, RtL.take (i := i) x.2⟩
theorem RtL.rev : ∀ {ts : List T} {k : Nat} {as : List A}, RtL C S k as ts → RtL C S k as.reverse ts.reverse
  | [], _, [], _ => by simp only [List.reverse_nil, RtL]
  | [], _, _ :: _, x => by simp only [RtL] at x
  | _ :: _, _, [], x => by simp only [RtL] at x
  | t :: ts, k, a :: as, x => by
    simp only [RtL] at x
    rw [List.reverse_cons, List.reverse_cons]
    exact RtL.app (RtL.rev x.2) (by simp only [RtL]; exact ⟨x.1, trivial⟩)
theorem RtL.rep {ts : List T} {k : Nat} {as : List A} (x : RtL C S k as ts) : ∀ n : Nat, RtL C S k (repA n as) (repA n ts)
  | 0 => by simp only [repA, List.replicate_zero, List.flatten_nil, RtL]
  | n + 1 => by
    have := RtL.rep x n
    simp only [repA, List.replicate_succ, List.flatten_cons] at this ⊢
    exact x.app this
end
/-! the drawn row -/
structure Wr where
  ns : List Int
  a : Int
  b : Int
  c : Int
def ScrO (o : O) (ns : List Int) : Prop := o = .scr ns ∨ o = .lst (ns.map A.int)
structure RowR (S : List O) (w : Wr) : Prop where
  s0 : ∃ o, ScrO o w.ns ∧ S[0]? = some o
  s1 : S[1]? = some (.lst [.ref 0, .int w.a, .int w.b, .int w.c])
  pos : 0 ≤ w.a
theorem RowR.up {S S' : List O} {w : Wr} (h : RowR S w) (p : S <+: S') : RowR S' w := ⟨by obtain ⟨o, a, b⟩ := h.s0; exact ⟨o, a, at_up p b⟩, at_up p h.s1, h.pos⟩
/-! an object of one's own -/
abbrev noC : Nat → Nat → Prop := fun _ _ => False
/-- rows of a table: lists at rs -/
def RowsR (S : List O) : List Nat → List T → Prop
  | [], [] => True
  | r :: rs, .lst us :: ts => (∃ as, S[r]? = some (.lst as) ∧ RtL noC S 0 as us) ∧ RowsR S rs ts
  | _, _ => False
/-- kind 1: a list without lists; kind 2: a list of such lists -/
def OwnR (S : List O) (k : Nat) (fp : List Nat) (a : A) (t : T) : Prop :=
  match k, t with
  | 1, .lst ts => ∃ l as, fp = [l] ∧ a = .ref l ∧ S[l]? = some (.lst as) ∧ RtL noC S 0 as ts
  | 2, .lst ts => ∃ l rs, fp = l :: rs ∧ a = .ref l ∧ S[l]? = some (.lst (rs.map A.ref)) ∧ RowsR S rs ts
  | 3, .dic ks ts => ∃ l as, fp = [l] ∧ a = .ref l ∧ S[l]? = some (.dic (ks.zip as)) ∧ ks.length = as.length ∧ RtL noC S 0 as ts
  | _, _ => False
theorem RowsR.mv {Y : Nat → Prop} {S S' : List O} (h : Mv Y S S') : ∀ {rs : List Nat} {ts : List T}, (∀ r ∈ rs, ¬ Y r) → RowsR S rs ts → RowsR S' rs ts
  | [], [], _, _ => by simp only [RowsR]
  | [], _ :: _, _, x => by simp only [RowsR] at x
  | _ :: _, [], _, x => by simp only [RowsR] at x
  | r :: rs, .lst us :: ts, hr, x => by
    simp only [RowsR] at x ⊢
    obtain ⟨⟨as, g, e⟩, y⟩ := x
    exact ⟨⟨as, h.2 r _ g fun z => absurd z (hr r (List.mem_cons_self ..)), e.mv h fun _ _ _ z => z⟩, RowsR.mv h (fun q hq => hr q (List.mem_cons_of_mem _ hq)) y⟩
  | _ :: _, .non :: _, _, x => by simp only [RowsR] at x
  | _ :: _, .bl _ :: _, _, x => by simp only [RowsR] at x
  | _ :: _, .int _ :: _, _, x => by simp only [RowsR] at x
  | _ :: _, .str _ :: _, _, x => by simp only [RowsR] at x
  | _ :: _, .ty _ :: _, _, x => by simp only [RowsR] at x
  | _ :: _, .row :: _, _, x => by simp only [RowsR] at x
  | _ :: _, .dic _ _ :: _, _, x => by simp only [RowsR] at x
  | _ :: _, .clo _ _ :: _, _, x => by simp only [RowsR] at x
  | _ :: _, .tup _ _ :: _, _, x => by simp only [RowsR] at x
theorem OwnR.inv {S : List O} {k : Nat} {fp : List Nat} {a : A} {t : T} (h : OwnR S k fp a t) : (k = 1 ∧ ∃ ts l as, t = .lst ts ∧ fp = [l] ∧ a = .ref l ∧ S[l]? = some (.lst as) ∧ RtL noC S 0 as ts) ∨ (k = 2 ∧ ∃ ts l rs, t = .lst ts ∧ fp = l :: rs ∧ a = .ref l ∧ S[l]? = some (.lst (rs.map A.ref)) ∧ RowsR S rs ts) ∨ (k = 3 ∧ ∃ ks ts l as, t = .dic ks ts ∧ fp = [l] ∧ a = .ref l ∧ S[l]? = some (.dic (ks.zip as)) ∧ ks.length = as.length ∧ RtL noC S 0 as ts) := by
  unfold OwnR at h
  split at h
  · obtain ⟨l, as, h1, h2, h3, h4⟩ := h
    exact .inl ⟨rfl, _, l, as, rfl, h1, h2, h3, h4⟩
  · obtain ⟨l, as, h1, h2, h3, h4⟩ := h
    exact .inr (.inl ⟨rfl, _, l, as, rfl, h1, h2, h3, h4⟩)
  · obtain ⟨l, as, h1, h2, h3, h4⟩ := h
    exact .inr (.inr ⟨rfl, _, _, l, as, rfl, h1, h2, h3, h4⟩)
  · exact h.elim
theorem own1 {S : List O} {l : Nat} {as : List A} {ts : List T} (h : S[l]? = some (.lst as)) (k : RtL noC S 0 as ts) : OwnR S 1 [l] (.ref l) (.lst ts) := ⟨l, as, rfl, rfl, h, k⟩
theorem own2 {S : List O} {l : Nat} {rs : List Nat} {ts : List T} (h : S[l]? = some (.lst (rs.map A.ref))) (k : RowsR S rs ts) : OwnR S 2 (l :: rs) (.ref l) (.lst ts) := ⟨l, rs, rfl, rfl, h, k⟩
theorem own3 {S : List O} {l : Nat} {ks : List Key} {as : List A} {ts : List T} (h : S[l]? = some (.dic (ks.zip as))) (n : ks.length = as.length) (k : RtL noC S 0 as ts) : OwnR S 3 [l] (.ref l) (.dic ks ts) := ⟨l, as, rfl, rfl, h, n, k⟩
theorem OwnR.mv {Y : Nat → Prop} {S S' : List O} (h : Mv Y S S') {k : Nat} {fp : List Nat} {a : A} {t : T} (hf : ∀ r ∈ fp, ¬ Y r) (x : OwnR S k fp a t) : OwnR S' k fp a t := by
  rcases x.inv with ⟨rfl, ts, l, as, rfl, rfl, rfl, h3, h4⟩ | ⟨rfl, ts, l, rs, rfl, rfl, rfl, h3, h4⟩ | ⟨rfl, ks, ts, l, as, rfl, rfl, rfl, h3, h5, h4⟩
  · exact own1 (h.2 l _ h3 fun y => absurd y (hf l (List.mem_singleton.mpr rfl))) (h4.mv h fun _ _ _ z => z)
  · exact own2 (h.2 l _ h3 fun y => absurd y (hf l (List.mem_cons_self ..))) (h4.mv h fun r hr => hf r (List.mem_cons_of_mem _ hr))
  · exact own3 (h.2 l _ h3 fun y => absurd y (hf l (List.mem_singleton.mpr rfl))) h5 (h4.mv h fun _ _ _ z => z)
theorem RowsR.rt {C : Nat → Nat → Prop} {S : List O} {j : Nat} : ∀ {rs : List Nat} {ts : List T}, (∀ r ∈ rs, C j r) → RowsR S rs ts → RtL C S j (rs.map A.ref) ts
  | [], [], _, _ => by simp only [List.map_nil, RtL]
  | [], _ :: _, _, x => by simp only [RowsR] at x
  | _ :: _, [], _, x => by simp only [RowsR] at x
  | r :: rs, .lst us :: ts, hr, x => by
    simp only [RowsR, List.map_cons, RtL, Rt] at x ⊢
    obtain ⟨⟨as, g, e⟩, y⟩ := x
    exact ⟨⟨r, as, rfl, g, hr r (List.mem_cons_self ..), e.gen fun _ _ _ z => z.elim⟩, RowsR.rt (fun q hq => hr q (List.mem_cons_of_mem _ hq)) y⟩
  | _ :: _, .non :: _, _, x => by simp only [RowsR] at x
  | _ :: _, .bl _ :: _, _, x => by simp only [RowsR] at x
  | _ :: _, .int _ :: _, _, x => by simp only [RowsR] at x
  | _ :: _, .str _ :: _, _, x => by simp only [RowsR] at x
  | _ :: _, .ty _ :: _, _, x => by simp only [RowsR] at x
  | _ :: _, .row :: _, _, x => by simp only [RowsR] at x
  | _ :: _, .dic _ _ :: _, _, x => by simp only [RowsR] at x
  | _ :: _, .clo _ _ :: _, _, x => by simp only [RowsR] at x
  | _ :: _, .tup _ _ :: _, _, x => by simp only [RowsR] at x
theorem OwnR.rt {C : Nat → Nat → Prop} {S : List O} {k : Nat} {fp : List Nat} {a : A} {t : T} (hC : ∀ r ∈ fp, ∀ j, 0 < j → C j r) (x : OwnR S k fp a t) : Rt C S k a t := by
  rcases x.inv with ⟨rfl, ts, l, as, rfl, rfl, rfl, h3, h4⟩ | ⟨rfl, ts, l, rs, rfl, rfl, rfl, h3, h4⟩ | ⟨rfl, ks, ts, l, as, rfl, rfl, rfl, h3, h5, h4⟩
  · simp only [Rt]
    exact ⟨l, as, rfl, h3, hC l (List.mem_singleton.mpr rfl) 1 (by omega), h4.gen fun _ _ _ z => z.elim⟩
  · simp only [Rt]
    exact ⟨l, _, rfl, h3, hC l (List.mem_cons_self ..) 2 (by omega), h4.rt fun r hr => hC r (List.mem_cons_of_mem _ hr) 1 (by omega)⟩
  · simp only [Rt]
    exact ⟨l, as, rfl, h3, h5, hC l (List.mem_singleton.mpr rfl) 3 (by omega), h4.gen fun _ _ _ z => z.elim⟩
theorem RowsR.lt {S : List O} : ∀ {rs : List Nat} {ts : List T}, RowsR S rs ts → ∀ r ∈ rs, r < S.length
  | [], _, _, _, h => by cases h
  | _ :: _, [], x, _, _ => by simp only [RowsR] at x
  | r :: rs, .lst us :: ts, x, q, hq => by
    simp only [RowsR] at x
    obtain ⟨⟨as, g, e⟩, y⟩ := x
    rcases List.mem_cons.mp hq with rfl | hq
    · exact (List.getElem?_eq_some_iff.mp g).1
    · exact RowsR.lt y q hq
  | _ :: _, .non :: _, x, _, _ => by simp only [RowsR] at x
  | _ :: _, .bl _ :: _, x, _, _ => by simp only [RowsR] at x
  | _ :: _, .int _ :: _, x, _, _ => by simp only [RowsR] at x
  | _ :: _, .str _ :: _, x, _, _ => by simp only [RowsR] at x
  | _ :: _, .ty _ :: _, x, _, _ => by simp only [RowsR] at x
  | _ :: _, .row :: _, x, _, _ => by simp only [RowsR] at x
  | _ :: _, .dic _ _ :: _, x, _, _ => by simp only [RowsR] at x
  | _ :: _, .clo _ _ :: _, x, _, _ => by simp only [RowsR] at x
  | _ :: _, .tup _ _ :: _, x, _, _ => by simp only [RowsR] at x
theorem OwnR.lt {S : List O} {k : Nat} {fp : List Nat} {a : A} {t : T} (x : OwnR S k fp a t) : ∀ r ∈ fp, r < S.length := fun r hr => by
  rcases x.inv with ⟨rfl, ts, l, as, rfl, rfl, rfl, h3, h4⟩ | ⟨rfl, ts, l, rs, rfl, rfl, rfl, h3, h4⟩ | ⟨rfl, ks, ts, l, as, rfl, rfl, rfl, h3, h5, h4⟩
  · rw [List.mem_singleton.mp hr]
    exact (List.getElem?_eq_some_iff.mp h3).1
  · rcases List.mem_cons.mp hr with rfl | hr
    · exact (List.getElem?_eq_some_iff.mp h3).1
    · exact h4.lt r hr
  · rw [List.mem_singleton.mp hr]
    exact (List.getElem?_eq_some_iff.mp h3).1
/-! the slots -/
inductive Ev where
  | im (k : Nat) (t : T) | ow (k : Nat) (t : T)
abbrev En := List (Option Ev)
def SlotR (C : Nat → Nat → Prop) (S : List O) (fp : List Nat) (a : A) : Ev → Prop
  | .im k t => Rt C S k a t
  | .ow k t => OwnR S k fp a t
/-- C of what is not to be touched at all, and what is one's own -/
def Cx (X : Nat → Prop) (fps : List (List Nat)) : Nat → Nat → Prop := fun k l => ¬ X l ∧ (k = 0 → l ∉ fps.flatten)
structure EnvR (X : Nat → Prop) (fps : List (List Nat)) (S : List O) (sa : Sa) (ρ : En) : Prop where
  len : sa.length = ρ.length
  fl : fps.length = ρ.length
  zero : X 0
  one : X 1
  x0 : ∀ l, X l → l < S.length
  nd : fps.flatten.Nodup
  dj : ∀ l ∈ fps.flatten, ¬ X l
  lt : ∀ l ∈ fps.flatten, l < S.length
  sl : ∀ (i : Nat) (e : Ev), ρ[i]? = some (some e) → ∃ a fp, sa[i]? = some (some a) ∧ fps[i]? = some fp ∧ SlotR (Cx X fps) S fp a e
section
variable {X : Nat → Prop} {fps : List (List Nat)} {S S' : List O} {sa : Sa} {ρ : En}
theorem EnvR.new (h : EnvR X fps S sa ρ) {k l : Nat} (hl : S.length ≤ l) : Cx X fps k l := ⟨fun x => by
  have := h.x0 l x
  omega, fun _ x => by
  have := h.lt l x
  omega⟩
theorem but_mv {S S' : List O} {w : Wr} (h : But 1 S S') (r : RowR S w) {Y : Nat → Prop} (y : Y 1) : Mv Y S S' := ⟨h.1, fun l o e n => h.2 l o (fun z => by
  subst z
  rw [r.s1] at e
  cases e
  have := n y
  cases this) e⟩
theorem mem_fl {fps : List (List Nat)} {i : Nat} {fp : List Nat} (h : fps[i]? = some fp) {l : Nat} (k : l ∈ fp) : l ∈ fps.flatten := List.mem_flatten.mpr ⟨fp, List.mem_of_getElem? h, k⟩
/-- what may change leaves the slots as they are -/
theorem EnvR.mv {Y : Nat → Prop} (h : EnvR X fps S sa ρ) (m : Mv Y S S') (hy : ∀ l, Y l → X l) : EnvR X fps S' sa ρ := by
  refine ⟨h.len, h.fl, h.zero, h.one, fun l x => Nat.lt_of_lt_of_le (h.x0 l x) m.1, h.nd, h.dj, fun l hl => Nat.lt_of_lt_of_le (h.lt l hl) m.1, fun i e he => ?_⟩
  obtain ⟨a, fp, h1, h2, h3⟩ := h.sl i e he
  refine ⟨a, fp, h1, h2, ?_⟩
  cases e with
  | im k t => exact Rt.mv m (fun j l y c => c.1 (hy l y)) h3
  | ow k t => exact OwnR.mv m (fun l hl y => h.dj l (mem_fl h2 hl) (hy l y)) h3
theorem EnvR.ev {w : Wr} (h : EnvR X fps S sa ρ) (r : RowR S w) (b : But 1 S S') : EnvR X fps S' sa ρ := h.mv (Y := fun l => l = 1) (but_mv b r rfl) fun l y => y ▸ h.one
/-- more that is not to be touched -/
theorem EnvR.more {X' : Nat → Prop} (h : EnvR X fps S sa ρ) (hx : ∀ l, X' l → l < S.length → X l) (hx2 : ∀ l, X l → X' l) (S' : List O) (p : S <+: S') (hl : ∀ l, X' l → l < S'.length) : EnvR X' fps S' sa ρ := by
  refine ⟨h.len, h.fl, hx2 0 h.zero, hx2 1 h.one, hl, h.nd, fun l m x => h.dj l m (hx l x (h.lt l m)), fun l m => Nat.lt_of_lt_of_le (h.lt l m) p.length_le, fun i e he => ?_⟩
  obtain ⟨a, fp, h1, h2, h3⟩ := h.sl i e he
  refine ⟨a, fp, h1, h2, ?_⟩
  cases e with
  | im k t => exact Rt.mv (Mv.of (Y := fun _ => False) p) (fun j l y c => y) (Rt.gen (fun i l hl c => ⟨fun x => c.1 (hx l x hl), c.2⟩) h3)
  | ow k t => exact OwnR.mv (Mv.of (Y := fun _ => False) p) (fun _ _ y => y) h3
/-- a slot set anew -/
theorem EnvR.im (h : EnvR X fps S sa ρ) {i k : Nat} {a : A} {t : T} (r : Rt (Cx X fps) S k a t) : EnvR X fps S (sa.set i (some a)) (ρ.set i (some (.im k t))) := by
  refine ⟨by rw [List.length_set, List.length_set]; exact h.len, by rw [List.length_set]; exact h.fl, h.zero, h.one, h.x0, h.nd, h.dj, h.lt, fun j e he => ?_⟩
  by_cases hj : i = j
  · subst hj
    have hi : i < ρ.length := by
      have := (List.getElem?_eq_some_iff.mp he).1
      rw [List.length_set] at this
      exact this
    rw [List.getElem?_set_self hi] at he
    cases he
    exact ⟨a, fps[i]'(by rw [h.fl]; exact hi), List.getElem?_set_self (by rw [h.len]; exact hi), List.getElem?_eq_getElem _, r⟩
  · rw [List.getElem?_set_ne hj] at he
    obtain ⟨b, fp, h1, h2, h3⟩ := h.sl j e he
    exact ⟨b, fp, by rw [List.getElem?_set_ne hj]; exact h1, h2, h3⟩
theorem EnvR.wipe (h : EnvR X fps S sa ρ) {i : Nat} {u : Option A} : EnvR X fps S (sa.set i u) (ρ.set i none) := by
  refine ⟨by rw [List.length_set, List.length_set]; exact h.len, by rw [List.length_set]; exact h.fl, h.zero, h.one, h.x0, h.nd, h.dj, h.lt, fun j e he => ?_⟩
  by_cases hj : i = j
  · subst hj
    have hi : i < ρ.length := by
      have := (List.getElem?_eq_some_iff.mp he).1
      rw [List.length_set] at this
      exact this
    rw [List.getElem?_set_self hi] at he
    cases he
  · rw [List.getElem?_set_ne hj] at he
    obtain ⟨b, fp, h1, h2, h3⟩ := h.sl j e he
    exact ⟨b, fp, by rw [List.getElem?_set_ne hj]; exact h1, h2, h3⟩
theorem EnvR.var (h : EnvR X fps S sa ρ) {i : Nat} {e : Ev} (he : ρ[i]? = some (some e)) : ∃ a, sa[i]? = some (some a) ∧ Rt (Cx X fps) S (match e with | .im k _ => k | .ow k _ => k) a (match e with | .im _ t => t | .ow _ t => t) := by
  obtain ⟨a, fp, h1, h2, h3⟩ := h.sl i e he
  refine ⟨a, h1, ?_⟩
  cases e with
  | im k t => exact h3
  | ow k t => exact OwnR.rt (fun r hr j hj => ⟨h.dj r (mem_fl h2 hr), fun z => by omega⟩) h3
end
end Vai
set_option maxRecDepth 100000
set_option maxHeartbeats 2000000
namespace Vai
open PySem L2
/-! ## evaluating with trees -/
inductive PR where
  | ok (k fr : Nat) (t : T) | er (c : Nat)
inductive PL where
  | ok (ks : List (Nat × T)) | er (c : Nat)
abbrev PF := En → Wr → Option (PR × Wr)
abbrev PFL := En → Wr → Option (PL × Wr)
/-- an object that is new and one's own -/
def FrR (N : Nat) (S : List O) (fr : Nat) (a : A) (t : T) : Prop := fr = 0 ∨ ∃ fp : List Nat, fp.Nodup ∧ (∀ l ∈ fp, N ≤ l) ∧ OwnR S fr fp a t
def RtK (C : Nat → Nat → Prop) (S : List O) : List A → List (Nat × T) → Prop
  | [], [] => True
  | a :: as, p :: ps => Rt C S p.1 a p.2 ∧ RtK C S as ps
  | _, _ => False
def ResR (C : Nat → Nat → Prop) (N : Nat) (x : R) (r : PR) : Prop := match x, r with
  | .ok a S, .ok k fr t => Rt C S k a t ∧ FrR N S fr a t
  | .er c _, .er c' => c = c'
  | _, _ => False
def ResL (C : Nat → Nat → Prop) (x : RL) (r : PL) : Prop := match x, r with
  | .ok as S, .ok ks => RtK C S as ks
  | .er c _, .er c' => c = c'
  | _, _ => False
def Out (C : Nat → Nat → Prop) (N : Nat) (S : List O) (y : Option R) (r : PR) (w : Wr) : Prop := ∃ x, y = some x ∧ But 1 S (stR x) ∧ RowR (stR x) w ∧ ResR C N x r
def OutL (C : Nat → Nat → Prop) (S : List O) (y : Option RL) (r : PL) (w : Wr) : Prop := ∃ x, y = some x ∧ But 1 S (stL x) ∧ RowR (stL x) w ∧ ResL C x r
def SimF (f : F) (φ : PF) : Prop := ∀ (X : Nat → Prop) (fps : List (List Nat)) (S : List O) (sa : Sa) (ρ : En) (w w' : Wr) (r : PR), EnvR X fps S sa ρ → RowR S w → φ ρ w = some (r, w') → Out (Cx X fps) S.length S (f sa S) r w'
def SimL (f : FL) (φ : PFL) : Prop := ∀ (X : Nat → Prop) (fps : List (List Nat)) (S : List O) (sa : Sa) (ρ : En) (w w' : Wr) (r : PL), EnvR X fps S sa ρ → RowR S w → φ ρ w = some (r, w') → OutL (Cx X fps) S (f sa S) r w'
theorem FrR.weak {N N' : Nat} {S : List O} {fr : Nat} {a : A} {t : T} (h : FrR N' S fr a t) (n : N ≤ N') : FrR N S fr a t := h.imp id fun ⟨fp, x, y, z⟩ => ⟨fp, x, fun l hl => Nat.le_trans n (y l hl), z⟩
theorem ResR.weak {C : Nat → Nat → Prop} {N N' : Nat} {x : R} {r : PR} (h : ResR C N' x r) (n : N ≤ N') : ResR C N x r := by
  unfold ResR at h ⊢
  split at h
  · exact ⟨h.1, h.2.weak n⟩
  · exact h
  · exact h.elim
theorem Out.pre {C : Nat → Nat → Prop} {N N' : Nat} {S S1 : List O} {y : Option R} {r : PR} {w : Wr} (h : Out C N' S1 y r w) (b : But 1 S S1) (n : N ≤ N') : Out C N S y r w := by
  obtain ⟨x, h1, h2, h3, h4⟩ := h
  exact ⟨x, h1, b.trans h2, h3, h4.weak n⟩
theorem OutL.pre {C : Nat → Nat → Prop} {S S1 : List O} {y : Option RL} {r : PL} {w : Wr} (h : OutL C S1 y r w) (b : But 1 S S1) : OutL C S y r w := by
  obtain ⟨x, h1, h2, h3, h4⟩ := h
  exact ⟨x, h1, b.trans h2, h3, h4⟩
theorem ok0 {C : Nat → Nat → Prop} {N : Nat} {S : List O} {a : A} {t : T} {k : Nat} {w : Wr} (h : Rt C S k a t) (r : RowR S w) : Out C N S (some (.ok a S)) (.ok k 0 t) w := ⟨_, rfl, But.refl, r, h, .inl rfl⟩
section
variable {X : Nat → Prop} {fps : List (List Nat)} {S S' : List O} {sa : Sa} {ρ : En} {w : Wr}
theorem Rt.ev {C : Nat → Nat → Prop} {k : Nat} {a : A} {t : T} (h : Rt C S k a t) (r : RowR S w) (b : But 1 S S') (c : ∀ j, ¬ C j 1) : Rt C S' k a t := h.mv (but_mv (Y := fun l => l = 1) b r rfl) fun i l y => y ▸ c _
theorem Cx.one (h : EnvR X fps S sa ρ) : ∀ j, ¬ Cx X fps j 1 := fun j c => c.1 h.one
theorem RtK.ev {C : Nat → Nat → Prop} (r : RowR S w) (b : But 1 S S') (c : ∀ j, ¬ C j 1) : ∀ {as : List A} {ks : List (Nat × T)}, RtK C S as ks → RtK C S' as ks
  | [], [], _ => by simp only [RtK]
  | [], _ :: _, x => by simp only [RtK] at x
  | _ :: _, [], x => by simp only [RtK] at x
  | a :: as, p :: ps, x => by
    simp only [RtK] at x ⊢
    exact ⟨x.1.ev r b c, RtK.ev r b c x.2⟩
end
/-! binding -/
def bindP (x : Option (PR × Wr)) (k : Nat → T → Wr → Option (PR × Wr)) : Option (PR × Wr) := match x with
  | some (.ok j _ t, w) => k j t w
  | some (.er c, w) => some (.er c, w)
  | none => none
theorem sim_bnd {f : F} {k : A → F} {φ : PF} {κ : Nat → T → PF} (hf : SimF f φ)
    (hk : ∀ (X : Nat → Prop) (fps : List (List Nat)) (S : List O) (sa : Sa) (ρ : En) (w w' : Wr) (r : PR) (a : A) (j : Nat) (t : T), EnvR X fps S sa ρ → RowR S w → Rt (Cx X fps) S j a t → κ j t ρ w = some (r, w') → Out (Cx X fps) S.length S (k a sa S) r w') :
    SimF (bnd f k) (fun ρ w => bindP (φ ρ w) fun j t w1 => κ j t ρ w1) := fun X fps S sa ρ w w' r E hr h => by
  simp only [bindP] at h
  unfold bnd
  split at h
  · rename_i j fr t w1 e
    obtain ⟨x, h1, h2, h3, h4⟩ := hf X fps S sa ρ w w1 _ E hr e
    cases x with
    | er c S1 => simp only [ResR] at h4
    | ok a S1 =>
      simp only [ResR, stR] at h4 h2 h3
      rw [h1]
      exact (hk X fps S1 sa ρ w1 w' r a j t (E.ev hr h2) h3 h4.1 h).pre h2 h2.1
  · rename_i c w1 e
    obtain ⟨x, h1, h2, h3, h4⟩ := hf X fps S sa ρ w w1 _ E hr e
    cases x with
    | ok a S1 => simp only [ResR] at h4
    | er c S1 =>
      simp only [ResR] at h4
      cases h
      rw [h1]
      exact ⟨_, rfl, h2, h3, h4⟩
  · cases h
def bindPL (x : Option (PL × Wr)) (k : List (Nat × T) → Wr → Option (PR × Wr)) : Option (PR × Wr) := match x with
  | some (.ok ks, w) => k ks w
  | some (.er c, w) => some (.er c, w)
  | none => none
theorem sim_bndL {f : FL} {k : List A → F} {φ : PFL} {κ : List (Nat × T) → PF} (hf : SimL f φ)
    (hk : ∀ (X : Nat → Prop) (fps : List (List Nat)) (S : List O) (sa : Sa) (ρ : En) (w w' : Wr) (r : PR) (as : List A) (ks : List (Nat × T)), EnvR X fps S sa ρ → RowR S w → RtK (Cx X fps) S as ks → κ ks ρ w = some (r, w') → Out (Cx X fps) S.length S (k as sa S) r w') :
    SimF (bndL f k) (fun ρ w => bindPL (φ ρ w) fun ks w1 => κ ks ρ w1) := fun X fps S sa ρ w w' r E hr h => by
  simp only [bindPL] at h
  unfold bndL
  split at h
  · rename_i ks w1 e
    obtain ⟨x, h1, h2, h3, h4⟩ := hf X fps S sa ρ w w1 _ E hr e
    cases x with
    | er c S1 => simp only [ResL] at h4
    | ok a S1 =>
      simp only [ResL, stL] at h4 h2 h3
      rw [h1]
      exact (hk X fps S1 sa ρ w1 w' r a ks (E.ev hr h2) h3 h4 h).pre h2 h2.1
  · rename_i c w1 e
    obtain ⟨x, h1, h2, h3, h4⟩ := hf X fps S sa ρ w w1 _ E hr e
    cases x with
    | ok a S1 => simp only [ResL] at h4
    | er c S1 =>
      simp only [ResL] at h4
      cases h
      rw [h1]
      exact ⟨_, rfl, h2, h3, h4⟩
  · cases h
/-! the expressions -/
def varP (i : Nat) : PF := fun ρ w => match ρ[i]? with
  | some (some (.im k t)) => some (.ok k 0 t, w)
  | some (some (.ow k t)) => some (.ok k 0 t, w)
  | _ => none
theorem sim_var {i : Nat} : SimF (varF i) (varP i) := fun X fps S sa ρ w w' r E hr h => by
  unfold varP at h
  split at h
  · rename_i k t e
    cases h
    obtain ⟨a, h1, h2⟩ := E.var e
    rw [r_var h1]
    exact ok0 h2 hr
  · rename_i k t e
    cases h
    obtain ⟨a, h1, h2⟩ := E.var e
    rw [r_var h1]
    exact ok0 h2 hr
  · cases h
def ofA : A → Option T
  | .non => some .non
  | .bl b => some (.bl b)
  | .int i => some (.int i)
  | .str z => some (.str z)
  | .ty n => some (.ty n)
  | .ref _ => none
theorem ofA_rt {C : Nat → Nat → Prop} {S : List O} {k : Nat} {a : A} {t : T} (h : ofA a = some t) : Rt C S k a t := by
  cases a <;> simp only [ofA] at h <;> cases h <;> simp only [Rt]
def conP (t : T) : PF := fun _ w => some (.ok 0 0 t, w)
theorem sim_con {a : A} {t : T} (h : ofA a = some t) : SimF (conF a) (conP t) := fun X fps S sa ρ w w' r E hr e => by
  cases e
  exact ok0 (ofA_rt h) hr
def flatT : T → Bool
  | .non => true
  | .bl _ => true
  | .int _ => true
  | .str _ => true
  | _ => false
theorem flatT_A {C : Nat → Nat → Prop} {S : List O} {k : Nat} {a : A} {t : T} (h : Rt C S k a t) (f : flatT t = true) : flatA a = true ∧ ∀ (C' : Nat → Nat → Prop) (S' : List O) (k' : Nat), Rt C' S' k' a t := by
  cases t <;> simp only [flatT] at f <;> first | (simp only [Rt] at h; subst h; exact ⟨rfl, fun _ _ _ => by simp only [Rt]⟩) | cases f
theorem flatT_not {C : Nat → Nat → Prop} {S : List O} {k : Nat} {a : A} {t : T} (h : Rt C S k a t) (f : flatT t = false) (n : ∀ z, t ≠ .ty z) : flatA a = false := by
  cases t with
  | ty z => exact absurd rfl (n z)
  | row => simp only [Rt] at h; subst h; rfl
  | dic _ _ => simp only [Rt] at h; obtain ⟨l, _, rfl, _⟩ := h; rfl
  | clo id d => cases d <;> simp only [Rt] at h <;> (obtain ⟨l, _, h⟩ := h; first | (obtain ⟨rfl, _⟩ := h; rfl) | (obtain ⟨_, _, rfl, _⟩ := h; rfl))
  | tup _ _ => simp only [Rt] at h; obtain ⟨l, as, rfl, _⟩ := h; rfl
  | lst _ => simp only [Rt] at h; obtain ⟨l, as, rfl, _⟩ := h; rfl
  | _ => cases f
/-- operators of two -/
abbrev P2 := Nat → T → Nat → T → Option (Nat × Nat × T)
def Sim2 (g : G2) (γ : P2) : Prop := ∀ (C : Nat → Nat → Prop) (S : List O) (k1 k2 : Nat) (a b : A) (t1 t2 : T) (z : Nat × Nat × T), (∀ k l, S.length ≤ l → C k l) → Rt C S k1 a t1 → Rt C S k2 b t2 → γ k1 t1 k2 t2 = some z →
  ∃ c S', g a b S = some (c, S') ∧ S <+: S' ∧ Rt C S' z.1 c z.2.2 ∧ FrR S.length S' z.2.1 c z.2.2
def opP (γ : P2) (φ ψ : PF) : PF := fun ρ w => bindP (φ ρ w) fun k1 t1 w1 => bindP (ψ ρ w1) fun k2 t2 w2 => (γ k1 t1 k2 t2).map fun z => (.ok z.1 z.2.1 z.2.2, w2)
/-- a bind where the first value is kept -/
theorem sim_op {g : G2} {γ : P2} {fa fb : F} {φ ψ : PF} (hg : Sim2 g γ) (ha : SimF fa φ) (hb : SimF fb ψ) : SimF (opF g fa fb) (opP γ φ ψ) := fun X fps S sa ρ w w' r E hr h => by
  simp only [opP, bindP] at h
  unfold opF bnd
  split at h
  · rename_i j fr t w1 e
    obtain ⟨x, h1, h2, h3, h4⟩ := ha X fps S sa ρ w w1 _ E hr e
    cases x with
    | er c S1 => simp only [ResR] at h4
    | ok a S1 =>
      simp only [ResR, stR] at h4 h2 h3
      rw [h1]
      simp only
      have E1 := E.ev hr h2
      split at h
      · rename_i j2 fr2 t2 w2 e2
        obtain ⟨x, g1, g2, g3, g4⟩ := hb X fps S1 sa ρ w1 w2 _ E1 h3 e2
        cases x with
        | er c S1 => simp only [ResR] at g4
        | ok b S2 =>
          simp only [ResR, stR] at g4 g2 g3
          rw [g1]
          simp only
          cases hz : γ j t j2 t2 with
          | none =>
            rw [hz] at h
            cases h
          | some z =>
            rw [hz] at h
            cases h
            have E2 := E1.ev h3 g2
            obtain ⟨c, S3, k1, k2, k3, k4⟩ := hg _ S2 j j2 a b t t2 z (fun k l hl => E2.new hl) (h4.1.ev h3 g2 (Cx.one E1)) g4.1 hz
            refine ⟨.ok c S3, by rw [k1]; rfl, (h2.trans g2).trans (But.of k2), g3.up k2, k3, k4.weak (Nat.le_trans h2.1 g2.1)⟩
      · rename_i c w2 e2
        obtain ⟨x, g1, g2, g3, g4⟩ := hb X fps S1 sa ρ w1 w2 _ E1 h3 e2
        cases x with
        | ok a S1 => simp only [ResR] at g4
        | er c S2 =>
          simp only [ResR] at g4
          cases h
          rw [g1]
          exact ⟨_, rfl, h2.trans g2, g3, g4⟩
      · cases h
  · rename_i c w1 e
    obtain ⟨x, h1, h2, h3, h4⟩ := ha X fps S sa ρ w w1 _ E hr e
    cases x with
    | ok a S1 => simp only [ResR] at h4
    | er c S1 =>
      simp only [ResR] at h4
      cases h
      rw [h1]
      exact ⟨_, rfl, h2, h3, h4⟩
  · cases h
abbrev P1 := Nat → T → Option (Nat × Nat × T)
def Sim1 (g : G1) (γ : P1) : Prop := ∀ (C : Nat → Nat → Prop) (S : List O) (k1 : Nat) (a : A) (t1 : T) (z : Nat × Nat × T), (∀ k l, S.length ≤ l → C k l) → Rt C S k1 a t1 → γ k1 t1 = some z →
  ∃ c S', g a S = some (c, S') ∧ S <+: S' ∧ Rt C S' z.1 c z.2.2 ∧ FrR S.length S' z.2.1 c z.2.2
def unP (γ : P1) (φ : PF) : PF := fun ρ w => bindP (φ ρ w) fun k1 t1 w1 => (γ k1 t1).map fun (z : Nat × Nat × T) => (PR.ok z.1 z.2.1 z.2.2, w1)
theorem sim_un {g : G1} {γ : P1} {fa : F} {φ : PF} (hg : Sim1 g γ) (ha : SimF fa φ) : SimF (unF g fa) (unP γ φ) := sim_bnd (k := fun a => fun _ S => toR (g a S)) (κ := fun k1 t1 _ w1 => (γ k1 t1).map fun (z : Nat × Nat × T) => (PR.ok z.1 z.2.1 z.2.2, w1)) ha fun X fps S sa ρ w w' r a j t E hr h e => by
  cases hz : γ j t with
  | none =>
    rw [hz] at e
    cases e
  | some z =>
    rw [hz] at e
    cases e
    obtain ⟨c, S3, k1, k2, k3, k4⟩ := hg _ S j a t z (fun k l hl => E.new hl) h hz
    exact ⟨.ok c S3, by rw [k1]; rfl, But.of k2, hr.up k2, k3, k4⟩
abbrev PN := List (Nat × T) → Option (Nat × Nat × T)
def SimN (g : GN) (γ : PN) : Prop := ∀ (C : Nat → Nat → Prop) (S : List O) (as : List A) (ks : List (Nat × T)) (z : Nat × Nat × T), (∀ k l, S.length ≤ l → C k l) → RtK C S as ks → γ ks = some z →
  ∃ c S', g as S = some (c, S') ∧ S <+: S' ∧ Rt C S' z.1 c z.2.2 ∧ FrR S.length S' z.2.1 c z.2.2
def clP (γ : PN) (φ : PFL) : PF := fun ρ w => bindPL (φ ρ w) fun ks w1 => (γ ks).map fun (z : Nat × Nat × T) => (PR.ok z.1 z.2.1 z.2.2, w1)
theorem sim_cl {g : GN} {γ : PN} {fl : FL} {φ : PFL} (hg : SimN g γ) (ha : SimL fl φ) : SimF (clF g fl) (clP γ φ) := sim_bndL (k := fun as => fun _ S => toR (g as S)) (κ := fun ks _ w1 => (γ ks).map fun (z : Nat × Nat × T) => (PR.ok z.1 z.2.1 z.2.2, w1)) ha fun X fps S sa ρ w w' r as ks E hr h e => by
  cases hz : γ ks with
  | none =>
    rw [hz] at e
    cases e
  | some z =>
    rw [hz] at e
    cases e
    obtain ⟨c, S3, k1, k2, k3, k4⟩ := hg _ S as ks z (fun k l hl => E.new hl) h hz
    exact ⟨.ok c S3, by rw [k1]; rfl, But.of k2, hr.up k2, k3, k4⟩
def nilP : PFL := fun _ w => some (.ok [], w)
theorem sim_nil : SimL nilF nilP := fun X fps S sa ρ w w' r E hr e => by
  cases e
  exact ⟨_, rfl, But.refl, hr, by simp only [ResL, RtK]⟩
def consP (φ : PF) (ψ : PFL) : PFL := fun ρ w => match φ ρ w with
  | some (.ok k _ t, w1) => (match ψ ρ w1 with
    | some (.ok ks, w2) => some (.ok ((k, t) :: ks), w2)
    | some (.er c, w2) => some (.er c, w2)
    | none => none)
  | some (.er c, w1) => some (.er c, w1)
  | none => none
theorem sim_cons {fa : F} {fl : FL} {φ : PF} {ψ : PFL} (ha : SimF fa φ) (hl : SimL fl ψ) : SimL (consF fa fl) (consP φ ψ) := fun X fps S sa ρ w w' r E hr h => by
  unfold consP at h
  unfold consF
  split at h
  · rename_i j fr t w1 e
    obtain ⟨x, h1, h2, h3, h4⟩ := ha X fps S sa ρ w w1 _ E hr e
    cases x with
    | er c S1 => simp only [ResR] at h4
    | ok a S1 =>
      simp only [ResR, stR] at h4 h2 h3
      rw [h1]
      simp only
      have E1 := E.ev hr h2
      split at h
      · rename_i ks w2 e2
        cases h
        obtain ⟨x, g1, g2, g3, g4⟩ := hl X fps S1 sa ρ w1 w' _ E1 h3 e2
        cases x with
        | er c S1 => simp only [ResL] at g4
        | ok b S2 =>
          simp only [ResL, stL] at g4 g2 g3
          rw [g1]
          refine ⟨_, rfl, h2.trans g2, g3, ?_⟩
          simp only [ResL, RtK]
          exact ⟨h4.1.ev h3 g2 (Cx.one E1), g4⟩
      · rename_i c w2 e2
        cases h
        obtain ⟨x, g1, g2, g3, g4⟩ := hl X fps S1 sa ρ w1 w' _ E1 h3 e2
        cases x with
        | ok a S1 => simp only [ResL] at g4
        | er c S2 =>
          simp only [ResL] at g4
          rw [g1]
          exact ⟨_, rfl, h2.trans g2, g3, g4⟩
      · cases h
  · rename_i c w1 e
    obtain ⟨x, h1, h2, h3, h4⟩ := ha X fps S sa ρ w w1 _ E hr e
    cases x with
    | ok a S1 => simp only [ResR] at h4
    | er c S1 =>
      simp only [ResR] at h4
      cases h
      rw [h1]
      exact ⟨_, rfl, h2, h3, h4⟩
  · cases h
/-! truth -/
def andP (φ ψ : PF) : PF := fun ρ w => bindP (φ ρ w) fun _ t w1 => match t with
  | .bl true => ψ ρ w1
  | .bl false => some (.ok 0 0 (.bl false), w1)
  | _ => none
theorem sim_and {fa fb : F} {φ ψ : PF} (ha : SimF fa φ) (hb : SimF fb ψ) : SimF (andF fa fb) (andP φ ψ) := sim_bnd (k := fun a => match a with
  | .bl true => fb
  | .bl false => conF (.bl false)
  | _ => fun _ _ => none) (κ := fun _ t ρ w1 => match t with
  | .bl true => ψ ρ w1
  | .bl false => some (.ok 0 0 (.bl false), w1)
  | _ => none) ha fun X fps S sa ρ w w' r a j t E hr h e => by
  split at e
  · simp only [Rt] at h
    subst h
    exact hb X fps S sa ρ w w' r E hr e
  · simp only [Rt] at h
    subst h
    cases e
    exact ok0 (by simp only [Rt]) hr
  · cases e
def orP (φ ψ : PF) : PF := fun ρ w => bindP (φ ρ w) fun _ t w1 => match t with
  | .bl false => ψ ρ w1
  | .bl true => some (.ok 0 0 (.bl true), w1)
  | _ => none
theorem sim_or {fa fb : F} {φ ψ : PF} (ha : SimF fa φ) (hb : SimF fb ψ) : SimF (orF fa fb) (orP φ ψ) := sim_bnd (k := fun a => match a with
  | .bl true => conF (.bl true)
  | .bl false => fb
  | _ => fun _ _ => none) (κ := fun _ t ρ w1 => match t with
  | .bl false => ψ ρ w1
  | .bl true => some (.ok 0 0 (.bl true), w1)
  | _ => none) ha fun X fps S sa ρ w w' r a j t E hr h e => by
  split at e
  · simp only [Rt] at h
    subst h
    exact hb X fps S sa ρ w w' r E hr e
  · simp only [Rt] at h
    subst h
    cases e
    exact ok0 (by simp only [Rt]) hr
  · cases e
def notP (φ : PF) : PF := fun ρ w => bindP (φ ρ w) fun _ t w1 => match t with
  | .bl b => some (.ok 0 0 (.bl (!b)), w1)
  | _ => none
theorem sim_not {fa : F} {φ : PF} (ha : SimF fa φ) : SimF (notF fa) (notP φ) := sim_bnd (k := fun a => match a with
  | .bl b => conF (.bl (!b))
  | _ => fun _ _ => none) (κ := fun _ t ρ w1 => match t with
  | .bl b => some (.ok 0 0 (.bl (!b)), w1)
  | _ => none) ha fun X fps S sa ρ w w' r a j t E hr h e => by
  split at e
  · simp only [Rt] at h
    subst h
    cases e
    exact ok0 (by simp only [Rt]) hr
  · cases e
def ifP (φ ψ χ : PF) : PF := fun ρ w => bindP (φ ρ w) fun _ t w1 => match t with
  | .bl true => ψ ρ w1
  | .bl false => χ ρ w1
  | _ => none
theorem sim_ifE {fa fb fc : F} {φ ψ χ : PF} (ha : SimF fa φ) (hb : SimF fb ψ) (hc : SimF fc χ) : SimF (ifF fa fb fc) (ifP φ ψ χ) := sim_bnd (k := fun a => match a with
  | .bl true => fb
  | .bl false => fc
  | _ => fun _ _ => none) (κ := fun _ t ρ w1 => match t with
  | .bl true => ψ ρ w1
  | .bl false => χ ρ w1
  | _ => none) ha fun X fps S sa ρ w w' r a j t E hr h e => by
  split at e
  · simp only [Rt] at h
    subst h
    exact hb X fps S sa ρ w w' r E hr e
  · simp only [Rt] at h
    subst h
    exact hc X fps S sa ρ w w' r E hr e
  · cases e
/-- what is flat leaves nothing behind -/
def trimP (φ : PF) : PF := fun ρ w => match φ ρ w with
  | some (.ok k fr t, w') => if flatT t = true then some (.ok 0 0 t, w) else none
  | some (.er c, _) => some (.er c, w)
  | none => none
theorem sim_trim {f : F} {φ : PF} (h : SimF f φ) : SimF (trimF f) (trimP φ) := fun X fps S sa ρ w w' r E hr e => by
  unfold trimP at e
  unfold trimF trimR
  split at e
  · rename_i k fr t w1 e1
    split at e
    · rename_i hf
      cases e
      obtain ⟨x, h1, h2, h3, h4⟩ := h X fps S sa ρ w w1 _ E hr e1
      cases x with
      | er c S1 => simp only [ResR] at h4
      | ok a S1 =>
        simp only [ResR] at h4
        obtain ⟨f1, f2⟩ := flatT_A h4.1 hf
        rw [h1]
        simp only [Option.map_some, f1, if_true]
        exact ok0 (f2 _ _ _) hr
    · cases e
  · rename_i c w1 e1
    cases e
    obtain ⟨x, h1, h2, h3, h4⟩ := h X fps S sa ρ w w1 _ E hr e1
    cases x with
    | ok a S1 => simp only [ResR] at h4
    | er c S1 =>
      simp only [ResR] at h4
      rw [h1]
      exact ⟨_, rfl, But.refl, hr, h4⟩
  · cases e
/-- x < y < z -/
def chP (γ γ' : P2) (φ ψ χ : PF) : PF := fun ρ w => bindP (φ ρ w) fun k1 t1 w1 => bindP (ψ ρ w1) fun k2 t2 w2 => match γ k1 t1 k2 t2 with
  | some (_, _, .bl true) => bindP (χ ρ w2) fun k3 t3 w3 => (match t2 with
    | .int i => (γ' 0 (.int i) k3 t3).map fun z => (.ok z.1 z.2.1 z.2.2, w3)
    | _ => none)
  | some (_, _, .bl false) => some (.ok 0 0 (.bl false), w2)
  | _ => none
theorem sim_ch {g g' : G2} {γ γ' : P2} {fa fb fc : F} {φ ψ χ : PF} (hg : Sim2 g γ) (hg' : Sim2 g' γ') (ha : SimF fa φ) (hb : SimF fb ψ) (hc : SimF fc χ) : SimF (chF g g' fa fb fc) (chP γ γ' φ ψ χ) := fun X fps S sa ρ w w' r E hr h => by
  simp only [chP, bindP] at h
  unfold chF bnd
  split at h
  · rename_i j fr t w1 e
    obtain ⟨x, h1, h2, h3, h4⟩ := ha X fps S sa ρ w w1 _ E hr e
    cases x with
    | er c S1 => simp only [ResR] at h4
    | ok a S1 =>
      simp only [ResR, stR] at h4 h2 h3
      rw [h1]
      simp only
      have E1 := E.ev hr h2
      split at h
      · rename_i j2 fr2 t2 w2 e2
        obtain ⟨x, g1, g2, g3, g4⟩ := hb X fps S1 sa ρ w1 w2 _ E1 h3 e2
        cases x with
        | er c S1 => simp only [ResR] at g4
        | ok b S2 =>
          simp only [ResR, stR] at g4 g2 g3
          rw [g1]
          simp only
          have E2 := E1.ev h3 g2
          split at h
          · rename_i z1 z2 hz
            obtain ⟨c, S3, k1, k2, k3, k4⟩ := hg _ S2 j j2 a b t t2 _ (fun k l hl => E2.new hl) (h4.1.ev h3 g2 (Cx.one E1)) g4.1 hz
            rw [k1]
            simp only [toR]
            simp only [Rt] at k3
            subst k3
            simp only
            have E3 := E2.ev g3 (But.of k2)
            have r3 := g3.up k2
            split at h
            · rename_i j3 fr3 t3 w3 e3
              obtain ⟨x, m1, m2, m3, m4⟩ := hc X fps S3 sa ρ w2 w3 _ E3 r3 e3
              cases x with
              | er c S1 => simp only [ResR] at m4
              | ok d S4 =>
                simp only [ResR, stR] at m4 m2 m3
                rw [m1]
                simp only
                split at h
                · rename_i i
                  have hb := g4.1
                  simp only [Rt] at hb
                  subst hb
                  cases hz : γ' 0 (.int i) j3 t3 with
                  | none =>
                    rw [hz] at h
                    cases h
                  | some z =>
                    rw [hz] at h
                    cases h
                    have E4 := E3.ev r3 m2
                    obtain ⟨c, S5, n1, n2, n3, n4⟩ := hg' _ S4 0 j3 (.int i) d (.int i) t3 z (fun k l hl => E4.new hl) (by simp only [Rt]) m4.1 hz
                    exact ⟨.ok c S5, by rw [n1], (((h2.trans g2).trans (But.of k2)).trans m2).trans (But.of n2), m3.up n2, n3, n4.weak (Nat.le_trans (Nat.le_trans (Nat.le_trans h2.1 g2.1) k2.length_le) m2.1)⟩
                · cases h
            · rename_i c w3 e3
              obtain ⟨x, m1, m2, m3, m4⟩ := hc X fps S3 sa ρ w2 w3 _ E3 r3 e3
              cases x with
              | ok a S1 => simp only [ResR] at m4
              | er c S4 =>
                simp only [ResR] at m4
                cases h
                rw [m1]
                exact ⟨_, rfl, ((h2.trans g2).trans (But.of k2)).trans m2, m3, m4⟩
            · cases h
          · rename_i z1 z2 hz
            obtain ⟨c, S3, k1, k2, k3, k4⟩ := hg _ S2 j j2 a b t t2 _ (fun k l hl => E2.new hl) (h4.1.ev h3 g2 (Cx.one E1)) g4.1 hz
            rw [k1]
            simp only [toR]
            simp only [Rt] at k3
            subst k3
            cases h
            exact ⟨_, rfl, (h2.trans g2).trans (But.of k2), g3.up k2, by simp only [ResR, Rt]; exact ⟨trivial, .inl rfl⟩⟩
          · cases h
      · rename_i c w2 e2
        obtain ⟨x, g1, g2, g3, g4⟩ := hb X fps S1 sa ρ w1 w2 _ E1 h3 e2
        cases x with
        | ok a S1 => simp only [ResR] at g4
        | er c S2 =>
          simp only [ResR] at g4
          cases h
          rw [g1]
          exact ⟨_, rfl, h2.trans g2, g3, g4⟩
      · cases h
  · rename_i c w1 e
    obtain ⟨x, h1, h2, h3, h4⟩ := ha X fps S sa ρ w w1 _ E hr e
    cases x with
    | ok a S1 => simp only [ResR] at h4
    | er c S1 =>
      simp only [ResR] at h4
      cases h
      rw [h1]
      exact ⟨_, rfl, h2, h3, h4⟩
  · cases h
/-! calls of one's own defs -/
inductive PD where
  | ok (t : T) | er (c : Nat)
abbrev PFD := List T → Wr → Option (PD × Wr)
def SimD (d : FD) (δ : PFD) : Prop := ∀ (X : Nat → Prop) (S : List O) (as : List A) (ts : List T) (w w' : Wr) (r : PD), X 0 → X 1 → (∀ l, X l → l < S.length) → RtL (fun _ l => ¬ X l) S 0 as ts → RowR S w → δ ts w = some (r, w') →
  ∃ x, d as S = some x ∧ But 1 S (stR x) ∧ RowR (stR x) w' ∧ (match x, r with
    | .ok a S', .ok t => Rt (fun _ l => ¬ X l) S' 0 a t
    | .er c _, .er c' => c = c'
    | _, _ => False)
def args0 : List (Nat × T) → Option (List T)
  | [] => some []
  | (0, t) :: r => (args0 r).map (t :: ·)
  | _ => none
theorem args0_rt {C : Nat → Nat → Prop} {S : List O} : ∀ {ks : List (Nat × T)} {as : List A} {ts : List T}, args0 ks = some ts → RtK C S as ks → RtL C S 0 as ts
  | [], [], ts, h, _ => by cases h; simp only [RtL]
  | [], _ :: _, _, _, x => by simp only [RtK] at x
  | _ :: _, [], _, _, x => by simp only [RtK] at x
  | (0, t) :: r, a :: as, ts, h, x => by
    simp only [args0] at h
    simp only [RtK] at x
    cases hr : args0 r with
    | none => rw [hr] at h; cases h
    | some us =>
      rw [hr] at h
      cases h
      simp only [RtL]
      exact ⟨x.1, args0_rt hr x.2⟩
  | (k + 1, t) :: r, _ :: _, _, h, _ => by simp only [args0] at h; cases h
def callP (δ : PFD) (φ : PFL) : PF := fun ρ w => bindPL (φ ρ w) fun ks w1 => match args0 ks with
  | some ts => (match δ ts w1 with
    | some (.ok t, w2) => some (.ok 0 0 t, w2)
    | some (.er c, w2) => some (.er c, w2)
    | none => none)
  | none => none
theorem sim_call {d : FD} {δ : PFD} {fl : FL} {φ : PFL} (hd : SimD d δ) (ha : SimL fl φ) : SimF (callF d fl) (callP δ φ) := sim_bndL (k := fun as => fun _ S => d as S) (κ := fun ks _ w1 => match args0 ks with
  | some ts => (match δ ts w1 with
    | some (.ok t, w2) => some (.ok 0 0 t, w2)
    | some (.er c, w2) => some (.er c, w2)
    | none => none)
  | none => none) ha fun X fps S sa ρ w w' r as ks E hr h e => by
  split at e
  · rename_i ts ht
    have hX : ∀ l, (X l ∨ l ∈ fps.flatten) → l < S.length := fun l z => z.elim (E.x0 l) (E.lt l)
    have hR := Rt.gen (C := Cx X fps) (C' := fun _ l => ¬ (X l ∨ l ∈ fps.flatten)) (S := S) (t := .non) (k := 0) (k' := 0) (a := .non)
    have args : RtL (fun _ l => ¬ (X l ∨ l ∈ fps.flatten)) S 0 as ts := RtL.gen (fun i l hl c z => z.elim c.1 (c.2 (by omega))) (args0_rt ht h)
    split at e
    · rename_i t w2 hd2
      cases e
      obtain ⟨x, h1, h2, h3, h4⟩ := hd _ S as ts w w' _ (.inl E.zero) (.inl E.one) hX args hr hd2
      cases x with
      | er c S1 => exact h4.elim
      | ok a S1 =>
        show Out _ _ _ (d as S) _ _
        rw [h1]
        exact ⟨_, rfl, h2, h3, Rt.gen (fun i l hl c => ⟨fun z => c (.inl z), fun _ z => c (.inr z)⟩) h4, .inl rfl⟩
    · rename_i c w2 hd2
      cases e
      obtain ⟨x, h1, h2, h3, h4⟩ := hd _ S as ts w w' _ (.inl E.zero) (.inl E.one) hX args hr hd2
      cases x with
      | ok a S1 => exact h4.elim
      | er c S1 =>
        show Out _ _ _ (d as S) _ _
        rw [h1]
        exact ⟨_, rfl, h2, h3, h4⟩
    · cases e
  · cases e
end Vai
set_option maxRecDepth 100000
set_option maxHeartbeats 2000000
namespace Vai
open PySem L2
/-! ## the operators, on trees -/
section
variable {C : Nat → Nat → Prop} {S S' : List O} {k : Nat} {a : A} {t : T} {as : List A} {ts : List T}
theorem Rt.up (p : S <+: S') (h : Rt C S k a t) : Rt C S' k a t := h.mv (Mv.of (Y := fun _ => False) p) fun _ _ y => y.elim
theorem RtL.up (p : S <+: S') (h : RtL C S k as ts) : RtL C S' k as ts := h.mv (Mv.of (Y := fun _ => False) p) fun _ _ y => y.elim
def ResZ (C : Nat → Nat → Prop) (S : List O) (y : Option (A × List O)) (z : Nat × Nat × T) : Prop := ∃ c S', y = some (c, S') ∧ S <+: S' ∧ Rt C S' z.1 c z.2.2 ∧ FrR S.length S' z.2.1 c z.2.2
theorem resI {i : Int} : ResZ C S (some (.int i, S)) (0, 0, .int i) := ⟨_, _, rfl, pf0 S, by simp only [Rt], .inl rfl⟩
theorem resB {b : Bool} : ResZ C S (some (.bl b, S)) (0, 0, .bl b) := ⟨_, _, rfl, pf0 S, by simp only [Rt], .inl rfl⟩
theorem resS {z : Str} : ResZ C S (some (.str z, S)) (0, 0, .str z) := ⟨_, _, rfl, pf0 S, by simp only [Rt], .inl rfl⟩
def lstZ (ts : List T) : Nat × Nat × T := (0, if noLs ts = true then 1 else 0, .lst ts)
def tupz (ts : List T) : Nat × Nat × T := (0, 0, .tup false ts)
theorem rt_lst (hC : ∀ k l, S.length ≤ l → C k l) (h : RtL C S 0 as ts) : Rt C (S ++ [.lst as]) 0 (.ref S.length) (.lst ts) := by
  simp only [Rt]
  exact ⟨_, _, rfl, at_new, hC _ _ (Nat.le_refl _), h.up (pfa S _)⟩
theorem rt_tup (h : RtL C S 0 as ts) : Rt C (S ++ [.tup as]) 0 (.ref S.length) (.tup false ts) := by
  simp only [Rt]
  exact ⟨_, _, rfl, at_new, fun z => (by cases z), h.up (pfa S _)⟩
theorem resL (hC : ∀ k l, S.length ≤ l → C k l) (h : RtL C S 0 as ts) : ResZ C S (some (.ref S.length, S ++ [.lst as])) (lstZ ts) := by
  refine ⟨_, _, rfl, pfa S _, rt_lst hC h, ?_⟩
  unfold lstZ
  simp only
  split
  · rename_i hn
    exact .inr ⟨[S.length], by simp, fun l hl => by rw [List.mem_singleton.mp hl]; exact Nat.le_refl _, own1 at_new ((h.up (pfa S _)).free hn)⟩
  · exact .inl rfl
theorem resT (h : RtL C S 0 as ts) : ResZ C S (some (.ref S.length, S ++ [.tup as])) (tupz ts) := ⟨_, _, rfl, pfa S _, rt_tup h, .inl rfl⟩
theorem resSame (h : Rt C S k a t) : ResZ C S (some (a, S)) (k, 0, t) := ⟨_, _, rfl, pf0 S, h, .inl rfl⟩
theorem k1 {ks : List A} (h : RtK C S ks [(k, t)]) : ∃ a, ks = [a] ∧ Rt C S k a t := by
  match ks, h with
  | [a], h => simp only [RtK] at h; exact ⟨a, rfl, h.1⟩
  | [], h => simp only [RtK] at h
  | _ :: _ :: _, h => simp only [RtK] at h; exact h.2.elim
theorem k2 {k' : Nat} {t' : T} {ks : List A} (h : RtK C S ks [(k, t), (k', t')]) : ∃ a b, ks = [a, b] ∧ Rt C S k a t ∧ Rt C S k' b t' := by
  match ks, h with
  | [a, b], h => simp only [RtK] at h; exact ⟨a, b, rfl, h.1, h.2.1⟩
  | [], h => simp only [RtK] at h
  | [_], h => simp only [RtK] at h; exact h.2.elim
  | _ :: _ :: _ :: _, h => simp only [RtK] at h; exact h.2.2.elim
theorem k0 {k' : Nat} {i : Int} (h : Rt C S k a (.int i)) : a = .int i := by simpa only [Rt] using h
end
/-! numbers -/
def intP2 (c : Int → Int → Bool) (f : Int → Int → Int) : P2 := fun _ t _ u => match t, u with
  | .int i, .int j => if c i j then some (0, 0, .int (f i j)) else none
  | _, _ => none
theorem sm_int2 {c : Int → Int → Bool} {f : Int → Int → Int} : Sim2 (intG c f) (intP2 c f) := fun C S k1 k2 a b t1 t2 z hC h1 h2 e => by
  unfold intP2 at e
  split at e
  · simp only [Rt] at h1 h2
    subst h1 h2
    split at e
    · rename_i hc
      cases e
      show ResZ C S (if _ then _ else _) _
      rw [if_pos hc]
      exact resI
    · cases e
  · cases e
abbrev subP : P2 := intP2 (fun _ _ => true) fun i j => i - j
abbrev modP : P2 := intP2 (fun _ j => decide (j ≠ 0)) fun i j => i.fmod j
abbrev fdivP : P2 := intP2 (fun _ j => decide (j ≠ 0) && decide (j.natAbs < 1073741824) || decide (0 < j) && decide (j.natAbs.log2 < 9000)) fun i j => i.fdiv j
abbrev powP : P2 := intP2 (fun i j => decide (0 ≤ j) && (decide (j ≤ 1000000) && decide (i.natAbs < 18446744073709551616) || decide (((PySem.Builtin.Int.intBits i : Nat) : Int) * j ≤ 134217728))) fun i j => i ^ j.toNat
theorem sm_sub : Sim2 subG subP := sm_int2
theorem sm_mod : Sim2 modG modP := sm_int2
theorem sm_fdiv : Sim2 fdivG fdivP := sm_int2
theorem sm_pow : Sim2 powG powP := sm_int2
def cmpP (f : Int → Int → Bool) : P2 := fun _ t _ u => match t, u with
  | .int i, .int j => some (0, 0, .bl (f i j))
  | _, _ => none
theorem sm_cmp {f : Int → Int → Bool} : Sim2 (cmpG f) (cmpP f) := fun C S k1 k2 a b t1 t2 z hC h1 h2 e => by
  unfold cmpP at e
  split at e
  · simp only [Rt] at h1 h2
    subst h1 h2
    cases e
    exact resB
  · cases e
def negP : P1 := fun _ t => match t with
  | .int i => some (0, 0, .int (-i))
  | _ => none
theorem sm_neg : Sim1 negG negP := fun C S k1 a t1 z hC h1 e => by
  unfold negP at e
  split at e
  · simp only [Rt] at h1
    subst h1
    cases e
    exact resI
  · cases e
def twoP (f : Int → Int → Int) : PN := fun ks => match ks with
  | [(_, .int i), (_, .int j)] => some (0, 0, .int (f i j))
  | _ => none
theorem sm_two {f : Int → Int → Int} : SimN (twoG f) (twoP f) := fun C S as ks z hC h e => by
  unfold twoP at e
  split at e
  · obtain ⟨a, b, rfl, h1, h2⟩ := k2 h
    simp only [Rt] at h1 h2
    subst h1 h2
    cases e
    exact resI
  · cases e
def absP : PN := fun ks => match ks with
  | [(_, .int i)] => some (0, 0, .int (if i < 0 then -i else i))
  | _ => none
theorem sm_abs : SimN absG absP := fun C S as ks z hC h e => by
  unfold absP at e
  split at e
  · obtain ⟨a, rfl, h1⟩ := k1 h
    simp only [Rt] at h1
    subst h1
    cases e
    exact resI
  · cases e
def intP : PN := fun ks => match ks with
  | [(_, .int i)] => some (0, 0, .int i)
  | [(_, .bl b)] => some (0, 0, .int (if b then 1 else 0))
  | _ => none
theorem sm_intC : SimN intC intP := fun C S as ks z hC h e => by
  unfold intP at e
  split at e
  · obtain ⟨a, rfl, h1⟩ := k1 h
    simp only [Rt] at h1
    subst h1
    cases e
    exact resI
  · obtain ⟨a, rfl, h1⟩ := k1 h
    simp only [Rt] at h1
    subst h1
    cases e
    exact resI
  · cases e
/-! sequences -/
def ixP : P2 := fun k t _ u => match t, u with
  | .lst ts, .int i => (atI ts i).map fun t => (k - 1, 0, t)
  | .tup _ ts, .int i => (atI ts i).map fun t => (k - 1, 0, t)
  | _, _ => none
theorem RtL.at {C : Nat → Nat → Prop} {S : List O} {k : Nat} {as : List A} {ts : List T} {i : Int} {t : T} (h : RtL C S k as ts) (e : atI ts i = some t) : ∃ a, atI as i = some a ∧ Rt C S k a t := by
  unfold atI at e ⊢
  rw [h.len]
  cases hx : ixN ts.length i with
  | none =>
    rw [hx] at e
    cases e
  | some j =>
    rw [hx] at e
    exact h.get e
theorem sm_ix : Sim2 ixG ixP := fun C S k1 k2 a b t1 t2 z hC h1 h2 e => by
  unfold ixP at e
  split at e
  · rename_i ts i
    simp only [Rt] at h1 h2
    subst h2
    obtain ⟨l, as, rfl, g, _, r⟩ := h1
    cases hx : atI ts i with
    | none =>
      rw [hx] at e
      cases e
    | some t =>
      rw [hx] at e
      cases e
      obtain ⟨a, ha, hr⟩ := r.at hx
      rw [g_ixL g ha]
      exact resSame hr
  · rename_i ts i
    simp only [Rt] at h1 h2
    subst h2
    obtain ⟨l, as, rfl, g, _, r⟩ := h1
    cases hx : atI ts i with
    | none =>
      rw [hx] at e
      cases e
    | some t =>
      rw [hx] at e
      cases e
      obtain ⟨a, ha, hr⟩ := r.at hx
      rw [g_ixT g ha]
      exact resSame hr
  · cases e
def lenP : PN := fun ks => match ks with
  | [(_, .lst ts)] => some (0, 0, .int ts.length)
  | [(_, .tup _ ts)] => some (0, 0, .int ts.length)
  | [(_, .str z)] => if z.length ≤ 1000000 then some (0, 0, .int z.length) else none
  | _ => none
theorem sm_len : SimN lenG lenP := fun C S as ks z hC h e => by
  unfold lenP at e
  split at e
  · obtain ⟨a, rfl, h1⟩ := k1 h
    simp only [Rt] at h1
    obtain ⟨l, as, rfl, g, _, r⟩ := h1
    cases e
    rw [g_lenL g, r.len]
    exact resI
  · obtain ⟨a, rfl, h1⟩ := k1 h
    simp only [Rt] at h1
    obtain ⟨l, as, rfl, g, _, r⟩ := h1
    cases e
    rw [g_lenT g, r.len]
    exact resI
  · obtain ⟨a, rfl, h1⟩ := k1 h
    simp only [Rt] at h1
    subst h1
    split at e
    · rename_i hl
      cases e
      show ResZ C S (if _ then _ else _) _
      rw [if_pos hl]
      exact resI
    · cases e
  · cases e
def tupP : PN := fun ks => match ks with
  | [(k, .lst ts)] => if k ≤ 1 then some (tupz ts) else none
  | [(k, .tup z ts)] => some (k, 0, .tup z ts)
  | _ => none
theorem sm_tupC : SimN tupC tupP := fun C S as ks z hC h e => by
  unfold tupP at e
  split at e
  · obtain ⟨a, rfl, h1⟩ := k1 h
    split at e
    · rename_i k ts hk
      cases e
      simp only [Rt] at h1
      obtain ⟨l, as, rfl, g, _, r⟩ := h1
      rw [g_tupL g]
      rw [show k - 1 = 0 by omega] at r
      exact resT r
    · cases e
  · obtain ⟨a, rfl, h1⟩ := k1 h
    cases e
    have h2 := h1
    simp only [Rt] at h2
    obtain ⟨l, as, rfl, g, _, r⟩ := h2
    unfold tupC
    simp only
    rw [g]
    exact resSame h1
  · cases e
def lstP : PN := fun ks => match ks with
  | [(k, .lst ts)] => if k ≤ 1 then some (lstZ ts) else none
  | [(k, .tup _ ts)] => if k ≤ 1 then some (lstZ ts) else none
  | _ => none
theorem sm_lstC : SimN lstC lstP := fun C S as ks z hC h e => by
  unfold lstP at e
  split at e
  · obtain ⟨a, rfl, h1⟩ := k1 h
    split at e
    · rename_i k ts hk
      cases e
      simp only [Rt] at h1
      obtain ⟨l, as, rfl, g, _, r⟩ := h1
      unfold lstC
      simp only
      rw [g]
      rw [show k - 1 = 0 by omega] at r
      exact resL hC r
    · cases e
  · obtain ⟨a, rfl, h1⟩ := k1 h
    split at e
    · rename_i k _ ts hk
      cases e
      simp only [Rt] at h1
      obtain ⟨l, as, rfl, g, _, r⟩ := h1
      unfold lstC
      simp only
      rw [g]
      rw [show k - 1 = 0 by omega] at r
      exact resL hC r
    · cases e
  · cases e
def addP : P2 := fun k t k' u => match t, u with
  | .int i, .int j => some (0, 0, .int (i + j))
  | .str x, .str y => if x.length + y.length ≤ 1000000 then some (0, 0, .str (x ++ y)) else none
  | .lst ts, .lst us => if k ≤ 1 ∧ k' ≤ 1 ∧ ts.length + us.length ≤ 1000000 then some (lstZ (ts ++ us)) else none
  | .tup z ts, .tup z' us => if k ≤ 1 ∧ k' ≤ 1 ∧ ts.length + us.length ≤ 1000000 then (if ts.isEmpty then some (k', 0, .tup z' us) else if us.isEmpty then some (k, 0, .tup z ts) else some (tupz (ts ++ us))) else none
  | _, _ => none
theorem RtL.emp {C : Nat → Nat → Prop} {S : List O} {k : Nat} {as : List A} {ts : List T} (h : RtL C S k as ts) : as.isEmpty = ts.isEmpty := by
  have := h.len
  cases as <;> cases ts <;> simp at this ⊢
theorem sm_add : Sim2 addG addP := fun C S k1 k2 a b t1 t2 z hC h1 h2 e => by
  unfold addP at e
  split at e
  · simp only [Rt] at h1 h2
    subst h1 h2
    cases e
    exact resI
  · simp only [Rt] at h1 h2
    subst h1 h2
    split at e
    · rename_i hl
      cases e
      show ResZ C S (if _ then _ else _) _
      rw [if_pos hl]
      exact resS
    · cases e
  · split at e
    · rename_i hk
      cases e
      simp only [Rt] at h1 h2
      obtain ⟨l, as, rfl, g, _, r⟩ := h1
      obtain ⟨m, bs, rfl, g', _, r'⟩ := h2
      rw [show k1 - 1 = 0 by omega] at r
      rw [show k2 - 1 = 0 by omega] at r'
      show ResZ C S (addG _ _ _) _
      unfold addG
      simp only
      rw [g, g']
      simp only
      rw [if_pos (by rw [r.len, r'.len]; exact hk.2.2)]
      exact resL hC (r.app r')
    · cases e
  · split at e
    · rename_i z1 ts z2 us hk
      have h1' := h1
      have h2' := h2
      simp only [Rt] at h1 h2
      obtain ⟨l, as, rfl, g, _, r⟩ := h1
      obtain ⟨m, bs, rfl, g', _, r'⟩ := h2
      rw [show k1 - 1 = 0 by omega] at r
      rw [show k2 - 1 = 0 by omega] at r'
      show ResZ C S (addG _ _ _) _
      unfold addG
      simp only
      rw [g, g']
      simp only
      rw [if_pos (by rw [r.len, r'.len]; exact hk.2.2), r.emp, r'.emp]
      split at e
      · rename_i he
        cases e
        rw [if_pos he]
        exact resSame h2'
      · rename_i he
        rw [if_neg he]
        split at e
        · rename_i he2
          cases e
          rw [if_pos he2]
          exact resSame h1'
        · rename_i he2
          cases e
          rw [if_neg he2]
          exact resT (r.app r')
    · cases e
  · cases e
def mulP : P2 := fun k t _ u => match t, u with
  | .int i, .int j => if small64 i || small64 j || decide (i.natAbs.log2 + j.natAbs.log2 < 1000000) then some (0, 0, .int (i * j)) else none
  | .lst ts, .int m => if k ≤ 1 ∧ (decide (0 ≤ m) && decide (m ≤ 1000) && decide (ts.length ≤ 1000)) = true then some (lstZ (repA m.toNat ts)) else none
  | .tup z ts, .int m => if m = 1 then some (k, 0, .tup z ts) else if k ≤ 1 ∧ (decide (2 ≤ m) && decide (m ≤ 1000) && decide (ts.length ≤ 1000) && !ts.isEmpty) = true then some (tupz (repA m.toNat ts)) else none
  | _, _ => none
theorem sm_mul : Sim2 mulG mulP := fun C S k1 k2 a b t1 t2 z hC h1 h2 e => by
  unfold mulP at e
  split at e
  · simp only [Rt] at h1 h2
    subst h1 h2
    split at e
    · rename_i hl
      cases e
      show ResZ C S (if _ then _ else _) _
      rw [if_pos hl]
      exact resI
    · cases e
  · split at e
    · rename_i hk
      cases e
      simp only [Rt] at h1 h2
      subst h2
      obtain ⟨l, as, rfl, g, _, r⟩ := h1
      rw [show k1 - 1 = 0 by omega] at r
      show ResZ C S (mulG _ _ _) _
      unfold mulG
      simp only
      rw [g]
      simp only
      rw [if_pos (by rw [r.len]; exact hk.2)]
      exact resL hC (r.rep _)
    · cases e
  · have h1' := h1
    simp only [Rt] at h1 h2
    subst h2
    obtain ⟨l, as, rfl, g, _, r⟩ := h1
    show ResZ C S (mulG _ _ _) _
    unfold mulG
    simp only
    rw [g]
    simp only
    split at e
    · rename_i hm
      cases e
      rw [if_pos hm]
      exact resSame h1'
    · rename_i hm
      rw [if_neg hm]
      split at e
      · rename_i hk
        cases e
        rw [show k1 - 1 = 0 by omega] at r
        rw [if_pos (by rw [r.len, r.emp]; exact hk.2)]
        exact resT (r.rep _)
      · cases e
  · cases e
def revP : P1 := fun k t => match t with
  | .lst ts => if k ≤ 1 then some (lstZ ts.reverse) else none
  | _ => none
theorem sm_rev : Sim1 revG revP := fun C S k1 a t1 z hC h1 e => by
  unfold revP at e
  split at e
  · split at e
    · rename_i hk
      cases e
      simp only [Rt] at h1
      obtain ⟨l, as, rfl, g, _, r⟩ := h1
      rw [show k1 - 1 = 0 by omega] at r
      show ResZ C S (revG _ _) _
      unfold revG
      simp only
      rw [g]
      exact resL hC r.rev
    · cases e
  · cases e
/-! flat things in a sequence -/
def toIntsT : List T → Option (List Int)
  | [] => some []
  | .int i :: r => (toIntsT r).map (i :: ·)
  | _ :: _ => none
theorem toIntsT_rt {C : Nat → Nat → Prop} {S : List O} {k : Nat} : ∀ {ts : List T} {as : List A} {ns : List Int}, toIntsT ts = some ns → RtL C S k as ts → toInts as = some ns
  | [], [], _, e, _ => by cases e; rfl
  | [], _ :: _, _, _, x => by simp only [RtL] at x
  | _ :: _, [], _, _, x => by simp only [RtL] at x
  | .int i :: r, a :: as, ns, e, x => by
    simp only [RtL, Rt] at x
    obtain ⟨rfl, y⟩ := x
    simp only [toIntsT] at e
    cases hr : toIntsT r with
    | none => rw [hr] at e; cases e
    | some m =>
      rw [hr] at e
      cases e
      simp only [toInts]
      rw [toIntsT_rt hr y]
  | .non :: _, _ :: _, _, e, _ => by simp only [toIntsT] at e; cases e
  | .bl _ :: _, _ :: _, _, e, _ => by simp only [toIntsT] at e; cases e
  | .str _ :: _, _ :: _, _, e, _ => by simp only [toIntsT] at e; cases e
  | .ty _ :: _, _ :: _, _, e, _ => by simp only [toIntsT] at e; cases e
  | .row :: _, _ :: _, _, e, _ => by simp only [toIntsT] at e; cases e
  | .dic _ _ :: _, _ :: _, _, e, _ => by simp only [toIntsT] at e; cases e
  | .clo _ _ :: _, _ :: _, _, e, _ => by simp only [toIntsT] at e; cases e
  | .tup _ _ :: _, _ :: _, _, e, _ => by simp only [toIntsT] at e; cases e
  | .lst _ :: _, _ :: _, _, e, _ => by simp only [toIntsT] at e; cases e
theorem ints_rt {C : Nat → Nat → Prop} {S : List O} {k : Nat} : ∀ ns : List Int, RtL C S k (ns.map A.int) (ns.map T.int)
  | [] => by simp only [List.map_nil, RtL]
  | n :: ns => by
    simp only [List.map_cons, RtL, Rt]
    exact ⟨trivial, ints_rt ns⟩
theorem noLs_ints : ∀ ns : List Int, noLs (ns.map T.int) = true
  | [] => rfl
  | n :: ns => by
    simp only [List.map_cons, noLs, T.noL, Bool.true_and]
    exact noLs_ints ns
theorem toIntsT_map : ∀ ns : List Int, toIntsT (ns.map T.int) = some ns
  | [] => rfl
  | n :: ns => by
    simp only [List.map_cons, toIntsT]
    rw [toIntsT_map ns]
    rfl
def sortP : PN := fun ks => match ks with
  | [(_, .lst ts)] => (toIntsT ts).map fun ns => lstZ ((sortL ns).map T.int)
  | [(_, .tup _ ts)] => (toIntsT ts).map fun ns => lstZ ((sortL ns).map T.int)
  | _ => none
theorem sm_sort : SimN sortG sortP := fun C S as ks z hC h e => by
  unfold sortP at e
  split at e
  · rename_i k ts
    obtain ⟨a, rfl, h1⟩ := k1 h
    simp only [Rt] at h1
    obtain ⟨l, as, rfl, g, _, r⟩ := h1
    cases hn : toIntsT ts with
    | none => rw [hn] at e; cases e
    | some ns =>
      rw [hn] at e
      cases e
      show ResZ C S (sortG _ _) _
      unfold sortG
      simp only [intsOf]
      rw [g]
      simp only
      rw [toIntsT_rt hn r]
      exact resL hC (ints_rt _)
  · rename_i k z ts
    obtain ⟨a, rfl, h1⟩ := k1 h
    simp only [Rt] at h1
    obtain ⟨l, as, rfl, g, _, r⟩ := h1
    cases hn : toIntsT ts with
    | none => rw [hn] at e; cases e
    | some ns =>
      rw [hn] at e
      cases e
      show ResZ C S (sortG _ _) _
      unfold sortG
      simp only [intsOf]
      rw [g]
      simp only
      rw [toIntsT_rt hn r]
      exact resL hC (ints_rt _)
  · cases e
def mxP (b : Bool) : PN := fun ks => match ks with
  | [(_, .lst ts)] => (match toIntsT ts with
    | some ns => (mxL b ns).map fun m => (0, 0, .int m)
    | none => none)
  | _ => none
theorem sm_mx {b : Bool} : SimN (mxG b) (mxP b) := fun C S as ks z hC h e => by
  unfold mxP at e
  split at e
  · rename_i k ts
    obtain ⟨a, rfl, h1⟩ := k1 h
    simp only [Rt] at h1
    obtain ⟨l, as, rfl, g, _, r⟩ := h1
    cases hn : toIntsT ts with
    | none => rw [hn] at e; cases e
    | some ns =>
      rw [hn] at e
      simp only at e
      cases hm : mxL b ns with
      | none => rw [hm] at e; cases e
      | some m =>
        rw [hm] at e
        cases e
        show ResZ C S (mxG b _ _) _
        unfold mxG
        simp only [lstInts]
        rw [g]
        simp only
        rw [toIntsT_rt hn r]
        simp only
        rw [hm]
        exact resI
  · cases e
def sumP : PN := fun ks => match ks with
  | [(_, .lst ts)] => (toIntsT ts).map fun ns => (0, 0, .int ns.sum)
  | _ => none
theorem sm_sum : SimN sumG sumP := fun C S as ks z hC h e => by
  unfold sumP at e
  split at e
  · rename_i k ts
    obtain ⟨a, rfl, h1⟩ := k1 h
    simp only [Rt] at h1
    obtain ⟨l, as, rfl, g, _, r⟩ := h1
    cases hn : toIntsT ts with
    | none => rw [hn] at e; cases e
    | some ns =>
      rw [hn] at e
      cases e
      show ResZ C S (sumG _ _) _
      unfold sumG
      simp only [lstInts]
      rw [g]
      simp only
      rw [toIntsT_rt hn r]
      exact resI
  · cases e
def toBsT : List T → Option (List Bool)
  | [] => some []
  | .bl i :: r => (toBsT r).map (i :: ·)
  | _ :: _ => none
theorem toBsT_rt {C : Nat → Nat → Prop} {S : List O} {k : Nat} : ∀ {ts : List T} {as : List A} {ns : List Bool}, toBsT ts = some ns → RtL C S k as ts → toBs as = some ns
  | [], [], _, e, _ => by cases e; rfl
  | [], _ :: _, _, _, x => by simp only [RtL] at x
  | _ :: _, [], _, _, x => by simp only [RtL] at x
  | .bl i :: r, a :: as, ns, e, x => by
    simp only [RtL, Rt] at x
    obtain ⟨rfl, y⟩ := x
    simp only [toBsT] at e
    cases hr : toBsT r with
    | none => rw [hr] at e; cases e
    | some m =>
      rw [hr] at e
      cases e
      simp only [toBs]
      rw [toBsT_rt hr y]
  | .non :: _, _ :: _, _, e, _ => by simp only [toBsT] at e; cases e
  | .int _ :: _, _ :: _, _, e, _ => by simp only [toBsT] at e; cases e
  | .str _ :: _, _ :: _, _, e, _ => by simp only [toBsT] at e; cases e
  | .ty _ :: _, _ :: _, _, e, _ => by simp only [toBsT] at e; cases e
  | .row :: _, _ :: _, _, e, _ => by simp only [toBsT] at e; cases e
  | .dic _ _ :: _, _ :: _, _, e, _ => by simp only [toBsT] at e; cases e
  | .clo _ _ :: _, _ :: _, _, e, _ => by simp only [toBsT] at e; cases e
  | .tup _ _ :: _, _ :: _, _, e, _ => by simp only [toBsT] at e; cases e
  | .lst _ :: _, _ :: _, _, e, _ => by simp only [toBsT] at e; cases e
theorem toBsT_map {α : Type} (p : α → Bool) : ∀ xs : List α, toBsT (xs.map fun x => T.bl (p x)) = some (xs.map p)
  | [] => rfl
  | n :: ns => by
    simp only [List.map_cons, toBsT]
    rw [toBsT_map p ns]
    rfl
def allP (f : List Bool → Bool) : PN := fun ks => match ks with
  | [(_, .lst ts)] => (toBsT ts).map fun bs => (0, 0, .bl (f bs))
  | _ => none
theorem sm_all {f : List Bool → Bool} : SimN (allG f) (allP f) := fun C S as ks z hC h e => by
  unfold allP at e
  split at e
  · rename_i k ts
    obtain ⟨a, rfl, h1⟩ := k1 h
    simp only [Rt] at h1
    obtain ⟨l, as, rfl, g, _, r⟩ := h1
    cases hn : toBsT ts with
    | none => rw [hn] at e; cases e
    | some ns =>
      rw [hn] at e
      cases e
      show ResZ C S (allG _ _ _) _
      rw [g_all g (toBsT_rt hn r)]
      exact resB
  · cases e
/-! kinds of values -/
def tyT : T → Option String
  | .non => some "NoneType"
  | .bl _ => some "bool"
  | .int _ => some "int"
  | .str _ => some "str"
  | .lst _ => some "list"
  | .tup _ _ => some "tuple"
  | .dic _ _ => some "dict"
  | _ => none
theorem tyT_rt {C : Nat → Nat → Prop} {S : List O} {k : Nat} {a : A} {t : T} {n : String} (h : Rt C S k a t) (e : tyT t = some n) : tyN S a = some n := by
  cases t <;> simp only [tyT] at e <;> first | cases e | skip <;> simp only [Rt] at h
  all_goals first
    | (subst h; rfl)
    | (obtain ⟨l, as, rfl, g, _⟩ := h; simp only [tyN]; rw [g])
def isTy : T → Bool
  | .ty _ => true
  | _ => false
def isiAnyT (t : String) : List T → Option Bool
  | [] => some false
  | .ty n :: r => (match kitB t n, isiAnyT t r with
    | some true, some _ => some true
    | some false, some b => some b
    | _, _ => none)
  | _ :: _ => none
theorem isiAnyT_rt {C : Nat → Nat → Prop} {S : List O} {k : Nat} {n : String} : ∀ {ts : List T} {as : List A} {b : Bool}, isiAnyT n ts = some b → RtL C S k as ts → isiAny n as = some b ∧ (ts ≠ [] → noTy as = false)
  | [], [], _, e, _ => by cases e; exact ⟨rfl, fun h => absurd rfl h⟩
  | [], _ :: _, _, _, x => by simp only [RtL] at x
  | _ :: _, [], _, _, x => by simp only [RtL] at x
  | .ty m :: r, a :: as, b, e, x => by
    simp only [RtL, Rt] at x
    obtain ⟨rfl, y⟩ := x
    refine ⟨?_, fun _ => rfl⟩
    simp only [isiAnyT] at e
    simp only [isiAny]
    cases hk : kitB n m with
    | none => rw [hk] at e; cases e
    | some u =>
      rw [hk] at e
      cases hr : isiAnyT n r with
      | none => rw [hr] at e; cases u <;> cases e
      | some v =>
        rw [hr] at e
        rw [(isiAnyT_rt hr y).1]
        cases u <;> exact e
  | .non :: _, _ :: _, _, e, _ => by simp only [isiAnyT] at e; cases e
  | .int _ :: _, _ :: _, _, e, _ => by simp only [isiAnyT] at e; cases e
  | .str _ :: _, _ :: _, _, e, _ => by simp only [isiAnyT] at e; cases e
  | .bl _ :: _, _ :: _, _, e, _ => by simp only [isiAnyT] at e; cases e
  | .row :: _, _ :: _, _, e, _ => by simp only [isiAnyT] at e; cases e
  | .dic _ _ :: _, _ :: _, _, e, _ => by simp only [isiAnyT] at e; cases e
  | .clo _ _ :: _, _ :: _, _, e, _ => by simp only [isiAnyT] at e; cases e
  | .tup _ _ :: _, _ :: _, _, e, _ => by simp only [isiAnyT] at e; cases e
  | .lst _ :: _, _ :: _, _, e, _ => by simp only [isiAnyT] at e; cases e
def isiP : PN := fun ks => match ks with
  | [(_, t), (_, .ty n)] => (match tyT t with
    | some m => (kitB m n).map fun b => (0, 0, .bl b)
    | none => none)
  | [(_, t), (_, .tup _ (c :: cs))] => (match tyT t with
    | some m => (isiAnyT m (c :: cs)).map fun b => (0, 0, .bl b)
    | none => none)
  | _ => none
theorem sm_isi : SimN isiG isiP := fun C S as ks z hC h e => by
  unfold isiP at e
  split at e
  · rename_i k t k' n
    obtain ⟨a, b, rfl, h1, h2⟩ := k2 h
    simp only [Rt] at h2
    subst h2
    cases ht : tyT t with
    | none => rw [ht] at e; cases e
    | some m =>
      rw [ht] at e
      simp only at e
      cases hk : kitB m n with
      | none => rw [hk] at e; cases e
      | some b =>
        rw [hk] at e
        cases e
        show ResZ C S (isiG _ _) _
        rw [g_isi (tyT_rt h1 ht) hk]
        exact resB
  · rename_i k t k' zz c cs
    obtain ⟨a, b, rfl, h1, h2⟩ := k2 h
    simp only [Rt] at h2
    obtain ⟨l, as, rfl, g, _, r⟩ := h2
    cases ht : tyT t with
    | none => rw [ht] at e; cases e
    | some m =>
      rw [ht] at e
      simp only at e
      cases hk : isiAnyT m (c :: cs) with
      | none => rw [hk] at e; cases e
      | some b =>
        rw [hk] at e
        cases e
        obtain ⟨q1, q2⟩ := isiAnyT_rt hk r
        show ResZ C S (isiG _ _) _
        unfold isiG
        simp only
        rw [tyT_rt h1 ht, g]
        simp only
        rw [q2 (by simp), q1]
        exact resB
  · cases e
def isP (neg : Bool) : P2 := fun _ t _ u => match t, u with
  | .bl x, .bl y => some (0, 0, .bl (decide (x = y) != neg))
  | .non, .non => some (0, 0, .bl (!neg))
  | .bl _, .non => some (0, 0, .bl neg)
  | .int _, .non => some (0, 0, .bl neg)
  | .str _, .non => some (0, 0, .bl neg)
  | .tup _ _, .non => some (0, 0, .bl neg)
  | .lst _, .non => some (0, 0, .bl neg)
  | _, _ => none
theorem sm_is {neg : Bool} : Sim2 (isG neg) (isP neg) := fun C S k1 k2 a b t1 t2 z hC h1 h2 e => by
  unfold isP at e
  split at e <;> first | cases e; done | skip
  all_goals
    simp only [Rt] at h1 h2
    first
    | (subst h1 h2; cases e; exact resB)
    | (obtain ⟨l, as, rfl, _⟩ := h1; subst h2; cases e; exact resB)
    | cases e
/-! equal, and in -/
def tD : Nat → T → Option PyData
  | 0, _ => none
  | n + 1, t => match t with
    | .non => some .none
    | .bl b => some (.bool b)
    | .int i => some (.int i)
    | .str z => some (.str z)
    | .lst ts => (ts.foldr (fun x acc => match tD n x, acc with
        | some d, some ds => some (d :: ds)
        | _, _ => none) (some [])).map .list
    | .tup _ ts => (ts.foldr (fun x acc => match tD n x, acc with
        | some d, some ds => some (d :: ds)
        | _, _ => none) (some [])).map .tuple
    | _ => none
def tDs (n : Nat) (ts : List T) : Option (List PyData) := ts.foldr (fun x acc => match tD n x, acc with
        | some d, some ds => some (d :: ds)
        | _, _ => none) (some [])
theorem tDs_rt {C : Nat → Nat → Prop} {S : List O} {n : Nat} (ih : ∀ {k : Nat} {a : A} {t : T} {d : PyData}, Rt C S k a t → tD n t = some d → toD S n a = some d) : ∀ {ts : List T} {k : Nat} {as : List A} {ds : List PyData}, RtL C S k as ts → tDs n ts = some ds → toDs S n as = some ds
  | [], _, [], _, _, e => e
  | [], _, _ :: _, _, x, _ => by simp only [RtL] at x
  | _ :: _, _, [], _, x, _ => by simp only [RtL] at x
  | t :: ts, k, a :: as, ds, x, e => by
    simp only [RtL] at x
    unfold tDs at e
    rw [List.foldr_cons] at e
    unfold toDs
    rw [List.foldr_cons]
    cases hd : tD n t with
    | none => rw [hd] at e; cases e
    | some d =>
      rw [hd] at e
      change (match some d, tDs n ts with | some d, some ds => some (d :: ds) | _, _ => none) = _ at e
      cases hr : tDs n ts with
      | none => rw [hr] at e; cases e
      | some us =>
        rw [hr] at e
        rw [ih x.1 hd]
        change (match some d, toDs S n as with | some d, some ds => some (d :: ds) | _, _ => none) = _
        rw [tDs_rt ih x.2 hr]
        exact e
theorem tD_rt {C : Nat → Nat → Prop} {S : List O} : ∀ {n k : Nat} {a : A} {t : T} {d : PyData}, Rt C S k a t → tD n t = some d → toD S n a = some d
  | 0, _, _, _, _, _, e => by cases e
  | n + 1, k, a, t, d, x, e => by
    cases t with
    | lst ts =>
      simp only [Rt] at x
      obtain ⟨l, as, rfl, g, _, r⟩ := x
      change (tDs n ts).map PyData.list = some d at e
      show (match S[l]? with
      | some (.lst xs) => (toDs S n xs).map PyData.list
      | some (.tup xs) => (toDs S n xs).map PyData.tuple
      | _ => none) = some d
      rw [g]
      simp only
      cases hr : tDs n ts with
      | none => rw [hr] at e; cases e
      | some us =>
        rw [hr] at e
        rw [tDs_rt (fun {k a t d} => tD_rt (n := n)) r hr]
        exact e
    | tup z ts =>
      simp only [Rt] at x
      obtain ⟨l, as, rfl, g, _, r⟩ := x
      change (tDs n ts).map PyData.tuple = some d at e
      show (match S[l]? with
      | some (.lst xs) => (toDs S n xs).map PyData.list
      | some (.tup xs) => (toDs S n xs).map PyData.tuple
      | _ => none) = some d
      rw [g]
      simp only
      cases hr : tDs n ts with
      | none => rw [hr] at e; cases e
      | some us =>
        rw [hr] at e
        rw [tDs_rt (fun {k a t d} => tD_rt (n := n)) r hr]
        exact e
    | row => cases e
    | dic _ _ => cases e
    | ty _ => cases e
    | clo _ _ => cases e
    | _ => simp only [Rt] at x; subst x; exact e
def eqP (neg : Bool) : P2 := fun _ t _ u => match tD 12 t, tD 12 u with
  | some d, some e => if SeqAt.shaped d && SeqAt.shaped e then some (0, 0, .bl (if neg then !PyData.eqv d e else PyData.eqv d e)) else none
  | _, _ => none
theorem sm_eq {neg : Bool} : Sim2 (eqG neg) (eqP neg) := fun C S k1 k2 a b t1 t2 z hC h1 h2 e => by
  unfold eqP at e
  split at e
  · rename_i d1 d2 e1 e2
    split at e
    · rename_i hs
      cases e
      show ResZ C S (eqG neg a b S) _
      unfold eqG
      rw [tD_rt h1 e1, tD_rt h2 e2]
      simp only
      rw [if_pos hs]
      exact resB
    · cases e
  · cases e
def tV : T → Option V
  | .non => some .non
  | .bl b => some (.bl b)
  | .int i => some (.int i)
  | .str z => some (.str z)
  | _ => none
def tVs : List T → Option (List V)
  | [] => some []
  | a :: as => match tV a, tVs as with
    | some v, some vs => some (v :: vs)
    | _, _ => none
theorem tV_rt {C : Nat → Nat → Prop} {S : List O} {k : Nat} {a : A} {t : T} {v : V} (h : Rt C S k a t) (e : tV t = some v) : toV a = some v := by
  cases t <;> simp only [tV] at e <;> cases e <;> simp only [Rt] at h <;> subst h <;> rfl
theorem tVs_rt {C : Nat → Nat → Prop} {S : List O} {k : Nat} : ∀ {ts : List T} {as : List A} {vs : List V}, RtL C S k as ts → tVs ts = some vs → toVs as = some vs
  | [], [], _, _, e => e
  | [], _ :: _, _, x, _ => by simp only [RtL] at x
  | _ :: _, [], _, x, _ => by simp only [RtL] at x
  | t :: ts, a :: as, vs, x, e => by
    simp only [RtL] at x
    simp only [tVs] at e
    simp only [toVs]
    cases hv : tV t with
    | none => rw [hv] at e; cases e
    | some v =>
      rw [hv] at e
      cases hr : tVs ts with
      | none => rw [hr] at e; cases e
      | some us =>
        rw [hr] at e
        rw [tV_rt x.1 hv, tVs_rt x.2 hr]
        exact e
def inP (neg : Bool) : P2 := fun _ t _ u => match u with
  | .lst us => (match tV t, tVs us with
    | some v, some vs => some (0, 0, .bl (if neg then !inV v vs else inV v vs))
    | _, _ => none)
  | .tup _ us => (match tV t, tVs us with
    | some v, some vs => some (0, 0, .bl (if neg then !inV v vs else inV v vs))
    | _, _ => none)
  | _ => none
theorem sm_in {neg : Bool} : Sim2 (inG neg) (inP neg) := fun C S k1 k2 a b t1 t2 z hC h1 h2 e => by
  unfold inP at e
  split at e
  · simp only [Rt] at h2
    obtain ⟨l, as, rfl, g, _, r⟩ := h2
    split at e
    · rename_i v vs e1 e2
      cases e
      show ResZ C S (inG neg a _ S) _
      unfold inG
      simp only
      rw [g]
      simp only
      rw [tV_rt h1 e1, tVs_rt r e2]
      exact resB
    · cases e
  · simp only [Rt] at h2
    obtain ⟨l, as, rfl, g, _, r⟩ := h2
    split at e
    · rename_i v vs e1 e2
      cases e
      show ResZ C S (inG neg a _ S) _
      unfold inG
      simp only
      rw [g]
      simp only
      rw [tV_rt h1 e1, tVs_rt r e2]
      exact resB
    · cases e
  · cases e
end Vai
set_option maxRecDepth 100000
set_option maxHeartbeats 2000000
namespace Vai
open PySem L2
theorem RtK.args {C : Nat → Nat → Prop} {S : List O} {ks : List (Nat × T)} {as : List A} {ts : List T} (h : RtK C S as ks) (e : args0 ks = some ts) : RtL C S 0 as ts := args0_rt e h
theorem out_z {C : Nat → Nat → Prop} {S : List O} {y : Option (A × List O)} {z : Nat × Nat × T} {w : Wr} (h : ResZ C S y z) (r : RowR S w) : Out C S.length S (toR y) (.ok z.1 z.2.1 z.2.2) w := by
  obtain ⟨c, S', rfl, p, h1, h2⟩ := h
  exact ⟨_, rfl, But.of p, r.up p, h1, h2⟩
def newLP (φ : PFL) : PF := fun ρ w => bindPL (φ ρ w) fun ks w1 => match args0 ks with
  | some ts => if ts.length ≤ 1000000 then some (.ok 0 (if noLs ts = true then 1 else 0) (.lst ts), w1) else none
  | none => none
theorem sim_newL {fl : FL} {φ : PFL} (ha : SimL fl φ) : SimF (newF O.lst fl) (newLP φ) := sim_bndL (k := fun as => fun _ S => if as.length ≤ 1000000 then some (.ok (.ref S.length) (S ++ [.lst as])) else none) (κ := fun ks _ w1 => match args0 ks with
  | some ts => if ts.length ≤ 1000000 then some (.ok 0 (if noLs ts = true then 1 else 0) (.lst ts), w1) else none
  | none => none) ha fun X fps S sa ρ w w' r as ks E hr h e => by
  split at e
  · rename_i ts ht
    have q := h.args ht
    split at e
    · rename_i hl
      cases e
      show Out _ _ _ (if _ then _ else _) _ _
      rw [if_pos (by rw [q.len]; exact hl)]
      exact out_z (resL (fun k l hl => E.new hl) q) hr
    · cases e
  · cases e
def newTP (φ : PFL) : PF := fun ρ w => bindPL (φ ρ w) fun ks w1 => match args0 ks with
  | some ts => if ts.length ≤ 1000000 then some (.ok 0 0 (.tup false ts), w1) else none
  | none => none
theorem sim_newT {fl : FL} {φ : PFL} (ha : SimL fl φ) : SimF (newF O.tup fl) (newTP φ) := sim_bndL (k := fun as => fun _ S => if as.length ≤ 1000000 then some (.ok (.ref S.length) (S ++ [.tup as])) else none) (κ := fun ks _ w1 => match args0 ks with
  | some ts => if ts.length ≤ 1000000 then some (.ok 0 0 (.tup false ts), w1) else none
  | none => none) ha fun X fps S sa ρ w w' r as ks E hr h e => by
  split at e
  · rename_i ts ht
    have q := h.args ht
    split at e
    · rename_i hl
      cases e
      show Out _ _ _ (if _ then _ else _) _ _
      rw [if_pos (by rw [q.len]; exact hl)]
      exact out_z (resT q) hr
    · cases e
  · cases e
/-! tuples that know themselves -/
def noTyT (ts : List T) : Bool := ts.all fun t => !isTy t
theorem noTyT_rt {C : Nat → Nat → Prop} {S : List O} {k : Nat} : ∀ {ts : List T} {as : List A}, noTyT ts = true → RtL C S k as ts → noTy as = true
  | [], [], _, _ => rfl
  | [], _ :: _, _, x => by simp only [RtL] at x
  | _ :: _, [], _, x => by simp only [RtL] at x
  | t :: ts, a :: as, h, x => by
    simp only [RtL] at x
    unfold noTyT at h
    rw [List.all_cons, Bool.and_eq_true] at h
    have ih := noTyT_rt (ts := ts) h.2 x.2
    unfold noTy at ih ⊢
    rw [List.all_cons, ih, Bool.and_true]
    cases t with
    | ty n => cases h.1
    | tup _ _ => have y := x.1; simp only [Rt] at y; obtain ⟨l, _, rfl, _⟩ := y; rfl
    | lst _ => have y := x.1; simp only [Rt] at y; obtain ⟨l, _, rfl, _⟩ := y; rfl
    | dic _ _ => have y := x.1; simp only [Rt] at y; obtain ⟨l, _, rfl, _⟩ := y; rfl
    | clo id d => have y := x.1; cases d <;> simp only [Rt] at y <;> (obtain ⟨l, _, y⟩ := y; first | (obtain ⟨rfl, _⟩ := y; rfl) | (obtain ⟨_, _, rfl, _⟩ := y; rfl))
    | _ => have y := x.1; simp only [Rt] at y; subst y; rfl
theorem resZ {C : Nat → Nat → Prop} {S : List O} {as : List A} {ts : List T} (h : RtL C S 0 as ts) : ResZ C S (some (.ref S.length, S ++ [.tup as] ++ [.fz S.length])) (0, 0, .tup true ts) := by
  have p : S <+: S ++ [.tup as] ++ [.fz S.length] := pft (pfa S _) (pfa _ _)
  refine ⟨_, _, rfl, p, ?_, .inl rfl⟩
  simp only [Rt]
  exact ⟨_, _, rfl, at_up (pfa _ _) at_new, fun _ => by simp, h.up p⟩
def okZT (ts : List T) : Bool := decide (ts.length ≤ 1000000) && noTyT ts
theorem okZT_rt {C : Nat → Nat → Prop} {S : List O} {k : Nat} {ts : List T} {as : List A} (h : okZT ts = true) (x : RtL C S k as ts) : okZ as = true := by
  unfold okZT at h
  rw [Bool.and_eq_true] at h
  unfold okZ
  rw [noTyT_rt h.2 x, x.len, h.1]
  rfl
def newZP (φ : PFL) : PF := fun ρ w => bindPL (φ ρ w) fun ks w1 => match args0 ks with
  | some ts => if okZT ts = true then some (.ok 0 0 (.tup true ts), w1) else none
  | none => none
theorem sim_newZ {fl : FL} {φ : PFL} (ha : SimL fl φ) : SimF (newZ fl) (newZP φ) := sim_bndL (k := fun as => fun _ S => if okZ as = true then some (.ok (.ref S.length) (S ++ [.tup as] ++ [.fz S.length])) else none) (κ := fun ks _ w1 => match args0 ks with
  | some ts => if okZT ts = true then some (.ok 0 0 (.tup true ts), w1) else none
  | none => none) ha fun X fps S sa ρ w w' r as ks E hr h e => by
  split at e
  · rename_i ts ht
    have q := h.args ht
    split at e
    · rename_i hl
      cases e
      show Out _ _ _ (if _ then _ else _) _ _
      rw [if_pos (okZT_rt hl q)]
      exact out_z (resZ q) hr
    · cases e
  · cases e
def tupZP : PN := fun ks => match ks with
  | [(k, .lst ts)] => if k ≤ 1 ∧ okZT ts = true then some (0, 0, .tup true ts) else none
  | _ => none
theorem sm_tupZ : SimN tupZG tupZP := fun C S as ks z hC h e => by
  unfold tupZP at e
  split at e
  · obtain ⟨a, rfl, h1⟩ := k1 h
    split at e
    · rename_i k ts hk
      cases e
      simp only [Rt] at h1
      obtain ⟨l, as, rfl, g, _, r⟩ := h1
      rw [show k - 1 = 0 by omega] at r
      show ResZ C S (tupZG _ _) _
      unfold tupZG
      simp only
      rw [g]
      simp only
      rw [if_pos (okZT_rt hk.2 r)]
      exact resZ r
    · cases e
  · cases e
def catZP : P2 := fun k t k' u => match t, u with
  | .tup z ts, .tup z' us => if k ≤ 1 ∧ k' ≤ 1 ∧ okZT (ts ++ us) = true then (if ts.isEmpty then some (k', 0, .tup z' us) else if us.isEmpty then some (k, 0, .tup z ts) else some (0, 0, .tup true (ts ++ us))) else none
  | _, _ => none
theorem sm_catZ : Sim2 catZG catZP := fun C S k1 k2 a b t1 t2 z hC h1 h2 e => by
  unfold catZP at e
  split at e
  · split at e
    · rename_i z1 ts z2 us hk
      have h1' := h1
      have h2' := h2
      simp only [Rt] at h1 h2
      obtain ⟨l, as, rfl, g, _, r⟩ := h1
      obtain ⟨m, bs, rfl, g', _, r'⟩ := h2
      rw [show k1 - 1 = 0 by omega] at r
      rw [show k2 - 1 = 0 by omega] at r'
      show ResZ C S (catZG _ _ _) _
      unfold catZG
      simp only
      rw [g, g']
      simp only
      rw [if_pos (okZT_rt hk.2.2 (r.app r')), r.emp, r'.emp]
      split at e
      · rename_i he
        cases e
        rw [if_pos he]
        exact resSame h2'
      · rename_i he
        rw [if_neg he]
        split at e
        · rename_i he2
          cases e
          rw [if_pos he2]
          exact resSame h1'
        · rename_i he2
          cases e
          rw [if_neg he2]
          exact resZ (r.app r')
    · cases e
  · cases e
def idxP (φ : PF) (ψ : PFL) : PF := fun ρ w => bindP (φ ρ w) fun _ t w1 => match t with
  | .tup true ts => bindPL (ψ ρ w1) fun ks w2 => (match ks with
    | [(_, .int i)] => (match toIntsT ts with
      | some ns => (idxI i ns).map fun j => (PR.ok 0 0 (.int (j : Nat)), w2)
      | none => none)
    | _ => none)
  | _ => none
theorem sim_idx {fo : F} {fl : FL} {φ : PF} {ψ : PFL} (ho : SimF fo φ) (hl : SimL fl ψ) : SimF (mtF isFzB idxG fo fl) (idxP φ ψ) := sim_bnd (k := fun x sa S => if isFzB S x = true then bndL fl (fun as _ S2 => toR (idxG x as S2)) sa S else none) (κ := fun _ t ρ w1 => match t with
  | .tup true ts => bindPL (ψ ρ w1) fun ks w2 => (match ks with
    | [(_, .int i)] => (match toIntsT ts with
      | some ns => (idxI i ns).map fun j => (PR.ok 0 0 (.int (j : Nat)), w2)
      | none => none)
    | _ => none)
  | _ => none) ho fun X fps S sa ρ w w' r a j t E hr h e => by
  split at e
  · rename_i ts
    have h0 := h
    simp only [Rt] at h
    obtain ⟨l, as, rfl, g, fz, q⟩ := h
    simp only [bindPL] at e
    show Out _ _ _ (if isFzB S (.ref l) = true then _ else _) _ _
    rw [if_pos (show isFzB S (.ref l) = true from decide_eq_true (fz trivial))]
    unfold bndL
    split at e
    · rename_i ks w2 e2
      obtain ⟨x, g1, g2, g3, g4⟩ := hl X fps S sa ρ w w2 _ E hr e2
      cases x with
      | er c S1 => simp only [ResL] at g4
      | ok bs S2 =>
        simp only [ResL, stL] at g4 g2 g3
        rw [g1]
        simp only
        split at e
        · rename_i k i
          obtain ⟨b, rfl, hb⟩ := k1 g4
          simp only [Rt] at hb
          subst hb
          split at e
          · rename_i ns hn
            cases hi : idxI i ns with
            | none => rw [hi] at e; cases e
            | some m =>
              rw [hi] at e
              cases e
              have mv := but_mv (Y := fun l => l = 1) g2 hr rfl
              have : idxG (.ref l) [.int i] S2 = some (.int (m : Nat), S2) := by
                unfold idxG
                simp only
                rw [mv.2 l _ g fun _ => rfl]
                simp only
                rw [toIntsT_rt hn q]
                simp only
                rw [if_pos (decide_eq_true (mv.fz (fz trivial))), hi]
                rfl
              rw [this]
              exact ⟨_, rfl, g2, g3, by simp only [ResR, Rt]; exact ⟨trivial, .inl rfl⟩⟩
          · cases e
        · cases e
    · rename_i c w2 e2
      obtain ⟨x, g1, g2, g3, g4⟩ := hl X fps S sa ρ w w2 _ E hr e2
      cases x with
      | ok a S1 => simp only [ResL] at g4
      | er c S2 =>
        simp only [ResL] at g4
        cases e
        rw [g1]
        exact ⟨_, rfl, g2, g3, g4⟩
    · cases e
  · cases e
/-! ranges, sets of numbers -/
def rgT (a b : Int) : List T := (List.range (b - a).toNat).map fun i => T.int (a + (i : Nat))
theorem rgT_rt {C : Nat → Nat → Prop} {S : List O} {k : Nat} {a b : Int} : RtL C S k (rgA a b) (rgT a b) := by
  unfold rgA rgT
  induction List.range (b - a).toNat with
  | nil => simp only [List.map_nil, RtL]
  | cons x xs ih =>
    simp only [List.map_cons, RtL, Rt]
    exact ⟨trivial, ih⟩
def rgLP (φ : PF) : PF := fun ρ w => bindP (φ ρ w) fun _ t w1 => match t with
  | .int n => if rgOkB 0 n = true then some (.ok (lstZ (rgT 0 n)).1 (lstZ (rgT 0 n)).2.1 (lstZ (rgT 0 n)).2.2, w1) else none
  | _ => none
theorem sim_rgL {fa : F} {φ : PF} (ha : SimF fa φ) : SimF (rg1F O.lst fa) (rgLP φ) := sim_bnd (k := fun a => fun _ S => match a with
  | .int n => if rgOkB 0 n then some (.ok (.ref S.length) (S ++ [.lst (rgA 0 n)])) else none
  | _ => none) (κ := fun _ t _ w1 => match t with
  | .int n => if rgOkB 0 n = true then some (.ok (lstZ (rgT 0 n)).1 (lstZ (rgT 0 n)).2.1 (lstZ (rgT 0 n)).2.2, w1) else none
  | _ => none) ha fun X fps S sa ρ w w' r a j t E hr h e => by
  split at e
  · simp only [Rt] at h
    subst h
    split at e
    · rename_i n hn
      cases e
      show Out _ _ _ (if _ then _ else _) _ _
      rw [if_pos hn]
      exact out_z (resL (fun k l hl => E.new hl) rgT_rt) hr
    · cases e
  · cases e
def sortSetP (φ : PF) : PF := fun ρ w => bindP (φ ρ w) fun _ t w1 => match t with
  | .lst ts => (match toIntsT ts with
    | some ns => if ns.length < 63 then some (.ok (lstZ ((ssort ns).map T.int)).1 (lstZ ((ssort ns).map T.int)).2.1 (lstZ ((ssort ns).map T.int)).2.2, w1) else none
    | none => none)
  | _ => none
theorem sim_sortSet {fa : F} {φ : PF} (ha : SimF fa φ) : SimF (sortSetF fa) (sortSetP φ) := sim_bnd (k := fun a _ S => match a with
  | .ref l => (match lstInts S l with
    | some ns => if ns.length < 63 then some (.ok (.ref S.length) (S ++ [.lst ((ssort ns).map A.int)])) else none
    | none => none)
  | _ => none) (κ := fun _ t _ w1 => match t with
  | .lst ts => (match toIntsT ts with
    | some ns => if ns.length < 63 then some (.ok (lstZ ((ssort ns).map T.int)).1 (lstZ ((ssort ns).map T.int)).2.1 (lstZ ((ssort ns).map T.int)).2.2, w1) else none
    | none => none)
  | _ => none) ha fun X fps S sa ρ w w' r a j t E hr h e => by
  split at e
  · rename_i ts
    simp only [Rt] at h
    obtain ⟨l, as, rfl, g, _, q⟩ := h
    split at e
    · rename_i ns hn
      split at e
      · rename_i hl
        cases e
        show Out _ _ _ (match lstInts S l with
          | some ns => if ns.length < 63 then some (.ok (.ref S.length) (S ++ [.lst ((ssort ns).map A.int)])) else none
          | none => none) _ _
        unfold lstInts
        rw [g]
        simp only
        rw [toIntsT_rt hn q]
        simp only
        rw [if_pos hl]
        exact out_z (resL (fun k l hl => E.new hl) (ints_rt _)) hr
      · cases e
    · cases e
  · cases e
def truT : T → Option Bool
  | .non => some false
  | .bl b => some b
  | .int i => some (i != 0)
  | .lst xs => some (!xs.isEmpty)
  | .tup _ xs => some (!xs.isEmpty)
  | _ => none
theorem truT_rt {C : Nat → Nat → Prop} {S : List O} {k : Nat} {a : A} {t : T} {b : Bool} (h : Rt C S k a t) (e : truT t = some b) : truB S a = some b := by
  cases t <;> simp only [truT] at e <;> first | cases e; done | skip <;> simp only [Rt] at h
  all_goals first
    | (subst h; exact e)
    | (obtain ⟨l, as, rfl, g, _, r⟩ := h; simp only [truB]; rw [g]; simp only; rw [r.emp]; exact e)
    | cases e
def truP (φ : PF) : PF := fun ρ w => bindP (φ ρ w) fun _ t w1 => match truT t with
  | some b => some (.ok 0 0 (.bl b), w1)
  | none => none
theorem sim_tru {fa : F} {φ : PF} (ha : SimF fa φ) : SimF (truF fa) (truP φ) := sim_bnd (k := fun a _ S => match truB S a with
  | some b => some (.ok (.bl b) S)
  | none => none) (κ := fun _ t _ w1 => match truT t with
  | some b => some (.ok 0 0 (.bl b), w1)
  | none => none) ha fun X fps S sa ρ w w' r a j t E hr h e => by
  split at e
  · rename_i b hb
    cases e
    show Out _ _ _ (match truB S a with
      | some b => some (.ok (.bl b) S)
      | none => none) _ _
    rw [truT_rt h hb]
    exact ok0 (by simp only [Rt]) hr
  · cases e
/-! ## what is gone through -/
inductive PI where
  | ok (k : Nat) (ts : List T) | er (c : Nat)
abbrev PFI := En → Wr → Option (PI × Wr)
def ItsR (C : Nat → Nat → Prop) (S : List O) (i : Its) (k : Nat) (ts : List T) : Prop := ∃ as, RtL C S (k - 1) as ts ∧ itsLen i S = as.length ∧ ∀ (Y : Nat → Prop) (G : List O), Mv Y S G → (∀ l, Y l → ¬ C k l) → ∀ j, itemAt i j G = some as[j]?
def SimI (f : FI) (φ : PFI) : Prop := ∀ (X : Nat → Prop) (fps : List (List Nat)) (S : List O) (sa : Sa) (ρ : En) (w w' : Wr) (r : PI), EnvR X fps S sa ρ → RowR S w → φ ρ w = some (r, w') →
  ∃ x, f sa S = some x ∧ But 1 S (stI x) ∧ RowR (stI x) w' ∧ (match x, r with
    | .ok i S', .ok k ts => ItsR (Cx X fps) S' i k ts
    | .er c _, .er c' => c = c'
    | _, _ => False)
def seqIP (φ : PF) : PFI := fun ρ w => match φ ρ w with
  | some (.ok k _ (.lst ts), w1) => some (.ok k ts, w1)
  | some (.ok k _ (.tup _ ts), w1) => some (.ok k ts, w1)
  | some (.er c, w1) => some (.er c, w1)
  | _ => none
theorem sim_seqI {fa : F} {φ : PF} (ha : SimF fa φ) : SimI (seqI fa) (seqIP φ) := fun X fps S sa ρ w w' r E hr h => by
  unfold seqIP at h
  unfold seqI
  split at h
  · rename_i k fr ts w1 e
    cases h
    obtain ⟨x, h1, h2, h3, h4⟩ := ha X fps S sa ρ w w' _ E hr e
    cases x with
    | er c S1 => simp only [ResR] at h4
    | ok a S1 =>
      simp only [ResR, Rt] at h4
      obtain ⟨⟨l, as, rfl, g, c, q⟩, _⟩ := h4
      rw [h1]
      simp only
      rw [g]
      refine ⟨_, rfl, h2, h3, as, q, by simp only [itsLen]; rw [g], fun Y G m hy j => ?_⟩
      simp only [itemAt]
      rw [m.2 l _ g fun y => absurd c (hy l y)]
  · rename_i k fr z ts w1 e
    cases h
    obtain ⟨x, h1, h2, h3, h4⟩ := ha X fps S sa ρ w w' _ E hr e
    cases x with
    | er c S1 => simp only [ResR] at h4
    | ok a S1 =>
      simp only [ResR, Rt] at h4
      obtain ⟨⟨l, as, rfl, g, c, q⟩, _⟩ := h4
      rw [h1]
      simp only
      rw [g]
      refine ⟨_, rfl, h2, h3, as, q, by simp only [itsLen]; rw [g], fun Y G m hy j => ?_⟩
      simp only [itemAt]
      rw [m.2 l _ g fun _ => rfl]
  · rename_i c w1 e
    cases h
    obtain ⟨x, h1, h2, h3, h4⟩ := ha X fps S sa ρ w w' _ E hr e
    cases x with
    | ok a S1 => simp only [ResR] at h4
    | er c S1 =>
      simp only [ResR] at h4
      rw [h1]
      exact ⟨_, rfl, h2, h3, h4⟩
  · cases h
def rngT (lo : Int) (n : Nat) : List T := (List.range n).map fun i => T.int (lo + (i : Nat))
theorem its_rg {C : Nat → Nat → Prop} {S : List O} {lo : Int} {n k : Nat} : ItsR C S (.rg lo n) k (rngT lo n) := by
  refine ⟨(List.range n).map fun i => A.int (lo + (i : Nat)), ?_, by simp [itsLen], fun Y G m hy j => ?_⟩
  · unfold rngT
    induction List.range n with
    | nil => simp only [List.map_nil, RtL]
    | cons x xs ih =>
      simp only [List.map_cons, RtL, Rt]
      exact ⟨trivial, ih⟩
  · simp only [itemAt]
    rw [List.getElem?_map]
    split
    · rename_i h
      rw [List.getElem?_range h]
      rfl
    · rename_i h
      rw [List.getElem?_eq_none (by simp; omega)]
      rfl
def rg1IP (φ : PFL) : PFI := fun ρ w => match φ ρ w with
  | some (.ok [(_, .int j)], w1) => if inBd j = true then some (.ok 0 (rngT 0 j.toNat), w1) else none
  | some (.er c, w1) => some (.er c, w1)
  | _ => none
theorem sim_rg1 {fl : FL} {φ : PFL} (ha : SimL fl φ) : SimI (rg1I fl) (rg1IP φ) := fun X fps S sa ρ w w' r E hr h => by
  unfold rg1IP at h
  unfold rg1I
  split at h
  · rename_i k j w1 e
    split at h
    · rename_i hb
      cases h
      obtain ⟨x, h1, h2, h3, h4⟩ := ha X fps S sa ρ w w' _ E hr e
      cases x with
      | er c S1 => simp only [ResL] at h4
      | ok as S1 =>
        simp only [ResL] at h4
        obtain ⟨a, rfl, q⟩ := k1 h4
        simp only [Rt] at q
        subst q
        rw [h1]
        simp only
        rw [if_pos hb]
        exact ⟨_, rfl, h2, h3, its_rg⟩
    · cases h
  · rename_i c w1 e
    cases h
    obtain ⟨x, h1, h2, h3, h4⟩ := ha X fps S sa ρ w w' _ E hr e
    cases x with
    | ok a S1 => simp only [ResL] at h4
    | er c S1 =>
      simp only [ResL] at h4
      rw [h1]
      exact ⟨_, rfl, h2, h3, h4⟩
  · cases h
def rg2IP (φ : PFL) : PFI := fun ρ w => match φ ρ w with
  | some (.ok [(_, .int i), (_, .int j)], w1) => if (inBd i && inBd j) = true then some (.ok 0 (rngT i (j - i).toNat), w1) else none
  | some (.er c, w1) => some (.er c, w1)
  | _ => none
theorem sim_rg2 {fl : FL} {φ : PFL} (ha : SimL fl φ) : SimI (rg2I fl) (rg2IP φ) := fun X fps S sa ρ w w' r E hr h => by
  unfold rg2IP at h
  unfold rg2I
  split at h
  · rename_i k i k' j w1 e
    split at h
    · rename_i hb
      cases h
      obtain ⟨x, h1, h2, h3, h4⟩ := ha X fps S sa ρ w w' _ E hr e
      cases x with
      | er c S1 => simp only [ResL] at h4
      | ok as S1 =>
        simp only [ResL] at h4
        obtain ⟨a, b, rfl, q, q2⟩ := k2 h4
        simp only [Rt] at q q2
        subst q q2
        rw [h1]
        simp only
        rw [if_pos hb]
        exact ⟨_, rfl, h2, h3, its_rg⟩
    · cases h
  · rename_i c w1 e
    cases h
    obtain ⟨x, h1, h2, h3, h4⟩ := ha X fps S sa ρ w w' _ E hr e
    cases x with
    | ok a S1 => simp only [ResL] at h4
    | er c S1 =>
      simp only [ResL] at h4
      rw [h1]
      exact ⟨_, rfl, h2, h3, h4⟩
  · cases h
/-! ## binding a name -/
abbrev PX := Nat → T → En → Option En
abbrev PXs := Nat → List T → En → Option En
def SimX (f : TX) (τ : PX) : Prop := ∀ (X : Nat → Prop) (fps : List (List Nat)) (S : List O) (sa : Sa) (ρ ρ' : En) (k : Nat) (a : A) (t : T), EnvR X fps S sa ρ → Rt (Cx X fps) S k a t → τ k t ρ = some ρ' → ∃ sa', f a sa S = some sa' ∧ EnvR X fps S sa' ρ'
def SimXs (f : TXs) (τ : PXs) : Prop := ∀ (X : Nat → Prop) (fps : List (List Nat)) (S : List O) (sa : Sa) (ρ ρ' : En) (k : Nat) (as : List A) (ts : List T), EnvR X fps S sa ρ → RtL (Cx X fps) S k as ts → τ k ts ρ = some ρ' → ∃ sa', f as sa S = some sa' ∧ EnvR X fps S sa' ρ'
def nmX (i : Nat) : PX := fun k t ρ => some (ρ.set i (some (.im k t)))
theorem sim_nmX {i : Nat} : SimX (nameX i) (nmX i) := fun X fps S sa ρ ρ' k a t E h e => by
  cases e
  exact ⟨_, rfl, E.im h⟩
def niX : PXs := fun _ ts ρ => match ts with
  | [] => some ρ
  | _ => none
theorem sim_niX : SimXs nilX niX := fun X fps S sa ρ ρ' k as ts E h e => by
  cases ts with
  | nil =>
    cases e
    cases as with
    | nil => exact ⟨_, rfl, E⟩
    | cons _ _ => simp only [RtL] at h
  | cons _ _ => cases e
def coX (τ : PX) (σ : PXs) : PXs := fun k ts ρ => match ts with
  | [] => none
  | t :: r => match τ k t ρ with
    | some ρ' => σ k r ρ'
    | none => none
theorem sim_coX {f : TX} {g : TXs} {τ : PX} {σ : PXs} (hf : SimX f τ) (hg : SimXs g σ) : SimXs (consX f g) (coX τ σ) := fun X fps S sa ρ ρ' k as ts E h e => by
  cases ts with
  | nil => cases e
  | cons t r =>
    cases as with
    | nil => simp only [RtL] at h
    | cons a as =>
      simp only [RtL] at h
      simp only [coX] at e
      split at e
      · rename_i ρ1 e1
        obtain ⟨sa1, h1, E1⟩ := hf X fps S sa ρ ρ1 k a t E h.1 e1
        simp only [consX]
        rw [h1]
        exact hg X fps S sa1 ρ1 ρ' k as r E1 h.2 e
      · cases e
def tuX (n : Nat) (σ : PXs) : PX := fun k t ρ => match t with
  | .tup _ ts => if ts.length = n then σ (k - 1) ts ρ else none
  | _ => none
theorem sim_tuX {n : Nat} {g : TXs} {σ : PXs} (hg : SimXs g σ) : SimX (tupX n g) (tuX n σ) := fun X fps S sa ρ ρ' k a t E h e => by
  unfold tuX at e
  split at e
  · split at e
    · rename_i z ts hn
      simp only [Rt] at h
      obtain ⟨l, as, rfl, g, _, r⟩ := h
      unfold tupX
      simp only
      rw [g]
      simp only
      rw [if_pos (by rw [r.len]; exact hn)]
      exact hg X fps S sa ρ ρ' _ as ts E r e
    · cases e
  · cases e
def wipeP (ρ : En) : List Nat → En
  | [] => ρ
  | v :: vs => (wipeP ρ vs).set v none
theorem EnvR.wipes {X : Nat → Prop} {fps : List (List Nat)} {S : List O} {sa : Sa} {ρ : En} (h : EnvR X fps S sa ρ) : ∀ vs : List Nat, EnvR X fps S (wipeA sa vs) (wipeP ρ vs)
  | [] => h
  | v :: vs => (h.wipes vs).wipe
/-! ## list comprehensions -/
def lcGoP (τ : PX) (vs : List Nat) (φt φe : PF) (k : Nat) (ρ : En) : List T → Wr → Option (List T × Wr)
  | [], w => some ([], w)
  | t :: ts, w => match τ k t (wipeP ρ vs) with
    | none => none
    | some ρ1 => (match φt ρ1 w with
      | some (.ok _ _ (.bl true), w2) => (match φe ρ1 w2 with
        | some (.ok 0 _ y, w3) => (match lcGoP τ vs φt φe k ρ ts w3 with
          | some (ys, w4) => some (y :: ys, w4)
          | none => none)
        | _ => none)
      | some (.ok _ _ (.bl false), w2) => lcGoP τ vs φt φe k ρ ts w2
      | _ => none)
def lcP (φi : PFI) (τ : PX) (vs : List Nat) (φt φe : PF) : PF := fun ρ w => match φi ρ w with
  | some (.ok k ts, w1) => (match lcGoP τ vs φt φe (k - 1) ρ ts w1 with
    | some (ys, w2) => if ys.length ≤ 1000000 then some (.ok 0 (if noLs ys = true then 1 else 0) (.lst ys), w2) else none
    | none => none)
  | some (.er c, w1) => some (.er c, w1)
  | none => none
abbrev Yd (d : Nat) : Nat → Prop := fun l => l = 1 ∨ l = d
theorem mv_set {S : List O} {d : Nat} {xs ys : List A} (h : S[d]? = some (.lst xs)) {Y : Nat → Prop} (y : Y d) : Mv Y S (S.set d (.lst ys)) := ⟨by rw [List.length_set]; exact Nat.le_refl _, fun l o e n => by
  by_cases hl : d = l
  · subst hl
    rw [h] at e
    cases e
    have := n y
    cases this
  · rw [List.getElem?_set_ne hl]
    exact e⟩
theorem RowR.set {S : List O} {w : Wr} (r : RowR S w) {d : Nat} (h0 : d ≠ 0) (h1 : d ≠ 1) {o : O} : RowR (S.set d o) w := ⟨by obtain ⟨u, a, b⟩ := r.s0; exact ⟨u, a, by rw [List.getElem?_set_ne h0]; exact b⟩, by rw [List.getElem?_set_ne h1]; exact r.s1, r.pos⟩
section
variable {X : Nat → Prop} {fps : List (List Nat)} {d : Nat} {i : Its} {k : Nat} {ts : List T} {G0 : List O} {T : TX} {τ : PX} {vs : List Nat} {ft fe : F} {φt φe : PF} {sa : Sa} {ρ : En}
theorem lcGo_sim (xd : X d) (d0 : d ≠ 0) (d1 : d ≠ 1) (x1 : X 1) (I : ItsR (Cx X fps) G0 i k ts) (hT : SimX T τ) (ht : SimF ft φt) (he : SimF fe φe) :
    ∀ (us : List Vai.T) (n j : Nat) (G : List O) (acc : List A) (tacc ys : List Vai.T) (w w' : Wr), ts.drop j = us → us.length < n → EnvR X fps G sa ρ → RowR G w → Mv (Yd d) G0 G → G[d]? = some (.lst acc) → RtL (Cx X fps) G 0 acc tacc → lcGoP τ vs φt φe (k - 1) ρ us w = some (ys, w') → tacc.length + ys.length ≤ 1000000 →
      ∃ G2 acc2, lcGo i T vs ft fe d sa n j G = some G2 ∧ Mv (Yd d) G G2 ∧ RowR G2 w' ∧ G2[d]? = some (.lst acc2) ∧ RtL (Cx X fps) G2 0 acc2 (tacc ++ ys)
  | us, 0, j, G, acc, tacc, ys, w, w', e, hn, E, hr, m, hd, ha, h, hs => by omega
  | [], n + 1, j, G, acc, tacc, ys, w, w', e, hn, E, hr, m, hd, ha, h, hs => by
    obtain ⟨as, q, hl, it⟩ := I
    cases h
    simp only [lcGo]
    rw [it _ G m (fun l y c => c.1 (by rcases y with rfl | rfl; exact x1; exact xd)) j, List.getElem?_eq_none (by rw [q.len]; exact List.drop_eq_nil_iff.mp e)]
    exact ⟨G, acc, rfl, Mv.refl, hr, hd, by rw [List.append_nil]; exact ha⟩
  | t :: us, n + 1, j, G, acc, tacc, ys, w, w', e, hn, E, hr, m, hd, ha, h, hs => by
    have I0 := I
    obtain ⟨as, q, hl, it⟩ := I
    have yx : ∀ l, Yd d l → X l := fun l y => by rcases y with rfl | rfl; exact x1; exact xd
    have yc : ∀ l, Yd d l → ∀ k, ¬ Cx X fps k l := fun l y k c => c.1 (yx l y)
    have hj : ts[j]? = some t := by
      have := congrArg (·[0]?) e
      simpa using this
    obtain ⟨a, ea, ra⟩ := q.get hj
    have ra2 := ra.mv m fun i l y => yc l y _
    simp only [lcGo]
    rw [it _ G m (fun l y => yc l y _) j, ea]
    simp only
    unfold lcGoP at h
    have e2 : ts.drop (j + 1) = us := by
      have := congrArg List.tail e
      simpa using this
    split at h
    · cases h
    · rename_i ρ1 h1
      obtain ⟨sa1, k1, E1⟩ := hT X fps G (wipeA sa vs) (wipeP ρ vs) ρ1 (k - 1) a t (E.wipes vs) ra2 h1
      rw [k1]
      simp only
      split at h
      · rename_i _ _ w2 h2
        obtain ⟨x, g1, g2, g3, g4⟩ := ht X fps G sa1 ρ1 w w2 _ E1 hr h2
        cases x with
        | er c S1 => simp only [ResR] at g4
        | ok b S2 =>
          simp only [ResR, Rt, stR] at g4 g2 g3
          rw [g1, g4.1]
          simp only
          have m2 : Mv (Yd d) G S2 := but_mv g2 hr (.inl rfl)
          split at h
          · rename_i _ y w3 h3
            obtain ⟨x, f1, f2, f3, f4⟩ := he X fps S2 sa1 ρ1 w2 w3 _ (E1.mv m2 yx) g3 h3
            cases x with
            | er c S1 => simp only [ResR] at f4
            | ok b S3 =>
              simp only [ResR, stR] at f4 f2 f3
              rw [f1]
              simp only
              have m3 : Mv (Yd d) G S3 := m2.trans (but_mv f2 g3 (.inl rfl))
              have hd3 : S3[d]? = some (.lst acc) := f2.2 d _ d1 (g2.2 d _ d1 hd)
              rw [hd3]
              simp only
              split at h
              · rename_i ys2 w4 h4
                cases h
                have hlen := ha.len
                simp only [List.length_cons] at hs
                rw [if_pos (by omega)]
                have ms : Mv (Yd d) S3 (S3.set d (.lst (acc ++ [b]))) := mv_set hd3 (.inr rfl)
                have m4 := m3.trans ms
                obtain ⟨G2, acc2, r1, r2, r3, r4, r5⟩ := lcGo_sim xd d0 d1 x1 I0 hT ht he us n (j + 1) (S3.set d (.lst (acc ++ [b]))) (acc ++ [b]) (tacc ++ [y]) ys2 w3 w' e2 (by simp only [List.length_cons] at hn; omega) (E.mv m4 yx) (f3.set d0 d1) (m.trans m4) (List.getElem?_set_self (List.getElem?_eq_some_iff.mp hd3).1)
                  ((ha.mv m4 fun i l y => yc l y _).app (by simp only [RtL]; exact ⟨f4.1.mv ms fun i l y => yc l y _, trivial⟩)) h4 (by rw [List.length_append]; simp; omega)
                exact ⟨G2, acc2, r1, m4.trans r2, r3, r4, by rw [List.append_assoc] at r5; exact r5⟩
              · cases h
          · cases h
      · rename_i _ _ w2 h2
        obtain ⟨x, g1, g2, g3, g4⟩ := ht X fps G sa1 ρ1 w w2 _ E1 hr h2
        cases x with
        | er c S1 => simp only [ResR] at g4
        | ok b S2 =>
          simp only [ResR, Rt, stR] at g4 g2 g3
          rw [g1, g4.1]
          simp only
          have m2 : Mv (Yd d) G S2 := but_mv g2 hr (.inl rfl)
          obtain ⟨G2, acc2, r1, r2, r3, r4, r5⟩ := lcGo_sim xd d0 d1 x1 I0 hT ht he us n (j + 1) S2 acc tacc ys w2 w' e2 (by simp only [List.length_cons] at hn; omega) (E.mv m2 yx) g3 (m.trans m2) (g2.2 d _ d1 hd) (ha.mv m2 fun i l y => yc l y _) h hs
          exact ⟨G2, acc2, r1, m2.trans r2, r3, r4, r5⟩
      · cases h
end
/-- before a comprehension: the place of its list is not to be touched -/
theorem ItsR.more {X : Nat → Prop} {fps : List (List Nat)} {S : List O} {i : Its} {k : Nat} {ts : List T} {o : O} (h : ItsR (Cx X fps) S i k ts) : ItsR (Cx (fun l => X l ∨ l = S.length) fps) (S ++ [o]) i k ts := by
  obtain ⟨as, q, hl, it⟩ := h
  refine ⟨as, (q.gen fun i l hl c => ⟨fun z => z.elim c.1 (by omega), c.2⟩).up (pfa S _), ?_, fun Y G m hy j => ?_⟩
  · rw [← hl]
    cases i with
    | rg _ _ => rfl
    | sl l =>
      simp only [itsLen] at hl ⊢
      have := it (fun _ => False) S Mv.refl (fun _ y => y.elim) 0
      simp only [itemAt] at this
      cases hs : S[l]? with
      | none => rw [hs] at this; cases this
      | some u => rw [at_up (pfa S _) hs]
    | st l =>
      simp only [itsLen] at hl ⊢
      have := it (fun _ => False) S Mv.refl (fun _ y => y.elim) 0
      simp only [itemAt] at this
      cases hs : S[l]? with
      | none => rw [hs] at this; cases this
      | some u => rw [at_up (pfa S _) hs]
  · refine it (fun l => Y l ∧ l < S.length) G ⟨Nat.le_trans (pfa S [o]).length_le m.1, fun l u e n => m.2 l u (at_up (pfa S _) e) fun y => n ⟨y, (List.getElem?_eq_some_iff.mp e).1⟩⟩ (fun l y c => hy l y.1 ⟨fun z => z.elim c.1 (by omega), c.2⟩) j
theorem EnvR.dst {X : Nat → Prop} {fps : List (List Nat)} {S : List O} {sa : Sa} {ρ : En} (E : EnvR X fps S sa ρ) {o : O} : EnvR (fun l => X l ∨ l = S.length) fps (S ++ [o]) sa ρ := E.more (fun l x hl => x.elim id fun z => by omega) (fun l x => .inl x) _ (pfa S _) fun l x => by
  rw [List.length_append]
  rcases x with x | rfl
  · have := E.x0 l x
    simp
    omega
  · simp
theorem but_dst {S G2 : List O} {o : O} (m : Mv (Yd S.length) (S ++ [o]) G2) : But 1 S G2 := ⟨Nat.le_trans (pfa S [o]).length_le m.1, fun l u n e => m.2 l u (at_up (pfa S _) e) fun y => by
  rcases y with rfl | rfl
  · exact absurd rfl n
  · rw [List.getElem?_eq_none (Nat.le_refl _)] at e
    cases e⟩
theorem row_two {S : List O} {w : Wr} (r : RowR S w) : S.length ≠ 0 ∧ S.length ≠ 1 := by
  have := (List.getElem?_eq_some_iff.mp r.s1).1
  omega
theorem sim_lc {fi : FI} {T : TX} {vs : List Nat} {ft fe : F} {φi : PFI} {τ : PX} {φt φe : PF} (hi : SimI fi φi) (hT : SimX T τ) (ht : SimF ft φt) (he : SimF fe φe) : SimF (lcF fi T vs ft fe) (lcP φi τ vs φt φe) := fun X fps S sa ρ w w' r E hr h => by
  unfold lcP at h
  unfold lcF
  split at h
  · rename_i k ts w1 e1
    obtain ⟨x, h1, h2, h3, h4⟩ := hi X fps S sa ρ w w1 _ E hr e1
    cases x with
    | er c S1 => exact h4.elim
    | ok i S1 =>
      simp only [stI] at h2 h3
      rw [h1]
      simp only
      split at h
      · rename_i ys w2 e2
        split at h
        · rename_i hs
          cases h
          have E1 := E.ev hr h2
          have hlen : itsLen i S1 = ts.length := by
            obtain ⟨as, q, hl, _⟩ := h4
            rw [hl, q.len]
          obtain ⟨t0, t1⟩ := row_two h3
          obtain ⟨G2, acc2, r1, r2, r3, r4, r5⟩ := lcGo_sim (X := fun l => X l ∨ l = S1.length) (d := S1.length) (.inr rfl) t0 t1 (.inl E.one) h4.more hT ht he ts (itsLen i S1 + 1) 0 (S1 ++ [.lst []]) [] [] ys w1 w' rfl (by omega) E1.dst (h3.up (pfa S1 _)) Mv.refl at_new (by simp only [RtL]) e2 (by simpa using hs)
          rw [r1]
          refine ⟨_, rfl, h2.trans (but_dst r2), r3, ?_, ?_⟩
          · simp only [Rt]
            exact ⟨_, acc2, rfl, r4, E1.new (Nat.le_refl _), r5.gen fun i l hl c => ⟨fun x => c.1 (.inl x), c.2⟩⟩
          · split
            · rename_i hn
              exact .inr ⟨[S1.length], by simp, fun l hl => by rw [List.mem_singleton.mp hl]; exact h2.1, own1 r4 (r5.free hn)⟩
            · exact .inl rfl
        · cases h
      · cases h
  · rename_i c w1 e1
    obtain ⟨x, h1, h2, h3, h4⟩ := hi X fps S sa ρ w w1 _ E hr e1
    cases x with
    | ok a S1 => exact h4.elim
    | er c S1 =>
      cases h
      rw [h1]
      exact ⟨_, rfl, h2, h3, h4⟩
  · cases h
/-! two fors -/
def lc2GoP (τ : PX) (vs : List Nat) (φt : PF) (φi1 : PFI) (τ1 : PX) (vs1 : List Nat) (φt1 φe : PF) (k : Nat) (ρ : En) : List T → Wr → Option (List T × Wr)
  | [], w => some ([], w)
  | t :: ts, w => match τ k t (wipeP ρ vs) with
    | none => none
    | some ρ1 => (match φt ρ1 w with
      | some (.ok _ _ (.bl true), w2) => (match φi1 ρ1 w2 with
        | some (.ok k1 ts1, w3) => (match lcGoP τ1 vs1 φt1 φe (k1 - 1) ρ1 ts1 w3 with
          | some (ys, w4) => (match lc2GoP τ vs φt φi1 τ1 vs1 φt1 φe k ρ ts w4 with
            | some (zs, w5) => some (ys ++ zs, w5)
            | none => none)
          | none => none)
        | _ => none)
      | some (.ok _ _ (.bl false), w2) => lc2GoP τ vs φt φi1 τ1 vs1 φt1 φe k ρ ts w2
      | _ => none)
def lc2P (φi : PFI) (τ : PX) (vs : List Nat) (φt : PF) (φi1 : PFI) (τ1 : PX) (vs1 : List Nat) (φt1 φe : PF) : PF := fun ρ w => match φi ρ w with
  | some (.ok k ts, w1) => (match lc2GoP τ vs φt φi1 τ1 vs1 φt1 φe (k - 1) ρ ts w1 with
    | some (ys, w2) => if ys.length ≤ 1000000 then some (.ok 0 (if noLs ys = true then 1 else 0) (.lst ys), w2) else none
    | none => none)
  | some (.er c, w1) => some (.er c, w1)
  | none => none
section
variable {X : Nat → Prop} {fps : List (List Nat)} {d : Nat} {i : Its} {k : Nat} {ts : List T} {G0 : List O} {T T1 : TX} {τ τ1 : PX} {vs vs1 : List Nat} {ft ft1 fe : F} {fi1 : FI} {φt φt1 φe : PF} {φi1 : PFI} {sa : Sa} {ρ : En}
theorem lc2Go_sim (xd : X d) (d0 : d ≠ 0) (d1 : d ≠ 1) (x1 : X 1) (I : ItsR (Cx X fps) G0 i k ts) (hT : SimX T τ) (ht : SimF ft φt) (hi1 : SimI fi1 φi1) (hT1 : SimX T1 τ1) (ht1 : SimF ft1 φt1) (he : SimF fe φe) :
    ∀ (us : List Vai.T) (n j : Nat) (G : List O) (acc : List A) (tacc ys : List Vai.T) (w w' : Wr), ts.drop j = us → us.length < n → EnvR X fps G sa ρ → RowR G w → Mv (Yd d) G0 G → G[d]? = some (.lst acc) → RtL (Cx X fps) G 0 acc tacc → lc2GoP τ vs φt φi1 τ1 vs1 φt1 φe (k - 1) ρ us w = some (ys, w') → tacc.length + ys.length ≤ 1000000 →
      ∃ G2 acc2, lc2Go i T vs ft fi1 T1 vs1 ft1 fe d sa n j G = some G2 ∧ Mv (Yd d) G G2 ∧ RowR G2 w' ∧ G2[d]? = some (.lst acc2) ∧ RtL (Cx X fps) G2 0 acc2 (tacc ++ ys)
  | us, 0, j, G, acc, tacc, ys, w, w', e, hn, E, hr, m, hd, ha, h, hs => by omega
  | [], n + 1, j, G, acc, tacc, ys, w, w', e, hn, E, hr, m, hd, ha, h, hs => by
    obtain ⟨as, q, hl, it⟩ := I
    cases h
    simp only [lc2Go]
    rw [it _ G m (fun l y c => c.1 (by rcases y with rfl | rfl; exact x1; exact xd)) j, List.getElem?_eq_none (by rw [q.len]; exact List.drop_eq_nil_iff.mp e)]
    exact ⟨G, acc, rfl, Mv.refl, hr, hd, by rw [List.append_nil]; exact ha⟩
  | t :: us, n + 1, j, G, acc, tacc, ys, w, w', e, hn, E, hr, m, hd, ha, h, hs => by
    have I0 := I
    obtain ⟨as, q, hl, it⟩ := I
    have yx : ∀ l, Yd d l → X l := fun l y => by rcases y with rfl | rfl; exact x1; exact xd
    have yc : ∀ l, Yd d l → ∀ k, ¬ Cx X fps k l := fun l y k c => c.1 (yx l y)
    have hj : ts[j]? = some t := by
      have := congrArg (·[0]?) e
      simpa using this
    obtain ⟨a, ea, ra⟩ := q.get hj
    have ra2 := ra.mv m fun i l y => yc l y _
    simp only [lc2Go]
    rw [it _ G m (fun l y => yc l y _) j, ea]
    simp only
    unfold lc2GoP at h
    have e2 : ts.drop (j + 1) = us := by
      have := congrArg List.tail e
      simpa using this
    split at h
    · cases h
    · rename_i ρ1 h1
      obtain ⟨sa1, k1, E1⟩ := hT X fps G (wipeA sa vs) (wipeP ρ vs) ρ1 (k - 1) a t (E.wipes vs) ra2 h1
      rw [k1]
      simp only
      split at h
      · rename_i _ _ w2 h2
        obtain ⟨x, g1, g2, g3, g4⟩ := ht X fps G sa1 ρ1 w w2 _ E1 hr h2
        cases x with
        | er c S1 => simp only [ResR] at g4
        | ok b S2 =>
          simp only [ResR, Rt, stR] at g4 g2 g3
          rw [g1, g4.1]
          simp only
          have m2 : Mv (Yd d) G S2 := but_mv g2 hr (.inl rfl)
          split at h
          · rename_i k1 ts1 w3 h3
            obtain ⟨x, f1, f2, f3, f4⟩ := hi1 X fps S2 sa1 ρ1 w2 w3 _ (E1.mv m2 yx) g3 h3
            cases x with
            | er c S1 => exact f4.elim
            | ok i1 S3 =>
              simp only [stI] at f2 f3
              rw [f1]
              simp only
              have m3 : Mv (Yd d) G S3 := m2.trans (but_mv f2 g3 (.inl rfl))
              have hd3 : S3[d]? = some (.lst acc) := f2.2 d _ d1 (g2.2 d _ d1 hd)
              have hlen : itsLen i1 S3 = ts1.length := by
                obtain ⟨as, q, hl, _⟩ := f4
                rw [hl, q.len]
              split at h
              · rename_i ys2 w4 h4
                split at h
                · rename_i zs w5 h5
                  cases h
                  rw [List.length_append] at hs
                  obtain ⟨G2, acc2, r1, r2, r3, r4, r5⟩ := lcGo_sim xd d0 d1 x1 f4 hT1 ht1 he ts1 (itsLen i1 S3 + 1) 0 S3 acc tacc ys2 w3 w4 rfl (by omega) (E1.mv m3 yx) f3 Mv.refl hd3 (ha.mv m3 fun i l y => yc l y _) h4 (by omega)
                  rw [r1]
                  simp only
                  have m4 := m3.trans r2
                  obtain ⟨G3, acc3, s1, s2, s3, s4, s5⟩ := lc2Go_sim xd d0 d1 x1 I0 hT ht hi1 hT1 ht1 he us n (j + 1) G2 acc2 (tacc ++ ys2) zs w4 w' e2 (by simp only [List.length_cons] at hn; omega) (E.mv m4 yx) r3 (m.trans m4) r4 r5 h5 (by rw [List.length_append]; omega)
                  exact ⟨G3, acc3, s1, m4.trans s2, s3, s4, by rw [List.append_assoc] at s5; exact s5⟩
                · cases h
              · cases h
          · cases h
      · rename_i _ _ w2 h2
        obtain ⟨x, g1, g2, g3, g4⟩ := ht X fps G sa1 ρ1 w w2 _ E1 hr h2
        cases x with
        | er c S1 => simp only [ResR] at g4
        | ok b S2 =>
          simp only [ResR, Rt, stR] at g4 g2 g3
          rw [g1, g4.1]
          simp only
          have m2 : Mv (Yd d) G S2 := but_mv g2 hr (.inl rfl)
          obtain ⟨G2, acc2, r1, r2, r3, r4, r5⟩ := lc2Go_sim xd d0 d1 x1 I0 hT ht hi1 hT1 ht1 he us n (j + 1) S2 acc tacc ys w2 w' e2 (by simp only [List.length_cons] at hn; omega) (E.mv m2 yx) g3 (m.trans m2) (g2.2 d _ d1 hd) (ha.mv m2 fun i l y => yc l y _) h hs
          exact ⟨G2, acc2, r1, m2.trans r2, r3, r4, r5⟩
      · cases h
end
theorem sim_lc2 {fi fi1 : FI} {T T1 : TX} {vs vs1 : List Nat} {ft ft1 fe : F} {φi φi1 : PFI} {τ τ1 : PX} {φt φt1 φe : PF} (hi : SimI fi φi) (hT : SimX T τ) (ht : SimF ft φt) (hi1 : SimI fi1 φi1) (hT1 : SimX T1 τ1) (ht1 : SimF ft1 φt1) (he : SimF fe φe) : SimF (lc2F fi T vs ft fi1 T1 vs1 ft1 fe) (lc2P φi τ vs φt φi1 τ1 vs1 φt1 φe) := fun X fps S sa ρ w w' r E hr h => by
  unfold lc2P at h
  unfold lc2F
  split at h
  · rename_i k ts w1 e1
    obtain ⟨x, h1, h2, h3, h4⟩ := hi X fps S sa ρ w w1 _ E hr e1
    cases x with
    | er c S1 => exact h4.elim
    | ok i S1 =>
      simp only [stI] at h2 h3
      rw [h1]
      simp only
      split at h
      · rename_i ys w2 e2
        split at h
        · rename_i hs
          cases h
          have E1 := E.ev hr h2
          have hlen : itsLen i S1 = ts.length := by
            obtain ⟨as, q, hl, _⟩ := h4
            rw [hl, q.len]
          obtain ⟨t0, t1⟩ := row_two h3
          obtain ⟨G2, acc2, r1, r2, r3, r4, r5⟩ := lc2Go_sim (X := fun l => X l ∨ l = S1.length) (d := S1.length) (.inr rfl) t0 t1 (.inl E.one) h4.more hT ht hi1 hT1 ht1 he ts (itsLen i S1 + 1) 0 (S1 ++ [.lst []]) [] [] ys w1 w' rfl (by omega) E1.dst (h3.up (pfa S1 _)) Mv.refl at_new (by simp only [RtL]) e2 (by simpa using hs)
          rw [r1]
          refine ⟨_, rfl, h2.trans (but_dst r2), r3, ?_, ?_⟩
          · simp only [Rt]
            exact ⟨_, acc2, rfl, r4, E1.new (Nat.le_refl _), r5.gen fun i l hl c => ⟨fun x => c.1 (.inl x), c.2⟩⟩
          · split
            · rename_i hn
              exact .inr ⟨[S1.length], by simp, fun l hl => by rw [List.mem_singleton.mp hl]; exact h2.1, own1 r4 (r5.free hn)⟩
            · exact .inl rfl
        · cases h
      · cases h
  · rename_i c w1 e1
    obtain ⟨x, h1, h2, h3, h4⟩ := hi X fps S sa ρ w w1 _ E hr e1
    cases x with
    | ok a S1 => exact h4.elim
    | er c S1 =>
      cases h
      rw [h1]
      exact ⟨_, rfl, h2, h3, h4⟩
  · cases h
end Vai
set_option maxRecDepth 100000
set_option maxHeartbeats 2000000
namespace Vai
open PySem L2
/-! ## tables -/
def lcTGoP (τ : PX) (vs : List Nat) (φe : PF) (k : Nat) (ρ : En) : List T → Wr → Option (List T × Wr)
  | [], w => some ([], w)
  | t :: ts, w => match τ k t (wipeP ρ vs) with
    | none => none
    | some ρ1 => (match φe ρ1 w with
        | some (.ok _ 1 (.lst y), w3) => (match lcTGoP τ vs φe k ρ ts w3 with
          | some (ys, w4) => some (.lst y :: ys, w4)
          | none => none)
        | _ => none)
/-- a list of new lists -/
def lcTP (φi : PFI) (τ : PX) (vs : List Nat) (φe : PF) : PF := fun ρ w => match φi ρ w with
  | some (.ok k ts, w1) => (match lcTGoP τ vs φe (k - 1) ρ ts w1 with
    | some (ys, w2) => if ys.length ≤ 1000000 then some (.ok 0 2 (.lst ys), w2) else none
    | none => none)
  | some (.er c, w1) => some (.er c, w1)
  | none => none
theorem RowsR.app {S : List O} : ∀ {rs qs : List Nat} {ts us : List T}, RowsR S rs ts → RowsR S qs us → RowsR S (rs ++ qs) (ts ++ us)
  | [], _, [], _, _, y => y
  | [], _, _ :: _, _, x, _ => by simp only [RowsR] at x
  | _ :: _, _, [], _, x, _ => by simp only [RowsR] at x
  | r :: rs, _, .lst us :: ts, _, x, y => by
    simp only [RowsR, List.cons_append] at x ⊢
    exact ⟨x.1, RowsR.app x.2 y⟩
  | _ :: _, _, .non :: _, _, x, _ => by simp only [RowsR] at x
  | _ :: _, _, .bl _ :: _, _, x, _ => by simp only [RowsR] at x
  | _ :: _, _, .int _ :: _, _, x, _ => by simp only [RowsR] at x
  | _ :: _, _, .str _ :: _, _, x, _ => by simp only [RowsR] at x
  | _ :: _, _, .ty _ :: _, _, x, _ => by simp only [RowsR] at x
  | _ :: _, _, .row :: _, _, x, _ => by simp only [RowsR] at x
  | _ :: _, _, .dic _ _ :: _, _, x, _ => by simp only [RowsR] at x
  | _ :: _, _, .clo _ _ :: _, _, x, _ => by simp only [RowsR] at x
  | _ :: _, _, .tup _ _ :: _, _, x, _ => by simp only [RowsR] at x
section
variable {X : Nat → Prop} {fps : List (List Nat)} {d : Nat} {i : Its} {k : Nat} {ts : List T} {G0 : List O} {T : TX} {τ : PX} {vs : List Nat} {fe : F} {φe : PF} {sa : Sa} {ρ : En}
theorem lcTGo_sim (xd : X d) (d0 : d ≠ 0) (d1 : d ≠ 1) (x1 : X 1) (I : ItsR (Cx X fps) G0 i k ts) (hT : SimX T τ) (he : SimF fe φe) :
    ∀ (us : List Vai.T) (n j : Nat) (G : List O) (rs : List Nat) (tacc ys : List Vai.T) (w w' : Wr), ts.drop j = us → us.length < n → EnvR X fps G sa ρ → RowR G w → Mv (Yd d) G0 G → G[d]? = some (.lst (rs.map A.ref)) → RowsR G rs tacc → rs.length = tacc.length → rs.Nodup → (∀ r ∈ rs, d < r ∧ r < G.length) → lcTGoP τ vs φe (k - 1) ρ us w = some (ys, w') → tacc.length + ys.length ≤ 1000000 →
      ∃ G2 rs2, lcGo i T vs (conF (.bl true)) fe d sa n j G = some G2 ∧ Mv (Yd d) G G2 ∧ RowR G2 w' ∧ G2[d]? = some (.lst (rs2.map A.ref)) ∧ RowsR G2 rs2 (tacc ++ ys) ∧ rs2.Nodup ∧ ∀ r ∈ rs2, d < r
  | us, 0, j, G, rs, tacc, ys, w, w', e, hn, E, hr, m, hd, ha, hl2, nd, lt, h, hs => by omega
  | [], n + 1, j, G, rs, tacc, ys, w, w', e, hn, E, hr, m, hd, ha, hl2, nd, lt, h, hs => by
    obtain ⟨as, q, hl, it⟩ := I
    cases h
    simp only [lcGo]
    rw [it _ G m (fun l y c => c.1 (by rcases y with rfl | rfl; exact x1; exact xd)) j, List.getElem?_eq_none (by rw [q.len]; exact List.drop_eq_nil_iff.mp e)]
    exact ⟨G, rs, rfl, Mv.refl, hr, hd, by rw [List.append_nil]; exact ha, nd, fun r h => (lt r h).1⟩
  | t :: us, n + 1, j, G, rs, tacc, ys, w, w', e, hn, E, hr, m, hd, ha, hl2, nd, lt, h, hs => by
    have I0 := I
    obtain ⟨as, q, hl, it⟩ := I
    have yx : ∀ l, Yd d l → X l := fun l y => by rcases y with rfl | rfl; exact x1; exact xd
    have yc : ∀ l, Yd d l → ∀ k, ¬ Cx X fps k l := fun l y k c => c.1 (yx l y)
    have hj : ts[j]? = some t := by
      have := congrArg (·[0]?) e
      simpa using this
    obtain ⟨a, ea, ra⟩ := q.get hj
    have ra2 := ra.mv m fun i l y => yc l y _
    simp only [lcGo]
    rw [it _ G m (fun l y => yc l y _) j, ea]
    simp only
    unfold lcTGoP at h
    have e2 : ts.drop (j + 1) = us := by
      have := congrArg List.tail e
      simpa using this
    split at h
    · cases h
    · rename_i ρ1 h1
      obtain ⟨sa1, k1, E1⟩ := hT X fps G (wipeA sa vs) (wipeP ρ vs) ρ1 (k - 1) a t (E.wipes vs) ra2 h1
      rw [k1]
      simp only [conF]
      split at h
      · rename_i kk y w3 h3
        obtain ⟨x, f1, f2, f3, f4⟩ := he X fps G sa1 ρ1 w w3 _ E1 hr h3
        cases x with
        | er c S1 => simp only [ResR] at f4
        | ok b S3 =>
          simp only [ResR, stR] at f4 f2 f3
          rw [f1]
          simp only
          have m3 : Mv (Yd d) G S3 := but_mv f2 hr (.inl rfl)
          have hd3 : S3[d]? = some (.lst (rs.map A.ref)) := f2.2 d _ d1 hd
          rw [hd3]
          simp only
          rcases f4.2 with z | ⟨fp, n1, n2, n3⟩
          · cases z
          · rcases n3.inv with ⟨_, us', r, bs, rfl', rfl, rfl, g3, g4⟩ | ⟨z, _⟩ | ⟨z, _⟩
            rotate_left
            · cases z
            · cases z
            cases rfl'
            have hrG : G.length ≤ r := n2 r (List.mem_singleton.mpr rfl)
            have hdG : d < G.length := (List.getElem?_eq_some_iff.mp hd).1
            have hrd : d ≠ r := by omega
            split at h
            · rename_i ys2 w4 h4
              cases h
              simp only [List.length_cons] at hs
              rw [if_pos (by rw [List.length_map]; omega)]
              have ms : Mv (Yd d) S3 (S3.set d (.lst (rs.map A.ref ++ [A.ref r]))) := mv_set hd3 (.inr rfl)
              have m4 := m3.trans ms
              have hrl : r < S3.length := (List.getElem?_eq_some_iff.mp g3).1
              obtain ⟨G2, rs2, r1, r2, r3, r4, r5, r6⟩ := lcTGo_sim xd d0 d1 x1 I0 hT he us n (j + 1) (S3.set d (.lst (rs.map A.ref ++ [A.ref r]))) (rs ++ [r]) (tacc ++ [.lst y]) ys2 w3 w' e2 (by simp only [List.length_cons] at hn; omega) (E.mv m4 yx) (f3.set d0 d1) (m.trans m4) (by rw [List.getElem?_set_self (List.getElem?_eq_some_iff.mp hd3).1, List.map_append]; rfl)
                ((ha.mv m4 fun p hp z => by
                  have := lt p hp
                  have := (List.getElem?_eq_some_iff.mp hr.s1).1
                  rcases z with rfl | rfl
                  · omega
                  · omega).app (by
                  simp only [RowsR, and_true]
                  exact ⟨bs, by rw [List.getElem?_set_ne hrd]; exact g3, g4.mv ms fun _ _ _ z => z⟩)) (by rw [List.length_append, List.length_append, hl2]; rfl) (List.nodup_append.mpr ⟨nd, by simp, fun p hp q hq => by
                  rw [List.mem_singleton.mp hq]
                  have := lt p hp
                  omega⟩) (fun p hp => by
                  rw [List.length_set]
                  rcases List.mem_append.mp hp with hp | hp
                  · have := lt p hp
                    exact ⟨this.1, Nat.lt_of_lt_of_le this.2 m3.1⟩
                  · rw [List.mem_singleton.mp hp]
                    exact ⟨by omega, hrl⟩) h4 (by rw [List.length_append]; simp; omega)
              exact ⟨G2, rs2, r1, m4.trans r2, r3, r4, by rw [List.append_assoc] at r5; exact r5, r6⟩
            · cases h
      · cases h
end
theorem sim_lcT {fi : FI} {T : TX} {vs : List Nat} {fe : F} {φi : PFI} {τ : PX} {φe : PF} (hi : SimI fi φi) (hT : SimX T τ) (he : SimF fe φe) : SimF (lcF fi T vs (conF (.bl true)) fe) (lcTP φi τ vs φe) := fun X fps S sa ρ w w' r E hr h => by
  unfold lcTP at h
  unfold lcF
  split at h
  · rename_i k ts w1 e1
    obtain ⟨x, h1, h2, h3, h4⟩ := hi X fps S sa ρ w w1 _ E hr e1
    cases x with
    | er c S1 => exact h4.elim
    | ok i S1 =>
      simp only [stI] at h2 h3
      rw [h1]
      simp only
      split at h
      · rename_i ys w2 e2
        split at h
        · rename_i hs
          cases h
          have E1 := E.ev hr h2
          have hlen : itsLen i S1 = ts.length := by
            obtain ⟨as, q, hl, _⟩ := h4
            rw [hl, q.len]
          obtain ⟨t0, t1⟩ := row_two h3
          obtain ⟨G2, rs2, r1, r2, r3, r4, r5, r6, r7⟩ := lcTGo_sim (X := fun l => X l ∨ l = S1.length) (d := S1.length) (.inr rfl) t0 t1 (.inl E.one) h4.more hT he ts (itsLen i S1 + 1) 0 (S1 ++ [.lst []]) [] [] ys w1 w' rfl (by omega) E1.dst (h3.up (pfa S1 _)) Mv.refl at_new (by simp only [RowsR]) rfl List.nodup_nil (fun r h => by cases h) e2 (by simpa using hs)
          rw [r1]
          refine ⟨_, rfl, h2.trans (but_dst r2), r3, ?_, .inr ⟨S1.length :: rs2, List.nodup_cons.mpr ⟨fun z => by have := r7 _ z; omega, r6⟩, fun l hl => ?_, own2 r4 r5⟩⟩
          · simp only [Rt]
            refine ⟨_, _, rfl, r4, E1.new (Nat.le_refl _), ?_⟩
            exact r5.rt fun r hr => E1.new (Nat.le_of_lt (r7 r hr))
          · rcases List.mem_cons.mp hl with rfl | hl
            · exact h2.1
            · exact Nat.le_trans h2.1 (Nat.le_of_lt (r7 l hl))
        · cases h
      · cases h
  · rename_i c w1 e1
    obtain ⟨x, h1, h2, h3, h4⟩ := hi X fps S sa ρ w w1 _ E hr e1
    cases x with
    | ok a S1 => exact h4.elim
    | er c S1 =>
      cases h
      rw [h1]
      exact ⟨_, rfl, h2, h3, h4⟩
  · cases h
end Vai
set_option maxRecDepth 100000
set_option maxHeartbeats 2000000
namespace Vai
open PySem L2
/-! ## statements -/
inductive PS where
  | nx (ρ : En) | rt (t : T) | bk (ρ : En) | ct (ρ : En) | er (c : Nat) (ρ : En)
abbrev PFS := En → Wr → Option (PS × Wr)
abbrev Yf (fps : List (List Nat)) : Nat → Prop := fun l => l = 1 ∨ l ∈ fps.flatten
def Grow (fps fps' : List (List Nat)) (n : Nat) : Prop := ∀ l ∈ fps'.flatten, l ∈ fps.flatten ∨ n ≤ l
theorem Grow.refl {fps : List (List Nat)} {n : Nat} : Grow fps fps n := fun _ h => .inl h
theorem Grow.trans {f g h : List (List Nat)} {n m : Nat} (a : Grow f g n) (b : Grow g h m) (k : n ≤ m) : Grow f h n := fun l hl => (b l hl).elim (a l) fun z => .inr (Nat.le_trans k z)
theorem kx_trans {f g : List (List Nat)} {S S1 S2 : List O} (a : Mv (Yf f) S S1) (w : Grow f g S.length) (b : Mv (Yf g) S1 S2) : Mv (Yf f) S S2 := ⟨Nat.le_trans a.1 b.1, fun l o e n => b.2 l o (a.2 l o e n) fun y => n (y.elim .inl fun z => (w l z).elim .inr fun q => by
  have := (List.getElem?_eq_some_iff.mp e).1
  omega)⟩
def EndE (X : Nat → Prop) (fps : List (List Nat)) (n : Nat) (S : List O) (sa : Sa) (ρ : En) : Prop := ∃ fps', EnvR X fps' S sa ρ ∧ Grow fps fps' n
def ResS (X : Nat → Prop) (fps : List (List Nat)) (n : Nat) (x : RF) (r : PS) : Prop := match x, r with
  | .nx sa S, .nx ρ => EndE X fps n S sa ρ
  | .bk sa S, .bk ρ => EndE X fps n S sa ρ
  | .ct sa S, .ct ρ => EndE X fps n S sa ρ
  | .er c sa S, .er c' ρ => c = c' ∧ EndE X fps n S sa ρ
  | .rt a S, .rt t => Rt (fun _ l => ¬ X l) S 0 a t
  | _, _ => False
def OutS (X : Nat → Prop) (fps : List (List Nat)) (S : List O) (y : Option RF) (r : PS) (w : Wr) : Prop := ∃ x, y = some x ∧ Mv (Yf fps) S (stF x) ∧ RowR (stF x) w ∧ ResS X fps S.length x r
def SimS (f : FS) (φ : PFS) : Prop := ∀ (X : Nat → Prop) (fps : List (List Nat)) (S : List O) (sa : Sa) (ρ : En) (w w' : Wr) (r : PS), EnvR X fps S sa ρ → RowR S w → φ ρ w = some (r, w') → OutS X fps S (f sa S) r w'
theorem EndE.pre {X : Nat → Prop} {f g : List (List Nat)} {n m : Nat} {S : List O} {sa : Sa} {ρ : En} (h : EndE X g m S sa ρ) (w : Grow f g n) (k : n ≤ m) : EndE X f n S sa ρ := by
  obtain ⟨p, a, b⟩ := h
  exact ⟨p, a, w.trans b k⟩
theorem ResS.pre {X : Nat → Prop} {f g : List (List Nat)} {n m : Nat} {x : RF} {r : PS} (h : ResS X g m x r) (w : Grow f g n) (k : n ≤ m) : ResS X f n x r := by
  unfold ResS at h ⊢
  split at h
  · exact h.pre w k
  · exact h.pre w k
  · exact h.pre w k
  · exact ⟨h.1, h.2.pre w k⟩
  · exact h
  · exact h.elim
theorem OutS.pre {X : Nat → Prop} {f g : List (List Nat)} {S S1 : List O} {y : Option RF} {r : PS} {w : Wr} (h : OutS X g S1 y r w) (m : Mv (Yf f) S S1) (q : Grow f g S.length) : OutS X f S y r w := by
  obtain ⟨x, a, b, c, d⟩ := h
  exact ⟨x, a, kx_trans m q b, c, d.pre q m.1⟩
section
variable {X : Nat → Prop} {fps : List (List Nat)} {S S' : List O} {sa : Sa} {ρ : En} {w : Wr}
theorem but_kx (h : But 1 S S') (r : RowR S w) : Mv (Yf fps) S S' := but_mv h r (.inl rfl)
theorem end_same (E : EnvR X fps S sa ρ) {n : Nat} : EndE X fps n S sa ρ := ⟨fps, E, Grow.refl⟩
end
def seqP (f g : PFS) : PFS := fun ρ w => match f ρ w with
  | some (.nx ρ1, w1) => g ρ1 w1
  | y => y
theorem sim_seq {f g : FS} {φ ψ : PFS} (hf : SimS f φ) (hg : SimS g ψ) : SimS (seqF f g) (seqP φ ψ) := fun X fps S sa ρ w w' r E hr h => by
  unfold seqP at h
  unfold seqF
  split at h
  · rename_i ρ1 w1 e
    obtain ⟨x, h1, h2, h3, h4⟩ := hf X fps S sa ρ w w1 _ E hr e
    cases x <;> simp only [ResS] at h4
    rw [h1]
    obtain ⟨p, E1, q⟩ := h4
    exact (hg X p _ _ ρ1 w1 w' r E1 h3 h).pre h2 q
  · rename_i n
    obtain ⟨x, h1, h2, h3, h4⟩ := hf X fps S sa ρ w w' _ E hr h
    rw [h1]
    cases x with
    | nx _ _ =>
      cases r <;> simp only [ResS] at h4
      exact absurd h (n _ _)
    | _ => exact ⟨_, rfl, h2, h3, h4⟩
def endP : PFS := fun ρ w => some (.nx ρ, w)
theorem sim_end : SimS endF endP := fun X fps S sa ρ w w' r E hr h => by
  cases h
  exact ⟨_, rfl, Mv.refl, hr, end_same E⟩
def retP (φ : PF) : PFS := fun ρ w => match φ ρ w with
  | some (.ok _ _ t, w1) => some (.rt t, w1)
  | some (.er c, w1) => some (.er c ρ, w1)
  | none => none
theorem sim_ret {fa : F} {φ : PF} (ha : SimF fa φ) : SimS (retF fa) (retP φ) := fun X fps S sa ρ w w' r E hr h => by
  unfold retP at h
  unfold retF
  split at h
  · rename_i k fr t w1 e
    cases h
    obtain ⟨x, h1, h2, h3, h4⟩ := ha X fps S sa ρ w w' _ E hr e
    cases x <;> simp only [ResR] at h4
    rw [h1]
    exact ⟨_, rfl, but_kx h2 hr, h3, Rt.gen (fun i l hl c => c.1) h4.1⟩
  · rename_i c w1 e
    cases h
    obtain ⟨x, h1, h2, h3, h4⟩ := ha X fps S sa ρ w w' _ E hr e
    cases x <;> simp only [ResR] at h4
    rw [h1]
    exact ⟨_, rfl, but_kx h2 hr, h3, h4, end_same (E.ev hr h2)⟩
  · cases h
def expP (φ : PF) : PFS := fun ρ w => match φ ρ w with
  | some (.ok _ _ _, w1) => some (.nx ρ, w1)
  | some (.er c, w1) => some (.er c ρ, w1)
  | none => none
theorem sim_exp {fa : F} {φ : PF} (ha : SimF fa φ) : SimS (expF fa) (expP φ) := fun X fps S sa ρ w w' r E hr h => by
  unfold expP at h
  unfold expF
  split at h
  · rename_i k fr t w1 e
    cases h
    obtain ⟨x, h1, h2, h3, h4⟩ := ha X fps S sa ρ w w' _ E hr e
    cases x <;> simp only [ResR] at h4
    rw [h1]
    exact ⟨_, rfl, but_kx h2 hr, h3, end_same (E.ev hr h2)⟩
  · rename_i c w1 e
    cases h
    obtain ⟨x, h1, h2, h3, h4⟩ := ha X fps S sa ρ w w' _ E hr e
    cases x <;> simp only [ResR] at h4
    rw [h1]
    exact ⟨_, rfl, but_kx h2 hr, h3, h4, end_same (E.ev hr h2)⟩
  · cases h
def raiseP (c : Nat) : PFS := fun ρ w => some (.er c ρ, w)
theorem sim_raise {c : Nat} : SimS (raiseF c) (raiseP c) := fun X fps S sa ρ w w' r E hr h => by
  cases h
  exact ⟨_, rfl, Mv.refl, hr, rfl, end_same E⟩
def condP (φ : PF) (f g : PFS) : PFS := fun ρ w => match φ ρ w with
  | some (.ok _ _ (.bl true), w1) => f ρ w1
  | some (.ok _ _ (.bl false), w1) => g ρ w1
  | some (.er c, w1) => some (.er c ρ, w1)
  | _ => none
theorem sim_cond {fc : F} {f g : FS} {φ : PF} {ψ χ : PFS} (hc : SimF fc φ) (hf : SimS f ψ) (hg : SimS g χ) : SimS (condF fc f g) (condP φ ψ χ) := fun X fps S sa ρ w w' r E hr h => by
  unfold condP at h
  unfold condF
  split at h
  · rename_i k fr w1 e
    obtain ⟨x, h1, h2, h3, h4⟩ := hc X fps S sa ρ w w1 _ E hr e
    cases x <;> simp only [ResR, Rt] at h4
    rw [h1, h4.1]
    exact (hf X fps _ sa ρ w1 w' r (E.ev hr h2) h3 h).pre (but_kx h2 hr) Grow.refl
  · rename_i k fr w1 e
    obtain ⟨x, h1, h2, h3, h4⟩ := hc X fps S sa ρ w w1 _ E hr e
    cases x <;> simp only [ResR, Rt] at h4
    rw [h1, h4.1]
    exact (hg X fps _ sa ρ w1 w' r (E.ev hr h2) h3 h).pre (but_kx h2 hr) Grow.refl
  · rename_i c w1 e
    cases h
    obtain ⟨x, h1, h2, h3, h4⟩ := hc X fps S sa ρ w w' _ E hr e
    cases x <;> simp only [ResR] at h4
    rw [h1]
    exact ⟨_, rfl, but_kx h2 hr, h3, h4, end_same (E.ev hr h2)⟩
  · cases h
/-! ## targets -/
abbrev PT := Nat → Nat → T → En → Wr → Option (En × Wr)
abbrev PTs := Nat → List T → En → Wr → Option (En × Wr)
def SimT (f : TF) (τ : PT) : Prop := ∀ (X : Nat → Prop) (fps : List (List Nat)) (S0 S : List O) (sa : Sa) (ρ ρ' : En) (w0 w w' : Wr) (k fr : Nat) (a : A) (t : T), EnvR X fps S0 sa ρ → RowR S0 w0 → But 1 S0 S → RowR S w → Rt (Cx X fps) S k a t → FrR S0.length S fr a t → τ k fr t ρ w = some (ρ', w') →
  ∃ z, f a sa S = some z ∧ Mv (Yf fps) S z.2 ∧ RowR z.2 w' ∧ EndE X fps S0.length z.2 z.1 ρ'
def SimTs (f : TFs) (τ : PTs) : Prop := ∀ (X : Nat → Prop) (fps : List (List Nat)) (S : List O) (sa : Sa) (ρ ρ' : En) (w w' : Wr) (k : Nat) (as : List A) (ts : List T), EnvR X fps S sa ρ → RowR S w → RtL (Cx X fps) S k as ts → τ k ts ρ w = some (ρ', w') →
  ∃ z, f as sa S = some z ∧ Mv (Yf fps) S z.2 ∧ RowR z.2 w' ∧ EndE X fps S.length z.2 z.1 ρ'
def nmT (i : Nat) : PT := fun k _ t ρ w => some (ρ.set i (some (.im k t)), w)
theorem sim_nmT {i : Nat} : SimT (nameT i) (nmT i) := fun X fps S0 S sa ρ ρ' w0 w w' k fr a t E hr0 b hr h hf e => by
  cases e
  exact ⟨_, rfl, Mv.refl, hr, end_same ((E.ev hr0 b).im h)⟩
theorem flat_set {fps : List (List Nat)} {fp : List Nat} {l : Nat} : ∀ {fps : List (List Nat)} {i : Nat}, l ∈ (fps.set i fp).flatten → l ∈ fps.flatten ∨ l ∈ fp
  | [], _, h => by rw [List.set_nil] at h; exact .inl h
  | f :: fs, 0, h => by
    rw [List.set_cons_zero, List.flatten_cons, List.mem_append] at h
    rw [List.flatten_cons, List.mem_append]
    rcases h with h | h
    · exact .inr h
    · exact .inl (.inr h)
  | f :: fs, i + 1, h => by
    rw [List.set_cons_succ, List.flatten_cons, List.mem_append] at h
    rw [List.flatten_cons, List.mem_append]
    rcases h with h | h
    · exact .inl (.inl h)
    · exact (flat_set (fps := fs) h).imp .inr id
theorem nd_set {fp : List Nat} (hn : fp.Nodup) : ∀ {fps : List (List Nat)} {i : Nat}, fps.flatten.Nodup → (∀ l ∈ fp, l ∉ fps.flatten) → (fps.set i fp).flatten.Nodup
  | [], _, h, _ => by rw [List.set_nil]; exact h
  | f :: fs, 0, h, k => by
    rw [List.flatten_cons, List.nodup_append] at h
    rw [List.set_cons_zero, List.flatten_cons, List.nodup_append]
    exact ⟨hn, h.2.1, fun a ha b hb e => k a ha (by rw [List.flatten_cons, List.mem_append]; exact .inr (e ▸ hb))⟩
  | f :: fs, i + 1, h, k => by
    rw [List.flatten_cons, List.nodup_append] at h
    rw [List.set_cons_succ, List.flatten_cons, List.nodup_append]
    refine ⟨h.1, nd_set hn h.2.1 fun l hl z => k l hl (by rw [List.flatten_cons, List.mem_append]; exact .inr z), fun a ha b hb e => ?_⟩
    rcases flat_set (fps := fs) hb with z | z
    · exact h.2.2 a ha b z e
    · exact k b z (by rw [List.flatten_cons, List.mem_append]; exact .inl (e ▸ ha))
theorem EnvR.own {X : Nat → Prop} {fps : List (List Nat)} {S0 S : List O} {sa : Sa} {ρ : En} {w0 : Wr} {i fr : Nat} {fp : List Nat} {a : A} {t : T} (E : EnvR X fps S0 sa ρ) (hr0 : RowR S0 w0) (b : But 1 S0 S) (hn : fp.Nodup) (hg : ∀ l ∈ fp, S0.length ≤ l) (ho : OwnR S fr fp a t) (hi : i < ρ.length) :
    EnvR X (fps.set i fp) S (sa.set i (some a)) (ρ.set i (some (.ow fr t))) := by
  have new : ∀ l ∈ fp, l ∉ fps.flatten := fun l hl z => by
    have := E.lt l z
    have := hg l hl
    omega
  refine ⟨by rw [List.length_set, List.length_set]; exact E.len, by rw [List.length_set, List.length_set]; exact E.fl, E.zero, E.one, fun l x => Nat.lt_of_lt_of_le (E.x0 l x) b.1, nd_set hn E.nd new, fun l hl x => ?_, fun l hl => ?_, fun j e he => ?_⟩
  · rcases flat_set (fps := fps) hl with z | z
    · exact E.dj l z x
    · have := E.x0 l x
      have := hg l z
      omega
  · rcases flat_set (fps := fps) hl with z | z
    · exact Nat.lt_of_lt_of_le (E.lt l z) b.1
    · exact ho.lt l z
  · by_cases hj : i = j
    · subst hj
      rw [List.getElem?_set_self hi] at he
      cases he
      exact ⟨a, fp, List.getElem?_set_self (by rw [E.len]; exact hi), List.getElem?_set_self (by rw [E.fl]; exact hi), ho⟩
    · rw [List.getElem?_set_ne hj] at he
      obtain ⟨c, q, h1, h2, h3⟩ := E.sl j e he
      refine ⟨c, q, by rw [List.getElem?_set_ne hj]; exact h1, by rw [List.getElem?_set_ne hj]; exact h2, ?_⟩
      have m : Mv (fun l => l = 1) S0 S := but_mv b hr0 rfl
      cases e with
      | im k t => exact Rt.mv m (fun j l y c => c.1 (y ▸ E.one)) (Rt.gen (C' := Cx X (fps.set i fp)) (fun i' l hl c => ⟨c.1, fun z y => (flat_set (fps := fps) y).elim (c.2 z) fun y => by
          have := hg l y
          omega⟩) h3)
      | ow k t => exact OwnR.mv m (fun l hl y => E.dj l (mem_fl h2 hl) (y ▸ E.one)) h3
def nmO (i : Nat) : PT := fun _ fr t ρ w => if fr ≠ 0 ∧ i < ρ.length then some (ρ.set i (some (.ow fr t)), w) else none
theorem sim_nmO {i : Nat} : SimT (nameT i) (nmO i) := fun X fps S0 S sa ρ ρ' w0 w w' k fr a t E hr0 b hr h hf e => by
  unfold nmO at e
  split at e
  · rename_i hh
    cases e
    rcases hf with z | ⟨fp, h1, h2, h3⟩
    · exact absurd z hh.1
    · exact ⟨_, rfl, Mv.refl, hr, _, E.own hr0 b h1 h2 h3 hh.2, fun l hl => (flat_set (fps := fps) hl).imp id (h2 l)⟩
  · cases e
/-! one's own lists are changed -/
def clr : Option Ev → Option Ev
  | some (.im (k + 1) t) => none
  | e => e
theorem clr_get {ρ : En} {j : Nat} {e : Ev} (h : (ρ.map clr)[j]? = some (some e)) : ρ[j]? = some (some e) ∧ (∀ k t, e = .im k t → k = 0) := by
  rw [List.getElem?_map] at h
  cases hj : ρ[j]? with
  | none => rw [hj] at h; cases h
  | some u =>
    rw [hj] at h
    cases u with
    | none => cases h
    | some v =>
      cases v with
      | ow k t => cases h; exact ⟨rfl, fun _ _ z => by cases z⟩
      | im k t =>
        cases k with
        | zero => cases h; exact ⟨rfl, fun _ _ z => by cases z; rfl⟩
        | succ k => cases h
theorem nd_dj : ∀ {fps : List (List Nat)} {i j : Nat} {p q : List Nat}, fps.flatten.Nodup → fps[i]? = some p → fps[j]? = some q → i ≠ j → ∀ l ∈ p, l ∉ q
  | [], i, _, _, _, _, h, _, _, _, _ => by simp at h
  | f :: fs, 0, 0, _, _, _, _, _, h, _, _ => absurd rfl h
  | f :: fs, 0, j + 1, p, q, nd, h, k, _, l, hl => by
    cases h
    rw [List.flatten_cons, List.nodup_append] at nd
    exact fun z => nd.2.2 l hl l (mem_fl (fps := fs) (i := j) k z) rfl
  | f :: fs, i + 1, 0, p, q, nd, h, k, _, l, hl => by
    cases k
    rw [List.flatten_cons, List.nodup_append] at nd
    exact fun z => nd.2.2 l z l (mem_fl (fps := fs) (i := i) h hl) rfl
  | f :: fs, i + 1, j + 1, p, q, nd, h, k, n, l, hl => by
    rw [List.flatten_cons, List.nodup_append] at nd
    exact nd_dj (fps := fs) (i := i) (j := j) nd.2.1 h k (by omega) l hl
section
variable {X : Nat → Prop} {fps : List (List Nat)} {S : List O} {sa : Sa} {ρ : En} {i : Nat}
theorem EnvR.put {d : Nat} {xs ys : List A} {e : Ev} {fp : List Nat} {a : A} (E : EnvR X fps S sa ρ) (hi : i < ρ.length) (hf : fps[i]? = some fp) (ha : sa[i]? = some (some a)) (hd : d ∈ fp) (hx : S[d]? = some (.lst xs)) (hs : SlotR (Cx X fps) (S.set d (.lst ys)) fp a e) :
    EnvR X fps (S.set d (.lst ys)) sa ((ρ.map clr).set i (some e)) := by
  have m : Mv (fun l => l = d) S (S.set d (.lst ys)) := mv_set hx rfl
  refine ⟨by rw [List.length_set, List.length_map]; exact E.len, by rw [List.length_set, List.length_map]; exact E.fl, E.zero, E.one, fun l x => by rw [List.length_set]; exact E.x0 l x, E.nd, E.dj, fun l hl => by rw [List.length_set]; exact E.lt l hl, fun j u hu => ?_⟩
  by_cases hj : i = j
  · subst hj
    rw [List.getElem?_set_self (by rw [List.length_map]; exact hi)] at hu
    cases hu
    exact ⟨a, fp, ha, hf, hs⟩
  · rw [List.getElem?_set_ne hj] at hu
    obtain ⟨h0, hk⟩ := clr_get hu
    obtain ⟨c, q, h1, h2, h3⟩ := E.sl j u h0
    refine ⟨c, q, h1, h2, ?_⟩
    cases u with
    | im k t =>
      have := hk k t rfl
      subst this
      exact Rt.mv m (fun j l y c => c.2 (by omega) (y ▸ mem_fl hf hd)) h3
    | ow k t => exact OwnR.mv m (fun l hl y => nd_dj E.nd hf h2 hj d hd (y ▸ hl)) h3
theorem EnvR.ow1 {ts : List T} (E : EnvR X fps S sa ρ) (he : ρ[i]? = some (some (.ow 1 (.lst ts)))) : ∃ l as, sa[i]? = some (some (.ref l)) ∧ S[l]? = some (.lst as) ∧ l ∈ fps.flatten ∧ l ≠ 0 ∧ l ≠ 1 ∧ RtL noC S 0 as ts ∧ ∀ as' ts', RtL noC S 0 as' ts' → EnvR X fps (S.set l (.lst as')) sa ((ρ.map clr).set i (some (.ow 1 (.lst ts')))) := by
  obtain ⟨a, fp, h1, h2, h3⟩ := E.sl i _ he
  have h4 : OwnR S 1 fp a (.lst ts) := h3
  rcases h4.inv with ⟨_, ts', l, as, e, rfl, rfl, g, r⟩ | ⟨z, _⟩ | ⟨z, _⟩
  rotate_left
  · cases z
  · cases z
  cases e
  have hm : l ∈ fps.flatten := mem_fl h2 (List.mem_singleton.mpr rfl)
  refine ⟨l, as, h1, g, hm, fun z => E.dj l hm (z ▸ E.zero), fun z => E.dj l hm (z ▸ E.one), r, fun as' ts' h => ?_⟩
  exact E.put (List.getElem?_eq_some_iff.mp he).1 h2 h1 (List.mem_singleton.mpr rfl) g (own1 (List.getElem?_set_self (List.getElem?_eq_some_iff.mp g).1) (h.mv (mv_set (Y := fun l' => l' = l) g rfl) fun _ _ _ z => z))
theorem RowsR.put {S : List O} : ∀ {rs : List Nat} {ts : List T} {y : Nat} {us : List T}, RowsR S rs ts → rs.Nodup → ts[y]? = some (.lst us) → ∃ r as, rs[y]? = some r ∧ S[r]? = some (.lst as) ∧ RtL noC S 0 as us ∧ ∀ as' us', RtL noC S 0 as' us' → RowsR (S.set r (.lst as')) rs (ts.set y (.lst us'))
  | [], [], y, _, _, _, e => by simp at e
  | [], _ :: _, _, _, x, _, _ => by simp only [RowsR] at x
  | _ :: _, [], _, _, x, _, _ => by simp only [RowsR] at x
  | r :: rs, .lst us :: ts, 0, _, x, nd, e => by
    cases e
    simp only [RowsR] at x
    obtain ⟨⟨as, g, q⟩, z⟩ := x
    refine ⟨r, as, rfl, g, q, fun as' us' h => ?_⟩
    have m : Mv (fun l => l = r) S (S.set r (.lst as')) := mv_set g rfl
    simp only [List.set_cons_zero, RowsR]
    exact ⟨⟨as', List.getElem?_set_self (List.getElem?_eq_some_iff.mp g).1, h.mv m fun _ _ _ z => z⟩, z.mv m fun p hp e => (List.nodup_cons.mp nd).1 (e ▸ hp)⟩
  | r :: rs, .lst vs :: ts, y + 1, us, x, nd, e => by
    simp only [RowsR] at x
    obtain ⟨⟨as, g, q⟩, z⟩ := x
    obtain ⟨r', as2, h1, h2, h3, h4⟩ := RowsR.put (y := y) z (List.nodup_cons.mp nd).2 e
    refine ⟨r', as2, h1, h2, h3, fun as' us' h => ?_⟩
    have m : Mv (fun l => l = r') S (S.set r' (.lst as')) := mv_set h2 rfl
    have nr : r ≠ r' := fun z => (List.nodup_cons.mp nd).1 (z ▸ List.mem_of_getElem? h1)
    simp only [List.set_cons_succ, RowsR]
    exact ⟨⟨as, by rw [List.getElem?_set_ne (Ne.symm nr)]; exact g, q.mv m fun _ _ _ z => z⟩, h4 as' us' h⟩
  | _ :: _, .non :: _, _, _, x, _, _ => by simp only [RowsR] at x
  | _ :: _, .bl _ :: _, _, _, x, _, _ => by simp only [RowsR] at x
  | _ :: _, .int _ :: _, _, _, x, _, _ => by simp only [RowsR] at x
  | _ :: _, .str _ :: _, _, _, x, _, _ => by simp only [RowsR] at x
  | _ :: _, .ty _ :: _, _, _, x, _, _ => by simp only [RowsR] at x
  | _ :: _, .row :: _, _, _, x, _, _ => by simp only [RowsR] at x
  | _ :: _, .dic _ _ :: _, _, _, x, _, _ => by simp only [RowsR] at x
  | _ :: _, .clo _ _ :: _, _, _, x, _, _ => by simp only [RowsR] at x
  | _ :: _, .tup _ _ :: _, _, _, x, _, _ => by simp only [RowsR] at x
theorem EnvR.ow2 {tss us : List T} {y : Nat} (E : EnvR X fps S sa ρ) (he : ρ[i]? = some (some (.ow 2 (.lst tss)))) (hy : tss[y]? = some (.lst us)) : ∃ (l : Nat) (rs : List Nat) (r : Nat) (as : List A), sa[i]? = some (some (.ref l)) ∧ S[l]? = some (.lst (rs.map A.ref)) ∧ rs.length = tss.length ∧ rs[y]? = some r ∧ S[r]? = some (.lst as) ∧ l ∈ fps.flatten ∧ r ∈ fps.flatten ∧ r ≠ 0 ∧ r ≠ 1 ∧ RtL noC S 0 as us ∧ ∀ as' us', RtL noC S 0 as' us' → EnvR X fps (S.set r (.lst as')) sa ((ρ.map clr).set i (some (.ow 2 (.lst (tss.set y (.lst us')))))) := by
  obtain ⟨a, fp, h1, h2, h3⟩ := E.sl i _ he
  have h4 : OwnR S 2 fp a (.lst tss) := h3
  rcases h4.inv with ⟨z, _⟩ | ⟨_, ts', l, rs, e, rfl, rfl, g, q⟩ | ⟨z, _⟩
  · cases z
  rotate_left
  · cases z
  cases e
  have hsub : (l :: rs).Nodup := by
    have nd := E.nd
    obtain ⟨pre, suf, e⟩ := List.append_of_mem (List.mem_of_getElem? h2)
    rw [e, List.flatten_append, List.flatten_cons] at nd
    exact (List.nodup_append.mp (List.nodup_append.mp nd).2.1).1
  obtain ⟨r, as, k1, k2, k3, k4⟩ := q.put (List.nodup_cons.mp hsub).2 hy
  have hrm : r ∈ rs := List.mem_of_getElem? k1
  have hm : r ∈ fps.flatten := mem_fl h2 (List.mem_cons_of_mem _ hrm)
  have hlen : rs.length = tss.length := by
    have := (RowsR.rt (C := fun _ _ => True) (j := 0) (fun _ _ => trivial) q).len
    rw [List.length_map] at this
    exact this
  refine ⟨l, rs, r, as, h1, g, hlen, k1, k2, mem_fl h2 (List.mem_cons_self ..), hm, fun z => E.dj r hm (z ▸ E.zero), fun z => E.dj r hm (z ▸ E.one), k3, fun as' us' h => ?_⟩
  have nr : r ≠ l := fun z => (List.nodup_cons.mp hsub).1 (z ▸ hrm)
  exact E.put (List.getElem?_eq_some_iff.mp he).1 h2 h1 (List.mem_cons_of_mem _ hrm) k2 (own2 (by rw [List.getElem?_set_ne nr]; exact g) (k4 as' us' h))
end
/-- x[e] = v -/
def st1 (i : Nat) (φ : PF) : PT := fun _ _ t ρ w => match φ ρ w, ρ[i]? with
  | some (.ok _ _ (.int m), w1), some (some (.ow 1 (.lst ts))) => (match ixN ts.length m with
    | some j => if t.noL = true then some ((ρ.map clr).set i (some (.ow 1 (.lst (ts.set j t)))), w1) else none
    | none => none)
  | _, _ => none
theorem sim_st1 {i : Nat} {fi : F} {φ : PF} (hi : SimF fi φ) : SimT (subT (varF i) fi) (st1 i φ) := fun X fps S0 S sa ρ ρ' w0 w w' k fr a t E0 hr0 b hr h hf e => by
  have E := E0.ev hr0 b
  unfold st1 at e
  split at e
  · rename_i k2 fr2 m w1 ts e1 e2
    split at e
    · rename_i j hj
      split at e
      · rename_i hn
        cases e
        obtain ⟨x, h1, h2, h3, h4⟩ := hi X fps S sa ρ w w' _ E hr e1
        cases x <;> simp only [ResR, Rt] at h4
        rename_i c S2
        simp only [stR] at h2 h3
        obtain ⟨l, as, g1, g2, g3, l0, l1, g4, g5⟩ := (E.ev hr h2).ow1 e2
        have ra := (h.free (C' := noC) (k' := 0) hn).mv (but_mv (Y := fun l => l = 1) h2 hr rfl) fun _ _ _ z => z
        refine ⟨(sa, S2.set l (.lst (as.set j a))), ?_, ?_, h3.set l0 l1, fps, g5 _ _ (g4.set ra), Grow.refl⟩
        · unfold subT
          rw [r_var g1]
          simp only
          rw [h1, h4.1]
          simp only
          rw [g2]
          simp only
          rw [g4.len, hj]
        · exact (but_kx h2 hr).trans (mv_set g2 (.inr g3))
      · cases e
    · cases e
  · cases e
/-- x[e1][e2] = v -/
def st2 (i : Nat) (φ ψ : PF) : PT := fun _ _ t ρ w => match φ ρ w with
  | some (.ok _ _ (.int y), w1) => (match ψ ρ w1, ρ[i]? with
    | some (.ok _ _ (.int m), w2), some (some (.ow 2 (.lst tss))) => (match ixN tss.length y with
      | some yy => (match tss[yy]? with
        | some (.lst us) => (match ixN us.length m with
          | some j => if t.noL = true then some ((ρ.map clr).set i (some (.ow 2 (.lst (tss.set yy (.lst (us.set j t)))))), w2) else none
          | none => none)
        | _ => none)
      | none => none)
    | _, _ => none)
  | _ => none
theorem sim_st2 {i : Nat} {f1 f2 : F} {φ ψ : PF} (hi1 : SimF f1 φ) (hi : SimF f2 ψ) : SimT (subT (opF ixG (varF i) f1) f2) (st2 i φ ψ) := fun X fps S0 S sa ρ ρ' w0 w w' k fr a t E0 hr0 b hr h hf e => by
  have E := E0.ev hr0 b
  unfold st2 at e
  split at e
  · rename_i k2 fr2 y w1 e1
    obtain ⟨x, a1, a2, a3, a4⟩ := hi1 X fps S sa ρ w w1 _ E hr e1
    cases x <;> simp only [ResR, Rt] at a4
    rename_i c1 S1
    simp only [stR] at a2 a3
    have E1 := E.ev hr a2
    split at e
    · rename_i k3 fr3 m w2 tss e2 e3
      split at e
      · rename_i yy hyy
        split at e
        · rename_i us hus
          split at e
          · rename_i j hj
            split at e
            · rename_i hn
              cases e
              obtain ⟨x, h1, h2, h3, h4⟩ := hi X fps S1 sa ρ w1 w' _ E1 a3 e2
              cases x <;> simp only [ResR, Rt] at h4
              rename_i c S2
              simp only [stR] at h2 h3
              obtain ⟨l', rs', r', as', p1, p2, p3, p4, _⟩ := E1.ow2 e3 hus
              obtain ⟨l, rs, r, as, g1, g2, glen, gr, g3, gl, gm, r0, r1, g4, g5⟩ := (E1.ev a3 h2).ow2 e3 hus
              have m1 : Mv (fun l => l = 1) S S2 := (but_mv (Y := fun l => l = 1) a2 hr rfl).trans (but_mv (Y := fun l => l = 1) h2 a3 rfl)
              have ra := (h.free (C' := noC) (k' := 0) hn).mv m1 fun _ _ _ z => z
              have el : l' = l := by
                rw [g1] at p1
                cases p1
                rfl
              subst el
              have ers : rs' = rs := by
                have hl1 : l' ≠ 1 := fun z => E1.dj l' gl (z ▸ E1.one)
                have := h2.2 l' _ hl1 p2
                rw [g2] at this
                have e := Option.some.inj this
                have e := O.lst.inj e
                exact (List.map_inj_right fun x y z => A.ref.inj z).mp e.symm
              subst ers
              refine ⟨(sa, S2.set r (.lst (as.set j a))), ?_, ?_, h3.set r0 r1, fps, g5 _ _ (g4.set ra), Grow.refl⟩
              · have hix : opF ixG (varF i) f1 sa S = some (.ok (.ref r) S1) := r_op (r_var g1) (by rw [a1, a4.1]) (g_ixL p2 (by
                  unfold atI
                  rw [List.length_map, p3, hyy]
                  simp only [Option.bind_some]
                  rw [List.getElem?_map, gr]
                  rfl))
                unfold subT
                rw [hix]
                simp only
                rw [h1, h4.1]
                simp only
                rw [g3]
                simp only
                rw [g4.len, hj]
              · exact ((but_kx a2 hr).trans (but_kx h2 a3)).trans (mv_set g3 (.inr gm))
            · cases e
          · cases e
        · cases e
      · cases e
    · cases e
  · cases e
/-! several targets -/
def niT : PTs := fun _ ts ρ w => match ts with
  | [] => some (ρ, w)
  | _ => none
theorem sim_niT : SimTs nilT niT := fun X fps S sa ρ ρ' w w' k as ts E hr h e => by
  cases ts with
  | nil =>
    cases e
    cases as with
    | nil => exact ⟨_, rfl, Mv.refl, hr, end_same E⟩
    | cons _ _ => simp only [RtL] at h
  | cons _ _ => cases e
/-- a name first -/
def coN (i : Nat) (σ : PTs) : PTs := fun k ts ρ w => match ts with
  | [] => none
  | t :: r => σ k r (ρ.set i (some (.im k t))) w
theorem sim_coN {i : Nat} {g : TFs} {σ : PTs} (hg : SimTs g σ) : SimTs (consT (nameT i) g) (coN i σ) := fun X fps S sa ρ ρ' w w' k as ts E hr h e => by
  cases ts with
  | nil => cases e
  | cons t r =>
    cases as with
    | nil => simp only [RtL] at h
    | cons a as =>
      simp only [RtL] at h
      simp only [coN] at e
      exact hg X fps S (sa.set i (some a)) _ ρ' w w' k as r (E.im h.1) hr h.2 e
/-- any target first: what comes behind has no lists -/
def coM (τ : PT) (σ : PTs) : PTs := fun k ts ρ w => match ts with
  | [] => none
  | t :: r => if noLs r = true then (match τ k 0 t ρ w with
    | some (ρ1, w1) => σ k r ρ1 w1
    | none => none) else none
theorem sim_coM {f : TF} {g : TFs} {τ : PT} {σ : PTs} (hf : SimT f τ) (hg : SimTs g σ) : SimTs (consT f g) (coM τ σ) := fun X fps S sa ρ ρ' w w' k as ts E hr h e => by
  cases ts with
  | nil => cases e
  | cons t r =>
    cases as with
    | nil => simp only [RtL] at h
    | cons a as =>
      simp only [RtL] at h
      simp only [coM] at e
      split at e
      · rename_i hn
        split at e
        · rename_i ρ1 w1 e1
          obtain ⟨z, h1, h2, h3, p, E1, q⟩ := hf X fps S S sa ρ ρ1 w w w1 k 0 a t E hr But.refl hr h.1 (.inl rfl) e1
          obtain ⟨z2, g1, g2, g3, g4⟩ := hg X p z.2 z.1 ρ1 ρ' w1 w' k as r E1 h3 (((h.2.free (C' := noC) (k' := 0) hn).mv h2 fun _ _ _ z => z).free hn) e
          refine ⟨z2, ?_, kx_trans h2 q g2, g3, g4.pre q h2.1⟩
          simp only [consT]
          rw [h1]
          exact g1
        · cases e
      · cases e
def tuT (n : Nat) (σ : PTs) : PT := fun k _ t ρ w => match t with
  | .tup _ ts => if ts.length = n then σ (k - 1) ts ρ w else none
  | _ => none
theorem sim_tuT {n : Nat} {g : TFs} {σ : PTs} (hg : SimTs g σ) : SimT (tupT n g) (tuT n σ) := fun X fps S0 S sa ρ ρ' w0 w w' k fr a t E hr0 b hr h hf e => by
  unfold tuT at e
  split at e
  · split at e
    · rename_i z ts hn
      simp only [Rt] at h
      obtain ⟨l, as, rfl, g, _, r⟩ := h
      obtain ⟨z2, g1, g2, g3, g4⟩ := hg X fps S sa ρ ρ' w w' _ as ts (E.ev hr0 b) hr r e
      refine ⟨z2, ?_, g2, g3, g4.pre Grow.refl b.1⟩
      unfold tupT
      simp only
      rw [g]
      simp only
      rw [if_pos (by rw [r.len]; exact hn)]
      exact g1
    · cases e
  · cases e
def asgP (φ : PF) (τ : PT) : PFS := fun ρ w => match φ ρ w with
  | some (.ok k fr t, w1) => (match τ k fr t ρ w1 with
    | some (ρ1, w2) => some (.nx ρ1, w2)
    | none => none)
  | some (.er c, w1) => some (.er c ρ, w1)
  | none => none
theorem sim_asg {fa : F} {f : TF} {φ : PF} {τ : PT} (ha : SimF fa φ) (hf : SimT f τ) : SimS (asgF fa f) (asgP φ τ) := fun X fps S sa ρ w w' r E hr h => by
  unfold asgP at h
  unfold asgF
  split at h
  · rename_i k fr t w1 e
    obtain ⟨x, h1, h2, h3, h4⟩ := ha X fps S sa ρ w w1 _ E hr e
    cases x <;> simp only [ResR] at h4
    rename_i a S1
    simp only [stR] at h2 h3
    rw [h1]
    split at h
    · rename_i ρ1 w2 e2
      cases h
      obtain ⟨z, g1, g2, g3, g4⟩ := hf X fps S S1 sa ρ ρ1 w w1 w' k fr a t E hr h2 h3 h4.1 h4.2 e2
      simp only
      rw [g1]
      exact ⟨_, rfl, (but_kx h2 hr).trans g2, g3, g4⟩
    · cases h
  · rename_i c w1 e
    cases h
    obtain ⟨x, h1, h2, h3, h4⟩ := ha X fps S sa ρ w w' _ E hr e
    cases x <;> simp only [ResR] at h4
    rw [h1]
    exact ⟨_, rfl, but_kx h2 hr, h3, h4, end_same (E.ev hr h2)⟩
  · cases h
end Vai
set_option maxRecDepth 100000
set_option maxHeartbeats 2000000
namespace Vai
open PySem L2
/-! two names at once -/
def pairP (o i j : Nat) (k1 fr1 : Nat) (t1 : T) (k2 fr2 : Nat) (t2 : T) (ρ : En) : Option En := match o with
  | 0 => some ((ρ.set i (some (.im k1 t1))).set j (some (.im k2 t2)))
  | 1 => if fr1 ≠ 0 ∧ i < ρ.length ∧ t2.noL = true then some ((ρ.set i (some (.ow fr1 t1))).set j (some (.im k2 t2))) else none
  | _ => if fr2 ≠ 0 ∧ j < ρ.length ∧ t1.noL = true ∧ i ≠ j then some ((ρ.set i (some (.im k1 t1))).set j (some (.ow fr2 t2))) else none
theorem pair_set {X : Nat → Prop} {fps : List (List Nat)} {S0 S : List O} {sa : Sa} {ρ ρ' : En} {w0 : Wr} {o i j k1 fr1 k2 fr2 : Nat} {a b : A} {t1 t2 : T} (E0 : EnvR X fps S0 sa ρ) (hr0 : RowR S0 w0) (bt : But 1 S0 S) (ha : Rt (Cx X fps) S k1 a t1) (hb : Rt (Cx X fps) S k2 b t2) (fa : FrR S0.length S fr1 a t1) (fb : FrR S0.length S fr2 b t2) (e : pairP o i j k1 fr1 t1 k2 fr2 t2 ρ = some ρ') :
    EndE X fps S0.length S ((sa.set i (some a)).set j (some b)) ρ' := by
  have E := E0.ev hr0 bt
  unfold pairP at e
  split at e
  · cases e
    exact end_same ((E.im ha).im hb)
  · split at e
    · rename_i h
      cases e
      rcases fa with z | ⟨fp, h1, h2, h3⟩
      · exact absurd z h.1
      · exact ⟨_, (E0.own hr0 bt h1 h2 h3 h.2.1).im (hb.free h.2.2), fun l hl => (flat_set (fps := fps) hl).imp id (h2 l)⟩
    · cases e
  · split at e
    · rename_i h
      cases e
      rcases fb with z | ⟨fp, h1, h2, h3⟩
      · exact absurd z h.1
      · refine ⟨fps.set j fp, ?_, fun l hl => (flat_set (fps := fps) hl).imp id (h2 l)⟩
        rw [List.set_comm _ _ h.2.2.2, List.set_comm _ _ h.2.2.2]
        exact (E0.own hr0 bt h1 h2 h3 h.2.1).im (ha.free h.2.2.1)
    · cases e
/-- x, y = e, f -/
def parP (o i j : Nat) (φ ψ : PF) : PFS := fun ρ w => match φ ρ w with
  | some (.ok k1 fr1 t1, w1) => (match ψ ρ w1 with
    | some (.ok k2 fr2 t2, w2) => (match pairP o i j k1 fr1 t1 k2 fr2 t2 ρ with
      | some ρ' => some (.nx ρ', w2)
      | none => none)
    | some (.er c, w2) => some (.er c ρ, w2)
    | none => none)
  | some (.er c, w1) => some (.er c ρ, w1)
  | none => none
theorem FrR.ev {N : Nat} {S S' : List O} {fr : Nat} {a : A} {t : T} {w : Wr} (h : FrR N S fr a t) (r : RowR S w) (b : But 1 S S') (n : 2 ≤ N) : FrR N S' fr a t := h.imp id fun ⟨fp, x, y, z⟩ => ⟨fp, x, y, z.mv (but_mv (Y := fun l => l = 1) b r rfl) fun l hl e => by
  have := y l hl
  omega⟩
theorem sim_parG {o i j : Nat} {f : FS} {f1 f2 : F} {φ ψ : PF} (h1 : SimF f1 φ) (h2 : SimF f2 ψ) (hf : ∀ sa S, (∃ a S1, f1 sa S = some (.ok a S1) ∧ ∃ b S2, f2 sa S1 = some (.ok b S2) ∧ ∃ S3, S2 <+: S3 ∧ f sa S = some (.nx ((sa.set i (some a)).set j (some b)) S3)) ∨ (∃ c S1, f1 sa S = some (.er c S1) ∧ f sa S = some (.er c sa S1)) ∨ (∃ a S1, f1 sa S = some (.ok a S1) ∧ ∃ c S2, f2 sa S1 = some (.er c S2) ∧ f sa S = some (.er c sa S2)) ∨ f1 sa S = none ∨ ∃ a S1, f1 sa S = some (.ok a S1) ∧ f2 sa S1 = none) : SimS f (parP o i j φ ψ) := fun X fps S sa ρ w w' r E hr h => by
  unfold parP at h
  have two : 2 ≤ S.length := by
    have := (List.getElem?_eq_some_iff.mp hr.s1).1
    omega
  split at h
  · rename_i k1 fr1 t1 w1 e1
    obtain ⟨x, a1, a2, a3, a4⟩ := h1 X fps S sa ρ w w1 _ E hr e1
    cases x <;> simp only [ResR] at a4
    rename_i a S1
    simp only [stR] at a2 a3
    split at h
    · rename_i k2 fr2 t2 w2 e2
      obtain ⟨x, b1, b2, b3, b4⟩ := h2 X fps S1 sa ρ w1 w2 _ (E.ev hr a2) a3 e2
      cases x <;> simp only [ResR] at b4
      rename_i b S2
      simp only [stR] at b2 b3
      split at h
      · rename_i ρ' e3
        cases h
        rcases hf sa S with ⟨a', S1', c1, b', S2', c2, S3, c3, c4⟩ | ⟨c, S1', c1, _⟩ | ⟨a', S1', c1, c, S2', c2, _⟩ | c1 | ⟨a', S1', c1, c2⟩
        · rw [a1] at c1
          cases c1
          rw [b1] at c2
          cases c2
          have bt := (a2.trans b2).trans (But.of c3)
          refine ⟨_, c4, but_kx bt hr, b3.up c3, ?_⟩
          exact pair_set E hr bt ((a4.1.ev a3 b2 (Cx.one E)).up c3) (b4.1.up c3) ((a4.2.ev a3 b2 two).ev b3 (But.of c3) two) ((b4.2.weak a2.1).ev b3 (But.of c3) two) e3
        · rw [a1] at c1; cases c1
        · rw [a1] at c1; cases c1; rw [b1] at c2; cases c2
        · rw [a1] at c1; cases c1
        · rw [a1] at c1; cases c1; rw [b1] at c2; cases c2
      · cases h
    · rename_i c w2 e2
      cases h
      obtain ⟨x, b1, b2, b3, b4⟩ := h2 X fps S1 sa ρ w1 w' _ (E.ev hr a2) a3 e2
      cases x <;> simp only [ResR] at b4
      rename_i c2 S2
      simp only [stR] at b2 b3
      rcases hf sa S with ⟨a', S1', c1, b', S2', c2, S3, c3, c4⟩ | ⟨c, S1', c1, _⟩ | ⟨a', S1', c1, c, S2', c2, c3⟩ | c1 | ⟨a', S1', c1, c2⟩
      · rw [a1] at c1; cases c1; rw [b1] at c2; cases c2
      · rw [a1] at c1; cases c1
      · rw [a1] at c1
        cases c1
        rw [b1] at c2
        cases c2
        exact ⟨_, c3, but_kx (a2.trans b2) hr, b3, b4, end_same (E.ev hr (a2.trans b2))⟩
      · rw [a1] at c1; cases c1
      · rw [a1] at c1; cases c1; rw [b1] at c2; cases c2
    · cases h
  · rename_i c w1 e1
    cases h
    obtain ⟨x, a1, a2, a3, a4⟩ := h1 X fps S sa ρ w w' _ E hr e1
    cases x <;> simp only [ResR] at a4
    rename_i c2 S1
    simp only [stR] at a2 a3
    rcases hf sa S with ⟨a', S1', c1, b', S2', c2, S3, c3, c4⟩ | ⟨c, S1', c1, c3⟩ | ⟨a', S1', c1, c, S2', c2, c3⟩ | c1 | ⟨a', S1', c1, c2⟩
    · rw [a1] at c1; cases c1
    · rw [a1] at c1
      cases c1
      exact ⟨_, c3, but_kx a2 hr, a3, a4, end_same (E.ev hr a2)⟩
    · rw [a1] at c1; cases c1
    · rw [a1] at c1; cases c1
    · rw [a1] at c1; cases c1
  · cases h
theorem sim_par {o i j : Nat} {f1 f2 : F} {φ ψ : PF} (h1 : SimF f1 φ) (h2 : SimF f2 ψ) : SimS (parF i j (consF f1 (consF f2 nilF))) (parP o i j φ ψ) := sim_parG h1 h2 fun sa S => by
  unfold parF consF
  cases e1 : f1 sa S with
  | none => exact .inr (.inr (.inr (.inl rfl)))
  | some x =>
    cases x with
    | er c S1 => exact .inr (.inl ⟨c, S1, rfl, rfl⟩)
    | ok a S1 =>
      simp only
      cases e2 : f2 sa S1 with
      | none => exact .inr (.inr (.inr (.inr ⟨a, S1, rfl, e2⟩)))
      | some y =>
        cases y with
        | er c S2 => exact .inr (.inr (.inl ⟨a, S1, rfl, c, S2, e2, rfl⟩))
        | ok b S2 => exact .inl ⟨a, S1, rfl, b, S2, e2, S2, pf0 S2, rfl⟩
theorem sim_parT {o i j : Nat} {f1 f2 : F} {φ ψ : PF} (h1 : SimF f1 φ) (h2 : SimF f2 ψ) : SimS (asgF (newF O.tup (consF f1 (consF f2 nilF))) (tupT 2 (consT (nameT i) (consT (nameT j) nilT)))) (parP o i j φ ψ) := sim_parG h1 h2 fun sa S => by
  unfold asgF newF bndL consF
  cases e1 : f1 sa S with
  | none => exact .inr (.inr (.inr (.inl rfl)))
  | some x =>
    cases x with
    | er c S1 => exact .inr (.inl ⟨c, S1, rfl, rfl⟩)
    | ok a S1 =>
      simp only
      cases e2 : f2 sa S1 with
      | none => exact .inr (.inr (.inr (.inr ⟨a, S1, rfl, e2⟩)))
      | some y =>
        cases y with
        | er c S2 => exact .inr (.inr (.inl ⟨a, S1, rfl, c, S2, e2, rfl⟩))
        | ok b S2 =>
          refine .inl ⟨a, S1, rfl, b, S2, e2, S2 ++ [.tup [a, b]], pfa S2 _, ?_⟩
          simp only [nilF]
          rw [if_pos (by simp)]
          simp only [tupT]
          rw [at_new]
          rfl
/-! ## loops -/
def forGoP (τ : PT) (β : PFS) : List T → En → Wr → Option (PS × Wr)
  | [], ρ, w => some (.nx ρ, w)
  | t :: ts, ρ, w => match τ 0 0 t ρ w with
    | none => none
    | some (ρ1, w1) => (match β ρ1 w1 with
      | some (.nx ρ2, w2) => forGoP τ β ts ρ2 w2
      | some (.ct ρ2, w2) => forGoP τ β ts ρ2 w2
      | some (.bk ρ2, w2) => some (.nx ρ2, w2)
      | y => y)
def forP (φi : PFI) (τ : PT) (β : PFS) : PFS := fun ρ w => match φi ρ w with
  | some (.ok 0 ts, w1) => forGoP τ β ts ρ w1
  | some (.er c, w1) => some (.er c ρ, w1)
  | _ => none
section
variable {X : Nat → Prop} {fps : List (List Nat)} {i : Its} {ts : List T} {S1 : List O} {F : TF} {τ : PT} {body : FS} {β : PFS}
theorem forGo_sim (x1 : X 1) (I : ItsR (Cx X fps) S1 i 0 ts) (hT : SimT F τ) (hb : SimS body β) :
    ∀ (us : List T) (n j : Nat) (G : List O) (sa : Sa) (ρ : En) (gps : List (List Nat)) (w w' : Wr) (r : PS), ts.drop j = us → us.length < n → EnvR X gps G sa ρ → Grow fps gps S1.length → Mv (Yf fps) S1 G → RowR G w → forGoP τ β us ρ w = some (r, w') → OutS X gps G (forGo i F body n j sa G) r w'
  | us, 0, j, G, sa, ρ, gps, w, w', r, e, hn, E, gr, m, hr, h => by omega
  | [], n + 1, j, G, sa, ρ, gps, w, w', r, e, hn, E, gr, m, hr, h => by
    obtain ⟨as, q, hl, it⟩ := I
    cases h
    rw [forGo_stop (by rw [it _ G m (fun l y c => c.2 rfl (by rcases y with rfl | y; exact absurd x1 c.1; exact y)) j, List.getElem?_eq_none (by rw [q.len]; exact List.drop_eq_nil_iff.mp e)])]
    exact ⟨_, rfl, Mv.refl, hr, end_same E⟩
  | t :: us, n + 1, j, G, sa, ρ, gps, w, w', r, e, hn, E, gr, m, hr, h => by
    have I0 := I
    obtain ⟨as, q, hl, it⟩ := I
    have yc : ∀ l, Yf fps l → ¬ Cx X fps 0 l := fun l y c => c.2 rfl (by rcases y with rfl | y; exact absurd x1 c.1; exact y)
    have hj : ts[j]? = some t := by
      have := congrArg (·[0]?) e
      simpa using this
    obtain ⟨a, ea, ra⟩ := q.get hj
    have e2 : ts.drop (j + 1) = us := by
      have := congrArg List.tail e
      simpa using this
    have ra2 : Rt (Cx X gps) G 0 a t := by
      have r1 := Rt.gen (k' := 0) (C' := fun k l => Cx X fps 0 l ∧ l < S1.length) (fun i l hl c => ⟨by
        rw [show (0 - 1 - i) = 0 by omega] at c
        exact c, hl⟩) ra
      have r2 := r1.mv m fun i l y c => yc l y c.1
      exact r2.gen fun i l hl c => ⟨c.1.1, fun _ z => (gr l z).elim (c.1.2 rfl) fun z => by
        have := c.2
        omega⟩
    have hi : itemAt i j G = some (some a) := by rw [it _ G m yc j, ea]
    rw [forGo]
    simp only [hi]
    unfold forGoP at h
    split at h
    · cases h
    · rename_i ρ1 w1 h1
      obtain ⟨z, k1, k2, k3, p, E1, g1⟩ := hT X gps G G sa ρ ρ1 w w w1 0 0 a t E hr But.refl hr ra2 (.inl rfl) h1
      simp only [k1]
      have m1 : Mv (Yf fps) S1 z.2 := kx_trans m gr k2
      have gr1 : Grow fps p S1.length := gr.trans g1 m.1
      split at h
      · rename_i ρ2 w2 h2
        obtain ⟨x, b1, b2, b3, b4⟩ := hb X p z.2 z.1 ρ1 w1 w2 _ E1 k3 h2
        cases x <;> simp only [ResS] at b4
        simp only [b1]
        obtain ⟨p2, E2, g2⟩ := b4
        simp only [stF] at b2 b3
        exact (forGo_sim x1 I0 hT hb us n (j + 1) _ _ ρ2 p2 w2 w' r e2 (by simp only [List.length_cons] at hn; omega) E2 (gr1.trans g2 m1.1) (kx_trans m1 gr1 b2) b3 h).pre (kx_trans k2 g1 b2) (g1.trans g2 k2.1)
      · rename_i ρ2 w2 h2
        obtain ⟨x, b1, b2, b3, b4⟩ := hb X p z.2 z.1 ρ1 w1 w2 _ E1 k3 h2
        cases x <;> simp only [ResS] at b4
        simp only [b1]
        obtain ⟨p2, E2, g2⟩ := b4
        simp only [stF] at b2 b3
        exact (forGo_sim x1 I0 hT hb us n (j + 1) _ _ ρ2 p2 w2 w' r e2 (by simp only [List.length_cons] at hn; omega) E2 (gr1.trans g2 m1.1) (kx_trans m1 gr1 b2) b3 h).pre (kx_trans k2 g1 b2) (g1.trans g2 k2.1)
      · rename_i ρ2 w2 h2
        cases h
        obtain ⟨x, b1, b2, b3, b4⟩ := hb X p z.2 z.1 ρ1 w1 w' _ E1 k3 h2
        cases x <;> simp only [ResS] at b4
        simp only [b1]
        obtain ⟨p2, E2, g2⟩ := b4
        exact ⟨_, rfl, kx_trans k2 g1 b2, b3, p2, E2, g1.trans g2 k2.1⟩
      · rename_i n1 n2 n3
        obtain ⟨x, b1, b2, b3, b4⟩ := hb X p z.2 z.1 ρ1 w1 w' r E1 k3 h
        have b5 := (OutS.pre ⟨x, b1, b2, b3, b4⟩ k2 g1)
        cases x with
        | nx _ _ => cases r <;> simp only [ResS] at b4; exact absurd h (n1 _ _)
        | ct _ _ => cases r <;> simp only [ResS] at b4; exact absurd h (n2 _ _)
        | bk _ _ => cases r <;> simp only [ResS] at b4; exact absurd h (n3 _ _)
        | rt _ _ => rw [b1] at b5; simp only [b1]; exact b5
        | er _ _ _ => rw [b1] at b5; simp only [b1]; exact b5
end
theorem sim_for {fi : FI} {F : TF} {body : FS} {φi : PFI} {τ : PT} {β : PFS} (hi : SimI fi φi) (hT : SimT F τ) (hb : SimS body β) : SimS (forF fi F body) (forP φi τ β) := fun X fps S sa ρ w w' r E hr h => by
  unfold forP at h
  unfold forF
  split at h
  · rename_i ts w1 e1
    obtain ⟨x, h1, h2, h3, h4⟩ := hi X fps S sa ρ w w1 _ E hr e1
    cases x with
    | er c S1 => exact h4.elim
    | ok i S1 =>
      simp only [stI] at h2 h3
      rw [h1]
      simp only
      have hlen : itsLen i S1 = ts.length := by
        obtain ⟨as, q, hl, _⟩ := h4
        rw [hl, q.len]
      exact (forGo_sim E.one h4 hT hb ts (itsLen i S1 + 1) 0 S1 sa ρ fps w1 w' r rfl (by omega) (E.ev hr h2) Grow.refl Mv.refl h3 h).pre (but_kx h2 hr) Grow.refl
  · rename_i c w1 e1
    cases h
    obtain ⟨x, h1, h2, h3, h4⟩ := hi X fps S sa ρ w w' _ E hr e1
    cases x with
    | ok a S1 => exact h4.elim
    | er c S1 =>
      rw [h1]
      exact ⟨_, rfl, but_kx h2 hr, h3, h4, end_same (E.ev hr h2)⟩
  · cases h
def whGoP (φ : PF) (β : PFS) : Nat → PFS
  | 0 => fun _ _ => none
  | n + 1 => fun ρ w => match φ ρ w with
    | some (.ok _ _ (.bl true), w1) => (match β ρ w1 with
      | some (.nx ρ2, w2) => whGoP φ β n ρ2 w2
      | some (.ct ρ2, w2) => whGoP φ β n ρ2 w2
      | some (.bk ρ2, w2) => some (.nx ρ2, w2)
      | y => y)
    | some (.ok _ _ (.bl false), w1) => some (.nx ρ, w1)
    | some (.er c, w1) => some (.er c ρ, w1)
    | _ => none
def whP (φ : PF) (β : PFS) : PFS := whGoP φ β 100000
theorem whGo_sim {fc : F} {f : FS} {φ : PF} {β : PFS} (hc : SimF fc φ) (hb : SimS f β) : ∀ n : Nat, SimS (whGo fc f n) (whGoP φ β n)
  | 0 => fun X fps S sa ρ w w' r E hr h => by cases h
  | n + 1 => fun X fps S sa ρ w w' r E hr h => by
    simp only [whGoP] at h
    simp only [whGo]
    split at h
    · rename_i k fr w1 e
      obtain ⟨x, h1, h2, h3, h4⟩ := hc X fps S sa ρ w w1 _ E hr e
      cases x <;> simp only [ResR, Rt] at h4
      rename_i a S1
      simp only [h1, h4.1]
      have E1 := E.ev hr h2
      simp only [stR] at h2 h3 E1
      split at h
      · rename_i ρ2 w2 e2
        obtain ⟨x, b1, b2, b3, b4⟩ := hb X fps S1 sa ρ w1 w2 _ E1 h3 e2
        cases x <;> simp only [ResS] at b4
        simp only [b1]
        obtain ⟨p2, E2, g2⟩ := b4
        exact ((whGo_sim hc hb n X p2 _ _ ρ2 w2 w' r E2 b3 h).pre b2 g2).pre (but_kx h2 hr) Grow.refl
      · rename_i ρ2 w2 e2
        obtain ⟨x, b1, b2, b3, b4⟩ := hb X fps S1 sa ρ w1 w2 _ E1 h3 e2
        cases x <;> simp only [ResS] at b4
        simp only [b1]
        obtain ⟨p2, E2, g2⟩ := b4
        exact ((whGo_sim hc hb n X p2 _ _ ρ2 w2 w' r E2 b3 h).pre b2 g2).pre (but_kx h2 hr) Grow.refl
      · rename_i ρ2 w2 e2
        cases h
        obtain ⟨x, b1, b2, b3, b4⟩ := hb X fps S1 sa ρ w1 w' _ E1 h3 e2
        cases x <;> simp only [ResS] at b4
        simp only [b1]
        exact (OutS.pre ⟨_, rfl, b2, b3, b4⟩ (but_kx h2 hr) Grow.refl)
      · rename_i n1 n2 n3
        obtain ⟨x, b1, b2, b3, b4⟩ := hb X fps S1 sa ρ w1 w' r E1 h3 h
        have b5 := (OutS.pre ⟨x, b1, b2, b3, b4⟩ (but_kx h2 hr) Grow.refl)
        cases x with
        | nx _ _ => cases r <;> simp only [ResS] at b4; exact absurd h (n1 _ _)
        | ct _ _ => cases r <;> simp only [ResS] at b4; exact absurd h (n2 _ _)
        | bk _ _ => cases r <;> simp only [ResS] at b4; exact absurd h (n3 _ _)
        | rt _ _ => rw [b1] at b5; simp only [b1]; exact b5
        | er _ _ _ => rw [b1] at b5; simp only [b1]; exact b5
    · rename_i k fr w1 e
      cases h
      obtain ⟨x, h1, h2, h3, h4⟩ := hc X fps S sa ρ w w' _ E hr e
      cases x <;> simp only [ResR, Rt] at h4
      simp only [h1, h4.1]
      exact ⟨_, rfl, but_kx h2 hr, h3, end_same (E.ev hr h2)⟩
    · rename_i c w1 e
      cases h
      obtain ⟨x, h1, h2, h3, h4⟩ := hc X fps S sa ρ w w' _ E hr e
      cases x <;> simp only [ResR] at h4
      simp only [h1]
      exact ⟨_, rfl, but_kx h2 hr, h3, h4, end_same (E.ev hr h2)⟩
    · cases h
theorem sim_while {fc : F} {f : FS} {φ : PF} {β : PFS} (hc : SimF fc φ) (hb : SimS f β) : SimS (whF fc f) (whP φ β) := whGo_sim hc hb 100000
/-! ## lists that grow -/
def appS (i : Nat) (φ : PF) : PFS := fun ρ w => match φ ρ w, ρ[i]? with
  | some (.ok _ _ t, w1), some (some (.ow 1 (.lst ts))) => if t.noL = true ∧ ts.length < 1000000 then some (.nx ((ρ.map clr).set i (some (.ow 1 (.lst (ts ++ [t]))))), w1) else none
  | _, _ => none
theorem sim_app {i : Nat} {fe : F} {φ : PF} (he : SimF fe φ) : SimS (expF (mtF isLstB appG (varF i) (consF fe nilF))) (appS i φ) := fun X fps S sa ρ w w' r E hr h => by
  unfold appS at h
  split at h
  · rename_i k fr t w1 ts e1 e2
    split at h
    · rename_i hn
      cases h
      obtain ⟨x, h1, h2, h3, h4⟩ := he X fps S sa ρ w w' _ E hr e1
      cases x <;> simp only [ResR] at h4
      rename_i a S2
      simp only [stR] at h2 h3
      obtain ⟨l, as0, p1, p2, _⟩ := E.ow1 e2
      obtain ⟨l', as, g1, g2, g3, l0, l1, g4, g5⟩ := (E.ev hr h2).ow1 e2
      have el : l = l' := by
        rw [p1] at g1
        cases g1
        rfl
      subst el
      have hh : expF (mtF isLstB appG (varF i) (consF fe nilF)) sa S = some (.nx sa (S2.set l (.lst (as ++ [a])))) := by
        unfold expF mtF
        rw [r_bnd (r_var g1) (y := some (.ok .non (S2.set l (.lst (as ++ [a]))))) (by
          rw [if_pos (by simp only [isLstB]; rw [p2])]
          rw [r_bndL (r_cons h1 r_nil) (y := some (.ok .non (S2.set l (.lst (as ++ [a]))))) (by
            show toR (appG (.ref l) [a] S2) = _
            unfold appG
            simp only
            rw [g2]
            simp only
            rw [if_pos (by rw [g4.len]; exact hn.2)]
            rfl)])]
      rw [hh]
      exact ⟨_, rfl, (but_kx h2 hr).trans (mv_set g2 (.inr g3)), h3.set l0 l1, end_same (g5 _ _ (g4.app (by simp only [RtL]; exact ⟨h4.1.free hn.1, trivial⟩)))⟩
    · cases h
  · cases h
def extS (i : Nat) (φ : PF) : PFS := fun ρ w => match φ ρ w, ρ[i]? with
  | some (.ok _ _ (.tup _ us), w1), some (some (.ow 1 (.lst ts))) => if noLs us = true ∧ ts.length + us.length ≤ 1000000 then some (.nx ((ρ.map clr).set i (some (.ow 1 (.lst (ts ++ us))))), w1) else none
  | some (.ok _ _ (.lst us), w1), some (some (.ow 1 (.lst ts))) => if noLs us = true ∧ ts.length + us.length ≤ 1000000 then some (.nx ((ρ.map clr).set i (some (.ow 1 (.lst (ts ++ us))))), w1) else none
  | _, _ => none
theorem sim_ext {i : Nat} {fe : F} {φ : PF} (he : SimF fe φ) : SimS (expF (mtF isLstB extG (varF i) (consF fe nilF))) (extS i φ) := fun X fps S sa ρ w w' r E hr h => by
  have go : ∀ (k fr : Nat) (t : T) (us ts : List T) (ρ1 : En), (∀ (C : Nat → Nat → Prop) (S : List O) (a : A), Rt C S k a t → ∃ m bs, a = .ref m ∧ (S[m]? = some (.lst bs) ∨ S[m]? = some (.tup bs)) ∧ RtL C S (k - 1) bs us) → φ ρ w = some (.ok k fr t, w') → ρ[i]? = some (some (.ow 1 (.lst ts))) → noLs us = true ∧ ts.length + us.length ≤ 1000000 → OutS X fps S (expF (mtF isLstB extG (varF i) (consF fe nilF)) sa S) (.nx ((ρ.map clr).set i (some (.ow 1 (.lst (ts ++ us)))))) w' := fun k fr t us ts _ hrd e1 e2 hn => by
    obtain ⟨x, h1, h2, h3, h4⟩ := he X fps S sa ρ w w' _ E hr e1
    cases x <;> simp only [ResR] at h4
    rename_i a S2
    simp only [stR] at h2 h3
    obtain ⟨l, as0, p1, p2, _⟩ := E.ow1 e2
    obtain ⟨l', as, g1, g2, g3, l0, l1, g4, g5⟩ := (E.ev hr h2).ow1 e2
    have el : l = l' := by
      rw [p1] at g1
      cases g1
      rfl
    subst el
    obtain ⟨m, bs, rfl, hm, hb⟩ := hrd _ _ _ h4.1
    have hl : as.length + bs.length ≤ 1000000 := by rw [g4.len, hb.len]; exact hn.2
    have hh : expF (mtF isLstB extG (varF i) (consF fe nilF)) sa S = some (.nx sa (S2.set l (.lst (as ++ bs)))) := by
      unfold expF mtF
      rw [r_bnd (r_var g1) (y := some (.ok .non (S2.set l (.lst (as ++ bs))))) (by
        rw [if_pos (by simp only [isLstB]; rw [p2])]
        rw [r_bndL (r_cons h1 r_nil) (y := some (.ok .non (S2.set l (.lst (as ++ bs))))) (by
          show toR (extG (.ref l) [.ref m] S2) = _
          unfold extG
          simp only
          rw [g2]
          rcases hm with hm | hm <;> rw [hm] <;> simp only <;> rw [if_pos hl] <;> rfl)])]
    rw [hh]
    exact ⟨_, rfl, (but_kx h2 hr).trans (mv_set g2 (.inr g3)), h3.set l0 l1, end_same (g5 _ _ (g4.app (hb.free hn.1)))⟩
  unfold extS at h
  split at h
  · rename_i k fr z us w1 ts e1 e2
    split at h
    · rename_i hn
      cases h
      exact go k fr _ us ts ρ (fun C S a x => by simp only [Rt] at x; obtain ⟨l, bs, e, g, _, q⟩ := x; exact ⟨l, bs, e, .inr g, q⟩) e1 e2 hn
    · cases h
  · rename_i k fr us w1 ts e1 e2
    split at h
    · rename_i hn
      cases h
      exact go k fr _ us ts ρ (fun C S a x => by simp only [Rt] at x; obtain ⟨l, bs, e, g, _, q⟩ := x; exact ⟨l, bs, e, .inl g, q⟩) e1 e2 hn
    · cases h
  · cases h
def popS (i j : Nat) : PFS := fun ρ w => match ρ[i]? with
  | some (some (.ow 1 (.lst ts))) => (match ts[ts.length - 1]? with
    | some t => some (.nx (((ρ.map clr).set i (some (.ow 1 (.lst ts.dropLast)))).set j (some (.im 0 t))), w)
    | none => none)
  | _ => none
theorem RtL.dropLast {C : Nat → Nat → Prop} {S : List O} {k : Nat} {as : List A} {ts : List T} (h : RtL C S k as ts) : RtL C S k as.dropLast ts.dropLast := by
  rw [List.dropLast_eq_take, List.dropLast_eq_take, h.len]
  exact h.take
theorem sim_pop {i j : Nat} : SimS (asgF (mtF isLstB popG (varF i) nilF) (nameT j)) (popS i j) := fun X fps S sa ρ w w' r E hr h => by
  unfold popS at h
  split at h
  · rename_i ts e2
    split at h
    · rename_i t ht
      cases h
      obtain ⟨l, as, g1, g2, g3, l0, l1, g4, g5⟩ := E.ow1 e2
      obtain ⟨a, ha, ra⟩ := g4.get ht
      rw [← g4.len] at ha
      have hh : asgF (mtF isLstB popG (varF i) nilF) (nameT j) sa S = some (.nx (sa.set j (some a)) (S.set l (.lst as.dropLast))) := r_asgN (by
        unfold mtF
        refine r_bnd (r_var g1) ?_
        rw [if_pos (by simp only [isLstB]; rw [g2])]
        refine r_bndL r_nil ?_
        show toR (popG (.ref l) [] S) = _
        unfold popG
        simp only
        rw [g2]
        simp only
        rw [ha]
        rfl)
      rw [hh]
      have m : Mv (Yf fps) S (S.set l (.lst as.dropLast)) := mv_set g2 (.inr g3)
      have E1 := g5 as.dropLast ts.dropLast g4.dropLast
      exact ⟨_, rfl, m, hr.set l0 l1, end_same (E1.im ((ra.mv m fun _ _ _ z => z).gen fun _ _ _ z => z.elim))⟩
    · cases h
  · cases h
/-! ## defs -/
def defP (m : Nat) (β : PFS) : PFD := fun ts w => if ts.length ≤ m then (match β (ts.map (fun t => some (.im 0 t)) ++ List.replicate (m - ts.length) none) w with
  | some (.nx _, w') => some (.ok .non, w')
  | some (.rt t, w') => some (.ok t, w')
  | some (.er c _, w') => some (.er c, w')
  | _ => none) else none
theorem flat_nil (n : Nat) : (List.replicate n ([] : List Nat)).flatten = [] := by
  induction n with
  | zero => rfl
  | succ n ih => rw [List.replicate_succ, List.flatten_cons, ih]; rfl
theorem start_env {X : Nat → Prop} {S : List O} {as : List A} {ts : List T} {m : Nat} (x0 : X 0) (x1 : X 1) (hX : ∀ l, X l → l < S.length) (h : RtL (fun _ l => ¬ X l) S 0 as ts) (hm : ts.length ≤ m) : EnvR X (List.replicate m []) S (as.map some ++ List.replicate (m - as.length) none) (ts.map (fun t => some (Ev.im 0 t)) ++ List.replicate (m - ts.length) none) := by
  have hl := h.len
  refine ⟨by simp [hl], by simp; omega, x0, x1, hX, by rw [flat_nil]; exact List.nodup_nil, fun l hl => (by rw [flat_nil] at hl; cases hl), fun l hl => (by rw [flat_nil] at hl; cases hl), fun i e he => ?_⟩
  by_cases hi : i < ts.length
  · rw [List.getElem?_append_left (by rw [List.length_map]; exact hi), List.getElem?_map, List.getElem?_eq_getElem hi] at he
    cases he
    obtain ⟨a, ha, hr⟩ := h.get (List.getElem?_eq_getElem hi)
    refine ⟨a, [], ?_, ?_, ?_⟩
    · rw [List.getElem?_append_left (by rw [List.length_map, hl]; exact hi), List.getElem?_map, ha]
      rfl
    · rw [List.getElem?_replicate]
      rw [if_pos (by omega)]
    · exact Rt.gen (fun i l _ c => ⟨c, fun _ z => by rw [flat_nil] at z; cases z⟩) hr
  · rw [List.getElem?_append_right (by rw [List.length_map]; omega), List.getElem?_replicate] at he
    split at he <;> cases he
theorem sim_def {m : Nat} {b : FS} {β : PFS} (hb : SimS b β) : SimD (defF m b) (defP m β) := fun X S as ts w w' r x0 x1 hX h hr e => by
  unfold defP at e
  unfold defF
  split at e
  · rename_i hm
    have E := start_env x0 x1 hX h hm
    have bt : ∀ S' : List O, Mv (Yf (List.replicate m [])) S S' → But 1 S S' := fun S' mv => ⟨mv.1, fun l o n e => mv.2 l o e fun y => y.elim (fun z => absurd z n) fun z => by rw [flat_nil] at z; cases z⟩
    split at e
    · rename_i ρ w1 e1
      cases e
      obtain ⟨x, h1, h2, h3, h4⟩ := hb X _ S _ _ w w' _ E hr e1
      cases x <;> simp only [ResS] at h4
      rw [h1]
      exact ⟨_, rfl, bt _ h2, h3, by simp only [Rt]⟩
    · rename_i t w1 e1
      cases e
      obtain ⟨x, h1, h2, h3, h4⟩ := hb X _ S _ _ w w' _ E hr e1
      cases x <;> simp only [ResS] at h4
      rw [h1]
      exact ⟨_, rfl, bt _ h2, h3, h4⟩
    · rename_i c ρ w1 e1
      cases e
      obtain ⟨x, h1, h2, h3, h4⟩ := hb X _ S _ _ w w' _ E hr e1
      cases x <;> simp only [ResS] at h4
      rw [h1]
      exact ⟨_, rfl, bt _ h2, h3, h4.1⟩
    · cases e
  · cases e
def trimDP (δ : PFD) : PFD := fun ts w => match δ ts w with
  | some (.ok t, w') => if flatT t = true then some (.ok t, w) else if isTy t = true then none else some (.ok t, w')
  | some (.er c, _) => some (.er c, w)
  | none => none
theorem sim_trimD {d : FD} {δ : PFD} (hd : SimD d δ) : SimD (trimD d) (trimDP δ) := fun X S as ts w w' r x0 x1 hX h hr e => by
  unfold trimDP at e
  unfold trimD trimR
  split at e
  · rename_i t w1 e1
    obtain ⟨x, h1, h2, h3, h4⟩ := hd X S as ts w w1 _ x0 x1 hX h hr e1
    cases x with
    | er c S1 => exact h4.elim
    | ok a S1 =>
      split at e
      · rename_i hf
        cases e
        obtain ⟨f1, f2⟩ := flatT_A h4 hf
        rw [h1]
        simp only [Option.map_some, f1, if_true]
        exact ⟨_, rfl, But.refl, hr, f2 _ _ _⟩
      · rename_i hf
        split at e
        · cases e
        · rename_i ht
          cases e
          rw [h1]
          simp only [Option.map_some, flatT_not h4 (by simpa using hf) (fun z e => by subst e; exact ht rfl)]
          exact ⟨_, rfl, h2, h3, h4⟩
  · rename_i c w1 e1
    cases e
    obtain ⟨x, h1, h2, h3, h4⟩ := hd X S as ts w w1 _ x0 x1 hX h hr e1
    cases x with
    | ok a S1 => exact h4.elim
    | er c S1 =>
      rw [h1]
      exact ⟨_, rfl, But.refl, hr, h4⟩
  · cases e
def noDP : PFD := fun _ _ => none
theorem sim_noD : SimD noD noDP := fun X S as ts w w' r x0 x1 hX h hr e => by cases e
def noP : PF := fun _ _ => none
theorem sim_noF : SimF noF noP := fun X fps S sa ρ w w' r E hr h => by cases h
def noSP : PFS := fun _ _ => none
theorem sim_noS : SimS noS noSP := fun X fps S sa ρ w w' r E hr h => by cases h
end Vai
set_option maxRecDepth 100000
set_option maxHeartbeats 2000000
namespace Vai
open PySem L2
def tryP (c : Nat) (β σ : PFS) : PFS := fun ρ w => match β ρ w with
  | some (.er c' ρ1, w1) => if c' = c then σ ρ1 w1 else none
  | y => y
theorem sim_try {c : Nat} {fb fs : FS} {β σ : PFS} (hb : SimS fb β) (hs : SimS fs σ) : SimS (tryF c fb fs) (tryP c β σ) := fun X fps S sa ρ w w' r E hr h => by
  unfold tryP at h
  unfold tryF
  split at h
  · rename_i c' ρ1 w1 e
    split at h
    · rename_i hc
      obtain ⟨x, h1, h2, h3, h4⟩ := hb X fps S sa ρ w w1 _ E hr e
      cases x <;> simp only [ResS] at h4
      obtain ⟨rfl, p, E1, g⟩ := h4
      rw [h1]
      simp only
      rw [if_pos hc]
      exact (hs X p _ _ ρ1 w1 w' r E1 h3 h).pre h2 g
    · cases h
  · rename_i n
    obtain ⟨x, h1, h2, h3, h4⟩ := hb X fps S sa ρ w w' r E hr h
    rw [h1]
    cases x with
    | er _ _ _ => cases r <;> simp only [ResS] at h4; exact absurd h (n _ _ _)
    | _ => exact ⟨_, rfl, h2, h3, h4⟩
/-! how many keys a set of tuples has -/
def scGoP (τ : PX) (vs : List Nat) (φt φe : PF) (k : Nat) (ρ : En) : List T → List (List Int) → Wr → Option (List (List Int) × Wr)
  | [], ks, w => some (ks, w)
  | t :: ts, ks, w => match τ k t (wipeP ρ vs) with
    | none => none
    | some ρ1 => (match φt ρ1 w with
      | some (.ok _ _ (.bl true), w2) => (match φe ρ1 w2 with
        | some (.ok _ _ (.tup _ us), w3) => (match toIntsT us with
          | some q => if ks.length < 62 then scGoP τ vs φt φe k ρ ts (if (ks.any fun e => decide (e = q)) = true then ks else ks ++ [q]) w3 else none
          | none => none)
        | _ => none)
      | some (.ok _ _ (.bl false), w2) => scGoP τ vs φt φe k ρ ts ks w2
      | _ => none)
def lenSetP (φi : PFI) (τ : PX) (vs : List Nat) (φt φe : PF) : PF := fun ρ w => match φi ρ w with
  | some (.ok k ts, w1) => (match scGoP τ vs φt φe (k - 1) ρ ts [] w1 with
    | some (ks, w2) => some (.ok 0 0 (.int ks.length), w2)
    | none => none)
  | some (.er c, w1) => some (.er c, w1)
  | none => none
theorem mv_setO {S : List O} {d : Nat} {o u : O} (h : S[d]? = some o) (ho : o.isLst = true) {Y : Nat → Prop} (y : Y d) : Mv Y S (S.set d u) := ⟨by rw [List.length_set]; exact Nat.le_refl _, fun l v e n => by
  by_cases hl : d = l
  · subst hl
    rw [h] at e
    cases e
    have := n y
    rw [ho] at this
    cases this
  · rw [List.getElem?_set_ne hl]
    exact e⟩
def Ents (S : List O) (es : List (Nat × List Int)) : Prop := ∀ e ∈ es, ∃ as, S[e.1]? = some (.tup as) ∧ toInts as = some e.2
theorem Ents.mv {Y : Nat → Prop} {S S' : List O} {es : List (Nat × List Int)} (h : Ents S es) (m : Mv Y S S') : Ents S' es := fun e he => by
  obtain ⟨as, a, b⟩ := h e he
  exact ⟨as, m.2 _ _ a fun _ => rfl, b⟩
theorem Ents.ok {S : List O} {es : List (Nat × List Int)} (h : Ents S es) : es.all (entOk S) = true := by
  rw [List.all_eq_true]
  intro e he
  obtain ⟨as, a, b⟩ := h e he
  unfold entOk
  rw [a]
  exact decide_eq_true b
section
variable {X : Nat → Prop} {fps : List (List Nat)} {d : Nat} {i : Its} {k : Nat} {ts : List T} {G0 : List O} {T : TX} {τ : PX} {vs : List Nat} {ft fe : F} {φt φe : PF} {sa : Sa} {ρ : En}
theorem scGo_sim (xd : X d) (d0 : d ≠ 0) (d1 : d ≠ 1) (x1 : X 1) (I : ItsR (Cx X fps) G0 i k ts) (hT : SimX T τ) (ht : SimF ft φt) (he : SimF fe φe) :
    ∀ (us : List Vai.T) (n j : Nat) (G : List O) (es : List (Nat × List Int)) (ks ks' : List (List Int)) (w w' : Wr), ts.drop j = us → us.length < n → EnvR X fps G sa ρ → RowR G w → Mv (Yd d) G0 G → G[d]? = some (.set es) → Ents G es → es.map (·.2) = ks → scGoP τ vs φt φe (k - 1) ρ us ks w = some (ks', w') →
      ∃ G2 es2, scGo i T vs ft fe d sa n j G = some G2 ∧ Mv (Yd d) G G2 ∧ RowR G2 w' ∧ G2[d]? = some (.set es2) ∧ Ents G2 es2 ∧ es2.map (·.2) = ks'
  | us, 0, j, G, es, ks, ks', w, w', e, hn, E, hr, m, hd, ha, hk, h => by omega
  | [], n + 1, j, G, es, ks, ks', w, w', e, hn, E, hr, m, hd, ha, hk, h => by
    obtain ⟨as, q, hl, it⟩ := I
    cases h
    simp only [scGo]
    rw [it _ G m (fun l y c => c.1 (by rcases y with rfl | rfl; exact x1; exact xd)) j, List.getElem?_eq_none (by rw [q.len]; exact List.drop_eq_nil_iff.mp e)]
    exact ⟨G, es, rfl, Mv.refl, hr, hd, ha, hk⟩
  | t :: us, n + 1, j, G, es, ks, ks', w, w', e, hn, E, hr, m, hd, ha, hk, h => by
    have I0 := I
    obtain ⟨as, q, hl, it⟩ := I
    have yx : ∀ l, Yd d l → X l := fun l y => by rcases y with rfl | rfl; exact x1; exact xd
    have yc : ∀ l, Yd d l → ∀ k, ¬ Cx X fps k l := fun l y k c => c.1 (yx l y)
    have hj : ts[j]? = some t := by
      have := congrArg (·[0]?) e
      simpa using this
    obtain ⟨a, ea, ra⟩ := q.get hj
    have ra2 := ra.mv m fun i l y => yc l y _
    simp only [scGo]
    rw [it _ G m (fun l y => yc l y _) j, ea]
    simp only
    unfold scGoP at h
    have e2 : ts.drop (j + 1) = us := by
      have := congrArg List.tail e
      simpa using this
    split at h
    · cases h
    · rename_i ρ1 h1
      obtain ⟨sa1, k1, E1⟩ := hT X fps G (wipeA sa vs) (wipeP ρ vs) ρ1 (k - 1) a t (E.wipes vs) ra2 h1
      rw [k1]
      simp only
      split at h
      · rename_i _ _ w2 h2
        obtain ⟨x, g1, g2, g3, g4⟩ := ht X fps G sa1 ρ1 w w2 _ E1 hr h2
        cases x with
        | er c S1 => simp only [ResR] at g4
        | ok b S2 =>
          simp only [ResR, Rt, stR] at g4 g2 g3
          rw [g1, g4.1]
          simp only
          have m2 : Mv (Yd d) G S2 := but_mv g2 hr (.inl rfl)
          split at h
          · rename_i zz y w3 h3
            obtain ⟨x, f1, f2, f3, f4⟩ := he X fps S2 sa1 ρ1 w2 w3 _ (E1.mv m2 yx) g3 h3
            cases x with
            | er c S1 => simp only [ResR] at f4
            | ok b S3 =>
              simp only [ResR, stR, Rt] at f4 f2 f3
              obtain ⟨⟨l, bs, rfl, gl, _, rb⟩, _⟩ := f4
              rw [f1]
              simp only
              have m3 : Mv (Yd d) G S3 := m2.trans (but_mv f2 g3 (.inl rfl))
              have hd3 : S3[d]? = some (.set es) := f2.2 d _ d1 (g2.2 d _ d1 hd)
              rw [gl, hd3]
              simp only
              split at h
              · rename_i kk hkk
                rw [toIntsT_rt hkk rb]
                simp only
                split at h
                · rename_i hlt
                  have ents := ha.mv m3
                  have hlen : es.length = ks.length := by rw [← hk, List.length_map]
                  rw [if_pos (by rw [ents.ok, decide_eq_true (by omega)]; rfl)]
                  have hany : (es.any fun e => decide (e.2 = kk)) = (ks.any fun e => decide (e = kk)) := by
                    rw [← hk, List.any_map]
                    rfl
                  rw [hany]
                  by_cases hin : (ks.any fun e => decide (e = kk)) = true
                  · rw [if_pos hin] at h ⊢
                    obtain ⟨G2, es2, r1, r2, r3, r4, r5, r6⟩ := scGo_sim xd d0 d1 x1 I0 hT ht he us n (j + 1) S3 es ks ks' w3 w' e2 (by simp only [List.length_cons] at hn; omega) (E.mv m3 yx) f3 (m.trans m3) hd3 ents hk h
                    exact ⟨G2, es2, r1, m3.trans r2, r3, r4, r5, r6⟩
                  · rw [if_neg hin] at h ⊢
                    have ms : Mv (Yd d) S3 (S3.set d (.set (es ++ [(l, kk)]))) := mv_setO hd3 rfl (.inr rfl)
                    have m4 := m3.trans ms
                    have hdl : d ≠ l := fun z => by
                      subst z
                      rw [hd3] at gl
                      cases gl
                    obtain ⟨G2, es2, r1, r2, r3, r4, r5, r6⟩ := scGo_sim xd d0 d1 x1 I0 hT ht he us n (j + 1) (S3.set d (.set (es ++ [(l, kk)]))) (es ++ [(l, kk)]) (ks ++ [kk]) ks' w3 w' e2 (by simp only [List.length_cons] at hn; omega) (E.mv m4 yx) (f3.set d0 d1) (m.trans m4) (List.getElem?_set_self (List.getElem?_eq_some_iff.mp hd3).1) (fun u hu => by
                      rcases List.mem_append.mp hu with hu | hu
                      · exact ents.mv ms u hu
                      · rw [List.mem_singleton.mp hu]
                        exact ⟨bs, by rw [List.getElem?_set_ne hdl]; exact gl, toIntsT_rt hkk rb⟩) (by rw [List.map_append, hk]; rfl) h
                    exact ⟨G2, es2, r1, m4.trans r2, r3, r4, r5, r6⟩
                · cases h
              · cases h
          · cases h
      · rename_i _ _ w2 h2
        obtain ⟨x, g1, g2, g3, g4⟩ := ht X fps G sa1 ρ1 w w2 _ E1 hr h2
        cases x with
        | er c S1 => simp only [ResR] at g4
        | ok b S2 =>
          simp only [ResR, Rt, stR] at g4 g2 g3
          rw [g1, g4.1]
          simp only
          have m2 : Mv (Yd d) G S2 := but_mv g2 hr (.inl rfl)
          obtain ⟨G2, es2, r1, r2, r3, r4, r5, r6⟩ := scGo_sim xd d0 d1 x1 I0 hT ht he us n (j + 1) S2 es ks ks' w2 w' e2 (by simp only [List.length_cons] at hn; omega) (E.mv m2 yx) g3 (m.trans m2) (g2.2 d _ d1 hd) (ha.mv m2) hk h
          exact ⟨G2, es2, r1, m2.trans r2, r3, r4, r5, r6⟩
      · cases h
end
theorem sim_lenSet {fi : FI} {T : TX} {vs : List Nat} {ft fe : F} {φi : PFI} {τ : PX} {φt φe : PF} (hi : SimI fi φi) (hT : SimX T τ) (ht : SimF ft φt) (he : SimF fe φe) : SimF (lenSetF fi T vs ft fe) (lenSetP φi τ vs φt φe) := fun X fps S sa ρ w w' r E hr h => by
  unfold lenSetP at h
  unfold lenSetF
  split at h
  · rename_i k ts w1 e1
    obtain ⟨x, h1, h2, h3, h4⟩ := hi X fps S sa ρ w w1 _ E hr e1
    cases x with
    | er c S1 => exact h4.elim
    | ok i S1 =>
      simp only [stI] at h2 h3
      rw [h1]
      simp only
      split at h
      · rename_i ks w2 e2
        cases h
        have E1 := E.ev hr h2
        have hlen : itsLen i S1 = ts.length := by
          obtain ⟨as, q, hl, _⟩ := h4
          rw [hl, q.len]
        obtain ⟨t0, t1⟩ := row_two h3
        obtain ⟨G2, es2, r1, r2, r3, r4, r5, r6⟩ := scGo_sim (X := fun l => X l ∨ l = S1.length) (d := S1.length) (.inr rfl) t0 t1 (.inl E.one) h4.more hT ht he ts (itsLen i S1 + 1) 0 (S1 ++ [.set []]) [] [] ks w1 w' rfl (by omega) E1.dst (h3.up (pfa S1 _)) Mv.refl at_new (fun e h => by cases h) rfl e2
        rw [r1]
        simp only
        rw [r4]
        simp only
        rw [if_pos r5.ok, show es2.length = ks.length by rw [← r6, List.length_map]]
        exact ⟨_, rfl, h2.trans (but_dst r2), r3, by simp only [ResR, Rt]; exact ⟨trivial, .inl rfl⟩⟩
      · cases h
  · rename_i c w1 e1
    obtain ⟨x, h1, h2, h3, h4⟩ := hi X fps S sa ρ w w1 _ E hr e1
    cases x with
    | ok a S1 => exact h4.elim
    | er c S1 =>
      cases h
      rw [h1]
      exact ⟨_, rfl, h2, h3, h4⟩
  · cases h
/-! ## the draws -/
def takenP (w : Wr) (m : Int) : Int × Wr :=
  if w.c > 0 then (w.c.fmod m, { w with c := w.c.fdiv m })
  else if w.a + 1 > (w.ns.length : Int) then (((w.b * 48271 + 11).fmod 2147483647).fdiv 7 |>.fmod m, { w with a := w.a + 1, b := (w.b * 48271 + 11).fmod 2147483647 })
  else
    let v := w.ns.getD w.a.toNat 0
    (v.fmod m, { w with a := w.a + 1, b := (w.b * 48271 + v + 11).fmod 2147483647, c := if v ≥ 1000000000000000000 then v.fdiv m else w.c })
def takenD : PFD := fun ts w => match ts with
  | [.row, .int m] => if 0 < m ∧ m < 1073741824 then some (.ok (.int (takenP w m).1), (takenP w m).2) else none
  | _ => none
theorem takenP_rng {w : Wr} {m : Int} (h : 0 < m) : 0 ≤ (takenP w m).1 ∧ (takenP w m).1 < m := by
  have rng : ∀ i : Int, 0 ≤ i.fmod m ∧ i.fmod m < m := fun i => ⟨by rw [Int.fmod_eq_emod_of_nonneg i (by omega)]; exact Int.emod_nonneg i (by omega), by rw [Int.fmod_eq_emod_of_nonneg i (by omega)]; exact Int.emod_lt_of_pos i h⟩
  unfold takenP
  split
  · exact rng _
  · split
    · exact rng _
    · exact rng _
end Vai
set_option maxRecDepth 100000
set_option maxHeartbeats 2000000
namespace Vai
open PySem L2
/-! slices -/
def SimO : Option F → Option PF → Prop
  | none, none => True
  | some f, some φ => SimF f φ
  | _, _ => False
theorem sim_o0 : SimO none none := trivial
theorem sim_o1 {f : F} {φ : PF} (h : SimF f φ) : SimO (some f) (some φ) := h
def oP (φ : Option PF) (κ : Option Int → Wr → Option (PR × Wr)) : PF := fun ρ w => match φ with
  | none => κ none w
  | some f => bindP (f ρ w) fun _ t w1 => (match t with
    | .int i => κ (some i) w1
    | _ => none)
theorem out_o {fl : Option F} {φ : Option PF} (h : SimO fl φ) {kk : Option Int → F} {κ : Option Int → Wr → Option (PR × Wr)} {X : Nat → Prop} {fps : List (List Nat)} {S : List O} {sa : Sa} {ρ : En} {w w' : Wr} {r : PR} (E : EnvR X fps S sa ρ) (hr : RowR S w)
    (hk : ∀ S1 w1 l, But 1 S S1 → RowR S1 w1 → κ l w1 = some (r, w') → Out (Cx X fps) S1.length S1 (kk l sa S1) r w') (e : oP φ κ ρ w = some (r, w')) : Out (Cx X fps) S.length S (bndO fl kk sa S) r w' := by
  match fl, φ, h with
  | none, none, _ => exact hk S w none But.refl hr e
  | some f, some φ, h =>
    simp only [oP, bindP] at e
    unfold bndO bnd
    split at e
    · rename_i j fr t w1 e1
      obtain ⟨x, h1, h2, h3, h4⟩ := h X fps S sa ρ w w1 _ E hr e1
      cases x with
      | er c S1 => simp only [ResR] at h4
      | ok a S1 =>
        simp only [ResR, stR] at h4 h2 h3
        simp only [h1]
        split at e
        · have q := h4.1
          simp only [Rt] at q
          subst q
          exact (hk S1 w1 _ h2 h3 e).pre h2 h2.1
        · cases e
    · rename_i c w1 e1
      obtain ⟨x, h1, h2, h3, h4⟩ := h X fps S sa ρ w w1 _ E hr e1
      cases x with
      | ok a S1 => simp only [ResR] at h4
      | er c S1 =>
        simp only [ResR] at h4
        cases e
        simp only [h1]
        exact ⟨_, rfl, h2, h3, h4⟩
    · cases e
def cutT (xs : List T) (lo hi : Option Int) : List T := (xs.drop (HT.sIx xs.length 0 lo)).take (HT.sIx xs.length xs.length hi - HT.sIx xs.length 0 lo)
def slZ (lo hi : Option Int) : P1 := fun k t => match t with
  | .lst ts => if k ≤ 1 then some (lstZ (cutT ts lo hi)) else none
  | .tup z ts => if wholeB ts.length lo hi = true then some (k, 0, .tup z ts) else if k ≤ 1 then some (tupz (cutT ts lo hi)) else none
  | _ => none
theorem sm_sl {lo hi : Option Int} : Sim1 (slG lo hi) (slZ lo hi) := fun C S k1 a t1 z hC h1 e => by
  unfold slZ at e
  split at e
  · split at e
    · cases e
      simp only [Rt] at h1
      obtain ⟨l, as, rfl, g, _, r⟩ := h1
      rw [show k1 - 1 = 0 by omega] at r
      show ResZ C S (slG lo hi _ _) _
      unfold slG
      simp only
      rw [g]
      refine resL hC ?_
      unfold cutA cutT
      rw [r.len]
      exact r.drop.take
    · cases e
  · have h0 := h1
    simp only [Rt] at h1
    obtain ⟨l, as, rfl, g, _, r⟩ := h1
    show ResZ C S (slG lo hi _ _) _
    unfold slG
    simp only
    rw [g]
    simp only
    rw [r.len]
    split at e
    · rename_i hw
      cases e
      rw [if_pos hw]
      exact resSame h0
    · rename_i hw
      rw [if_neg hw]
      split at e
      · cases e
        rw [show k1 - 1 = 0 by omega] at r
        refine resT ?_
        unfold cutA cutT
        rw [r.len]
        exact r.drop.take
      · cases e
  · cases e
def slP (φ : PF) (lo hi : Option PF) : PF := fun ρ w => bindP (φ ρ w) fun k t w1 => oP lo (fun l w2 => oP hi (fun h w3 => (slZ l h k t).map fun (z : Nat × Nat × T) => (PR.ok z.1 z.2.1 z.2.2, w3)) ρ w2) ρ w1
theorem sim_sl {fo : F} {fl fh : Option F} {φ : PF} {lo hi : Option PF} (ho : SimF fo φ) (hl : SimO fl lo) (hh : SimO fh hi) : SimF (slF fo fl fh) (slP φ lo hi) := sim_bnd (k := fun a => bndO fl fun l => bndO fh fun h => fun _ S => toR (slG l h a S)) (κ := fun k t ρ w1 => oP lo (fun l w2 => oP hi (fun h w3 => (slZ l h k t).map fun (z : Nat × Nat × T) => (PR.ok z.1 z.2.1 z.2.2, w3)) ρ w2) ρ w1) ho fun X fps S sa ρ w w' r a j t E hr h e => by
  refine out_o hl E hr (fun S1 w1 l b1 r1 e1 => ?_) e
  refine out_o hh (E.ev hr b1) r1 (fun S2 w2 h' b2 r2 e2 => ?_) e1
  cases hz : slZ l h' j t with
  | none => rw [hz] at e2; cases e2
  | some z =>
    rw [hz] at e2
    cases e2
    have E2 := (E.ev hr b1).ev r1 b2
    exact out_z (sm_sl _ S2 j a t z (fun k l hl => E2.new hl) ((h.ev hr b1 (Cx.one E)).ev r1 b2 (Cx.one E)) hz) r2
end Vai
set_option maxRecDepth 100000
set_option maxHeartbeats 2000000
namespace Vai
open PySem L2
/-! lambdas, and the telling of an error -/
def lamP (id : Nat) (d : Bool) : PF := fun _ w => some (.ok 0 0 (.clo id d), w)
theorem sim_lam0 {id : Nat} : SimF (lamF0 id) (lamP id false) := fun X fps S sa ρ w w' r E hr e => by
  cases e
  have p : S <+: S ++ [.code] ++ [.clo id S.length none] := pft (pfa S _) (pfa _ _)
  refine ⟨_, rfl, But.of p, hr.up p, ?_⟩
  simp only [ResR, Rt]
  refine ⟨⟨_, _, rfl, ?_, at_up (pfa _ _) at_new⟩, .inl rfl⟩
  rw [List.getElem?_append_right (by simp)]
  simp
theorem sim_lam1 {id : Nat} {d : Int} : SimF (lamF1 id d) (lamP id true) := fun X fps S sa ρ w w' r E hr e => by
  cases e
  have p : S <+: S ++ [.tup [.int d]] ++ [.code] ++ [.clo id (S.length + 1) (some S.length)] := pft (pft (pfa S _) (pfa _ _)) (pfa _ _)
  refine ⟨_, rfl, But.of p, hr.up p, ?_⟩
  simp only [ResR, Rt]
  refine ⟨⟨S.length + 2, S.length + 1, S.length, d, rfl, ?_, at_up (pfa _ _) ?_, at_up (pfa _ _) (at_up (pfa _ _) at_new)⟩, .inl rfl⟩
  · rw [List.getElem?_append_right (by simp)]
    simp
  · rw [List.getElem?_append_right (by simp)]
    simp
def errP (nm : Nat → Option Str) (e0 : Str) (φ : PF) : PF := fun ρ w => match φ ρ w with
  | some (.ok _ _ _, w1) => some (.ok 0 0 (.str e0), w1)
  | some (.er c, w1) => (nm c).map fun z => (PR.ok 0 0 (.str z), w1)
  | none => none
theorem err_sim {nm : Nat → Option Str} {e0 : Str} {fb : F} {φ : PF} (h : SimF fb φ) : SimF (errF nm e0 fb) (errP nm e0 φ) := fun X fps S sa ρ w w' r E hr e => by
  unfold errP at e
  unfold errF
  split at e
  · rename_i k fr t w1 e1
    cases e
    obtain ⟨x, h1, h2, h3, h4⟩ := h X fps S sa ρ w w' _ E hr e1
    cases x <;> simp only [ResR] at h4
    rw [h1]
    exact ⟨_, rfl, h2, h3, by simp only [ResR, Rt]; exact ⟨trivial, .inl rfl⟩⟩
  · rename_i c w1 e1
    obtain ⟨x, h1, h2, h3, h4⟩ := h X fps S sa ρ w w1 _ E hr e1
    cases x <;> simp only [ResR] at h4
    rename_i c2 S2
    subst h4
    cases hn : nm c2 with
    | none =>
      rw [hn] at e
      cases e
    | some z =>
      rw [hn] at e
      cases e
      rw [h1]
      simp only
      rw [hn]
      exact ⟨_, rfl, h2, h3, by simp only [ResR, Rt]; exact ⟨trivial, .inl rfl⟩⟩
  · cases e
/-- the lambdas of a text, and their trees -/
def SimK (ks : Nat → Option (Bool × F)) (kp : Nat → Option (Bool × PF)) : Prop := ∀ id d φ, kp id = some (d, φ) → ∃ fb, ks id = some (d, fb) ∧ SimF fb φ
def errcP (nm : Nat → Option Str) (e0 : Str) (kp : Nat → Option (Bool × PF)) (j : Nat) (vs : List Nat) : PF := fun ρ w => match ρ[j]? with
  | some (some (.im _ (.clo id d))) => (match kp id with
    | some (d', φ) => if d' = d then errP nm e0 φ (wipeP ρ vs) w else none
    | none => none)
  | _ => none
theorem sim_errc {nm : Nat → Option Str} {e0 : Str} {ks : Nat → Option (Bool × F)} {kp : Nat → Option (Bool × PF)} {j : Nat} {vs : List Nat} (hk : SimK ks kp) : SimF (errcF nm e0 ks j vs) (errcP nm e0 kp j vs) := fun X fps S sa ρ w w' r E hr e => by
  unfold errcP at e
  split at e
  · rename_i k id d hj
    split at e
    · rename_i d' φ hp
      split at e
      · rename_i hd
        subst hd
        obtain ⟨fb, h1, h2⟩ := hk id d' φ hp
        obtain ⟨a, ha, hr2⟩ := E.var hj
        have go := err_sim (nm := nm) (e0 := e0) h2 X fps S (wipeA sa vs) (wipeP ρ vs) w w' r (E.wipes vs) hr e
        cases d' with
        | false =>
          simp only [Rt] at hr2
          obtain ⟨l, c, rfl, g1, g2⟩ := hr2
          have : errcF nm e0 ks j vs sa S = errF nm e0 fb (wipeA sa vs) S := by
            unfold errcF
            rw [ha]
            simp only
            rw [g1]
            simp only
            rw [h1, g2]
          rw [this]
          exact go
        | true =>
          simp only [Rt] at hr2
          obtain ⟨l, c, dd, i, rfl, g1, g2, g3⟩ := hr2
          have : errcF nm e0 ks j vs sa S = errF nm e0 fb (wipeA sa vs) S := by
            unfold errcF
            rw [ha]
            simp only
            rw [g1]
            simp only
            rw [h1, g2, g3]
          rw [this]
          exact go
      · cases e
    · cases e
  · cases e
end Vai
set_option maxRecDepth 100000
set_option maxHeartbeats 2000000
namespace Vai
open PySem L2
def gcdP : PN := fun ks => match ks with
  | [(_, .int i), (_, .int j)] => some (0, 0, .int ((Nat.gcd i.natAbs j.natAbs : Nat) : Int))
  | _ => none
theorem sm_gcd : SimN gcdG gcdP := fun C S as ks z hC h e => by
  unfold gcdP at e
  split at e
  · obtain ⟨a, b, rfl, h1, h2⟩ := k2 h
    simp only [Rt] at h1 h2
    subst h1 h2
    cases e
    exact resI
  · cases e
def mxUP : PN := fun ks => match ks with
  | [(_, .tup _ ts)] => (match toIntsT ts with
    | some (n :: ns) => some (0, 0, .int (ns.foldl max n))
    | _ => none)
  | _ => mxP true ks
theorem sm_maxU : SimN mxUG mxUP := fun C S as ks z hC h e => by
  unfold mxUP at e
  split at e
  · rename_i k zz ts
    obtain ⟨a, rfl, h1⟩ := k1 h
    simp only [Rt] at h1
    obtain ⟨l, as, rfl, g, _, r⟩ := h1
    split at e
    · rename_i n ns hn
      cases e
      show ResZ C S (mxUG _ _) _
      unfold mxUG
      simp only
      rw [g]
      simp only
      rw [toIntsT_rt hn r]
      exact resI
    · cases e
  · obtain ⟨c, S', h1, h2, h3, h4⟩ := sm_mx (b := true) C S as ks z hC h e
    refine ⟨c, S', ?_, h2, h3, h4⟩
    rw [← h1]
    unfold mxUG
    split
    · rename_i l
      split
      · rename_i xs hl
        unfold mxG lstInts at h1
        simp only [hl] at h1
        cases h1
      · rfl
    · rename_i hne
      unfold mxG at h1 ⊢
      split at h1
      · rename_i l
        exact absurd rfl (hne l)
      · cases h1
/-! tuple(range(..)) -/
def rgTP (φ : PF) : PF := fun ρ w => bindP (φ ρ w) fun _ t w1 => match t with
  | .int n => if rgOkB 0 n = true then some (.ok (tupz (rgT 0 n)).1 (tupz (rgT 0 n)).2.1 (tupz (rgT 0 n)).2.2, w1) else none
  | _ => none
theorem sim_rgT {fa : F} {φ : PF} (ha : SimF fa φ) : SimF (rg1F O.tup fa) (rgTP φ) := sim_bnd (k := fun a => fun _ S => match a with
  | .int n => if rgOkB 0 n then some (.ok (.ref S.length) (S ++ [.tup (rgA 0 n)])) else none
  | _ => none) (κ := fun _ t _ w1 => match t with
  | .int n => if rgOkB 0 n = true then some (.ok (tupz (rgT 0 n)).1 (tupz (rgT 0 n)).2.1 (tupz (rgT 0 n)).2.2, w1) else none
  | _ => none) ha fun X fps S sa ρ w w' r a j t E hr h e => by
  split at e
  · simp only [Rt] at h
    subst h
    split at e
    · rename_i n hn
      cases e
      show Out _ _ _ (if _ then _ else _) _ _
      rw [if_pos hn]
      exact out_z (resT rgT_rt) hr
    · cases e
  · cases e
def rgT2P (φ ψ : PF) : PF := fun ρ w => bindP (φ ρ w) fun _ t w1 => bindP (ψ ρ w1) fun _ u w2 => match t, u with
  | .int m, .int n => if rgOkB m n = true then some (.ok (tupz (rgT m n)).1 (tupz (rgT m n)).2.1 (tupz (rgT m n)).2.2, w2) else none
  | _, _ => none
theorem sim_rgT2 {fa fb : F} {φ ψ : PF} (ha : SimF fa φ) (hb : SimF fb ψ) : SimF (rg2F O.tup fa fb) (rgT2P φ ψ) := fun X fps S sa ρ w w' r E hr h => by
  simp only [rgT2P, bindP] at h
  unfold rg2F bnd
  split at h
  · rename_i j fr t w1 e
    obtain ⟨x, h1, h2, h3, h4⟩ := ha X fps S sa ρ w w1 _ E hr e
    cases x with
    | er c S1 => simp only [ResR] at h4
    | ok a S1 =>
      simp only [ResR, stR] at h4 h2 h3
      rw [h1]
      simp only
      have E1 := E.ev hr h2
      split at h
      · rename_i j2 fr2 t2 w2 e2
        obtain ⟨x, g1, g2, g3, g4⟩ := hb X fps S1 sa ρ w1 w2 _ E1 h3 e2
        cases x with
        | er c S1 => simp only [ResR] at g4
        | ok b S2 =>
          simp only [ResR, stR] at g4 g2 g3
          rw [g1]
          simp only
          have r1 := h4.1
          have r2 := g4.1
          split at h
          · simp only [Rt] at r1 r2
            subst r1 r2
            split at h
            · rename_i hn
              cases h
              show Out _ _ _ (if _ then _ else _) _ _
              rw [if_pos hn]
              exact (out_z (resT rgT_rt) g3).pre (h2.trans g2) (Nat.le_trans h2.1 g2.1)
            · cases h
          · cases h
      · rename_i c w2 e2
        obtain ⟨x, g1, g2, g3, g4⟩ := hb X fps S1 sa ρ w1 w2 _ E1 h3 e2
        cases x with
        | ok b S2 => simp only [ResR] at g4
        | er c' S2 =>
          simp only [ResR, stR] at g4 g2 g3
          cases h
          rw [g1]
          exact ⟨_, rfl, h2.trans g2, g3, g4⟩
      · cases h
  · rename_i c w1 e
    obtain ⟨x, h1, h2, h3, h4⟩ := ha X fps S sa ρ w w1 _ E hr e
    cases x with
    | ok a S1 => simp only [ResR] at h4
    | er c' S1 =>
      simp only [ResR] at h4
      cases h
      rw [h1]
      exact ⟨_, rfl, h2, h3, h4⟩
  · cases h
/-- {} -/
def newDP : PF := fun _ w => some (.ok 0 3 (.dic [] []), w)
theorem sim_newD : SimF newD newDP := fun X fps S sa ρ w w' r E hr e => by
  cases e
  have g : (S ++ [O.dic []])[S.length]? = some (.dic (([] : List Key).zip ([] : List A))) := at_new
  refine ⟨_, rfl, But.of (pfa S _), hr.up (pfa S _), ?_⟩
  simp only [ResR, Rt]
  exact ⟨⟨_, [], rfl, g, rfl, E.new (Nat.le_refl _), by simp only [RtL]⟩, .inr ⟨[S.length], by simp, fun l hl => by rw [List.mem_singleton.mp hl]; exact Nat.le_refl _, own3 g rfl (by simp only [RtL])⟩⟩
end Vai
set_option maxRecDepth 100000
set_option maxHeartbeats 2000000
namespace Vai
open PySem L2
/-! raise X(e), X an error with an int in a field -/
def raiseXP (c f : Nat) (φ : PF) : PFS := fun ρ w => match φ ρ w with
  | some (.ok _ _ (.int i), w1) => some (.er (erN c f i) ρ, w1)
  | some (.er c', w1) => some (.er c' ρ, w1)
  | _ => none
theorem sim_raiseX {c f : Nat} {fa : F} {φ : PF} (ha : SimF fa φ) : SimS (raiseXF c f fa) (raiseXP c f φ) := fun X fps S sa ρ w w' r E hr h => by
  unfold raiseXP at h
  unfold raiseXF
  split at h
  · rename_i k fr i w1 e
    cases h
    obtain ⟨x, h1, h2, h3, h4⟩ := ha X fps S sa ρ w w' _ E hr e
    cases x <;> simp only [ResR, Rt] at h4
    obtain ⟨rfl, _⟩ := h4
    rw [h1]
    exact ⟨_, rfl, but_kx h2 hr, h3, rfl, end_same (E.ev hr h2)⟩
  · rename_i c w1 e
    cases h
    obtain ⟨x, h1, h2, h3, h4⟩ := ha X fps S sa ρ w w' _ E hr e
    cases x <;> simp only [ResR] at h4
    rw [h1]
    exact ⟨_, rfl, but_kx h2 hr, h3, h4, end_same (E.ev hr h2)⟩
  · cases h
end Vai
set_option maxRecDepth 100000
set_option maxHeartbeats 2000000
namespace Vai
open PySem L2
/-! ## dicts on trees -/
def keyT : T → Option Key
  | .int i => some (.inl i)
  | .str z => some (.inr z)
  | _ => none
theorem keyT_rt {C : Nat → Nat → Prop} {S : List O} {k : Nat} {a : A} {t : T} {q : Key} (h : Rt C S k a t) (e : keyT t = some q) : keyA a = some q := by
  cases t <;> simp only [keyT] at e <;> cases e <;> simp only [Rt] at h <;> subst h <;> rfl
def valT (ks : List Key) (ts : List T) (q : Key) : Option T := ((ks.zip ts).find? fun p => decide (p.1 = q)).map (·.2)
def hasT (ks : List Key) (q : Key) : Bool := ks.any fun k => decide (k = q)
theorem val_rt {C : Nat → Nat → Prop} {S : List O} {k : Nat} {q : Key} : ∀ {ks : List Key} {as : List A} {ts : List T}, ks.length = as.length → RtL C S k as ts → match valT ks ts q with
    | some t => ∃ a, valA (ks.zip as) q = some a ∧ Rt C S k a t
    | none => valA (ks.zip as) q = none
  | [], _, _, _, _ => by simp [valT, valA]
  | x :: ks, [], _, n, _ => by simp at n
  | x :: ks, a :: as, [], _, h => by simp only [RtL] at h
  | x :: ks, a :: as, t :: ts, n, h => by
    simp only [RtL] at h
    have ih := val_rt (q := q) (ks := ks) (by simpa using n) h.2
    unfold valT valA at *
    simp only [List.zip_cons_cons, List.find?_cons]
    by_cases e : x = q
    · simp only [decide_eq_true e, Option.map_some]
      exact ⟨a, rfl, h.1⟩
    · simp only [decide_eq_false e]
      exact ih
/-- d[k] -/
def dgetP : P2 := fun k t _ u => match t, keyT u with
  | .dic ks ts, some q => (valT ks ts q).map fun x => (k - 1, 0, x)
  | _, _ => none
theorem sm_dget : Sim2 dgetG dgetP := fun C S k1 k2 a b t1 t2 z hC h1 h2 e => by
  unfold dgetP at e
  split at e
  · rename_i ks ts q hq
    simp only [Rt] at h1
    obtain ⟨l, as, rfl, g, n, c, r⟩ := h1
    have v := val_rt (q := q) n r
    cases hv : valT ks ts q with
    | none => rw [hv] at e; cases e
    | some x =>
      rw [hv] at e v
      cases e
      obtain ⟨a, h3, h4⟩ := v
      refine ⟨a, S, ?_, List.prefix_rfl, h4, .inl rfl⟩
      unfold dgetG
      rw [keyT_rt h2 hq]
      simp only
      rw [g]
      simp only
      rw [h3]
      rfl
  · cases e
/-- k in d -/
def dinP (neg : Bool) : P2 := fun _ u _ t => match t, keyT u with
  | .dic ks ts, some q => some (0, 0, .bl (if neg then !(valT ks ts q).isSome else (valT ks ts q).isSome))
  | _, _ => none
theorem sm_din {neg : Bool} : Sim2 (dinG neg) (dinP neg) := fun C S k1 k2 a b t1 t2 z hC h1 h2 e => by
  unfold dinP at e
  split at e
  · rename_i ks ts q hq
    cases e
    simp only [Rt] at h2
    obtain ⟨l, as, rfl, g, n, c, r⟩ := h2
    have v := val_rt (q := q) n r
    have e2 : (valA (ks.zip as) q).isSome = (valT ks ts q).isSome := by
      cases hv : valT ks ts q with
      | none => rw [hv] at v; rw [v]; rfl
      | some x => rw [hv] at v; obtain ⟨a, h3, _⟩ := v; rw [h3]; rfl
    refine ⟨.bl (if neg then !(valT ks ts q).isSome else (valT ks ts q).isSome), S, ?_, List.prefix_rfl, (by simp only [Rt]), .inl rfl⟩
    unfold dinG
    rw [keyT_rt h1 hq]
    simp only
    rw [g]
    simp only
    rw [e2]
  · cases e
def lenDP : PN := fun ks => match ks with
  | [(_, .dic ks _)] => some (0, 0, .int ks.length)
  | _ => none
theorem sm_lenD : SimN lenDG lenDP := fun C S as ks z hC h e => by
  unfold lenDP at e
  split at e
  · rename_i k ks ts
    cases e
    obtain ⟨a, rfl, h1⟩ := k1 h
    simp only [Rt] at h1
    obtain ⟨l, as, rfl, g, n, c, r⟩ := h1
    show ResZ C S (lenDG _ _) _
    unfold lenDG
    simp only
    rw [g]
    simp only
    rw [List.length_zip, ← n, Nat.min_self]
    exact resI
  · cases e
/-- d.get(k, x) -/
def dg2P (φo φe φz : PF) : PF := fun ρ w => match φo ρ w with
  | some (.ok k1 _ (.dic ks ts), w1) => (match φe ρ w1 with
    | some (.ok _ _ u, w2) => (match φz ρ w2 with
      | some (.ok k3 _ z, w3) => (match keyT u with
        | some q => some ((match valT ks ts q with
          | some x => .ok (k1 - 1) 0 x
          | none => .ok k3 0 z), w3)
        | none => none)
      | _ => none)
    | _ => none)
  | _ => none
theorem sim_dg2 {fo fe ff : F} {φo φe φz : PF} (ho : SimF fo φo) (he : SimF fe φe) (hf : SimF ff φz) : SimF (dg2F fo fe ff) (dg2P φo φe φz) := fun X fps S sa ρ w w' r E hr h => by
  unfold dg2P at h
  split at h
  · rename_i k1 fr1 ks ts w1 e1
    split at h
    · rename_i k2 fr2 u w2 e2
      split at h
      · rename_i k3 fr3 z w3 e3
        split at h
        · rename_i q hq
          cases h
          obtain ⟨x1, a1, a2, a3, a4⟩ := ho X fps S sa ρ w w1 _ E hr e1
          cases x1 <;> simp only [ResR] at a4
          rename_i d S1
          simp only [stR] at a2 a3
          have E1 := E.ev hr a2
          obtain ⟨x2, b1, b2, b3, b4⟩ := he X fps S1 sa ρ w1 w2 _ E1 a3 e2
          cases x2 <;> simp only [ResR] at b4
          rename_i kk S2
          simp only [stR] at b2 b3
          have E2 := E1.ev a3 b2
          obtain ⟨x3, c1, c2, c3, c4⟩ := hf X fps S2 sa ρ w2 w' _ E2 b3 e3
          cases x3 <;> simp only [ResR] at c4
          rename_i zz S3
          simp only [stR] at c2 c3
          have E3 := E2.ev b3 c2
          have r0 := a4.1
          have r3 := (a4.1.ev a3 b2 (Cx.one E1)).ev b3 c2 (Cx.one E2)
          simp only [Rt] at r0 r3
          obtain ⟨l, as0, hd, g0, _⟩ := r0
          subst hd
          obtain ⟨l', as, el, g, n, c, rr⟩ := r3
          cases el
          have v := val_rt (q := q) n rr
          have hk : keyA kk = some q := keyT_rt (b4.1.ev b3 c2 (Cx.one E2)) hq
          have hh : ∀ y, dget2G (.ref l) kk zz S3 = some (y, S3) → dg2F fo fe ff sa S = some (.ok y S3) := fun y hy => by
            unfold dg2F
            rw [r_bnd a1 (y := some (.ok y S3)) (by
              rw [if_pos (by simp only [isDicB]; rw [g0])]
              rw [r_bnd b1 (y := some (.ok y S3)) (by
                rw [r_bnd c1 (y := some (.ok y S3)) (by rw [hy]; rfl)])])]
          have mv : But 1 S S3 := a2.trans (b2.trans c2)
          cases hv : valT ks ts q with
          | none =>
            rw [hv] at v
            refine ⟨_, hh zz ?_, mv, c3, c4.1, .inl rfl⟩
            unfold dget2G
            rw [hk]
            simp only
            rw [g]
            simp only
            rw [v]
            rfl
          | some x =>
            rw [hv] at v
            obtain ⟨a, h3, h4⟩ := v
            refine ⟨_, hh a ?_, mv, c3, h4, .inl rfl⟩
            unfold dget2G
            rw [hk]
            simp only
            rw [g]
            simp only
            rw [h3]
            rfl
        · cases h
      · cases h
    · cases h
  · cases h
/-- d[k] = v, d one's own -/
def putT (ks : List Key) (ts : List T) (q : Key) (v : T) : List Key × List T := if hasT ks q then (ks, (ks.zip ts).map fun p => if p.1 = q then v else p.2) else (ks ++ [q], ts ++ [v])
theorem zip_any {q : Key} : ∀ {ks : List Key} {as : List A}, ks.length = as.length → ((ks.zip as).any fun kv => decide (kv.1 = q)) = hasT ks q
  | [], _, _ => rfl
  | x :: ks, [], n => by simp at n
  | x :: ks, a :: as, n => by
    unfold hasT
    rw [List.zip_cons_cons, List.any_cons, List.any_cons, zip_any (by simpa using n)]
    rfl
theorem zip_put {q : Key} {v : A} : ∀ {ks : List Key} {as : List A}, ks.length = as.length → (ks.zip as).map (fun kv => if kv.1 = q then (kv.1, v) else kv) = ks.zip ((ks.zip as).map fun p => if p.1 = q then v else p.2)
  | [], _, _ => rfl
  | x :: ks, [], n => by simp at n
  | x :: ks, a :: as, n => by
    simp only [List.zip_cons_cons, List.map_cons]
    rw [zip_put (by simpa using n)]
    by_cases e : x = q
    · simp only [if_pos e]
    · simp only [if_neg e]
theorem put_rt {C : Nat → Nat → Prop} {S : List O} {k : Nat} {q : Key} {a : A} {v : T} (hv : Rt C S k a v) : ∀ {ks : List Key} {as : List A} {ts : List T}, ks.length = as.length → RtL C S k as ts → RtL C S k ((ks.zip as).map fun p => if p.1 = q then a else p.2) ((ks.zip ts).map fun p => if p.1 = q then v else p.2)
  | [], _, _, _, _ => by simp only [List.zip_nil_left, List.map_nil, RtL]
  | x :: ks, [], _, n, _ => by simp at n
  | x :: ks, a' :: as, [], _, h => by simp only [RtL] at h
  | x :: ks, a' :: as, t :: ts, n, h => by
    simp only [RtL] at h
    have ih := put_rt hv (q := q) (ks := ks) (by simpa using n) h.2
    simp only [List.zip_cons_cons, List.map_cons, RtL]
    refine ⟨?_, ih⟩
    by_cases e : x = q
    · simp only [if_pos e]
      exact hv
    · simp only [if_neg e]
      exact h.1
section
variable {X : Nat → Prop} {fps : List (List Nat)} {S : List O} {sa : Sa} {ρ : En} {i : Nat}
theorem EnvR.putO {d : Nat} {o u : O} {e : Ev} {fp : List Nat} {a : A} (E : EnvR X fps S sa ρ) (hi : i < ρ.length) (hf : fps[i]? = some fp) (ha : sa[i]? = some (some a)) (hd : d ∈ fp) (hx : S[d]? = some o) (ho : o.isLst = true) (hs : SlotR (Cx X fps) (S.set d u) fp a e) :
    EnvR X fps (S.set d u) sa ((ρ.map clr).set i (some e)) := by
  have m : Mv (fun l => l = d) S (S.set d u) := mv_setO hx ho rfl
  refine ⟨by rw [List.length_set, List.length_map]; exact E.len, by rw [List.length_set, List.length_map]; exact E.fl, E.zero, E.one, fun l x => by rw [List.length_set]; exact E.x0 l x, E.nd, E.dj, fun l hl => by rw [List.length_set]; exact E.lt l hl, fun j u hu => ?_⟩
  by_cases hj : i = j
  · subst hj
    rw [List.getElem?_set_self (by rw [List.length_map]; exact hi)] at hu
    cases hu
    exact ⟨a, fp, ha, hf, hs⟩
  · rw [List.getElem?_set_ne hj] at hu
    obtain ⟨h0, hk⟩ := clr_get hu
    obtain ⟨c, q, h1, h2, h3⟩ := E.sl j u h0
    refine ⟨c, q, h1, h2, ?_⟩
    cases u with
    | im k t =>
      have := hk k t rfl
      subst this
      exact Rt.mv m (fun j l y c => c.2 (by omega) (y ▸ mem_fl hf hd)) h3
    | ow k t => exact OwnR.mv m (fun l hl y => nd_dj E.nd hf h2 hj d hd (y ▸ hl)) h3
theorem EnvR.ow3 {ks : List Key} {ts : List T} (E : EnvR X fps S sa ρ) (he : ρ[i]? = some (some (.ow 3 (.dic ks ts)))) : ∃ l as, sa[i]? = some (some (.ref l)) ∧ S[l]? = some (.dic (ks.zip as)) ∧ ks.length = as.length ∧ l ∈ fps.flatten ∧ l ≠ 0 ∧ l ≠ 1 ∧ RtL noC S 0 as ts ∧
    ∀ ks' as' ts', ks'.length = as'.length → RtL noC S 0 as' ts' → EnvR X fps (S.set l (.dic (ks'.zip as'))) sa ((ρ.map clr).set i (some (.ow 3 (.dic ks' ts')))) := by
  obtain ⟨a, fp, h1, h2, h3⟩ := E.sl i _ he
  have h4 : OwnR S 3 fp a (.dic ks ts) := h3
  rcases h4.inv with ⟨z, _⟩ | ⟨z, _⟩ | ⟨_, ks', ts', l, as, e, rfl, rfl, g, n, r⟩
  · cases z
  · cases z
  cases e
  have hm : l ∈ fps.flatten := mem_fl h2 (List.mem_singleton.mpr rfl)
  refine ⟨l, as, h1, g, n, hm, fun z => E.dj l hm (z ▸ E.zero), fun z => E.dj l hm (z ▸ E.one), r, fun ks' as' ts' n' h => ?_⟩
  exact E.putO (List.getElem?_eq_some_iff.mp he).1 h2 h1 (List.mem_singleton.mpr rfl) g rfl (own3 (List.getElem?_set_self (List.getElem?_eq_some_iff.mp g).1) n' (h.mv (mv_setO (Y := fun l' => l' = l) g rfl rfl) fun _ _ _ z => z))
end
theorem putA_eq {ks : List Key} {as : List A} {q : Key} {a : A} (n : ks.length = as.length) : putA (ks.zip as) q a = if hasT ks q then ks.zip ((ks.zip as).map fun p => if p.1 = q then a else p.2) else (ks ++ [q]).zip (as ++ [a]) := by
  unfold putA
  rw [zip_any n]
  split
  · exact zip_put n
  · rw [List.zip_append n]
    rfl
def dpS (i : Nat) (φk φv : PF) : PFS := fun ρ w => match φv ρ w with
  | some (.ok _ _ v, w1) => (match φk ρ w1, ρ[i]? with
    | some (.ok _ _ u, w2), some (some (.ow 3 (.dic ks ts))) => (match keyT u with
      | some q => if v.noL = true ∧ ks.length < 1000000 then some (.nx ((ρ.map clr).set i (some (.ow 3 (.dic (putT ks ts q v).1 (putT ks ts q v).2)))), w2) else none
      | none => none)
    | _, _ => none)
  | _ => none
theorem sim_dput {i : Nat} {fk fv : F} {φk φv : PF} (hk : SimF fk φk) (hv : SimF fv φv) : SimS (expF (putF (varF i) fk fv)) (dpS i φk φv) := fun X fps S sa ρ w w' r E hr h => by
  unfold dpS at h
  split at h
  · rename_i k1 fr1 v w1 e1
    split at h
    · rename_i x2 y2 k2 fr2 u w2 ks ts e2 e3
      split at h
      · rename_i q hq
        split at h
        · rename_i hn
          cases h
          obtain ⟨x1, a1, a2, a3, a4⟩ := hv X fps S sa ρ w w1 _ E hr e1
          cases x1 <;> simp only [ResR] at a4
          rename_i a S1
          simp only [stR] at a2 a3
          have E1 := E.ev hr a2
          obtain ⟨l0, as0, p1, p2, _⟩ := E1.ow3 e3
          obtain ⟨x2, b1, b2, b3, b4⟩ := hk X fps S1 sa ρ w1 w' _ E1 a3 e2
          cases x2 <;> simp only [ResR] at b4
          rename_i kk S2
          simp only [stR] at b2 b3
          have E2 := E1.ev a3 b2
          obtain ⟨l, as, g1, g2, gn, g3, l0', l1, g4, g5⟩ := E2.ow3 e3
          have el : l0 = l := by
            rw [p1] at g1
            cases g1
            rfl
          subst el
          have hkey : keyA kk = some q := keyT_rt b4.1 hq
          have hh : expF (putF (varF i) fk fv) sa S = some (.nx sa (S2.set l0 (.dic (putA (ks.zip as) q a)))) := by
            unfold expF putF
            rw [r_bnd a1 (y := some (.ok .non (S2.set l0 (.dic (putA (ks.zip as) q a))))) (by
              rw [r_bnd (r_var p1) (y := some (.ok .non (S2.set l0 (.dic (putA (ks.zip as) q a))))) (by
                rw [r_bnd b1 (y := some (.ok .non (S2.set l0 (.dic (putA (ks.zip as) q a))))) (by
                  unfold dputG
                  rw [hkey]
                  simp only
                  rw [g2]
                  simp only
                  rw [if_pos (by rw [List.length_zip, ← gn, Nat.min_self]; exact hn.2)]
                  rfl)])])]
          rw [hh]
          have av := (a4.1.ev a3 b2 (Cx.one E1)).free hn.1 (C' := noC) (k' := 0)
          have fin : ∃ ks' as' ts', (ks', ts') = putT ks ts q v ∧ putA (ks.zip as) q a = ks'.zip as' ∧ ks'.length = as'.length ∧ RtL noC S2 0 as' ts' := by
            rw [putA_eq gn]
            unfold putT
            by_cases hb : hasT ks q = true
            · rw [if_pos hb, if_pos hb]
              exact ⟨_, _, _, rfl, rfl, by rw [List.length_map, List.length_zip, ← gn, Nat.min_self], put_rt av gn g4⟩
            · rw [if_neg hb, if_neg hb]
              exact ⟨_, _, _, rfl, rfl, by rw [List.length_append, List.length_append, gn]; rfl, g4.app (by simp only [RtL]; exact ⟨av, trivial⟩)⟩
          obtain ⟨ks', as', ts', f1, f2, f3, f4⟩ := fin
          rw [← f1, f2]
          exact ⟨_, rfl, (but_kx (a2.trans b2) hr).trans (mv_setO g2 rfl (.inr g3)), b3.set l0' l1, end_same (g5 ks' as' ts' f3 f4)⟩
        · cases h
      · cases h
    · cases h
  · cases h
end Vai
set_option maxRecDepth 100000
set_option maxHeartbeats 2000000
namespace Vai
open PySem L2
/-- {1: 2, ..} -/
def newDCP (ks : List Key) (ts : List T) : PF := fun _ w => some (.ok 0 3 (.dic ks ts), w)
theorem sim_newDC {kas : List (Key × A)} {ks : List Key} {as : List A} {ts : List T} (h : putsA kas = ks.zip as) (hl : ks.length = as.length) (hr : ∀ S, RtL noC S 0 as ts) : SimF (newDC kas) (newDCP ks ts) := fun X fps S sa ρ w w' r E hr' e => by
  cases e
  have g : (S ++ [O.dic (putsA kas)])[S.length]? = some (.dic (ks.zip as)) := by rw [h]; exact at_new
  refine ⟨_, rfl, But.of (pfa S _), hr'.up (pfa S _), ?_⟩
  simp only [ResR, Rt]
  exact ⟨⟨_, as, rfl, g, hl, E.new (Nat.le_refl _), (hr _).gen fun _ _ _ z => z.elim⟩, .inr ⟨[S.length], by simp, fun l hl => by rw [List.mem_singleton.mp hl]; exact Nat.le_refl _, own3 g hl (hr _)⟩⟩
end Vai
set_option maxRecDepth 100000
set_option maxHeartbeats 2000000
namespace Vai
open PySem L2
/-- sorted of pairs of ints -/
def pairT : T → Option (Int × Int)
  | .tup _ [.int i, .int j] => some (i, j)
  | _ => none
def pairsT : List T → Option (List ((Int × Int) × T))
  | [] => some []
  | t :: ts => (match pairT t, pairsT ts with
    | some p, some ps => some ((p, t) :: ps)
    | _, _ => none)
def sortPP : PN := fun ks => match ks with
  | [(_, .lst ts)] => (pairsT ts).map fun ps => lstZ ((sortB ltQ ps).map (·.2))
  | [(_, .tup _ ts)] => (pairsT ts).map fun ps => lstZ ((sortB ltQ ps).map (·.2))
  | _ => none
def sort2P : PN := fun ks => match sortP ks with
  | some z => some z
  | none => sortPP ks
theorem pairT_rt {C : Nat → Nat → Prop} {S : List O} {k : Nat} {a : A} {t : T} {p : Int × Int} (h : Rt C S k a t) (e : pairT t = some p) : pairA S a = some p ∧ t.noL = true := by
  unfold pairT at e
  split at e
  · cases e
    simp only [Rt] at h
    obtain ⟨l, as, rfl, g, _, r⟩ := h
    match as, r with
    | [x, y], r =>
      simp only [RtL, Rt] at r
      obtain ⟨rfl, rfl, _⟩ := r
      refine ⟨?_, rfl⟩
      unfold pairA
      simp only
      rw [g]
    | [], r => simp only [RtL] at r
    | [_], r => simp only [RtL] at r; exact r.2.elim
    | _ :: _ :: _ :: _, r => simp only [RtL] at r; exact r.2.2.elim
  · cases e
/-- the same keys; each value the tree's -/
inductive SP (C : Nat → Nat → Prop) (S : List O) : List ((Int × Int) × A) → List ((Int × Int) × T) → Prop
  | nil : SP C S [] []
  | cons {p : Int × Int} {a : A} {t : T} {ps : List ((Int × Int) × A)} {qs : List ((Int × Int) × T)} : Rt C S 0 a t → SP C S ps qs → SP C S ((p, a) :: ps) ((p, t) :: qs)
theorem pairsT_rt {C : Nat → Nat → Prop} {S : List O} {k : Nat} : ∀ {as : List A} {ts : List T} {qs : List ((Int × Int) × T)}, RtL C S k as ts → pairsT ts = some qs → ∃ ps, pairsA S as = some ps ∧ SP C S ps qs
  | [], [], qs, _, e => by cases e; exact ⟨[], rfl, .nil⟩
  | [], _ :: _, _, h, _ => by simp only [RtL] at h
  | _ :: _, [], _, h, _ => by simp only [RtL] at h
  | a :: as, t :: ts, qs, h, e => by
    simp only [RtL] at h
    unfold pairsT at e
    split at e
    · rename_i p qs' e1 e2
      cases e
      obtain ⟨ps, h1, h2⟩ := pairsT_rt h.2 e2
      obtain ⟨h3, h4⟩ := pairT_rt h.1 e1
      refine ⟨(p, a) :: ps, ?_, .cons (h.1.free h4) h2⟩
      unfold pairsA
      rw [h3, h1]
    · cases e
theorem ins_sp {C : Nat → Nat → Prop} {S : List O} {p : Int × Int} {a : A} {t : T} (h : Rt C S 0 a t) : ∀ {ps : List ((Int × Int) × A)} {qs : List ((Int × Int) × T)}, SP C S ps qs → SP C S (insB ltQ (p, a) ps) (insB ltQ (p, t) qs)
  | _, _, .nil => .cons h .nil
  | _, _, .cons (p := q) hy r => by
    unfold insB
    by_cases e : SrtO.lexB q p = true
    · simp only [ltQ, e, if_true]
      exact .cons hy (ins_sp h r)
    · simp only [ltQ, e, if_false, Bool.false_eq_true]
      exact .cons h (.cons hy r)
theorem sort_sp {C : Nat → Nat → Prop} {S : List O} : ∀ {ps : List ((Int × Int) × A)} {qs : List ((Int × Int) × T)}, SP C S ps qs → SP C S (sortB ltQ ps) (sortB ltQ qs)
  | _, _, .nil => .nil
  | _, _, .cons h r => ins_sp h (sort_sp r)
theorem sp_rt {C : Nat → Nat → Prop} {S : List O} : ∀ {ps : List ((Int × Int) × A)} {qs : List ((Int × Int) × T)}, SP C S ps qs → RtL C S 0 (ps.map (·.2)) (qs.map (·.2))
  | _, _, .nil => by simp only [List.map_nil, RtL]
  | _, _, .cons h r => by
    simp only [List.map_cons, RtL]
    exact ⟨h, sp_rt r⟩
theorem sm_sort2 : SimN sort2G sort2P := fun C S as ks z hC h e => by
  unfold sort2P at e
  cases hs : sortP ks with
  | some z' =>
    rw [hs] at e
    cases e
    obtain ⟨c, S', h1, h2, h3, h4⟩ := sm_sort C S as ks _ hC h hs
    refine ⟨c, S', ?_, h2, h3, h4⟩
    unfold sort2G
    rw [h1]
  | none =>
    rw [hs] at e
    simp only at e
    unfold sortPP at e
    split at e
    · rename_i k ts
      obtain ⟨a, rfl, h1⟩ := k1 h
      simp only [Rt] at h1
      obtain ⟨l, as, rfl, g, _, r⟩ := h1
      cases hq : pairsT ts with
      | none => rw [hq] at e; cases e
      | some qs =>
        rw [hq] at e
        cases e
        obtain ⟨ps, p1, p2⟩ := pairsT_rt r hq
        have hx : sort2G [.ref l] S = some (.ref S.length, S ++ [.lst ((sortB ltQ ps).map (·.2))]) := by
          unfold sort2G
          cases hz : sortG [.ref l] S with
          | none =>
            simp only
            unfold sortPG
            simp only [itemsA]
            rw [g]
            simp only
            rw [p1]
          | some y =>
            exfalso
            unfold sortG at hz
            simp only [intsOf] at hz
            rw [g] at hz
            simp only at hz
            match ts, as, r, hq, hs, hz with
            | [], _, _, _, hs, _ => exact absurd hs (by simp [sortP, toIntsT])
            | t :: ts, [], r, _, _, _ => simp only [RtL] at r
            | t :: ts, a :: as, r, hq, hs, hz =>
              unfold pairsT at hq
              split at hq
              · rename_i p qs' e1 e2
                unfold pairT at e1
                split at e1
                · simp only [RtL, Rt] at r
                  obtain ⟨⟨l', as', rfl, _⟩, _⟩ := r
                  simp only [toInts] at hz
                  cases hz
                · cases e1
              · cases hq
        show ResZ C S (sort2G _ _) _
        rw [hx]
        exact resL hC (sp_rt (sort_sp p2))
    · rename_i k zz ts
      obtain ⟨a, rfl, h1⟩ := k1 h
      simp only [Rt] at h1
      obtain ⟨l, as, rfl, g, _, r⟩ := h1
      cases hq : pairsT ts with
      | none => rw [hq] at e; cases e
      | some qs =>
        rw [hq] at e
        cases e
        obtain ⟨ps, p1, p2⟩ := pairsT_rt r hq
        have hx : sort2G [.ref l] S = some (.ref S.length, S ++ [.lst ((sortB ltQ ps).map (·.2))]) := by
          unfold sort2G
          cases hz : sortG [.ref l] S with
          | none =>
            simp only
            unfold sortPG
            simp only [itemsA]
            rw [g]
            simp only
            rw [p1]
          | some y =>
            exfalso
            unfold sortG at hz
            simp only [intsOf] at hz
            rw [g] at hz
            simp only at hz
            match ts, as, r, hq, hs, hz with
            | [], _, _, _, hs, _ => exact absurd hs (by simp [sortP, toIntsT])
            | t :: ts, [], r, _, _, _ => simp only [RtL] at r
            | t :: ts, a :: as, r, hq, hs, hz =>
              unfold pairsT at hq
              split at hq
              · rename_i p qs' e1 e2
                unfold pairT at e1
                split at e1
                · simp only [RtL, Rt] at r
                  obtain ⟨⟨l', as', rfl, _⟩, _⟩ := r
                  simp only [toInts] at hz
                  cases hz
                · cases e1
              · cases hq
        show ResZ C S (sort2G _ _) _
        rw [hx]
        exact resL hC (sp_rt (sort_sp p2))
    · cases e
end Vai
set_option maxRecDepth 100000
set_option maxHeartbeats 4000000
namespace Law
open PySem L2 Vai
abbrev E_WebError : Nat := 0
abbrev E_BadWeb : Nat := 1
abbrev E_NoNode : Nat := 2
abbrev E_Alike : Nat := 3
def t_is_int : PFS := (retP (andP (clP isiP (consP (varP 0) (consP (conP (.ty "int")) nilP))) (notP (clP isiP (consP (varP 0) (consP (conP (.ty "bool")) nilP))))))
def q_is_int : PFD := trimDP (defP 1 t_is_int)
def t_is_whole : PFS := (retP (andP (callP q_is_int (consP (varP 0) nilP)) (chP (cmpP fun i j => decide (i ≤ j)) (cmpP fun i j => decide (i ≤ j)) (varP 1) (varP 0) (varP 2))))
def q_is_whole : PFD := trimDP (defP 3 t_is_whole)
def t__is_line : PFS := (seqP (condP (orP (notP (clP isiP (consP (varP 1) (consP (conP (.ty "tuple")) nilP)))) (opP (eqP true) (clP lenP (consP (varP 1) nilP)) (varP 0))) (retP (conP (.bl false))) endP) (retP (clP (allP fun bs => bs.all id) (consP (lcP (seqIP (varP 1)) (nmX 2) [2] (conP (.bl true)) (callP q_is_whole (consP (varP 2) (consP (unP negP (conP (.int 1000))) (consP (conP (.int 1000)) nilP))))) nilP))))
def q__is_line : PFD := trimDP (defP 3 t__is_line)
def t_is_web : PFS := (seqP (condP (orP (notP (clP isiP (consP (varP 0) (consP (conP (.ty "tuple")) nilP)))) (notP (chP (cmpP fun i j => decide (i ≤ j)) (cmpP fun i j => decide (i ≤ j)) (conP (.int 1)) (clP lenP (consP (varP 0) nilP)) (conP (.int 6))))) (retP (conP (.bl false))) endP) (seqP (asgP (clP lenP (consP (varP 0) nilP)) (nmT 1)) (seqP (condP (trimP (notP (clP (allP fun bs => bs.all id) (consP (lcP (seqIP (varP 0)) (nmX 2) [2] (conP (.bl true)) (callP q__is_line (consP (varP 1) (consP (varP 2) nilP)))) nilP)))) (retP (conP (.bl false))) endP) (retP (clP (allP fun bs => bs.all id) (consP (lc2P (rg1IP (consP (varP 1) nilP)) (nmX 3) [3, 4] (conP (.bl true)) (rg1IP (consP (varP 1) nilP)) (nmX 4) [4] (conP (.bl true)) (opP (eqP false) (opP ixP (opP ixP (varP 0) (varP 3)) (varP 4)) (unP negP (opP ixP (opP ixP (varP 0) (varP 4)) (varP 3))))) nilP))))))
def q_is_web : PFD := trimDP (defP 5 t_is_web)
def t_check_web : PFS := (condP (notP (callP q_is_web (consP (varP 0) nilP))) (raiseP 1) endP)
def q_check_web : PFD := trimDP (defP 1 t_check_web)
def t_is_node : PFS := (retP (callP q_is_whole (consP (varP 1) (consP (conP (.int 0)) (consP (opP subP (varP 0) (conP (.int 1))) nilP)))))
def q_is_node : PFD := trimDP (defP 2 t_is_node)
def t_check_node : PFS := (condP (notP (callP q_is_node (consP (varP 0) (consP (varP 1) nilP)))) (raiseP 2) endP)
def q_check_node : PFD := trimDP (defP 2 t_check_node)
def t_round_of : PFS := (seqP (expP (callP q_check_web (consP (varP 0) nilP))) (seqP (expP (callP q_check_node (consP (clP lenP (consP (varP 0) nilP)) (consP (varP 1) nilP)))) (seqP (expP (callP q_check_node (consP (clP lenP (consP (varP 0) nilP)) (consP (varP 2) nilP)))) (seqP (condP (opP (eqP false) (varP 1) (varP 2)) (raiseP 3) endP) (seqP (asgP (clP absP (consP (opP ixP (opP ixP (varP 0) (varP 1)) (varP 2)) nilP)) (nmT 3)) (retP (ifP (opP (cmpP fun i j => decide (i < j)) (varP 3) (conP (.int 2))) (opP addP (conP (.int 4)) (varP 3)) (conP .non))))))))
def q_round_of : PFD := trimDP (defP 4 t_round_of)
abbrev q__law_taken : PFD := takenD
def t__law_pick : PFS := (retP (opP ixP (varP 1) (callP q__law_taken (consP (varP 0) (consP (clP lenP (consP (varP 1) nilP)) nilP)))))
def q__law_pick : PFD := defP 2 t__law_pick
def t__law_web : PFS := (seqP (asgP (newTP (consP (opP addP (conP (.int 1)) (callP q__law_taken (consP (varP 0) (consP (varP 1) nilP)))) (consP (callP q__law_taken (consP (varP 0) (consP (conP (.int 5)) nilP))) nilP))) (tuT 2 (coN 3 (coN 4 niT)))) (seqP (asgP (lcTP (rg1IP (consP (varP 3) nilP)) (nmX 6) [6] (opP mulP (newLP (consP (conP (.int 0)) nilP)) (varP 3))) (nmO 5)) (seqP (forP (rg2IP (consP (conP (.int 1)) (consP (varP 3) nilP))) (nmT 7) (forP (rg1IP (consP (varP 7) nilP)) (nmT 8) (seqP (asgP (conP (.int 0)) (nmT 9)) (seqP (condP (opP (cmpP fun i j => decide (i < j)) (varP 4) (conP (.int 2))) (asgP (opP mulP (callP q__law_pick (consP (varP 0) (consP (newLP (consP (conP (.int 0)) (consP (conP (.int 0)) (consP (conP (.int 1)) (consP (opP subP (conP (.int 0)) (conP (.int 1))) nilP))))) nilP))) (opP addP (conP (.int 1)) (callP q__law_taken (consP (varP 0) (consP (varP 2) nilP))))) (nmT 9)) (condP (opP (eqP false) (varP 4) (conP (.int 2))) (asgP (opP mulP (callP q__law_pick (consP (varP 0) (consP (newLP (consP (conP (.int 1)) (consP (opP subP (conP (.int 0)) (conP (.int 1))) nilP))) nilP))) (clP intP (consP (opP (eqP false) (varP 8) (opP subP (varP 7) (conP (.int 1)))) nilP))) (nmT 9)) (condP (opP (eqP false) (varP 4) (conP (.int 3))) (asgP (opP subP (clP intP (consP (opP (eqP false) (varP 8) (opP subP (varP 7) (conP (.int 1)))) nilP)) (clP intP (consP (andP (opP (eqP false) (varP 8) (conP (.int 0))) (andP (opP (eqP false) (varP 7) (opP subP (varP 3) (conP (.int 1)))) (opP (cmpP fun i j => decide (i > j)) (varP 3) (conP (.int 2))))) nilP))) (nmT 9)) endP))) (asgP (newTP (consP (varP 9) (consP (opP subP (conP (.int 0)) (varP 9)) nilP))) (tuT 2 (coM (st2 5 (varP 8) (varP 7)) (coM (st2 5 (varP 7) (varP 8)) niT)))))))) (seqP (condP (opP (eqP false) (varP 4) (conP (.int 4))) (forP (rg2IP (consP (conP (.int 1)) (consP (varP 3) nilP))) (nmT 7) (seqP (parP 0 8 9 (callP q__law_taken (consP (varP 0) (consP (varP 7) nilP))) (callP q__law_pick (consP (varP 0) (consP (newLP (consP (conP (.int 1)) (consP (opP subP (conP (.int 0)) (conP (.int 1))) nilP))) nilP)))) (asgP (newTP (consP (varP 9) (consP (opP subP (conP (.int 0)) (varP 9)) nilP))) (tuT 2 (coM (st2 5 (varP 8) (varP 7)) (coM (st2 5 (varP 7) (varP 8)) niT)))))) endP) (retP (clP tupP (consP (lcP (seqIP (varP 5)) (nmX 10) [10] (conP (.bl true)) (clP tupP (consP (varP 10) nilP))) nilP)))))))
def q__law_web : PFD := defP 11 t__law_web
abbrev q__law_alike_0 : PFD := noDP
def t__law_alike (q__law_alike_0 : PFD) : PFS := (seqP (condP (trimP (clP isiP (consP (varP 1) (consP (newTP (consP (conP (.ty "tuple")) (consP (conP (.ty "list")) nilP))) nilP)))) (seqP (condP (trimP (orP (notP (clP isiP (consP (varP 0) (consP (newTP (consP (conP (.ty "tuple")) (consP (conP (.ty "list")) nilP))) nilP)))) (opP (eqP true) (clP isiP (consP (varP 0) (consP (conP (.ty "list")) nilP))) (clP isiP (consP (varP 1) (consP (conP (.ty "list")) nilP)))))) (retP (conP (.bl false))) endP) (seqP (condP (opP (eqP true) (clP lenP (consP (varP 0) nilP)) (clP lenP (consP (varP 1) nilP))) (retP (conP (.bl false))) endP) (retP (opP (eqP false) (lcP (rg1IP (consP (clP lenP (consP (varP 1) nilP)) nilP)) (nmX 2) [2] (notP (callP q__law_alike_0 (consP (opP ixP (varP 0) (varP 2)) (consP (opP ixP (varP 1) (varP 2)) nilP)))) (varP 2)) (newLP nilP))))) endP) (seqP (condP (clP isiP (consP (varP 1) (consP (conP (.ty "dict")) nilP))) (seqP (condP (orP (notP (clP isiP (consP (varP 0) (consP (conP (.ty "dict")) nilP)))) (opP (eqP true) (clP sort2P (consP (varP 0) nilP)) (clP sort2P (consP (varP 1) nilP)))) (retP (conP (.bl false))) endP) (retP (opP (eqP false) (lcP (seqIP (varP 1)) (nmX 3) [3] (notP (callP q__law_alike_0 (consP (opP ixP (varP 0) (varP 3)) (consP (opP ixP (varP 1) (varP 3)) nilP)))) (varP 3)) (newLP nilP)))) endP) (seqP (condP (orP (opP (isP false) (varP 1) (conP .non)) (clP isiP (consP (varP 1) (consP (conP (.ty "str")) nilP)))) (retP (andP (opP (eqP false) (varP 0) (varP 1)) (opP (eqP false) (clP isiP (consP (varP 0) (consP (conP (.ty "str")) nilP))) (clP isiP (consP (varP 1) (consP (conP (.ty "str")) nilP)))))) endP) (retP (andP (clP isiP (consP (varP 0) (consP (conP (.ty "int")) nilP))) (andP (opP (eqP false) (clP isiP (consP (varP 0) (consP (conP (.ty "bool")) nilP))) (clP isiP (consP (varP 1) (consP (conP (.ty "bool")) nilP)))) (opP (eqP false) (varP 0) (varP 1))))))))
def q__law_alike_1 : PFD := trimDP (defP 4 (t__law_alike q__law_alike_0))
def q__law_alike_2 : PFD := trimDP (defP 4 (t__law_alike q__law_alike_1))
def q__law_alike_3 : PFD := trimDP (defP 4 (t__law_alike q__law_alike_2))
def q__law_alike_4 : PFD := trimDP (defP 4 (t__law_alike q__law_alike_3))
abbrev q__law_alike : PFD := q__law_alike_4
def t__law_share : PFS := (seqP (parP 0 2 3 (clP absP (consP (varP 0) nilP)) (varP 1)) (seqP (whP (opP (cmpP fun i j => decide (i > j)) (varP 3) (conP (.int 0))) (parP 0 2 3 (varP 3) (opP modP (varP 2) (varP 3)))) (retP (newTP (consP (opP fdivP (varP 0) (varP 2)) (consP (opP fdivP (varP 1) (varP 2)) nilP))))))
def q__law_share : PFD := defP 4 t__law_share
def t__law_times : PFS := (retP (callP q__law_share (consP (opP mulP (opP ixP (varP 0) (conP (.int 0))) (opP ixP (varP 1) (conP (.int 0)))) (consP (opP mulP (opP ixP (varP 0) (conP (.int 1))) (opP ixP (varP 1) (conP (.int 1)))) nilP))))
def q__law_times : PFD := defP 2 t__law_times
def t__law_turn : PFS := (seqP (parP 2 2 3 (clP lenP (consP (varP 0) nilP)) (lcTP (seqIP (varP 0)) (nmX 4) [4] (clP lstP (consP (varP 4) nilP)))) (seqP (forP (rg1IP (consP (varP 2) nilP)) (nmT 5) (forP (rg1IP (consP (varP 2) nilP)) (nmT 6) (condP (andP (opP (cmpP fun i j => decide (i > j)) (opP ixP (opP ixP (varP 0) (varP 5)) (varP 1)) (conP (.int 0))) (opP (cmpP fun i j => decide (i > j)) (opP ixP (opP ixP (varP 0) (varP 1)) (varP 6)) (conP (.int 0)))) (seqP (asgP (opP mulP (opP ixP (opP ixP (varP 0) (varP 5)) (varP 1)) (opP ixP (opP ixP (varP 0) (varP 1)) (varP 6))) (nmT 7)) (asgP (newTP (consP (opP addP (opP ixP (opP ixP (varP 3) (varP 5)) (varP 6)) (varP 7)) (consP (opP subP (opP ixP (opP ixP (varP 3) (varP 6)) (varP 5)) (varP 7)) nilP))) (tuT 2 (coM (st2 3 (varP 5) (varP 6)) (coM (st2 3 (varP 6) (varP 5)) niT))))) endP))) (seqP (forP (rg1IP (consP (varP 2) nilP)) (nmT 5) (asgP (newTP (consP (opP subP (conP (.int 0)) (opP ixP (opP ixP (varP 0) (varP 1)) (varP 5))) (consP (opP subP (conP (.int 0)) (opP ixP (opP ixP (varP 0) (varP 5)) (varP 1))) nilP))) (tuT 2 (coM (st2 3 (varP 1) (varP 5)) (coM (st2 3 (varP 5) (varP 1)) niT))))) (retP (clP tupP (consP (lcP (seqIP (varP 3)) (nmX 4) [4] (conP (.bl true)) (clP tupP (consP (varP 4) nilP))) nilP))))))
def q__law_turn : PFD := defP 8 t__law_turn
def t__law_plus : PFS := (retP (callP q__law_share (consP (opP addP (opP mulP (opP ixP (varP 0) (conP (.int 0))) (opP ixP (varP 1) (conP (.int 1)))) (opP mulP (opP ixP (varP 1) (conP (.int 0))) (opP ixP (varP 0) (conP (.int 1))))) (consP (opP mulP (opP ixP (varP 0) (conP (.int 1))) (opP ixP (varP 1) (conP (.int 1)))) nilP))))
def q__law_plus : PFD := defP 2 t__law_plus
def t__law_values : PFS := (seqP (asgP (clP lstP (consP (varP 2) nilP)) (nmO 3)) (seqP (forP (seqIP (varP 1)) (nmT 4) (seqP (asgP (newTP (consP (newTP (consP (conP (.int 1)) (consP (conP (.int 1)) nilP))) (consP (newTP (consP (conP (.int 1)) (consP (conP (.int 1)) nilP))) nilP))) (tuT 2 (coN 5 (coN 6 niT)))) (seqP (forP (rg1IP (consP (clP lenP (consP (varP 0) nilP)) nilP)) (nmT 7) (forP (rg1IP (consP (clP absP (consP (opP ixP (opP ixP (varP 0) (varP 7)) (varP 4)) nilP)) nilP)) (nmT 8) (seqP (asgP (ifP (opP (cmpP fun i j => decide (i > j)) (opP ixP (opP ixP (varP 0) (varP 7)) (varP 4)) (conP (.int 0))) (callP q__law_times (consP (varP 5) (consP (opP ixP (varP 3) (varP 7)) nilP))) (varP 5)) (nmT 5)) (asgP (ifP (opP (cmpP fun i j => decide (i < j)) (opP ixP (opP ixP (varP 0) (varP 7)) (varP 4)) (conP (.int 0))) (callP q__law_times (consP (varP 6) (consP (opP ixP (varP 3) (varP 7)) nilP))) (varP 6)) (nmT 6))))) (seqP (asgP (callP q__law_times (consP (callP q__law_plus (consP (varP 5) (consP (varP 6) nilP))) (consP (newTP (consP (opP ixP (opP ixP (varP 3) (varP 4)) (conP (.int 1))) (consP (opP ixP (opP ixP (varP 3) (varP 4)) (conP (.int 0))) nilP))) nilP))) (st1 3 (varP 4))) (asgP (callP q__law_turn (consP (varP 0) (consP (varP 4) nilP))) (nmT 0)))))) (retP (varP 3))))
def q__law_values : PFD := defP 9 t__law_values
def t_law : PFS := (seqP (asgP (callP q__law_web (consP (varP 1) (consP (conP (.int 6)) (consP (conP (.int 3)) nilP)))) (nmT 2)) (seqP (asgP (clP lenP (consP (varP 2) nilP)) (nmT 3)) (seqP (condP (opP (cmpP fun i j => decide (i < j)) (varP 3) (conP (.int 2))) (retP (conP (.bl true))) endP) (seqP (asgP (callP q__law_taken (consP (varP 1) (consP (varP 3) nilP))) (nmT 4)) (seqP (asgP (opP modP (opP addP (opP addP (varP 4) (conP (.int 1))) (callP q__law_taken (consP (varP 1) (consP (opP subP (varP 3) (conP (.int 1))) nilP)))) (varP 3)) (nmT 5)) (seqP (asgP (dg2P (newDCP [(.inl 0), (.inl 1)] [(.int 4), (.int 5)]) (clP absP (consP (opP ixP (opP ixP (varP 2) (varP 4)) (varP 5)) nilP)) (conP .non)) (nmT 6)) (seqP (condP (notP (callP q__law_alike (consP (callP q_round_of (consP (varP 2) (consP (varP 4) (consP (varP 5) nilP)))) (consP (varP 6) nilP)))) (retP (conP (.bl false))) endP) (seqP (asgP (lcTP (rg1IP (consP (varP 3) nilP)) (nmX 8) [8] (opP mulP (newLP (consP (conP (.int 0)) nilP)) (varP 3))) (nmO 7)) (seqP (asgP (newTP (consP (clP (twoP fun i j => if j > i then j else i) (consP (opP subP (conP (.int 0)) (conP (.int 1))) (consP (clP (twoP fun i j => if j < i then j else i) (consP (conP (.int 1)) (consP (opP ixP (opP ixP (varP 2) (varP 4)) (varP 5)) nilP))) nilP))) (consP (clP (twoP fun i j => if j > i then j else i) (consP (opP subP (conP (.int 0)) (conP (.int 1))) (consP (clP (twoP fun i j => if j < i then j else i) (consP (conP (.int 1)) (consP (opP ixP (opP ixP (varP 2) (varP 5)) (varP 4)) nilP))) nilP))) nilP))) (tuT 2 (coM (st2 7 (varP 4) (varP 5)) (coM (st2 7 (varP 5) (varP 4)) niT)))) (seqP (asgP (clP tupP (consP (lcP (seqIP (varP 7)) (nmX 10) [10] (conP (.bl true)) (clP tupP (consP (varP 10) nilP))) nilP)) (nmT 9)) (seqP (parP 0 11 12 (slP (newTP (consP (newTP (consP (conP (.int 3)) (consP (conP (.int 1)) nilP))) (consP (newTP (consP (conP (.int 7)) (consP (conP (.int 2)) nilP))) (consP (newTP (consP (conP (.int 11)) (consP (conP (.int 5)) nilP))) (consP (newTP (consP (conP (.int 13)) (consP (conP (.int 1)) nilP))) (consP (newTP (consP (conP (.int 17)) (consP (conP (.int 3)) nilP))) (consP (newTP (consP (conP (.int 19)) (consP (conP (.int 7)) nilP))) nilP))))))) none (some (varP 3))) (opP mulP (newTP (consP (varP 4) (consP (varP 5) nilP))) (conP (.int 3)))) (seqP (forP (rg2IP (consP (conP (.int 1)) (consP (conP (.int 6)) nilP))) (nmT 13) (seqP (asgP (clP sort2P (consP (callP q__law_values (consP (varP 9) (consP (slP (varP 12) none (some (varP 13))) (consP (varP 11) nilP)))) nilP)) (nmT 14)) (condP (opP (eqP true) (opP (eqP false) (varP 14) (clP sort2P (consP (varP 11) nilP))) (opP (eqP false) (varP 13) (ifP (opP (eqP false) (opP ixP (opP ixP (varP 9) (varP 4)) (varP 5)) (conP (.int 0))) (conP (.int 4)) (conP (.int 5))))) (retP (conP (.bl false))) endP))) (retP (conP (.bl true)))))))))))))))
end Law
set_option maxRecDepth 100000
set_option maxHeartbeats 2000000
namespace Law
open PySem L2 Vai
abbrev sk_0 : PFS := (asgP (callP q__law_web (consP (varP 1) (consP (conP (.int 6)) (consP (conP (.int 3)) nilP)))) (nmT 2))
abbrev sk_1 : PFS := (asgP (clP lenP (consP (varP 2) nilP)) (nmT 3))
abbrev skc_2 : PF := (opP (cmpP fun i j => decide (i < j)) (varP 3) (conP (.int 2)))
abbrev sk_2 : PFS := (condP skc_2 (retP (conP (.bl true))) endP)
abbrev sk_3 : PFS := (asgP (callP q__law_taken (consP (varP 1) (consP (varP 3) nilP))) (nmT 4))
abbrev sk_4 : PFS := (asgP (opP modP (opP addP (opP addP (varP 4) (conP (.int 1))) (callP q__law_taken (consP (varP 1) (consP (opP subP (varP 3) (conP (.int 1))) nilP)))) (varP 3)) (nmT 5))
abbrev sk_5 : PFS := (asgP (dg2P (newDCP [(.inl 0), (.inl 1)] [(.int 4), (.int 5)]) (clP absP (consP (opP ixP (opP ixP (varP 2) (varP 4)) (varP 5)) nilP)) (conP .non)) (nmT 6))
abbrev skc_6 : PF := (notP (callP q__law_alike (consP (callP q_round_of (consP (varP 2) (consP (varP 4) (consP (varP 5) nilP)))) (consP (varP 6) nilP))))
abbrev sk_6 : PFS := (condP skc_6 (retP (conP (.bl false))) endP)
abbrev sk_7 : PFS := (asgP (lcTP (rg1IP (consP (varP 3) nilP)) (nmX 8) [8] (opP mulP (newLP (consP (conP (.int 0)) nilP)) (varP 3))) (nmO 7))
abbrev sk_8 : PFS := (asgP (newTP (consP (clP (twoP fun i j => if j > i then j else i) (consP (opP subP (conP (.int 0)) (conP (.int 1))) (consP (clP (twoP fun i j => if j < i then j else i) (consP (conP (.int 1)) (consP (opP ixP (opP ixP (varP 2) (varP 4)) (varP 5)) nilP))) nilP))) (consP (clP (twoP fun i j => if j > i then j else i) (consP (opP subP (conP (.int 0)) (conP (.int 1))) (consP (clP (twoP fun i j => if j < i then j else i) (consP (conP (.int 1)) (consP (opP ixP (opP ixP (varP 2) (varP 5)) (varP 4)) nilP))) nilP))) nilP))) (tuT 2 (coM (st2 7 (varP 4) (varP 5)) (coM (st2 7 (varP 5) (varP 4)) niT))))
abbrev sk_9 : PFS := (asgP (clP tupP (consP (lcP (seqIP (varP 7)) (nmX 10) [10] (conP (.bl true)) (clP tupP (consP (varP 10) nilP))) nilP)) (nmT 9))
abbrev sk_10 : PFS := (parP 0 11 12 (slP (newTP (consP (newTP (consP (conP (.int 3)) (consP (conP (.int 1)) nilP))) (consP (newTP (consP (conP (.int 7)) (consP (conP (.int 2)) nilP))) (consP (newTP (consP (conP (.int 11)) (consP (conP (.int 5)) nilP))) (consP (newTP (consP (conP (.int 13)) (consP (conP (.int 1)) nilP))) (consP (newTP (consP (conP (.int 17)) (consP (conP (.int 3)) nilP))) (consP (newTP (consP (conP (.int 19)) (consP (conP (.int 7)) nilP))) nilP))))))) none (some (varP 3))) (opP mulP (newTP (consP (varP 4) (consP (varP 5) nilP))) (conP (.int 3))))
abbrev sk_11 : PFS := (forP (rg2IP (consP (conP (.int 1)) (consP (conP (.int 6)) nilP))) (nmT 13) (seqP (asgP (clP sort2P (consP (callP q__law_values (consP (varP 9) (consP (slP (varP 12) none (some (varP 13))) (consP (varP 11) nilP)))) nilP)) (nmT 14)) (condP (opP (eqP true) (opP (eqP false) (varP 14) (clP sort2P (consP (varP 11) nilP))) (opP (eqP false) (varP 13) (ifP (opP (eqP false) (opP ixP (opP ixP (varP 9) (varP 4)) (varP 5)) (conP (.int 0))) (conP (.int 4)) (conP (.int 5))))) (retP (conP (.bl false))) endP)))
abbrev sk_12 : PFS := (retP (conP (.bl true)))
theorem sk_split : t_law = (seqP sk_0 (seqP sk_1 (seqP sk_2 (seqP sk_3 (seqP sk_4 (seqP sk_5 (seqP sk_6 (seqP sk_7 (seqP sk_8 (seqP sk_9 (seqP sk_10 (seqP sk_11 sk_12)))))))))))) := rfl
end Law
set_option maxRecDepth 100000
set_option maxHeartbeats 2000000
namespace Law
open PySem L2 Vai
/-! ## what the trees say -/
def rowT (n : Nat) (g : Nat → Int) : T := .tup false ((List.range n).map fun z => .int (g z))
def webT (n : Nat) (f : Nat → Nat → Int) : T := .tup false ((List.range n).map fun y => rowT n (f y))
theorem atI_nat {α : Type} {xs : List α} {k : Nat} {x : α} (h : xs[k]? = some x) : atI xs ((k : Nat) : Int) = some x := by
  have hk := (List.getElem?_eq_some_iff.mp h).1
  unfold atI ixN
  rw [if_pos (Int.natCast_nonneg k), if_pos (by omega)]
  simpa using h
theorem ixN_nat {n k : Nat} (h : k < n) : ixN n ((k : Nat) : Int) = some k := by
  unfold ixN
  rw [if_pos (Int.natCast_nonneg k), if_pos (by omega)]
  simp
theorem rng_get {α : Type} {n k : Nat} (h : k < n) (g : Nat → α) : ((List.range n).map g)[k]? = some (g k) := by
  rw [List.getElem?_map, List.getElem?_range h]
  rfl
theorem ix_web {n y k k' : Nat} {f : Nat → Nat → Int} (h : y < n) : ixP k (webT n f) k' (.int ((y : Nat) : Int)) = some (k - 1, 0, rowT n (f y)) := by
  unfold webT ixP
  simp only
  rw [atI_nat (rng_get h _)]
  rfl
theorem ix_row {n y k k' : Nat} {g : Nat → Int} (h : y < n) : ixP k (rowT n g) k' (.int ((y : Nat) : Int)) = some (k - 1, 0, .int (g y)) := by
  unfold rowT ixP
  simp only
  rw [atI_nat (rng_get h _)]
  rfl
theorem p_def {m : Nat} {β : PFS} {ts : List T} {w w' : Wr} {t : T} (h : ts.length ≤ m) (e : β (ts.map (fun t => some (Ev.im 0 t)) ++ List.replicate (m - ts.length) none) w = some (.rt t, w')) : defP m β ts w = some (.ok t, w') := by
  unfold defP
  rw [if_pos h, e]
theorem p_defN {m : Nat} {β : PFS} {ts : List T} {w w' : Wr} {ρ : En} (h : ts.length ≤ m) (e : β (ts.map (fun t => some (Ev.im 0 t)) ++ List.replicate (m - ts.length) none) w = some (.nx ρ, w')) : defP m β ts w = some (.ok .non, w') := by
  unfold defP
  rw [if_pos h, e]
theorem p_defE {m : Nat} {β : PFS} {ts : List T} {w w' : Wr} {ρ : En} {c : Nat} (h : ts.length ≤ m) (e : β (ts.map (fun t => some (Ev.im 0 t)) ++ List.replicate (m - ts.length) none) w = some (.er c ρ, w')) : defP m β ts w = some (.er c, w') := by
  unfold defP
  rw [if_pos h, e]
theorem p_trimD {δ : PFD} {ts : List T} {w w' : Wr} {t : T} (h : δ ts w = some (.ok t, w')) (hf : flatT t = true) : trimDP δ ts w = some (.ok t, w) := by
  unfold trimDP
  rw [h]
  simp only [hf, if_true]
theorem p_trimR {δ : PFD} {ts : List T} {w w' : Wr} {t : T} (h : δ ts w = some (.ok t, w')) (hf : flatT t = false) (ht : isTy t = false) : trimDP δ ts w = some (.ok t, w') := by
  unfold trimDP
  rw [h]
  simp only [hf, ht, Bool.false_eq_true, if_false]
theorem p_trimE {δ : PFD} {ts : List T} {w w' : Wr} {c : Nat} (h : δ ts w = some (.er c, w')) : trimDP δ ts w = some (.er c, w) := by
  unfold trimDP
  rw [h]
section
variable {ρ ρ1 : En} {w w1 w2 w3 : Wr} {φ ψ χ : PF} {φl : PFL} {k k1 k2 fr fr1 fr2 : Nat} {t t1 t2 t3 : T}
theorem p_im {i : Nat} (h : ρ[i]? = some (some (.im k t))) : varP i ρ w = some (.ok k 0 t, w) := by
  unfold varP
  rw [h]
theorem p_ow {i : Nat} (h : ρ[i]? = some (some (.ow k t))) : varP i ρ w = some (.ok k 0 t, w) := by
  unfold varP
  rw [h]
theorem p_con : conP t ρ w = some (.ok 0 0 t, w) := rfl
theorem p_op {γ : P2} (h1 : φ ρ w = some (.ok k1 fr1 t1, w1)) (h2 : ψ ρ w1 = some (.ok k2 fr2 t2, w2)) (h3 : γ k1 t1 k2 t2 = some (k, fr, t)) : opP γ φ ψ ρ w = some (.ok k fr t, w2) := by
  unfold opP bindP
  rw [h1]
  simp only
  rw [h2]
  simp only
  rw [h3]
  rfl
theorem p_un {γ : P1} (h1 : φ ρ w = some (.ok k1 fr1 t1, w1)) (h3 : γ k1 t1 = some (k, fr, t)) : unP γ φ ρ w = some (.ok k fr t, w1) := by
  unfold unP bindP
  rw [h1]
  simp only
  rw [h3]
  rfl
theorem p_cl {γ : PN} {ks : List (Nat × T)} (h1 : φl ρ w = some (.ok ks, w1)) (h3 : γ ks = some (k, fr, t)) : clP γ φl ρ w = some (.ok k fr t, w1) := by
  unfold clP bindPL
  rw [h1]
  simp only
  rw [h3]
  rfl
theorem p_nil : nilP ρ w = some (.ok [], w) := rfl
theorem p_cons {ks : List (Nat × T)} (h1 : φ ρ w = some (.ok k1 fr1 t1, w1)) (h2 : φl ρ w1 = some (.ok ks, w2)) : consP φ φl ρ w = some (.ok ((k1, t1) :: ks), w2) := by
  unfold consP
  rw [h1]
  simp only
  rw [h2]
theorem a0_nil : args0 [] = some [] := rfl
theorem a0_cons {r : List (Nat × T)} {ts : List T} (h : args0 r = some ts) : args0 ((0, t) :: r) = some (t :: ts) := by
  simp only [args0, h, Option.map_some]
theorem p_call {δ : PFD} {ks : List (Nat × T)} {ts : List T} (h1 : φl ρ w = some (.ok ks, w1)) (h2 : args0 ks = some ts) (h3 : δ ts w1 = some (.ok t, w2)) : callP δ φl ρ w = some (.ok 0 0 t, w2) := by
  unfold callP bindPL
  rw [h1]
  simp only
  rw [h2]
  simp only
  rw [h3]
theorem p_callE {δ : PFD} {ks : List (Nat × T)} {ts : List T} {c : Nat} (h1 : φl ρ w = some (.ok ks, w1)) (h2 : args0 ks = some ts) (h3 : δ ts w1 = some (.er c, w2)) : callP δ φl ρ w = some (.er c, w2) := by
  unfold callP bindPL
  rw [h1]
  simp only
  rw [h2]
  simp only
  rw [h3]
theorem p_newT {ks : List (Nat × T)} {ts : List T} (h1 : φl ρ w = some (.ok ks, w1)) (h2 : args0 ks = some ts) (h3 : ts.length ≤ 1000000) : newTP φl ρ w = some (.ok 0 0 (.tup false ts), w1) := by
  unfold newTP bindPL
  rw [h1]
  simp only
  rw [h2]
  simp only
  rw [if_pos h3]
theorem p_newL {ks : List (Nat × T)} {ts : List T} (h1 : φl ρ w = some (.ok ks, w1)) (h2 : args0 ks = some ts) (h3 : ts.length ≤ 1000000) : newLP φl ρ w = some (.ok 0 (if noLs ts = true then 1 else 0) (.lst ts), w1) := by
  unfold newLP bindPL
  rw [h1]
  simp only
  rw [h2]
  simp only
  rw [if_pos h3]
def cAnd (ψ : PF) (b : Bool) : PF := match b with
  | true => ψ
  | false => conP (.bl false)
theorem ca_t {y : Option (PR × Wr)} (h : ψ ρ w = y) : cAnd ψ true ρ w = y := h
theorem ca_f : cAnd ψ false ρ w = some (.ok 0 0 (.bl false), w) := rfl
theorem p_and {b : Bool} {y : Option (PR × Wr)} (h : φ ρ w = some (.ok k fr (.bl b), w1)) (h2 : cAnd ψ b ρ w1 = y) : andP φ ψ ρ w = y := by
  unfold andP bindP
  rw [h]
  cases b <;> exact h2
def cOr (ψ : PF) (b : Bool) : PF := match b with
  | false => ψ
  | true => conP (.bl true)
theorem co_f {y : Option (PR × Wr)} (h : ψ ρ w = y) : cOr ψ false ρ w = y := h
theorem co_t : cOr ψ true ρ w = some (.ok 0 0 (.bl true), w) := rfl
theorem p_or {b : Bool} {y : Option (PR × Wr)} (h : φ ρ w = some (.ok k fr (.bl b), w1)) (h2 : cOr ψ b ρ w1 = y) : orP φ ψ ρ w = y := by
  unfold orP bindP
  rw [h]
  cases b <;> exact h2
/-- both sides go well, and nothing is drawn in the second -/
theorem p_andB {b c : Bool} {k2 fr2 : Nat} (h : φ ρ w = some (.ok k fr (.bl b), w1)) (h2 : b = true → ψ ρ w1 = some (.ok 0 0 (.bl c), w1)) : andP φ ψ ρ w = some (.ok 0 0 (.bl (b && c)), w1) := by
  refine p_and h ?_
  cases b with
  | true => exact h2 rfl
  | false => rfl
theorem p_orB {b c : Bool} (h : φ ρ w = some (.ok k fr (.bl b), w1)) (h2 : b = false → ψ ρ w1 = some (.ok 0 0 (.bl c), w1)) : orP φ ψ ρ w = some (.ok 0 0 (.bl (b || c)), w1) := by
  refine p_or h ?_
  cases b with
  | true => rfl
  | false => exact h2 rfl
def cNot (b c : Bool) : Prop := (!b) = c
theorem cn_t : cNot true false := rfl
theorem cn_f : cNot false true := rfl
theorem cn_r {b : Bool} : cNot b (!b) := rfl
theorem p_not {b c : Bool} (h : φ ρ w = some (.ok k fr (.bl b), w1)) (hc : cNot b c) : notP φ ρ w = some (.ok 0 0 (.bl c), w1) := by
  unfold notP bindP
  rw [h]
  cases hc
  rfl
def cIf (ψ χ : PF) (b : Bool) : PF := match b with
  | true => ψ
  | false => χ
theorem ci_t {y : Option (PR × Wr)} (h : ψ ρ w = y) : cIf ψ χ true ρ w = y := h
theorem ci_f {y : Option (PR × Wr)} (h : χ ρ w = y) : cIf ψ χ false ρ w = y := h
theorem p_if {b : Bool} {y : Option (PR × Wr)} (h : φ ρ w = some (.ok k fr (.bl b), w1)) (h2 : cIf ψ χ b ρ w1 = y) : ifP φ ψ χ ρ w = y := by
  unfold ifP bindP
  rw [h]
  cases b <;> exact h2
theorem p_trim (h : φ ρ w = some (.ok k fr t, w1)) (hf : flatT t = true) : trimP φ ρ w = some (.ok 0 0 t, w) := by
  unfold trimP
  rw [h]
  simp only [hf, if_true]
theorem p_ch {f g : Int → Int → Bool} {i j l : Int} (h1 : φ ρ w = some (.ok k fr (.int i), w1)) (h2 : ψ ρ w1 = some (.ok k1 fr1 (.int j), w2)) (h3 : χ ρ w2 = some (.ok k2 fr2 (.int l), w2)) : chP (cmpP f) (cmpP g) φ ψ χ ρ w = some (.ok 0 0 (.bl (f i j && g j l)), w2) := by
  unfold chP bindP
  rw [h1]
  simp only
  rw [h2]
  simp only [cmpP]
  cases hb : f i j with
  | true =>
    simp only
    rw [h3]
    rfl
  | false => rfl
/-! statements -/
variable {f g : PFS} {y : Option (PS × Wr)}
def cSeq (g : PFS) : PS → Wr → Option (PS × Wr)
  | .nx ρ, w => g ρ w
  | x, w => some (x, w)
theorem cs_nx (h : g ρ w = y) : cSeq g (.nx ρ) w = y := h
theorem cs_rt : cSeq g (.rt t) w = some (.rt t, w) := rfl
theorem cs_er {c : Nat} : cSeq g (.er c ρ) w = some (.er c ρ, w) := rfl
theorem p_seq {x : PS} (h : f ρ w = some (x, w1)) (h2 : cSeq g x w1 = y) : seqP f g ρ w = y := by
  unfold seqP
  rw [h]
  cases x <;> exact h2
theorem p_end : endP ρ w = some (.nx ρ, w) := rfl
theorem p_ret (h : φ ρ w = some (.ok k fr t, w1)) : retP φ ρ w = some (.rt t, w1) := by
  unfold retP
  rw [h]
theorem p_retE {c : Nat} (h : φ ρ w = some (.er c, w1)) : retP φ ρ w = some (.er c ρ, w1) := by
  unfold retP
  rw [h]
theorem p_exp (h : φ ρ w = some (.ok k fr t, w1)) : expP φ ρ w = some (.nx ρ, w1) := by
  unfold expP
  rw [h]
theorem p_expE {c : Nat} (h : φ ρ w = some (.er c, w1)) : expP φ ρ w = some (.er c ρ, w1) := by
  unfold expP
  rw [h]
theorem p_raise {c : Nat} : raiseP c ρ w = some (.er c ρ, w) := rfl
def cCond (f g : PFS) (b : Bool) : PFS := match b with
  | true => f
  | false => g
theorem cc_t (h : f ρ w = y) : cCond f g true ρ w = y := h
theorem cc_f (h : g ρ w = y) : cCond f g false ρ w = y := h
theorem p_cond {b : Bool} (h : φ ρ w = some (.ok k fr (.bl b), w1)) (h2 : cCond f g b ρ w1 = y) : condP φ f g ρ w = y := by
  unfold condP
  rw [h]
  cases b <;> exact h2
theorem p_asg {τ : PT} (h : φ ρ w = some (.ok k fr t, w1)) (h2 : τ k fr t ρ w1 = some (ρ1, w2)) : asgP φ τ ρ w = some (.nx ρ1, w2) := by
  unfold asgP
  rw [h]
  simp only
  rw [h2]
theorem p_asgN {i : Nat} (h : φ ρ w = some (.ok k fr t, w1)) (e : ρ.set i (some (.im k t)) = ρ1) : asgP φ (nmT i) ρ w = some (.nx ρ1, w1) := p_asg h (by unfold nmT; rw [e])
theorem p_asgO {i : Nat} (h : φ ρ w = some (.ok k (fr + 1) t, w1)) (hi : i < ρ.length) (e : ρ.set i (some (.ow (fr + 1) t)) = ρ1) : asgP φ (nmO i) ρ w = some (.nx ρ1, w1) := p_asg h (by unfold nmO; rw [if_pos ⟨Nat.succ_ne_zero _, hi⟩, e])
theorem p_asgE {τ : PT} {c : Nat} (h : φ ρ w = some (.er c, w1)) : asgP φ τ ρ w = some (.er c ρ, w1) := by
  unfold asgP
  rw [h]
end
theorem all_map {α : Type} {k : Nat} {xs : List α} {q : α → Bool} : allP (fun bs => bs.all id) [(k, .lst (xs.map fun x => T.bl (q x)))] = some (0, 0, .bl (xs.all q)) := by
  show (toBsT (xs.map fun x => T.bl (q x))).map _ = _
  rw [toBsT_map]
  simp [List.all_map]
theorem len_web {k n : Nat} {f : Nat → Nat → Int} : lenP [(k, webT n f)] = some (0, 0, .int ((n : Nat) : Int)) := by
  simp [lenP, webT]
theorem len_row {k n : Nat} {g : Nat → Int} : lenP [(k, rowT n g)] = some (0, 0, .int ((n : Nat) : Int)) := by
  simp [lenP, rowT]
def mx (i : Int) : Int := if i > 0 then i else 0
def mutF (x : Nat) (f : Nat → Nat → Int) (y z : Nat) : Int := if x = y ∨ x = z then -f y z else f y z + mx (f y x) * mx (f x z) - mx (f z x) * mx (f x y)
theorem in_two {k k' : Nat} {z : Bool} {i a b : Int} : inP false k (.int i) k' (.tup z [.int a, .int b]) = some (0, 0, .bl (decide (i = a ∨ i = b))) := by
  show some (0, 0, T.bl ((decide (a = i) || (decide (b = i) || false)))) = _
  congr 3
  by_cases h1 : i = a <;> by_cases h2 : i = b <;> simp [h1, h2, eq_comm]
theorem mul_small {k k' : Nat} {i j : Int} (h1 : -1000 ≤ i) (h2 : i ≤ 1000) : mulP k (.int i) k' (.int j) = some (0, 0, .int (i * j)) := by
  unfold mulP
  simp only
  rw [if_pos]
  unfold Vai.small64
  rw [decide_eq_true (show (-18446744073709551616 : Int) < i by omega), decide_eq_true (show i < (18446744073709551616 : Int) by omega)]
  rfl
theorem mx_le {i : Int} (h : i ≤ 1000) : -1000 ≤ mx i ∧ mx i ≤ 1000 := by
  unfold mx
  split <;> omega
def Small (n : Nat) (f : Nat → Nat → Int) : Prop := ∀ y z, y < n → z < n → -1000 ≤ f y z ∧ f y z ≤ 1000
def Anti (n : Nat) (f : Nat → Nat → Int) : Prop := ∀ y z, y < n → z < n → f y z = -f z y
/-! comprehensions -/
theorem rng0 (n : Nat) : rngT 0 n = (List.range n).map fun i => T.int ((i : Nat) : Int) := by
  unfold rngT
  congr 1
  funext i
  rw [Int.zero_add]
section
variable {φi : PFI} {τ : PX} {vs : List Nat} {φt φe : PF} {k : Nat} {ρ : En} {w w1 : Wr} {α : Type} {xs : List α} {G g : α → T} {p : α → Bool}
theorem lcGo_map (h : ∀ x ∈ xs, ∃ ρ1, τ k (G x) (wipeP ρ vs) = some ρ1 ∧ (∃ k2 fr, φt ρ1 w = some (.ok k2 fr (.bl (p x)), w)) ∧ (p x = true → ∃ fr, φe ρ1 w = some (.ok 0 fr (g x), w))) :
    lcGoP τ vs φt φe k ρ (xs.map G) w = some ((xs.filter p).map g, w) := by
  induction xs with
  | nil => rfl
  | cons x xs ih =>
    obtain ⟨ρ1, h1, ⟨k2, fr, h2⟩, h3⟩ := h x (List.mem_cons_self ..)
    have ih2 := ih fun y hy => h y (List.mem_cons_of_mem _ hy)
    rw [List.map_cons]
    unfold lcGoP
    rw [h1]
    simp only
    rw [h2, List.filter_cons]
    cases hp : p x with
    | true =>
      obtain ⟨fr2, h4⟩ := h3 hp
      simp only [if_true]
      rw [h4]
      simp only
      rw [ih2]
      rfl
    | false =>
      simp only [Bool.false_eq_true, if_false]
      exact ih2
theorem p_lcF (hi : φi ρ w = some (.ok k (xs.map G), w1)) (h : ∀ x ∈ xs, ∃ ρ1, τ (k - 1) (G x) (wipeP ρ vs) = some ρ1 ∧ (∃ k2 fr, φt ρ1 w1 = some (.ok k2 fr (.bl (p x)), w1)) ∧ (p x = true → ∃ fr, φe ρ1 w1 = some (.ok 0 fr (g x), w1))) (hl : xs.length ≤ 1000000) :
    lcP φi τ vs φt φe ρ w = some (.ok 0 (if noLs ((xs.filter p).map g) = true then 1 else 0) (.lst ((xs.filter p).map g)), w1) := by
  unfold lcP
  rw [hi]
  simp only
  rw [lcGo_map h]
  simp only
  rw [if_pos (Nat.le_trans (by rw [List.length_map]; exact List.length_filter_le _ _) hl)]
theorem p_lcM (hi : φi ρ w = some (.ok k (xs.map G), w1)) (h : ∀ x ∈ xs, ∃ ρ1, τ (k - 1) (G x) (wipeP ρ vs) = some ρ1 ∧ ∃ fr, φe ρ1 w1 = some (.ok 0 fr (g x), w1)) (hl : xs.length ≤ 1000000) :
    lcP φi τ vs (conP (.bl true)) φe ρ w = some (.ok 0 (if noLs (xs.map g) = true then 1 else 0) (.lst (xs.map g)), w1) := by
  have := p_lcF (p := fun _ => true) (φt := conP (.bl true)) hi (fun x hx => by
    obtain ⟨ρ1, h1, h2⟩ := h x hx
    exact ⟨ρ1, h1, ⟨0, 0, rfl⟩, fun _ => h2⟩) hl
  rw [List.filter_eq_self.mpr fun _ _ => rfl] at this
  exact this
theorem p_allM {q : α → Bool} (hi : φi ρ w = some (.ok k (xs.map G), w1)) (h : ∀ x ∈ xs, ∃ ρ1, τ (k - 1) (G x) (wipeP ρ vs) = some ρ1 ∧ ∃ fr, φe ρ1 w1 = some (.ok 0 fr (.bl (q x)), w1)) (hl : xs.length ≤ 1000000) :
    clP (allP fun bs => bs.all id) (consP (lcP φi τ vs (conP (.bl true)) φe) nilP) ρ w = some (.ok 0 0 (.bl (xs.all q)), w1) := by
  refine p_cl (p_cons (p_lcM (g := fun x => .bl (q x)) hi h hl) p_nil) ?_
  show (toBsT (xs.map fun x => T.bl (q x))).map _ = _
  rw [toBsT_map]
  simp [List.all_map]
/-! two fors -/
variable {φi1 : PFI} {τ1 : PX} {vs1 : List Nat} {φt1 : PF} {β : Type} {ys : α → List β} {G1 : α → β → T} {g2 : α → β → T} {p2 : α → β → Bool}
theorem lc2Go_map (h : ∀ x ∈ xs, ∃ ρ1 k1, τ k (G x) (wipeP ρ vs) = some ρ1 ∧ φi1 ρ1 w = some (.ok k1 ((ys x).map (G1 x)), w) ∧ ∀ y ∈ ys x, ∃ ρ2, τ1 (k1 - 1) (G1 x y) (wipeP ρ1 vs1) = some ρ2 ∧ (∃ k2 fr, φt1 ρ2 w = some (.ok k2 fr (.bl (p2 x y)), w)) ∧ (p2 x y = true → ∃ fr, φe ρ2 w = some (.ok 0 fr (g2 x y), w))) :
    lc2GoP τ vs (conP (.bl true)) φi1 τ1 vs1 φt1 φe k ρ (xs.map G) w = some (xs.flatMap fun x => ((ys x).filter (p2 x)).map (g2 x), w) := by
  induction xs with
  | nil => rfl
  | cons x xs ih =>
    obtain ⟨ρ1, k1, h1, h2, h3⟩ := h x (List.mem_cons_self ..)
    have ih2 := ih fun y hy => h y (List.mem_cons_of_mem _ hy)
    rw [List.map_cons]
    unfold lc2GoP
    rw [h1]
    simp only [conP]
    rw [h2]
    simp only
    rw [lcGo_map h3]
    simp only
    rw [ih2]
    rfl
theorem p_lc2F (hi : φi ρ w = some (.ok k (xs.map G), w1)) (h : ∀ x ∈ xs, ∃ ρ1 k1, τ (k - 1) (G x) (wipeP ρ vs) = some ρ1 ∧ φi1 ρ1 w1 = some (.ok k1 ((ys x).map (G1 x)), w1) ∧ ∀ y ∈ ys x, ∃ ρ2, τ1 (k1 - 1) (G1 x y) (wipeP ρ1 vs1) = some ρ2 ∧ (∃ k2 fr, φt1 ρ2 w1 = some (.ok k2 fr (.bl (p2 x y)), w1)) ∧ (p2 x y = true → ∃ fr, φe ρ2 w1 = some (.ok 0 fr (g2 x y), w1)))
    (hl : (xs.flatMap fun x => ((ys x).filter (p2 x)).map (g2 x)).length ≤ 1000000) :
    lc2P φi τ vs (conP (.bl true)) φi1 τ1 vs1 φt1 φe ρ w = some (.ok 0 (if noLs (xs.flatMap fun x => ((ys x).filter (p2 x)).map (g2 x)) = true then 1 else 0) (.lst (xs.flatMap fun x => ((ys x).filter (p2 x)).map (g2 x))), w1) := by
  unfold lc2P
  rw [hi]
  simp only
  rw [lc2Go_map h]
  simp only
  rw [if_pos hl]
theorem p_lc2M (hi : φi ρ w = some (.ok k (xs.map G), w1)) (h : ∀ x ∈ xs, ∃ ρ1 k1, τ (k - 1) (G x) (wipeP ρ vs) = some ρ1 ∧ φi1 ρ1 w1 = some (.ok k1 ((ys x).map (G1 x)), w1) ∧ ∀ y ∈ ys x, ∃ ρ2, τ1 (k1 - 1) (G1 x y) (wipeP ρ1 vs1) = some ρ2 ∧ ∃ fr, φe ρ2 w1 = some (.ok 0 fr (g2 x y), w1))
    (hl : (xs.map fun x => (ys x).length).sum ≤ 1000000) :
    lc2P φi τ vs (conP (.bl true)) φi1 τ1 vs1 (conP (.bl true)) φe ρ w = some (.ok 0 (if noLs (xs.flatMap fun x => (ys x).map (g2 x)) = true then 1 else 0) (.lst (xs.flatMap fun x => (ys x).map (g2 x))), w1) := by
  have e : (xs.flatMap fun x => ((ys x).filter fun _ => true).map (g2 x)) = (xs.flatMap fun x => (ys x).map (g2 x)) := by
    congr 1
    funext x
    rw [List.filter_eq_self.mpr fun _ _ => rfl]
  have h1 := p_lc2F (p2 := fun _ _ => true) (φt1 := conP (.bl true)) (g2 := g2) hi (fun x hx => by
    obtain ⟨ρ1, k1, a, b, c⟩ := h x hx
    exact ⟨ρ1, k1, a, b, fun y hy => by
      obtain ⟨ρ2, d, e⟩ := c y hy
      exact ⟨ρ2, d, ⟨0, 0, rfl⟩, fun _ => e⟩⟩) (by
    rw [e, List.length_flatMap]
    simpa using hl)
  rw [e] at h1
  exact h1
theorem all_flat {k : Nat} {q : α → β → Bool} : allP (fun bs => bs.all id) [(k, .lst (xs.flatMap fun x => (ys x).map fun y => T.bl (q x y)))] = some (0, 0, .bl (xs.all fun x => (ys x).all (q x))) := by
  have e : (xs.flatMap fun x => (ys x).map fun y => T.bl (q x y)) = (xs.flatMap fun x => (ys x).map (q x)).map T.bl := by
    rw [List.map_flatMap]
    congr 1
    funext x
    rw [List.map_map]
    rfl
  rw [e]
  show (toBsT ((xs.flatMap fun x => (ys x).map (q x)).map T.bl)).map _ = _
  rw [toBsT_map (fun b : Bool => b)]
  simp only [List.map_id', Option.map_some, Option.some.injEq, Prod.mk.injEq, true_and, T.bl.injEq]
  rw [List.all_flatMap]
  congr 1
  funext x
  rw [List.all_map]
  rfl
theorem p_rg {φl : PFL} {n : Nat} (h : φl ρ w = some (.ok [(k, .int ((n : Nat) : Int))], w1)) (hn : n ≤ 1000000) : rg1IP φl ρ w = some (.ok 0 ((List.range n).map fun i => T.int ((i : Nat) : Int)), w1) := by
  unfold rg1IP
  rw [h]
  simp only
  rw [if_pos, ← rng0]
  · simp
  · unfold inBd
    rw [decide_eq_true (by omega), decide_eq_true (by omega)]
    rfl
def itemsT : T → Option (List T)
  | .lst ts => some ts
  | .tup _ ts => some ts
  | _ => none
theorem p_seqI {φ : PF} {fr : Nat} {t : T} {ts : List T} (h : φ ρ w = some (.ok k fr t, w1)) (e : itemsT t = some ts) : seqIP φ ρ w = some (.ok k ts, w1) := by
  unfold seqIP
  rw [h]
  cases t <;> simp only [itemsT] at e <;> cases e <;> rfl
theorem p_lcL {ts : List T} {g : T → T} (hi : φi ρ w = some (.ok k ts, w1)) (h : ∀ x ∈ ts, ∃ ρ1, τ (k - 1) x (wipeP ρ vs) = some ρ1 ∧ ∃ fr, φe ρ1 w1 = some (.ok 0 fr (g x), w1)) (hl : ts.length ≤ 1000000) :
    lcP φi τ vs (conP (.bl true)) φe ρ w = some (.ok 0 (if noLs (ts.map g) = true then 1 else 0) (.lst (ts.map g)), w1) := p_lcM (xs := ts) (G := fun x => x) (by rw [List.map_id']; exact hi) h hl
theorem p_seqL {φ : PF} {fr : Nat} {ts : List T} (h : φ ρ w = some (.ok k fr (.lst ts), w1)) : seqIP φ ρ w = some (.ok k ts, w1) := by
  unfold seqIP
  rw [h]
theorem p_seqT {φ : PF} {fr : Nat} {z : Bool} {ts : List T} (h : φ ρ w = some (.ok k fr (.tup z ts), w1)) : seqIP φ ρ w = some (.ok k ts, w1) := by
  unfold seqIP
  rw [h]
end
local macro_rules | `(tactic| nofun) => `(tactic| repeat (first | (with_reducible exact p_con) | (with_reducible exact p_nil) | (with_reducible exact p_end) | (with_reducible exact p_raise) | ((with_reducible apply p_im); rfl) | ((with_reducible apply p_ow); rfl) | ((with_reducible change _ = _); (with_reducible assumption)) | ((with_reducible apply ix_web); assumption) | ((with_reducible apply ix_row); assumption) | (with_reducible apply p_op) | (with_reducible apply p_un) | (with_reducible apply p_cl) | (with_reducible apply p_cons) | (with_reducible apply p_call) | (with_reducible apply p_newT) | (with_reducible apply p_newL) | (with_reducible apply p_trim) | (with_reducible exact cn_t) | (with_reducible exact cn_f) | (with_reducible exact cn_r) | ((with_reducible change flatT _ = true); rfl) | ((with_reducible change args0 _ = _); (first | exact a0_nil | exact a0_cons a0_nil | exact a0_cons (a0_cons a0_nil) | exact a0_cons (a0_cons (a0_cons a0_nil)) | exact a0_cons (a0_cons (a0_cons (a0_cons a0_nil))))) | ((with_reducible change List.length _ ≤ 1000000); exact Nat.le_of_ble_eq_true rfl) | (with_reducible apply all_map) | (with_reducible apply len_web) | (with_reducible apply len_row) | (with_reducible apply p_seqI) | (with_reducible apply p_rg) | (with_reducible apply all_flat) | ((with_reducible change _ ≤ 1000000); omega) | ((with_reducible change itemsT _ = _); rfl) | (with_reducible apply p_and) | (with_reducible apply ca_f) | (with_reducible apply ca_t) | (with_reducible apply p_or) | (with_reducible apply co_t) | (with_reducible apply co_f) | (with_reducible apply p_not) | (with_reducible apply p_if) | (with_reducible apply ci_t) | (with_reducible apply ci_f) | (with_reducible apply p_ch) | (with_reducible apply p_seq) | (with_reducible apply cs_nx) | (with_reducible apply cs_rt) | (with_reducible apply cs_er) | (with_reducible apply p_ret) | (with_reducible apply p_exp) | (with_reducible apply p_cond) | (with_reducible apply cc_t) | (with_reducible apply cc_f) | (with_reducible apply p_asgN) | ((with_reducible change cmpP _ _ _ _ _ = _); rfl) | ((with_reducible change intP2 _ _ _ _ _ _ = _); rfl) | ((with_reducible change addP _ _ _ _ = _); rfl) | ((with_reducible change negP _ _ = _); rfl) | ((with_reducible change lenP _ = _); rfl) | ((with_reducible change twoP _ _ = _); rfl) | ((with_reducible change absP _ = _); rfl) | ((with_reducible change intP _ = _); rfl) | ((with_reducible change isiP _ = _); rfl) | ((with_reducible change List.set _ _ _ = _); (first | (simp only [List.set_cons_zero, List.set_cons_succ]; rfl) | rfl))))
theorem eq_ints {k k' : Nat} {i j : Int} : eqP false k (.int i) k' (.int j) = some (0, 0, .bl (decide (i = j))) := by
  show (if SeqAt.shaped (.int i) && SeqAt.shaped (.int j) then some (0, 0, T.bl (PyData.eqv (.int i) (.int j))) else none) = _
  rw [show (SeqAt.shaped (.int i) && SeqAt.shaped (.int j)) = true from rfl, if_pos rfl]
  congr 3
theorem ne_ints {k k' : Nat} {i j : Int} : eqP true k (.int i) k' (.int j) = some (0, 0, .bl (!decide (i = j))) := by
  show (if SeqAt.shaped (.int i) && SeqAt.shaped (.int j) then some (0, 0, T.bl (!PyData.eqv (.int i) (.int j))) else none) = _
  rw [show (SeqAt.shaped (.int i) && SeqAt.shaped (.int j)) = true from rfl, if_pos rfl]
  congr 3
def isIT : T → Bool
  | .int _ => true
  | _ => false
def isBT : T → Bool
  | .bl _ => true
  | _ => false
def isTT : T → Bool
  | .tup _ _ => true
  | _ => false
theorem isi_g {k k' : Nat} {t : T} {m n : String} {b : Bool} (h : tyT t = some m) (e : kitB m n = some b) : isiP [(k, t), (k', .ty n)] = some (0, 0, .bl b) := by
  unfold isiP
  simp only
  rw [h]
  simp only
  rw [e]
  rfl
theorem isi_i {k k' : Nat} {t : T} {n : String} (h : tyT t = some n) : isiP [(k, t), (k', .ty "int")] = some (0, 0, .bl (isIT t || isBT t)) := by
  cases t <;> first | cases h; done | exact isi_g (b := true) rfl (by decide +kernel) | exact isi_g (b := false) rfl (by decide +kernel)
theorem isi_b {k k' : Nat} {t : T} {n : String} (h : tyT t = some n) : isiP [(k, t), (k', .ty "bool")] = some (0, 0, .bl (isBT t)) := by
  cases t <;> first | cases h; done | exact isi_g (b := true) rfl (by decide +kernel) | exact isi_g (b := false) rfl (by decide +kernel)
theorem isi_t {k k' : Nat} {t : T} {n : String} (h : tyT t = some n) : isiP [(k, t), (k', .ty "tuple")] = some (0, 0, .bl (isTT t)) := by
  cases t <;> first | cases h; done | exact isi_g (b := true) rfl (by decide +kernel) | exact isi_g (b := false) rfl (by decide +kernel)
def ndsT (ws : List Nat) : List T := ws.map fun (x : Nat) => T.int x
/-! loops -/
section
variable {τ : PT} {β : PFS} {ρ ρ1 ρ2 : En} {w w1 w2 : Wr} {t : T} {ts : List T} {y : Option (Vai.PS × Wr)} {φi : PFI}
theorem p_for (hi : φi ρ w = some (.ok 0 ts, w1)) (h : forGoP τ β ts ρ w1 = y) : forP φi τ β ρ w = y := by
  unfold forP
  rw [hi]
  exact h
theorem f_nil : forGoP τ β [] ρ w = some (.nx ρ, w) := rfl
theorem f_cons (h1 : τ 0 0 t ρ w = some (ρ1, w1)) (h2 : β ρ1 w1 = some (.nx ρ2, w2)) (h3 : forGoP τ β ts ρ2 w2 = y) : forGoP τ β (t :: ts) ρ w = y := by
  unfold forGoP
  rw [h1]
  simp only
  rw [h2]
  exact h3
theorem f_err {c : Nat} (h1 : τ 0 0 t ρ w = some (ρ1, w1)) (h2 : β ρ1 w1 = some (.er c ρ2, w2)) : forGoP τ β (t :: ts) ρ w = some (.er c ρ2, w2) := by
  unfold forGoP
  rw [h1]
  simp only
  rw [h2]
theorem f_ret {u : T} (h1 : τ 0 0 t ρ w = some (ρ1, w1)) (h2 : β ρ1 w1 = some (.rt u, w2)) : forGoP τ β (t :: ts) ρ w = some (.rt u, w2) := by
  unfold forGoP
  rw [h1]
  simp only
  rw [h2]
theorem for_list {G : Nat → T} {Inv : Nat → En → Wr → Prop} : ∀ (m j : Nat) (ρ : En) (w : Wr), (∀ i ρ w, i < j + m → j ≤ i → Inv i ρ w → ∃ ρ1 w1 ρ2 w2, τ 0 0 (G i) ρ w = some (ρ1, w1) ∧ β ρ1 w1 = some (.nx ρ2, w2) ∧ Inv (i + 1) ρ2 w2) → Inv j ρ w → ∃ ρ' w', forGoP τ β ((List.range' j m).map G) ρ w = some (.nx ρ', w') ∧ Inv (j + m) ρ' w'
  | 0, j, ρ, w, _, h0 => ⟨ρ, w, rfl, h0⟩
  | m + 1, j, ρ, w, hs, h0 => by
    obtain ⟨ρ1, w1, ρ2, w2, a, b, c⟩ := hs j ρ w (by omega) (Nat.le_refl _) h0
    obtain ⟨ρ', w', d, e⟩ := for_list m (j + 1) ρ2 w2 (fun i ρ w h1 h2 => hs i ρ w (by omega) (by omega)) c
    exact ⟨ρ', w', by rw [List.range'_succ, List.map_cons]; exact f_cons a b d, by rw [show j + (m + 1) = j + 1 + m by omega]; exact e⟩
/-- a loop over range(n), by what holds after so many turns -/
theorem for_inv {n : Nat} {Inv : Nat → En → Wr → Prop} (h0 : Inv 0 ρ w) (hs : ∀ i ρ w, i < n → Inv i ρ w → ∃ ρ1 w1 ρ2 w2, τ 0 0 (.int ((i : Nat) : Int)) ρ w = some (ρ1, w1) ∧ β ρ1 w1 = some (.nx ρ2, w2) ∧ Inv (i + 1) ρ2 w2) : ∃ ρ' w', forGoP τ β ((List.range n).map fun i => T.int ((i : Nat) : Int)) ρ w = some (.nx ρ', w') ∧ Inv n ρ' w' := by
  have := for_list (G := fun i => T.int ((i : Nat) : Int)) (τ := τ) (β := β) n 0 ρ w (fun i ρ w h1 _ => hs i ρ w (by omega)) h0
  rw [Nat.zero_add, ← List.range_eq_range'] at this
  exact this
end
/-! tables -/
def trow (n : Nat) (g : Nat → Int) : T := .lst ((List.range n).map fun z => .int (g z))
def tabT (n : Nat) (g : Nat → Nat → Int) : T := .lst ((List.range n).map fun y => trow n (g y))
def setF (g : Nat → Nat → Int) (y z : Nat) (v : Int) : Nat → Nat → Int := fun a b => if a = y ∧ b = z then v else g a b
theorem ix_tab {n y k k' : Nat} {f : Nat → Nat → Int} (h : y < n) : ixP k (tabT n f) k' (.int ((y : Nat) : Int)) = some (k - 1, 0, trow n (f y)) := by
  unfold tabT ixP
  simp only
  rw [atI_nat (rng_get h _)]
  rfl
theorem ix_trow {n y k k' : Nat} {g : Nat → Int} (h : y < n) : ixP k (trow n g) k' (.int ((y : Nat) : Int)) = some (k - 1, 0, .int (g y)) := by
  unfold trow ixP
  simp only
  rw [atI_nat (rng_get h _)]
  rfl
theorem rng_set {α : Type} {n z : Nat} {g : Nat → α} {v : α} : ((List.range n).map g).set z v = (List.range n).map fun b => if b = z then v else g b := by
  apply List.ext_getElem?
  intro i
  by_cases hi : i < n
  · rw [rng_get hi]
    by_cases hz : z = i
    · subst hz
      rw [List.getElem?_set_self (by simpa using hi), if_pos rfl]
    · rw [List.getElem?_set_ne hz, rng_get hi, if_neg (fun e => hz e.symm)]
  · rw [List.getElem?_eq_none (by simp; omega), List.getElem?_eq_none (by simp; omega)]
theorem tab_put {n y z : Nat} {g : Nat → Nat → Int} {v : Int} : (T.lst (((List.range n).map fun y => trow n (g y)).set y (.lst (((List.range n).map fun z => T.int (g y z)).set z (.int v))))) = tabT n (setF g y z v) := by
  unfold tabT
  rw [rng_set, rng_set]
  congr 1
  apply List.map_congr_left
  intro a ha
  split
  · rename_i e
    subst e
    unfold trow
    congr 1
    apply List.map_congr_left
    intro b hb
    unfold setF
    split
    · rename_i e
      rw [if_pos ⟨rfl, e⟩]
    · rename_i e
      rw [if_neg fun q => e q.2]
  · rename_i e
    unfold trow
    congr 1
    apply List.map_congr_left
    intro b hb
    unfold setF
    rw [if_neg fun q => e q.1]
section
variable {ρ : En} {w w1 w2 : Wr} {φ ψ : PF} {k1 fr1 k2 fr2 k fr i n y z : Nat} {g : Nat → Nat → Int} {v : Int}
theorem st2_tab (h : ρ[i]? = some (some (.ow 2 (tabT n g)))) (h1 : φ ρ w = some (.ok k1 fr1 (.int ((y : Nat) : Int)), w1)) (h2 : ψ ρ w1 = some (.ok k2 fr2 (.int ((z : Nat) : Int)), w2)) (hy : y < n) (hz : z < n) : st2 i φ ψ k fr (.int v) ρ w = some ((ρ.map clr).set i (some (.ow 2 (tabT n (setF g y z v)))), w2) := by
  unfold st2
  rw [h1]
  simp only
  rw [h2, h]
  simp only [tabT, List.length_map, List.length_range]
  rw [ixN_nat hy]
  simp only
  rw [rng_get hy]
  simp only [trow, List.length_map, List.length_range]
  rw [ixN_nat hz]
  simp only [T.noL, if_true]
  have := tab_put (n := n) (y := y) (z := z) (g := g) (v := v)
  unfold trow at this
  rw [this]
  unfold tabT trow
  rfl
theorem p_lcT {φi : PFI} {τ : PX} {vs : List Nat} {φe : PF} {α : Type} {xs : List α} {G : α → T} {u : α → List T} (hi : φi ρ w = some (.ok k (xs.map G), w1)) (h : ∀ x ∈ xs, ∃ ρ1 kk, τ (k - 1) (G x) (wipeP ρ vs) = some ρ1 ∧ φe ρ1 w1 = some (.ok kk 1 (.lst (u x)), w1)) (hl : xs.length ≤ 1000000) :
    lcTP φi τ vs φe ρ w = some (.ok 0 2 (.lst (xs.map fun x => .lst (u x))), w1) := by
  have go : ∀ xs : List α, (∀ x ∈ xs, ∃ ρ1 kk, τ (k - 1) (G x) (wipeP ρ vs) = some ρ1 ∧ φe ρ1 w1 = some (.ok kk 1 (.lst (u x)), w1)) → lcTGoP τ vs φe (k - 1) ρ (xs.map G) w1 = some (xs.map fun x => .lst (u x), w1) := fun xs => by
    induction xs with
    | nil => exact fun _ => rfl
    | cons x xs ih =>
      intro h
      obtain ⟨ρ1, kk, a, b⟩ := h x (List.mem_cons_self ..)
      rw [List.map_cons]
      unfold lcTGoP
      rw [a]
      simp only
      rw [b]
      simp only
      rw [ih fun y hy => h y (List.mem_cons_of_mem _ hy)]
      rfl
  unfold lcTP
  rw [hi]
  simp only
  rw [go xs h]
  simp only
  rw [if_pos (by simpa using hl)]
theorem noLs_rng {n : Nat} {g : Nat → Int} : noLs ((List.range n).map fun z => T.int (g z)) = true := by
  induction List.range n with
  | nil => rfl
  | cons x xs ih =>
    simp only [List.map_cons, noLs, T.noL, Bool.true_and]
    exact ih
end
theorem rep_rng {n : Nat} {x : T} : repA n [x] = (List.range n).map fun _ => x := by
  unfold repA
  induction n with
  | zero => rfl
  | succ n ih =>
    rw [List.replicate_succ, List.flatten_cons, ih, List.range_succ_eq_map]
    simp
/-- [0] * n -/
theorem zeros {k n k' : Nat} (hn : n ≤ 1000) : mulP k (.lst [.int 0]) k' (.int ((n : Nat) : Int)) = if k ≤ 1 then some (0, 1, trow n fun _ => 0) else none := by
  unfold mulP
  simp only
  have e : (decide ((0 : Int) ≤ n) && decide ((n : Int) ≤ 1000) && decide ([T.int 0].length ≤ 1000)) = true := by
    rw [decide_eq_true (by omega), decide_eq_true (by omega)]
    rfl
  by_cases hk : k ≤ 1
  · rw [if_pos ⟨hk, e⟩, if_pos hk]
    unfold lstZ
    rw [Int.toNat_natCast, rep_rng]
    have := noLs_rng (n := n) (g := fun _ => 0)
    simp only [this, if_true]
    rfl
  · rw [if_neg fun z => hk z.1, if_neg hk]
/-- tuple([tuple(line) for line in table]) -/
theorem freeze {n i j : Nat} {g : Nat → Nat → Int} {ρ : En} {w : Wr} (h : ρ[i]? = some (some (.ow 2 (tabT n g)))) (hj : j < ρ.length) (hn : n ≤ 1000) : clP tupP (consP (lcP (seqIP (varP i)) (nmX j) [j] (conP (.bl true)) (clP tupP (consP (varP j) nilP))) nilP) ρ w = some (.ok 0 0 (webT n g), w) := by
  refine p_cl (p_cons (p_lcM (xs := List.range n) (G := fun y => trow n (g y)) (g := fun y => rowT n (g y)) (p_seqI (p_ow h) rfl) (fun y hy => ?_) (by simp; omega)) p_nil) rfl
  refine ⟨_, rfl, 0, ?_⟩
  have e : ((wipeP ρ [j]).set j (some (Ev.im (2 - 1) (trow n (g y)))))[j]? = some (some (Ev.im 1 (trow n (g y)))) := by
    rw [List.getElem?_set_self]
    simpa [wipeP] using hj
  exact p_cl (p_cons (p_im e) p_nil) rfl
theorem web_congr {n : Nat} {f g : Nat → Nat → Int} (h : ∀ y z, y < n → z < n → f y z = g y z) : webT n f = webT n g := by
  unfold webT rowT
  congr 1
  apply List.map_congr_left
  intro y hy
  congr 1
  apply List.map_congr_left
  intro z hz
  rw [h y z (List.mem_range.mp hy) (List.mem_range.mp hz)]
section
variable {ρ : En} {w w1 w2 : Wr} {φ ψ : PF} {fr1 fr2 i a b n y z : Nat} {g : Nat → Nat → Int} {u v : Int}
theorem clr_set {e : Option Ev} (hc : ρ.map clr = ρ) (he : clr e = e) : (ρ.set i e).map clr = ρ.set i e := by
  rw [List.map_set, hc, he]
theorem two_put (hc : ρ.map clr = ρ) (h : ρ[i]? = some (some (.ow 2 (tabT n g)))) (ha : ρ[a]? = some (some (.im 0 (.int ((y : Nat) : Int))))) (hb : ρ[b]? = some (some (.im 0 (.int ((z : Nat) : Int))))) (hy : y < n) (hz : z < n) (h1 : φ ρ w = some (.ok 0 fr1 (.int u), w1)) (h2 : ψ ρ w1 = some (.ok 0 fr2 (.int v), w2)) :
    asgP (newTP (consP φ (consP ψ nilP))) (tuT 2 (coM (st2 i (varP a) (varP b)) (coM (st2 i (varP b) (varP a)) niT))) ρ w = some (.nx (ρ.set i (some (.ow 2 (tabT n (setF (setF g y z u) z y v))))), w2) := by
  have hi : i < ρ.length := (List.getElem?_eq_some_iff.mp h).1
  have ia : i ≠ a := fun e => by subst e; rw [h] at ha; cases ha
  have ib : i ≠ b := fun e => by subst e; rw [h] at hb; cases hb
  refine p_asg (p_newT (p_cons h1 (p_cons h2 p_nil)) (a0_cons (a0_cons a0_nil)) (Nat.le_of_ble_eq_true rfl)) ?_
  have g1 : (ρ.set i (some (.ow 2 (tabT n (setF g y z u)))))[i]? = some (some (.ow 2 (tabT n (setF g y z u)))) := List.getElem?_set_self hi
  have s1 := st2_tab (k := 0) (fr := 0) (v := u) h (p_im (w := w2) ha) (p_im (w := w2) hb) hy hz
  rw [hc] at s1
  have s2 := st2_tab (k := 0) (fr := 0) (v := v) g1 (p_im (w := w2) (i := b) (by rw [List.getElem?_set_ne ib]; exact hb)) (p_im (w := w2) (i := a) (by rw [List.getElem?_set_ne ia]; exact ha)) hz hy
  rw [clr_set hc rfl, List.set_set] at s2
  simp only [tuT, coM, noLs, T.noL, Bool.and_self, if_true, s1, s2, niT, List.length_cons, List.length_nil, Nat.reduceAdd, Nat.zero_sub]
end
def clean (u : Option Ev) : Prop := clr u = u
theorem clean_im {t : T} : clean (some (.im 0 t)) := rfl
theorem clean_none : clean none := rfl
end Law
set_option maxRecDepth 100000
set_option maxHeartbeats 2000000
namespace Law
open PySem L2 Vai
local macro_rules | `(tactic| nofun) => `(tactic| repeat (first | (with_reducible exact p_con) | (with_reducible exact p_nil) | (with_reducible exact p_end) | (with_reducible exact p_raise) | ((with_reducible apply p_im); rfl) | ((with_reducible apply p_ow); rfl) | ((with_reducible change _ = _); (with_reducible assumption)) | ((with_reducible apply ix_web); assumption) | ((with_reducible apply ix_row); assumption) | (with_reducible apply p_op) | (with_reducible apply p_un) | (with_reducible apply p_cl) | (with_reducible apply p_cons) | (with_reducible apply p_call) | (with_reducible apply p_newT) | (with_reducible apply p_newL) | (with_reducible apply p_trim) | (with_reducible exact cn_t) | (with_reducible exact cn_f) | (with_reducible exact cn_r) | ((with_reducible change flatT _ = true); rfl) | ((with_reducible change args0 _ = _); (first | exact a0_nil | exact a0_cons a0_nil | exact a0_cons (a0_cons a0_nil) | exact a0_cons (a0_cons (a0_cons a0_nil)) | exact a0_cons (a0_cons (a0_cons (a0_cons a0_nil))))) | ((with_reducible change List.length _ ≤ 1000000); exact Nat.le_of_ble_eq_true rfl) | (with_reducible apply all_map) | (with_reducible apply len_web) | (with_reducible apply len_row) | (with_reducible apply p_seqI) | (with_reducible apply p_rg) | (with_reducible apply all_flat) | ((with_reducible change _ ≤ 1000000); omega) | ((with_reducible change itemsT _ = _); rfl) | (with_reducible apply p_and) | (with_reducible apply ca_f) | (with_reducible apply ca_t) | (with_reducible apply p_or) | (with_reducible apply co_t) | (with_reducible apply co_f) | (with_reducible apply p_not) | (with_reducible apply p_if) | (with_reducible apply ci_t) | (with_reducible apply ci_f) | (with_reducible apply p_ch) | (with_reducible apply p_seq) | (with_reducible apply cs_nx) | (with_reducible apply cs_rt) | (with_reducible apply cs_er) | (with_reducible apply p_ret) | (with_reducible apply p_exp) | (with_reducible apply p_cond) | (with_reducible apply cc_t) | (with_reducible apply cc_f) | (with_reducible apply p_asgN) | ((with_reducible change cmpP _ _ _ _ _ = _); rfl) | ((with_reducible change intP2 _ _ _ _ _ _ = _); rfl) | ((with_reducible change addP _ _ _ _ = _); rfl) | ((with_reducible change negP _ _ = _); rfl) | ((with_reducible change lenP _ = _); rfl) | ((with_reducible change twoP _ _ = _); rfl) | ((with_reducible change absP _ = _); rfl) | ((with_reducible change intP _ = _); rfl) | ((with_reducible change isiP _ = _); rfl) | ((with_reducible change List.set _ _ _ = _); (first | (simp only [List.set_cons_zero, List.set_cons_succ]; rfl) | rfl))))
def wholeT (lo hi : Int) : T → Bool
  | .int i => decide (lo ≤ i) && decide (i ≤ hi)
  | _ => false
theorem c_int {t : T} {n : String} {w : Wr} (h : tyT t = some n) : q_is_int [t] w = some (.ok (.bl (isIT t)), w) := by
  have a1 := isi_i (k := 0) (k' := 0) h
  have a2 := isi_b (k := 0) (k' := 0) h
  refine p_trimD (w' := w) (p_def (by simp) ?_) rfl
  unfold t_is_int
  simp only [List.map_cons, List.map_nil, List.length_cons, List.length_nil, List.replicate, List.cons_append, List.nil_append, Nat.reduceAdd, Nat.reduceSub]
  cases t <;> first | cases h; done | (simp only [isIT, isBT, Bool.or_false, Bool.false_or, Bool.or_true, Bool.true_or] at a1 a2 ⊢; nofun)
theorem c_whole {t : T} {n : String} {lo hi : Int} {w : Wr} (h : tyT t = some n) : q_is_whole [t, .int lo, .int hi] w = some (.ok (.bl (wholeT lo hi t)), w) := by
  have a1 := c_int (w := w) h
  cases t with
  | int i =>
    show _ = some (PD.ok (.bl (decide (lo ≤ i) && decide (i ≤ hi))), w)
    refine p_trimD (w' := w) (p_def (by simp) ?_) rfl
    unfold t_is_whole
    simp only [List.map_cons, List.map_nil, List.length_cons, List.length_nil, List.replicate, List.cons_append, List.nil_append, Nat.reduceAdd, Nat.reduceSub]
    simp only [isIT] at a1
    nofun
  | bl b =>
    show _ = some (PD.ok (.bl false), w)
    refine p_trimD (w' := w) (p_def (by simp) ?_) rfl
    unfold t_is_whole
    simp only [List.map_cons, List.map_nil, List.length_cons, List.length_nil, List.replicate, List.cons_append, List.nil_append, Nat.reduceAdd, Nat.reduceSub]
    simp only [isIT] at a1
    nofun
  | _ =>
    show _ = some (PD.ok (.bl false), w)
    refine p_trimD (w' := w) (p_def (by simp) ?_) rfl
    unfold t_is_whole
    simp only [List.map_cons, List.map_nil, List.length_cons, List.length_nil, List.replicate, List.cons_append, List.nil_append, Nat.reduceAdd, Nat.reduceSub]
    simp only [isIT] at a1
    nofun
theorem c_node {t : T} {n : String} {m : Int} {w : Wr} (h : tyT t = some n) : q_is_node [.int m, t] w = some (.ok (.bl (wholeT 0 (m - 1) t)), w) := by
  refine p_trimD (w' := w) (p_def (by simp) ?_) rfl
  unfold t_is_node
  simp only [List.map_cons, List.map_nil, List.length_cons, List.length_nil, List.replicate, List.cons_append, List.nil_append, Nat.reduceAdd, Nat.reduceSub]
  have a := c_whole (lo := 0) (hi := m - 1) (w := w) h
  nofun
theorem c_check_node {n x : Nat} {w : Wr} (h : x < n) : q_check_node [.int n, .int x] w = some (.ok .non, w) := by
  refine p_trimD (w' := w) (p_defN (by simp) (ρ := [some (.im 0 (.int n)), some (.im 0 (.int x))]) ?_) rfl
  unfold t_check_node
  simp only [List.map_cons, List.map_nil, List.length_cons, List.length_nil, List.replicate, List.cons_append, List.nil_append, Nat.reduceAdd, Nat.reduceSub]
  have a := c_node (t := .int x) (m := n) (w := w) rfl
  rw [show wholeT 0 ((n : Int) - 1) (.int x) = true by simp only [wholeT]; rw [decide_eq_true (by omega), decide_eq_true (by omega)]; rfl] at a
  nofun
end Law
set_option maxRecDepth 100000
set_option maxHeartbeats 2000000
namespace Law
open PySem L2 Vai
local macro_rules | `(tactic| nofun) => `(tactic| repeat (first | (with_reducible exact p_con) | (with_reducible exact p_nil) | (with_reducible exact p_end) | (with_reducible exact p_raise) | ((with_reducible apply p_im); rfl) | ((with_reducible apply p_ow); rfl) | ((with_reducible change _ = _); (with_reducible assumption)) | ((with_reducible apply ix_web); assumption) | ((with_reducible apply ix_row); assumption) | (with_reducible apply p_op) | (with_reducible apply p_un) | (with_reducible apply p_cl) | (with_reducible apply p_cons) | (with_reducible apply p_call) | (with_reducible apply p_newT) | (with_reducible apply p_newL) | (with_reducible apply p_trim) | (with_reducible exact cn_t) | (with_reducible exact cn_f) | (with_reducible exact cn_r) | ((with_reducible change flatT _ = true); rfl) | ((with_reducible change args0 _ = _); (first | exact a0_nil | exact a0_cons a0_nil | exact a0_cons (a0_cons a0_nil) | exact a0_cons (a0_cons (a0_cons a0_nil)) | exact a0_cons (a0_cons (a0_cons (a0_cons a0_nil))))) | ((with_reducible change List.length _ ≤ 1000000); exact Nat.le_of_ble_eq_true rfl) | (with_reducible apply all_map) | (with_reducible apply len_web) | (with_reducible apply len_row) | (with_reducible apply p_seqI) | (with_reducible apply p_rg) | (with_reducible apply all_flat) | ((with_reducible change _ ≤ 1000000); omega) | ((with_reducible change itemsT _ = _); rfl) | (with_reducible apply p_and) | (with_reducible apply ca_f) | (with_reducible apply ca_t) | (with_reducible apply p_or) | (with_reducible apply co_t) | (with_reducible apply co_f) | (with_reducible apply p_not) | (with_reducible apply p_if) | (with_reducible apply ci_t) | (with_reducible apply ci_f) | (with_reducible apply p_ch) | (with_reducible apply p_seq) | (with_reducible apply cs_nx) | (with_reducible apply cs_rt) | (with_reducible apply cs_er) | (with_reducible apply p_ret) | (with_reducible apply p_exp) | (with_reducible apply p_cond) | (with_reducible apply cc_t) | (with_reducible apply cc_f) | (with_reducible apply p_asgN) | ((with_reducible change cmpP _ _ _ _ _ = _); rfl) | ((with_reducible change intP2 _ _ _ _ _ _ = _); rfl) | ((with_reducible change addP _ _ _ _ = _); rfl) | ((with_reducible change negP _ _ = _); rfl) | ((with_reducible change lenP _ = _); rfl) | ((with_reducible change twoP _ _ = _); rfl) | ((with_reducible change absP _ = _); rfl) | ((with_reducible change intP _ = _); rfl) | ((with_reducible change isiP _ = _); rfl) | ((with_reducible change List.set _ _ _ = _); (first | (simp only [List.set_cons_zero, List.set_cons_succ]; rfl) | rfl))))
def lineB (n : Nat) : T → Bool
  | .tup _ ts => decide (ts.length = n) && ts.all (wholeT (-1000) 1000)
  | _ => false
/-- a value, whose parts are values -/
def tame (t : T) : Prop := (∃ m, tyT t = some m) ∧ ∀ z ts, t = .tup z ts → ts.length ≤ 1000000 ∧ ∀ x ∈ ts, ∃ m, tyT x = some m
theorem c_line {n : Nat} {t : T} {w : Wr} (h : tame t) : q__is_line [.int n, t] w = some (.ok (.bl (lineB n t)), w) := by
  obtain ⟨⟨m, hm⟩, h2⟩ := h
  have i1 := isi_t (k := 0) (k' := 0) hm
  cases t with
  | tup z ts =>
    obtain ⟨hl, ht⟩ := h2 z ts rfl
    simp only [isTT] at i1
    have e := ne_ints (k := 0) (k' := 0) (i := ts.length) (j := n)
    by_cases hn : ts.length = n
    · rw [show lineB n (.tup z ts) = ts.all (wholeT (-1000) 1000) by simp only [lineB]; rw [decide_eq_true hn]; rfl]
      refine p_trimD (w' := w) (p_def (by simp) ?_) rfl
      unfold t__is_line
      simp only [List.map_cons, List.map_nil, List.length_cons, List.length_nil, List.replicate, List.cons_append, List.nil_append, Nat.reduceAdd, Nat.reduceSub]
      rw [decide_eq_true (by omega)] at e
      simp only [Bool.not_true] at e
      have a : clP (allP fun bs => bs.all id) (consP (lcP (seqIP (varP 1)) (nmX 2) [2] (conP (.bl true)) (callP q_is_whole (consP (varP 2) (consP (unP negP (conP (.int 1000))) (consP (conP (.int 1000)) nilP))))) nilP) [some (.im 0 (.int n)), some (.im 0 (.tup z ts)), none] w = some (.ok 0 0 (.bl (ts.all (wholeT (-1000) 1000))), w) := by
        refine p_allM (xs := ts) (G := fun x => x) (by rw [List.map_id']; exact p_seqT (p_im rfl)) (fun x hx => ⟨_, rfl, 0, ?_⟩) hl
        obtain ⟨m, hm⟩ := ht x hx
        have c := c_whole (lo := -1000) (hi := 1000) (w := w) hm
        nofun
      nofun
    · rw [show lineB n (.tup z ts) = false by simp only [lineB]; rw [decide_eq_false hn]; rfl]
      refine p_trimD (w' := w) (p_def (by simp) ?_) rfl
      unfold t__is_line
      simp only [List.map_cons, List.map_nil, List.length_cons, List.length_nil, List.replicate, List.cons_append, List.nil_append, Nat.reduceAdd, Nat.reduceSub]
      rw [decide_eq_false (by omega)] at e
      simp only [Bool.not_false] at e
      nofun
  | _ =>
    show _ = some (PD.ok (.bl false), w)
    refine p_trimD (w' := w) (p_def (by simp) ?_) rfl
    unfold t__is_line
    simp only [List.map_cons, List.map_nil, List.length_cons, List.length_nil, List.replicate, List.cons_append, List.nil_append, Nat.reduceAdd, Nat.reduceSub]
    simp only [isTT] at i1
    nofun
theorem tame_row {n : Nat} {g : Nat → Int} (h : n ≤ 1000000) : tame (rowT n g) := ⟨⟨"tuple", rfl⟩, fun z ts e => by
  unfold rowT at e
  cases e
  refine ⟨by simpa using h, fun x hx => ?_⟩
  obtain ⟨y, _, rfl⟩ := List.mem_map.mp hx
  exact ⟨"int", rfl⟩⟩
theorem line_row {n m : Nat} {g : Nat → Int} (h : ∀ z, z < n → -1000 ≤ g z ∧ g z ≤ 1000) : lineB m (rowT n g) = decide (n = m) := by
  unfold rowT
  simp only [lineB]
  rw [List.length_map, List.length_range]
  have : ((List.range n).map fun z => T.int (g z)).all (wholeT (-1000) 1000) = true := by
    rw [List.all_eq_true]
    intro x hx
    obtain ⟨y, hy, rfl⟩ := List.mem_map.mp hx
    have := h y (List.mem_range.mp hy)
    simp only [wholeT]
    rw [decide_eq_true this.1, decide_eq_true this.2]
    rfl
  rw [this, Bool.and_true]
theorem c_web_head {z : Bool} {ls : List T} {w : Wr} (h1 : 1 ≤ ls.length) (h6 : ls.length ≤ 6) (ht : ∀ t ∈ ls, tame t) (hb : ls.all (lineB ls.length) = false) : q_is_web [.tup z ls] w = some (.ok (.bl false), w) := by
  refine p_trimD (w' := w) (p_def (by simp) ?_) rfl
  unfold t_is_web
  simp only [List.map_cons, List.map_nil, List.length_cons, List.length_nil, List.replicate, List.cons_append, List.nil_append, Nat.reduceAdd, Nat.reduceSub]
  have i1 := isi_t (t := .tup z ls) (k := 0) (k' := 0) rfl
  simp only [isTT] at i1
  have e1 : decide ((1 : Int) ≤ (ls.length : Int)) = true := decide_eq_true (by omega)
  have e2 : decide ((ls.length : Int) ≤ (6 : Int)) = true := decide_eq_true (by omega)
  nofun
  simp only [e1, e2, Bool.and_true, Bool.not_true]
  nofun
  · apply p_lcL (g := fun x => .bl (lineB ls.length x))
    · nofun
    · intro x hx
      have c := c_line (n := ls.length) (w := w) (ht x hx)
      exact ⟨_, rfl, 0, by nofun⟩
    · omega
  nofun
  rw [hb, Bool.not_false]
  nofun
theorem c_web {n : Nat} {f : Nat → Nat → Int} {w : Wr} (h1 : 1 ≤ n) (h6 : n ≤ 6) (hf : Small n f) (ha : Anti n f) : q_is_web [webT n f] w = some (.ok (.bl true), w) := by
  refine p_trimD (w' := w) (p_def (by simp) ?_) rfl
  unfold t_is_web
  simp only [List.map_cons, List.map_nil, List.length_cons, List.length_nil, List.replicate, List.cons_append, List.nil_append, Nat.reduceAdd, Nat.reduceSub]
  have i1 := isi_t (t := webT n f) (k := 0) (k' := 0) rfl
  rw [show isTT (webT n f) = true from rfl] at i1
  have e1 : decide ((1 : Int) ≤ (n : Int)) = true := decide_eq_true (by omega)
  have e2 : decide ((n : Int) ≤ (6 : Int)) = true := decide_eq_true (by omega)
  nofun
  simp only [e1, e2, Bool.and_true, Bool.not_true]
  nofun
  · apply p_lcM (xs := List.range n) (G := fun y => rowT n (f y)) (g := fun y => .bl (decide (n = n)))
    · nofun
    · intro x hx
      have c := c_line (n := n) (w := w) (tame_row (g := f x) (by omega : n ≤ 1000000))
      rw [line_row (fun z hz => hf x z (List.mem_range.mp hx) hz)] at c
      exact ⟨_, rfl, 0, by nofun⟩
    · simp
      omega
  nofun
  rw [show ((List.range n).all fun y => decide (n = n)) = true by simp, Bool.not_true]
  nofun
  · apply p_lc2M (xs := List.range n) (G := fun y => T.int ((y : Nat) : Int)) (ys := fun _ => List.range n) (G1 := fun _ z => T.int ((z : Nat) : Int)) (g2 := fun y z => .bl (decide (f y z = -f z y)))
    · nofun
    · intro y hy
      have hy := List.mem_range.mp hy
      refine ⟨_, 0, rfl, ?_, fun z hz => ?_⟩
      · nofun
      · have hz := List.mem_range.mp hz
        refine ⟨_, rfl, 0, ?_⟩
        nofun
        exact eq_ints
    · rw [List.map_const', List.sum_replicate_nat]
      simp
      exact Nat.le_trans (Nat.mul_le_mul h6 h6) (by decide)
  nofun
  have hb : ((List.range n).all fun x => (List.range n).all fun z => decide (f x z = -f z x)) = true := by
    rw [List.all_eq_true]
    intro y hy
    rw [List.all_eq_true]
    intro z hz
    exact decide_eq_true (ha y z (List.mem_range.mp hy) (List.mem_range.mp hz))
  have e := all_flat (k := 0) (xs := List.range n) (ys := fun _ => List.range n) (q := fun y z => decide (f y z = -f z y))
  rw [hb] at e
  exact e
theorem c_check_web {n : Nat} {f : Nat → Nat → Int} {w : Wr} (h1 : 1 ≤ n) (h6 : n ≤ 6) (hf : Small n f) (ha : Anti n f) : q_check_web [webT n f] w = some (.ok .non, w) := by
  refine p_trimD (w' := w) (p_defN (by simp) (ρ := [some (.im 0 (webT n f))]) ?_) rfl
  unfold t_check_web
  simp only [List.map_cons, List.map_nil, List.length_cons, List.length_nil, List.replicate, List.cons_append, List.nil_append, Nat.reduceAdd, Nat.reduceSub]
  have a := c_web (w := w) h1 h6 hf ha
  nofun
end Law
set_option maxRecDepth 100000
set_option maxHeartbeats 2000000
namespace Law
open PySem L2 Vai
local macro_rules | `(tactic| nofun) => `(tactic| repeat (first | (with_reducible exact p_con) | (with_reducible exact p_nil) | (with_reducible exact p_end) | (with_reducible exact p_raise) | ((with_reducible apply p_im); rfl) | ((with_reducible apply p_ow); rfl) | ((with_reducible change _ = _); (with_reducible assumption)) | ((with_reducible apply ix_web); assumption) | ((with_reducible apply ix_row); assumption) | (with_reducible apply p_op) | (with_reducible apply p_un) | (with_reducible apply p_cl) | (with_reducible apply p_cons) | (with_reducible apply p_call) | (with_reducible apply p_newT) | (with_reducible apply p_newL) | (with_reducible apply p_trim) | (with_reducible exact cn_t) | (with_reducible exact cn_f) | (with_reducible exact cn_r) | ((with_reducible change flatT _ = true); rfl) | ((with_reducible change args0 _ = _); (first | exact a0_nil | exact a0_cons a0_nil | exact a0_cons (a0_cons a0_nil) | exact a0_cons (a0_cons (a0_cons a0_nil)) | exact a0_cons (a0_cons (a0_cons (a0_cons a0_nil))))) | ((with_reducible change List.length _ ≤ 1000000); exact Nat.le_of_ble_eq_true rfl) | (with_reducible apply all_map) | (with_reducible apply len_web) | (with_reducible apply len_row) | (with_reducible apply p_seqI) | (with_reducible apply p_rg) | (with_reducible apply all_flat) | ((with_reducible change _ ≤ 1000000); omega) | ((with_reducible change itemsT _ = _); rfl) | (with_reducible apply p_and) | (with_reducible apply ca_f) | (with_reducible apply ca_t) | (with_reducible apply p_or) | (with_reducible apply co_t) | (with_reducible apply co_f) | (with_reducible apply p_not) | (with_reducible apply p_if) | (with_reducible apply ci_t) | (with_reducible apply ci_f) | (with_reducible apply p_ch) | (with_reducible apply p_seq) | (with_reducible apply cs_nx) | (with_reducible apply cs_rt) | (with_reducible apply cs_er) | (with_reducible apply p_ret) | (with_reducible apply p_exp) | (with_reducible apply p_cond) | (with_reducible apply cc_t) | (with_reducible apply cc_f) | (with_reducible apply p_asgN) | ((with_reducible change cmpP _ _ _ _ _ = _); rfl) | ((with_reducible change intP2 _ _ _ _ _ _ = _); rfl) | ((with_reducible change addP _ _ _ _ = _); rfl) | ((with_reducible change negP _ _ = _); rfl) | ((with_reducible change lenP _ = _); rfl) | ((with_reducible change twoP _ _ = _); rfl) | ((with_reducible change absP _ = _); rfl) | ((with_reducible change intP _ = _); rfl) | ((with_reducible change isiP _ = _); rfl) | ((with_reducible change List.set _ _ _ = _); (first | (simp only [List.set_cons_zero, List.set_cons_succ]; rfl) | rfl))))
/-! drawing -/
section
variable {ρ : En} {w : Wr} {φ : PF} {i fr : Nat} {m : Int}
theorem p_taken (h0 : ρ[i]? = some (some (.im 0 .row))) (hm : φ ρ w = some (.ok 0 fr (.int m), w)) (m0 : 0 < m) (m1 : m < 1073741824) : ∃ (r : Int) (w' : Wr), 0 ≤ r ∧ r < m ∧ callP q__law_taken (consP (varP i) (consP φ nilP)) ρ w = some (.ok 0 0 (.int r), w') := by
  have h := takenP_rng (w := w) m0
  refine ⟨(takenP w m).1, (takenP w m).2, h.1, h.2, ?_⟩
  exact p_call (p_cons (p_im h0) (p_cons hm p_nil)) (a0_cons (a0_cons a0_nil)) (if_pos ⟨m0, m1⟩)
theorem c_pick {ts : List T} {w : Wr} (h0 : 0 < ts.length) (h1 : ts.length ≤ 1000000) : ∃ (j : Nat) (hj : j < ts.length) (w' : Wr), q__law_pick [.row, .lst ts] w = some (.ok ts[j], w') := by
  have hl : clP lenP (consP (varP 1) nilP) [some (.im 0 .row), some (.im 0 (.lst ts))] w = some (.ok 0 0 (.int ts.length), w) := p_cl (p_cons (p_im rfl) p_nil) rfl
  obtain ⟨r, w', r0, r1, e⟩ := p_taken (ρ := [some (.im 0 .row), some (.im 0 (.lst ts))]) (i := 0) rfl hl (by omega) (by omega)
  obtain ⟨j, rfl⟩ := Int.eq_ofNat_of_zero_le r0
  have hj : j < ts.length := by omega
  refine ⟨j, hj, w', p_def (by simp) ?_⟩
  unfold t__law_pick
  simp only [List.map_cons, List.map_nil, List.length_cons, List.length_nil, List.replicate, List.cons_append, List.nil_append, Nat.reduceAdd, Nat.reduceSub]
  refine p_ret (p_op (k := 0) (fr := 0) (p_im rfl) e ?_)
  unfold ixP
  simp only
  rw [atI_nat (List.getElem?_eq_getElem hj)]
  rfl
theorem p_pick {φl : PFL} {ks : List (Nat × T)} {ts : List T} (h0 : ρ[i]? = some (some (.im 0 .row))) (hl : φl ρ w = some (.ok ks, w)) (ha : args0 ks = some ts) (l0 : 0 < ts.length) (l1 : ts.length ≤ 1000) : ∃ (j : Nat) (hj : j < ts.length) (w' : Wr), callP q__law_pick (consP (varP i) (consP (newLP φl) nilP)) ρ w = some (.ok 0 0 ts[j], w') := by
  obtain ⟨j, hj, w', e⟩ := c_pick (ts := ts) (w := w) l0 (by omega)
  exact ⟨j, hj, w', p_call (p_cons (p_im h0) (p_cons (p_newL hl ha (by omega)) p_nil)) (a0_cons (a0_cons a0_nil)) e⟩
end
def Three (n : Nat) (f : Nat → Nat → Int) : Prop := ∀ y z, y < n → z < n → -3 ≤ f y z ∧ f y z ≤ 3
theorem Three.small {n : Nat} {f : Nat → Nat → Int} (h : Three n f) : Small n f := fun y z hy hz => by
  have := h y z hy hz
  omega
def put2 (f : Nat → Nat → Int) (y z : Nat) (v : Int) : Nat → Nat → Int := setF (setF f y z v) z y (0 - v)
theorem put2_anti {n y z : Nat} {f : Nat → Nat → Int} {v : Int} (h : Anti n f) (hyz : y ≠ z) : Anti n (put2 f y z v) := fun a b hA hB => by
  have := h a b hA hB
  unfold put2 setF
  by_cases h1 : a = z ∧ b = y
  · rw [if_pos h1, if_neg (by omega), if_pos (by omega)]
    omega
  · rw [if_neg h1]
    by_cases h2 : a = y ∧ b = z
    · rw [if_pos h2, if_pos (by omega)]
      omega
    · rw [if_neg h2, if_neg (by omega), if_neg (by omega)]
      exact this
theorem put2_three {n y z : Nat} {f : Nat → Nat → Int} {v : Int} (h : Three n f) (hv : -3 ≤ v ∧ v ≤ 3) : Three n (put2 f y z v) := fun a b hA hB => by
  have := h a b hA hB
  unfold put2 setF
  split
  · omega
  · split <;> omega
/-- the arrows between two nodes, drawn -/
abbrev drS : PFS := condP (opP (cmpP fun i j => decide (i < j)) (varP 4) (conP (.int 2))) (asgP (opP mulP (callP q__law_pick (consP (varP 0) (consP (newLP (consP (conP (.int 0)) (consP (conP (.int 0)) (consP (conP (.int 1)) (consP (opP subP (conP (.int 0)) (conP (.int 1))) nilP))))) nilP))) (opP addP (conP (.int 1)) (callP q__law_taken (consP (varP 0) (consP (varP 2) nilP))))) (nmT 9)) (condP (opP (eqP false) (varP 4) (conP (.int 2))) (asgP (opP mulP (callP q__law_pick (consP (varP 0) (consP (newLP (consP (conP (.int 1)) (consP (opP subP (conP (.int 0)) (conP (.int 1))) nilP))) nilP))) (clP intP (consP (opP (eqP false) (varP 8) (opP subP (varP 7) (conP (.int 1)))) nilP))) (nmT 9)) (condP (opP (eqP false) (varP 4) (conP (.int 3))) (asgP (opP subP (clP intP (consP (opP (eqP false) (varP 8) (opP subP (varP 7) (conP (.int 1)))) nilP)) (clP intP (consP (andP (opP (eqP false) (varP 8) (conP (.int 0))) (andP (opP (eqP false) (varP 7) (opP subP (varP 3) (conP (.int 1)))) (opP (cmpP fun i j => decide (i > j)) (varP 3) (conP (.int 2))))) nilP))) (nmT 9)) endP))
def envW (ms st : Int) (n : Nat) (way : Int) (g : Nat → Nat → Int) (u6 u7 u8 u9 u10 : Option Ev) : En := [some (.im 0 .row), some (.im 0 (.int ms)), some (.im 0 (.int st)), some (.im 0 (.int n)), some (.im 0 (.int way)), some (.ow 2 (tabT n g)), u6, u7, u8, u9, u10]
theorem bool_int {k : Nat} {b : Bool} : ∃ i : Int, (i = 0 ∨ i = 1) ∧ intP [(k, .bl b)] = some (0, 0, .int i) := by
  cases b
  · exact ⟨0, .inl rfl, rfl⟩
  · exact ⟨1, .inr rfl, rfl⟩
theorem draw {ms st : Int} (hs : 1 ≤ st ∧ st ≤ 3) {n z y : Nat} {way : Int} {g : Nat → Nat → Int} {u6 u10 : Option Ev} {v0 : Int} {w : Wr} (h0 : v0 = 0) : ∃ (v : Int) (w' : Wr), -3 ≤ v ∧ v ≤ 3 ∧ drS (envW ms st n way g u6 (some (.im 0 (.int z))) (some (.im 0 (.int y))) (some (.im 0 (.int v0))) u10) w = some (.nx (envW ms st n way g u6 (some (.im 0 (.int z))) (some (.im 0 (.int y))) (some (.im 0 (.int v))) u10), w') := by
  subst h0
  have c1 : opP (cmpP fun i j => decide (i < j)) (varP 4) (conP (.int 2)) (envW ms st n way g u6 (some (.im 0 (.int z))) (some (.im 0 (.int y))) (some (.im 0 (.int 0))) u10) w = some (.ok 0 0 (.bl (decide (way < 2))), w) := by
    unfold envW
    nofun
  have c2 : opP (eqP false) (varP 4) (conP (.int 2)) (envW ms st n way g u6 (some (.im 0 (.int z))) (some (.im 0 (.int y))) (some (.im 0 (.int 0))) u10) w = some (.ok 0 0 (.bl (decide (way = 2))), w) := p_op (p_im rfl) p_con eq_ints
  have c3 : opP (eqP false) (varP 4) (conP (.int 3)) (envW ms st n way g u6 (some (.im 0 (.int z))) (some (.im 0 (.int y))) (some (.im 0 (.int 0))) u10) w = some (.ok 0 0 (.bl (decide (way = 3))), w) := p_op (p_im rfl) p_con eq_ints
  have nx : ∀ w : Wr, ∃ i : Int, (i = 0 ∨ i = 1) ∧ clP intP (consP (opP (eqP false) (varP 8) (opP subP (varP 7) (conP (.int 1)))) nilP) (envW ms st n way g u6 (some (.im 0 (.int z))) (some (.im 0 (.int y))) (some (.im 0 (.int 0))) u10) w = some (.ok 0 0 (.int i), w) := fun w => by
    obtain ⟨i, hi, e⟩ := bool_int (k := 0) (b := decide ((y : Int) = (z : Int) - 1))
    exact ⟨i, hi, p_cl (p_cons (p_op (k := 0) (p_im rfl) (p_op (k := 0) (p_im rfl) p_con rfl) eq_ints) p_nil) e⟩
  by_cases h1 : way < 2
  · rw [decide_eq_true h1] at c1
    obtain ⟨j, hj, w1, e1⟩ := p_pick (ρ := envW ms st n way g u6 (some (.im 0 (.int z))) (some (.im 0 (.int y))) (some (.im 0 (.int 0))) u10) (i := 0) (w := w) (φl := (consP (conP (.int 0)) (consP (conP (.int 0)) (consP (conP (.int 1)) (consP (opP subP (conP (.int 0)) (conP (.int 1))) nilP))))) (ts := [.int 0, .int 0, .int 1, .int (0 - 1)]) rfl (p_cons p_con (p_cons p_con (p_cons p_con (p_cons (p_op p_con p_con rfl) p_nil)))) rfl (by simp) (by simp)
    obtain ⟨r, w2, r0, r1, e2⟩ := p_taken (ρ := envW ms st n way g u6 (some (.im 0 (.int z))) (some (.im 0 (.int y))) (some (.im 0 (.int 0))) u10) (i := 0) (w := w1) (φ := varP 2) (m := st) rfl (p_im rfl) (by omega) (by omega)
    have hp : ∃ p : Int, (p = 0 ∨ p = 1 ∨ p = -1) ∧ ([T.int 0, .int 0, .int 1, .int (0 - 1)])[j] = .int p := by
      have : j = 0 ∨ j = 1 ∨ j = 2 ∨ j = 3 := by simp at hj; omega
      rcases this with rfl | rfl | rfl | rfl
      · exact ⟨0, by simp, rfl⟩
      · exact ⟨0, by simp, rfl⟩
      · exact ⟨1, by simp, rfl⟩
      · exact ⟨-1, by simp, rfl⟩
    obtain ⟨p, hp, ep⟩ := hp
    rw [ep] at e1
    refine ⟨p * (1 + r), w2, ?_, ?_, p_cond c1 (cc_t (p_asgN (p_op e1 (p_op p_con e2 rfl) (mul_small (by omega) (by omega))) rfl))⟩
    · rcases hp with rfl | rfl | rfl <;> omega
    · rcases hp with rfl | rfl | rfl <;> omega
  · rw [decide_eq_false h1] at c1
    by_cases h2 : way = 2
    · rw [decide_eq_true h2] at c2
      obtain ⟨j, hj, w1, e1⟩ := p_pick (ρ := envW ms st n way g u6 (some (.im 0 (.int z))) (some (.im 0 (.int y))) (some (.im 0 (.int 0))) u10) (i := 0) (w := w) (φl := (consP (conP (.int 1)) (consP (opP subP (conP (.int 0)) (conP (.int 1))) nilP))) (ts := [.int 1, .int (0 - 1)]) rfl (p_cons p_con (p_cons (p_op p_con p_con rfl) p_nil)) rfl (by simp) (by simp)
      obtain ⟨i, hi, e2⟩ := nx w1
      have hp : ∃ p : Int, (p = 1 ∨ p = -1) ∧ ([T.int 1, .int (0 - 1)])[j] = .int p := by
        have : j = 0 ∨ j = 1 := by simp at hj; omega
        rcases this with rfl | rfl
        · exact ⟨1, by simp, rfl⟩
        · exact ⟨-1, by simp, rfl⟩
      obtain ⟨p, hp, ep⟩ := hp
      rw [ep] at e1
      refine ⟨p * i, w1, ?_, ?_, p_cond c1 (cc_f (p_cond c2 (cc_t (p_asgN (p_op e1 e2 (mul_small (by omega) (by omega))) rfl))))⟩
      · rcases hp with rfl | rfl <;> rcases hi with rfl | rfl <;> omega
      · rcases hp with rfl | rfl <;> rcases hi with rfl | rfl <;> omega
    · rw [decide_eq_false h2] at c2
      by_cases h3 : way = 3
      · rw [decide_eq_true h3] at c3
        obtain ⟨i, hi, e2⟩ := nx w
        have a1 : ∃ b, andP (opP (eqP false) (varP 8) (conP (.int 0))) (andP (opP (eqP false) (varP 7) (opP subP (varP 3) (conP (.int 1)))) (opP (cmpP fun i j => decide (i > j)) (varP 3) (conP (.int 2)))) (envW ms st n way g u6 (some (.im 0 (.int z))) (some (.im 0 (.int y))) (some (.im 0 (.int 0))) u10) w = some (.ok 0 0 (.bl b), w) := ⟨_, p_andB (k2 := 0) (fr2 := 0) (k := 0) (fr := 0) (p_op (p_im rfl) p_con eq_ints) (fun _ => p_andB (k2 := 0) (fr2 := 0) (k := 0) (fr := 0) (p_op (k := 0) (p_im rfl) (p_op (k := 0) (p_im rfl) p_con rfl) eq_ints) (fun _ => p_op (p_im rfl) p_con rfl))⟩
        obtain ⟨b, a1⟩ := a1
        obtain ⟨j, hj, e3⟩ := bool_int (k := 0) (b := b)
        refine ⟨i - j, w, by omega, by omega, p_cond c1 (cc_f (p_cond c2 (cc_f (p_cond c3 (cc_t (p_asgN (p_op e2 (p_cl (p_cons a1 p_nil) e3) rfl) rfl))))))⟩
      · rw [decide_eq_false h3] at c3
        exact ⟨0, w, by omega, by omega, p_cond c1 (cc_f (p_cond c2 (cc_f (p_cond c3 (cc_f p_end)))))⟩
theorem for_invG {τ : PT} {β : PFS} {ρ : En} {w : Wr} {n : Nat} {G : Nat → T} {Inv : Nat → En → Wr → Prop} (h0 : Inv 0 ρ w) (hs : ∀ i ρ w, i < n → Inv i ρ w → ∃ ρ1 w1 ρ2 w2, τ 0 0 (G i) ρ w = some (ρ1, w1) ∧ β ρ1 w1 = some (.nx ρ2, w2) ∧ Inv (i + 1) ρ2 w2) : ∃ ρ' w', forGoP τ β ((List.range n).map G) ρ w = some (.nx ρ', w') ∧ Inv n ρ' w' := by
  have := for_list (G := G) (τ := τ) (β := β) n 0 ρ w (fun i ρ w h1 _ => hs i ρ w (by omega)) h0
  rw [Nat.zero_add, ← List.range_eq_range'] at this
  exact this
abbrev stS : PFS := asgP (newTP (consP (varP 9) (consP (opP subP (conP (.int 0)) (varP 9)) nilP))) (tuT 2 (coM (st2 5 (varP 8) (varP 7)) (coM (st2 5 (varP 7) (varP 8)) niT)))
theorem envW_clr {ms st : Int} {n : Nat} {way : Int} {g : Nat → Nat → Int} {u6 u7 u8 u9 u10 : Option Ev} (h6 : clean u6) (h7 : clean u7) (h8 : clean u8) (h9 : clean u9) (h10 : clean u10) : (envW ms st n way g u6 u7 u8 u9 u10).map clr = envW ms st n way g u6 u7 u8 u9 u10 := by
  unfold envW
  simp only [List.map_cons, List.map_nil]
  rw [h6, h7, h8, h9, h10]
  rfl
theorem store {ms st : Int} {n z y : Nat} {way : Int} {g : Nat → Nat → Int} {u6 u10 : Option Ev} {v : Int} {w : Wr} (hy : y < n) (hz : z < n) (h6 : clean u6) (h10 : clean u10) : stS (envW ms st n way g u6 (some (.im 0 (.int z))) (some (.im 0 (.int y))) (some (.im 0 (.int v))) u10) w = some (.nx (envW ms st n way (put2 g y z v) u6 (some (.im 0 (.int z))) (some (.im 0 (.int y))) (some (.im 0 (.int v))) u10), w) :=
  two_put (envW_clr h6 clean_im clean_im clean_im h10) rfl rfl rfl hy hz (p_im rfl) (p_op p_con (p_im rfl) rfl)
abbrev inS : PFS := seqP (asgP (conP (.int 0)) (nmT 9)) (seqP drS stS)
def WebI (ms st : Int) (n : Nat) (way : Int) (u6 u10 : Option Ev) (ρ : En) : Prop := ∃ g u7 u8 u9, clean u7 ∧ clean u8 ∧ clean u9 ∧ Anti n g ∧ Three n g ∧ ρ = envW ms st n way g u6 u7 u8 u9 u10
theorem inner_go {ms st : Int} (hs : 1 ≤ st ∧ st ≤ 3) {n z : Nat} {way : Int} {g : Nat → Nat → Int} {u6 u8 u9 u10 : Option Ev} {w : Wr} (hn : n ≤ 1000) (hz : z < n) (h6 : clean u6) (h8 : clean u8) (h9 : clean u9) (h10 : clean u10) (ha : Anti n g) (ht : Three n g) : ∃ ρ' w', forP (rg1IP (consP (varP 7) nilP)) (nmT 8) inS (envW ms st n way g u6 (some (.im 0 (.int z))) u8 u9 u10) w = some (.nx ρ', w') ∧ WebI ms st n way u6 u10 ρ' := by
  obtain ⟨ρ', w', e, g', v8, v9, d8, d9, da, dt, hρ⟩ := for_inv (n := z) (τ := nmT 8) (β := inS) (ρ := envW ms st n way g u6 (some (.im 0 (.int z))) u8 u9 u10) (w := w) (Inv := fun j ρ w' => ∃ g u8 u9, clean u8 ∧ clean u9 ∧ Anti n g ∧ Three n g ∧ ρ = envW ms st n way g u6 (some (.im 0 (.int z))) u8 u9 u10) ⟨g, u8, u9, h8, h9, ha, ht, rfl⟩ (fun y ρ w hy ⟨g, u8, u9, d8, d9, da, dt, hρ⟩ => by
    subst hρ
    obtain ⟨v, w1, v0, v1, e1⟩ := draw (ms := ms) hs (n := n) (z := z) (y := y) (way := way) (g := g) (u6 := u6) (u10 := u10) (v0 := 0) (w := w) rfl
    refine ⟨envW ms st n way g u6 (some (.im 0 (.int z))) (some (.im 0 (.int y))) u9 u10, w, envW ms st n way (put2 g y z v) u6 (some (.im 0 (.int z))) (some (.im 0 (.int y))) (some (.im 0 (.int v))) u10, w1, rfl, ?_, _, _, _, clean_im, clean_im, put2_anti da (by omega), put2_three dt ⟨v0, v1⟩, rfl⟩
    exact p_seq (p_asgN p_con rfl) (cs_nx (p_seq e1 (cs_nx (store (by omega) hz h6 h10)))))
  subst hρ
  exact ⟨_, w', p_for (p_rg (p_cons (p_im rfl) p_nil) (by omega)) e, g', _, v8, v9, clean_im, d8, d9, da, dt, rfl⟩
theorem p_rg2 {ρ : En} {w w1 : Wr} {φl : PFL} {k k' n : Nat} (h : φl ρ w = some (.ok [(k, .int 1), (k', .int ((n : Nat) : Int))], w1)) (hn : n ≤ 1000000) (h1 : 1 ≤ n) : rg2IP φl ρ w = some (.ok 0 ((List.range (n - 1)).map fun i => T.int (((1 + i : Nat) : Int))), w1) := by
  unfold rg2IP
  rw [h]
  simp only
  rw [if_pos]
  · unfold rngT
    rw [show ((n : Int) - 1).toNat = n - 1 by omega]
    congr 4
  · unfold inBd
    rw [decide_eq_true (by omega), decide_eq_true (by omega), decide_eq_true (by omega), decide_eq_true (by omega)]
    rfl
theorem outer_go {ms st : Int} (hs : 1 ≤ st ∧ st ≤ 3) {n : Nat} {way : Int} {u6 u10 : Option Ev} {ρ : En} {w : Wr} (h1 : 1 ≤ n) (hn : n ≤ 1000) (h6 : clean u6) (h10 : clean u10) (H : WebI ms st n way u6 u10 ρ) : ∃ ρ' w', forP (rg2IP (consP (conP (.int 1)) (consP (varP 3) nilP))) (nmT 7) (forP (rg1IP (consP (varP 7) nilP)) (nmT 8) inS) ρ w = some (.nx ρ', w') ∧ WebI ms st n way u6 u10 ρ' := by
  obtain ⟨ρ', w', e, H'⟩ := for_invG (n := n - 1) (G := fun i => T.int (((1 + i : Nat) : Int))) (τ := nmT 7) (β := forP (rg1IP (consP (varP 7) nilP)) (nmT 8) inS) (ρ := ρ) (w := w) (Inv := fun j ρ w' => WebI ms st n way u6 u10 ρ) H (fun i ρ w hi ⟨g, u7, u8, u9, d7, d8, d9, da, dt, hρ⟩ => by
    subst hρ
    obtain ⟨ρ2, w2, e2, H2⟩ := inner_go (ms := ms) hs (n := n) (z := 1 + i) (way := way) (g := g) (u6 := u6) (u8 := u8) (u9 := u9) (u10 := u10) (w := w) hn (by omega) h6 d8 d9 h10 da dt
    exact ⟨envW ms st n way g u6 (some (.im 0 (.int (1 + i : Nat)))) u8 u9 u10, w, ρ2, w2, rfl, e2, H2⟩)
  obtain ⟨g, u7, u8, u9, d7, d8, d9, da, dt, hρ⟩ := H
  subst hρ
  exact ⟨ρ', w', p_for (p_rg2 (p_cons p_con (p_cons (p_im rfl) p_nil)) (by omega) h1) e, H'⟩
abbrev trS : PFS := seqP (parP 0 8 9 (callP q__law_taken (consP (varP 0) (consP (varP 7) nilP))) (callP q__law_pick (consP (varP 0) (consP (newLP (consP (conP (.int 1)) (consP (opP subP (conP (.int 0)) (conP (.int 1))) nilP))) nilP)))) stS
theorem tree_go {ms st : Int} {n : Nat} {way : Int} {u6 u10 : Option Ev} {ρ : En} {w : Wr} (h1 : 1 ≤ n) (hn : n ≤ 1000) (h6 : clean u6) (h10 : clean u10) (H : WebI ms st n way u6 u10 ρ) : ∃ ρ' w', forP (rg2IP (consP (conP (.int 1)) (consP (varP 3) nilP))) (nmT 7) trS ρ w = some (.nx ρ', w') ∧ WebI ms st n way u6 u10 ρ' := by
  obtain ⟨ρ', w', e, H'⟩ := for_invG (n := n - 1) (G := fun i => T.int (((1 + i : Nat) : Int))) (τ := nmT 7) (β := trS) (ρ := ρ) (w := w) (Inv := fun j ρ w' => WebI ms st n way u6 u10 ρ) H (fun i ρ w hi ⟨g, u7, u8, u9, d7, d8, d9, da, dt, hρ⟩ => by
    subst hρ
    obtain ⟨r, w1, r0, r1, e1⟩ := p_taken (ρ := envW ms st n way g u6 (some (.im 0 (.int (1 + i : Nat)))) u8 u9 u10) (i := 0) (w := w) (φ := varP 7) (m := (1 + i : Nat)) rfl (p_im rfl) (by omega) (by omega)
    obtain ⟨y, rfl⟩ := Int.eq_ofNat_of_zero_le r0
    obtain ⟨j, hj, w2, e2⟩ := p_pick (ρ := envW ms st n way g u6 (some (.im 0 (.int (1 + i : Nat)))) u8 u9 u10) (i := 0) (w := w1) (φl := (consP (conP (.int 1)) (consP (opP subP (conP (.int 0)) (conP (.int 1))) nilP))) (ts := [.int 1, .int (0 - 1)]) rfl (p_cons p_con (p_cons (p_op p_con p_con rfl) p_nil)) rfl (by simp) (by simp)
    have hp : ∃ p : Int, (p = 1 ∨ p = -1) ∧ ([T.int 1, .int (0 - 1)])[j] = .int p := by
      have : j = 0 ∨ j = 1 := by simp at hj; omega
      rcases this with rfl | rfl
      · exact ⟨1, by simp, rfl⟩
      · exact ⟨-1, by simp, rfl⟩
    obtain ⟨p, hp, ep⟩ := hp
    rw [ep] at e2
    refine ⟨envW ms st n way g u6 (some (.im 0 (.int (1 + i : Nat)))) u8 u9 u10, w, envW ms st n way (put2 g y (1 + i) p) u6 (some (.im 0 (.int (1 + i : Nat)))) (some (.im 0 (.int y))) (some (.im 0 (.int p))) u10, w2, rfl, ?_, _, _, _, _, clean_im, clean_im, clean_im, put2_anti da (by omega), put2_three dt (by omega), rfl⟩
    refine p_seq (x := .nx (envW ms st n way g u6 (some (.im 0 (.int (1 + i : Nat)))) (some (.im 0 (.int y))) (some (.im 0 (.int p))) u10)) (w1 := w2) ?_ (cs_nx (store (by omega) (by omega) h6 h10))
    unfold parP
    rw [e1]
    simp only
    rw [e2]
    rfl)
  obtain ⟨g, u7, u8, u9, d7, d8, d9, da, dt, hρ⟩ := H
  subst hρ
  exact ⟨ρ', w', p_for (p_rg2 (p_cons p_con (p_cons (p_im rfl) p_nil)) (by omega) h1) e, H'⟩
theorem c_law_web {ms st : Int} (hm : 1 ≤ ms ∧ ms ≤ 6) (hs : 1 ≤ st ∧ st ≤ 3) {w : Wr} : ∃ (n : Nat) (f : Nat → Nat → Int) (w' : Wr), 1 ≤ n ∧ (n : Int) ≤ ms ∧ Anti n f ∧ Three n f ∧ q__law_web [.row, .int ms, .int st] w = some (.ok (webT n f), w') := by
  obtain ⟨r, w1, r0, r1, e1⟩ := p_taken (ρ := [some (.im 0 .row), some (.im 0 (.int ms)), some (.im 0 (.int st)), none, none, none, none, none, none, none, none]) (i := 0) (w := w) (φ := varP 1) (m := ms) rfl (p_im rfl) (by omega) (by omega)
  obtain ⟨n0, rfl⟩ := Int.eq_ofNat_of_zero_le r0
  obtain ⟨way, w2, y0, y1, e2⟩ := p_taken (ρ := [some (.im 0 .row), some (.im 0 (.int ms)), some (.im 0 (.int st)), none, none, none, none, none, none, none, none]) (i := 0) (w := w1) (φ := conP (.int 5)) (m := 5) rfl p_con (by omega) (by omega)
  have en : (1 : Int) + (n0 : Nat) = ((1 + n0 : Nat) : Int) := by omega
  have hn5 : ((1 + n0 : Nat) : Int) ≤ ms := by omega
  have s1 : asgP (newTP (consP (opP addP (conP (.int 1)) (callP q__law_taken (consP (varP 0) (consP (varP 1) nilP)))) (consP (callP q__law_taken (consP (varP 0) (consP (conP (.int 5)) nilP))) nilP))) (tuT 2 (coN 3 (coN 4 niT))) [some (.im 0 .row), some (.im 0 (.int ms)), some (.im 0 (.int st)), none, none, none, none, none, none, none, none] w = some (.nx [some (.im 0 .row), some (.im 0 (.int ms)), some (.im 0 (.int st)), some (.im 0 (.int (1 + n0 : Nat))), some (.im 0 (.int way)), none, none, none, none, none, none], w2) := by
    refine p_asg (p_newT (p_cons (p_op (k := 0) (fr := 0) p_con e1 rfl) (p_cons e2 p_nil)) (a0_cons (a0_cons a0_nil)) (Nat.le_of_ble_eq_true rfl)) ?_
    rw [← en]
    rfl
  generalize hN : 1 + n0 = n at *
  have s2 : asgP (lcTP (rg1IP (consP (varP 3) nilP)) (nmX 6) [6] (opP mulP (newLP (consP (conP (.int 0)) nilP)) (varP 3))) (nmO 5) [some (.im 0 .row), some (.im 0 (.int ms)), some (.im 0 (.int st)), some (.im 0 (.int n)), some (.im 0 (.int way)), none, none, none, none, none, none] w2 = some (.nx (envW ms st n way (fun _ _ => 0) none none none none none), w2) := by
    refine p_asgO (fr := 1) (k := 0) (t := tabT n fun _ _ => 0) (p_lcT (xs := List.range n) (G := fun i => T.int ((i : Nat) : Int)) (p_rg (p_cons (p_im rfl) p_nil) (by omega)) (fun y hy => ⟨_, 0, rfl, ?_⟩) (by simp; omega)) (by simp) rfl
    refine p_op (p_newL (p_cons p_con p_nil) (a0_cons a0_nil) (Nat.le_of_ble_eq_true rfl)) (p_im rfl) ?_
    rw [zeros (by omega), if_pos (by omega)]
    rfl
  obtain ⟨ρ3, w3, s3, H3⟩ := outer_go (ms := ms) (st := st) hs (n := n) (way := way) (u6 := none) (u10 := none) (ρ := envW ms st n way (fun _ _ => 0) none none none none none) (w := w2) (by omega) (by omega) rfl rfl ⟨_, _, _, _, clean_none, clean_none, clean_none, fun y z _ _ => (by simp), fun y z _ _ => (by simp), rfl⟩
  have c4 : ∀ g u7 u8 u9 w, opP (eqP false) (varP 4) (conP (.int 4)) (envW ms st n way g none u7 u8 u9 none) w = some (.ok 0 0 (.bl (decide (way = 4))), w) := fun g u7 u8 u9 w => p_op (p_im rfl) p_con eq_ints
  have s4 : ∃ ρ4 w4, condP (opP (eqP false) (varP 4) (conP (.int 4))) (forP (rg2IP (consP (conP (.int 1)) (consP (varP 3) nilP))) (nmT 7) trS) endP ρ3 w3 = some (.nx ρ4, w4) ∧ WebI ms st n way none none ρ4 := by
    obtain ⟨ρ4, w4, s4, H4⟩ := tree_go (w := w3) (by omega) (by omega) clean_none clean_none H3
    obtain ⟨g, u7, u8, u9, d7, d8, d9, da, dt, hρ⟩ := H3
    subst hρ
    have c := c4 g u7 u8 u9 w3
    by_cases h4 : way = 4
    · rw [decide_eq_true h4] at c
      exact ⟨ρ4, w4, p_cond c (cc_t s4), H4⟩
    · rw [decide_eq_false h4] at c
      exact ⟨_, w3, p_cond c (cc_f p_end), g, u7, u8, u9, d7, d8, d9, da, dt, rfl⟩
  obtain ⟨ρ4, w4, s4, g, u7, u8, u9, d7, d8, d9, da, dt, hρ⟩ := s4
  subst hρ
  refine ⟨n, g, w4, by omega, hn5, da, dt, p_def (by simp) ?_⟩
  unfold t__law_web
  simp only [List.map_cons, List.map_nil, List.length_cons, List.length_nil, List.replicate, List.cons_append, List.nil_append, Nat.reduceAdd, Nat.reduceSub]
  exact p_seq s1 (cs_nx (p_seq s2 (cs_nx (p_seq s3 (cs_nx (p_seq s4 (cs_nx (p_ret (freeze (i := 5) (j := 10) rfl (by unfold envW; simp) (by omega))))))))))
end Law
set_option maxRecDepth 100000
set_option maxHeartbeats 4000000
namespace Law
open PySem L2 Vai
abbrev Im (t : T) : Option Ev := some (.im 0 t)
def eK (web n x y due lines a small line starts turns many now : Option Ev) : En := [none, Im .row, web, n, x, y, due, lines, a, small, line, starts, turns, many, now]
abbrev tu8 : PT := tuT 2 (coM (st2 7 (varP 4) (varP 5)) (coM (st2 7 (varP 5) (varP 4)) niT))
def sgT (s : Int) : T := .tup false [.int s, .int (0 - s)]
/-- from the lines on, the sign of the arrows told -/
def restK (s : Int) : PFS := seqP (asgP (conP (sgT s)) tu8) (seqP sk_9 (seqP sk_10 (seqP sk_11 sk_12)))
def envT (web due : Option Ev) (n x y : Nat) : En := eK web (Im (.int n)) (Im (.int x)) (Im (.int y)) due (some (.ow 2 (tabT n fun _ _ => 0))) none none none none none none none
end Law
set_option maxRecDepth 100000
set_option maxHeartbeats 4000000
namespace Law
open PySem L2 Vai
section
variable {w : Wr} {web due : Option Ev} {s : Int}
theorem r_2_0_1 (h : s = 0 ∨ s = 1 ∨ s = -1) : restK s (envT web due 2 0 1) w = some (.rt (.bl true), w) := by rcases h with rfl | rfl | rfl <;> kernel_rfl
theorem r_2_1_0 (h : s = 0 ∨ s = 1 ∨ s = -1) : restK s (envT web due 2 1 0) w = some (.rt (.bl true), w) := by rcases h with rfl | rfl | rfl <;> kernel_rfl
theorem r_3_0_1 (h : s = 0 ∨ s = 1 ∨ s = -1) : restK s (envT web due 3 0 1) w = some (.rt (.bl true), w) := by rcases h with rfl | rfl | rfl <;> kernel_rfl
theorem r_3_0_2 (h : s = 0 ∨ s = 1 ∨ s = -1) : restK s (envT web due 3 0 2) w = some (.rt (.bl true), w) := by rcases h with rfl | rfl | rfl <;> kernel_rfl
theorem r_3_1_0 (h : s = 0 ∨ s = 1 ∨ s = -1) : restK s (envT web due 3 1 0) w = some (.rt (.bl true), w) := by rcases h with rfl | rfl | rfl <;> kernel_rfl
theorem r_3_1_2 (h : s = 0 ∨ s = 1 ∨ s = -1) : restK s (envT web due 3 1 2) w = some (.rt (.bl true), w) := by rcases h with rfl | rfl | rfl <;> kernel_rfl
theorem r_3_2_0 (h : s = 0 ∨ s = 1 ∨ s = -1) : restK s (envT web due 3 2 0) w = some (.rt (.bl true), w) := by rcases h with rfl | rfl | rfl <;> kernel_rfl
theorem r_3_2_1 (h : s = 0 ∨ s = 1 ∨ s = -1) : restK s (envT web due 3 2 1) w = some (.rt (.bl true), w) := by rcases h with rfl | rfl | rfl <;> kernel_rfl
theorem r_4_0_1 (h : s = 0 ∨ s = 1 ∨ s = -1) : restK s (envT web due 4 0 1) w = some (.rt (.bl true), w) := by rcases h with rfl | rfl | rfl <;> kernel_rfl
theorem r_4_0_2 (h : s = 0 ∨ s = 1 ∨ s = -1) : restK s (envT web due 4 0 2) w = some (.rt (.bl true), w) := by rcases h with rfl | rfl | rfl <;> kernel_rfl
theorem r_4_0_3 (h : s = 0 ∨ s = 1 ∨ s = -1) : restK s (envT web due 4 0 3) w = some (.rt (.bl true), w) := by rcases h with rfl | rfl | rfl <;> kernel_rfl
theorem r_4_1_0 (h : s = 0 ∨ s = 1 ∨ s = -1) : restK s (envT web due 4 1 0) w = some (.rt (.bl true), w) := by rcases h with rfl | rfl | rfl <;> kernel_rfl
theorem r_4_1_2 (h : s = 0 ∨ s = 1 ∨ s = -1) : restK s (envT web due 4 1 2) w = some (.rt (.bl true), w) := by rcases h with rfl | rfl | rfl <;> kernel_rfl
theorem r_4_1_3 (h : s = 0 ∨ s = 1 ∨ s = -1) : restK s (envT web due 4 1 3) w = some (.rt (.bl true), w) := by rcases h with rfl | rfl | rfl <;> kernel_rfl
theorem r_4_2_0 (h : s = 0 ∨ s = 1 ∨ s = -1) : restK s (envT web due 4 2 0) w = some (.rt (.bl true), w) := by rcases h with rfl | rfl | rfl <;> kernel_rfl
theorem r_4_2_1 (h : s = 0 ∨ s = 1 ∨ s = -1) : restK s (envT web due 4 2 1) w = some (.rt (.bl true), w) := by rcases h with rfl | rfl | rfl <;> kernel_rfl
theorem r_4_2_3 (h : s = 0 ∨ s = 1 ∨ s = -1) : restK s (envT web due 4 2 3) w = some (.rt (.bl true), w) := by rcases h with rfl | rfl | rfl <;> kernel_rfl
theorem r_4_3_0 (h : s = 0 ∨ s = 1 ∨ s = -1) : restK s (envT web due 4 3 0) w = some (.rt (.bl true), w) := by rcases h with rfl | rfl | rfl <;> kernel_rfl
theorem r_4_3_1 (h : s = 0 ∨ s = 1 ∨ s = -1) : restK s (envT web due 4 3 1) w = some (.rt (.bl true), w) := by rcases h with rfl | rfl | rfl <;> kernel_rfl
theorem r_4_3_2 (h : s = 0 ∨ s = 1 ∨ s = -1) : restK s (envT web due 4 3 2) w = some (.rt (.bl true), w) := by rcases h with rfl | rfl | rfl <;> kernel_rfl
end
end Law
set_option maxRecDepth 100000
set_option maxHeartbeats 4000000
namespace Law
open PySem L2 Vai
section
variable {w : Wr} {web due : Option Ev} {s : Int}
theorem r_5_0_1 (h : s = 0 ∨ s = 1 ∨ s = -1) : restK s (envT web due 5 0 1) w = some (.rt (.bl true), w) := by rcases h with rfl | rfl | rfl <;> kernel_rfl
theorem r_5_0_2 (h : s = 0 ∨ s = 1 ∨ s = -1) : restK s (envT web due 5 0 2) w = some (.rt (.bl true), w) := by rcases h with rfl | rfl | rfl <;> kernel_rfl
theorem r_5_0_3 (h : s = 0 ∨ s = 1 ∨ s = -1) : restK s (envT web due 5 0 3) w = some (.rt (.bl true), w) := by rcases h with rfl | rfl | rfl <;> kernel_rfl
theorem r_5_0_4 (h : s = 0 ∨ s = 1 ∨ s = -1) : restK s (envT web due 5 0 4) w = some (.rt (.bl true), w) := by rcases h with rfl | rfl | rfl <;> kernel_rfl
theorem r_5_1_0 (h : s = 0 ∨ s = 1 ∨ s = -1) : restK s (envT web due 5 1 0) w = some (.rt (.bl true), w) := by rcases h with rfl | rfl | rfl <;> kernel_rfl
theorem r_5_1_2 (h : s = 0 ∨ s = 1 ∨ s = -1) : restK s (envT web due 5 1 2) w = some (.rt (.bl true), w) := by rcases h with rfl | rfl | rfl <;> kernel_rfl
theorem r_5_1_3 (h : s = 0 ∨ s = 1 ∨ s = -1) : restK s (envT web due 5 1 3) w = some (.rt (.bl true), w) := by rcases h with rfl | rfl | rfl <;> kernel_rfl
theorem r_5_1_4 (h : s = 0 ∨ s = 1 ∨ s = -1) : restK s (envT web due 5 1 4) w = some (.rt (.bl true), w) := by rcases h with rfl | rfl | rfl <;> kernel_rfl
theorem r_5_2_0 (h : s = 0 ∨ s = 1 ∨ s = -1) : restK s (envT web due 5 2 0) w = some (.rt (.bl true), w) := by rcases h with rfl | rfl | rfl <;> kernel_rfl
theorem r_5_2_1 (h : s = 0 ∨ s = 1 ∨ s = -1) : restK s (envT web due 5 2 1) w = some (.rt (.bl true), w) := by rcases h with rfl | rfl | rfl <;> kernel_rfl
theorem r_5_2_3 (h : s = 0 ∨ s = 1 ∨ s = -1) : restK s (envT web due 5 2 3) w = some (.rt (.bl true), w) := by rcases h with rfl | rfl | rfl <;> kernel_rfl
theorem r_5_2_4 (h : s = 0 ∨ s = 1 ∨ s = -1) : restK s (envT web due 5 2 4) w = some (.rt (.bl true), w) := by rcases h with rfl | rfl | rfl <;> kernel_rfl
theorem r_5_3_0 (h : s = 0 ∨ s = 1 ∨ s = -1) : restK s (envT web due 5 3 0) w = some (.rt (.bl true), w) := by rcases h with rfl | rfl | rfl <;> kernel_rfl
theorem r_5_3_1 (h : s = 0 ∨ s = 1 ∨ s = -1) : restK s (envT web due 5 3 1) w = some (.rt (.bl true), w) := by rcases h with rfl | rfl | rfl <;> kernel_rfl
theorem r_5_3_2 (h : s = 0 ∨ s = 1 ∨ s = -1) : restK s (envT web due 5 3 2) w = some (.rt (.bl true), w) := by rcases h with rfl | rfl | rfl <;> kernel_rfl
theorem r_5_3_4 (h : s = 0 ∨ s = 1 ∨ s = -1) : restK s (envT web due 5 3 4) w = some (.rt (.bl true), w) := by rcases h with rfl | rfl | rfl <;> kernel_rfl
theorem r_5_4_0 (h : s = 0 ∨ s = 1 ∨ s = -1) : restK s (envT web due 5 4 0) w = some (.rt (.bl true), w) := by rcases h with rfl | rfl | rfl <;> kernel_rfl
theorem r_5_4_1 (h : s = 0 ∨ s = 1 ∨ s = -1) : restK s (envT web due 5 4 1) w = some (.rt (.bl true), w) := by rcases h with rfl | rfl | rfl <;> kernel_rfl
theorem r_5_4_2 (h : s = 0 ∨ s = 1 ∨ s = -1) : restK s (envT web due 5 4 2) w = some (.rt (.bl true), w) := by rcases h with rfl | rfl | rfl <;> kernel_rfl
theorem r_5_4_3 (h : s = 0 ∨ s = 1 ∨ s = -1) : restK s (envT web due 5 4 3) w = some (.rt (.bl true), w) := by rcases h with rfl | rfl | rfl <;> kernel_rfl
end
end Law
set_option maxRecDepth 100000
set_option maxHeartbeats 4000000
namespace Law
open PySem L2 Vai
section
variable {w : Wr} {web due : Option Ev} {s : Int}
theorem r_6_0_1 (h : s = 0 ∨ s = 1 ∨ s = -1) : restK s (envT web due 6 0 1) w = some (.rt (.bl true), w) := by rcases h with rfl | rfl | rfl <;> kernel_rfl
theorem r_6_0_2 (h : s = 0 ∨ s = 1 ∨ s = -1) : restK s (envT web due 6 0 2) w = some (.rt (.bl true), w) := by rcases h with rfl | rfl | rfl <;> kernel_rfl
theorem r_6_0_3 (h : s = 0 ∨ s = 1 ∨ s = -1) : restK s (envT web due 6 0 3) w = some (.rt (.bl true), w) := by rcases h with rfl | rfl | rfl <;> kernel_rfl
theorem r_6_0_4 (h : s = 0 ∨ s = 1 ∨ s = -1) : restK s (envT web due 6 0 4) w = some (.rt (.bl true), w) := by rcases h with rfl | rfl | rfl <;> kernel_rfl
theorem r_6_0_5 (h : s = 0 ∨ s = 1 ∨ s = -1) : restK s (envT web due 6 0 5) w = some (.rt (.bl true), w) := by rcases h with rfl | rfl | rfl <;> kernel_rfl
theorem r_6_1_0 (h : s = 0 ∨ s = 1 ∨ s = -1) : restK s (envT web due 6 1 0) w = some (.rt (.bl true), w) := by rcases h with rfl | rfl | rfl <;> kernel_rfl
theorem r_6_1_2 (h : s = 0 ∨ s = 1 ∨ s = -1) : restK s (envT web due 6 1 2) w = some (.rt (.bl true), w) := by rcases h with rfl | rfl | rfl <;> kernel_rfl
theorem r_6_1_3 (h : s = 0 ∨ s = 1 ∨ s = -1) : restK s (envT web due 6 1 3) w = some (.rt (.bl true), w) := by rcases h with rfl | rfl | rfl <;> kernel_rfl
theorem r_6_1_4 (h : s = 0 ∨ s = 1 ∨ s = -1) : restK s (envT web due 6 1 4) w = some (.rt (.bl true), w) := by rcases h with rfl | rfl | rfl <;> kernel_rfl
theorem r_6_1_5 (h : s = 0 ∨ s = 1 ∨ s = -1) : restK s (envT web due 6 1 5) w = some (.rt (.bl true), w) := by rcases h with rfl | rfl | rfl <;> kernel_rfl
theorem r_6_2_0 (h : s = 0 ∨ s = 1 ∨ s = -1) : restK s (envT web due 6 2 0) w = some (.rt (.bl true), w) := by rcases h with rfl | rfl | rfl <;> kernel_rfl
theorem r_6_2_1 (h : s = 0 ∨ s = 1 ∨ s = -1) : restK s (envT web due 6 2 1) w = some (.rt (.bl true), w) := by rcases h with rfl | rfl | rfl <;> kernel_rfl
theorem r_6_2_3 (h : s = 0 ∨ s = 1 ∨ s = -1) : restK s (envT web due 6 2 3) w = some (.rt (.bl true), w) := by rcases h with rfl | rfl | rfl <;> kernel_rfl
theorem r_6_2_4 (h : s = 0 ∨ s = 1 ∨ s = -1) : restK s (envT web due 6 2 4) w = some (.rt (.bl true), w) := by rcases h with rfl | rfl | rfl <;> kernel_rfl
theorem r_6_2_5 (h : s = 0 ∨ s = 1 ∨ s = -1) : restK s (envT web due 6 2 5) w = some (.rt (.bl true), w) := by rcases h with rfl | rfl | rfl <;> kernel_rfl
theorem r_6_3_0 (h : s = 0 ∨ s = 1 ∨ s = -1) : restK s (envT web due 6 3 0) w = some (.rt (.bl true), w) := by rcases h with rfl | rfl | rfl <;> kernel_rfl
theorem r_6_3_1 (h : s = 0 ∨ s = 1 ∨ s = -1) : restK s (envT web due 6 3 1) w = some (.rt (.bl true), w) := by rcases h with rfl | rfl | rfl <;> kernel_rfl
theorem r_6_3_2 (h : s = 0 ∨ s = 1 ∨ s = -1) : restK s (envT web due 6 3 2) w = some (.rt (.bl true), w) := by rcases h with rfl | rfl | rfl <;> kernel_rfl
theorem r_6_3_4 (h : s = 0 ∨ s = 1 ∨ s = -1) : restK s (envT web due 6 3 4) w = some (.rt (.bl true), w) := by rcases h with rfl | rfl | rfl <;> kernel_rfl
theorem r_6_3_5 (h : s = 0 ∨ s = 1 ∨ s = -1) : restK s (envT web due 6 3 5) w = some (.rt (.bl true), w) := by rcases h with rfl | rfl | rfl <;> kernel_rfl
theorem r_6_4_0 (h : s = 0 ∨ s = 1 ∨ s = -1) : restK s (envT web due 6 4 0) w = some (.rt (.bl true), w) := by rcases h with rfl | rfl | rfl <;> kernel_rfl
theorem r_6_4_1 (h : s = 0 ∨ s = 1 ∨ s = -1) : restK s (envT web due 6 4 1) w = some (.rt (.bl true), w) := by rcases h with rfl | rfl | rfl <;> kernel_rfl
theorem r_6_4_2 (h : s = 0 ∨ s = 1 ∨ s = -1) : restK s (envT web due 6 4 2) w = some (.rt (.bl true), w) := by rcases h with rfl | rfl | rfl <;> kernel_rfl
theorem r_6_4_3 (h : s = 0 ∨ s = 1 ∨ s = -1) : restK s (envT web due 6 4 3) w = some (.rt (.bl true), w) := by rcases h with rfl | rfl | rfl <;> kernel_rfl
theorem r_6_4_5 (h : s = 0 ∨ s = 1 ∨ s = -1) : restK s (envT web due 6 4 5) w = some (.rt (.bl true), w) := by rcases h with rfl | rfl | rfl <;> kernel_rfl
theorem r_6_5_0 (h : s = 0 ∨ s = 1 ∨ s = -1) : restK s (envT web due 6 5 0) w = some (.rt (.bl true), w) := by rcases h with rfl | rfl | rfl <;> kernel_rfl
theorem r_6_5_1 (h : s = 0 ∨ s = 1 ∨ s = -1) : restK s (envT web due 6 5 1) w = some (.rt (.bl true), w) := by rcases h with rfl | rfl | rfl <;> kernel_rfl
theorem r_6_5_2 (h : s = 0 ∨ s = 1 ∨ s = -1) : restK s (envT web due 6 5 2) w = some (.rt (.bl true), w) := by rcases h with rfl | rfl | rfl <;> kernel_rfl
theorem r_6_5_3 (h : s = 0 ∨ s = 1 ∨ s = -1) : restK s (envT web due 6 5 3) w = some (.rt (.bl true), w) := by rcases h with rfl | rfl | rfl <;> kernel_rfl
theorem r_6_5_4 (h : s = 0 ∨ s = 1 ∨ s = -1) : restK s (envT web due 6 5 4) w = some (.rt (.bl true), w) := by rcases h with rfl | rfl | rfl <;> kernel_rfl
end
end Law
set_option maxRecDepth 100000
set_option maxHeartbeats 4000000
namespace Law
open PySem L2 Vai
theorem rest_ok {w : Wr} {web due : Option Ev} {s : Int} {n x y : Nat} (h2 : 2 ≤ n) (h6 : n ≤ 6) (hx : x < n) (hy : y < n) (hxy : y ≠ x) (h : s = 0 ∨ s = 1 ∨ s = -1) : restK s (envT web due n x y) w = some (.rt (.bl true), w) := by
  have hn : n = 2 ∨ n = 3 ∨ n = 4 ∨ n = 5 ∨ n = 6 := by omega
  rcases hn with rfl | rfl | rfl | rfl | rfl
  · have hx : x = 0 ∨ x = 1 := by omega
    rcases hx with rfl | rfl
    · have hy : y = 1 := by omega
      subst hy; exact r_2_0_1 h
    · have hy : y = 0 := by omega
      subst hy; exact r_2_1_0 h
  · have hx : x = 0 ∨ x = 1 ∨ x = 2 := by omega
    rcases hx with rfl | rfl | rfl
    · have hy : y = 1 ∨ y = 2 := by omega
      rcases hy with rfl | rfl
      · exact r_3_0_1 h
      · exact r_3_0_2 h
    · have hy : y = 0 ∨ y = 2 := by omega
      rcases hy with rfl | rfl
      · exact r_3_1_0 h
      · exact r_3_1_2 h
    · have hy : y = 0 ∨ y = 1 := by omega
      rcases hy with rfl | rfl
      · exact r_3_2_0 h
      · exact r_3_2_1 h
  · have hx : x = 0 ∨ x = 1 ∨ x = 2 ∨ x = 3 := by omega
    rcases hx with rfl | rfl | rfl | rfl
    · have hy : y = 1 ∨ y = 2 ∨ y = 3 := by omega
      rcases hy with rfl | rfl | rfl
      · exact r_4_0_1 h
      · exact r_4_0_2 h
      · exact r_4_0_3 h
    · have hy : y = 0 ∨ y = 2 ∨ y = 3 := by omega
      rcases hy with rfl | rfl | rfl
      · exact r_4_1_0 h
      · exact r_4_1_2 h
      · exact r_4_1_3 h
    · have hy : y = 0 ∨ y = 1 ∨ y = 3 := by omega
      rcases hy with rfl | rfl | rfl
      · exact r_4_2_0 h
      · exact r_4_2_1 h
      · exact r_4_2_3 h
    · have hy : y = 0 ∨ y = 1 ∨ y = 2 := by omega
      rcases hy with rfl | rfl | rfl
      · exact r_4_3_0 h
      · exact r_4_3_1 h
      · exact r_4_3_2 h
  · have hx : x = 0 ∨ x = 1 ∨ x = 2 ∨ x = 3 ∨ x = 4 := by omega
    rcases hx with rfl | rfl | rfl | rfl | rfl
    · have hy : y = 1 ∨ y = 2 ∨ y = 3 ∨ y = 4 := by omega
      rcases hy with rfl | rfl | rfl | rfl
      · exact r_5_0_1 h
      · exact r_5_0_2 h
      · exact r_5_0_3 h
      · exact r_5_0_4 h
    · have hy : y = 0 ∨ y = 2 ∨ y = 3 ∨ y = 4 := by omega
      rcases hy with rfl | rfl | rfl | rfl
      · exact r_5_1_0 h
      · exact r_5_1_2 h
      · exact r_5_1_3 h
      · exact r_5_1_4 h
    · have hy : y = 0 ∨ y = 1 ∨ y = 3 ∨ y = 4 := by omega
      rcases hy with rfl | rfl | rfl | rfl
      · exact r_5_2_0 h
      · exact r_5_2_1 h
      · exact r_5_2_3 h
      · exact r_5_2_4 h
    · have hy : y = 0 ∨ y = 1 ∨ y = 2 ∨ y = 4 := by omega
      rcases hy with rfl | rfl | rfl | rfl
      · exact r_5_3_0 h
      · exact r_5_3_1 h
      · exact r_5_3_2 h
      · exact r_5_3_4 h
    · have hy : y = 0 ∨ y = 1 ∨ y = 2 ∨ y = 3 := by omega
      rcases hy with rfl | rfl | rfl | rfl
      · exact r_5_4_0 h
      · exact r_5_4_1 h
      · exact r_5_4_2 h
      · exact r_5_4_3 h
  · have hx : x = 0 ∨ x = 1 ∨ x = 2 ∨ x = 3 ∨ x = 4 ∨ x = 5 := by omega
    rcases hx with rfl | rfl | rfl | rfl | rfl | rfl
    · have hy : y = 1 ∨ y = 2 ∨ y = 3 ∨ y = 4 ∨ y = 5 := by omega
      rcases hy with rfl | rfl | rfl | rfl | rfl
      · exact r_6_0_1 h
      · exact r_6_0_2 h
      · exact r_6_0_3 h
      · exact r_6_0_4 h
      · exact r_6_0_5 h
    · have hy : y = 0 ∨ y = 2 ∨ y = 3 ∨ y = 4 ∨ y = 5 := by omega
      rcases hy with rfl | rfl | rfl | rfl | rfl
      · exact r_6_1_0 h
      · exact r_6_1_2 h
      · exact r_6_1_3 h
      · exact r_6_1_4 h
      · exact r_6_1_5 h
    · have hy : y = 0 ∨ y = 1 ∨ y = 3 ∨ y = 4 ∨ y = 5 := by omega
      rcases hy with rfl | rfl | rfl | rfl | rfl
      · exact r_6_2_0 h
      · exact r_6_2_1 h
      · exact r_6_2_3 h
      · exact r_6_2_4 h
      · exact r_6_2_5 h
    · have hy : y = 0 ∨ y = 1 ∨ y = 2 ∨ y = 4 ∨ y = 5 := by omega
      rcases hy with rfl | rfl | rfl | rfl | rfl
      · exact r_6_3_0 h
      · exact r_6_3_1 h
      · exact r_6_3_2 h
      · exact r_6_3_4 h
      · exact r_6_3_5 h
    · have hy : y = 0 ∨ y = 1 ∨ y = 2 ∨ y = 3 ∨ y = 5 := by omega
      rcases hy with rfl | rfl | rfl | rfl | rfl
      · exact r_6_4_0 h
      · exact r_6_4_1 h
      · exact r_6_4_2 h
      · exact r_6_4_3 h
      · exact r_6_4_5 h
    · have hy : y = 0 ∨ y = 1 ∨ y = 2 ∨ y = 3 ∨ y = 4 := by omega
      rcases hy with rfl | rfl | rfl | rfl | rfl
      · exact r_6_5_0 h
      · exact r_6_5_1 h
      · exact r_6_5_2 h
      · exact r_6_5_3 h
      · exact r_6_5_4 h
end Law
set_option maxRecDepth 100000
set_option maxHeartbeats 4000000
namespace Law
open PySem L2 Vai
def dueT (v : Int) : T := if v = 0 then .int 4 else if v = 1 ∨ v = -1 then .int 5 else .non
def Sev (v : Int) : Prop := v = -3 ∨ v = -2 ∨ v = -1 ∨ v = 0 ∨ v = 1 ∨ v = 2 ∨ v = 3
def sgn (v : Int) : Int := if v = 0 then 0 else if v > 0 then 1 else -1
theorem sgn3 {v : Int} : sgn v = 0 ∨ sgn v = 1 ∨ sgn v = -1 := by
  unfold sgn
  split
  · exact .inl rfl
  · split
    · exact .inr (.inl rfl)
    · exact .inr (.inr rfl)
section
variable {n x y : Nat} {f : Nat → Nat → Int} {v : Int} {w : Wr}
theorem c_round (h1 : 1 ≤ n) (h6 : n ≤ 6) (hf : Three n f) (ha : Anti n f) (hx : x < n) (hy : y < n) (hxy : y ≠ x) (hv : f x y = v) (h7 : Sev v) : q_round_of [webT n f, .int x, .int y] w = some (.ok (dueT v), w) := by
  refine p_trimD (w' := w) (p_def (by simp) ?_) ?_
  · unfold t_round_of
    simp only [List.map_cons, List.map_nil, List.length_cons, List.length_nil, List.replicate, List.cons_append, List.nil_append, Nat.reduceAdd, Nat.reduceSub]
    refine p_seq (p_exp (p_call (p_cons (p_im rfl) p_nil) (a0_cons a0_nil) (c_check_web h1 h6 hf.small ha))) (cs_nx ?_)
    refine p_seq (p_exp (p_call (p_cons (p_cl (p_cons (p_im rfl) p_nil) len_web) (p_cons (p_im rfl) p_nil)) (a0_cons (a0_cons a0_nil)) (c_check_node hx))) (cs_nx ?_)
    refine p_seq (p_exp (p_call (p_cons (p_cl (p_cons (p_im rfl) p_nil) len_web) (p_cons (p_im rfl) p_nil)) (a0_cons (a0_cons a0_nil)) (c_check_node hy))) (cs_nx ?_)
    refine p_seq (p_cond (p_op (p_im rfl) (p_im rfl) eq_ints) (by rw [decide_eq_false (by omega)]; exact cc_f p_end)) (cs_nx ?_)
    refine p_seq (p_asgN (p_cl (p_cons (p_op (p_op (p_im rfl) (p_im rfl) (ix_web hx)) (p_im rfl) (ix_row hy)) p_nil) rfl) rfl) (cs_nx ?_)
    rw [hv]
    rcases h7 with rfl | rfl | rfl | rfl | rfl | rfl | rfl <;> kernel_rfl
  · rcases h7 with rfl | rfl | rfl | rfl | rfl | rfl | rfl <;> kernel_rfl
theorem p_dg2 {ρ : En} {φe : PF} {ks : List Key} {ts : List T} {k fr : Nat} {u z : T} {w1 : Wr} (h : φe ρ w = some (.ok k fr u, w1)) : dg2P (newDCP ks ts) φe (conP z) ρ w = (match keyT u with
    | some q => some ((match valT ks ts q with
      | some x => PR.ok 0 0 x
      | none => PR.ok 0 0 z), w1)
    | none => none) := by
  unfold dg2P newDCP conP
  simp only
  rw [h]
  all_goals (cases hk : keyT u with
  | none => simp only [hk]
  | some q => cases hv : valT ks ts q <;> simp only [hk, hv])
theorem s7_ok {web x y due small line starts turns many now : Option Ev} (h2 : 2 ≤ n) (h6 : n ≤ 6) : sk_7 (eK web (Im (.int n)) x y due none none small line starts turns many now) w = some (.nx (eK web (Im (.int n)) x y due (some (.ow 2 (tabT n fun _ _ => 0))) none small line starts turns many now), w) := by
  have hn : n = 2 ∨ n = 3 ∨ n = 4 ∨ n = 5 ∨ n = 6 := by omega
  rcases hn with rfl | rfl | rfl | rfl | rfl <;> kernel_rfl
end
theorem seq_cong {f f' g : PFS} {ρ : En} {w : Wr} (h : f ρ w = f' ρ w) : seqP f g ρ w = seqP f' g ρ w := by
  unfold seqP
  rw [h]
theorem law_t (w : Wr) : ∃ w', t_law (eK none none none none none none none none none none none none none) w = some (.rt (.bl true), w') := by
  obtain ⟨n, f, w1, h1, h6', ha, h3, e0⟩ := c_law_web (ms := 6) (st := 3) (by omega) (by omega) (w := w)
  have h6 : n ≤ 6 := by omega
  rw [sk_split]
  by_cases hn : n < 2
  · refine ⟨w1, ?_⟩
    refine p_seq (p_asgN (p_call (p_cons (p_im rfl) (p_cons p_con (p_cons p_con p_nil))) (a0_cons (a0_cons (a0_cons a0_nil))) e0) rfl) (cs_nx ?_)
    refine p_seq (p_asgN (p_cl (p_cons (p_im rfl) p_nil) len_web) rfl) (cs_nx ?_)
    exact p_seq (p_cond (b := true) (p_op (k := 0) (fr := 0) (p_im rfl) p_con (by show some (0, 0, T.bl (decide ((n : Int) < 2))) = _; rw [decide_eq_true (by omega)])) (cc_t (p_ret p_con))) cs_rt
  · have h2 : 2 ≤ n := by omega
    obtain ⟨r, w2, r0, r1, e3⟩ := p_taken (ρ := eK (Im (webT n f)) (Im (.int n)) none none none none none none none none none none none) (i := 1) (w := w1) (φ := varP 3) (m := n) rfl (p_im rfl) (by omega) (by omega)
    obtain ⟨x, rfl⟩ := Int.eq_ofNat_of_zero_le r0
    have hx : x < n := by omega
    obtain ⟨q, w3, q0, q1, e4⟩ := p_taken (ρ := eK (Im (webT n f)) (Im (.int n)) (Im (.int x)) none none none none none none none none none none) (i := 1) (w := w2) (φ := opP subP (varP 3) (conP (.int 1))) (m := (n : Int) - 1) rfl (p_op (k := 0) (fr := 0) (p_im rfl) p_con rfl) (by omega) (by omega)
    have hm : modP 0 (.int ((x : Int) + 1 + q)) 0 (.int n) = some (0, 0, .int (((x : Int) + 1 + q) % n)) := by
      show (if decide ((n : Int) ≠ 0) = true then some (0, 0, T.int (Int.fmod ((x : Int) + 1 + q) n)) else none) = _
      rw [if_pos (decide_eq_true (by omega)), Int.fmod_eq_emod_of_nonneg _ (by omega)]
    have y0 : 0 ≤ ((x : Int) + 1 + q) % n := Int.emod_nonneg _ (by omega)
    have y1 : ((x : Int) + 1 + q) % n < n := Int.emod_lt_of_pos _ (by omega)
    have y2 : ((x : Int) + 1 + q) % n ≠ x := fun h => by
      by_cases hlt : (x : Int) + 1 + q < n
      · rw [Int.emod_eq_of_lt (by omega) hlt] at h
        omega
      · have : ((x : Int) + 1 + q) % n = (x : Int) + 1 + q - n := by
          rw [← Int.sub_emod_right, Int.emod_eq_of_lt (by omega) (by omega)]
        omega
    generalize ((x : Int) + 1 + q) % n = yi at hm y0 y1 y2
    obtain ⟨y, rfl⟩ := Int.eq_ofNat_of_zero_le y0
    have hy : y < n := by omega
    have hxy : y ≠ x := by omega
    obtain ⟨v, hv⟩ : ∃ v, f x y = v := ⟨_, rfl⟩
    have hv' : f y x = -v := by rw [ha y x hy hx, hv]
    have h7 : Sev v := by
      have := h3 x y hx hy
      unfold Sev
      omega
    have ixy : ∀ {ρ : En} {w : Wr}, ρ[2]? = some (Im (webT n f)) → ρ[4]? = some (Im (.int x)) → ρ[5]? = some (Im (.int y)) → opP ixP (opP ixP (varP 2) (varP 4)) (varP 5) ρ w = some (.ok (0 - 1 - 1) 0 (.int v), w) := fun a b c => by
      rw [← hv]
      exact p_op (p_op (p_im a) (p_im b) (ix_web hx)) (p_im c) (ix_row hy)
    have iyx : ∀ {ρ : En} {w : Wr}, ρ[2]? = some (Im (webT n f)) → ρ[4]? = some (Im (.int x)) → ρ[5]? = some (Im (.int y)) → opP ixP (opP ixP (varP 2) (varP 5)) (varP 4) ρ w = some (.ok (0 - 1 - 1) 0 (.int (-v)), w) := fun a b c => by
      rw [← hv']
      exact p_op (p_op (p_im a) (p_im c) (ix_web hy)) (p_im b) (ix_row hx)
    refine ⟨w3, ?_⟩
    refine p_seq (p_asgN (p_call (p_cons (p_im rfl) (p_cons p_con (p_cons p_con p_nil))) (a0_cons (a0_cons (a0_cons a0_nil))) e0) rfl) (cs_nx ?_)
    refine p_seq (p_asgN (p_cl (p_cons (p_im rfl) p_nil) len_web) rfl) (cs_nx ?_)
    refine p_seq (p_cond (b := false) (p_op (k := 0) (fr := 0) (p_im rfl) p_con (by show some (0, 0, T.bl (decide ((n : Int) < 2))) = _; rw [decide_eq_false (by omega)])) (cc_f p_end)) (cs_nx ?_)
    refine p_seq (p_asgN e3 rfl) (cs_nx ?_)
    refine p_seq (p_asgN (p_op (k := 0) (fr := 0) (p_op (k := 0) (fr := 0) (p_op (k := 0) (fr := 0) (p_im rfl) p_con rfl) e4 rfl) (p_im rfl) hm) rfl) (cs_nx ?_)
    have e5 : sk_5 (eK (Im (webT n f)) (Im (.int n)) (Im (.int x)) (Im (.int y)) none none none none none none none none none) w3 = some (.nx (eK (Im (webT n f)) (Im (.int n)) (Im (.int x)) (Im (.int y)) (Im (dueT v)) none none none none none none none none), w3) := by
      refine p_asgN (k := 0) (fr := 0) ?_ rfl
      rw [p_dg2 (p_cl (p_cons (ixy rfl rfl rfl) p_nil) rfl)]
      rcases h7 with rfl | rfl | rfl | rfl | rfl | rfl | rfl <;> kernel_rfl
    refine p_seq e5 (cs_nx ?_)
    have al : q__law_alike [dueT v, dueT v] w3 = some (.ok (.bl true), w3) := by
      rcases h7 with rfl | rfl | rfl | rfl | rfl | rfl | rfl <;> kernel_rfl
    refine p_seq (p_cond (p_not (p_call (p_cons (p_call (p_cons (p_im rfl) (p_cons (p_im rfl) (p_cons (p_im rfl) p_nil))) (a0_cons (a0_cons (a0_cons a0_nil))) (c_round h1 h6 h3 ha hx hy hxy hv h7)) (p_cons (p_im rfl) p_nil)) (a0_cons (a0_cons a0_nil)) al) cn_t) (cc_f p_end)) (cs_nx ?_)
    refine p_seq (s7_ok h2 h6) (cs_nx ?_)
    have fin := rest_ok (w := w3) (web := Im (webT n f)) (due := Im (dueT v)) h2 h6 hx hy hxy (sgn3 (v := v))
    refine Eq.trans ?_ fin
    have e8 : asgP (newTP (consP (clP (twoP fun i j => if j > i then j else i) (consP (opP subP (conP (.int 0)) (conP (.int 1))) (consP (clP (twoP fun i j => if j < i then j else i) (consP (conP (.int 1)) (consP (opP ixP (opP ixP (varP 2) (varP 4)) (varP 5)) nilP))) nilP))) (consP (clP (twoP fun i j => if j > i then j else i) (consP (opP subP (conP (.int 0)) (conP (.int 1))) (consP (clP (twoP fun i j => if j < i then j else i) (consP (conP (.int 1)) (consP (opP ixP (opP ixP (varP 2) (varP 5)) (varP 4)) nilP))) nilP))) nilP))) tu8 (envT (Im (webT n f)) (Im (dueT v)) n x y) w3 = asgP (conP (sgT (sgn v))) tu8 (envT (Im (webT n f)) (Im (dueT v)) n x y) w3 := by
      have c : newTP (consP (clP (twoP fun i j => if j > i then j else i) (consP (opP subP (conP (.int 0)) (conP (.int 1))) (consP (clP (twoP fun i j => if j < i then j else i) (consP (conP (.int 1)) (consP (opP ixP (opP ixP (varP 2) (varP 4)) (varP 5)) nilP))) nilP))) (consP (clP (twoP fun i j => if j > i then j else i) (consP (opP subP (conP (.int 0)) (conP (.int 1))) (consP (clP (twoP fun i j => if j < i then j else i) (consP (conP (.int 1)) (consP (opP ixP (opP ixP (varP 2) (varP 5)) (varP 4)) nilP))) nilP))) nilP)) (envT (Im (webT n f)) (Im (dueT v)) n x y) w3 = some (.ok 0 0 (sgT (sgn v)), w3) := by
        refine Eq.trans (p_newT (p_cons (p_cl (p_cons (p_op p_con p_con rfl) (p_cons (p_cl (p_cons p_con (p_cons (ixy rfl rfl rfl) p_nil)) rfl) p_nil)) rfl) (p_cons (p_cl (p_cons (p_op p_con p_con rfl) (p_cons (p_cl (p_cons p_con (p_cons (iyx rfl rfl rfl) p_nil)) rfl) p_nil)) rfl) p_nil)) (a0_cons (a0_cons a0_nil)) (by simp)) ?_
        rcases h7 with rfl | rfl | rfl | rfl | rfl | rfl | rfl <;> kernel_rfl
      unfold asgP
      rw [c]
      rfl
    exact seq_cong e8
end Law
set_option maxRecDepth 100000
set_option maxHeartbeats 4000000
namespace Law
open PySem L2 Vai
/-- a statement of the top -/
def top (i : Nat) : Stmt := PySem.Challenge.pw_dartwebs_k22_whole_rounds.main.body.getD i (.Pass ⟨0, 0, 0, 0⟩)
structure Txt (K : PySem.W.Frag) (mg : Str → Option Value) (cl : Nat → Addr) : Prop where
  c_MOST_ARROWS : ∃ u, RelV (.int 1000) u ∧ mg "MOST_ARROWS" = some u
  c_MOST_NODES : ∃ u, RelV (.int 6) u ∧ mg "MOST_NODES" = some u
  e_Alike : PySem.W.excIn K (cl 3) [.type "ValueError", .type "Exception", .type "BaseException", .type "object"] "ValueError.__new__" = true ∧ mg "Alike" = some (.ref (cl 3)) ∧ PySem.W.keepIn K (.ref (cl 3)) = true ∧ PySem.W.subIn K (.ref (cl 3)) (.type "BaseException") = some true ∧ PySem.W.typeIn K (.ref (cl 3)) = some (.type "type")
  e_BadWeb : PySem.W.excIn K (cl 1) [.type "ValueError", .type "Exception", .type "BaseException", .type "object"] "ValueError.__new__" = true ∧ mg "BadWeb" = some (.ref (cl 1)) ∧ PySem.W.keepIn K (.ref (cl 1)) = true ∧ PySem.W.subIn K (.ref (cl 1)) (.type "BaseException") = some true ∧ PySem.W.typeIn K (.ref (cl 1)) = some (.type "type")
  e_NoNode : PySem.W.excIn K (cl 2) [.type "ValueError", .type "Exception", .type "BaseException", .type "object"] "ValueError.__new__" = true ∧ mg "NoNode" = some (.ref (cl 2)) ∧ PySem.W.keepIn K (.ref (cl 2)) = true ∧ PySem.W.subIn K (.ref (cl 2)) (.type "BaseException") = some true ∧ PySem.W.typeIn K (.ref (cl 2)) = some (.type "type")
  n_abs : mg "abs" = none
  n_all : mg "all" = none
  n_bool : mg "bool" = none
  n_dict : mg "dict" = none
  n_int : mg "int" = none
  n_isinstance : mg "isinstance" = none
  n_len : mg "len" = none
  n_list : mg "list" = none
  n_max : mg "max" = none
  n_min : mg "min" = none
  n_range : mg "range" = none
  n_sorted : mg "sorted" = none
  n_str : mg "str" = none
  n_tuple : mg "tuple" = none
abbrev s_is_int : Stmt := top 7
abbrev N_is_int : List Str := ["value"]
abbrev P_is_int : List Str := ["value"]
theorem sc_is_int : FnScope N_is_int P_is_int (defScope s_is_int) := ⟨rfl, rfl, rfl, by decide +kernel, rfl, by decide +kernel, by decide +kernel⟩
def b_is_int : FS := (retF (andF (clF isiG (consF (varF 0) (consF (conF (.ty "int")) nilF))) (notF (clF isiG (consF (varF 0) (consF (conF (.ty "bool")) nilF))))))
theorem pr_is_int : PreD (defF 1 b_is_int) := pre_def (by unfold b_is_int; repeat' (first | exact pre_var | exact pre_con | exact pre_nil | exact pre_no | exact pre_noS | exact pre_newD | exact pre_lam0 | exact pre_lam1 | exact pre_send | exact pre_raise | exact pre_nameT | exact pre_nilT | exact pre_addG | exact pre_intG | exact pre_mulG | exact pre_cmpG | exact pre_eqG | exact pre_inG | exact pre_ixG | exact pre_negG | exact pre_lenG | exact pre_isiG | exact pre_twoG | exact pre_absG | exact pre_intC | exact pre_allG | exact pre_tupC | exact pre_lstC | refine pre_op ?_ ?_ ?_ | refine pre_un ?_ ?_ | refine pre_and ?_ ?_ | refine pre_or ?_ ?_ | refine pre_not ?_ | refine pre_ifF ?_ ?_ ?_ | refine pre_ch ?_ ?_ ?_ ?_ ?_ | refine pre_cons ?_ ?_ | refine pre_new ?_ | refine pre_cl ?_ ?_ | refine pre_call ?_ ?_ | refine pre_rg1 ?_ | refine pre_rg2 ?_ ?_ | refine pre_err ?_ | refine pre_seqI ?_ | refine pre_rg1I ?_ | refine pre_rg2I ?_ | refine pre_lc ?_ ?_ ?_ | refine pre_lc2 ?_ ?_ ?_ ?_ ?_ | refine pre_lenSet ?_ ?_ ?_ | refine pre_trim ?_ | refine pre_seq ?_ ?_ | refine pre_ret ?_ | refine pre_exp ?_ | refine pre_cond ?_ ?_ ?_ | refine pre_consT ?_ ?_ | refine pre_tupT ?_ | refine pre_asg ?_ ?_ | refine pre_par ?_ | refine pre_for ?_ ?_ ?_ | exact pre_sortG | refine pre_slF ?_ ?_ ?_ | exact pre_nofs | refine pre_somef ?_ | exact pre_revG | exact pre_mxG | exact pre_sumG | exact pre_isG | refine pre_tru ?_ | refine pre_newZ ?_ | exact pre_tupZG | exact pre_catZG | refine pre_idx ?_ ?_ | refine pre_sortSet ?_ | exact pd_noD | assumption | exact pre_gcdG | exact pre_mxUG | refine pre_raiseX ?_ | exact pre_sort2G | exact pre_newDC))
def d_is_int : FD := trimD (defF 1 b_is_int)
theorem pd_is_int : PreD d_is_int := pre_trimD pr_is_int
theorem ok_is_int {P : Program} {w : World} {K : PySem.W.Frag} {mg : Str → Option Value} {base : Heap} {Tb : List (Addr × Str)} {cl : Nat → Addr} {ql : Str} {cells : List (Str × Addr)} {lam : Nat → LamI} {f : Addr} {fd : FuncData} (T : Txt K mg cl) (F : Fun K "is_int" "is_int" s_is_int f fd) (hm : mg "is_int" = some (.ref f)) (B : Binds K fd P_is_int [])  : DefOk P w K mg base (Tx.mk P w K Tb cl ql cells lam) "is_int" P_is_int 1 d_is_int :=
  DefOk.trim pr_is_int <| def_ok F hm B sc_is_int fun cdv A outer s H E hr => by
    have hu := hr.units
    exact (v_s1 (v_ret (v_and (v_callB isi_U (s_isi rfl) T.n_isinstance (by decide +kernel) (v_cons (v_var 0) (v_cons (v_ty T.n_int PyProof.Rows.boot_int) v_nil))) (v_one (v_not (v_callB isi_U (s_isi rfl) T.n_isinstance (by decide +kernel) (v_cons (v_var 0) (v_cons (v_ty T.n_bool PyProof.Rows.boot_bool) v_nil))))))))
abbrev s_is_whole : Stmt := top 8
abbrev N_is_whole : List Str := ["value", "least", "most"]
abbrev P_is_whole : List Str := ["value", "least", "most"]
theorem sc_is_whole : FnScope N_is_whole P_is_whole (defScope s_is_whole) := ⟨rfl, rfl, rfl, by decide +kernel, rfl, by decide +kernel, by decide +kernel⟩
def b_is_whole : FS := (retF (andF (callF d_is_int (consF (varF 0) nilF)) (chF (cmpG fun i j => decide (i ≤ j)) (cmpG fun i j => decide (i ≤ j)) (varF 1) (varF 0) (varF 2))))
theorem pr_is_whole : PreD (defF 3 b_is_whole) := pre_def (by unfold b_is_whole; repeat' (first | exact pre_var | exact pre_con | exact pre_nil | exact pre_no | exact pre_noS | exact pre_newD | exact pre_lam0 | exact pre_lam1 | exact pre_send | exact pre_raise | exact pre_nameT | exact pre_nilT | exact pre_addG | exact pre_intG | exact pre_mulG | exact pre_cmpG | exact pre_eqG | exact pre_inG | exact pre_ixG | exact pre_negG | exact pre_lenG | exact pre_isiG | exact pre_twoG | exact pre_absG | exact pre_intC | exact pre_allG | exact pre_tupC | exact pre_lstC | refine pre_op ?_ ?_ ?_ | refine pre_un ?_ ?_ | refine pre_and ?_ ?_ | refine pre_or ?_ ?_ | refine pre_not ?_ | refine pre_ifF ?_ ?_ ?_ | refine pre_ch ?_ ?_ ?_ ?_ ?_ | refine pre_cons ?_ ?_ | refine pre_new ?_ | refine pre_cl ?_ ?_ | refine pre_call ?_ ?_ | refine pre_rg1 ?_ | refine pre_rg2 ?_ ?_ | refine pre_err ?_ | refine pre_seqI ?_ | refine pre_rg1I ?_ | refine pre_rg2I ?_ | refine pre_lc ?_ ?_ ?_ | refine pre_lc2 ?_ ?_ ?_ ?_ ?_ | refine pre_lenSet ?_ ?_ ?_ | refine pre_trim ?_ | refine pre_seq ?_ ?_ | refine pre_ret ?_ | refine pre_exp ?_ | refine pre_cond ?_ ?_ ?_ | refine pre_consT ?_ ?_ | refine pre_tupT ?_ | refine pre_asg ?_ ?_ | refine pre_par ?_ | refine pre_for ?_ ?_ ?_ | exact pre_sortG | refine pre_slF ?_ ?_ ?_ | exact pre_nofs | refine pre_somef ?_ | exact pre_revG | exact pre_mxG | exact pre_sumG | exact pre_isG | refine pre_tru ?_ | refine pre_newZ ?_ | exact pre_tupZG | exact pre_catZG | refine pre_idx ?_ ?_ | refine pre_sortSet ?_ | exact pd_noD | assumption | exact pre_gcdG | exact pre_mxUG | refine pre_raiseX ?_ | exact pre_sort2G | exact pre_newDC | exact pd_is_int))
def d_is_whole : FD := trimD (defF 3 b_is_whole)
theorem pd_is_whole : PreD d_is_whole := pre_trimD pr_is_whole
theorem ok_is_whole {P : Program} {w : World} {K : PySem.W.Frag} {mg : Str → Option Value} {base : Heap} {Tb : List (Addr × Str)} {cl : Nat → Addr} {ql : Str} {cells : List (Str × Addr)} {lam : Nat → LamI} {f : Addr} {fd : FuncData} (T : Txt K mg cl) (F : Fun K "is_whole" "is_whole" s_is_whole f fd) (hm : mg "is_whole" = some (.ref f)) (B : Binds K fd P_is_whole []) (G_is_int : DefOk P w K mg base (Tx.mk P w K Tb cl ql cells lam) "is_int" P_is_int 1 d_is_int) : DefOk P w K mg base (Tx.mk P w K Tb cl ql cells lam) "is_whole" P_is_whole 2 d_is_whole :=
  DefOk.trim pr_is_whole <| def_ok F hm B sc_is_whole fun cdv A outer s H E hr => by
    have hu := hr.units
    exact (v_s1 (v_ret (v_and (v_callD G_is_int (hr.mono (by decide)) (takes_of rfl rfl rfl rfl) (v_cons (v_var 0) v_nil) (ar_cons ar_nil)) (v_one (v_chain op_le op_le s_cmp s_cmp (v_var 1) (v_var 0) (v_var 2))))))
abbrev s__is_line : Stmt := top 14
abbrev N__is_line : List Str := ["n", "line", "many"]
abbrev P__is_line : List Str := ["n", "line"]
theorem sc__is_line : FnScope N__is_line P__is_line (defScope s__is_line) := ⟨rfl, rfl, rfl, by decide +kernel, rfl, by decide +kernel, by decide +kernel⟩
def b__is_line : FS := (seqF (condF (orF (notF (clF isiG (consF (varF 1) (consF (conF (.ty "tuple")) nilF)))) (opF (eqG true) (clF lenG (consF (varF 1) nilF)) (varF 0))) (retF (conF (.bl false))) endF) (retF (clF (allG fun bs => bs.all id) (consF (lcF (seqI (varF 1)) (nameX 2) [2] (conF (.bl true)) (callF d_is_whole (consF (varF 2) (consF (unF negG (conF (.int 1000))) (consF (conF (.int 1000)) nilF))))) nilF))))
theorem pr__is_line : PreD (defF 3 b__is_line) := pre_def (by unfold b__is_line; repeat' (first | exact pre_var | exact pre_con | exact pre_nil | exact pre_no | exact pre_noS | exact pre_newD | exact pre_lam0 | exact pre_lam1 | exact pre_send | exact pre_raise | exact pre_nameT | exact pre_nilT | exact pre_addG | exact pre_intG | exact pre_mulG | exact pre_cmpG | exact pre_eqG | exact pre_inG | exact pre_ixG | exact pre_negG | exact pre_lenG | exact pre_isiG | exact pre_twoG | exact pre_absG | exact pre_intC | exact pre_allG | exact pre_tupC | exact pre_lstC | refine pre_op ?_ ?_ ?_ | refine pre_un ?_ ?_ | refine pre_and ?_ ?_ | refine pre_or ?_ ?_ | refine pre_not ?_ | refine pre_ifF ?_ ?_ ?_ | refine pre_ch ?_ ?_ ?_ ?_ ?_ | refine pre_cons ?_ ?_ | refine pre_new ?_ | refine pre_cl ?_ ?_ | refine pre_call ?_ ?_ | refine pre_rg1 ?_ | refine pre_rg2 ?_ ?_ | refine pre_err ?_ | refine pre_seqI ?_ | refine pre_rg1I ?_ | refine pre_rg2I ?_ | refine pre_lc ?_ ?_ ?_ | refine pre_lc2 ?_ ?_ ?_ ?_ ?_ | refine pre_lenSet ?_ ?_ ?_ | refine pre_trim ?_ | refine pre_seq ?_ ?_ | refine pre_ret ?_ | refine pre_exp ?_ | refine pre_cond ?_ ?_ ?_ | refine pre_consT ?_ ?_ | refine pre_tupT ?_ | refine pre_asg ?_ ?_ | refine pre_par ?_ | refine pre_for ?_ ?_ ?_ | exact pre_sortG | refine pre_slF ?_ ?_ ?_ | exact pre_nofs | refine pre_somef ?_ | exact pre_revG | exact pre_mxG | exact pre_sumG | exact pre_isG | refine pre_tru ?_ | refine pre_newZ ?_ | exact pre_tupZG | exact pre_catZG | refine pre_idx ?_ ?_ | refine pre_sortSet ?_ | exact pd_noD | assumption | exact pre_gcdG | exact pre_mxUG | refine pre_raiseX ?_ | exact pre_sort2G | exact pre_newDC | exact pd_is_int | exact pd_is_whole))
def d__is_line : FD := trimD (defF 3 b__is_line)
theorem pd__is_line : PreD d__is_line := pre_trimD pr__is_line
theorem ok__is_line {P : Program} {w : World} {K : PySem.W.Frag} {mg : Str → Option Value} {base : Heap} {Tb : List (Addr × Str)} {cl : Nat → Addr} {ql : Str} {cells : List (Str × Addr)} {lam : Nat → LamI} {f : Addr} {fd : FuncData} (T : Txt K mg cl) (F : Fun K "_is_line" "_is_line" s__is_line f fd) (hm : mg "_is_line" = some (.ref f)) (B : Binds K fd P__is_line []) (G_is_whole : DefOk P w K mg base (Tx.mk P w K Tb cl ql cells lam) "is_whole" P_is_whole 2 d_is_whole) : DefOk P w K mg base (Tx.mk P w K Tb cl ql cells lam) "_is_line" P__is_line 3 d__is_line :=
  DefOk.trim pr__is_line <| def_ok F hm B sc__is_line fun cdv A outer s H E hr => by
    have hu := hr.units
    exact (v_seq (v_if (L2.PW.pt (v_wor (v_notT (v_val (v_callB isi_U (s_isi rfl) T.n_isinstance (by decide +kernel) (v_cons (v_var 1) (v_cons (v_ty T.n_tuple PyProof.Rows.boot_tuple) v_nil))))) (v_wor1 (v_cmpT (op_neD hu) (s_ne rfl) (v_callB call_len (s_len rfl) T.n_len (by decide +kernel) (v_cons (v_var 1) v_nil)) (v_var 0))))) (v_s1 (v_ret v_bl)) v_send) (v_s1 (v_ret (v_callB (cr_all rfl) (s_all rfl) T.n_all (by decide +kernel) (v_cons (v_lc [("many", 2)] sc__is_line.nd (v_iseq rfl (v_var 1)) (blkOk_by (N := N__is_line) (sc := defScope s__is_line) (by decide +kernel)) (fun _ _ _ _ _ => (v_xname 2 (by decide) sc__is_line.nd)) (fun _ _ _ _ _ => v_ts0) (fun _ _ _ _ _ => (v_callD G_is_whole (hr.mono (by decide)) takesW0 (v_cons (v_var 2) (v_cons (v_neg s_neg (v_gintE T.c_MOST_ARROWS)) (v_cons (v_gintE T.c_MOST_ARROWS) v_nil))) (ar_cons (ar_cons (ar_cons ar_nil)))))) v_nil)))))
abbrev s_is_web : Stmt := top 13
abbrev N_is_web : List Str := ["value", "n", "line", "y", "z"]
abbrev P_is_web : List Str := ["value"]
theorem sc_is_web : FnScope N_is_web P_is_web (defScope s_is_web) := ⟨rfl, rfl, rfl, by decide +kernel, rfl, by decide +kernel, by decide +kernel⟩
def b_is_web : FS := (seqF (condF (orF (notF (clF isiG (consF (varF 0) (consF (conF (.ty "tuple")) nilF)))) (notF (chF (cmpG fun i j => decide (i ≤ j)) (cmpG fun i j => decide (i ≤ j)) (conF (.int 1)) (clF lenG (consF (varF 0) nilF)) (conF (.int 6))))) (retF (conF (.bl false))) endF) (seqF (asgF (clF lenG (consF (varF 0) nilF)) (nameT 1)) (seqF (condF (trimF (notF (clF (allG fun bs => bs.all id) (consF (lcF (seqI (varF 0)) (nameX 2) [2] (conF (.bl true)) (callF d__is_line (consF (varF 1) (consF (varF 2) nilF)))) nilF)))) (retF (conF (.bl false))) endF) (retF (clF (allG fun bs => bs.all id) (consF (lc2F (rg1I (consF (varF 1) nilF)) (nameX 3) [3, 4] (conF (.bl true)) (rg1I (consF (varF 1) nilF)) (nameX 4) [4] (conF (.bl true)) (opF (eqG false) (opF ixG (opF ixG (varF 0) (varF 3)) (varF 4)) (unF negG (opF ixG (opF ixG (varF 0) (varF 4)) (varF 3))))) nilF))))))
theorem pr_is_web : PreD (defF 5 b_is_web) := pre_def (by unfold b_is_web; repeat' (first | exact pre_var | exact pre_con | exact pre_nil | exact pre_no | exact pre_noS | exact pre_newD | exact pre_lam0 | exact pre_lam1 | exact pre_send | exact pre_raise | exact pre_nameT | exact pre_nilT | exact pre_addG | exact pre_intG | exact pre_mulG | exact pre_cmpG | exact pre_eqG | exact pre_inG | exact pre_ixG | exact pre_negG | exact pre_lenG | exact pre_isiG | exact pre_twoG | exact pre_absG | exact pre_intC | exact pre_allG | exact pre_tupC | exact pre_lstC | refine pre_op ?_ ?_ ?_ | refine pre_un ?_ ?_ | refine pre_and ?_ ?_ | refine pre_or ?_ ?_ | refine pre_not ?_ | refine pre_ifF ?_ ?_ ?_ | refine pre_ch ?_ ?_ ?_ ?_ ?_ | refine pre_cons ?_ ?_ | refine pre_new ?_ | refine pre_cl ?_ ?_ | refine pre_call ?_ ?_ | refine pre_rg1 ?_ | refine pre_rg2 ?_ ?_ | refine pre_err ?_ | refine pre_seqI ?_ | refine pre_rg1I ?_ | refine pre_rg2I ?_ | refine pre_lc ?_ ?_ ?_ | refine pre_lc2 ?_ ?_ ?_ ?_ ?_ | refine pre_lenSet ?_ ?_ ?_ | refine pre_trim ?_ | refine pre_seq ?_ ?_ | refine pre_ret ?_ | refine pre_exp ?_ | refine pre_cond ?_ ?_ ?_ | refine pre_consT ?_ ?_ | refine pre_tupT ?_ | refine pre_asg ?_ ?_ | refine pre_par ?_ | refine pre_for ?_ ?_ ?_ | exact pre_sortG | refine pre_slF ?_ ?_ ?_ | exact pre_nofs | refine pre_somef ?_ | exact pre_revG | exact pre_mxG | exact pre_sumG | exact pre_isG | refine pre_tru ?_ | refine pre_newZ ?_ | exact pre_tupZG | exact pre_catZG | refine pre_idx ?_ ?_ | refine pre_sortSet ?_ | exact pd_noD | assumption | exact pre_gcdG | exact pre_mxUG | refine pre_raiseX ?_ | exact pre_sort2G | exact pre_newDC | exact pd_is_int | exact pd_is_whole | exact pd__is_line))
def d_is_web : FD := trimD (defF 5 b_is_web)
theorem pd_is_web : PreD d_is_web := pre_trimD pr_is_web
theorem ok_is_web {P : Program} {w : World} {K : PySem.W.Frag} {mg : Str → Option Value} {base : Heap} {Tb : List (Addr × Str)} {cl : Nat → Addr} {ql : Str} {cells : List (Str × Addr)} {lam : Nat → LamI} {f : Addr} {fd : FuncData} (T : Txt K mg cl) (F : Fun K "is_web" "is_web" s_is_web f fd) (hm : mg "is_web" = some (.ref f)) (B : Binds K fd P_is_web []) (G__is_line : DefOk P w K mg base (Tx.mk P w K Tb cl ql cells lam) "_is_line" P__is_line 3 d__is_line) : DefOk P w K mg base (Tx.mk P w K Tb cl ql cells lam) "is_web" P_is_web 4 d_is_web :=
  DefOk.trim pr_is_web <| def_ok F hm B sc_is_web fun cdv A outer s H E hr => by
    have hu := hr.units
    exact (v_seq (v_if (L2.PW.pt (v_wor (v_notT (v_val (v_callB isi_U (s_isi rfl) T.n_isinstance (by decide +kernel) (v_cons (v_var 0) (v_cons (v_ty T.n_tuple PyProof.Rows.boot_tuple) v_nil))))) (v_wor1 (v_notT (v_chainT op_le op_le s_cmp s_cmp v_int (v_callB call_len (s_len rfl) T.n_len (by decide +kernel) (v_cons (v_var 0) v_nil)) (v_gintE T.c_MOST_NODES)))))) (v_s1 (v_ret v_bl)) v_send) (v_seq (v_asg (v_callB call_len (s_len rfl) T.n_len (by decide +kernel) (v_cons (v_var 0) v_nil)) (v_gname 1 sc_is_web.nd)) (v_seq (v_if (v_trimT (by repeat' (first | exact pre_var | exact pre_con | exact pre_nil | exact pre_no | exact pre_noS | exact pre_newD | exact pre_lam0 | exact pre_lam1 | exact pre_send | exact pre_raise | exact pre_nameT | exact pre_nilT | exact pre_addG | exact pre_intG | exact pre_mulG | exact pre_cmpG | exact pre_eqG | exact pre_inG | exact pre_ixG | exact pre_negG | exact pre_lenG | exact pre_isiG | exact pre_twoG | exact pre_absG | exact pre_intC | exact pre_allG | exact pre_tupC | exact pre_lstC | refine pre_op ?_ ?_ ?_ | refine pre_un ?_ ?_ | refine pre_and ?_ ?_ | refine pre_or ?_ ?_ | refine pre_not ?_ | refine pre_ifF ?_ ?_ ?_ | refine pre_ch ?_ ?_ ?_ ?_ ?_ | refine pre_cons ?_ ?_ | refine pre_new ?_ | refine pre_cl ?_ ?_ | refine pre_call ?_ ?_ | refine pre_rg1 ?_ | refine pre_rg2 ?_ ?_ | refine pre_err ?_ | refine pre_seqI ?_ | refine pre_rg1I ?_ | refine pre_rg2I ?_ | refine pre_lc ?_ ?_ ?_ | refine pre_lc2 ?_ ?_ ?_ ?_ ?_ | refine pre_lenSet ?_ ?_ ?_ | refine pre_trim ?_ | refine pre_seq ?_ ?_ | refine pre_ret ?_ | refine pre_exp ?_ | refine pre_cond ?_ ?_ ?_ | refine pre_consT ?_ ?_ | refine pre_tupT ?_ | refine pre_asg ?_ ?_ | refine pre_par ?_ | refine pre_for ?_ ?_ ?_ | exact pre_sortG | refine pre_slF ?_ ?_ ?_ | exact pre_nofs | refine pre_somef ?_ | exact pre_revG | exact pre_mxG | exact pre_sumG | exact pre_isG | refine pre_tru ?_ | refine pre_newZ ?_ | exact pre_tupZG | exact pre_catZG | refine pre_idx ?_ ?_ | refine pre_sortSet ?_ | exact pd_noD | assumption | exact pre_gcdG | exact pre_mxUG | refine pre_raiseX ?_ | exact pre_sort2G | exact pre_newDC | exact pd_is_int | exact pd_is_whole | exact pd__is_line | exact pd_is_web)) (v_notT (v_val (v_callB (cr_all rfl) (s_all rfl) T.n_all (by decide +kernel) (v_cons (v_lc [("line", 2)] sc_is_web.nd (v_iseq rfl (v_var 0)) (blkOk_by (N := N_is_web) (sc := defScope s_is_web) (by decide +kernel)) (fun _ _ _ _ _ => (v_xname 2 (by decide) sc_is_web.nd)) (fun _ _ _ _ _ => v_ts0) (fun _ _ _ _ _ => (v_callD G__is_line (hr.mono (by decide)) takesW0 (v_cons (v_var 1) (v_cons (v_var 2) v_nil)) (ar_cons (ar_cons ar_nil))))) v_nil))))) (v_s1 (v_ret v_bl)) v_send) (v_s1 (v_ret (v_callB (cr_all rfl) (s_all rfl) T.n_all (by decide +kernel) (v_cons (v_lc2 [("y", 3), ("z", 4)] sc_is_web.nd (v_irg1 T.n_range (v_cons (v_var 1) v_nil)) (blkOk_by (N := N_is_web) (sc := defScope s_is_web) (by decide +kernel)) (fun _ _ _ _ _ => (v_xname 3 (by decide) sc_is_web.nd)) (fun _ _ _ _ _ => v_ts0) (fun _ _ _ _ _ => (v_irg1 T.n_range (v_cons (v_var 1) v_nil))) (fun _ _ _ _ _ => (v_xname 4 (by decide) sc_is_web.nd)) (fun _ _ _ _ _ => v_ts0) (fun _ _ _ _ _ => (v_cmp (op_eqD hu) (s_eq rfl) (v_ix ix_U (s_ix rfl) (v_ix ix_U (s_ix rfl) (v_var 0) (v_var 3)) (v_var 4)) (v_neg s_neg (v_ix ix_U (s_ix rfl) (v_ix ix_U (s_ix rfl) (v_var 0) (v_var 4)) (v_var 3)))))) v_nil)))))))
abbrev s_check_web : Stmt := top 15
abbrev N_check_web : List Str := ["web"]
abbrev P_check_web : List Str := ["web"]
theorem sc_check_web : FnScope N_check_web P_check_web (defScope s_check_web) := ⟨rfl, rfl, rfl, by decide +kernel, rfl, by decide +kernel, by decide +kernel⟩
def b_check_web : FS := (condF (notF (callF d_is_web (consF (varF 0) nilF))) (raiseF 1) endF)
theorem pr_check_web : PreD (defF 1 b_check_web) := pre_def (by unfold b_check_web; repeat' (first | exact pre_var | exact pre_con | exact pre_nil | exact pre_no | exact pre_noS | exact pre_newD | exact pre_lam0 | exact pre_lam1 | exact pre_send | exact pre_raise | exact pre_nameT | exact pre_nilT | exact pre_addG | exact pre_intG | exact pre_mulG | exact pre_cmpG | exact pre_eqG | exact pre_inG | exact pre_ixG | exact pre_negG | exact pre_lenG | exact pre_isiG | exact pre_twoG | exact pre_absG | exact pre_intC | exact pre_allG | exact pre_tupC | exact pre_lstC | refine pre_op ?_ ?_ ?_ | refine pre_un ?_ ?_ | refine pre_and ?_ ?_ | refine pre_or ?_ ?_ | refine pre_not ?_ | refine pre_ifF ?_ ?_ ?_ | refine pre_ch ?_ ?_ ?_ ?_ ?_ | refine pre_cons ?_ ?_ | refine pre_new ?_ | refine pre_cl ?_ ?_ | refine pre_call ?_ ?_ | refine pre_rg1 ?_ | refine pre_rg2 ?_ ?_ | refine pre_err ?_ | refine pre_seqI ?_ | refine pre_rg1I ?_ | refine pre_rg2I ?_ | refine pre_lc ?_ ?_ ?_ | refine pre_lc2 ?_ ?_ ?_ ?_ ?_ | refine pre_lenSet ?_ ?_ ?_ | refine pre_trim ?_ | refine pre_seq ?_ ?_ | refine pre_ret ?_ | refine pre_exp ?_ | refine pre_cond ?_ ?_ ?_ | refine pre_consT ?_ ?_ | refine pre_tupT ?_ | refine pre_asg ?_ ?_ | refine pre_par ?_ | refine pre_for ?_ ?_ ?_ | exact pre_sortG | refine pre_slF ?_ ?_ ?_ | exact pre_nofs | refine pre_somef ?_ | exact pre_revG | exact pre_mxG | exact pre_sumG | exact pre_isG | refine pre_tru ?_ | refine pre_newZ ?_ | exact pre_tupZG | exact pre_catZG | refine pre_idx ?_ ?_ | refine pre_sortSet ?_ | exact pd_noD | assumption | exact pre_gcdG | exact pre_mxUG | refine pre_raiseX ?_ | exact pre_sort2G | exact pre_newDC | exact pd_is_int | exact pd_is_whole | exact pd__is_line | exact pd_is_web))
def d_check_web : FD := trimD (defF 1 b_check_web)
theorem pd_check_web : PreD d_check_web := pre_trimD pr_check_web
theorem ok_check_web {P : Program} {w : World} {K : PySem.W.Frag} {mg : Str → Option Value} {base : Heap} {Tb : List (Addr × Str)} {cl : Nat → Addr} {ql : Str} {cells : List (Str × Addr)} {lam : Nat → LamI} {f : Addr} {fd : FuncData} (T : Txt K mg cl) (F : Fun K "check_web" "check_web" s_check_web f fd) (hm : mg "check_web" = some (.ref f)) (B : Binds K fd P_check_web []) (G_is_web : DefOk P w K mg base (Tx.mk P w K Tb cl ql cells lam) "is_web" P_is_web 4 d_is_web) : DefOk P w K mg base (Tx.mk P w K Tb cl ql cells lam) "check_web" P_check_web 5 d_check_web :=
  DefOk.trim pr_check_web <| def_ok F hm B sc_check_web fun cdv A outer s H E hr => by
    have hu := hr.units
    exact (v_s1 (v_if (v_notT (v_val (v_callD G_is_web (hr.mono (by decide)) (takes_of rfl rfl rfl rfl) (v_cons (v_var 0) v_nil) (ar_cons ar_nil)))) (v_s1 (v_raise (c := 1) PySem.F.excBase_ValueError T.e_BadWeb.1 T.e_BadWeb.2.1 T.e_BadWeb.2.2.1 (raises_own T.e_BadWeb.2.2.2.1 T.e_BadWeb.2.2.2.2) (takes_of rfl rfl rfl rfl))) v_send))
abbrev s_is_node : Stmt := top 9
abbrev N_is_node : List Str := ["n", "value"]
abbrev P_is_node : List Str := ["n", "value"]
theorem sc_is_node : FnScope N_is_node P_is_node (defScope s_is_node) := ⟨rfl, rfl, rfl, by decide +kernel, rfl, by decide +kernel, by decide +kernel⟩
def b_is_node : FS := (retF (callF d_is_whole (consF (varF 1) (consF (conF (.int 0)) (consF (opF subG (varF 0) (conF (.int 1))) nilF)))))
theorem pr_is_node : PreD (defF 2 b_is_node) := pre_def (by unfold b_is_node; repeat' (first | exact pre_var | exact pre_con | exact pre_nil | exact pre_no | exact pre_noS | exact pre_newD | exact pre_lam0 | exact pre_lam1 | exact pre_send | exact pre_raise | exact pre_nameT | exact pre_nilT | exact pre_addG | exact pre_intG | exact pre_mulG | exact pre_cmpG | exact pre_eqG | exact pre_inG | exact pre_ixG | exact pre_negG | exact pre_lenG | exact pre_isiG | exact pre_twoG | exact pre_absG | exact pre_intC | exact pre_allG | exact pre_tupC | exact pre_lstC | refine pre_op ?_ ?_ ?_ | refine pre_un ?_ ?_ | refine pre_and ?_ ?_ | refine pre_or ?_ ?_ | refine pre_not ?_ | refine pre_ifF ?_ ?_ ?_ | refine pre_ch ?_ ?_ ?_ ?_ ?_ | refine pre_cons ?_ ?_ | refine pre_new ?_ | refine pre_cl ?_ ?_ | refine pre_call ?_ ?_ | refine pre_rg1 ?_ | refine pre_rg2 ?_ ?_ | refine pre_err ?_ | refine pre_seqI ?_ | refine pre_rg1I ?_ | refine pre_rg2I ?_ | refine pre_lc ?_ ?_ ?_ | refine pre_lc2 ?_ ?_ ?_ ?_ ?_ | refine pre_lenSet ?_ ?_ ?_ | refine pre_trim ?_ | refine pre_seq ?_ ?_ | refine pre_ret ?_ | refine pre_exp ?_ | refine pre_cond ?_ ?_ ?_ | refine pre_consT ?_ ?_ | refine pre_tupT ?_ | refine pre_asg ?_ ?_ | refine pre_par ?_ | refine pre_for ?_ ?_ ?_ | exact pre_sortG | refine pre_slF ?_ ?_ ?_ | exact pre_nofs | refine pre_somef ?_ | exact pre_revG | exact pre_mxG | exact pre_sumG | exact pre_isG | refine pre_tru ?_ | refine pre_newZ ?_ | exact pre_tupZG | exact pre_catZG | refine pre_idx ?_ ?_ | refine pre_sortSet ?_ | exact pd_noD | assumption | exact pre_gcdG | exact pre_mxUG | refine pre_raiseX ?_ | exact pre_sort2G | exact pre_newDC | exact pd_is_int | exact pd_is_whole | exact pd__is_line | exact pd_is_web | exact pd_check_web))
def d_is_node : FD := trimD (defF 2 b_is_node)
theorem pd_is_node : PreD d_is_node := pre_trimD pr_is_node
theorem ok_is_node {P : Program} {w : World} {K : PySem.W.Frag} {mg : Str → Option Value} {base : Heap} {Tb : List (Addr × Str)} {cl : Nat → Addr} {ql : Str} {cells : List (Str × Addr)} {lam : Nat → LamI} {f : Addr} {fd : FuncData} (T : Txt K mg cl) (F : Fun K "is_node" "is_node" s_is_node f fd) (hm : mg "is_node" = some (.ref f)) (B : Binds K fd P_is_node []) (G_is_whole : DefOk P w K mg base (Tx.mk P w K Tb cl ql cells lam) "is_whole" P_is_whole 2 d_is_whole) : DefOk P w K mg base (Tx.mk P w K Tb cl ql cells lam) "is_node" P_is_node 3 d_is_node :=
  DefOk.trim pr_is_node <| def_ok F hm B sc_is_node fun cdv A outer s H E hr => by
    have hu := hr.units
    exact (v_s1 (v_ret (v_callD G_is_whole (hr.mono (by decide)) (takes_of rfl rfl rfl rfl) (v_cons (v_var 1) (v_cons v_int (v_cons (v_op op_sub s_sub (v_var 0) v_int) v_nil))) (ar_cons (ar_cons (ar_cons ar_nil))))))
abbrev s_check_node : Stmt := top 10
abbrev N_check_node : List Str := ["n", "x"]
abbrev P_check_node : List Str := ["n", "x"]
theorem sc_check_node : FnScope N_check_node P_check_node (defScope s_check_node) := ⟨rfl, rfl, rfl, by decide +kernel, rfl, by decide +kernel, by decide +kernel⟩
def b_check_node : FS := (condF (notF (callF d_is_node (consF (varF 0) (consF (varF 1) nilF)))) (raiseF 2) endF)
theorem pr_check_node : PreD (defF 2 b_check_node) := pre_def (by unfold b_check_node; repeat' (first | exact pre_var | exact pre_con | exact pre_nil | exact pre_no | exact pre_noS | exact pre_newD | exact pre_lam0 | exact pre_lam1 | exact pre_send | exact pre_raise | exact pre_nameT | exact pre_nilT | exact pre_addG | exact pre_intG | exact pre_mulG | exact pre_cmpG | exact pre_eqG | exact pre_inG | exact pre_ixG | exact pre_negG | exact pre_lenG | exact pre_isiG | exact pre_twoG | exact pre_absG | exact pre_intC | exact pre_allG | exact pre_tupC | exact pre_lstC | refine pre_op ?_ ?_ ?_ | refine pre_un ?_ ?_ | refine pre_and ?_ ?_ | refine pre_or ?_ ?_ | refine pre_not ?_ | refine pre_ifF ?_ ?_ ?_ | refine pre_ch ?_ ?_ ?_ ?_ ?_ | refine pre_cons ?_ ?_ | refine pre_new ?_ | refine pre_cl ?_ ?_ | refine pre_call ?_ ?_ | refine pre_rg1 ?_ | refine pre_rg2 ?_ ?_ | refine pre_err ?_ | refine pre_seqI ?_ | refine pre_rg1I ?_ | refine pre_rg2I ?_ | refine pre_lc ?_ ?_ ?_ | refine pre_lc2 ?_ ?_ ?_ ?_ ?_ | refine pre_lenSet ?_ ?_ ?_ | refine pre_trim ?_ | refine pre_seq ?_ ?_ | refine pre_ret ?_ | refine pre_exp ?_ | refine pre_cond ?_ ?_ ?_ | refine pre_consT ?_ ?_ | refine pre_tupT ?_ | refine pre_asg ?_ ?_ | refine pre_par ?_ | refine pre_for ?_ ?_ ?_ | exact pre_sortG | refine pre_slF ?_ ?_ ?_ | exact pre_nofs | refine pre_somef ?_ | exact pre_revG | exact pre_mxG | exact pre_sumG | exact pre_isG | refine pre_tru ?_ | refine pre_newZ ?_ | exact pre_tupZG | exact pre_catZG | refine pre_idx ?_ ?_ | refine pre_sortSet ?_ | exact pd_noD | assumption | exact pre_gcdG | exact pre_mxUG | refine pre_raiseX ?_ | exact pre_sort2G | exact pre_newDC | exact pd_is_int | exact pd_is_whole | exact pd__is_line | exact pd_is_web | exact pd_check_web | exact pd_is_node))
def d_check_node : FD := trimD (defF 2 b_check_node)
theorem pd_check_node : PreD d_check_node := pre_trimD pr_check_node
theorem ok_check_node {P : Program} {w : World} {K : PySem.W.Frag} {mg : Str → Option Value} {base : Heap} {Tb : List (Addr × Str)} {cl : Nat → Addr} {ql : Str} {cells : List (Str × Addr)} {lam : Nat → LamI} {f : Addr} {fd : FuncData} (T : Txt K mg cl) (F : Fun K "check_node" "check_node" s_check_node f fd) (hm : mg "check_node" = some (.ref f)) (B : Binds K fd P_check_node []) (G_is_node : DefOk P w K mg base (Tx.mk P w K Tb cl ql cells lam) "is_node" P_is_node 3 d_is_node) : DefOk P w K mg base (Tx.mk P w K Tb cl ql cells lam) "check_node" P_check_node 4 d_check_node :=
  DefOk.trim pr_check_node <| def_ok F hm B sc_check_node fun cdv A outer s H E hr => by
    have hu := hr.units
    exact (v_s1 (v_if (v_notT (v_val (v_callD G_is_node (hr.mono (by decide)) (takes_of rfl rfl rfl rfl) (v_cons (v_var 0) (v_cons (v_var 1) v_nil)) (ar_cons (ar_cons ar_nil))))) (v_s1 (v_raise (c := 2) PySem.F.excBase_ValueError T.e_NoNode.1 T.e_NoNode.2.1 T.e_NoNode.2.2.1 (raises_own T.e_NoNode.2.2.2.1 T.e_NoNode.2.2.2.2) (takes_of rfl rfl rfl rfl))) v_send))
abbrev s_round_of : Stmt := top 17
abbrev N_round_of : List Str := ["web", "x", "y", "many"]
abbrev P_round_of : List Str := ["web", "x", "y"]
theorem sc_round_of : FnScope N_round_of P_round_of (defScope s_round_of) := ⟨rfl, rfl, rfl, by decide +kernel, rfl, by decide +kernel, by decide +kernel⟩
def b_round_of : FS := (seqF (expF (callF d_check_web (consF (varF 0) nilF))) (seqF (expF (callF d_check_node (consF (clF lenG (consF (varF 0) nilF)) (consF (varF 1) nilF)))) (seqF (expF (callF d_check_node (consF (clF lenG (consF (varF 0) nilF)) (consF (varF 2) nilF)))) (seqF (condF (opF (eqG false) (varF 1) (varF 2)) (raiseF 3) endF) (seqF (asgF (clF absG (consF (opF ixG (opF ixG (varF 0) (varF 1)) (varF 2)) nilF)) (nameT 3)) (retF (ifF (opF (cmpG fun i j => decide (i < j)) (varF 3) (conF (.int 2))) (opF addG (conF (.int 4)) (varF 3)) (conF .non))))))))
theorem pr_round_of : PreD (defF 4 b_round_of) := pre_def (by unfold b_round_of; repeat' (first | exact pre_var | exact pre_con | exact pre_nil | exact pre_no | exact pre_noS | exact pre_newD | exact pre_lam0 | exact pre_lam1 | exact pre_send | exact pre_raise | exact pre_nameT | exact pre_nilT | exact pre_addG | exact pre_intG | exact pre_mulG | exact pre_cmpG | exact pre_eqG | exact pre_inG | exact pre_ixG | exact pre_negG | exact pre_lenG | exact pre_isiG | exact pre_twoG | exact pre_absG | exact pre_intC | exact pre_allG | exact pre_tupC | exact pre_lstC | refine pre_op ?_ ?_ ?_ | refine pre_un ?_ ?_ | refine pre_and ?_ ?_ | refine pre_or ?_ ?_ | refine pre_not ?_ | refine pre_ifF ?_ ?_ ?_ | refine pre_ch ?_ ?_ ?_ ?_ ?_ | refine pre_cons ?_ ?_ | refine pre_new ?_ | refine pre_cl ?_ ?_ | refine pre_call ?_ ?_ | refine pre_rg1 ?_ | refine pre_rg2 ?_ ?_ | refine pre_err ?_ | refine pre_seqI ?_ | refine pre_rg1I ?_ | refine pre_rg2I ?_ | refine pre_lc ?_ ?_ ?_ | refine pre_lc2 ?_ ?_ ?_ ?_ ?_ | refine pre_lenSet ?_ ?_ ?_ | refine pre_trim ?_ | refine pre_seq ?_ ?_ | refine pre_ret ?_ | refine pre_exp ?_ | refine pre_cond ?_ ?_ ?_ | refine pre_consT ?_ ?_ | refine pre_tupT ?_ | refine pre_asg ?_ ?_ | refine pre_par ?_ | refine pre_for ?_ ?_ ?_ | exact pre_sortG | refine pre_slF ?_ ?_ ?_ | exact pre_nofs | refine pre_somef ?_ | exact pre_revG | exact pre_mxG | exact pre_sumG | exact pre_isG | refine pre_tru ?_ | refine pre_newZ ?_ | exact pre_tupZG | exact pre_catZG | refine pre_idx ?_ ?_ | refine pre_sortSet ?_ | exact pd_noD | assumption | exact pre_gcdG | exact pre_mxUG | refine pre_raiseX ?_ | exact pre_sort2G | exact pre_newDC | exact pd_is_int | exact pd_is_whole | exact pd__is_line | exact pd_is_web | exact pd_check_web | exact pd_is_node | exact pd_check_node))
def d_round_of : FD := trimD (defF 4 b_round_of)
theorem pd_round_of : PreD d_round_of := pre_trimD pr_round_of
theorem ok_round_of {P : Program} {w : World} {K : PySem.W.Frag} {mg : Str → Option Value} {base : Heap} {Tb : List (Addr × Str)} {cl : Nat → Addr} {ql : Str} {cells : List (Str × Addr)} {lam : Nat → LamI} {f : Addr} {fd : FuncData} (T : Txt K mg cl) (F : Fun K "round_of" "round_of" s_round_of f fd) (hm : mg "round_of" = some (.ref f)) (B : Binds K fd P_round_of []) (G_check_web : DefOk P w K mg base (Tx.mk P w K Tb cl ql cells lam) "check_web" P_check_web 5 d_check_web) (G_check_node : DefOk P w K mg base (Tx.mk P w K Tb cl ql cells lam) "check_node" P_check_node 4 d_check_node) : DefOk P w K mg base (Tx.mk P w K Tb cl ql cells lam) "round_of" P_round_of 6 d_round_of :=
  DefOk.trim pr_round_of <| def_ok F hm B sc_round_of fun cdv A outer s H E hr => by
    have hu := hr.units
    exact (v_seq (v_exp (v_callD G_check_web (hr.mono (by decide)) (takes_of rfl rfl rfl rfl) (v_cons (v_var 0) v_nil) (ar_cons ar_nil))) (v_seq (v_exp (v_callD G_check_node (hr.mono (by decide)) (takes_of rfl rfl rfl rfl) (v_cons (v_callB call_len (s_len rfl) T.n_len (by decide +kernel) (v_cons (v_var 0) v_nil)) (v_cons (v_var 1) v_nil)) (ar_cons (ar_cons ar_nil)))) (v_seq (v_exp (v_callD G_check_node (hr.mono (by decide)) (takes_of rfl rfl rfl rfl) (v_cons (v_callB call_len (s_len rfl) T.n_len (by decide +kernel) (v_cons (v_var 0) v_nil)) (v_cons (v_var 2) v_nil)) (ar_cons (ar_cons ar_nil)))) (v_seq (v_if (v_cmpT (op_eqD hu) (s_eq rfl) (v_var 1) (v_var 2)) (v_s1 (v_raise (c := 3) PySem.F.excBase_ValueError T.e_Alike.1 T.e_Alike.2.1 T.e_Alike.2.2.1 (raises_own T.e_Alike.2.2.2.1 T.e_Alike.2.2.2.2) (takes_of rfl rfl rfl rfl))) v_send) (v_seq (v_asg (v_callB call_abs s_abs T.n_abs (by decide +kernel) (v_cons (v_ix ix_U (s_ix rfl) (v_ix ix_U (s_ix rfl) (v_var 0) (v_var 1)) (v_var 2)) v_nil)) (v_gname 3 sc_round_of.nd)) (v_s1 (v_ret (v_ifE (v_cmpT op_lt s_cmp (v_var 3) v_int) (v_op op_addU (s_add rfl) v_int (v_var 3)) v_non))))))))
abbrev s__law_taken : Stmt := top 19
abbrev N__law_taken : List Str := ["row", "many", "found", "cell"]
abbrev P__law_taken : List Str := ["row", "many"]
theorem sc__law_taken : FnScope N__law_taken P__law_taken (defScope s__law_taken) := ⟨rfl, rfl, rfl, by decide +kernel, rfl, by decide +kernel, by decide +kernel⟩
def b__law_taken : FS := (seqF (condF (opF (cmpG fun i j => decide (i > j)) (opF ixG (varF 0) (conF (.int 3))) (conF (.int 0))) (seqF (asgF (opF modG (clF intC (consF (opF ixG (varF 0) (conF (.int 3))) nilF)) (varF 1)) (nameT 2)) (seqF (asgF (opF fdivG (opF ixG (varF 0) (conF (.int 3))) (varF 1)) (subT (varF 0) (conF (.int 3)))) (retF (varF 2)))) endF) (seqF (asgF (opF addG (opF ixG (varF 0) (conF (.int 1))) (conF (.int 1))) (subT (varF 0) (conF (.int 1)))) (seqF (condF (opF (cmpG fun i j => decide (i > j)) (opF ixG (varF 0) (conF (.int 1))) (clF lenG (consF (opF ixG (varF 0) (conF (.int 0))) nilF))) (seqF (asgF (opF modG (clF intC (consF (opF addG (opF mulG (opF ixG (varF 0) (conF (.int 2))) (conF (.int 48271))) (conF (.int 11))) nilF)) (conF (.int 2147483647))) (subT (varF 0) (conF (.int 2)))) (retF (opF modG (clF intC (consF (opF fdivG (opF ixG (varF 0) (conF (.int 2))) (conF (.int 7))) nilF)) (varF 1)))) endF) (seqF (asgF (opF ixG (opF ixG (varF 0) (conF (.int 0))) (opF subG (opF ixG (varF 0) (conF (.int 1))) (conF (.int 1)))) (nameT 3)) (seqF (asgF (opF modG (clF intC (consF (opF addG (opF addG (opF mulG (opF ixG (varF 0) (conF (.int 2))) (conF (.int 48271))) (varF 3)) (conF (.int 11))) nilF)) (conF (.int 2147483647))) (subT (varF 0) (conF (.int 2)))) (seqF (condF (opF (cmpG fun i j => decide (i ≥ j)) (varF 3) (opF powG (conF (.int 10)) (conF (.int 18)))) (asgF (opF fdivG (varF 3) (varF 1)) (subT (varF 0) (conF (.int 3)))) endF) (retF (opF modG (clF intC (consF (varF 3) nilF)) (varF 1)))))))))
def d__law_taken : FD := defF 4 b__law_taken
theorem ok__law_taken {P : Program} {w : World} {K : PySem.W.Frag} {mg : Str → Option Value} {base : Heap} {Tb : List (Addr × Str)} {cl : Nat → Addr} {ql : Str} {cells : List (Str × Addr)} {lam : Nat → LamI} {f : Addr} {fd : FuncData} (T : Txt K mg cl) (F : Fun K "_law_taken" "_law_taken" s__law_taken f fd) (hm : mg "_law_taken" = some (.ref f)) (B : Binds K fd P__law_taken [])  : DefOk P w K mg base (Tx.mk P w K Tb cl ql cells lam) "_law_taken" P__law_taken 1 d__law_taken :=
  def_ok F hm B sc__law_taken fun cdv A outer s H E hr => by
    have hu := hr.units
    exact (v_seq (v_if (v_cmpT op_gt s_cmp (v_ix ix_U (s_ix rfl) (v_var 0) v_int) v_int) (v_seq (v_asg (v_op op_modN s_mod (v_callTy call_int1 s_intC T.n_int (by decide +kernel) (v_cons (v_ix ix_U (s_ix rfl) (v_var 0) v_int) v_nil)) (v_var 1)) (v_gname 2 sc__law_taken.nd)) (v_seq (v_asg (v_op op_fdivU s_fdiv (v_ix ix_U (s_ix rfl) (v_var 0) v_int) (v_var 1)) (v_gsub (W := W0) (v_var 0) v_int (pg_sub (v_var 0) v_int set_list))) (v_s1 (v_ret (v_var 2))))) v_send) (v_seq (v_asg (v_op op_addU (s_add rfl) (v_ix ix_U (s_ix rfl) (v_var 0) v_int) v_int) (v_gsub (W := W0) (v_var 0) v_int (pg_sub (v_var 0) v_int set_list))) (v_seq (v_if (v_cmpT op_gt s_cmp (v_ix ix_U (s_ix rfl) (v_var 0) v_int) (v_callB call_len (s_len rfl) T.n_len (by decide +kernel) (v_cons (v_ix ix_U (s_ix rfl) (v_var 0) v_int) v_nil))) (v_seq (v_asg (v_op op_modN s_mod (v_callTy call_int1 s_intC T.n_int (by decide +kernel) (v_cons (v_op op_addU (s_add rfl) (v_op op_mulU (s_mul rfl) (v_ix ix_U (s_ix rfl) (v_var 0) v_int) v_int) v_int) v_nil)) v_int) (v_gsub (W := W0) (v_var 0) v_int (pg_sub (v_var 0) v_int set_list))) (v_s1 (v_ret (v_op op_modN s_mod (v_callTy call_int1 s_intC T.n_int (by decide +kernel) (v_cons (v_op op_fdivU s_fdiv (v_ix ix_U (s_ix rfl) (v_var 0) v_int) v_int) v_nil)) (v_var 1))))) v_send) (v_seq (v_asg (v_ix ix_U (s_ix rfl) (v_ix ix_U (s_ix rfl) (v_var 0) v_int) (v_op op_sub s_sub (v_ix ix_U (s_ix rfl) (v_var 0) v_int) v_int)) (v_gname 3 sc__law_taken.nd)) (v_seq (v_asg (v_op op_modN s_mod (v_callTy call_int1 s_intC T.n_int (by decide +kernel) (v_cons (v_op op_addU (s_add rfl) (v_op op_addU (s_add rfl) (v_op op_mulU (s_mul rfl) (v_ix ix_U (s_ix rfl) (v_var 0) v_int) v_int) (v_var 3)) v_int) v_nil)) v_int) (v_gsub (W := W0) (v_var 0) v_int (pg_sub (v_var 0) v_int set_list))) (v_seq (v_if (v_cmpT op_ge s_cmp (v_var 3) (v_op op_powU s_pow v_int v_int)) (v_s1 (v_asg (v_op op_fdivU s_fdiv (v_var 3) (v_var 1)) (v_gsub (W := W0) (v_var 0) v_int (pg_sub (v_var 0) v_int set_list)))) v_send) (v_s1 (v_ret (v_op op_modN s_mod (v_callTy call_int1 s_intC T.n_int (by decide +kernel) (v_cons (v_var 3) v_nil)) (v_var 1))))))))))
abbrev s__law_pick : Stmt := top 20
abbrev N__law_pick : List Str := ["row", "things"]
abbrev P__law_pick : List Str := ["row", "things"]
theorem sc__law_pick : FnScope N__law_pick P__law_pick (defScope s__law_pick) := ⟨rfl, rfl, rfl, by decide +kernel, rfl, by decide +kernel, by decide +kernel⟩
def b__law_pick : FS := (retF (opF ixG (varF 1) (callF d__law_taken (consF (varF 0) (consF (clF lenG (consF (varF 1) nilF)) nilF)))))
def d__law_pick : FD := defF 2 b__law_pick
theorem ok__law_pick {P : Program} {w : World} {K : PySem.W.Frag} {mg : Str → Option Value} {base : Heap} {Tb : List (Addr × Str)} {cl : Nat → Addr} {ql : Str} {cells : List (Str × Addr)} {lam : Nat → LamI} {f : Addr} {fd : FuncData} (T : Txt K mg cl) (F : Fun K "_law_pick" "_law_pick" s__law_pick f fd) (hm : mg "_law_pick" = some (.ref f)) (B : Binds K fd P__law_pick []) (G__law_taken : DefOk P w K mg base (Tx.mk P w K Tb cl ql cells lam) "_law_taken" P__law_taken 1 d__law_taken) : DefOk P w K mg base (Tx.mk P w K Tb cl ql cells lam) "_law_pick" P__law_pick 2 d__law_pick :=
  def_ok F hm B sc__law_pick fun cdv A outer s H E hr => by
    have hu := hr.units
    exact (v_s1 (v_ret (v_ix ix_U (s_ix rfl) (v_var 1) (v_callD G__law_taken (hr.mono (by decide)) (takes_of rfl rfl rfl rfl) (v_cons (v_var 0) (v_cons (v_callB call_len (s_len rfl) T.n_len (by decide +kernel) (v_cons (v_var 1) v_nil)) v_nil)) (ar_cons (ar_cons ar_nil))))))
abbrev s__law_web : Stmt := top 22
abbrev N__law_web : List Str := ["row", "most", "strong", "n", "way", "table", "x", "z", "y", "many", "line"]
abbrev P__law_web : List Str := ["row", "most", "strong"]
theorem sc__law_web : FnScope N__law_web P__law_web (defScope s__law_web) := ⟨rfl, rfl, rfl, by decide +kernel, rfl, by decide +kernel, by decide +kernel⟩
def b__law_web : FS := (seqF (asgF (newF O.tup (consF (opF addG (conF (.int 1)) (callF d__law_taken (consF (varF 0) (consF (varF 1) nilF)))) (consF (callF d__law_taken (consF (varF 0) (consF (conF (.int 5)) nilF))) nilF))) (tupT 2 (consT (nameT 3) (consT (nameT 4) nilT)))) (seqF (asgF (lcF (rg1I (consF (varF 3) nilF)) (nameX 6) [6] (conF (.bl true)) (opF mulG (newF O.lst (consF (conF (.int 0)) nilF)) (varF 3))) (nameT 5)) (seqF (forF (rg2I (consF (conF (.int 1)) (consF (varF 3) nilF))) (nameT 7) (forF (rg1I (consF (varF 7) nilF)) (nameT 8) (seqF (asgF (conF (.int 0)) (nameT 9)) (seqF (condF (opF (cmpG fun i j => decide (i < j)) (varF 4) (conF (.int 2))) (asgF (opF mulG (callF d__law_pick (consF (varF 0) (consF (newF O.lst (consF (conF (.int 0)) (consF (conF (.int 0)) (consF (conF (.int 1)) (consF (opF subG (conF (.int 0)) (conF (.int 1))) nilF))))) nilF))) (opF addG (conF (.int 1)) (callF d__law_taken (consF (varF 0) (consF (varF 2) nilF))))) (nameT 9)) (condF (opF (eqG false) (varF 4) (conF (.int 2))) (asgF (opF mulG (callF d__law_pick (consF (varF 0) (consF (newF O.lst (consF (conF (.int 1)) (consF (opF subG (conF (.int 0)) (conF (.int 1))) nilF))) nilF))) (clF intC (consF (opF (eqG false) (varF 8) (opF subG (varF 7) (conF (.int 1)))) nilF))) (nameT 9)) (condF (opF (eqG false) (varF 4) (conF (.int 3))) (asgF (opF subG (clF intC (consF (opF (eqG false) (varF 8) (opF subG (varF 7) (conF (.int 1)))) nilF)) (clF intC (consF (andF (opF (eqG false) (varF 8) (conF (.int 0))) (andF (opF (eqG false) (varF 7) (opF subG (varF 3) (conF (.int 1)))) (opF (cmpG fun i j => decide (i > j)) (varF 3) (conF (.int 2))))) nilF))) (nameT 9)) endF))) (asgF (newF O.tup (consF (varF 9) (consF (opF subG (conF (.int 0)) (varF 9)) nilF))) (tupT 2 (consT (subT (opF ixG (varF 5) (varF 8)) (varF 7)) (consT (subT (opF ixG (varF 5) (varF 7)) (varF 8)) nilT)))))))) (seqF (condF (opF (eqG false) (varF 4) (conF (.int 4))) (forF (rg2I (consF (conF (.int 1)) (consF (varF 3) nilF))) (nameT 7) (seqF (parF 8 9 (consF (callF d__law_taken (consF (varF 0) (consF (varF 7) nilF))) (consF (callF d__law_pick (consF (varF 0) (consF (newF O.lst (consF (conF (.int 1)) (consF (opF subG (conF (.int 0)) (conF (.int 1))) nilF))) nilF))) nilF))) (asgF (newF O.tup (consF (varF 9) (consF (opF subG (conF (.int 0)) (varF 9)) nilF))) (tupT 2 (consT (subT (opF ixG (varF 5) (varF 8)) (varF 7)) (consT (subT (opF ixG (varF 5) (varF 7)) (varF 8)) nilT)))))) endF) (retF (clF tupC (consF (lcF (seqI (varF 5)) (nameX 10) [10] (conF (.bl true)) (clF tupC (consF (varF 10) nilF))) nilF)))))))
def d__law_web : FD := defF 11 b__law_web
theorem ok__law_web {P : Program} {w : World} {K : PySem.W.Frag} {mg : Str → Option Value} {base : Heap} {Tb : List (Addr × Str)} {cl : Nat → Addr} {ql : Str} {cells : List (Str × Addr)} {lam : Nat → LamI} {f : Addr} {fd : FuncData} (T : Txt K mg cl) (F : Fun K "_law_web" "_law_web" s__law_web f fd) (hm : mg "_law_web" = some (.ref f)) (B : Binds K fd P__law_web []) (G__law_taken : DefOk P w K mg base (Tx.mk P w K Tb cl ql cells lam) "_law_taken" P__law_taken 1 d__law_taken) (G__law_pick : DefOk P w K mg base (Tx.mk P w K Tb cl ql cells lam) "_law_pick" P__law_pick 2 d__law_pick) : DefOk P w K mg base (Tx.mk P w K Tb cl ql cells lam) "_law_web" P__law_web 3 d__law_web :=
  def_ok F hm B sc__law_web fun cdv A outer s H E hr => by
    have hu := hr.units
    exact (v_seq (v_asg (v_tup (v_cons (v_op op_addU (s_add rfl) v_int (v_callD G__law_taken (hr.mono (by decide)) (takes_of rfl rfl rfl rfl) (v_cons (v_var 0) (v_cons (v_var 1) v_nil)) (ar_cons (ar_cons ar_nil)))) (v_cons (v_callD G__law_taken (hr.mono (by decide)) (takes_of rfl rfl rfl rfl) (v_cons (v_var 0) (v_cons v_int v_nil)) (ar_cons (ar_cons ar_nil))) v_nil))) (v_gtupS rfl (pg_tup rfl (v_gcons (v_gname 3 sc__law_web.nd) (v_gcons (v_gname 4 sc__law_web.nd) v_gnil))))) (v_seq (v_setLc [("x", 6)] (i := 5) sc__law_web.nd rfl rfl (sw_true rfl rfl rfl (by decide +kernel)) (v_irg1 T.n_range (v_cons (v_var 3) v_nil)) (blkOk_by (N := N__law_web) (sc := defScope s__law_web) (by decide +kernel)) (fun _ _ _ _ _ => (v_xname 6 (by decide) sc__law_web.nd)) (fun _ _ _ _ _ => v_ts0) (fun _ _ _ _ _ => (v_op op_mulU (s_mul rfl) (v_lst (v_cons v_int v_nil)) (v_var 3)))) (v_seq (v_forS (passes_of rfl) (v_irg2 T.n_range (v_cons v_int (v_cons (v_var 3) v_nil))) (v_gname 7 sc__law_web.nd) (v_s1 (v_forS (passes_of rfl) (v_irg1 T.n_range (v_cons (v_var 7) v_nil)) (v_gname 8 sc__law_web.nd) (v_seq (v_asg v_int (v_gname 9 sc__law_web.nd)) (v_seq (v_if (v_cmpT op_lt s_cmp (v_var 4) v_int) (v_s1 (v_asg (v_op op_mulU (s_mul rfl) (v_callD G__law_pick (hr.mono (by decide)) (takes_of rfl rfl rfl rfl) (v_cons (v_var 0) (v_cons (v_lst (v_cons v_int (v_cons v_int (v_cons v_int (v_cons (v_op op_sub s_sub v_int v_int) v_nil))))) v_nil)) (ar_cons (ar_cons ar_nil))) (v_op op_addU (s_add rfl) v_int (v_callD G__law_taken (hr.mono (by decide)) (takes_of rfl rfl rfl rfl) (v_cons (v_var 0) (v_cons (v_var 2) v_nil)) (ar_cons (ar_cons ar_nil))))) (v_gname 9 sc__law_web.nd))) (v_s1 (v_if (v_cmpT (op_eqD hu) (s_eq rfl) (v_var 4) v_int) (v_s1 (v_asg (v_op op_mulU (s_mul rfl) (v_callD G__law_pick (hr.mono (by decide)) (takes_of rfl rfl rfl rfl) (v_cons (v_var 0) (v_cons (v_lst (v_cons v_int (v_cons (v_op op_sub s_sub v_int v_int) v_nil))) v_nil)) (ar_cons (ar_cons ar_nil))) (v_callTy call_int1 s_intC T.n_int (by decide +kernel) (v_cons (v_cmp (op_eqD hu) (s_eq rfl) (v_var 8) (v_op op_sub s_sub (v_var 7) v_int)) v_nil))) (v_gname 9 sc__law_web.nd))) (v_s1 (v_if (v_cmpT (op_eqD hu) (s_eq rfl) (v_var 4) v_int) (v_s1 (v_asg (v_op op_sub s_sub (v_callTy call_int1 s_intC T.n_int (by decide +kernel) (v_cons (v_cmp (op_eqD hu) (s_eq rfl) (v_var 8) (v_op op_sub s_sub (v_var 7) v_int)) v_nil)) (v_callTy call_int1 s_intC T.n_int (by decide +kernel) (v_cons (v_and (v_cmp (op_eqD hu) (s_eq rfl) (v_var 8) v_int) (v_and (v_cmp (op_eqD hu) (s_eq rfl) (v_var 7) (v_op op_sub s_sub (v_var 3) v_int)) (v_one (v_cmp op_gt s_cmp (v_var 3) v_int)))) v_nil))) (v_gname 9 sc__law_web.nd))) v_send))))) (v_s1 (v_asg (v_tup (v_cons (v_var 9) (v_cons (v_op op_sub s_sub v_int (v_var 9)) v_nil))) (v_gtupS rfl (pg_tup rfl (v_gcons (v_gsub (W := W0) (v_ix ix_U (s_ix rfl) (v_var 5) (v_var 8)) (v_var 7) (pg_sub (v_ix ix_U (s_ix rfl) (v_var 5) (v_var 8)) (v_var 7) set_list)) (v_gcons (v_gsub (W := W0) (v_ix ix_U (s_ix rfl) (v_var 5) (v_var 7)) (v_var 8) (pg_sub (v_ix ix_U (s_ix rfl) (v_var 5) (v_var 7)) (v_var 8) set_list)) v_gnil))))))))))) (v_seq (v_if (v_cmpT (op_eqD hu) (s_eq rfl) (v_var 4) v_int) (v_s1 (v_forS (passes_of rfl) (v_irg2 T.n_range (v_cons v_int (v_cons (v_var 3) v_nil))) (v_gname 7 sc__law_web.nd) (v_seq (v_par (i := 8) (j := 9) sc__law_web.nd (v_cons (v_callD G__law_taken (hr.mono (by decide)) (takes_of rfl rfl rfl rfl) (v_cons (v_var 0) (v_cons (v_var 7) v_nil)) (ar_cons (ar_cons ar_nil))) (v_cons (v_callD G__law_pick (hr.mono (by decide)) (takes_of rfl rfl rfl rfl) (v_cons (v_var 0) (v_cons (v_lst (v_cons v_int (v_cons (v_op op_sub s_sub v_int v_int) v_nil))) v_nil)) (ar_cons (ar_cons ar_nil))) v_nil))) (v_s1 (v_asg (v_tup (v_cons (v_var 9) (v_cons (v_op op_sub s_sub v_int (v_var 9)) v_nil))) (v_gtupS rfl (pg_tup rfl (v_gcons (v_gsub (W := W0) (v_ix ix_U (s_ix rfl) (v_var 5) (v_var 8)) (v_var 7) (pg_sub (v_ix ix_U (s_ix rfl) (v_var 5) (v_var 8)) (v_var 7) set_list)) (v_gcons (v_gsub (W := W0) (v_ix ix_U (s_ix rfl) (v_var 5) (v_var 7)) (v_var 8) (pg_sub (v_ix ix_U (s_ix rfl) (v_var 5) (v_var 7)) (v_var 8) set_list)) v_gnil))))))))) v_send) (v_s1 (v_ret (v_callTy call_tuple_of (s_tupC rfl) T.n_tuple (by decide +kernel) (v_cons (v_lc [("line", 10)] sc__law_web.nd (v_iseq rfl (v_var 5)) (blkOk_by (N := N__law_web) (sc := defScope s__law_web) (by decide +kernel)) (fun _ _ _ _ _ => (v_xname 10 (by decide) sc__law_web.nd)) (fun _ _ _ _ _ => v_ts0) (fun _ _ _ _ _ => (v_callTy call_tuple_of (s_tupC rfl) T.n_tuple (by decide +kernel) (v_cons (v_var 10) v_nil)))) v_nil))))))))
abbrev s__law_alike : Stmt := top 21
abbrev N__law_alike : List Str := ["found", "due", "k", "key"]
abbrev P__law_alike : List Str := ["found", "due"]
theorem sc__law_alike : FnScope N__law_alike P__law_alike (defScope s__law_alike) := ⟨rfl, rfl, rfl, by decide +kernel, rfl, by decide +kernel, by decide +kernel⟩
abbrev d__law_alike_0 : FD := noD
def b__law_alike (d__law_alike_0 : FD) : FS := (seqF (condF (trimF (clF isiG (consF (varF 1) (consF (newF O.tup (consF (conF (.ty "tuple")) (consF (conF (.ty "list")) nilF))) nilF)))) (seqF (condF (trimF (orF (notF (clF isiG (consF (varF 0) (consF (newF O.tup (consF (conF (.ty "tuple")) (consF (conF (.ty "list")) nilF))) nilF)))) (opF (eqG true) (clF isiG (consF (varF 0) (consF (conF (.ty "list")) nilF))) (clF isiG (consF (varF 1) (consF (conF (.ty "list")) nilF)))))) (retF (conF (.bl false))) endF) (seqF (condF (opF (eqG true) (clF lenG (consF (varF 0) nilF)) (clF lenG (consF (varF 1) nilF))) (retF (conF (.bl false))) endF) (retF (opF (eqG false) (lcF (rg1I (consF (clF lenG (consF (varF 1) nilF)) nilF)) (nameX 2) [2] (notF (callF d__law_alike_0 (consF (opF ixG (varF 0) (varF 2)) (consF (opF ixG (varF 1) (varF 2)) nilF)))) (varF 2)) (newF O.lst nilF))))) endF) (seqF (condF (clF isiG (consF (varF 1) (consF (conF (.ty "dict")) nilF))) (seqF (condF (orF (notF (clF isiG (consF (varF 0) (consF (conF (.ty "dict")) nilF)))) (opF (eqG true) (clF sort2G (consF (varF 0) nilF)) (clF sort2G (consF (varF 1) nilF)))) (retF (conF (.bl false))) endF) (retF (opF (eqG false) (lcF (seqI (varF 1)) (nameX 3) [3] (notF (callF d__law_alike_0 (consF (opF ixG (varF 0) (varF 3)) (consF (opF ixG (varF 1) (varF 3)) nilF)))) (varF 3)) (newF O.lst nilF)))) endF) (seqF (condF (orF (opF (isG false) (varF 1) (conF .non)) (clF isiG (consF (varF 1) (consF (conF (.ty "str")) nilF)))) (retF (andF (opF (eqG false) (varF 0) (varF 1)) (opF (eqG false) (clF isiG (consF (varF 0) (consF (conF (.ty "str")) nilF))) (clF isiG (consF (varF 1) (consF (conF (.ty "str")) nilF)))))) endF) (retF (andF (clF isiG (consF (varF 0) (consF (conF (.ty "int")) nilF))) (andF (opF (eqG false) (clF isiG (consF (varF 0) (consF (conF (.ty "bool")) nilF))) (clF isiG (consF (varF 1) (consF (conF (.ty "bool")) nilF)))) (opF (eqG false) (varF 0) (varF 1))))))))
theorem pr__law_alike {d : FD} (hd : PreD d) : PreD (defF 4 (b__law_alike d)) := pre_def (by unfold b__law_alike; repeat' (first | exact pre_var | exact pre_con | exact pre_nil | exact pre_no | exact pre_noS | exact pre_newD | exact pre_lam0 | exact pre_lam1 | exact pre_send | exact pre_raise | exact pre_nameT | exact pre_nilT | exact pre_addG | exact pre_intG | exact pre_mulG | exact pre_cmpG | exact pre_eqG | exact pre_inG | exact pre_ixG | exact pre_negG | exact pre_lenG | exact pre_isiG | exact pre_twoG | exact pre_absG | exact pre_intC | exact pre_allG | exact pre_tupC | exact pre_lstC | refine pre_op ?_ ?_ ?_ | refine pre_un ?_ ?_ | refine pre_and ?_ ?_ | refine pre_or ?_ ?_ | refine pre_not ?_ | refine pre_ifF ?_ ?_ ?_ | refine pre_ch ?_ ?_ ?_ ?_ ?_ | refine pre_cons ?_ ?_ | refine pre_new ?_ | refine pre_cl ?_ ?_ | refine pre_call ?_ ?_ | refine pre_rg1 ?_ | refine pre_rg2 ?_ ?_ | refine pre_err ?_ | refine pre_seqI ?_ | refine pre_rg1I ?_ | refine pre_rg2I ?_ | refine pre_lc ?_ ?_ ?_ | refine pre_lc2 ?_ ?_ ?_ ?_ ?_ | refine pre_lenSet ?_ ?_ ?_ | refine pre_trim ?_ | refine pre_seq ?_ ?_ | refine pre_ret ?_ | refine pre_exp ?_ | refine pre_cond ?_ ?_ ?_ | refine pre_consT ?_ ?_ | refine pre_tupT ?_ | refine pre_asg ?_ ?_ | refine pre_par ?_ | refine pre_for ?_ ?_ ?_ | exact pre_sortG | refine pre_slF ?_ ?_ ?_ | exact pre_nofs | refine pre_somef ?_ | exact pre_revG | exact pre_mxG | exact pre_sumG | exact pre_isG | refine pre_tru ?_ | refine pre_newZ ?_ | exact pre_tupZG | exact pre_catZG | refine pre_idx ?_ ?_ | refine pre_sortSet ?_ | exact pd_noD | assumption | exact pre_gcdG | exact pre_mxUG | refine pre_raiseX ?_ | exact pre_sort2G | exact pre_newDC | exact pd_is_int | exact pd_is_whole | exact pd__is_line | exact pd_is_web | exact pd_check_web | exact pd_is_node | exact pd_check_node | exact pd_round_of))
def d__law_alike_1 : FD := trimD (defF 4 (b__law_alike d__law_alike_0))
theorem pd__law_alike_1 : PreD d__law_alike_1 := pre_trimD (pr__law_alike pd_noD)
theorem ok__law_alike_1 {P : Program} {w : World} {K : PySem.W.Frag} {mg : Str → Option Value} {base : Heap} {Tb : List (Addr × Str)} {cl : Nat → Addr} {ql : Str} {cells : List (Str × Addr)} {lam : Nat → LamI} {f : Addr} {fd : FuncData} (T : Txt K mg cl) (F : Fun K "_law_alike" "_law_alike" s__law_alike f fd) (hm : mg "_law_alike" = some (.ref f)) (B : Binds K fd P__law_alike [])  (G__law_alike_0 : DefOk P w K mg base (Tx.mk P w K Tb cl ql cells lam) "_law_alike" P__law_alike 0 d__law_alike_0) : DefOk P w K mg base (Tx.mk P w K Tb cl ql cells lam) "_law_alike" P__law_alike 1 d__law_alike_1 :=
  DefOk.trim (pr__law_alike pd_noD) <| def_ok F hm B sc__law_alike fun cdv A outer s H E hr => by
    have hu := hr.units
    exact (v_seq (v_if (v_trimT (by repeat' (first | exact pre_var | exact pre_con | exact pre_nil | exact pre_no | exact pre_noS | exact pre_newD | exact pre_lam0 | exact pre_lam1 | exact pre_send | exact pre_raise | exact pre_nameT | exact pre_nilT | exact pre_addG | exact pre_intG | exact pre_mulG | exact pre_cmpG | exact pre_eqG | exact pre_inG | exact pre_ixG | exact pre_negG | exact pre_lenG | exact pre_isiG | exact pre_twoG | exact pre_absG | exact pre_intC | exact pre_allG | exact pre_tupC | exact pre_lstC | refine pre_op ?_ ?_ ?_ | refine pre_un ?_ ?_ | refine pre_and ?_ ?_ | refine pre_or ?_ ?_ | refine pre_not ?_ | refine pre_ifF ?_ ?_ ?_ | refine pre_ch ?_ ?_ ?_ ?_ ?_ | refine pre_cons ?_ ?_ | refine pre_new ?_ | refine pre_cl ?_ ?_ | refine pre_call ?_ ?_ | refine pre_rg1 ?_ | refine pre_rg2 ?_ ?_ | refine pre_err ?_ | refine pre_seqI ?_ | refine pre_rg1I ?_ | refine pre_rg2I ?_ | refine pre_lc ?_ ?_ ?_ | refine pre_lc2 ?_ ?_ ?_ ?_ ?_ | refine pre_lenSet ?_ ?_ ?_ | refine pre_trim ?_ | refine pre_seq ?_ ?_ | refine pre_ret ?_ | refine pre_exp ?_ | refine pre_cond ?_ ?_ ?_ | refine pre_consT ?_ ?_ | refine pre_tupT ?_ | refine pre_asg ?_ ?_ | refine pre_par ?_ | refine pre_for ?_ ?_ ?_ | exact pre_sortG | refine pre_slF ?_ ?_ ?_ | exact pre_nofs | refine pre_somef ?_ | exact pre_revG | exact pre_mxG | exact pre_sumG | exact pre_isG | refine pre_tru ?_ | refine pre_newZ ?_ | exact pre_tupZG | exact pre_catZG | refine pre_idx ?_ ?_ | refine pre_sortSet ?_ | exact pd_noD | assumption | exact pre_gcdG | exact pre_mxUG | refine pre_raiseX ?_ | exact pre_sort2G | exact pre_newDC | exact pd_is_int | exact pd_is_whole | exact pd__is_line | exact pd_is_web | exact pd_check_web | exact pd_is_node | exact pd_check_node | exact pd_round_of)) (v_val (v_callB isi_U (s_isi rfl) T.n_isinstance (by decide +kernel) (v_cons (v_var 1) (v_cons (v_tup (v_cons (v_ty T.n_tuple PyProof.Rows.boot_tuple) (v_cons (v_ty T.n_list PyProof.Rows.boot_list) v_nil))) v_nil))))) (v_seq (v_if (v_trimT (by repeat' (first | exact pre_var | exact pre_con | exact pre_nil | exact pre_no | exact pre_noS | exact pre_newD | exact pre_lam0 | exact pre_lam1 | exact pre_send | exact pre_raise | exact pre_nameT | exact pre_nilT | exact pre_addG | exact pre_intG | exact pre_mulG | exact pre_cmpG | exact pre_eqG | exact pre_inG | exact pre_ixG | exact pre_negG | exact pre_lenG | exact pre_isiG | exact pre_twoG | exact pre_absG | exact pre_intC | exact pre_allG | exact pre_tupC | exact pre_lstC | refine pre_op ?_ ?_ ?_ | refine pre_un ?_ ?_ | refine pre_and ?_ ?_ | refine pre_or ?_ ?_ | refine pre_not ?_ | refine pre_ifF ?_ ?_ ?_ | refine pre_ch ?_ ?_ ?_ ?_ ?_ | refine pre_cons ?_ ?_ | refine pre_new ?_ | refine pre_cl ?_ ?_ | refine pre_call ?_ ?_ | refine pre_rg1 ?_ | refine pre_rg2 ?_ ?_ | refine pre_err ?_ | refine pre_seqI ?_ | refine pre_rg1I ?_ | refine pre_rg2I ?_ | refine pre_lc ?_ ?_ ?_ | refine pre_lc2 ?_ ?_ ?_ ?_ ?_ | refine pre_lenSet ?_ ?_ ?_ | refine pre_trim ?_ | refine pre_seq ?_ ?_ | refine pre_ret ?_ | refine pre_exp ?_ | refine pre_cond ?_ ?_ ?_ | refine pre_consT ?_ ?_ | refine pre_tupT ?_ | refine pre_asg ?_ ?_ | refine pre_par ?_ | refine pre_for ?_ ?_ ?_ | exact pre_sortG | refine pre_slF ?_ ?_ ?_ | exact pre_nofs | refine pre_somef ?_ | exact pre_revG | exact pre_mxG | exact pre_sumG | exact pre_isG | refine pre_tru ?_ | refine pre_newZ ?_ | exact pre_tupZG | exact pre_catZG | refine pre_idx ?_ ?_ | refine pre_sortSet ?_ | exact pd_noD | assumption | exact pre_gcdG | exact pre_mxUG | refine pre_raiseX ?_ | exact pre_sort2G | exact pre_newDC | exact pd_is_int | exact pd_is_whole | exact pd__is_line | exact pd_is_web | exact pd_check_web | exact pd_is_node | exact pd_check_node | exact pd_round_of)) (L2.PW.pt (v_wor (v_notT (v_val (v_callB isi_U (s_isi rfl) T.n_isinstance (by decide +kernel) (v_cons (v_var 0) (v_cons (v_tup (v_cons (v_ty T.n_tuple PyProof.Rows.boot_tuple) (v_cons (v_ty T.n_list PyProof.Rows.boot_list) v_nil))) v_nil))))) (v_wor1 (v_cmpT (op_neD hu) (s_ne rfl) (v_callB isi_U (s_isi rfl) T.n_isinstance (by decide +kernel) (v_cons (v_var 0) (v_cons (v_ty T.n_list PyProof.Rows.boot_list) v_nil))) (v_callB isi_U (s_isi rfl) T.n_isinstance (by decide +kernel) (v_cons (v_var 1) (v_cons (v_ty T.n_list PyProof.Rows.boot_list) v_nil)))))))) (v_s1 (v_ret v_bl)) v_send) (v_seq (v_if (v_cmpT (op_neD hu) (s_ne rfl) (v_callB call_len (s_len rfl) T.n_len (by decide +kernel) (v_cons (v_var 0) v_nil)) (v_callB call_len (s_len rfl) T.n_len (by decide +kernel) (v_cons (v_var 1) v_nil))) (v_s1 (v_ret v_bl)) v_send) (v_s1 (v_ret (v_cmp (op_eqD hu) (s_eq rfl) (v_lc [("k", 2)] sc__law_alike.nd (v_irg1 T.n_range (v_cons (v_callB call_len (s_len rfl) T.n_len (by decide +kernel) (v_cons (v_var 1) v_nil)) v_nil)) (blkOk_by (N := N__law_alike) (sc := defScope s__law_alike) (by decide +kernel)) (fun _ _ _ _ _ => (v_xname 2 (by decide) sc__law_alike.nd)) (fun _ _ _ _ _ => (v_ts1 (v_notT (v_val (v_callD G__law_alike_0 (hr.mono (by decide)) takesW0 (v_cons (v_ix ix_U (s_ix rfl) (v_var 0) (v_var 2)) (v_cons (v_ix ix_U (s_ix rfl) (v_var 1) (v_var 2)) v_nil)) (ar_cons (ar_cons ar_nil))))))) (fun _ _ _ _ _ => (v_var 2))) (v_lst v_nil)))))) v_send) (v_seq (v_if (v_val (v_callB isi_U (s_isi rfl) T.n_isinstance (by decide +kernel) (v_cons (v_var 1) (v_cons (v_ty T.n_dict PyProof.Rows.boot_dict) v_nil)))) (v_seq (v_if (L2.PW.pt (v_wor (v_notT (v_val (v_callB isi_U (s_isi rfl) T.n_isinstance (by decide +kernel) (v_cons (v_var 0) (v_cons (v_ty T.n_dict PyProof.Rows.boot_dict) v_nil))))) (v_wor1 (v_cmpT (op_neD hu) (s_ne rfl) (v_callB cr_sort2 (s_sort2 rfl) T.n_sorted (by decide +kernel) (v_cons (v_var 0) v_nil)) (v_callB cr_sort2 (s_sort2 rfl) T.n_sorted (by decide +kernel) (v_cons (v_var 1) v_nil)))))) (v_s1 (v_ret v_bl)) v_send) (v_s1 (v_ret (v_cmp (op_eqD hu) (s_eq rfl) (v_lc [("key", 3)] sc__law_alike.nd (v_iseq rfl (v_var 1)) (blkOk_by (N := N__law_alike) (sc := defScope s__law_alike) (by decide +kernel)) (fun _ _ _ _ _ => (v_xname 3 (by decide) sc__law_alike.nd)) (fun _ _ _ _ _ => (v_ts1 (v_notT (v_val (v_callD G__law_alike_0 (hr.mono (by decide)) takesW0 (v_cons (v_ix ix_U (s_ix rfl) (v_var 0) (v_var 3)) (v_cons (v_ix ix_U (s_ix rfl) (v_var 1) (v_var 3)) v_nil)) (ar_cons (ar_cons ar_nil))))))) (fun _ _ _ _ _ => (v_var 3))) (v_lst v_nil))))) v_send) (v_seq (v_if (L2.PW.pt (v_wor (v_cmpT op_isU s_isU (v_var 1) v_non) (v_wor1 (v_val (v_callB isi_U (s_isi rfl) T.n_isinstance (by decide +kernel) (v_cons (v_var 1) (v_cons (v_ty T.n_str PyProof.Rows.boot_str) v_nil))))))) (v_s1 (v_ret (v_and (v_cmp (op_eqD hu) (s_eq rfl) (v_var 0) (v_var 1)) (v_one (v_cmp (op_eqD hu) (s_eq rfl) (v_callB isi_U (s_isi rfl) T.n_isinstance (by decide +kernel) (v_cons (v_var 0) (v_cons (v_ty T.n_str PyProof.Rows.boot_str) v_nil))) (v_callB isi_U (s_isi rfl) T.n_isinstance (by decide +kernel) (v_cons (v_var 1) (v_cons (v_ty T.n_str PyProof.Rows.boot_str) v_nil)))))))) v_send) (v_s1 (v_ret (v_and (v_callB isi_U (s_isi rfl) T.n_isinstance (by decide +kernel) (v_cons (v_var 0) (v_cons (v_ty T.n_int PyProof.Rows.boot_int) v_nil))) (v_and (v_cmp (op_eqD hu) (s_eq rfl) (v_callB isi_U (s_isi rfl) T.n_isinstance (by decide +kernel) (v_cons (v_var 0) (v_cons (v_ty T.n_bool PyProof.Rows.boot_bool) v_nil))) (v_callB isi_U (s_isi rfl) T.n_isinstance (by decide +kernel) (v_cons (v_var 1) (v_cons (v_ty T.n_bool PyProof.Rows.boot_bool) v_nil)))) (v_one (v_cmp (op_eqD hu) (s_eq rfl) (v_var 0) (v_var 1))))))))))
def d__law_alike_2 : FD := trimD (defF 4 (b__law_alike d__law_alike_1))
theorem pd__law_alike_2 : PreD d__law_alike_2 := pre_trimD (pr__law_alike pd__law_alike_1)
theorem ok__law_alike_2 {P : Program} {w : World} {K : PySem.W.Frag} {mg : Str → Option Value} {base : Heap} {Tb : List (Addr × Str)} {cl : Nat → Addr} {ql : Str} {cells : List (Str × Addr)} {lam : Nat → LamI} {f : Addr} {fd : FuncData} (T : Txt K mg cl) (F : Fun K "_law_alike" "_law_alike" s__law_alike f fd) (hm : mg "_law_alike" = some (.ref f)) (B : Binds K fd P__law_alike [])  (G__law_alike_1 : DefOk P w K mg base (Tx.mk P w K Tb cl ql cells lam) "_law_alike" P__law_alike 1 d__law_alike_1) : DefOk P w K mg base (Tx.mk P w K Tb cl ql cells lam) "_law_alike" P__law_alike 2 d__law_alike_2 :=
  DefOk.trim (pr__law_alike pd__law_alike_1) <| def_ok F hm B sc__law_alike fun cdv A outer s H E hr => by
    have hu := hr.units
    exact (v_seq (v_if (v_trimT (by repeat' (first | exact pre_var | exact pre_con | exact pre_nil | exact pre_no | exact pre_noS | exact pre_newD | exact pre_lam0 | exact pre_lam1 | exact pre_send | exact pre_raise | exact pre_nameT | exact pre_nilT | exact pre_addG | exact pre_intG | exact pre_mulG | exact pre_cmpG | exact pre_eqG | exact pre_inG | exact pre_ixG | exact pre_negG | exact pre_lenG | exact pre_isiG | exact pre_twoG | exact pre_absG | exact pre_intC | exact pre_allG | exact pre_tupC | exact pre_lstC | refine pre_op ?_ ?_ ?_ | refine pre_un ?_ ?_ | refine pre_and ?_ ?_ | refine pre_or ?_ ?_ | refine pre_not ?_ | refine pre_ifF ?_ ?_ ?_ | refine pre_ch ?_ ?_ ?_ ?_ ?_ | refine pre_cons ?_ ?_ | refine pre_new ?_ | refine pre_cl ?_ ?_ | refine pre_call ?_ ?_ | refine pre_rg1 ?_ | refine pre_rg2 ?_ ?_ | refine pre_err ?_ | refine pre_seqI ?_ | refine pre_rg1I ?_ | refine pre_rg2I ?_ | refine pre_lc ?_ ?_ ?_ | refine pre_lc2 ?_ ?_ ?_ ?_ ?_ | refine pre_lenSet ?_ ?_ ?_ | refine pre_trim ?_ | refine pre_seq ?_ ?_ | refine pre_ret ?_ | refine pre_exp ?_ | refine pre_cond ?_ ?_ ?_ | refine pre_consT ?_ ?_ | refine pre_tupT ?_ | refine pre_asg ?_ ?_ | refine pre_par ?_ | refine pre_for ?_ ?_ ?_ | exact pre_sortG | refine pre_slF ?_ ?_ ?_ | exact pre_nofs | refine pre_somef ?_ | exact pre_revG | exact pre_mxG | exact pre_sumG | exact pre_isG | refine pre_tru ?_ | refine pre_newZ ?_ | exact pre_tupZG | exact pre_catZG | refine pre_idx ?_ ?_ | refine pre_sortSet ?_ | exact pd_noD | assumption | exact pre_gcdG | exact pre_mxUG | refine pre_raiseX ?_ | exact pre_sort2G | exact pre_newDC | exact pd_is_int | exact pd_is_whole | exact pd__is_line | exact pd_is_web | exact pd_check_web | exact pd_is_node | exact pd_check_node | exact pd_round_of)) (v_val (v_callB isi_U (s_isi rfl) T.n_isinstance (by decide +kernel) (v_cons (v_var 1) (v_cons (v_tup (v_cons (v_ty T.n_tuple PyProof.Rows.boot_tuple) (v_cons (v_ty T.n_list PyProof.Rows.boot_list) v_nil))) v_nil))))) (v_seq (v_if (v_trimT (by repeat' (first | exact pre_var | exact pre_con | exact pre_nil | exact pre_no | exact pre_noS | exact pre_newD | exact pre_lam0 | exact pre_lam1 | exact pre_send | exact pre_raise | exact pre_nameT | exact pre_nilT | exact pre_addG | exact pre_intG | exact pre_mulG | exact pre_cmpG | exact pre_eqG | exact pre_inG | exact pre_ixG | exact pre_negG | exact pre_lenG | exact pre_isiG | exact pre_twoG | exact pre_absG | exact pre_intC | exact pre_allG | exact pre_tupC | exact pre_lstC | refine pre_op ?_ ?_ ?_ | refine pre_un ?_ ?_ | refine pre_and ?_ ?_ | refine pre_or ?_ ?_ | refine pre_not ?_ | refine pre_ifF ?_ ?_ ?_ | refine pre_ch ?_ ?_ ?_ ?_ ?_ | refine pre_cons ?_ ?_ | refine pre_new ?_ | refine pre_cl ?_ ?_ | refine pre_call ?_ ?_ | refine pre_rg1 ?_ | refine pre_rg2 ?_ ?_ | refine pre_err ?_ | refine pre_seqI ?_ | refine pre_rg1I ?_ | refine pre_rg2I ?_ | refine pre_lc ?_ ?_ ?_ | refine pre_lc2 ?_ ?_ ?_ ?_ ?_ | refine pre_lenSet ?_ ?_ ?_ | refine pre_trim ?_ | refine pre_seq ?_ ?_ | refine pre_ret ?_ | refine pre_exp ?_ | refine pre_cond ?_ ?_ ?_ | refine pre_consT ?_ ?_ | refine pre_tupT ?_ | refine pre_asg ?_ ?_ | refine pre_par ?_ | refine pre_for ?_ ?_ ?_ | exact pre_sortG | refine pre_slF ?_ ?_ ?_ | exact pre_nofs | refine pre_somef ?_ | exact pre_revG | exact pre_mxG | exact pre_sumG | exact pre_isG | refine pre_tru ?_ | refine pre_newZ ?_ | exact pre_tupZG | exact pre_catZG | refine pre_idx ?_ ?_ | refine pre_sortSet ?_ | exact pd_noD | assumption | exact pre_gcdG | exact pre_mxUG | refine pre_raiseX ?_ | exact pre_sort2G | exact pre_newDC | exact pd_is_int | exact pd_is_whole | exact pd__is_line | exact pd_is_web | exact pd_check_web | exact pd_is_node | exact pd_check_node | exact pd_round_of)) (L2.PW.pt (v_wor (v_notT (v_val (v_callB isi_U (s_isi rfl) T.n_isinstance (by decide +kernel) (v_cons (v_var 0) (v_cons (v_tup (v_cons (v_ty T.n_tuple PyProof.Rows.boot_tuple) (v_cons (v_ty T.n_list PyProof.Rows.boot_list) v_nil))) v_nil))))) (v_wor1 (v_cmpT (op_neD hu) (s_ne rfl) (v_callB isi_U (s_isi rfl) T.n_isinstance (by decide +kernel) (v_cons (v_var 0) (v_cons (v_ty T.n_list PyProof.Rows.boot_list) v_nil))) (v_callB isi_U (s_isi rfl) T.n_isinstance (by decide +kernel) (v_cons (v_var 1) (v_cons (v_ty T.n_list PyProof.Rows.boot_list) v_nil)))))))) (v_s1 (v_ret v_bl)) v_send) (v_seq (v_if (v_cmpT (op_neD hu) (s_ne rfl) (v_callB call_len (s_len rfl) T.n_len (by decide +kernel) (v_cons (v_var 0) v_nil)) (v_callB call_len (s_len rfl) T.n_len (by decide +kernel) (v_cons (v_var 1) v_nil))) (v_s1 (v_ret v_bl)) v_send) (v_s1 (v_ret (v_cmp (op_eqD hu) (s_eq rfl) (v_lc [("k", 2)] sc__law_alike.nd (v_irg1 T.n_range (v_cons (v_callB call_len (s_len rfl) T.n_len (by decide +kernel) (v_cons (v_var 1) v_nil)) v_nil)) (blkOk_by (N := N__law_alike) (sc := defScope s__law_alike) (by decide +kernel)) (fun _ _ _ _ _ => (v_xname 2 (by decide) sc__law_alike.nd)) (fun _ _ _ _ _ => (v_ts1 (v_notT (v_val (v_callD G__law_alike_1 (hr.mono (by decide)) takesW0 (v_cons (v_ix ix_U (s_ix rfl) (v_var 0) (v_var 2)) (v_cons (v_ix ix_U (s_ix rfl) (v_var 1) (v_var 2)) v_nil)) (ar_cons (ar_cons ar_nil))))))) (fun _ _ _ _ _ => (v_var 2))) (v_lst v_nil)))))) v_send) (v_seq (v_if (v_val (v_callB isi_U (s_isi rfl) T.n_isinstance (by decide +kernel) (v_cons (v_var 1) (v_cons (v_ty T.n_dict PyProof.Rows.boot_dict) v_nil)))) (v_seq (v_if (L2.PW.pt (v_wor (v_notT (v_val (v_callB isi_U (s_isi rfl) T.n_isinstance (by decide +kernel) (v_cons (v_var 0) (v_cons (v_ty T.n_dict PyProof.Rows.boot_dict) v_nil))))) (v_wor1 (v_cmpT (op_neD hu) (s_ne rfl) (v_callB cr_sort2 (s_sort2 rfl) T.n_sorted (by decide +kernel) (v_cons (v_var 0) v_nil)) (v_callB cr_sort2 (s_sort2 rfl) T.n_sorted (by decide +kernel) (v_cons (v_var 1) v_nil)))))) (v_s1 (v_ret v_bl)) v_send) (v_s1 (v_ret (v_cmp (op_eqD hu) (s_eq rfl) (v_lc [("key", 3)] sc__law_alike.nd (v_iseq rfl (v_var 1)) (blkOk_by (N := N__law_alike) (sc := defScope s__law_alike) (by decide +kernel)) (fun _ _ _ _ _ => (v_xname 3 (by decide) sc__law_alike.nd)) (fun _ _ _ _ _ => (v_ts1 (v_notT (v_val (v_callD G__law_alike_1 (hr.mono (by decide)) takesW0 (v_cons (v_ix ix_U (s_ix rfl) (v_var 0) (v_var 3)) (v_cons (v_ix ix_U (s_ix rfl) (v_var 1) (v_var 3)) v_nil)) (ar_cons (ar_cons ar_nil))))))) (fun _ _ _ _ _ => (v_var 3))) (v_lst v_nil))))) v_send) (v_seq (v_if (L2.PW.pt (v_wor (v_cmpT op_isU s_isU (v_var 1) v_non) (v_wor1 (v_val (v_callB isi_U (s_isi rfl) T.n_isinstance (by decide +kernel) (v_cons (v_var 1) (v_cons (v_ty T.n_str PyProof.Rows.boot_str) v_nil))))))) (v_s1 (v_ret (v_and (v_cmp (op_eqD hu) (s_eq rfl) (v_var 0) (v_var 1)) (v_one (v_cmp (op_eqD hu) (s_eq rfl) (v_callB isi_U (s_isi rfl) T.n_isinstance (by decide +kernel) (v_cons (v_var 0) (v_cons (v_ty T.n_str PyProof.Rows.boot_str) v_nil))) (v_callB isi_U (s_isi rfl) T.n_isinstance (by decide +kernel) (v_cons (v_var 1) (v_cons (v_ty T.n_str PyProof.Rows.boot_str) v_nil)))))))) v_send) (v_s1 (v_ret (v_and (v_callB isi_U (s_isi rfl) T.n_isinstance (by decide +kernel) (v_cons (v_var 0) (v_cons (v_ty T.n_int PyProof.Rows.boot_int) v_nil))) (v_and (v_cmp (op_eqD hu) (s_eq rfl) (v_callB isi_U (s_isi rfl) T.n_isinstance (by decide +kernel) (v_cons (v_var 0) (v_cons (v_ty T.n_bool PyProof.Rows.boot_bool) v_nil))) (v_callB isi_U (s_isi rfl) T.n_isinstance (by decide +kernel) (v_cons (v_var 1) (v_cons (v_ty T.n_bool PyProof.Rows.boot_bool) v_nil)))) (v_one (v_cmp (op_eqD hu) (s_eq rfl) (v_var 0) (v_var 1))))))))))
def d__law_alike_3 : FD := trimD (defF 4 (b__law_alike d__law_alike_2))
theorem pd__law_alike_3 : PreD d__law_alike_3 := pre_trimD (pr__law_alike pd__law_alike_2)
theorem ok__law_alike_3 {P : Program} {w : World} {K : PySem.W.Frag} {mg : Str → Option Value} {base : Heap} {Tb : List (Addr × Str)} {cl : Nat → Addr} {ql : Str} {cells : List (Str × Addr)} {lam : Nat → LamI} {f : Addr} {fd : FuncData} (T : Txt K mg cl) (F : Fun K "_law_alike" "_law_alike" s__law_alike f fd) (hm : mg "_law_alike" = some (.ref f)) (B : Binds K fd P__law_alike [])  (G__law_alike_2 : DefOk P w K mg base (Tx.mk P w K Tb cl ql cells lam) "_law_alike" P__law_alike 2 d__law_alike_2) : DefOk P w K mg base (Tx.mk P w K Tb cl ql cells lam) "_law_alike" P__law_alike 3 d__law_alike_3 :=
  DefOk.trim (pr__law_alike pd__law_alike_2) <| def_ok F hm B sc__law_alike fun cdv A outer s H E hr => by
    have hu := hr.units
    exact (v_seq (v_if (v_trimT (by repeat' (first | exact pre_var | exact pre_con | exact pre_nil | exact pre_no | exact pre_noS | exact pre_newD | exact pre_lam0 | exact pre_lam1 | exact pre_send | exact pre_raise | exact pre_nameT | exact pre_nilT | exact pre_addG | exact pre_intG | exact pre_mulG | exact pre_cmpG | exact pre_eqG | exact pre_inG | exact pre_ixG | exact pre_negG | exact pre_lenG | exact pre_isiG | exact pre_twoG | exact pre_absG | exact pre_intC | exact pre_allG | exact pre_tupC | exact pre_lstC | refine pre_op ?_ ?_ ?_ | refine pre_un ?_ ?_ | refine pre_and ?_ ?_ | refine pre_or ?_ ?_ | refine pre_not ?_ | refine pre_ifF ?_ ?_ ?_ | refine pre_ch ?_ ?_ ?_ ?_ ?_ | refine pre_cons ?_ ?_ | refine pre_new ?_ | refine pre_cl ?_ ?_ | refine pre_call ?_ ?_ | refine pre_rg1 ?_ | refine pre_rg2 ?_ ?_ | refine pre_err ?_ | refine pre_seqI ?_ | refine pre_rg1I ?_ | refine pre_rg2I ?_ | refine pre_lc ?_ ?_ ?_ | refine pre_lc2 ?_ ?_ ?_ ?_ ?_ | refine pre_lenSet ?_ ?_ ?_ | refine pre_trim ?_ | refine pre_seq ?_ ?_ | refine pre_ret ?_ | refine pre_exp ?_ | refine pre_cond ?_ ?_ ?_ | refine pre_consT ?_ ?_ | refine pre_tupT ?_ | refine pre_asg ?_ ?_ | refine pre_par ?_ | refine pre_for ?_ ?_ ?_ | exact pre_sortG | refine pre_slF ?_ ?_ ?_ | exact pre_nofs | refine pre_somef ?_ | exact pre_revG | exact pre_mxG | exact pre_sumG | exact pre_isG | refine pre_tru ?_ | refine pre_newZ ?_ | exact pre_tupZG | exact pre_catZG | refine pre_idx ?_ ?_ | refine pre_sortSet ?_ | exact pd_noD | assumption | exact pre_gcdG | exact pre_mxUG | refine pre_raiseX ?_ | exact pre_sort2G | exact pre_newDC | exact pd_is_int | exact pd_is_whole | exact pd__is_line | exact pd_is_web | exact pd_check_web | exact pd_is_node | exact pd_check_node | exact pd_round_of)) (v_val (v_callB isi_U (s_isi rfl) T.n_isinstance (by decide +kernel) (v_cons (v_var 1) (v_cons (v_tup (v_cons (v_ty T.n_tuple PyProof.Rows.boot_tuple) (v_cons (v_ty T.n_list PyProof.Rows.boot_list) v_nil))) v_nil))))) (v_seq (v_if (v_trimT (by repeat' (first | exact pre_var | exact pre_con | exact pre_nil | exact pre_no | exact pre_noS | exact pre_newD | exact pre_lam0 | exact pre_lam1 | exact pre_send | exact pre_raise | exact pre_nameT | exact pre_nilT | exact pre_addG | exact pre_intG | exact pre_mulG | exact pre_cmpG | exact pre_eqG | exact pre_inG | exact pre_ixG | exact pre_negG | exact pre_lenG | exact pre_isiG | exact pre_twoG | exact pre_absG | exact pre_intC | exact pre_allG | exact pre_tupC | exact pre_lstC | refine pre_op ?_ ?_ ?_ | refine pre_un ?_ ?_ | refine pre_and ?_ ?_ | refine pre_or ?_ ?_ | refine pre_not ?_ | refine pre_ifF ?_ ?_ ?_ | refine pre_ch ?_ ?_ ?_ ?_ ?_ | refine pre_cons ?_ ?_ | refine pre_new ?_ | refine pre_cl ?_ ?_ | refine pre_call ?_ ?_ | refine pre_rg1 ?_ | refine pre_rg2 ?_ ?_ | refine pre_err ?_ | refine pre_seqI ?_ | refine pre_rg1I ?_ | refine pre_rg2I ?_ | refine pre_lc ?_ ?_ ?_ | refine pre_lc2 ?_ ?_ ?_ ?_ ?_ | refine pre_lenSet ?_ ?_ ?_ | refine pre_trim ?_ | refine pre_seq ?_ ?_ | refine pre_ret ?_ | refine pre_exp ?_ | refine pre_cond ?_ ?_ ?_ | refine pre_consT ?_ ?_ | refine pre_tupT ?_ | refine pre_asg ?_ ?_ | refine pre_par ?_ | refine pre_for ?_ ?_ ?_ | exact pre_sortG | refine pre_slF ?_ ?_ ?_ | exact pre_nofs | refine pre_somef ?_ | exact pre_revG | exact pre_mxG | exact pre_sumG | exact pre_isG | refine pre_tru ?_ | refine pre_newZ ?_ | exact pre_tupZG | exact pre_catZG | refine pre_idx ?_ ?_ | refine pre_sortSet ?_ | exact pd_noD | assumption | exact pre_gcdG | exact pre_mxUG | refine pre_raiseX ?_ | exact pre_sort2G | exact pre_newDC | exact pd_is_int | exact pd_is_whole | exact pd__is_line | exact pd_is_web | exact pd_check_web | exact pd_is_node | exact pd_check_node | exact pd_round_of)) (L2.PW.pt (v_wor (v_notT (v_val (v_callB isi_U (s_isi rfl) T.n_isinstance (by decide +kernel) (v_cons (v_var 0) (v_cons (v_tup (v_cons (v_ty T.n_tuple PyProof.Rows.boot_tuple) (v_cons (v_ty T.n_list PyProof.Rows.boot_list) v_nil))) v_nil))))) (v_wor1 (v_cmpT (op_neD hu) (s_ne rfl) (v_callB isi_U (s_isi rfl) T.n_isinstance (by decide +kernel) (v_cons (v_var 0) (v_cons (v_ty T.n_list PyProof.Rows.boot_list) v_nil))) (v_callB isi_U (s_isi rfl) T.n_isinstance (by decide +kernel) (v_cons (v_var 1) (v_cons (v_ty T.n_list PyProof.Rows.boot_list) v_nil)))))))) (v_s1 (v_ret v_bl)) v_send) (v_seq (v_if (v_cmpT (op_neD hu) (s_ne rfl) (v_callB call_len (s_len rfl) T.n_len (by decide +kernel) (v_cons (v_var 0) v_nil)) (v_callB call_len (s_len rfl) T.n_len (by decide +kernel) (v_cons (v_var 1) v_nil))) (v_s1 (v_ret v_bl)) v_send) (v_s1 (v_ret (v_cmp (op_eqD hu) (s_eq rfl) (v_lc [("k", 2)] sc__law_alike.nd (v_irg1 T.n_range (v_cons (v_callB call_len (s_len rfl) T.n_len (by decide +kernel) (v_cons (v_var 1) v_nil)) v_nil)) (blkOk_by (N := N__law_alike) (sc := defScope s__law_alike) (by decide +kernel)) (fun _ _ _ _ _ => (v_xname 2 (by decide) sc__law_alike.nd)) (fun _ _ _ _ _ => (v_ts1 (v_notT (v_val (v_callD G__law_alike_2 (hr.mono (by decide)) takesW0 (v_cons (v_ix ix_U (s_ix rfl) (v_var 0) (v_var 2)) (v_cons (v_ix ix_U (s_ix rfl) (v_var 1) (v_var 2)) v_nil)) (ar_cons (ar_cons ar_nil))))))) (fun _ _ _ _ _ => (v_var 2))) (v_lst v_nil)))))) v_send) (v_seq (v_if (v_val (v_callB isi_U (s_isi rfl) T.n_isinstance (by decide +kernel) (v_cons (v_var 1) (v_cons (v_ty T.n_dict PyProof.Rows.boot_dict) v_nil)))) (v_seq (v_if (L2.PW.pt (v_wor (v_notT (v_val (v_callB isi_U (s_isi rfl) T.n_isinstance (by decide +kernel) (v_cons (v_var 0) (v_cons (v_ty T.n_dict PyProof.Rows.boot_dict) v_nil))))) (v_wor1 (v_cmpT (op_neD hu) (s_ne rfl) (v_callB cr_sort2 (s_sort2 rfl) T.n_sorted (by decide +kernel) (v_cons (v_var 0) v_nil)) (v_callB cr_sort2 (s_sort2 rfl) T.n_sorted (by decide +kernel) (v_cons (v_var 1) v_nil)))))) (v_s1 (v_ret v_bl)) v_send) (v_s1 (v_ret (v_cmp (op_eqD hu) (s_eq rfl) (v_lc [("key", 3)] sc__law_alike.nd (v_iseq rfl (v_var 1)) (blkOk_by (N := N__law_alike) (sc := defScope s__law_alike) (by decide +kernel)) (fun _ _ _ _ _ => (v_xname 3 (by decide) sc__law_alike.nd)) (fun _ _ _ _ _ => (v_ts1 (v_notT (v_val (v_callD G__law_alike_2 (hr.mono (by decide)) takesW0 (v_cons (v_ix ix_U (s_ix rfl) (v_var 0) (v_var 3)) (v_cons (v_ix ix_U (s_ix rfl) (v_var 1) (v_var 3)) v_nil)) (ar_cons (ar_cons ar_nil))))))) (fun _ _ _ _ _ => (v_var 3))) (v_lst v_nil))))) v_send) (v_seq (v_if (L2.PW.pt (v_wor (v_cmpT op_isU s_isU (v_var 1) v_non) (v_wor1 (v_val (v_callB isi_U (s_isi rfl) T.n_isinstance (by decide +kernel) (v_cons (v_var 1) (v_cons (v_ty T.n_str PyProof.Rows.boot_str) v_nil))))))) (v_s1 (v_ret (v_and (v_cmp (op_eqD hu) (s_eq rfl) (v_var 0) (v_var 1)) (v_one (v_cmp (op_eqD hu) (s_eq rfl) (v_callB isi_U (s_isi rfl) T.n_isinstance (by decide +kernel) (v_cons (v_var 0) (v_cons (v_ty T.n_str PyProof.Rows.boot_str) v_nil))) (v_callB isi_U (s_isi rfl) T.n_isinstance (by decide +kernel) (v_cons (v_var 1) (v_cons (v_ty T.n_str PyProof.Rows.boot_str) v_nil)))))))) v_send) (v_s1 (v_ret (v_and (v_callB isi_U (s_isi rfl) T.n_isinstance (by decide +kernel) (v_cons (v_var 0) (v_cons (v_ty T.n_int PyProof.Rows.boot_int) v_nil))) (v_and (v_cmp (op_eqD hu) (s_eq rfl) (v_callB isi_U (s_isi rfl) T.n_isinstance (by decide +kernel) (v_cons (v_var 0) (v_cons (v_ty T.n_bool PyProof.Rows.boot_bool) v_nil))) (v_callB isi_U (s_isi rfl) T.n_isinstance (by decide +kernel) (v_cons (v_var 1) (v_cons (v_ty T.n_bool PyProof.Rows.boot_bool) v_nil)))) (v_one (v_cmp (op_eqD hu) (s_eq rfl) (v_var 0) (v_var 1))))))))))
def d__law_alike_4 : FD := trimD (defF 4 (b__law_alike d__law_alike_3))
theorem pd__law_alike_4 : PreD d__law_alike_4 := pre_trimD (pr__law_alike pd__law_alike_3)
theorem ok__law_alike_4 {P : Program} {w : World} {K : PySem.W.Frag} {mg : Str → Option Value} {base : Heap} {Tb : List (Addr × Str)} {cl : Nat → Addr} {ql : Str} {cells : List (Str × Addr)} {lam : Nat → LamI} {f : Addr} {fd : FuncData} (T : Txt K mg cl) (F : Fun K "_law_alike" "_law_alike" s__law_alike f fd) (hm : mg "_law_alike" = some (.ref f)) (B : Binds K fd P__law_alike [])  (G__law_alike_3 : DefOk P w K mg base (Tx.mk P w K Tb cl ql cells lam) "_law_alike" P__law_alike 3 d__law_alike_3) : DefOk P w K mg base (Tx.mk P w K Tb cl ql cells lam) "_law_alike" P__law_alike 4 d__law_alike_4 :=
  DefOk.trim (pr__law_alike pd__law_alike_3) <| def_ok F hm B sc__law_alike fun cdv A outer s H E hr => by
    have hu := hr.units
    exact (v_seq (v_if (v_trimT (by repeat' (first | exact pre_var | exact pre_con | exact pre_nil | exact pre_no | exact pre_noS | exact pre_newD | exact pre_lam0 | exact pre_lam1 | exact pre_send | exact pre_raise | exact pre_nameT | exact pre_nilT | exact pre_addG | exact pre_intG | exact pre_mulG | exact pre_cmpG | exact pre_eqG | exact pre_inG | exact pre_ixG | exact pre_negG | exact pre_lenG | exact pre_isiG | exact pre_twoG | exact pre_absG | exact pre_intC | exact pre_allG | exact pre_tupC | exact pre_lstC | refine pre_op ?_ ?_ ?_ | refine pre_un ?_ ?_ | refine pre_and ?_ ?_ | refine pre_or ?_ ?_ | refine pre_not ?_ | refine pre_ifF ?_ ?_ ?_ | refine pre_ch ?_ ?_ ?_ ?_ ?_ | refine pre_cons ?_ ?_ | refine pre_new ?_ | refine pre_cl ?_ ?_ | refine pre_call ?_ ?_ | refine pre_rg1 ?_ | refine pre_rg2 ?_ ?_ | refine pre_err ?_ | refine pre_seqI ?_ | refine pre_rg1I ?_ | refine pre_rg2I ?_ | refine pre_lc ?_ ?_ ?_ | refine pre_lc2 ?_ ?_ ?_ ?_ ?_ | refine pre_lenSet ?_ ?_ ?_ | refine pre_trim ?_ | refine pre_seq ?_ ?_ | refine pre_ret ?_ | refine pre_exp ?_ | refine pre_cond ?_ ?_ ?_ | refine pre_consT ?_ ?_ | refine pre_tupT ?_ | refine pre_asg ?_ ?_ | refine pre_par ?_ | refine pre_for ?_ ?_ ?_ | exact pre_sortG | refine pre_slF ?_ ?_ ?_ | exact pre_nofs | refine pre_somef ?_ | exact pre_revG | exact pre_mxG | exact pre_sumG | exact pre_isG | refine pre_tru ?_ | refine pre_newZ ?_ | exact pre_tupZG | exact pre_catZG | refine pre_idx ?_ ?_ | refine pre_sortSet ?_ | exact pd_noD | assumption | exact pre_gcdG | exact pre_mxUG | refine pre_raiseX ?_ | exact pre_sort2G | exact pre_newDC | exact pd_is_int | exact pd_is_whole | exact pd__is_line | exact pd_is_web | exact pd_check_web | exact pd_is_node | exact pd_check_node | exact pd_round_of)) (v_val (v_callB isi_U (s_isi rfl) T.n_isinstance (by decide +kernel) (v_cons (v_var 1) (v_cons (v_tup (v_cons (v_ty T.n_tuple PyProof.Rows.boot_tuple) (v_cons (v_ty T.n_list PyProof.Rows.boot_list) v_nil))) v_nil))))) (v_seq (v_if (v_trimT (by repeat' (first | exact pre_var | exact pre_con | exact pre_nil | exact pre_no | exact pre_noS | exact pre_newD | exact pre_lam0 | exact pre_lam1 | exact pre_send | exact pre_raise | exact pre_nameT | exact pre_nilT | exact pre_addG | exact pre_intG | exact pre_mulG | exact pre_cmpG | exact pre_eqG | exact pre_inG | exact pre_ixG | exact pre_negG | exact pre_lenG | exact pre_isiG | exact pre_twoG | exact pre_absG | exact pre_intC | exact pre_allG | exact pre_tupC | exact pre_lstC | refine pre_op ?_ ?_ ?_ | refine pre_un ?_ ?_ | refine pre_and ?_ ?_ | refine pre_or ?_ ?_ | refine pre_not ?_ | refine pre_ifF ?_ ?_ ?_ | refine pre_ch ?_ ?_ ?_ ?_ ?_ | refine pre_cons ?_ ?_ | refine pre_new ?_ | refine pre_cl ?_ ?_ | refine pre_call ?_ ?_ | refine pre_rg1 ?_ | refine pre_rg2 ?_ ?_ | refine pre_err ?_ | refine pre_seqI ?_ | refine pre_rg1I ?_ | refine pre_rg2I ?_ | refine pre_lc ?_ ?_ ?_ | refine pre_lc2 ?_ ?_ ?_ ?_ ?_ | refine pre_lenSet ?_ ?_ ?_ | refine pre_trim ?_ | refine pre_seq ?_ ?_ | refine pre_ret ?_ | refine pre_exp ?_ | refine pre_cond ?_ ?_ ?_ | refine pre_consT ?_ ?_ | refine pre_tupT ?_ | refine pre_asg ?_ ?_ | refine pre_par ?_ | refine pre_for ?_ ?_ ?_ | exact pre_sortG | refine pre_slF ?_ ?_ ?_ | exact pre_nofs | refine pre_somef ?_ | exact pre_revG | exact pre_mxG | exact pre_sumG | exact pre_isG | refine pre_tru ?_ | refine pre_newZ ?_ | exact pre_tupZG | exact pre_catZG | refine pre_idx ?_ ?_ | refine pre_sortSet ?_ | exact pd_noD | assumption | exact pre_gcdG | exact pre_mxUG | refine pre_raiseX ?_ | exact pre_sort2G | exact pre_newDC | exact pd_is_int | exact pd_is_whole | exact pd__is_line | exact pd_is_web | exact pd_check_web | exact pd_is_node | exact pd_check_node | exact pd_round_of)) (L2.PW.pt (v_wor (v_notT (v_val (v_callB isi_U (s_isi rfl) T.n_isinstance (by decide +kernel) (v_cons (v_var 0) (v_cons (v_tup (v_cons (v_ty T.n_tuple PyProof.Rows.boot_tuple) (v_cons (v_ty T.n_list PyProof.Rows.boot_list) v_nil))) v_nil))))) (v_wor1 (v_cmpT (op_neD hu) (s_ne rfl) (v_callB isi_U (s_isi rfl) T.n_isinstance (by decide +kernel) (v_cons (v_var 0) (v_cons (v_ty T.n_list PyProof.Rows.boot_list) v_nil))) (v_callB isi_U (s_isi rfl) T.n_isinstance (by decide +kernel) (v_cons (v_var 1) (v_cons (v_ty T.n_list PyProof.Rows.boot_list) v_nil)))))))) (v_s1 (v_ret v_bl)) v_send) (v_seq (v_if (v_cmpT (op_neD hu) (s_ne rfl) (v_callB call_len (s_len rfl) T.n_len (by decide +kernel) (v_cons (v_var 0) v_nil)) (v_callB call_len (s_len rfl) T.n_len (by decide +kernel) (v_cons (v_var 1) v_nil))) (v_s1 (v_ret v_bl)) v_send) (v_s1 (v_ret (v_cmp (op_eqD hu) (s_eq rfl) (v_lc [("k", 2)] sc__law_alike.nd (v_irg1 T.n_range (v_cons (v_callB call_len (s_len rfl) T.n_len (by decide +kernel) (v_cons (v_var 1) v_nil)) v_nil)) (blkOk_by (N := N__law_alike) (sc := defScope s__law_alike) (by decide +kernel)) (fun _ _ _ _ _ => (v_xname 2 (by decide) sc__law_alike.nd)) (fun _ _ _ _ _ => (v_ts1 (v_notT (v_val (v_callD G__law_alike_3 (hr.mono (by decide)) takesW0 (v_cons (v_ix ix_U (s_ix rfl) (v_var 0) (v_var 2)) (v_cons (v_ix ix_U (s_ix rfl) (v_var 1) (v_var 2)) v_nil)) (ar_cons (ar_cons ar_nil))))))) (fun _ _ _ _ _ => (v_var 2))) (v_lst v_nil)))))) v_send) (v_seq (v_if (v_val (v_callB isi_U (s_isi rfl) T.n_isinstance (by decide +kernel) (v_cons (v_var 1) (v_cons (v_ty T.n_dict PyProof.Rows.boot_dict) v_nil)))) (v_seq (v_if (L2.PW.pt (v_wor (v_notT (v_val (v_callB isi_U (s_isi rfl) T.n_isinstance (by decide +kernel) (v_cons (v_var 0) (v_cons (v_ty T.n_dict PyProof.Rows.boot_dict) v_nil))))) (v_wor1 (v_cmpT (op_neD hu) (s_ne rfl) (v_callB cr_sort2 (s_sort2 rfl) T.n_sorted (by decide +kernel) (v_cons (v_var 0) v_nil)) (v_callB cr_sort2 (s_sort2 rfl) T.n_sorted (by decide +kernel) (v_cons (v_var 1) v_nil)))))) (v_s1 (v_ret v_bl)) v_send) (v_s1 (v_ret (v_cmp (op_eqD hu) (s_eq rfl) (v_lc [("key", 3)] sc__law_alike.nd (v_iseq rfl (v_var 1)) (blkOk_by (N := N__law_alike) (sc := defScope s__law_alike) (by decide +kernel)) (fun _ _ _ _ _ => (v_xname 3 (by decide) sc__law_alike.nd)) (fun _ _ _ _ _ => (v_ts1 (v_notT (v_val (v_callD G__law_alike_3 (hr.mono (by decide)) takesW0 (v_cons (v_ix ix_U (s_ix rfl) (v_var 0) (v_var 3)) (v_cons (v_ix ix_U (s_ix rfl) (v_var 1) (v_var 3)) v_nil)) (ar_cons (ar_cons ar_nil))))))) (fun _ _ _ _ _ => (v_var 3))) (v_lst v_nil))))) v_send) (v_seq (v_if (L2.PW.pt (v_wor (v_cmpT op_isU s_isU (v_var 1) v_non) (v_wor1 (v_val (v_callB isi_U (s_isi rfl) T.n_isinstance (by decide +kernel) (v_cons (v_var 1) (v_cons (v_ty T.n_str PyProof.Rows.boot_str) v_nil))))))) (v_s1 (v_ret (v_and (v_cmp (op_eqD hu) (s_eq rfl) (v_var 0) (v_var 1)) (v_one (v_cmp (op_eqD hu) (s_eq rfl) (v_callB isi_U (s_isi rfl) T.n_isinstance (by decide +kernel) (v_cons (v_var 0) (v_cons (v_ty T.n_str PyProof.Rows.boot_str) v_nil))) (v_callB isi_U (s_isi rfl) T.n_isinstance (by decide +kernel) (v_cons (v_var 1) (v_cons (v_ty T.n_str PyProof.Rows.boot_str) v_nil)))))))) v_send) (v_s1 (v_ret (v_and (v_callB isi_U (s_isi rfl) T.n_isinstance (by decide +kernel) (v_cons (v_var 0) (v_cons (v_ty T.n_int PyProof.Rows.boot_int) v_nil))) (v_and (v_cmp (op_eqD hu) (s_eq rfl) (v_callB isi_U (s_isi rfl) T.n_isinstance (by decide +kernel) (v_cons (v_var 0) (v_cons (v_ty T.n_bool PyProof.Rows.boot_bool) v_nil))) (v_callB isi_U (s_isi rfl) T.n_isinstance (by decide +kernel) (v_cons (v_var 1) (v_cons (v_ty T.n_bool PyProof.Rows.boot_bool) v_nil)))) (v_one (v_cmp (op_eqD hu) (s_eq rfl) (v_var 0) (v_var 1))))))))))
abbrev d__law_alike : FD := d__law_alike_4
theorem pd__law_alike : PreD d__law_alike := pd__law_alike_4
theorem ok__law_alike {P : Program} {w : World} {K : PySem.W.Frag} {mg : Str → Option Value} {base : Heap} {Tb : List (Addr × Str)} {cl : Nat → Addr} {ql : Str} {cells : List (Str × Addr)} {lam : Nat → LamI} {f : Addr} {fd : FuncData} (T : Txt K mg cl) (F : Fun K "_law_alike" "_law_alike" s__law_alike f fd) (hm : mg "_law_alike" = some (.ref f)) (B : Binds K fd P__law_alike [])  : DefOk P w K mg base (Tx.mk P w K Tb cl ql cells lam) "_law_alike" P__law_alike 4 d__law_alike := ok__law_alike_4 T F hm B  (ok__law_alike_3 T F hm B  (ok__law_alike_2 T F hm B  (ok__law_alike_1 T F hm B  (def_no F hm B))))
abbrev s__law_share : Stmt := top 24
abbrev N__law_share : List Str := ["top", "bottom", "one", "other"]
abbrev P__law_share : List Str := ["top", "bottom"]
theorem sc__law_share : FnScope N__law_share P__law_share (defScope s__law_share) := ⟨rfl, rfl, rfl, by decide +kernel, rfl, by decide +kernel, by decide +kernel⟩
def b__law_share : FS := (seqF (parF 2 3 (consF (clF absG (consF (varF 0) nilF)) (consF (varF 1) nilF))) (seqF (whF (opF (cmpG fun i j => decide (i > j)) (varF 3) (conF (.int 0))) (parF 2 3 (consF (varF 3) (consF (opF modG (varF 2) (varF 3)) nilF)))) (retF (newF O.tup (consF (opF fdivG (varF 0) (varF 2)) (consF (opF fdivG (varF 1) (varF 2)) nilF))))))
def d__law_share : FD := defF 4 b__law_share
theorem ok__law_share {P : Program} {w : World} {K : PySem.W.Frag} {mg : Str → Option Value} {base : Heap} {Tb : List (Addr × Str)} {cl : Nat → Addr} {ql : Str} {cells : List (Str × Addr)} {lam : Nat → LamI} {f : Addr} {fd : FuncData} (T : Txt K mg cl) (F : Fun K "_law_share" "_law_share" s__law_share f fd) (hm : mg "_law_share" = some (.ref f)) (B : Binds K fd P__law_share [])  : DefOk P w K mg base (Tx.mk P w K Tb cl ql cells lam) "_law_share" P__law_share 1 d__law_share :=
  def_ok F hm B sc__law_share fun cdv A outer s H E hr => by
    have hu := hr.units
    exact (v_seq (v_par (i := 2) (j := 3) sc__law_share.nd (v_cons (v_callB call_abs s_abs T.n_abs (by decide +kernel) (v_cons (v_var 0) v_nil)) (v_cons (v_var 1) v_nil))) (v_seq (v_while (passes_of rfl) (v_cmpT op_gt s_cmp (v_var 3) v_int) (v_s1 (v_par (i := 2) (j := 3) sc__law_share.nd (v_cons (v_var 3) (v_cons (v_op op_modN s_mod (v_var 2) (v_var 3)) v_nil))))) (v_s1 (v_ret (v_tup (v_cons (v_op op_fdivU s_fdiv (v_var 0) (v_var 2)) (v_cons (v_op op_fdivU s_fdiv (v_var 1) (v_var 2)) v_nil)))))))
abbrev s__law_times : Stmt := top 25
abbrev N__law_times : List Str := ["one", "other"]
abbrev P__law_times : List Str := ["one", "other"]
theorem sc__law_times : FnScope N__law_times P__law_times (defScope s__law_times) := ⟨rfl, rfl, rfl, by decide +kernel, rfl, by decide +kernel, by decide +kernel⟩
def b__law_times : FS := (retF (callF d__law_share (consF (opF mulG (opF ixG (varF 0) (conF (.int 0))) (opF ixG (varF 1) (conF (.int 0)))) (consF (opF mulG (opF ixG (varF 0) (conF (.int 1))) (opF ixG (varF 1) (conF (.int 1)))) nilF))))
def d__law_times : FD := defF 2 b__law_times
theorem ok__law_times {P : Program} {w : World} {K : PySem.W.Frag} {mg : Str → Option Value} {base : Heap} {Tb : List (Addr × Str)} {cl : Nat → Addr} {ql : Str} {cells : List (Str × Addr)} {lam : Nat → LamI} {f : Addr} {fd : FuncData} (T : Txt K mg cl) (F : Fun K "_law_times" "_law_times" s__law_times f fd) (hm : mg "_law_times" = some (.ref f)) (B : Binds K fd P__law_times []) (G__law_share : DefOk P w K mg base (Tx.mk P w K Tb cl ql cells lam) "_law_share" P__law_share 1 d__law_share) : DefOk P w K mg base (Tx.mk P w K Tb cl ql cells lam) "_law_times" P__law_times 2 d__law_times :=
  def_ok F hm B sc__law_times fun cdv A outer s H E hr => by
    have hu := hr.units
    exact (v_s1 (v_ret (v_callD G__law_share (hr.mono (by decide)) (takes_of rfl rfl rfl rfl) (v_cons (v_op op_mulU (s_mul rfl) (v_ix ix_U (s_ix rfl) (v_var 0) v_int) (v_ix ix_U (s_ix rfl) (v_var 1) v_int)) (v_cons (v_op op_mulU (s_mul rfl) (v_ix ix_U (s_ix rfl) (v_var 0) v_int) (v_ix ix_U (s_ix rfl) (v_var 1) v_int)) v_nil)) (ar_cons (ar_cons ar_nil)))))
abbrev s__law_turn : Stmt := top 23
abbrev N__law_turn : List Str := ["web", "x", "n", "table", "line", "y", "z", "more"]
abbrev P__law_turn : List Str := ["web", "x"]
theorem sc__law_turn : FnScope N__law_turn P__law_turn (defScope s__law_turn) := ⟨rfl, rfl, rfl, by decide +kernel, rfl, by decide +kernel, by decide +kernel⟩
def b__law_turn : FS := (seqF (parF 2 3 (consF (clF lenG (consF (varF 0) nilF)) (consF (lcF (seqI (varF 0)) (nameX 4) [4] (conF (.bl true)) (clF lstC (consF (varF 4) nilF))) nilF))) (seqF (forF (rg1I (consF (varF 2) nilF)) (nameT 5) (forF (rg1I (consF (varF 2) nilF)) (nameT 6) (condF (andF (opF (cmpG fun i j => decide (i > j)) (opF ixG (opF ixG (varF 0) (varF 5)) (varF 1)) (conF (.int 0))) (opF (cmpG fun i j => decide (i > j)) (opF ixG (opF ixG (varF 0) (varF 1)) (varF 6)) (conF (.int 0)))) (seqF (asgF (opF mulG (opF ixG (opF ixG (varF 0) (varF 5)) (varF 1)) (opF ixG (opF ixG (varF 0) (varF 1)) (varF 6))) (nameT 7)) (asgF (newF O.tup (consF (opF addG (opF ixG (opF ixG (varF 3) (varF 5)) (varF 6)) (varF 7)) (consF (opF subG (opF ixG (opF ixG (varF 3) (varF 6)) (varF 5)) (varF 7)) nilF))) (tupT 2 (consT (subT (opF ixG (varF 3) (varF 5)) (varF 6)) (consT (subT (opF ixG (varF 3) (varF 6)) (varF 5)) nilT))))) endF))) (seqF (forF (rg1I (consF (varF 2) nilF)) (nameT 5) (asgF (newF O.tup (consF (opF subG (conF (.int 0)) (opF ixG (opF ixG (varF 0) (varF 1)) (varF 5))) (consF (opF subG (conF (.int 0)) (opF ixG (opF ixG (varF 0) (varF 5)) (varF 1))) nilF))) (tupT 2 (consT (subT (opF ixG (varF 3) (varF 1)) (varF 5)) (consT (subT (opF ixG (varF 3) (varF 5)) (varF 1)) nilT))))) (retF (clF tupC (consF (lcF (seqI (varF 3)) (nameX 4) [4] (conF (.bl true)) (clF tupC (consF (varF 4) nilF))) nilF))))))
def d__law_turn : FD := defF 8 b__law_turn
theorem ok__law_turn {P : Program} {w : World} {K : PySem.W.Frag} {mg : Str → Option Value} {base : Heap} {Tb : List (Addr × Str)} {cl : Nat → Addr} {ql : Str} {cells : List (Str × Addr)} {lam : Nat → LamI} {f : Addr} {fd : FuncData} (T : Txt K mg cl) (F : Fun K "_law_turn" "_law_turn" s__law_turn f fd) (hm : mg "_law_turn" = some (.ref f)) (B : Binds K fd P__law_turn [])  : DefOk P w K mg base (Tx.mk P w K Tb cl ql cells lam) "_law_turn" P__law_turn 1 d__law_turn :=
  def_ok F hm B sc__law_turn fun cdv A outer s H E hr => by
    have hu := hr.units
    exact (v_seq (v_par (i := 2) (j := 3) sc__law_turn.nd (v_cons (v_callB call_len (s_len rfl) T.n_len (by decide +kernel) (v_cons (v_var 0) v_nil)) (v_cons (v_lc [("line", 4)] sc__law_turn.nd (v_iseq rfl (v_var 0)) (blkOk_by (N := N__law_turn) (sc := defScope s__law_turn) (by decide +kernel)) (fun _ _ _ _ _ => (v_xname 4 (by decide) sc__law_turn.nd)) (fun _ _ _ _ _ => v_ts0) (fun _ _ _ _ _ => (v_callTy call_list_of (s_lstC rfl) T.n_list (by decide +kernel) (v_cons (v_var 4) v_nil)))) v_nil))) (v_seq (v_forS (passes_of rfl) (v_irg1 T.n_range (v_cons (v_var 2) v_nil)) (v_gname 5 sc__law_turn.nd) (v_s1 (v_forS (passes_of rfl) (v_irg1 T.n_range (v_cons (v_var 2) v_nil)) (v_gname 6 sc__law_turn.nd) (v_s1 (v_if (L2.PW.pt (v_wand (v_cmpT op_gt s_cmp (v_ix ix_U (s_ix rfl) (v_ix ix_U (s_ix rfl) (v_var 0) (v_var 5)) (v_var 1)) v_int) (v_wand1 (v_cmpT op_gt s_cmp (v_ix ix_U (s_ix rfl) (v_ix ix_U (s_ix rfl) (v_var 0) (v_var 1)) (v_var 6)) v_int)))) (v_seq (v_asg (v_op op_mulU (s_mul rfl) (v_ix ix_U (s_ix rfl) (v_ix ix_U (s_ix rfl) (v_var 0) (v_var 5)) (v_var 1)) (v_ix ix_U (s_ix rfl) (v_ix ix_U (s_ix rfl) (v_var 0) (v_var 1)) (v_var 6))) (v_gname 7 sc__law_turn.nd)) (v_s1 (v_asg (v_tup (v_cons (v_op op_addU (s_add rfl) (v_ix ix_U (s_ix rfl) (v_ix ix_U (s_ix rfl) (v_var 3) (v_var 5)) (v_var 6)) (v_var 7)) (v_cons (v_op op_sub s_sub (v_ix ix_U (s_ix rfl) (v_ix ix_U (s_ix rfl) (v_var 3) (v_var 6)) (v_var 5)) (v_var 7)) v_nil))) (v_gtupS rfl (pg_tup rfl (v_gcons (v_gsub (W := W0) (v_ix ix_U (s_ix rfl) (v_var 3) (v_var 5)) (v_var 6) (pg_sub (v_ix ix_U (s_ix rfl) (v_var 3) (v_var 5)) (v_var 6) set_list)) (v_gcons (v_gsub (W := W0) (v_ix ix_U (s_ix rfl) (v_var 3) (v_var 6)) (v_var 5) (pg_sub (v_ix ix_U (s_ix rfl) (v_var 3) (v_var 6)) (v_var 5) set_list)) v_gnil))))))) v_send))))) (v_seq (v_forS (passes_of rfl) (v_irg1 T.n_range (v_cons (v_var 2) v_nil)) (v_gname 5 sc__law_turn.nd) (v_s1 (v_asg (v_tup (v_cons (v_op op_sub s_sub v_int (v_ix ix_U (s_ix rfl) (v_ix ix_U (s_ix rfl) (v_var 0) (v_var 1)) (v_var 5))) (v_cons (v_op op_sub s_sub v_int (v_ix ix_U (s_ix rfl) (v_ix ix_U (s_ix rfl) (v_var 0) (v_var 5)) (v_var 1))) v_nil))) (v_gtupS rfl (pg_tup rfl (v_gcons (v_gsub (W := W0) (v_ix ix_U (s_ix rfl) (v_var 3) (v_var 1)) (v_var 5) (pg_sub (v_ix ix_U (s_ix rfl) (v_var 3) (v_var 1)) (v_var 5) set_list)) (v_gcons (v_gsub (W := W0) (v_ix ix_U (s_ix rfl) (v_var 3) (v_var 5)) (v_var 1) (pg_sub (v_ix ix_U (s_ix rfl) (v_var 3) (v_var 5)) (v_var 1) set_list)) v_gnil))))))) (v_s1 (v_ret (v_callTy call_tuple_of (s_tupC rfl) T.n_tuple (by decide +kernel) (v_cons (v_lc [("line", 4)] sc__law_turn.nd (v_iseq rfl (v_var 3)) (blkOk_by (N := N__law_turn) (sc := defScope s__law_turn) (by decide +kernel)) (fun _ _ _ _ _ => (v_xname 4 (by decide) sc__law_turn.nd)) (fun _ _ _ _ _ => v_ts0) (fun _ _ _ _ _ => (v_callTy call_tuple_of (s_tupC rfl) T.n_tuple (by decide +kernel) (v_cons (v_var 4) v_nil)))) v_nil)))))))
abbrev s__law_plus : Stmt := top 26
abbrev N__law_plus : List Str := ["one", "other"]
abbrev P__law_plus : List Str := ["one", "other"]
theorem sc__law_plus : FnScope N__law_plus P__law_plus (defScope s__law_plus) := ⟨rfl, rfl, rfl, by decide +kernel, rfl, by decide +kernel, by decide +kernel⟩
def b__law_plus : FS := (retF (callF d__law_share (consF (opF addG (opF mulG (opF ixG (varF 0) (conF (.int 0))) (opF ixG (varF 1) (conF (.int 1)))) (opF mulG (opF ixG (varF 1) (conF (.int 0))) (opF ixG (varF 0) (conF (.int 1))))) (consF (opF mulG (opF ixG (varF 0) (conF (.int 1))) (opF ixG (varF 1) (conF (.int 1)))) nilF))))
def d__law_plus : FD := defF 2 b__law_plus
theorem ok__law_plus {P : Program} {w : World} {K : PySem.W.Frag} {mg : Str → Option Value} {base : Heap} {Tb : List (Addr × Str)} {cl : Nat → Addr} {ql : Str} {cells : List (Str × Addr)} {lam : Nat → LamI} {f : Addr} {fd : FuncData} (T : Txt K mg cl) (F : Fun K "_law_plus" "_law_plus" s__law_plus f fd) (hm : mg "_law_plus" = some (.ref f)) (B : Binds K fd P__law_plus []) (G__law_share : DefOk P w K mg base (Tx.mk P w K Tb cl ql cells lam) "_law_share" P__law_share 1 d__law_share) : DefOk P w K mg base (Tx.mk P w K Tb cl ql cells lam) "_law_plus" P__law_plus 2 d__law_plus :=
  def_ok F hm B sc__law_plus fun cdv A outer s H E hr => by
    have hu := hr.units
    exact (v_s1 (v_ret (v_callD G__law_share (hr.mono (by decide)) (takes_of rfl rfl rfl rfl) (v_cons (v_op op_addU (s_add rfl) (v_op op_mulU (s_mul rfl) (v_ix ix_U (s_ix rfl) (v_var 0) v_int) (v_ix ix_U (s_ix rfl) (v_var 1) v_int)) (v_op op_mulU (s_mul rfl) (v_ix ix_U (s_ix rfl) (v_var 1) v_int) (v_ix ix_U (s_ix rfl) (v_var 0) v_int))) (v_cons (v_op op_mulU (s_mul rfl) (v_ix ix_U (s_ix rfl) (v_var 0) v_int) (v_ix ix_U (s_ix rfl) (v_var 1) v_int)) v_nil)) (ar_cons (ar_cons ar_nil)))))
abbrev s__law_values : Stmt := top 27
abbrev N__law_values : List Str := ["web", "told", "starts", "found", "x", "into", "out", "y", "turn"]
abbrev P__law_values : List Str := ["web", "told", "starts"]
theorem sc__law_values : FnScope N__law_values P__law_values (defScope s__law_values) := ⟨rfl, rfl, rfl, by decide +kernel, rfl, by decide +kernel, by decide +kernel⟩
def b__law_values : FS := (seqF (asgF (clF lstC (consF (varF 2) nilF)) (nameT 3)) (seqF (forF (seqI (varF 1)) (nameT 4) (seqF (asgF (newF O.tup (consF (newF O.tup (consF (conF (.int 1)) (consF (conF (.int 1)) nilF))) (consF (newF O.tup (consF (conF (.int 1)) (consF (conF (.int 1)) nilF))) nilF))) (tupT 2 (consT (nameT 5) (consT (nameT 6) nilT)))) (seqF (forF (rg1I (consF (clF lenG (consF (varF 0) nilF)) nilF)) (nameT 7) (forF (rg1I (consF (clF absG (consF (opF ixG (opF ixG (varF 0) (varF 7)) (varF 4)) nilF)) nilF)) (nameT 8) (seqF (asgF (ifF (opF (cmpG fun i j => decide (i > j)) (opF ixG (opF ixG (varF 0) (varF 7)) (varF 4)) (conF (.int 0))) (callF d__law_times (consF (varF 5) (consF (opF ixG (varF 3) (varF 7)) nilF))) (varF 5)) (nameT 5)) (asgF (ifF (opF (cmpG fun i j => decide (i < j)) (opF ixG (opF ixG (varF 0) (varF 7)) (varF 4)) (conF (.int 0))) (callF d__law_times (consF (varF 6) (consF (opF ixG (varF 3) (varF 7)) nilF))) (varF 6)) (nameT 6))))) (seqF (asgF (callF d__law_times (consF (callF d__law_plus (consF (varF 5) (consF (varF 6) nilF))) (consF (newF O.tup (consF (opF ixG (opF ixG (varF 3) (varF 4)) (conF (.int 1))) (consF (opF ixG (opF ixG (varF 3) (varF 4)) (conF (.int 0))) nilF))) nilF))) (subT (varF 3) (varF 4))) (asgF (callF d__law_turn (consF (varF 0) (consF (varF 4) nilF))) (nameT 0)))))) (retF (varF 3))))
def d__law_values : FD := defF 9 b__law_values
theorem ok__law_values {P : Program} {w : World} {K : PySem.W.Frag} {mg : Str → Option Value} {base : Heap} {Tb : List (Addr × Str)} {cl : Nat → Addr} {ql : Str} {cells : List (Str × Addr)} {lam : Nat → LamI} {f : Addr} {fd : FuncData} (T : Txt K mg cl) (F : Fun K "_law_values" "_law_values" s__law_values f fd) (hm : mg "_law_values" = some (.ref f)) (B : Binds K fd P__law_values []) (G__law_times : DefOk P w K mg base (Tx.mk P w K Tb cl ql cells lam) "_law_times" P__law_times 2 d__law_times) (G__law_plus : DefOk P w K mg base (Tx.mk P w K Tb cl ql cells lam) "_law_plus" P__law_plus 2 d__law_plus) (G__law_turn : DefOk P w K mg base (Tx.mk P w K Tb cl ql cells lam) "_law_turn" P__law_turn 1 d__law_turn) : DefOk P w K mg base (Tx.mk P w K Tb cl ql cells lam) "_law_values" P__law_values 3 d__law_values :=
  def_ok F hm B sc__law_values fun cdv A outer s H E hr => by
    have hu := hr.units
    exact (v_seq (v_asg (v_callTy call_list_of (s_lstC rfl) T.n_list (by decide +kernel) (v_cons (v_var 2) v_nil)) (v_gname 3 sc__law_values.nd)) (v_seq (v_forS (passes_of rfl) (v_iseq rfl (v_var 1)) (v_gname 4 sc__law_values.nd) (v_seq (v_asg (v_tup (v_cons (v_tup (v_cons v_int (v_cons v_int v_nil))) (v_cons (v_tup (v_cons v_int (v_cons v_int v_nil))) v_nil))) (v_gtupS rfl (pg_tup rfl (v_gcons (v_gname 5 sc__law_values.nd) (v_gcons (v_gname 6 sc__law_values.nd) v_gnil))))) (v_seq (v_forS (passes_of rfl) (v_irg1 T.n_range (v_cons (v_callB call_len (s_len rfl) T.n_len (by decide +kernel) (v_cons (v_var 0) v_nil)) v_nil)) (v_gname 7 sc__law_values.nd) (v_s1 (v_forS (passes_of rfl) (v_irg1 T.n_range (v_cons (v_callB call_abs s_abs T.n_abs (by decide +kernel) (v_cons (v_ix ix_U (s_ix rfl) (v_ix ix_U (s_ix rfl) (v_var 0) (v_var 7)) (v_var 4)) v_nil)) v_nil)) (v_gname 8 sc__law_values.nd) (v_seq (v_asg (v_ifE (v_cmpT op_gt s_cmp (v_ix ix_U (s_ix rfl) (v_ix ix_U (s_ix rfl) (v_var 0) (v_var 7)) (v_var 4)) v_int) (v_callD G__law_times (hr.mono (by decide)) (takes_of rfl rfl rfl rfl) (v_cons (v_var 5) (v_cons (v_ix ix_U (s_ix rfl) (v_var 3) (v_var 7)) v_nil)) (ar_cons (ar_cons ar_nil))) (v_var 5)) (v_gname 5 sc__law_values.nd)) (v_s1 (v_asg (v_ifE (v_cmpT op_lt s_cmp (v_ix ix_U (s_ix rfl) (v_ix ix_U (s_ix rfl) (v_var 0) (v_var 7)) (v_var 4)) v_int) (v_callD G__law_times (hr.mono (by decide)) (takes_of rfl rfl rfl rfl) (v_cons (v_var 6) (v_cons (v_ix ix_U (s_ix rfl) (v_var 3) (v_var 7)) v_nil)) (ar_cons (ar_cons ar_nil))) (v_var 6)) (v_gname 6 sc__law_values.nd))))))) (v_seq (v_asg (v_callD G__law_times (hr.mono (by decide)) (takes_of rfl rfl rfl rfl) (v_cons (v_callD G__law_plus (hr.mono (by decide)) (takes_of rfl rfl rfl rfl) (v_cons (v_var 5) (v_cons (v_var 6) v_nil)) (ar_cons (ar_cons ar_nil))) (v_cons (v_tup (v_cons (v_ix ix_U (s_ix rfl) (v_ix ix_U (s_ix rfl) (v_var 3) (v_var 4)) v_int) (v_cons (v_ix ix_U (s_ix rfl) (v_ix ix_U (s_ix rfl) (v_var 3) (v_var 4)) v_int) v_nil))) v_nil)) (ar_cons (ar_cons ar_nil))) (v_gsub (W := W0) (v_var 3) (v_var 4) (pg_sub (v_var 3) (v_var 4) set_list))) (v_s1 (v_asg (v_callD G__law_turn (hr.mono (by decide)) (takes_of rfl rfl rfl rfl) (v_cons (v_var 0) (v_cons (v_var 4) v_nil)) (ar_cons (ar_cons ar_nil))) (v_gname 0 sc__law_values.nd))))))) (v_s1 (v_ret (v_var 3)))))
end Law
set_option maxRecDepth 100000
set_option maxHeartbeats 2000000
namespace Law
open PySem L2 Vai
theorem atI_natK {α : Type} {xs : List α} {k : Nat} {x : α} (h : xs[k]? = some x) : atI xs ((k : Nat) : Int) = some x := by
  have hk := (List.getElem?_eq_some_iff.mp h).1
  unfold atI ixN
  rw [if_pos (by omega), if_pos (by omega)]
  simpa using h
structure RowAt (S : List O) (ns : List Int) (a b c : Int) : Prop where
  s0 : ∃ o, ScrO o ns ∧ S[0]? = some o
  s1 : S[1]? = some (.lst [.ref 0, .int a, .int b, .int c])
  pos : 0 ≤ a
theorem scr_len {S : List O} {o : O} {ns : List Int} (h : ScrO o ns) (e : S[0]? = some o) : lenG [.ref 0] S = some (.int ns.length, S) := by
  unfold lenG
  simp only
  rw [e]
  rcases h with rfl | rfl
  · rfl
  · simp
theorem scr_ix {S : List O} {o : O} {ns : List Int} {k : Nat} (h : ScrO o ns) (e : S[0]? = some o) (hk : k < ns.length) : ixG (.ref 0) (.int (k : Nat)) S = some (.int ns[k], S) := by
  rcases h with rfl | rfl
  · unfold ixG
    simp only
    rw [e]
    simp only
    rw [atI_natK (List.getElem?_eq_getElem hk)]
    rfl
  · exact g_ixL e (atI_natK (by rw [List.getElem?_map, List.getElem?_eq_getElem hk]; rfl))
theorem RowAt.put {S : List O} {ns : List Int} {a b c a' b' c' : Int} (h : RowAt S ns a b c) (ha : 0 ≤ a') : RowAt (S.set 1 (.lst [.ref 0, .int a', .int b', .int c'])) ns a' b' c' := by
  obtain ⟨o, h1, h2⟩ := h.s0
  exact ⟨⟨o, h1, by rw [List.getElem?_set_ne (by decide)]; exact h2⟩, List.getElem?_set_self (List.getElem?_eq_some_iff.mp h.s1).1, ha⟩
theorem t_row {S : List O} {xs : List A} {k : Int} {j : Nat} {v : A} {sa : Sa} (h : S[1]? = some (.lst xs)) (h0 : sa[0]? = some (some (.ref 1))) (hk : ixN xs.length k = some j) : subT (varF 0) (conF (.int k)) v sa S = some (sa, S.set 1 (.lst (xs.set j v))) := by
  unfold subT
  rw [r_var h0]
  simp only [conF]
  rw [h]
  simp only
  rw [hk]
theorem e_taken {S : List O} {ns : List Int} {a b c m : Int} (h : RowAt S ns a b c) (h0 : 0 < m) (h1 : m < 1073741824) :
    d__law_taken [.ref 1, .int m] S = some (.ok (.int (takenP ⟨ns, a, b, c⟩ m).1) (S.set 1 (.lst [.ref 0, .int (takenP ⟨ns, a, b, c⟩ m).2.a, .int (takenP ⟨ns, a, b, c⟩ m).2.b, .int (takenP ⟨ns, a, b, c⟩ m).2.c]))) := by
  obtain ⟨o, hs, hs0⟩ := h.s0
  have hr := h.s1
  let sa : Sa := [some (.ref 1), some (.int m), none, none]
  have hm : (decide (m ≠ 0)) = true := decide_eq_true (by omega)
  have hm2 : (decide (m ≠ 0) && decide (m.natAbs < 1073741824)) = true := by rw [hm, decide_eq_true (by omega)]; rfl
  have md : ∀ (i : Int) (S : List O), modG (.int i) (.int m) S = some (.int (i.fmod m), S) := fun i S => by
    show (if decide (m ≠ 0) = true then some (A.int (i.fmod m), S) else none) = _
    rw [if_pos hm]
  have fd : ∀ (i : Int) (S : List O), fdivG (.int i) (.int m) S = some (.int (i.fdiv m), S) := fun i S => by
    show (if (decide (m ≠ 0) && decide (m.natAbs < 1073741824) || (decide (0 < m) && decide (m.natAbs.log2 < 9000))) = true then some (A.int (i.fdiv m), S) else none) = _
    rw [hm2, Bool.true_or, if_pos rfl]
  have rng : ∀ i : Int, 0 ≤ i.fmod m ∧ i.fmod m < m := fun i => ⟨by rw [Int.fmod_eq_emod_of_nonneg i (by omega)]; exact Int.emod_nonneg i (by omega), by rw [Int.fmod_eq_emod_of_nonneg i (by omega)]; exact Int.emod_lt_of_pos i h0⟩
  have ix : ∀ {S : List O} {xs : List A} {sa : Sa} {k : Int} {x : A}, S[1]? = some (.lst xs) → sa[0]? = some (some (.ref 1)) → atI xs k = some x → opF ixG (varF 0) (conF (.int k)) sa S = some (.ok x S) := fun e1 e2 e3 => r_op (r_var e2) r_con (g_ixL e1 e3)
  have t0 : opF (cmpG fun i j => decide (i > j)) (opF ixG (varF 0) (conF (.int 3))) (conF (.int 0)) sa S = some (.ok (.bl (decide (c > 0))) S) := r_op (ix hr rfl rfl) r_con rfl
  by_cases hc : c > 0
  · rw [decide_eq_true hc] at t0
    have a1 := r_asgN (i := 2) (sa := sa) (r_op (r_cl (g := intC) (r_cons (ix (k := 3) hr rfl rfl) r_nil) rfl) (r_var (i := 1) rfl) (md c S))
    have a2 := r_asg (z := (sa.set 2 (some (.int (c.fmod m))), S.set 1 (.lst [.ref 0, .int a, .int b, .int (c.fdiv m)]))) (r_op (ix (sa := sa.set 2 (some (.int (c.fmod m)))) (k := 3) hr rfl rfl) (r_var (i := 1) rfl) (fd c S)) (t_row (k := 3) (j := 3) hr rfl rfl)
    rw [show takenP ⟨ns, a, b, c⟩ m = (c.fmod m, ⟨ns, a, b, c.fdiv m⟩) from if_pos hc]
    exact r_defR (r_seqR (r_condT t0 (r_seq a1 (r_seq a2 (r_ret (r_var rfl))))))
  · rw [decide_eq_false hc] at t0
    have b1 := r_asg (sa := sa) (z := (sa, S.set 1 (.lst [.ref 0, .int (a + 1), .int b, .int c]))) (r_op (g := addG) (ix (k := 1) hr rfl rfl) (r_con (a := .int 1)) rfl) (t_row (k := 1) (j := 1) hr rfl rfl)
    have row1 := h.put (a' := a + 1) (b' := b) (c' := c) (by have := h.pos; omega)
    generalize hS1 : S.set 1 (.lst [.ref 0, .int (a + 1), .int b, .int c]) = S1 at b1 row1
    have hr1 := row1.s1
    have hs1 : S1[0]? = some o := by
      rw [← hS1, List.getElem?_set_ne (by decide)]
      exact hs0
    have setset : ∀ u : O, S1.set 1 u = S.set 1 u := fun u => by
      rw [← hS1, List.set_set]
    have t1 : opF (cmpG fun i j => decide (i > j)) (opF ixG (varF 0) (conF (.int 1))) (clF lenG (consF (opF ixG (varF 0) (conF (.int 0))) nilF)) sa S1 = some (.ok (.bl (decide (a + 1 > (ns.length : Int)))) S1) := r_op (ix hr1 rfl rfl) (r_cl (r_cons (ix hr1 rfl rfl) r_nil) (scr_len hs hs1)) rfl
    by_cases hl : a + 1 > (ns.length : Int)
    · rw [decide_eq_true hl] at t1
      have hmul : mulG (.int b) (.int 48271) S1 = some (.int (b * 48271), S1) := by
        show (if (Vai.small64 b || Vai.small64 48271 || decide (_ < 1000000)) = true then some (A.int (b * 48271), S1) else none) = _
        rw [show Vai.small64 48271 = true from rfl, Bool.or_true, Bool.true_or, if_pos rfl]
      have b2 := r_asg (sa := sa) (z := (sa, S1.set 1 (.lst [.ref 0, .int (a + 1), .int ((b * 48271 + 11).fmod 2147483647), .int c]))) (r_op (r_cl (g := intC) (r_cons (r_op (g := addG) (r_op (ix (k := 2) hr1 rfl rfl) (r_con (a := .int 48271)) hmul) (r_con (a := .int 11)) rfl) r_nil) rfl) (r_con (a := .int 2147483647)) (g := modG) rfl) (t_row (k := 2) (j := 2) hr1 rfl rfl)
      have row2 := row1.put (a' := a + 1) (b' := (b * 48271 + 11).fmod 2147483647) (c' := c) row1.pos
      rw [setset] at b2 row2
      have b3 := r_ret (r_op (r_cl (g := intC) (r_cons (r_op (ix (sa := sa) (k := 2) row2.s1 rfl rfl) (r_con (a := .int 7)) (g := fdivG) rfl) r_nil) rfl) (r_var (i := 1) rfl) (md _ _))
      rw [show takenP ⟨ns, a, b, c⟩ m = ((((b * 48271 + 11).fmod 2147483647).fdiv 7).fmod m, ⟨ns, a + 1, (b * 48271 + 11).fmod 2147483647, c⟩) from (if_neg hc).trans (if_pos hl)]
      exact r_defR (r_seq (sa1 := sa) (r_condF t0 rfl) (r_seq b1 (r_seqR (r_condT t1 (r_seq b2 b3)))))
    · rw [decide_eq_false hl] at t1
      have hlt : a.toNat < ns.length := by
        have := h.pos
        omega
      have hcell : opF ixG (opF ixG (varF 0) (conF (.int 0))) (opF subG (opF ixG (varF 0) (conF (.int 1))) (conF (.int 1))) sa S1 = some (.ok (.int ns[a.toNat]) S1) := by
        refine r_op (ix hr1 rfl rfl) (r_op (ix hr1 rfl rfl) r_con rfl) ?_
        have e : (a + 1 - 1 : Int) = ((a.toNat : Nat) : Int) := by
          have := h.pos
          omega
        show ixG (.ref 0) (.int (a + 1 - 1)) S1 = _
        rw [e]
        exact scr_ix hs hs1 hlt
      have hg : ns.getD a.toNat 0 = ns[a.toNat] := by rw [List.getD_eq_getElem?_getD, List.getElem?_eq_getElem hlt]; rfl
      have htk : takenP ⟨ns, a, b, c⟩ m = (ns[a.toNat].fmod m, ⟨ns, a + 1, (b * 48271 + ns[a.toNat] + 11).fmod 2147483647, if ns[a.toNat] ≥ 1000000000000000000 then ns[a.toNat].fdiv m else c⟩) := by
        rw [← hg]
        exact (if_neg hc).trans (if_neg hl)
      rw [htk]
      clear htk hg
      generalize ns[a.toNat] = v at hcell ⊢
      have b2 := r_asgN (i := 3) hcell
      have hmul : mulG (.int b) (.int 48271) S1 = some (.int (b * 48271), S1) := by
        show (if (Vai.small64 b || Vai.small64 48271 || decide (_ < 1000000)) = true then some (A.int (b * 48271), S1) else none) = _
        rw [show Vai.small64 48271 = true from rfl, Bool.or_true, Bool.true_or, if_pos rfl]
      let sb : Sa := [some (.ref 1), some (.int m), none, some (.int v)]
      have b3 := r_asg (sa := sb) (z := (sb, S1.set 1 (.lst [.ref 0, .int (a + 1), .int ((b * 48271 + v + 11).fmod 2147483647), .int c]))) (r_op (r_cl (g := intC) (r_cons (r_op (g := addG) (r_op (g := addG) (r_op (ix (k := 2) hr1 rfl rfl) (r_con (a := .int 48271)) hmul) (r_var (i := 3) rfl) rfl) (r_con (a := .int 11)) rfl) r_nil) rfl) (r_con (a := .int 2147483647)) (g := modG) rfl) (t_row (k := 2) (j := 2) hr1 rfl rfl)
      have row2 := row1.put (a' := a + 1) (b' := (b * 48271 + v + 11).fmod 2147483647) (c' := c) row1.pos
      rw [setset] at b3 row2
      generalize hS2 : S.set 1 (.lst [.ref 0, .int (a + 1), .int ((b * 48271 + v + 11).fmod 2147483647), .int c]) = S2 at b3 row2
      have t2 : opF (cmpG fun i j => decide (i ≥ j)) (varF 3) (opF powG (conF (.int 10)) (conF (.int 18))) sb S2 = some (.ok (.bl (decide (v ≥ 1000000000000000000))) S2) := r_op (r_var rfl) (r_op (g := powG) r_con r_con rfl) rfl
      have b5 : ∀ S3 : List O, retF (opF modG (clF intC (consF (varF 3) nilF)) (varF 1)) sb S3 = some (.rt (.int (v.fmod m)) S3) := fun S3 => r_ret (r_op (r_cl (g := intC) (r_cons (r_var rfl) r_nil) rfl) (r_var (i := 1) rfl) (md _ _))
      by_cases hv : v ≥ 1000000000000000000
      · rw [decide_eq_true hv] at t2
        have b4 := r_asg (sa := sb) (z := (sb, S2.set 1 (.lst [.ref 0, .int (a + 1), .int ((b * 48271 + v + 11).fmod 2147483647), .int (v.fdiv m)]))) (r_op (r_var (i := 3) rfl) (r_var (i := 1) rfl) (fd _ _)) (t_row (k := 3) (j := 3) row2.s1 rfl rfl)
        rw [← hS2, List.set_set] at b4
        rw [if_pos hv]
        refine r_defR (r_seq (sa1 := sa) (r_condF t0 rfl) (r_seq b1 (r_seq (sa1 := sa) (r_condF t1 rfl) (r_seq b2 (r_seq b3 (r_seq (r_condT t2 ?_) (b5 _)))))))
        rw [← hS2]
        exact b4
      · rw [decide_eq_false hv] at t2
        rw [if_neg hv]
        refine r_defR (r_seq (sa1 := sa) (r_condF t0 rfl) (r_seq b1 (r_seq (sa1 := sa) (r_condF t1 rfl) (r_seq b2 (r_seq b3 (r_seq (sa1 := sb) (r_condF t2 rfl) (by rw [← hS2]; exact b5 _)))))))
theorem takenP_ns {w : Wr} {m : Int} : (takenP w m).2.ns = w.ns := by
  unfold takenP
  split
  · rfl
  · split <;> rfl
theorem takenP_pos {w : Wr} {m : Int} (h : 0 ≤ w.a) : 0 ≤ (takenP w m).2.a := by
  unfold takenP
  split
  · exact h
  · split
    · show 0 ≤ w.a + 1
      omega
    · show 0 ≤ w.a + 1
      omega
theorem SD__law_taken : SimD d__law_taken takenD := fun X S as ts w w' r x0 x1 hX h hr e => by
  unfold takenD at e
  split at e
  · rename_i m
    split at e
    · rename_i hm
      cases e
      match as, h with
      | [a, b], h =>
        simp only [RtL, Rt, and_true] at h
        obtain ⟨rfl, rfl⟩ := h
        have ra : RowAt S w.ns w.a w.b w.c := ⟨hr.s0, hr.s1, hr.pos⟩
        have ht := e_taken ra hm.1 hm.2
        rw [ht]
        have p : RowAt (S.set 1 (.lst [.ref 0, .int (takenP w m).2.a, .int (takenP w m).2.b, .int (takenP w m).2.c])) w.ns (takenP w m).2.a (takenP w m).2.b (takenP w m).2.c := ra.put (takenP_pos hr.pos)
        exact ⟨_, rfl, But.put, ⟨by rw [takenP_ns]; exact p.s0, p.s1, p.pos⟩, by simp only [Rt]⟩
      | [], h => simp only [RtL] at h
      | [_], h => simp only [RtL] at h; exact h.2.elim
      | _ :: _ :: _ :: _, h => simp only [RtL] at h; exact h.2.2.elim
    · cases e
  · cases e
end Law
set_option maxRecDepth 100000
set_option maxHeartbeats 4000000
namespace Law
open PySem L2 Vai
abbrev s_law : Stmt := top 28
abbrev N_law : List Str := ["script", "row", "web", "n", "x", "y", "due", "lines", "a", "small", "line", "starts", "turns", "many", "now"]
abbrev P_law : List Str := ["script"]
theorem sc_law : FnScope N_law P_law (defScope s_law) := ⟨rfl, rfl, rfl, by decide +kernel, rfl, by decide +kernel, by decide +kernel⟩
abbrev cellsL (s : Shared) : List (Str × Addr) := (PyProof.Rows.envOfC "law" (defScope s_law) s.heap.objs.size 0 .none).cells
abbrev qlL : Str := (PyProof.Rows.envOfC "law" (defScope s_law) 0 0 .none).qual ++ "<lambda>"
def lamL : Nat → LamI := fun _ => lamOf (.Constant .none 0 ⟨0, 0, 0, 0⟩)
def b_law : FS := (seqF (asgF (newF O.lst (consF (varF 0) (consF (conF (.int 0)) (consF (conF (.int 7322)) (consF (conF (.int 0)) nilF))))) (nameT 1)) (seqF (asgF (callF d__law_web (consF (varF 1) (consF (conF (.int 6)) (consF (conF (.int 3)) nilF)))) (nameT 2)) (seqF (asgF (clF lenG (consF (varF 2) nilF)) (nameT 3)) (seqF (condF (opF (cmpG fun i j => decide (i < j)) (varF 3) (conF (.int 2))) (retF (conF (.bl true))) endF) (seqF (asgF (callF d__law_taken (consF (varF 1) (consF (varF 3) nilF))) (nameT 4)) (seqF (asgF (opF modG (opF addG (opF addG (varF 4) (conF (.int 1))) (callF d__law_taken (consF (varF 1) (consF (opF subG (varF 3) (conF (.int 1))) nilF)))) (varF 3)) (nameT 5)) (seqF (asgF (dg2F (newDC [(.inl 0, .int 4), (.inl 1, .int 5)]) (clF absG (consF (opF ixG (opF ixG (varF 2) (varF 4)) (varF 5)) nilF)) (conF .non)) (nameT 6)) (seqF (condF (notF (callF d__law_alike (consF (callF d_round_of (consF (varF 2) (consF (varF 4) (consF (varF 5) nilF)))) (consF (varF 6) nilF)))) (retF (conF (.bl false))) endF) (seqF (asgF (lcF (rg1I (consF (varF 3) nilF)) (nameX 8) [8] (conF (.bl true)) (opF mulG (newF O.lst (consF (conF (.int 0)) nilF)) (varF 3))) (nameT 7)) (seqF (asgF (newF O.tup (consF (clF (twoG fun i j => if j > i then j else i) (consF (opF subG (conF (.int 0)) (conF (.int 1))) (consF (clF (twoG fun i j => if j < i then j else i) (consF (conF (.int 1)) (consF (opF ixG (opF ixG (varF 2) (varF 4)) (varF 5)) nilF))) nilF))) (consF (clF (twoG fun i j => if j > i then j else i) (consF (opF subG (conF (.int 0)) (conF (.int 1))) (consF (clF (twoG fun i j => if j < i then j else i) (consF (conF (.int 1)) (consF (opF ixG (opF ixG (varF 2) (varF 5)) (varF 4)) nilF))) nilF))) nilF))) (tupT 2 (consT (subT (opF ixG (varF 7) (varF 4)) (varF 5)) (consT (subT (opF ixG (varF 7) (varF 5)) (varF 4)) nilT)))) (seqF (asgF (clF tupC (consF (lcF (seqI (varF 7)) (nameX 10) [10] (conF (.bl true)) (clF tupC (consF (varF 10) nilF))) nilF)) (nameT 9)) (seqF (parF 11 12 (consF (slF (newF O.tup (consF (newF O.tup (consF (conF (.int 3)) (consF (conF (.int 1)) nilF))) (consF (newF O.tup (consF (conF (.int 7)) (consF (conF (.int 2)) nilF))) (consF (newF O.tup (consF (conF (.int 11)) (consF (conF (.int 5)) nilF))) (consF (newF O.tup (consF (conF (.int 13)) (consF (conF (.int 1)) nilF))) (consF (newF O.tup (consF (conF (.int 17)) (consF (conF (.int 3)) nilF))) (consF (newF O.tup (consF (conF (.int 19)) (consF (conF (.int 7)) nilF))) nilF))))))) none (some (varF 3))) (consF (opF mulG (newF O.tup (consF (varF 4) (consF (varF 5) nilF))) (conF (.int 3))) nilF))) (seqF (forF (rg2I (consF (conF (.int 1)) (consF (conF (.int 6)) nilF))) (nameT 13) (seqF (asgF (clF sort2G (consF (callF d__law_values (consF (varF 9) (consF (slF (varF 12) none (some (varF 13))) (consF (varF 11) nilF)))) nilF)) (nameT 14)) (condF (opF (eqG true) (opF (eqG false) (varF 14) (clF sort2G (consF (varF 11) nilF))) (opF (eqG false) (varF 13) (ifF (opF (eqG false) (opF ixG (opF ixG (varF 9) (varF 4)) (varF 5)) (conF (.int 0))) (conF (.int 4)) (conF (.int 5))))) (retF (conF (.bl false))) endF))) (retF (conF (.bl true))))))))))))))))
theorem law_body {P : Program} {w : World} {K : PySem.W.Frag} {mg : Str → Option Value} {base : Heap} {Tb : List (Addr × Str)} {cl : Nat → Addr} {f c : Addr} {A : Around} {outer : List Env} {s : Shared} {H : Hp} {E : XK} (T : Txt K mg cl) (G__law_web : DefOk P w K mg base (Tx.mk P w K Tb cl qlL (cellsL s) lamL) "_law_web" P__law_web 3 d__law_web) (G__law_taken : DefOk P w K mg base (Tx.mk P w K Tb cl qlL (cellsL s) lamL) "_law_taken" P__law_taken 1 d__law_taken) (G_round_of : DefOk P w K mg base (Tx.mk P w K Tb cl qlL (cellsL s) lamL) "round_of" P_round_of 6 d_round_of) (G__law_alike : DefOk P w K mg base (Tx.mk P w K Tb cl qlL (cellsL s) lamL) "_law_alike" P__law_alike 4 d__law_alike) (G__law_values : DefOk P w K mg base (Tx.mk P w K Tb cl qlL (cellsL s) lamL) "_law_values" P__law_values 3 d__law_values)
    (hr : Room 6 (A.deeper (PyProof.Rows.envOfC "law" (defScope s_law) s.heap.objs.size f (.ref c)))) : PSs (cxOf (L2.CX P w) P w K mg base N_law "law" (defScope s_law) f (.ref c) A outer s H E) (defBody s_law) (liftS (Tx.mk P w K Tb cl qlL (cellsL s) lamL) (fun cls d _ H => E cls d H) b_law) := by
  have hu := hr.units
  exact (v_seq (v_asg (v_lst (v_cons (v_var 0) (v_cons v_int (v_cons v_int (v_cons v_int v_nil))))) (v_gname 1 sc_law.nd)) (v_seq (v_asg (v_callD G__law_web (hr.mono (by decide)) (takes_of rfl rfl rfl rfl) (v_cons (v_var 1) (v_cons v_int (v_cons v_int v_nil))) (ar_cons (ar_cons (ar_cons ar_nil)))) (v_gname 2 sc_law.nd)) (v_seq (v_asg (v_callB call_len (s_len rfl) T.n_len (by decide +kernel) (v_cons (v_var 2) v_nil)) (v_gname 3 sc_law.nd)) (v_seq (v_if (v_cmpT op_lt s_cmp (v_var 3) v_int) (v_s1 (v_ret v_bl)) v_send) (v_seq (v_asg (v_callD G__law_taken (hr.mono (by decide)) (takes_of rfl rfl rfl rfl) (v_cons (v_var 1) (v_cons (v_var 3) v_nil)) (ar_cons (ar_cons ar_nil))) (v_gname 4 sc_law.nd)) (v_seq (v_asg (v_op op_modN s_mod (v_op op_addU (s_add rfl) (v_op op_addU (s_add rfl) (v_var 4) v_int) (v_callD G__law_taken (hr.mono (by decide)) (takes_of rfl rfl rfl rfl) (v_cons (v_var 1) (v_cons (v_op op_sub s_sub (v_var 3) v_int) v_nil)) (ar_cons (ar_cons ar_nil)))) (v_var 3)) (v_gname 5 sc_law.nd)) (v_seq (v_asg (v_dget2 hu (v_dispC (dc_cons (q := .inl 0) (a := .int 4) pe_int pe_int (dc_cons (q := .inl 1) (a := .int 5) pe_int pe_int dc_nil)) rfl rfl (fun h => by cases h) (by decide) (by decide) (by decide)) (v_callB call_abs s_abs T.n_abs (by decide +kernel) (v_cons (v_ix ix_U (s_ix rfl) (v_ix ix_U (s_ix rfl) (v_var 2) (v_var 4)) (v_var 5)) v_nil)) v_non ⟨rfl, rfl, rfl, rfl⟩) (v_gname 6 sc_law.nd)) (v_seq (v_if (v_notT (v_val (v_callD G__law_alike (hr.mono (by decide)) (takes_of rfl rfl rfl rfl) (v_cons (v_callD G_round_of (hr.mono (by decide)) (takes_of rfl rfl rfl rfl) (v_cons (v_var 2) (v_cons (v_var 4) (v_cons (v_var 5) v_nil))) (ar_cons (ar_cons (ar_cons ar_nil)))) (v_cons (v_var 6) v_nil)) (ar_cons (ar_cons ar_nil))))) (v_s1 (v_ret v_bl)) v_send) (v_seq (v_setLc [("a", 8)] (i := 7) sc_law.nd rfl rfl (sw_true rfl rfl rfl (by decide +kernel)) (v_irg1 T.n_range (v_cons (v_var 3) v_nil)) (blkOk_by (N := N_law) (sc := defScope s_law) (by decide +kernel)) (fun _ _ _ _ _ => (v_xname 8 (by decide) sc_law.nd)) (fun _ _ _ _ _ => v_ts0) (fun _ _ _ _ _ => (v_op op_mulU (s_mul rfl) (v_lst (v_cons v_int v_nil)) (v_var 3)))) (v_seq (v_asg (v_tup (v_cons (v_callB (call_max2 rfl) s_two T.n_max (by decide +kernel) (v_cons (v_op op_sub s_sub v_int v_int) (v_cons (v_callB (call_min2 rfl) s_two T.n_min (by decide +kernel) (v_cons v_int (v_cons (v_ix ix_U (s_ix rfl) (v_ix ix_U (s_ix rfl) (v_var 2) (v_var 4)) (v_var 5)) v_nil))) v_nil))) (v_cons (v_callB (call_max2 rfl) s_two T.n_max (by decide +kernel) (v_cons (v_op op_sub s_sub v_int v_int) (v_cons (v_callB (call_min2 rfl) s_two T.n_min (by decide +kernel) (v_cons v_int (v_cons (v_ix ix_U (s_ix rfl) (v_ix ix_U (s_ix rfl) (v_var 2) (v_var 5)) (v_var 4)) v_nil))) v_nil))) v_nil))) (v_gtupS rfl (pg_tup rfl (v_gcons (v_gsub (W := W0) (v_ix ix_U (s_ix rfl) (v_var 7) (v_var 4)) (v_var 5) (pg_sub (v_ix ix_U (s_ix rfl) (v_var 7) (v_var 4)) (v_var 5) set_list)) (v_gcons (v_gsub (W := W0) (v_ix ix_U (s_ix rfl) (v_var 7) (v_var 5)) (v_var 4) (pg_sub (v_ix ix_U (s_ix rfl) (v_var 7) (v_var 5)) (v_var 4) set_list)) v_gnil))))) (v_seq (v_asg (v_callTy call_tuple_of (s_tupC rfl) T.n_tuple (by decide +kernel) (v_cons (v_lc [("line", 10)] sc_law.nd (v_iseq rfl (v_var 7)) (blkOk_by (N := N_law) (sc := defScope s_law) (by decide +kernel)) (fun _ _ _ _ _ => (v_xname 10 (by decide) sc_law.nd)) (fun _ _ _ _ _ => v_ts0) (fun _ _ _ _ _ => (v_callTy call_tuple_of (s_tupC rfl) T.n_tuple (by decide +kernel) (v_cons (v_var 10) v_nil)))) v_nil)) (v_gname 9 sc_law.nd)) (v_seq (v_par (i := 11) (j := 12) sc_law.nd (v_cons (v_slice rfl (v_tup (v_cons (v_tup (v_cons v_int (v_cons v_int v_nil))) (v_cons (v_tup (v_cons v_int (v_cons v_int v_nil))) (v_cons (v_tup (v_cons v_int (v_cons v_int v_nil))) (v_cons (v_tup (v_cons v_int (v_cons v_int v_nil))) (v_cons (v_tup (v_cons v_int (v_cons v_int v_nil))) (v_cons (v_tup (v_cons v_int (v_cons v_int v_nil))) v_nil))))))) po_of0 (po_of (v_var 3))) (v_cons (v_op op_mulU (s_mul rfl) (v_tup (v_cons (v_var 4) (v_cons (v_var 5) v_nil))) v_int) v_nil))) (v_seq (v_forS (passes_of rfl) (v_irg2 T.n_range (v_cons v_int (v_cons v_int v_nil))) (v_gname 13 sc_law.nd) (v_seq (v_asg (v_callB cr_sort2 (s_sort2 rfl) T.n_sorted (by decide +kernel) (v_cons (v_callD G__law_values (hr.mono (by decide)) (takes_of rfl rfl rfl rfl) (v_cons (v_var 9) (v_cons (v_slice rfl (v_var 12) po_of0 (po_of (v_var 13))) (v_cons (v_var 11) v_nil))) (ar_cons (ar_cons (ar_cons ar_nil)))) v_nil)) (v_gname 14 sc_law.nd)) (v_s1 (v_if (v_cmpT (op_neD hu) (s_ne rfl) (v_cmp (op_eqD hu) (s_eq rfl) (v_var 14) (v_callB cr_sort2 (s_sort2 rfl) T.n_sorted (by decide +kernel) (v_cons (v_var 11) v_nil))) (v_cmp (op_eqD hu) (s_eq rfl) (v_var 13) (v_ifE (v_cmpT (op_eqD hu) (s_eq rfl) (v_ix ix_U (s_ix rfl) (v_ix ix_U (s_ix rfl) (v_var 9) (v_var 4)) (v_var 5)) v_int) v_int v_int))) (v_s1 (v_ret v_bl)) v_send)))) (v_s1 (v_ret v_bl)))))))))))))))
end Law
set_option maxRecDepth 100000
set_option maxHeartbeats 4000000
namespace Law
open PySem L2 Vai
theorem sS_is_int : SimS b_is_int t_is_int := (sim_ret (sim_and (sim_cl sm_isi (sim_cons sim_var (sim_cons (sim_con rfl) sim_nil))) (sim_not (sim_cl sm_isi (sim_cons sim_var (sim_cons (sim_con rfl) sim_nil))))))
theorem SD_is_int : SimD d_is_int q_is_int := sim_trimD (sim_def sS_is_int)
theorem sS_is_whole : SimS b_is_whole t_is_whole := (sim_ret (sim_and (sim_call SD_is_int (sim_cons sim_var sim_nil)) (sim_ch sm_cmp sm_cmp sim_var sim_var sim_var)))
theorem SD_is_whole : SimD d_is_whole q_is_whole := sim_trimD (sim_def sS_is_whole)
theorem sS__is_line : SimS b__is_line t__is_line := (sim_seq (sim_cond (sim_or (sim_not (sim_cl sm_isi (sim_cons sim_var (sim_cons (sim_con rfl) sim_nil)))) (sim_op sm_eq (sim_cl sm_len (sim_cons sim_var sim_nil)) sim_var)) (sim_ret (sim_con rfl)) sim_end) (sim_ret (sim_cl sm_all (sim_cons (sim_lc (sim_seqI sim_var) sim_nmX (sim_con rfl) (sim_call SD_is_whole (sim_cons sim_var (sim_cons (sim_un sm_neg (sim_con rfl)) (sim_cons (sim_con rfl) sim_nil))))) sim_nil))))
theorem SD__is_line : SimD d__is_line q__is_line := sim_trimD (sim_def sS__is_line)
theorem sS_is_web : SimS b_is_web t_is_web := (sim_seq (sim_cond (sim_or (sim_not (sim_cl sm_isi (sim_cons sim_var (sim_cons (sim_con rfl) sim_nil)))) (sim_not (sim_ch sm_cmp sm_cmp (sim_con rfl) (sim_cl sm_len (sim_cons sim_var sim_nil)) (sim_con rfl)))) (sim_ret (sim_con rfl)) sim_end) (sim_seq (sim_asg (sim_cl sm_len (sim_cons sim_var sim_nil)) sim_nmT) (sim_seq (sim_cond (sim_trim (sim_not (sim_cl sm_all (sim_cons (sim_lc (sim_seqI sim_var) sim_nmX (sim_con rfl) (sim_call SD__is_line (sim_cons sim_var (sim_cons sim_var sim_nil)))) sim_nil)))) (sim_ret (sim_con rfl)) sim_end) (sim_ret (sim_cl sm_all (sim_cons (sim_lc2 (sim_rg1 (sim_cons sim_var sim_nil)) sim_nmX (sim_con rfl) (sim_rg1 (sim_cons sim_var sim_nil)) sim_nmX (sim_con rfl) (sim_op sm_eq (sim_op sm_ix (sim_op sm_ix sim_var sim_var) sim_var) (sim_un sm_neg (sim_op sm_ix (sim_op sm_ix sim_var sim_var) sim_var)))) sim_nil))))))
theorem SD_is_web : SimD d_is_web q_is_web := sim_trimD (sim_def sS_is_web)
theorem sS_check_web : SimS b_check_web t_check_web := (sim_cond (sim_not (sim_call SD_is_web (sim_cons sim_var sim_nil))) sim_raise sim_end)
theorem SD_check_web : SimD d_check_web q_check_web := sim_trimD (sim_def sS_check_web)
theorem sS_is_node : SimS b_is_node t_is_node := (sim_ret (sim_call SD_is_whole (sim_cons sim_var (sim_cons (sim_con rfl) (sim_cons (sim_op sm_sub sim_var (sim_con rfl)) sim_nil)))))
theorem SD_is_node : SimD d_is_node q_is_node := sim_trimD (sim_def sS_is_node)
theorem sS_check_node : SimS b_check_node t_check_node := (sim_cond (sim_not (sim_call SD_is_node (sim_cons sim_var (sim_cons sim_var sim_nil)))) sim_raise sim_end)
theorem SD_check_node : SimD d_check_node q_check_node := sim_trimD (sim_def sS_check_node)
theorem sS_round_of : SimS b_round_of t_round_of := (sim_seq (sim_exp (sim_call SD_check_web (sim_cons sim_var sim_nil))) (sim_seq (sim_exp (sim_call SD_check_node (sim_cons (sim_cl sm_len (sim_cons sim_var sim_nil)) (sim_cons sim_var sim_nil)))) (sim_seq (sim_exp (sim_call SD_check_node (sim_cons (sim_cl sm_len (sim_cons sim_var sim_nil)) (sim_cons sim_var sim_nil)))) (sim_seq (sim_cond (sim_op sm_eq sim_var sim_var) sim_raise sim_end) (sim_seq (sim_asg (sim_cl sm_abs (sim_cons (sim_op sm_ix (sim_op sm_ix sim_var sim_var) sim_var) sim_nil)) sim_nmT) (sim_ret (sim_ifE (sim_op sm_cmp sim_var (sim_con rfl)) (sim_op sm_add (sim_con rfl) sim_var) (sim_con rfl))))))))
theorem SD_round_of : SimD d_round_of q_round_of := sim_trimD (sim_def sS_round_of)
theorem sS__law_pick : SimS b__law_pick t__law_pick := (sim_ret (sim_op sm_ix sim_var (sim_call SD__law_taken (sim_cons sim_var (sim_cons (sim_cl sm_len (sim_cons sim_var sim_nil)) sim_nil)))))
theorem SD__law_pick : SimD d__law_pick q__law_pick := sim_def sS__law_pick
theorem sS__law_web : SimS b__law_web t__law_web := (sim_seq (sim_asg (sim_newT (sim_cons (sim_op sm_add (sim_con rfl) (sim_call SD__law_taken (sim_cons sim_var (sim_cons sim_var sim_nil)))) (sim_cons (sim_call SD__law_taken (sim_cons sim_var (sim_cons (sim_con rfl) sim_nil))) sim_nil))) (sim_tuT (sim_coN (sim_coN sim_niT)))) (sim_seq (sim_asg (sim_lcT (sim_rg1 (sim_cons sim_var sim_nil)) sim_nmX (sim_op sm_mul (sim_newL (sim_cons (sim_con rfl) sim_nil)) sim_var)) sim_nmO) (sim_seq (sim_for (sim_rg2 (sim_cons (sim_con rfl) (sim_cons sim_var sim_nil))) sim_nmT (sim_for (sim_rg1 (sim_cons sim_var sim_nil)) sim_nmT (sim_seq (sim_asg (sim_con rfl) sim_nmT) (sim_seq (sim_cond (sim_op sm_cmp sim_var (sim_con rfl)) (sim_asg (sim_op sm_mul (sim_call SD__law_pick (sim_cons sim_var (sim_cons (sim_newL (sim_cons (sim_con rfl) (sim_cons (sim_con rfl) (sim_cons (sim_con rfl) (sim_cons (sim_op sm_sub (sim_con rfl) (sim_con rfl)) sim_nil))))) sim_nil))) (sim_op sm_add (sim_con rfl) (sim_call SD__law_taken (sim_cons sim_var (sim_cons sim_var sim_nil))))) sim_nmT) (sim_cond (sim_op sm_eq sim_var (sim_con rfl)) (sim_asg (sim_op sm_mul (sim_call SD__law_pick (sim_cons sim_var (sim_cons (sim_newL (sim_cons (sim_con rfl) (sim_cons (sim_op sm_sub (sim_con rfl) (sim_con rfl)) sim_nil))) sim_nil))) (sim_cl sm_intC (sim_cons (sim_op sm_eq sim_var (sim_op sm_sub sim_var (sim_con rfl))) sim_nil))) sim_nmT) (sim_cond (sim_op sm_eq sim_var (sim_con rfl)) (sim_asg (sim_op sm_sub (sim_cl sm_intC (sim_cons (sim_op sm_eq sim_var (sim_op sm_sub sim_var (sim_con rfl))) sim_nil)) (sim_cl sm_intC (sim_cons (sim_and (sim_op sm_eq sim_var (sim_con rfl)) (sim_and (sim_op sm_eq sim_var (sim_op sm_sub sim_var (sim_con rfl))) (sim_op sm_cmp sim_var (sim_con rfl)))) sim_nil))) sim_nmT) sim_end))) (sim_asg (sim_newT (sim_cons sim_var (sim_cons (sim_op sm_sub (sim_con rfl) sim_var) sim_nil))) (sim_tuT (sim_coM (sim_st2 sim_var sim_var) (sim_coM (sim_st2 sim_var sim_var) sim_niT)))))))) (sim_seq (sim_cond (sim_op sm_eq sim_var (sim_con rfl)) (sim_for (sim_rg2 (sim_cons (sim_con rfl) (sim_cons sim_var sim_nil))) sim_nmT (sim_seq (sim_par (sim_call SD__law_taken (sim_cons sim_var (sim_cons sim_var sim_nil))) (sim_call SD__law_pick (sim_cons sim_var (sim_cons (sim_newL (sim_cons (sim_con rfl) (sim_cons (sim_op sm_sub (sim_con rfl) (sim_con rfl)) sim_nil))) sim_nil)))) (sim_asg (sim_newT (sim_cons sim_var (sim_cons (sim_op sm_sub (sim_con rfl) sim_var) sim_nil))) (sim_tuT (sim_coM (sim_st2 sim_var sim_var) (sim_coM (sim_st2 sim_var sim_var) sim_niT)))))) sim_end) (sim_ret (sim_cl sm_tupC (sim_cons (sim_lc (sim_seqI sim_var) sim_nmX (sim_con rfl) (sim_cl sm_tupC (sim_cons sim_var sim_nil))) sim_nil)))))))
theorem SD__law_web : SimD d__law_web q__law_web := sim_def sS__law_web
theorem SD__law_alike_0 : SimD d__law_alike_0 q__law_alike_0 := sim_noD
theorem sS__law_alike {d__law_alike_0 : FD} {q__law_alike_0 : PFD} (SD__law_alike_0 : SimD d__law_alike_0 q__law_alike_0) : SimS (b__law_alike d__law_alike_0) (t__law_alike q__law_alike_0) := (sim_seq (sim_cond (sim_trim (sim_cl sm_isi (sim_cons sim_var (sim_cons (sim_newT (sim_cons (sim_con rfl) (sim_cons (sim_con rfl) sim_nil))) sim_nil)))) (sim_seq (sim_cond (sim_trim (sim_or (sim_not (sim_cl sm_isi (sim_cons sim_var (sim_cons (sim_newT (sim_cons (sim_con rfl) (sim_cons (sim_con rfl) sim_nil))) sim_nil)))) (sim_op sm_eq (sim_cl sm_isi (sim_cons sim_var (sim_cons (sim_con rfl) sim_nil))) (sim_cl sm_isi (sim_cons sim_var (sim_cons (sim_con rfl) sim_nil)))))) (sim_ret (sim_con rfl)) sim_end) (sim_seq (sim_cond (sim_op sm_eq (sim_cl sm_len (sim_cons sim_var sim_nil)) (sim_cl sm_len (sim_cons sim_var sim_nil))) (sim_ret (sim_con rfl)) sim_end) (sim_ret (sim_op sm_eq (sim_lc (sim_rg1 (sim_cons (sim_cl sm_len (sim_cons sim_var sim_nil)) sim_nil)) sim_nmX (sim_not (sim_call SD__law_alike_0 (sim_cons (sim_op sm_ix sim_var sim_var) (sim_cons (sim_op sm_ix sim_var sim_var) sim_nil)))) sim_var) (sim_newL sim_nil))))) sim_end) (sim_seq (sim_cond (sim_cl sm_isi (sim_cons sim_var (sim_cons (sim_con rfl) sim_nil))) (sim_seq (sim_cond (sim_or (sim_not (sim_cl sm_isi (sim_cons sim_var (sim_cons (sim_con rfl) sim_nil)))) (sim_op sm_eq (sim_cl sm_sort2 (sim_cons sim_var sim_nil)) (sim_cl sm_sort2 (sim_cons sim_var sim_nil)))) (sim_ret (sim_con rfl)) sim_end) (sim_ret (sim_op sm_eq (sim_lc (sim_seqI sim_var) sim_nmX (sim_not (sim_call SD__law_alike_0 (sim_cons (sim_op sm_ix sim_var sim_var) (sim_cons (sim_op sm_ix sim_var sim_var) sim_nil)))) sim_var) (sim_newL sim_nil)))) sim_end) (sim_seq (sim_cond (sim_or (sim_op sm_is sim_var (sim_con rfl)) (sim_cl sm_isi (sim_cons sim_var (sim_cons (sim_con rfl) sim_nil)))) (sim_ret (sim_and (sim_op sm_eq sim_var sim_var) (sim_op sm_eq (sim_cl sm_isi (sim_cons sim_var (sim_cons (sim_con rfl) sim_nil))) (sim_cl sm_isi (sim_cons sim_var (sim_cons (sim_con rfl) sim_nil)))))) sim_end) (sim_ret (sim_and (sim_cl sm_isi (sim_cons sim_var (sim_cons (sim_con rfl) sim_nil))) (sim_and (sim_op sm_eq (sim_cl sm_isi (sim_cons sim_var (sim_cons (sim_con rfl) sim_nil))) (sim_cl sm_isi (sim_cons sim_var (sim_cons (sim_con rfl) sim_nil)))) (sim_op sm_eq sim_var sim_var)))))))
theorem SD__law_alike_1 : SimD d__law_alike_1 q__law_alike_1 := sim_trimD (sim_def (sS__law_alike SD__law_alike_0))
theorem SD__law_alike_2 : SimD d__law_alike_2 q__law_alike_2 := sim_trimD (sim_def (sS__law_alike SD__law_alike_1))
theorem SD__law_alike_3 : SimD d__law_alike_3 q__law_alike_3 := sim_trimD (sim_def (sS__law_alike SD__law_alike_2))
theorem SD__law_alike_4 : SimD d__law_alike_4 q__law_alike_4 := sim_trimD (sim_def (sS__law_alike SD__law_alike_3))
theorem SD__law_alike : SimD d__law_alike q__law_alike := SD__law_alike_4
theorem sS__law_share : SimS b__law_share t__law_share := (sim_seq (sim_par (sim_cl sm_abs (sim_cons sim_var sim_nil)) sim_var) (sim_seq (sim_while (sim_op sm_cmp sim_var (sim_con rfl)) (sim_par sim_var (sim_op sm_mod sim_var sim_var))) (sim_ret (sim_newT (sim_cons (sim_op sm_fdiv sim_var sim_var) (sim_cons (sim_op sm_fdiv sim_var sim_var) sim_nil))))))
theorem SD__law_share : SimD d__law_share q__law_share := sim_def sS__law_share
theorem sS__law_times : SimS b__law_times t__law_times := (sim_ret (sim_call SD__law_share (sim_cons (sim_op sm_mul (sim_op sm_ix sim_var (sim_con rfl)) (sim_op sm_ix sim_var (sim_con rfl))) (sim_cons (sim_op sm_mul (sim_op sm_ix sim_var (sim_con rfl)) (sim_op sm_ix sim_var (sim_con rfl))) sim_nil))))
theorem SD__law_times : SimD d__law_times q__law_times := sim_def sS__law_times
theorem sS__law_turn : SimS b__law_turn t__law_turn := (sim_seq (sim_par (sim_cl sm_len (sim_cons sim_var sim_nil)) (sim_lcT (sim_seqI sim_var) sim_nmX (sim_cl sm_lstC (sim_cons sim_var sim_nil)))) (sim_seq (sim_for (sim_rg1 (sim_cons sim_var sim_nil)) sim_nmT (sim_for (sim_rg1 (sim_cons sim_var sim_nil)) sim_nmT (sim_cond (sim_and (sim_op sm_cmp (sim_op sm_ix (sim_op sm_ix sim_var sim_var) sim_var) (sim_con rfl)) (sim_op sm_cmp (sim_op sm_ix (sim_op sm_ix sim_var sim_var) sim_var) (sim_con rfl))) (sim_seq (sim_asg (sim_op sm_mul (sim_op sm_ix (sim_op sm_ix sim_var sim_var) sim_var) (sim_op sm_ix (sim_op sm_ix sim_var sim_var) sim_var)) sim_nmT) (sim_asg (sim_newT (sim_cons (sim_op sm_add (sim_op sm_ix (sim_op sm_ix sim_var sim_var) sim_var) sim_var) (sim_cons (sim_op sm_sub (sim_op sm_ix (sim_op sm_ix sim_var sim_var) sim_var) sim_var) sim_nil))) (sim_tuT (sim_coM (sim_st2 sim_var sim_var) (sim_coM (sim_st2 sim_var sim_var) sim_niT))))) sim_end))) (sim_seq (sim_for (sim_rg1 (sim_cons sim_var sim_nil)) sim_nmT (sim_asg (sim_newT (sim_cons (sim_op sm_sub (sim_con rfl) (sim_op sm_ix (sim_op sm_ix sim_var sim_var) sim_var)) (sim_cons (sim_op sm_sub (sim_con rfl) (sim_op sm_ix (sim_op sm_ix sim_var sim_var) sim_var)) sim_nil))) (sim_tuT (sim_coM (sim_st2 sim_var sim_var) (sim_coM (sim_st2 sim_var sim_var) sim_niT))))) (sim_ret (sim_cl sm_tupC (sim_cons (sim_lc (sim_seqI sim_var) sim_nmX (sim_con rfl) (sim_cl sm_tupC (sim_cons sim_var sim_nil))) sim_nil))))))
theorem SD__law_turn : SimD d__law_turn q__law_turn := sim_def sS__law_turn
theorem sS__law_plus : SimS b__law_plus t__law_plus := (sim_ret (sim_call SD__law_share (sim_cons (sim_op sm_add (sim_op sm_mul (sim_op sm_ix sim_var (sim_con rfl)) (sim_op sm_ix sim_var (sim_con rfl))) (sim_op sm_mul (sim_op sm_ix sim_var (sim_con rfl)) (sim_op sm_ix sim_var (sim_con rfl)))) (sim_cons (sim_op sm_mul (sim_op sm_ix sim_var (sim_con rfl)) (sim_op sm_ix sim_var (sim_con rfl))) sim_nil))))
theorem SD__law_plus : SimD d__law_plus q__law_plus := sim_def sS__law_plus
theorem sS__law_values : SimS b__law_values t__law_values := (sim_seq (sim_asg (sim_cl sm_lstC (sim_cons sim_var sim_nil)) sim_nmO) (sim_seq (sim_for (sim_seqI sim_var) sim_nmT (sim_seq (sim_asg (sim_newT (sim_cons (sim_newT (sim_cons (sim_con rfl) (sim_cons (sim_con rfl) sim_nil))) (sim_cons (sim_newT (sim_cons (sim_con rfl) (sim_cons (sim_con rfl) sim_nil))) sim_nil))) (sim_tuT (sim_coN (sim_coN sim_niT)))) (sim_seq (sim_for (sim_rg1 (sim_cons (sim_cl sm_len (sim_cons sim_var sim_nil)) sim_nil)) sim_nmT (sim_for (sim_rg1 (sim_cons (sim_cl sm_abs (sim_cons (sim_op sm_ix (sim_op sm_ix sim_var sim_var) sim_var) sim_nil)) sim_nil)) sim_nmT (sim_seq (sim_asg (sim_ifE (sim_op sm_cmp (sim_op sm_ix (sim_op sm_ix sim_var sim_var) sim_var) (sim_con rfl)) (sim_call SD__law_times (sim_cons sim_var (sim_cons (sim_op sm_ix sim_var sim_var) sim_nil))) sim_var) sim_nmT) (sim_asg (sim_ifE (sim_op sm_cmp (sim_op sm_ix (sim_op sm_ix sim_var sim_var) sim_var) (sim_con rfl)) (sim_call SD__law_times (sim_cons sim_var (sim_cons (sim_op sm_ix sim_var sim_var) sim_nil))) sim_var) sim_nmT)))) (sim_seq (sim_asg (sim_call SD__law_times (sim_cons (sim_call SD__law_plus (sim_cons sim_var (sim_cons sim_var sim_nil))) (sim_cons (sim_newT (sim_cons (sim_op sm_ix (sim_op sm_ix sim_var sim_var) (sim_con rfl)) (sim_cons (sim_op sm_ix (sim_op sm_ix sim_var sim_var) (sim_con rfl)) sim_nil))) sim_nil))) (sim_st1 sim_var)) (sim_asg (sim_call SD__law_turn (sim_cons sim_var (sim_cons sim_var sim_nil))) sim_nmT))))) (sim_ret sim_var)))
theorem SD__law_values : SimD d__law_values q__law_values := sim_def sS__law_values
theorem sS_law : ∃ g, b_law = seqF (asgF (newF O.lst (consF (varF 0) (consF (conF (.int 0)) (consF (conF (.int 7322)) (consF (conF (.int 0)) nilF))))) (nameT 1)) g ∧ SimS g t_law := ⟨_, rfl, (sim_seq (sim_asg (sim_call SD__law_web (sim_cons sim_var (sim_cons (sim_con rfl) (sim_cons (sim_con rfl) sim_nil)))) sim_nmT) (sim_seq (sim_asg (sim_cl sm_len (sim_cons sim_var sim_nil)) sim_nmT) (sim_seq (sim_cond (sim_op sm_cmp sim_var (sim_con rfl)) (sim_ret (sim_con rfl)) sim_end) (sim_seq (sim_asg (sim_call SD__law_taken (sim_cons sim_var (sim_cons sim_var sim_nil))) sim_nmT) (sim_seq (sim_asg (sim_op sm_mod (sim_op sm_add (sim_op sm_add sim_var (sim_con rfl)) (sim_call SD__law_taken (sim_cons sim_var (sim_cons (sim_op sm_sub sim_var (sim_con rfl)) sim_nil)))) sim_var) sim_nmT) (sim_seq (sim_asg (sim_dg2 (sim_newDC (as := [(.int 4), (.int 5)]) (by decide) (by decide) (fun S => by simp only [RtL, Rt, and_self])) (sim_cl sm_abs (sim_cons (sim_op sm_ix (sim_op sm_ix sim_var sim_var) sim_var) sim_nil)) (sim_con rfl)) sim_nmT) (sim_seq (sim_cond (sim_not (sim_call SD__law_alike (sim_cons (sim_call SD_round_of (sim_cons sim_var (sim_cons sim_var (sim_cons sim_var sim_nil)))) (sim_cons sim_var sim_nil)))) (sim_ret (sim_con rfl)) sim_end) (sim_seq (sim_asg (sim_lcT (sim_rg1 (sim_cons sim_var sim_nil)) sim_nmX (sim_op sm_mul (sim_newL (sim_cons (sim_con rfl) sim_nil)) sim_var)) sim_nmO) (sim_seq (sim_asg (sim_newT (sim_cons (sim_cl sm_two (sim_cons (sim_op sm_sub (sim_con rfl) (sim_con rfl)) (sim_cons (sim_cl sm_two (sim_cons (sim_con rfl) (sim_cons (sim_op sm_ix (sim_op sm_ix sim_var sim_var) sim_var) sim_nil))) sim_nil))) (sim_cons (sim_cl sm_two (sim_cons (sim_op sm_sub (sim_con rfl) (sim_con rfl)) (sim_cons (sim_cl sm_two (sim_cons (sim_con rfl) (sim_cons (sim_op sm_ix (sim_op sm_ix sim_var sim_var) sim_var) sim_nil))) sim_nil))) sim_nil))) (sim_tuT (sim_coM (sim_st2 sim_var sim_var) (sim_coM (sim_st2 sim_var sim_var) sim_niT)))) (sim_seq (sim_asg (sim_cl sm_tupC (sim_cons (sim_lc (sim_seqI sim_var) sim_nmX (sim_con rfl) (sim_cl sm_tupC (sim_cons sim_var sim_nil))) sim_nil)) sim_nmT) (sim_seq (sim_par (sim_sl (sim_newT (sim_cons (sim_newT (sim_cons (sim_con rfl) (sim_cons (sim_con rfl) sim_nil))) (sim_cons (sim_newT (sim_cons (sim_con rfl) (sim_cons (sim_con rfl) sim_nil))) (sim_cons (sim_newT (sim_cons (sim_con rfl) (sim_cons (sim_con rfl) sim_nil))) (sim_cons (sim_newT (sim_cons (sim_con rfl) (sim_cons (sim_con rfl) sim_nil))) (sim_cons (sim_newT (sim_cons (sim_con rfl) (sim_cons (sim_con rfl) sim_nil))) (sim_cons (sim_newT (sim_cons (sim_con rfl) (sim_cons (sim_con rfl) sim_nil))) sim_nil))))))) sim_o0 (sim_o1 sim_var)) (sim_op sm_mul (sim_newT (sim_cons sim_var (sim_cons sim_var sim_nil))) (sim_con rfl))) (sim_seq (sim_for (sim_rg2 (sim_cons (sim_con rfl) (sim_cons (sim_con rfl) sim_nil))) sim_nmT (sim_seq (sim_asg (sim_cl sm_sort2 (sim_cons (sim_call SD__law_values (sim_cons sim_var (sim_cons (sim_sl sim_var sim_o0 (sim_o1 sim_var)) (sim_cons sim_var sim_nil)))) sim_nil)) sim_nmT) (sim_cond (sim_op sm_eq (sim_op sm_eq sim_var (sim_cl sm_sort2 (sim_cons sim_var sim_nil))) (sim_op sm_eq sim_var (sim_ifE (sim_op sm_eq (sim_op sm_ix (sim_op sm_ix sim_var sim_var) sim_var) (sim_con rfl)) (sim_con rfl) (sim_con rfl)))) (sim_ret (sim_con rfl)) sim_end))) (sim_ret (sim_con rfl))))))))))))))⟩
end Law
set_option maxRecDepth 100000
set_option maxHeartbeats 4000000
namespace Law
open PySem L2 Vai PySem.Spec PyProof.Rows
def clOf (C0 C1 C2 C3 : Addr) : Nat → Addr
  | 0 => C0
  | 1 => C1
  | 2 => C2
  | 3 => C3
  | _ => 0
/-- the law's promise -/
def spL (K : PySem.W.Frag) : Sp := fun vs H Q E => ∃ (a : Addr) (ns : List Int), vs = [V.ref a] ∧ SqL K H a (ns.map V.int) ∧ ∀ H', Q (.bl true) H'
theorem start_rel {t : Tx} {a : Addr} {H : Hp} {ns : List Int} (hT : t.T = []) (h : SqL t.K H a (ns.map V.int)) : ∃ o, Vai.ScrO o ns ∧ Rel t [a] [o] H := by
  have mk : ∀ o : O, RO t [a] H a o → Rel t [a] [o] H := fun o ho => by
    refine ⟨fun l m p x y h1 h2 _ _ _ _ => ?_, rfl, fun l p x h1 h2 => ?_, fun p hp => ?_⟩
    · have z1 := (List.getElem?_eq_some_iff.mp h1).1
      have z2 := (List.getElem?_eq_some_iff.mp h2).1
      simp at z1 z2
      omega
    · have z1 := (List.getElem?_eq_some_iff.mp h1).1
      simp at z1
      subst z1
      cases h1
      cases h2
      exact ho
    · rw [hT] at hp
      cases hp
  rcases h with (h | ⟨u, h⟩) | h
  · refine ⟨.lst (ns.map A.int), .inr rfl, mk _ ⟨_, h, ?_⟩⟩
    clear h
    induction ns with
    | nil => exact .nil
    | cons i ns ih => exact .cons rfl ih
  · exact ⟨.scr ns, .inl rfl, mk _ (.inl ⟨u, h⟩)⟩
  · exact ⟨.scr ns, .inl rfl, mk _ (.inr (.inr h))⟩
theorem flat_nils {α : Type} : ∀ n : Nat, (List.replicate n ([] : List α)).flatten = []
  | 0 => rfl
  | n + 1 => by rw [List.replicate_succ, List.flatten_cons, flat_nils n]; rfl
theorem law_true {ns : List Int} {o : O} (ho : Vai.ScrO o ns) : ∃ S', b_law [some (.ref 0), none, none, none, none, none, none, none, none, none, none, none, none, none, none] [o] = some (.rt (.bl true) S') := by
  obtain ⟨g, hg, sim⟩ := sS_law
  obtain ⟨w', ht⟩ := law_t ⟨ns, 0, 7322, 0⟩
  let S : List O := [o, .lst [.ref 0, .int 0, .int 7322, .int 0]]
  let sa : Sa := [some (.ref 0), some (.ref 1), none, none, none, none, none, none, none, none, none, none, none, none, none]
  have E : EnvR (fun l => l = 0 ∨ l = 1) (List.replicate 15 []) S sa (none :: Im .row :: List.replicate 13 none) := by
    refine ⟨rfl, rfl, .inl rfl, .inr rfl, fun l h => (by rcases h with rfl | rfl <;> simp [S]), by rw [flat_nils]; exact List.nodup_nil, fun l hl => (by rw [flat_nils] at hl; cases hl), fun l hl => (by rw [flat_nils] at hl; cases hl), fun i e he => ?_⟩
    have : i = 1 ∧ e = .im 0 .row := by
      match i, he with
      | 0, he => cases he
      | 1, he => cases he; exact ⟨rfl, rfl⟩
      | i + 2, he =>
        simp only [List.getElem?_cons_succ, List.getElem?_replicate] at he
        split at he <;> cases he
    obtain ⟨rfl, rfl⟩ := this
    exact ⟨.ref 1, [], rfl, rfl, by simp only [SlotR, Rt]⟩
  have R : RowR S ⟨ns, 0, 7322, 0⟩ := ⟨⟨o, ho, rfl⟩, rfl, Int.le_refl 0⟩
  obtain ⟨x, h1, h2, h3, h4⟩ := sim _ _ S sa _ _ _ _ E R ht
  cases x <;> simp only [ResS, Rt] at h4
  subst h4
  rename_i S'
  refine ⟨S', ?_⟩
  rw [hg]
  have first : asgF (newF O.lst (consF (varF 0) (consF (conF (.int 0)) (consF (conF (.int 7322)) (consF (conF (.int 0)) nilF))))) (nameT 1) [some (.ref 0), none, none, none, none, none, none, none, none, none, none, none, none, none, none] [o] = some (.nx sa S) := r_asgN (r_new (r_cons (r_var rfl) (r_cons r_con (r_cons r_con (r_cons r_con r_nil)))) (by decide))
  exact r_seq first h1
theorem all_mk {l : PySem.W.OpenLaw} {w : World} {K : PySem.W.Frag} {h : Heap} {mg : PySem.Str → Option Value} {fa : Addr} (X : K.In h) (G : h.Ns mainGlobals mg) (hfa : mg "law" = some (.ref fa))
    {f0 : Addr} {od0 an0 : Option Addr} {sl0 : Array (Option Value)} {oc0 kV0 dc0 pm0 cd0 ct0 : Value}
    {f1 : Addr} {od1 an1 : Option Addr} {sl1 : Array (Option Value)} {oc1 kV1 dc1 pm1 cd1 ct1 : Value}
    {f2 : Addr} {od2 an2 : Option Addr} {sl2 : Array (Option Value)} {oc2 kV2 dc2 pm2 cd2 ct2 : Value}
    {f3 : Addr} {od3 an3 : Option Addr} {sl3 : Array (Option Value)} {oc3 kV3 dc3 pm3 cd3 ct3 : Value}
    {f4 : Addr} {od4 an4 : Option Addr} {sl4 : Array (Option Value)} {oc4 kV4 dc4 pm4 cd4 ct4 : Value}
    {f5 : Addr} {od5 an5 : Option Addr} {sl5 : Array (Option Value)} {oc5 kV5 dc5 pm5 cd5 ct5 : Value}
    {f6 : Addr} {od6 an6 : Option Addr} {sl6 : Array (Option Value)} {oc6 kV6 dc6 pm6 cd6 ct6 : Value}
    {f7 : Addr} {od7 an7 : Option Addr} {sl7 : Array (Option Value)} {oc7 kV7 dc7 pm7 cd7 ct7 : Value}
    {f8 : Addr} {od8 an8 : Option Addr} {sl8 : Array (Option Value)} {oc8 kV8 dc8 pm8 cd8 ct8 : Value}
    {f9 : Addr} {od9 an9 : Option Addr} {sl9 : Array (Option Value)} {oc9 kV9 dc9 pm9 cd9 ct9 : Value}
    {f10 : Addr} {od10 an10 : Option Addr} {sl10 : Array (Option Value)} {oc10 kV10 dc10 pm10 cd10 ct10 : Value}
    {f11 : Addr} {od11 an11 : Option Addr} {sl11 : Array (Option Value)} {oc11 kV11 dc11 pm11 cd11 ct11 : Value}
    {f12 : Addr} {od12 an12 : Option Addr} {sl12 : Array (Option Value)} {oc12 kV12 dc12 pm12 cd12 ct12 : Value}
    {f13 : Addr} {od13 an13 : Option Addr} {sl13 : Array (Option Value)} {oc13 kV13 dc13 pm13 cd13 ct13 : Value}
    {f14 : Addr} {od14 an14 : Option Addr} {sl14 : Array (Option Value)} {oc14 kV14 dc14 pm14 cd14 ct14 : Value}
    {f15 : Addr} {od15 an15 : Option Addr} {sl15 : Array (Option Value)} {oc15 kV15 dc15 pm15 cd15 ct15 : Value}
    {f16 : Addr} {od16 an16 : Option Addr} {sl16 : Array (Option Value)} {oc16 kV16 dc16 pm16 cd16 ct16 : Value}
    {fL cL : Addr} {odL anL : Option Addr} {slL : Array (Option Value)} {ocL kVL dcL pmL ctL : Value}
    {C1 : Addr}
    {C2 : Addr}
    {C3 : Addr}
    {tk0 : Tok}
    {tk1 : Tok}
    (a0 : PySem.W.nsIn K mainGlobals "is_int" = some (some (.ref f0))) (l0 : K.lookup f0 = some ⟨oc0, od0, .func (PySem.W.fnOf "is_int" "is_int" (defArgs s_is_int) (defBody s_is_int) (defScope s_is_int) .none kV0 dc0 pm0 an0 cd0 ct0), sl0⟩) (c0 : PySem.W.codeIn K cd0 "is_int" = true) (k0 : PySem.W.keepIn K (.ref f0) = true)
    (a1 : PySem.W.nsIn K mainGlobals "is_whole" = some (some (.ref f1))) (l1 : K.lookup f1 = some ⟨oc1, od1, .func (PySem.W.fnOf "is_whole" "is_whole" (defArgs s_is_whole) (defBody s_is_whole) (defScope s_is_whole) .none kV1 dc1 pm1 an1 cd1 ct1), sl1⟩) (c1 : PySem.W.codeIn K cd1 "is_whole" = true) (k1 : PySem.W.keepIn K (.ref f1) = true)
    (a2 : PySem.W.nsIn K mainGlobals "_is_line" = some (some (.ref f2))) (l2 : K.lookup f2 = some ⟨oc2, od2, .func (PySem.W.fnOf "_is_line" "_is_line" (defArgs s__is_line) (defBody s__is_line) (defScope s__is_line) .none kV2 dc2 pm2 an2 cd2 ct2), sl2⟩) (c2 : PySem.W.codeIn K cd2 "_is_line" = true) (k2 : PySem.W.keepIn K (.ref f2) = true)
    (a3 : PySem.W.nsIn K mainGlobals "is_web" = some (some (.ref f3))) (l3 : K.lookup f3 = some ⟨oc3, od3, .func (PySem.W.fnOf "is_web" "is_web" (defArgs s_is_web) (defBody s_is_web) (defScope s_is_web) .none kV3 dc3 pm3 an3 cd3 ct3), sl3⟩) (c3 : PySem.W.codeIn K cd3 "is_web" = true) (k3 : PySem.W.keepIn K (.ref f3) = true)
    (a4 : PySem.W.nsIn K mainGlobals "check_web" = some (some (.ref f4))) (l4 : K.lookup f4 = some ⟨oc4, od4, .func (PySem.W.fnOf "check_web" "check_web" (defArgs s_check_web) (defBody s_check_web) (defScope s_check_web) .none kV4 dc4 pm4 an4 cd4 ct4), sl4⟩) (c4 : PySem.W.codeIn K cd4 "check_web" = true) (k4 : PySem.W.keepIn K (.ref f4) = true)
    (a5 : PySem.W.nsIn K mainGlobals "is_node" = some (some (.ref f5))) (l5 : K.lookup f5 = some ⟨oc5, od5, .func (PySem.W.fnOf "is_node" "is_node" (defArgs s_is_node) (defBody s_is_node) (defScope s_is_node) .none kV5 dc5 pm5 an5 cd5 ct5), sl5⟩) (c5 : PySem.W.codeIn K cd5 "is_node" = true) (k5 : PySem.W.keepIn K (.ref f5) = true)
    (a6 : PySem.W.nsIn K mainGlobals "check_node" = some (some (.ref f6))) (l6 : K.lookup f6 = some ⟨oc6, od6, .func (PySem.W.fnOf "check_node" "check_node" (defArgs s_check_node) (defBody s_check_node) (defScope s_check_node) .none kV6 dc6 pm6 an6 cd6 ct6), sl6⟩) (c6 : PySem.W.codeIn K cd6 "check_node" = true) (k6 : PySem.W.keepIn K (.ref f6) = true)
    (a7 : PySem.W.nsIn K mainGlobals "round_of" = some (some (.ref f7))) (l7 : K.lookup f7 = some ⟨oc7, od7, .func (PySem.W.fnOf "round_of" "round_of" (defArgs s_round_of) (defBody s_round_of) (defScope s_round_of) .none kV7 dc7 pm7 an7 cd7 ct7), sl7⟩) (c7 : PySem.W.codeIn K cd7 "round_of" = true) (k7 : PySem.W.keepIn K (.ref f7) = true)
    (a8 : PySem.W.nsIn K mainGlobals "_law_taken" = some (some (.ref f8))) (l8 : K.lookup f8 = some ⟨oc8, od8, .func (PySem.W.fnOf "_law_taken" "_law_taken" (defArgs s__law_taken) (defBody s__law_taken) (defScope s__law_taken) .none kV8 dc8 pm8 an8 cd8 ct8), sl8⟩) (c8 : PySem.W.codeIn K cd8 "_law_taken" = true) (k8 : PySem.W.keepIn K (.ref f8) = true)
    (a9 : PySem.W.nsIn K mainGlobals "_law_pick" = some (some (.ref f9))) (l9 : K.lookup f9 = some ⟨oc9, od9, .func (PySem.W.fnOf "_law_pick" "_law_pick" (defArgs s__law_pick) (defBody s__law_pick) (defScope s__law_pick) .none kV9 dc9 pm9 an9 cd9 ct9), sl9⟩) (c9 : PySem.W.codeIn K cd9 "_law_pick" = true) (k9 : PySem.W.keepIn K (.ref f9) = true)
    (a10 : PySem.W.nsIn K mainGlobals "_law_web" = some (some (.ref f10))) (l10 : K.lookup f10 = some ⟨oc10, od10, .func (PySem.W.fnOf "_law_web" "_law_web" (defArgs s__law_web) (defBody s__law_web) (defScope s__law_web) .none kV10 dc10 pm10 an10 cd10 ct10), sl10⟩) (c10 : PySem.W.codeIn K cd10 "_law_web" = true) (k10 : PySem.W.keepIn K (.ref f10) = true)
    (a11 : PySem.W.nsIn K mainGlobals "_law_alike" = some (some (.ref f11))) (l11 : K.lookup f11 = some ⟨oc11, od11, .func (PySem.W.fnOf "_law_alike" "_law_alike" (defArgs s__law_alike) (defBody s__law_alike) (defScope s__law_alike) .none kV11 dc11 pm11 an11 cd11 ct11), sl11⟩) (c11 : PySem.W.codeIn K cd11 "_law_alike" = true) (k11 : PySem.W.keepIn K (.ref f11) = true)
    (a12 : PySem.W.nsIn K mainGlobals "_law_share" = some (some (.ref f12))) (l12 : K.lookup f12 = some ⟨oc12, od12, .func (PySem.W.fnOf "_law_share" "_law_share" (defArgs s__law_share) (defBody s__law_share) (defScope s__law_share) .none kV12 dc12 pm12 an12 cd12 ct12), sl12⟩) (c12 : PySem.W.codeIn K cd12 "_law_share" = true) (k12 : PySem.W.keepIn K (.ref f12) = true)
    (a13 : PySem.W.nsIn K mainGlobals "_law_times" = some (some (.ref f13))) (l13 : K.lookup f13 = some ⟨oc13, od13, .func (PySem.W.fnOf "_law_times" "_law_times" (defArgs s__law_times) (defBody s__law_times) (defScope s__law_times) .none kV13 dc13 pm13 an13 cd13 ct13), sl13⟩) (c13 : PySem.W.codeIn K cd13 "_law_times" = true) (k13 : PySem.W.keepIn K (.ref f13) = true)
    (a14 : PySem.W.nsIn K mainGlobals "_law_turn" = some (some (.ref f14))) (l14 : K.lookup f14 = some ⟨oc14, od14, .func (PySem.W.fnOf "_law_turn" "_law_turn" (defArgs s__law_turn) (defBody s__law_turn) (defScope s__law_turn) .none kV14 dc14 pm14 an14 cd14 ct14), sl14⟩) (c14 : PySem.W.codeIn K cd14 "_law_turn" = true) (k14 : PySem.W.keepIn K (.ref f14) = true)
    (a15 : PySem.W.nsIn K mainGlobals "_law_plus" = some (some (.ref f15))) (l15 : K.lookup f15 = some ⟨oc15, od15, .func (PySem.W.fnOf "_law_plus" "_law_plus" (defArgs s__law_plus) (defBody s__law_plus) (defScope s__law_plus) .none kV15 dc15 pm15 an15 cd15 ct15), sl15⟩) (c15 : PySem.W.codeIn K cd15 "_law_plus" = true) (k15 : PySem.W.keepIn K (.ref f15) = true)
    (a16 : PySem.W.nsIn K mainGlobals "_law_values" = some (some (.ref f16))) (l16 : K.lookup f16 = some ⟨oc16, od16, .func (PySem.W.fnOf "_law_values" "_law_values" (defArgs s__law_values) (defBody s__law_values) (defScope s__law_values) .none kV16 dc16 pm16 an16 cd16 ct16), sl16⟩) (c16 : PySem.W.codeIn K cd16 "_law_values" = true) (k16 : PySem.W.keepIn K (.ref f16) = true)
    (aL : PySem.W.nsIn K mainGlobals "law" = some (some (.ref fL))) (lL : K.lookup fL = some ⟨ocL, odL, .func (PySem.W.fnOf "law" "law" (defArgs s_law) (defBody s_law) (defScope s_law) .none kVL dcL pmL anL (.ref cL) ctL), slL⟩) (qL : PySem.W.codeIn K (.ref cL) "law" = true)
    (aC3 : PySem.W.nsIn K mainGlobals "Alike" = some (some (.ref C3))) (xC3 : PySem.W.excIn K C3 [.type "ValueError", .type "Exception", .type "BaseException", .type "object"] "ValueError.__new__" = true) (kC3 : PySem.W.keepIn K (.ref C3) = true) (bC3 : PySem.W.subIn K (.ref C3) (.type "BaseException") = some true) (tC3 : PySem.W.typeIn K (.ref C3) = some (.type "type"))
    (aC1 : PySem.W.nsIn K mainGlobals "BadWeb" = some (some (.ref C1))) (xC1 : PySem.W.excIn K C1 [.type "ValueError", .type "Exception", .type "BaseException", .type "object"] "ValueError.__new__" = true) (kC1 : PySem.W.keepIn K (.ref C1) = true) (bC1 : PySem.W.subIn K (.ref C1) (.type "BaseException") = some true) (tC1 : PySem.W.typeIn K (.ref C1) = some (.type "type"))
    (aC2 : PySem.W.nsIn K mainGlobals "NoNode" = some (some (.ref C2))) (xC2 : PySem.W.excIn K C2 [.type "ValueError", .type "Exception", .type "BaseException", .type "object"] "ValueError.__new__" = true) (kC2 : PySem.W.keepIn K (.ref C2) = true) (bC2 : PySem.W.subIn K (.ref C2) (.type "BaseException") = some true) (tC2 : PySem.W.typeIn K (.ref C2) = some (.type "type"))
    (g0 : PySem.W.nsIn K mainGlobals "MOST_ARROWS" = some (some (.int 1000 tk0)))
    (g1 : PySem.W.nsIn K mainGlobals "MOST_NODES" = some (some (.int 6 tk1)))
    (z0 : PySem.W.nsIn K mainGlobals "abs" = some none)
    (z1 : PySem.W.nsIn K mainGlobals "all" = some none)
    (z2 : PySem.W.nsIn K mainGlobals "bool" = some none)
    (z3 : PySem.W.nsIn K mainGlobals "dict" = some none)
    (z4 : PySem.W.nsIn K mainGlobals "int" = some none)
    (z5 : PySem.W.nsIn K mainGlobals "isinstance" = some none)
    (z6 : PySem.W.nsIn K mainGlobals "len" = some none)
    (z7 : PySem.W.nsIn K mainGlobals "list" = some none)
    (z8 : PySem.W.nsIn K mainGlobals "max" = some none)
    (z9 : PySem.W.nsIn K mainGlobals "min" = some none)
    (z10 : PySem.W.nsIn K mainGlobals "range" = some none)
    (z11 : PySem.W.nsIn K mainGlobals "sorted" = some none)
    (z12 : PySem.W.nsIn K mainGlobals "str" = some none)
    (z13 : PySem.W.nsIn K mainGlobals "tuple" = some none) :
    LamX.LawAtS l w K (L2.CX l.prog w) 20 63 "script" mg fa h := by
  have e := hfa.symm.trans (PySem.W.mg_of X G aL)
  cases e
  have T : Txt K mg (clOf 0 C1 C2 C3) :=
    { c_MOST_ARROWS := ⟨_, ⟨_, rfl⟩, PySem.W.mg_of X G g0⟩,
      c_MOST_NODES := ⟨_, ⟨_, rfl⟩, PySem.W.mg_of X G g1⟩,
      e_Alike := ⟨xC3, PySem.W.mg_of X G aC3, kC3, bC3, tC3⟩,
      e_BadWeb := ⟨xC1, PySem.W.mg_of X G aC1, kC1, bC1, tC1⟩,
      e_NoNode := ⟨xC2, PySem.W.mg_of X G aC2, kC2, bC2, tC2⟩,
      n_abs := PySem.W.mg_none_of X G z0,
      n_all := PySem.W.mg_none_of X G z1,
      n_bool := PySem.W.mg_none_of X G z2,
      n_dict := PySem.W.mg_none_of X G z3,
      n_int := PySem.W.mg_none_of X G z4,
      n_isinstance := PySem.W.mg_none_of X G z5,
      n_len := PySem.W.mg_none_of X G z6,
      n_list := PySem.W.mg_none_of X G z7,
      n_max := PySem.W.mg_none_of X G z8,
      n_min := PySem.W.mg_none_of X G z9,
      n_range := PySem.W.mg_none_of X G z10,
      n_sorted := PySem.W.mg_none_of X G z11,
      n_str := PySem.W.mg_none_of X G z12,
      n_tuple := PySem.W.mg_none_of X G z13 }
  have F0 := fun_mk (st := s_is_int) l0 c0 k0
  have b0 := F0.binds (ps := P_is_int) fun _ _ _ _ _ _ us hl => match us, hl with | [_], _ => rfl
  have F1 := fun_mk (st := s_is_whole) l1 c1 k1
  have b1 := F1.binds (ps := P_is_whole) fun _ _ _ _ _ _ us hl => match us, hl with | [_, _, _], _ => rfl
  have F2 := fun_mk (st := s__is_line) l2 c2 k2
  have b2 := F2.binds (ps := P__is_line) fun _ _ _ _ _ _ us hl => match us, hl with | [_, _], _ => rfl
  have F3 := fun_mk (st := s_is_web) l3 c3 k3
  have b3 := F3.binds (ps := P_is_web) fun _ _ _ _ _ _ us hl => match us, hl with | [_], _ => rfl
  have F4 := fun_mk (st := s_check_web) l4 c4 k4
  have b4 := F4.binds (ps := P_check_web) fun _ _ _ _ _ _ us hl => match us, hl with | [_], _ => rfl
  have F5 := fun_mk (st := s_is_node) l5 c5 k5
  have b5 := F5.binds (ps := P_is_node) fun _ _ _ _ _ _ us hl => match us, hl with | [_, _], _ => rfl
  have F6 := fun_mk (st := s_check_node) l6 c6 k6
  have b6 := F6.binds (ps := P_check_node) fun _ _ _ _ _ _ us hl => match us, hl with | [_, _], _ => rfl
  have F7 := fun_mk (st := s_round_of) l7 c7 k7
  have b7 := F7.binds (ps := P_round_of) fun _ _ _ _ _ _ us hl => match us, hl with | [_, _, _], _ => rfl
  have F8 := fun_mk (st := s__law_taken) l8 c8 k8
  have b8 := F8.binds (ps := P__law_taken) fun _ _ _ _ _ _ us hl => match us, hl with | [_, _], _ => rfl
  have F9 := fun_mk (st := s__law_pick) l9 c9 k9
  have b9 := F9.binds (ps := P__law_pick) fun _ _ _ _ _ _ us hl => match us, hl with | [_, _], _ => rfl
  have F10 := fun_mk (st := s__law_web) l10 c10 k10
  have b10 := F10.binds (ps := P__law_web) fun _ _ _ _ _ _ us hl => match us, hl with | [_, _, _], _ => rfl
  have F11 := fun_mk (st := s__law_alike) l11 c11 k11
  have b11 := F11.binds (ps := P__law_alike) fun _ _ _ _ _ _ us hl => match us, hl with | [_, _], _ => rfl
  have F12 := fun_mk (st := s__law_share) l12 c12 k12
  have b12 := F12.binds (ps := P__law_share) fun _ _ _ _ _ _ us hl => match us, hl with | [_, _], _ => rfl
  have F13 := fun_mk (st := s__law_times) l13 c13 k13
  have b13 := F13.binds (ps := P__law_times) fun _ _ _ _ _ _ us hl => match us, hl with | [_, _], _ => rfl
  have F14 := fun_mk (st := s__law_turn) l14 c14 k14
  have b14 := F14.binds (ps := P__law_turn) fun _ _ _ _ _ _ us hl => match us, hl with | [_, _], _ => rfl
  have F15 := fun_mk (st := s__law_plus) l15 c15 k15
  have b15 := F15.binds (ps := P__law_plus) fun _ _ _ _ _ _ us hl => match us, hl with | [_, _], _ => rfl
  have F16 := fun_mk (st := s__law_values) l16 c16 k16
  have b16 := F16.binds (ps := P__law_values) fun _ _ _ _ _ _ us hl => match us, hl with | [_, _, _], _ => rfl
  have FL : FunK K "law" "law" s_law fa (PySem.W.fnOf "law" "law" (defArgs s_law) (defBody s_law) (defScope s_law) .none kVL dcL pmL anL (.ref cL) ctL) cL := ⟨_, _, _, _, _, _, _, _, rfl, lL, qL⟩
  refine ⟨PySem.W.fnOf "law" "law" (defArgs s_law) (defBody s_law) (defScope s_law) .none kVL dcL pmL anL (.ref cL) ctL, [], spL K, fun p hp => (by cases hp), fun p hp => (by cases hp), fun p hp => (by cases hp), fun s u => .of_eq rfl, fun H a ns _ _ _ hS => ⟨a, ns, rfl, hS, fun _ => rfl⟩, fun base _ _ _ => ?_⟩
  have o_is_int : ∀ cells, DefOk l.prog w K mg base (Tx.mk l.prog w K [] (clOf 0 C1 C2 C3) qlL cells lamL) "is_int" P_is_int 1 d_is_int := fun cells => ok_is_int T F0 (PySem.W.mg_of X G a0) b0 
  have o_is_whole : ∀ cells, DefOk l.prog w K mg base (Tx.mk l.prog w K [] (clOf 0 C1 C2 C3) qlL cells lamL) "is_whole" P_is_whole 2 d_is_whole := fun cells => ok_is_whole T F1 (PySem.W.mg_of X G a1) b1 (o_is_int cells)
  have o__is_line : ∀ cells, DefOk l.prog w K mg base (Tx.mk l.prog w K [] (clOf 0 C1 C2 C3) qlL cells lamL) "_is_line" P__is_line 3 d__is_line := fun cells => ok__is_line T F2 (PySem.W.mg_of X G a2) b2 (o_is_whole cells)
  have o_is_web : ∀ cells, DefOk l.prog w K mg base (Tx.mk l.prog w K [] (clOf 0 C1 C2 C3) qlL cells lamL) "is_web" P_is_web 4 d_is_web := fun cells => ok_is_web T F3 (PySem.W.mg_of X G a3) b3 (o__is_line cells)
  have o_check_web : ∀ cells, DefOk l.prog w K mg base (Tx.mk l.prog w K [] (clOf 0 C1 C2 C3) qlL cells lamL) "check_web" P_check_web 5 d_check_web := fun cells => ok_check_web T F4 (PySem.W.mg_of X G a4) b4 (o_is_web cells)
  have o_is_node : ∀ cells, DefOk l.prog w K mg base (Tx.mk l.prog w K [] (clOf 0 C1 C2 C3) qlL cells lamL) "is_node" P_is_node 3 d_is_node := fun cells => ok_is_node T F5 (PySem.W.mg_of X G a5) b5 (o_is_whole cells)
  have o_check_node : ∀ cells, DefOk l.prog w K mg base (Tx.mk l.prog w K [] (clOf 0 C1 C2 C3) qlL cells lamL) "check_node" P_check_node 4 d_check_node := fun cells => ok_check_node T F6 (PySem.W.mg_of X G a6) b6 (o_is_node cells)
  have o_round_of : ∀ cells, DefOk l.prog w K mg base (Tx.mk l.prog w K [] (clOf 0 C1 C2 C3) qlL cells lamL) "round_of" P_round_of 6 d_round_of := fun cells => ok_round_of T F7 (PySem.W.mg_of X G a7) b7 (o_check_web cells) (o_check_node cells)
  have o__law_taken : ∀ cells, DefOk l.prog w K mg base (Tx.mk l.prog w K [] (clOf 0 C1 C2 C3) qlL cells lamL) "_law_taken" P__law_taken 1 d__law_taken := fun cells => ok__law_taken T F8 (PySem.W.mg_of X G a8) b8 
  have o__law_pick : ∀ cells, DefOk l.prog w K mg base (Tx.mk l.prog w K [] (clOf 0 C1 C2 C3) qlL cells lamL) "_law_pick" P__law_pick 2 d__law_pick := fun cells => ok__law_pick T F9 (PySem.W.mg_of X G a9) b9 (o__law_taken cells)
  have o__law_web : ∀ cells, DefOk l.prog w K mg base (Tx.mk l.prog w K [] (clOf 0 C1 C2 C3) qlL cells lamL) "_law_web" P__law_web 3 d__law_web := fun cells => ok__law_web T F10 (PySem.W.mg_of X G a10) b10 (o__law_taken cells) (o__law_pick cells)
  have o__law_alike : ∀ cells, DefOk l.prog w K mg base (Tx.mk l.prog w K [] (clOf 0 C1 C2 C3) qlL cells lamL) "_law_alike" P__law_alike 4 d__law_alike := fun cells => ok__law_alike T F11 (PySem.W.mg_of X G a11) b11 
  have o__law_share : ∀ cells, DefOk l.prog w K mg base (Tx.mk l.prog w K [] (clOf 0 C1 C2 C3) qlL cells lamL) "_law_share" P__law_share 1 d__law_share := fun cells => ok__law_share T F12 (PySem.W.mg_of X G a12) b12 
  have o__law_times : ∀ cells, DefOk l.prog w K mg base (Tx.mk l.prog w K [] (clOf 0 C1 C2 C3) qlL cells lamL) "_law_times" P__law_times 2 d__law_times := fun cells => ok__law_times T F13 (PySem.W.mg_of X G a13) b13 (o__law_share cells)
  have o__law_turn : ∀ cells, DefOk l.prog w K mg base (Tx.mk l.prog w K [] (clOf 0 C1 C2 C3) qlL cells lamL) "_law_turn" P__law_turn 1 d__law_turn := fun cells => ok__law_turn T F14 (PySem.W.mg_of X G a14) b14 
  have o__law_plus : ∀ cells, DefOk l.prog w K mg base (Tx.mk l.prog w K [] (clOf 0 C1 C2 C3) qlL cells lamL) "_law_plus" P__law_plus 2 d__law_plus := fun cells => ok__law_plus T F15 (PySem.W.mg_of X G a15) b15 (o__law_share cells)
  have o__law_values : ∀ cells, DefOk l.prog w K mg base (Tx.mk l.prog w K [] (clOf 0 C1 C2 C3) qlL cells lamL) "_law_values" P__law_values 3 d__law_values := fun cells => ok__law_values T F16 (PySem.W.mg_of X G a16) b16 (o__law_times cells) (o__law_plus cells) (o__law_turn cells)
  have fn := FL.okX (P := l.prog) (w := w) (mg := mg) (base := base) (k := 6) (sp := spL K) sc_law (fun vs H Q E hv => by obtain ⟨a, ns, rfl, _⟩ := hv; rfl) (fun A outer s H vs Q E hr hv => by
    obtain ⟨a, ns, rfl, hS, hQ⟩ := hv
    refine ⟨_, law_body (Tb := []) (cl := (clOf 0 C1 C2 C3)) T (o__law_web _) (o__law_taken _) (o_round_of _) (o__law_alike _) (o__law_values _) hr, ?_⟩
    obtain ⟨o, ho, R⟩ := start_rel (t := Tx.mk l.prog w K [] (clOf 0 C1 C2 C3) qlL (cellsL s) lamL) rfl hS
    obtain ⟨S', e⟩ := law_true ho
    exact ⟨[a], _, [o], _, R, rs_start (as := [.ref 0]) (vs := [V.ref a]) 14 (.cons ⟨a, rfl, rfl⟩ .nil), e, fun r' H' v ex R' ra => by cases ra; exact hQ H'⟩)
  exact fn.mono (by decide)
end Law
set_option maxRecDepth 100000
open PySem PySem.W PyProof.Rows
set_option maxRecDepth 100000 in
set_option maxHeartbeats 0 in
theorem PySem.Challenge.cw_dartwebs_k22_whole_rounds_holds : PySem.Challenge.rw_dartwebs_k22_whole_rounds.Holds := by
  w_on; o_law; k_head; (case hw => w_witness2)
  k_fill
  refine LamX.walk_ofTs (l := PySem.Challenge.rw_dartwebs_k22_whole_rounds) (n := 63) (k := 20) (x := "script") (CX := fun w => L2.CX (PySem.Challenge.rw_dartwebs_k22_whole_rounds).prog w) rfl (by decide) rfl ⟨rfl, by decide, by decide⟩ (fun w h Y => PySem.W.kIn_of Y) ?F ?C
  case C =>
    intro w H s e s' h
    obtain ⟨_, _, _, _, _, _, _, _, _, _, _, _, z⟩ := h
    exact z.elim
  case F =>
    intro w mg fa h Y KX G hmg
    refine' Law.all_mk KX G hmg ?m_a0 ?m_l0 ?m_c0 ?m_k0 ?m_a1 ?m_l1 ?m_c1 ?m_k1 ?m_a2 ?m_l2 ?m_c2 ?m_k2 ?m_a3 ?m_l3 ?m_c3 ?m_k3 ?m_a4 ?m_l4 ?m_c4 ?m_k4 ?m_a5 ?m_l5 ?m_c5 ?m_k5 ?m_a6 ?m_l6 ?m_c6 ?m_k6 ?m_a7 ?m_l7 ?m_c7 ?m_k7 ?m_a8 ?m_l8 ?m_c8 ?m_k8 ?m_a9 ?m_l9 ?m_c9 ?m_k9 ?m_a10 ?m_l10 ?m_c10 ?m_k10 ?m_a11 ?m_l11 ?m_c11 ?m_k11 ?m_a12 ?m_l12 ?m_c12 ?m_k12 ?m_a13 ?m_l13 ?m_c13 ?m_k13 ?m_a14 ?m_l14 ?m_c14 ?m_k14 ?m_a15 ?m_l15 ?m_c15 ?m_k15 ?m_a16 ?m_l16 ?m_c16 ?m_k16 ?m_aL ?m_lL ?m_qL ?m_aC3 ?m_xC3 ?m_kC3 ?m_bC3 ?m_tC3 ?m_aC1 ?m_xC1 ?m_kC1 ?m_bC1 ?m_tC1 ?m_aC2 ?m_xC2 ?m_kC2 ?m_bC2 ?m_tC2 ?m_g0 ?m_g1 ?m_z0 ?m_z1 ?m_z2 ?m_z3 ?m_z4 ?m_z5 ?m_z6 ?m_z7 ?m_z8 ?m_z9 ?m_z10 ?m_z11 ?m_z12 ?m_z13
    (case m_a0 => first | k_is | k_exc)
    (case m_l0 => first | k_is | k_exc)
    (case m_c0 => first | k_is | k_exc)
    (case m_k0 => first | k_is | k_exc)
    (case m_a1 => first | k_is | k_exc)
    (case m_l1 => first | k_is | k_exc)
    (case m_c1 => first | k_is | k_exc)
    (case m_k1 => first | k_is | k_exc)
    (case m_a2 => first | k_is | k_exc)
    (case m_l2 => first | k_is | k_exc)
    (case m_c2 => first | k_is | k_exc)
    (case m_k2 => first | k_is | k_exc)
    (case m_a3 => first | k_is | k_exc)
    (case m_l3 => first | k_is | k_exc)
    (case m_c3 => first | k_is | k_exc)
    (case m_k3 => first | k_is | k_exc)
    (case m_a4 => first | k_is | k_exc)
    (case m_l4 => first | k_is | k_exc)
    (case m_c4 => first | k_is | k_exc)
    (case m_k4 => first | k_is | k_exc)
    (case m_a5 => first | k_is | k_exc)
    (case m_l5 => first | k_is | k_exc)
    (case m_c5 => first | k_is | k_exc)
    (case m_k5 => first | k_is | k_exc)
    (case m_a6 => first | k_is | k_exc)
    (case m_l6 => first | k_is | k_exc)
    (case m_c6 => first | k_is | k_exc)
    (case m_k6 => first | k_is | k_exc)
    (case m_a7 => first | k_is | k_exc)
    (case m_l7 => first | k_is | k_exc)
    (case m_c7 => first | k_is | k_exc)
    (case m_k7 => first | k_is | k_exc)
    (case m_a8 => first | k_is | k_exc)
    (case m_l8 => first | k_is | k_exc)
    (case m_c8 => first | k_is | k_exc)
    (case m_k8 => first | k_is | k_exc)
    (case m_a9 => first | k_is | k_exc)
    (case m_l9 => first | k_is | k_exc)
    (case m_c9 => first | k_is | k_exc)
    (case m_k9 => first | k_is | k_exc)
    (case m_a10 => first | k_is | k_exc)
    (case m_l10 => first | k_is | k_exc)
    (case m_c10 => first | k_is | k_exc)
    (case m_k10 => first | k_is | k_exc)
    (case m_a11 => first | k_is | k_exc)
    (case m_l11 => first | k_is | k_exc)
    (case m_c11 => first | k_is | k_exc)
    (case m_k11 => first | k_is | k_exc)
    (case m_a12 => first | k_is | k_exc)
    (case m_l12 => first | k_is | k_exc)
    (case m_c12 => first | k_is | k_exc)
    (case m_k12 => first | k_is | k_exc)
    (case m_a13 => first | k_is | k_exc)
    (case m_l13 => first | k_is | k_exc)
    (case m_c13 => first | k_is | k_exc)
    (case m_k13 => first | k_is | k_exc)
    (case m_a14 => first | k_is | k_exc)
    (case m_l14 => first | k_is | k_exc)
    (case m_c14 => first | k_is | k_exc)
    (case m_k14 => first | k_is | k_exc)
    (case m_a15 => first | k_is | k_exc)
    (case m_l15 => first | k_is | k_exc)
    (case m_c15 => first | k_is | k_exc)
    (case m_k15 => first | k_is | k_exc)
    (case m_a16 => first | k_is | k_exc)
    (case m_l16 => first | k_is | k_exc)
    (case m_c16 => first | k_is | k_exc)
    (case m_k16 => first | k_is | k_exc)
    (case m_aL => first | k_is | k_exc)
    (case m_lL => first | k_is | k_exc)
    (case m_qL => first | k_is | k_exc)
    (case m_aC3 => first | k_is | k_exc)
    (case m_xC3 => first | k_is | k_exc)
    (case m_kC3 => first | k_is | k_exc)
    (case m_bC3 => first | k_is | k_exc)
    (case m_tC3 => first | k_is | k_exc)
    (case m_aC1 => first | k_is | k_exc)
    (case m_xC1 => first | k_is | k_exc)
    (case m_kC1 => first | k_is | k_exc)
    (case m_bC1 => first | k_is | k_exc)
    (case m_tC1 => first | k_is | k_exc)
    (case m_aC2 => first | k_is | k_exc)
    (case m_xC2 => first | k_is | k_exc)
    (case m_kC2 => first | k_is | k_exc)
    (case m_bC2 => first | k_is | k_exc)
    (case m_tC2 => first | k_is | k_exc)
    (case m_g0 => first | k_is | k_exc)
    (case m_g1 => first | k_is | k_exc)
    (case m_z0 => first | k_is | k_exc)
    (case m_z1 => first | k_is | k_exc)
    (case m_z2 => first | k_is | k_exc)
    (case m_z3 => first | k_is | k_exc)
    (case m_z4 => first | k_is | k_exc)
    (case m_z5 => first | k_is | k_exc)
    (case m_z6 => first | k_is | k_exc)
    (case m_z7 => first | k_is | k_exc)
    (case m_z8 => first | k_is | k_exc)
    (case m_z9 => first | k_is | k_exc)
    (case m_z10 => first | k_is | k_exc)
    (case m_z11 => first | k_is | k_exc)
    (case m_z12 => first | k_is | k_exc)
    (case m_z13 => first | k_is | k_exc)
