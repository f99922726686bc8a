import PyProof.Rows.All
import Wide.All
import OpenK.AllK
import Wide.FinOn
import HandS.ForMost
import HandS.ForExc
import HandS.Conv
import HandS.IsInst
import HandS.TupAny
import HandS.RevRange
import HandS.WideBits
import HandS.Style
import HandS.SortInts
import KE.GoesMore
import KE.GoesEnum
import HandS.DictComp
import HandS.SetFor
import HandS.Strs
import HandS.Deep
import HandS.Flow
import PyProof.ReprRoads
import HandS.Ends
import HandS.ExcInit
import HandS.ExcField
import HandS.TryOnly
import HandS.Dict
import HandS.DictTup
import HandS.Small
import HandS.More
import HandS.Rev
import HandS.Zip
import KE.KTupSum
import HandS.TupMul
import KE.SortData
import KE.DataCmp
import PyProof.CollectIter
import PyProof.ListRange
import PyProof.FactsAll.range_iterator_1
import HandS.TupSets
import HandS.Iter
import PyProof.Rows.TupAdd
import HandS.TupLen
import HandS.Finally
import KE.KDictCopyH
import KE.KIndexOf
import KE.GoesZip
import HandS.ExcIs
import KE.LtSeq
import KE.KEqDict
import KE.KDictDisplayH
import HandS.DictEq
import PyProof.Rows.RegFStrParts
import PyProof.Rows.BitMore
import KE.BitLaws
import PyProof.P3Eq
import PySem.Challenge.RW_putbetween_k23_whole_names_by_own_docume
section
set_option Elab.async false
set_option linter.all false
set_option maxRecDepth 100000
set_option maxHeartbeats 2000000
namespace DL
open PySem PySem.Spec PyProof.Rows L2

abbrev D := PyData

/-! results: a pool of drawn numbers, an exception by its class's name and its field -/
/-- knd: 0, the pool of two lists; 1, one list of ints; 2, a tape -/
structure Pool where
  rest : List Int
  turn : Int
  knd : Nat
structure Exn where
  name : String
  fld : Option (PySem.Str × D)
abbrev R (α : Type) := Option (Except Exn α × Pool)
abbrev M (α : Type) := Pool → R α
abbrev Rho := List (Option D)

def Wp {α : Type} (r : R α) (q : α → Pool → Prop) (e : Exn → Pool → Prop) : Prop :=
  match r with
  | none => False
  | some (.ok a, p) => q a p
  | some (.error x, p) => e x p
@[simp] def ret {α : Type} (a : α) : M α := fun p => some (.ok a, p)
@[simp] def stuck {α : Type} : M α := fun _ => none
def bnd {α β : Type} (m : M α) (k : α → M β) : M β := fun p =>
  match m p with
  | none => none
  | some (.ok a, p') => k a p'
  | some (.error x, p') => some (.error x, p')
theorem Wp.bnd {α β : Type} {m : M α} {k : α → M β} {p : Pool} {q : β → Pool → Prop} {e : Exn → Pool → Prop} (h : Wp (bnd m k p) q e) : Wp (m p) (fun a p' => Wp (k a p') q e) e := by
  unfold DL.bnd at h
  unfold Wp
  cases hm : m p with
  | none => rw [hm] at h; exact h
  | some r =>
    obtain ⟨r, p'⟩ := r
    rw [hm] at h
    cases r with
    | ok a => exact h
    | error x => exact h
theorem Wp.mono {α : Type} {r : R α} {q q' : α → Pool → Prop} {e e' : Exn → Pool → Prop} (h : Wp r q e) (hq : ∀ a p, q a p → q' a p) (he : ∀ x p, e x p → e' x p) : Wp r q' e' := by
  unfold Wp at h ⊢
  split at h
  · exact h
  · exact hq _ _ h
  · exact he _ _ h

/-! what stands for a datum in a heap that is only read -/
def keyD : Key → D
  | .inl i => .int i
  | .inr x => .str x
mutual
inductive Rp (F : Hp) : V → D → Prop
  | non : Rp F .non .none
  | bl (b : Bool) : Rp F (.bl b) (.bool b)
  | int (i : Int) : Rp F (.int i) (.int i)
  | str (x : Str) : Rp F (.str x) (.str x)
  | lst {a : Addr} {xs : List V} {ds : List D} : F a = some (.lst xs) → Rps F xs ds → Rp F (.ref a) (.list ds)
  | tup {a : Addr} {xs : List V} {ds : List D} : F a = some (.tup xs) → Rps F xs ds → Rp F (.ref a) (.tuple ds)
  | dK {a : Addr} {ks : List (Key × V)} {es : List (D × D)} : F a = some (.dK ks) → RpK F ks es → Rp F (.ref a) (.dict es)
  | dT {a : Addr} {ks : List (List Key × V)} {es : List (D × D)} : F a = some (.dT ks) → RpT F ks es → Rp F (.ref a) (.dict ((.none, .none) :: es))
inductive Rps (F : Hp) : List V → List D → Prop
  | nil : Rps F [] []
  | cons {v : V} {vs : List V} {d : D} {ds : List D} : Rp F v d → Rps F vs ds → Rps F (v :: vs) (d :: ds)
inductive RpK (F : Hp) : List (Key × V) → List (D × D) → Prop
  | nil : RpK F [] []
  | cons {k : Key} {v : V} {d : D} {ks : List (Key × V)} {es : List (D × D)} : Rp F v d → RpK F ks es → RpK F ((k, v) :: ks) ((keyD k, d) :: es)
inductive RpT (F : Hp) : List (List Key × V) → List (D × D) → Prop
  | nil : RpT F [] []
  | cons {k : List Key} {v : V} {d : D} {ks : List (List Key × V)} {es : List (D × D)} : Rp F v d → RpT F ks es → RpT F ((k, v) :: ks) ((.tuple (k.map keyD), d) :: es)
end
mutual
theorem Rp.mono {F F' : Hp} (s : Same F F') : ∀ {v : V} {d : D}, Rp F v d → Rp F' v d
  | _, _, .non => .non
  | _, _, .bl b => .bl b
  | _, _, .int i => .int i
  | _, _, .str x => .str x
  | _, _, .lst h r => .lst (s _ _ h) (Rps.mono s r)
  | _, _, .tup h r => .tup (s _ _ h) (Rps.mono s r)
  | _, _, .dK h r => .dK (s _ _ h) (RpK.mono s r)
  | _, _, .dT h r => .dT (s _ _ h) (RpT.mono s r)
theorem Rps.mono {F F' : Hp} (s : Same F F') : ∀ {v : List V} {d : List D}, Rps F v d → Rps F' v d
  | _, _, .nil => .nil
  | _, _, .cons h r => .cons (Rp.mono s h) (Rps.mono s r)
theorem RpK.mono {F F' : Hp} (s : Same F F') : ∀ {v : List (Key × V)} {d : List (D × D)}, RpK F v d → RpK F' v d
  | _, _, .nil => .nil
  | _, _, .cons h r => .cons (Rp.mono s h) (RpK.mono s r)
theorem RpT.mono {F F' : Hp} (s : Same F F') : ∀ {v : List (List Key × V)} {d : List (D × D)}, RpT F v d → RpT F' v d
  | _, _, .nil => .nil
  | _, _, .cons h r => .cons (Rp.mono s h) (RpT.mono s r)
end
theorem Rps.length {F : Hp} : ∀ {vs : List V} {ds : List D}, Rps F vs ds → vs.length = ds.length
  | _, _, .nil => rfl
  | _, _, .cons _ r => congrArg Nat.succ (Rps.length r)
theorem Rps.get {F : Hp} : ∀ {vs : List V} {ds : List D} {i : Nat} {v : V}, Rps F vs ds → vs[i]? = some v → ∃ d, ds[i]? = some d ∧ Rp F v d
  | _, _, 0, _, .cons h r, e => by simp at e; subst e; exact ⟨_, rfl, h⟩
  | _, _, i + 1, _, .cons h r, e => by
    obtain ⟨d, h1, h2⟩ := Rps.get r (i := i) (by simpa using e)
    exact ⟨d, by simpa using h1, h2⟩
theorem Rps.get' {F : Hp} : ∀ {vs : List V} {ds : List D} {i : Nat} {d : D}, Rps F vs ds → ds[i]? = some d → ∃ v, vs[i]? = some v ∧ Rp F v d
  | _, _, 0, _, .cons h r, e => by simp at e; subst e; exact ⟨_, rfl, h⟩
  | _, _, i + 1, _, .cons h r, e => by
    obtain ⟨d, h1, h2⟩ := Rps.get' r (i := i) (by simpa using e)
    exact ⟨d, by simpa using h1, h2⟩
theorem Rps.append {F : Hp} : ∀ {vs ws : List V} {ds es : List D}, Rps F vs ds → Rps F ws es → Rps F (vs ++ ws) (ds ++ es)
  | _, _, _, _, .nil, s => s
  | _, _, _, _, .cons h r, s => .cons h (Rps.append r s)
theorem Rps.set {F : Hp} {v : V} {d : D} (h : Rp F v d) : ∀ {vs : List V} {ds : List D} (i : Nat), Rps F vs ds → Rps F (vs.set i v) (ds.set i d)
  | _, _, _, .nil => .nil
  | _, _, 0, .cons _ r => .cons h r
  | _, _, i + 1, .cons a r => .cons a (Rps.set h i r)
theorem Rps.take {F : Hp} : ∀ {vs : List V} {ds : List D} (n : Nat), Rps F vs ds → Rps F (vs.take n) (ds.take n)
  | _, _, 0, _ => .nil
  | _, _, _ + 1, .nil => .nil
  | _, _, n + 1, .cons h r => .cons h (Rps.take n r)
theorem Rps.drop {F : Hp} : ∀ {vs : List V} {ds : List D} (n : Nat), Rps F vs ds → Rps F (vs.drop n) (ds.drop n)
  | _, _, 0, r => r
  | _, _, _ + 1, .nil => .nil
  | _, _, n + 1, .cons h r => Rps.drop n r
theorem Rps.reverse {F : Hp} {vs : List V} {ds : List D} (h : Rps F vs ds) : Rps F vs.reverse ds.reverse := by
  induction vs generalizing ds with
  | nil => cases h; exact .nil
  | cons v vs ih => cases h with
    | cons a r =>
      rw [List.reverse_cons, List.reverse_cons]
      exact (ih r).append (.cons a .nil)
theorem Rps.rep {F : Hp} {vs : List V} {ds : List D} (h : Rps F vs ds) : ∀ n : Nat, Rps F (List.replicate n vs).flatten (List.replicate n ds).flatten
  | 0 => .nil
  | n + 1 => by
    rw [List.replicate_succ, List.replicate_succ, List.flatten_cons, List.flatten_cons]
    exact h.append (Rps.rep h n)

/-! ownership: a value whose lists, to the depth k, are its own -/
mutual
inductive Ow (F H : Hp) : Nat → V → D → List Addr → Prop
  | fz {v : V} {d : D} : Rp F v d → Ow F H 0 v d []
  | lst {k : Nat} {a : Addr} {xs : List V} {ds : List D} {A : List Addr} : H a = some (.lst xs) → Ows F H k xs ds A → Ow F H (k + 1) (.ref a) (.list ds) (a :: A)
  | dK {a : Addr} {ks : List (Key × V)} {es : List (D × D)} : H a = some (.dK ks) → RpK F ks es → Ow F H 1 (.ref a) (.dict es) [a]
  | dT {a : Addr} {ks : List (List Key × V)} {es : List (D × D)} : H a = some (.dT ks) → RpT F ks es → Ow F H 1 (.ref a) (.dict ((.none, .none) :: es)) [a]
inductive Ows (F H : Hp) : Nat → List V → List D → List Addr → Prop
  | nil {k : Nat} : Ows F H k [] [] []
  | cons {k : Nat} {v : V} {vs : List V} {d : D} {ds : List D} {A B : List Addr} : Ow F H k v d A → Ows F H k vs ds B → Ows F H k (v :: vs) (d :: ds) (A ++ B)
end
mutual
theorem Ow.mono {F F' H H' : Hp} (s : Same F F') : ∀ {k : Nat} {v : V} {d : D} {A : List Addr}, Ow F H k v d A → (∀ a ∈ A, ∀ o, H a = some o → H' a = some o) → Ow F' H' k v d A
  | _, _, _, _, .fz h, _ => .fz (h.mono s)
  | _, _, _, _, .lst h r, t => .lst (t _ List.mem_cons_self _ h) (Ows.mono s r fun a ha => t a (List.mem_cons_of_mem _ ha))
  | _, _, _, _, .dK h r, t => .dK (t _ List.mem_cons_self _ h) (r.mono s)
  | _, _, _, _, .dT h r, t => .dT (t _ List.mem_cons_self _ h) (r.mono s)
theorem Ows.mono {F F' H H' : Hp} (s : Same F F') : ∀ {k : Nat} {v : List V} {d : List D} {A : List Addr}, Ows F H k v d A → (∀ a ∈ A, ∀ o, H a = some o → H' a = some o) → Ows F' H' k v d A
  | _, _, _, _, .nil, _ => .nil
  | _, _, _, _, .cons h r, t => .cons (Ow.mono s h fun a ha => t a (List.mem_append_left _ ha)) (Ows.mono s r fun a ha => t a (List.mem_append_right _ ha))
end
theorem Ows.ofRps {F H : Hp} : ∀ {vs : List V} {ds : List D}, Rps F vs ds → Ows F H 0 vs ds []
  | _, _, .nil => .nil
  | _, _, .cons h r => by have := Ows.cons (H := H) (.fz h) (Ows.ofRps r); simpa using this
theorem Ows.toRps {F H : Hp} : ∀ {vs : List V} {ds : List D} {A : List Addr}, Ows F H 0 vs ds A → Rps F vs ds ∧ A = []
  | _, _, _, .nil => ⟨.nil, rfl⟩
  | _, _, _, .cons (.fz h) r => by
    obtain ⟨a, b⟩ := Ows.toRps r
    subst b
    exact ⟨.cons h a, rfl⟩
/-- F with the objects at A -/
def addF (F H : Hp) (A : List Addr) : Hp := fun a => if a ∈ A then H a else F a
theorem addF_same {F H : Hp} {A : List Addr} (h : ∀ a ∈ A, F a = none) : Same F (addF F H A) := fun b o e => by
  unfold addF
  split
  · rename_i hb; rw [h b hb] at e; cases e
  · exact e
theorem addF_sub {F H : Hp} {A : List Addr} (h : Same F H) : Same (addF F H A) H := fun b o e => by
  unfold addF at e
  split at e
  · exact e
  · exact h b o e
theorem addF_new {F H : Hp} {A : List Addr} {b : Addr} {o : HO} (e : addF F H A b = some o) : F b = some o ∨ b ∈ A := by
  unfold addF at e
  split at e
  · rename_i hb; exact .inr hb
  · exact .inl e
mutual
theorem Ow.frz {F H G : Hp} (s : Same F G) : ∀ {k : Nat} {v : V} {d : D} {A : List Addr}, Ow F H k v d A → (∀ a ∈ A, ∀ o, H a = some o → G a = some o) → Rp G v d
  | _, _, _, _, .fz h, _ => h.mono s
  | _, _, _, _, .lst h r, t => .lst (t _ List.mem_cons_self _ h) (Ows.frz s r fun a ha => t a (List.mem_cons_of_mem _ ha))
  | _, _, _, _, .dK h r, t => .dK (t _ List.mem_cons_self _ h) (r.mono s)
  | _, _, _, _, .dT h r, t => .dT (t _ List.mem_cons_self _ h) (r.mono s)
theorem Ows.frz {F H G : Hp} (s : Same F G) : ∀ {k : Nat} {v : List V} {d : List D} {A : List Addr}, Ows F H k v d A → (∀ a ∈ A, ∀ o, H a = some o → G a = some o) → Rps G v d
  | _, _, _, _, .nil, _ => .nil
  | _, _, _, _, .cons h r, t => .cons (Ow.frz s h fun a ha => t a (List.mem_append_left _ ha)) (Ows.frz s r fun a ha => t a (List.mem_append_right _ ha))
end
end DL

end
section
set_option Elab.async false
set_option linter.all false
set_option maxRecDepth 100000
set_option maxHeartbeats 2000000
namespace DL
open PySem PySem.Spec L2

/-! ### the ground of a def: its entry, its pool -/
structure Ctx where
  H0 : Hp
  F0 : Hp
  pa : Option (Addr × Addr)
  cl : String → Addr
  scr : Option Addr
def NP (c : Ctx) (a : Addr) : Prop := ∀ p r, c.pa = some (p, r) → a ≠ p ∧ a ≠ r
def poolA (r : Addr) (P : Pool) : HO := .lst (if P.knd = 0 then [.ref r, .int P.turn] else if P.knd = 1 then P.rest.map V.int else .ref r :: (P.rest.take 4).map V.int)
def poolB (P : Pool) : HO := .lst (if P.knd = 0 then P.rest.map V.int else if P.knd = 1 then P.rest.map V.int else (P.rest.drop 4).map V.int)
def PoolC (p r : Addr) (P : Pool) : Prop := (P.knd = 1 → p = r) ∧ (P.knd ≠ 1 → p ≠ r)
def PoolAt (pa : Option (Addr × Addr)) (P : Pool) (F H : Hp) : Prop :=
  ∀ p r, pa = some (p, r) → PoolC p r P ∧ H p = some (poolA r P) ∧ H r = some (poolB P) ∧ F p = none ∧ F r = none
structure Gd (c : Ctx) (P : Pool) (F H : Hp) : Prop where
  sub : Same F H
  f0 : Same c.F0 F
  gr : ∀ a o, F a = some o → c.F0 a = some o ∨ c.H0 a = none
  kp : ∀ a o, c.H0 a = some o → NP c a → H a = some o
  dm : ∀ a, H a = none → c.H0 a = none
  pool : PoolAt c.pa P F H
abbrev Owns := List (Nat × Nat)
abbrev Pls := Option Nat × Bool
def Fre (ps : Pls) (i : Nat) : Prop := ps.1 ≠ some i ∧ (ps.2 = true → i ≠ 0)
structure Rl (c : Ctx) (ps : Pls) (ow : Owns) (σ : St) (ρ : Rho) (P : Pool) (F H : Hp) : Prop where
  gd : Gd c P F H
  len : σ.length = ρ.length
  psl : ∀ i, ps.1 = some i → ∃ p r, c.pa = some (p, r) ∧ σ[i]? = some (some (.ref p))
  scl : ps.2 = true → ∃ a, c.scr = some a ∧ σ[0]? = some (some (.ref a))
  fz : ∀ i d, ρ[i]? = some (some d) → ow.lookup i = none → ∃ v, σ[i]? = some (some v) ∧ Rp F v d
  own : ∃ Am : Nat → List Addr, (∀ i k, ow.lookup i = some k → ∃ v d, ρ[i]? = some (some d) ∧ σ[i]? = some (some v) ∧ Ow F H k v d (Am i) ∧ (Am i).Nodup ∧ ∀ a ∈ Am i, F a = none ∧ c.H0 a = none ∧ NP c a) ∧
    ∀ i j k l, ow.lookup i = some k → ow.lookup j = some l → i ≠ j → ∀ a ∈ Am i, a ∉ Am j
structure Stp (c : Ctx) (F H F' H' : Hp) : Prop where
  fs : Same F F'
  gr : ∀ a o, F' a = some o → F a = some o ∨ H a = none
  kp : ∀ a o, H a = some o → NP c a → H' a = some o
  dm : ∀ a, H' a = none → H a = none
theorem Stp.refl (c : Ctx) (F H : Hp) : Stp c F H F H := ⟨.refl _, fun _ _ h => .inl h, fun _ _ h _ => h, fun _ h => h⟩
theorem Stp.trans {c : Ctx} {F H F1 H1 F2 H2 : Hp} (a : Stp c F H F1 H1) (b : Stp c F1 H1 F2 H2) : Stp c F H F2 H2 :=
  ⟨a.fs.trans b.fs, fun x o h => (b.gr x o h).elim (a.gr x o) fun z => .inr (a.dm x z), fun x o h n => b.kp x o (a.kp x o h n) n, fun x h => a.dm x (b.dm x h)⟩
/-- an expression's end -/
structure Vp (c : Ctx) (ps : Pls) (ow : Owns) (σ : St) (ρ : Rho) (F H : Hp) (P' : Pool) (k : Nat) (d : D) (v : V) (F' H' : Hp) (A : List Addr) : Prop where
  rl : Rl c ps ow σ ρ P' F' H'
  st : Stp c F H F' H'
  ow : Ow F' H' k v d A
  nd : A.Nodup
  fr : ∀ a ∈ A, F' a = none ∧ H a = none
def ExAt (cl : String → Addr) (x : Exn) (F : Hp) (cls : Value) (dd : Option Addr) (H : Hp) : Prop :=
  cls = .ref (cl x.name) ∧ match x.fld with
    | none => dd = none
    | some (nm, d) => ∃ a v, dd = some a ∧ H a = some (.xd [(nm, v)]) ∧ Rp F v d
structure Jd where
  X : Cx
  W : WX
  cl : String → Addr
  ps : Pls
  cx : Ctx → Prop := fun _ => True
  cxm : ∀ (c : Ctx) (P : Pool) (F H : Hp), Gd c P F H → cx c → cx ⟨H, F, c.pa, c.cl, c.scr⟩ := by exact fun _ _ _ _ _ _ => trivial
structure CxOk (J : Jd) (c : Ctx) : Prop where
  eq : c.cl = J.cl
  cx : J.cx c
def ErrE (J : Jd) (c : Ctx) (ow : Owns) (σ : St) (ρ : Rho) : Exn → Pool → Prop := fun x P' => ∀ cls dd F' H', Rl c J.ps ow σ ρ P' F' H' → ExAt J.cl x F' cls dd H' → J.W cls dd σ H'
def Se (J : Jd) (ow : Owns) (e : Expr) (k : Nat) (f : Rho → M D) : Prop :=
  ∃ t, PE J.X e t ∧ ∀ (c : Ctx) (σ : St) (ρ : Rho) (P : Pool) (F H : Hp) (Q : VK), CxOk J c → Rl c J.ps ow σ ρ P F H →
    Wp (f ρ P) (fun d P' => ∀ v F' H' A, Vp c J.ps ow σ ρ F H P' k d v F' H' A → Q v H') (ErrE J c ow σ ρ) → t σ H Q
/-- a test -/
def Te (J : Jd) (ow : Owns) (e : Expr) (f : Rho → M Bool) : Prop :=
  ∃ t, PT J.X e t ∧ ∀ (c : Ctx) (σ : St) (ρ : Rho) (P : Pool) (F H : Hp) (Q : Bool → Hp → Prop), CxOk J c → Rl c J.ps ow σ ρ P F H →
    Wp (f ρ P) (fun b P' => ∀ F' H', Rl c J.ps ow σ ρ P' F' H' → Stp c F H F' H' → Q b H') (ErrE J c ow σ ρ) → t σ H Q
def Tw (J : Jd) (ow : Owns) (e : Expr) (f : Rho → M Bool) : Prop :=
  ∃ t, PW J.X e t ∧ ∀ (c : Ctx) (σ : St) (ρ : Rho) (P : Pool) (F H : Hp) (Q : Bool → Hp → Prop), CxOk J c → Rl c J.ps ow σ ρ P F H →
    Wp (f ρ P) (fun b P' => ∀ F' H', Rl c J.ps ow σ ρ P' F' H' → Stp c F H F' H' → Q b H') (ErrE J c ow σ ρ) → t σ H Q
/-- arguments -/
def Sa (J : Jd) (ow : Owns) (es : List Expr) (f : Rho → M (List D)) : Prop :=
  ∃ t, PA J.X es t ∧ (∀ ρ P ds P', f ρ P = some (.ok ds, P') → ds.length = es.length) ∧ ∀ (c : Ctx) (σ : St) (ρ : Rho) (P : Pool) (F H : Hp) (Q : List V → Hp → Prop), CxOk J c → Rl c J.ps ow σ ρ P F H →
    Wp (f ρ P) (fun ds P' => ∀ vs F' H', Rl c J.ps ow σ ρ P' F' H' → Stp c F H F' H' → Rps F' vs ds → Q vs H') (ErrE J c ow σ ρ) → t σ H Q

mutual
theorem Ow.there {F H : Hp} {a : Addr} : ∀ {k : Nat} {v : V} {d : D} {A : List Addr}, Ow F H k v d A → a ∈ A → ∃ o, H a = some o
  | _, _, _, _, .fz _, h => nomatch h
  | _, _, _, _, .lst h r, z => (List.mem_cons.mp z).elim (fun e => e ▸ ⟨_, h⟩) (Ows.there r)
  | _, _, _, _, .dK h _, z => (List.mem_singleton.mp z) ▸ ⟨_, h⟩
  | _, _, _, _, .dT h _, z => (List.mem_singleton.mp z) ▸ ⟨_, h⟩
theorem Ows.there {F H : Hp} {a : Addr} : ∀ {k : Nat} {v : List V} {d : List D} {A : List Addr}, Ows F H k v d A → a ∈ A → ∃ o, H a = some o
  | _, _, _, _, .nil, h => nomatch h
  | _, _, _, _, .cons x y, z => (List.mem_append.mp z).elim (Ow.there x) (Ows.there y)
end
mutual
theorem Ow.uniq {F F' H : Hp} : ∀ {k : Nat} {v : V} {d d' : D} {A B : List Addr}, Ow F H k v d A → Ow F' H k v d' B → A = B
  | _, _, _, _, _, _, .fz _, .fz _ => rfl
  | _, _, _, _, _, _, .lst h r, .lst h' r' => by rw [h] at h'; cases h'; rw [Ows.uniq r r']
  | _, _, _, _, _, _, .lst h r, .dK h' _ => by rw [h] at h'; cases h'
  | _, _, _, _, _, _, .lst h r, .dT h' _ => by rw [h] at h'; cases h'
  | _, _, _, _, _, _, .dK h _, .lst h' _ => by rw [h] at h'; cases h'
  | _, _, _, _, _, _, .dT h _, .lst h' _ => by rw [h] at h'; cases h'
  | _, _, _, _, _, _, .dK _ _, .dK _ _ => rfl
  | _, _, _, _, _, _, .dK _ _, .dT _ _ => rfl
  | _, _, _, _, _, _, .dT _ _, .dK _ _ => rfl
  | _, _, _, _, _, _, .dT _ _, .dT _ _ => rfl
theorem Ows.uniq {F F' H : Hp} : ∀ {k : Nat} {v : List V} {d d' : List D} {A B : List Addr}, Ows F H k v d A → Ows F' H k v d' B → A = B
  | _, _, _, _, _, _, .nil, .nil => rfl
  | _, _, _, _, _, _, .cons a b, .cons a' b' => by rw [Ow.uniq a a', Ows.uniq b b']
end
/-! ### what a step leaves of the relation -/
section
variable {c : Ctx} {ps : Pls} {ow : Owns} {σ : St} {ρ : Rho} {P P' : Pool} {F H F' H' : Hp}
theorem np_of (g : Gd c P F H) {a : Addr} (h : H a = none) : NP c a := fun p r e => by
  obtain ⟨_, h1, h2, _, _⟩ := g.pool p r e
  constructor
  · rintro rfl; rw [h] at h1; cases h1
  · rintro rfl; rw [h] at h2; cases h2
theorem np_some (g : Gd c P F H) {a : Addr} {o : HO} (h : F a = some o) : NP c a := fun p r e => by
  obtain ⟨_, _, _, h1, h2⟩ := g.pool p r e
  constructor
  · rintro rfl; rw [h] at h1; cases h1
  · rintro rfl; rw [h] at h2; cases h2
/-- new objects: F and H grow -/
theorem Rl.grow (r : Rl c ps ow σ ρ P F H) (s : Stp c F H F' H') (sub : Same F' H') (pool : PoolAt c.pa P' F' H') : Rl c ps ow σ ρ P' F' H' where
  gd := ⟨sub, r.gd.f0.trans s.fs, fun a o h => (s.gr a o h).elim (r.gd.gr a o) fun z => .inr (r.gd.dm a z), fun a o h n => s.kp a o (r.gd.kp a o h n) n, fun a h => r.gd.dm a (s.dm a h), pool⟩
  len := r.len
  psl := r.psl
  scl := r.scl
  fz := fun i d h n => let ⟨v, a, b⟩ := r.fz i d h n; ⟨v, a, b.mono s.fs⟩
  own := by
    obtain ⟨Am, h1, h2⟩ := r.own
    refine ⟨Am, fun i k e => ?_, h2⟩
    obtain ⟨v, d, a, b, o, nd, fr⟩ := h1 i k e
    have there : ∀ a ∈ Am i, ∃ o, H a = some o := fun a ha => o.there ha
    refine ⟨v, d, a, b, o.mono s.fs fun a ha o h => s.kp a o h (fr a ha).2.2, nd, fun a ha => ⟨?_, (fr a ha).2⟩⟩
    cases e : F' a with
    | none => rfl
    | some o =>
      rcases s.gr a o e with z | z
      · rw [(fr a ha).1] at z; cases z
      · obtain ⟨o', h'⟩ := there a ha; rw [z] at h'; cases h'
theorem Rl.same (r : Rl c ps ow σ ρ P F H) : Stp c F H F H := .refl _ _ _
/-- an object laid, not tracked as a datum -/
theorem Rl.laid (r : Rl c ps ow σ ρ P F H) {p : Addr} {o : HO} (hp : H p = none) : Rl c ps ow σ ρ P F (upd H p o) ∧ Stp c F H F (upd H p o) := by
  have k : Same H (upd H p o) := fun a u h => by rw [upd_ne (ne_of_none h hp)]; exact h
  have s : Stp c F H F (upd H p o) := ⟨.refl _, fun _ _ h => .inl h, fun a u h _ => k a u h, fun a h => by
    cases e : H a with
    | none => rfl
    | some u => rw [k a u e] at h; cases h⟩
  refine ⟨r.grow s (r.gd.sub.trans k) fun a b e => ?_, s⟩
  obtain ⟨h0, h1, h2, h3⟩ := r.gd.pool a b e
  exact ⟨h0, k _ _ h1, k _ _ h2, h3⟩
/-- objects of H become data -/
theorem Rl.added (r : Rl c ps ow σ ρ P F H) {A : List Addr} (h : ∀ a ∈ A, F a = none ∧ c.H0 a = none ∧ NP c a) (hd : ∀ i k, ow.lookup i = some k → ∀ Am : List Addr, (∃ v d, σ[i]? = some (some v) ∧ Ow F H k v d Am) → ∀ a ∈ Am, a ∉ A) :
    Rl c ps ow σ ρ P (addF F H A) H where
  gd := ⟨addF_sub r.gd.sub, r.gd.f0.trans (addF_same fun a ha => (h a ha).1), fun a o e => (addF_new e).elim (r.gd.gr a o) fun z => .inr (h a z).2.1, r.gd.kp, r.gd.dm, fun p q e => by
    obtain ⟨h0, h1, h2, h3, h4⟩ := r.gd.pool p q e
    refine ⟨h0, h1, h2, ?_, ?_⟩
    · unfold addF; rw [if_neg fun z => ((h p z).2.2 p q e).1 rfl]; exact h3
    · unfold addF; rw [if_neg fun z => ((h q z).2.2 p q e).2 rfl]; exact h4⟩
  len := r.len
  psl := r.psl
  scl := r.scl
  fz := fun i d e n => let ⟨v, a, b⟩ := r.fz i d e n; ⟨v, a, b.mono (addF_same fun a ha => (h a ha).1)⟩
  own := by
    obtain ⟨Am, h1, h2⟩ := r.own
    refine ⟨Am, fun i k e => ?_, h2⟩
    obtain ⟨v, d, a, b, o, nd, fr⟩ := h1 i k e
    refine ⟨v, d, a, b, o.mono (addF_same fun a ha => (h a ha).1) fun _ _ _ h => h, nd, fun a ha => ⟨?_, (fr a ha).2⟩⟩
    unfold addF
    rw [if_neg (hd i k e (Am i) ⟨v, d, b, o⟩ a ha)]
    exact (fr a ha).1
end
/-- an expression's owned end is frozen -/
theorem Vp.frz {c : Ctx} {ps : Pls} {ow : Owns} {σ : St} {ρ : Rho} {F H : Hp} {P' : Pool} {k : Nat} {d : D} {v : V} {F' H' : Hp} {A : List Addr} (x : Vp c ps ow σ ρ F H P' k d v F' H' A)
    (r : Rl c ps ow σ ρ P' F H ∨ True) (hown : ∀ i k, ow.lookup i = some k → ∀ Am : List Addr, (∃ v d, σ[i]? = some (some v) ∧ Ow F' H' k v d Am) → ∀ a ∈ Am, ∃ o, H a = some o) (hd0 : ∀ a, H a = none → c.H0 a = none) (hnp : ∀ a, H a = none → NP c a) :
    Vp c ps ow σ ρ F H P' 0 d v (addF F' H' A) H' [] where
  rl := x.rl.added (fun a ha => ⟨(x.fr a ha).1, hd0 a (x.fr a ha).2, hnp a (x.fr a ha).2⟩) fun i k e Am hA a ha z => by
    obtain ⟨o, h⟩ := hown i k e Am hA a ha
    rw [(x.fr a z).2] at h; cases h
  st := ⟨x.st.fs.trans (addF_same fun a ha => (x.fr a ha).1), fun a o e => (addF_new e).elim (x.st.gr a o) fun z => .inr (x.fr a z).2, x.st.kp, x.st.dm⟩
  ow := .fz (x.ow.frz (addF_same fun a ha => (x.fr a ha).1) fun a ha o h => by unfold addF; rw [if_pos ha]; exact h)
  nd := List.nodup_nil
  fr := fun a h => by cases h
/-- .. behind a relation -/
theorem Rl.frz {c : Ctx} {ps : Pls} {ow : Owns} {σ : St} {ρ : Rho} {F H : Hp} {P P' : Pool} {k : Nat} {d : D} {v : V} {F' H' : Hp} {A : List Addr} (r : Rl c ps ow σ ρ P F H) (x : Vp c ps ow σ ρ F H P' k d v F' H' A) :
    Vp c ps ow σ ρ F H P' 0 d v (addF F' H' A) H' [] :=
  x.frz (.inr trivial) (fun i k e Am ⟨v, d, a, o⟩ b hb => by
    obtain ⟨Bm, h1, _⟩ := r.own
    obtain ⟨v', d', _, a', o', _, fr⟩ := h1 i k e
    rw [a] at a'; cases a'
    have o2 : Ow F' H' k v d' (Bm i) := o'.mono x.st.fs fun a ha o h => x.st.kp a o h (fr a ha).2.2
    rw [o.uniq o2] at hb
    exact o'.there hb) (fun a h => r.gd.dm a h) fun a h => np_of r.gd h
end DL

end
section
set_option Elab.async false
set_option linter.all false
set_option maxRecDepth 100000
set_option maxHeartbeats 2000000
namespace DL
open PySem PySem.Spec L2

/-! ### defs, run where nothing is being shown -/
structure FnG (P : Program) (w : World) (K : PySem.W.Frag) (mg : Str → Option Value) (base : Heap) (k : Nat) (f : Addr) (fd : FuncData) (ps : List Str) (sp : Sp) : Prop where
  len : ∀ vs H Q E, sp vs H Q E → vs.length = ps.length
  run : ∀ (B : Around) (up : List Env) (s : Shared) (H : Hp) (args : Args) (us : List Value) (vs : List V) (Q : VK) (E : XK), B.guards = some [] → Room k B → Env0 P w K mg base B up s H → BindsTo s fd args (ps.zip us) → Vals vs us → sp vs H Q E →
    codeAny (model P w) B (.call (.ref f) args) (CR (L2.CX P w) up P w H s Q E) s
theorem FnG.up {P : Program} {w : World} {K : PySem.W.Frag} {mg : Str → Option Value} {base : Heap} {j k : Nat} {f : Addr} {fd : FuncData} {ps : List Str} {sp : Sp} (F : FnG P w K mg base j f fd ps sp) (h : j ≤ k) : FnG P w K mg base k f fd ps sp :=
  ⟨F.len, fun B up s H args us vs Q E g hr => F.run B up s H args us vs Q E g (hr.mono h)⟩
section
variable {P : Program} {w : World} {K : PySem.W.Frag} {mg : Str → Option Value} {base : Heap}
theorem fnG_of {x qual : Str} {st : Stmt} {f : Addr} {fd : FuncData} {N ps : List Str} {k : Nat} {sp : Sp} (G : Fun K x qual st f fd) (S : FnScope N ps (defScope st)) (len : ∀ vs H Q E, sp vs H Q E → vs.length = ps.length)
    (body : ∀ (cdv : Value) (B : Around) (up : List Env) (s : Shared) (H : Hp) (vs : List V) (Q : VK) (E : XK), B.guards = some [] → Room k (B.deeper (PyProof.Rows.envOfC qual (defScope st) s.heap.objs.size f cdv)) → sp vs H Q E →
      ∃ t, PSs (cxOf (L2.CX P w) P w K mg base N qual (defScope st) f cdv B up s H E) (defBody st) t ∧ t { nx := fun _ H' => Q .non H', rt := Q } (start N vs) H) : FnG P w K mg base (k + 1) f fd ps sp := by
  obtain ⟨oc, od, kV, doc, pm, an, cdv, ct, osl, rfl, lk, hcd⟩ := G.ex
  refine ⟨len, fun B up s H args us vs Q E hg room e0 binds rv hsp => ?_⟩
  have hl := len _ _ _ _ hsp
  have keep : ∀ b o, base.get? b = some o → s.heap.get? b = some o := fun b o e => (e0.bs b o e).1
  have KX : K.In s.heap := e0.mod.kin.keeps keep
  have kinds : ∀ y ∈ ps.zip us, (defScope st).names.lookup y.1 = some .local ∨ ((defScope st).names.lookup y.1 = some .cell ∧ ((cellsFrom (s.heap.objs.size + 1) (defScope st).names []).lookup y.1).isSome = true) := by
    rintro ⟨n, v⟩ hy
    rcases S.par n (List.of_mem_zip hy).1 with q | q
    · exact .inl q
    · exact .inr ⟨q, PySem.W.cellsFrom_some _ _ _ (.inl q)⟩
  refine codeAny_call_function room.depth (KX _ _ lk) rfl S.co S.gen rfl (PySem.W.codeRec_of KX hcd) (binds _ _ _ _ ?_)
  refine wpAny_newFunctionEnv_cells S.kind kinds fun env he s1 z => ?_
  subst he
  refine ⟨(e0.mod.nolimit.keeps keep).keeps z.toInCall.keep, codeAny_func ?_⟩
  obtain ⟨t, ht, hq⟩ := body cdv B up s H vs Q E hg (room.deeper _) hsp
  have J := inv_start (CX := L2.CX P w) (qual := qual) (f := f) (cd := cdv) (E := E) S room.hd e0 hl rv z
  refine wpAny_mono (ht.run [] s1 (start N vs) H _ J hq) (fun fl s' hs => ?_) fun e s' hs => hs
  cases fl with
  | ret u => obtain ⟨v, σ', H', J', rv', q⟩ := hs; exact ⟨v, H', J'.os, J'.bare, J'.base, J'.hok, rv', q⟩
  | next => obtain ⟨σ', H', J', q⟩ := hs; exact ⟨V.non, H', J'.os, J'.bare, J'.base, J'.hok, rfl, q⟩
  | brk => obtain ⟨_, _, _, q⟩ := hs; exact q.elim
  | cont => obtain ⟨_, _, _, q⟩ := hs; exact q.elim
end
section
variable {X : Cx} {k : Nat} {f : Addr} {fd : FuncData} {ps : List Str} {sp : Sp} {W : WX}
theorem runG {pins : List (Addr × Obj)} {σ : St} {H : Hp} {s : Shared} {Q : VK} {us : List Value} {vs : List V} (G : FnG X.prog X.w X.K X.mg X.base k f fd ps sp) (hg : X.A.guards = some []) (hr : Room k X.A) (hb : Binds X.K fd ps []) (tk : Takes X W)
    (I : Inv X pins σ H s) (rv : Vals vs us) (h : sp vs H Q (WE W σ)) : wpAny (model X.prog X.w) X.A (call (.ref f) us) (EP X pins σ Q) X.xe s := by
  have hl : us.length = ps.length := by rw [← rv.length]; exact G.len _ _ _ _ h
  have b : BindsTo s fd ⟨us, []⟩ (ps.zip us) := by simpa using hb s us I.kIn (by simpa using hl)
  refine wpAny_call (codeAny_mono (G.run X.A X.stack s H ⟨us, []⟩ us vs Q (WE W σ) hg hr I.env0 b rv h) fun r s' hq => ?_)
  cases r with
  | error e => exact passAt tk σ pins H s e s' I hq
  | ok fl =>
    cases fl with
    | ret u => exact I.after hq
    | next => exact hq.elim
    | brk => exact hq.elim
    | cont => exact hq.elim
theorem pe_callG {x : Str} {p pos : Pos} {e : Expr} {es : List Expr} {t : TA} (G : FnG X.prog X.w X.K X.mg X.base k f fd ps sp) (hg : X.A.guards = some []) (hr : Room k X.A) (hgl : Gl X x) (hm : X.mg x = some (.ref f)) (hk : PySem.W.keepIn X.K (.ref f) = true) (hb : Binds X.K fd ps []) (tk : Takes X W)
    (ha : PA X (e :: es) t) (hdb : (x == ("__debug__" : Str)) = false := by decide) (he : starEach (e :: es) X.env = (false, eval e X.env) :: starEach es X.env := by rfl) (hpl : (backTo pos (starEach es X.env)).any (·.1) = false := by rfl) :
    PE X (.Call (.Name x p) (e :: es) [] pos) (tCallS sp (WE W) t) := ⟨fun pins s σ H Q I h =>
  wpAny_Call_Name_kw (ld_glob I hgl hm (PySem.W.callWith_K (h₀ := X.base) I.ok.mod.kin hk (thn (ha.run pos pins s σ H _ I h) fun us s1 ⟨vs, H1, I1, r, q⟩ => ⟨I1.kIn, runG G hg hr hb tk I1 r q⟩) he hpl) hdb)⟩
end

/-! ### the end of a def; its promise -/
structure Rt (c : Ctx) (k : Nat) (P' : Pool) (d : D) (v : V) (H' : Hp) : Prop where
  ex : ∃ F' A, Gd c P' F' H' ∧ Ow F' H' k v d A ∧ A.Nodup ∧ ∀ a ∈ A, F' a = none ∧ c.H0 a = none ∧ NP c a
/-- the promise: hp, the pool is the first argument; n further arguments; k, how deep the answer is the caller's own -/
def spD (cl : String → Addr) (hp : Bool) (n k : Nat) (f : List D → M D) : Sp := fun vs H Q E =>
  ∃ (F : Hp) (pa : Option (Addr × Addr)) (P : Pool) (ds : List D) (ws : List V), (match hp, pa with | true, some (p, _) => vs = .ref p :: ws | false, none => vs = ws | _, _ => False) ∧ ws.length = n ∧
    Rps F ws ds ∧ Same F H ∧ PoolAt pa P F H ∧
    Wp (f ds P) (fun d P' => ∀ v H', Rt ⟨H, F, pa, cl, none⟩ k P' d v H' → Q v H') (fun x P' => ∀ cls dd F' H', Gd ⟨H, F, pa, cl, none⟩ P' F' H' → ExAt cl x F' cls dd H' → E cls dd H')
theorem spD_len {cl : String → Addr} {hp : Bool} {n k : Nat} {f : List D → M D} {ps : List Str} (h : ps.length = n + (if hp then 1 else 0)) : ∀ vs H Q E, spD cl hp n k f vs H Q E → vs.length = ps.length := by
  intro vs H Q E ⟨F, pa, P, ds, ws, h1, h2, _⟩
  cases hp with
  | true =>
    cases pa with
    | none => exact h1.elim
    | some p => have e : vs = .ref p.1 :: ws := h1; rw [e, List.length_cons, h2, h]; rfl
  | false =>
    cases pa with
    | none => have e : vs = ws := h1; rw [e, h2, h]; rfl
    | some p => exact h1.elim
/-- what every rule knows of where it stands -/
structure Ok (J : Jd) : Prop where
  g : J.X.A.guards = some []
  c : J.X.calm = true
  u : J.X.A.units + 200 < cLine
  tk : Takes J.X J.W
  nd : J.X.N.Nodup
  h0 : J.X.A.handled = none

/-! ### values -/
section
variable {J : Jd} {ow : Owns}
theorem Wp.ok {α : Type} {a : α} {p : Pool} {q : α → Pool → Prop} {e : Exn → Pool → Prop} (h : Wp (some (.ok a, p)) q e) : q a p := h
def eVar (i : Nat) : Rho → M D := fun ρ => match ρ[i]? with
  | some (some d) => ret d
  | _ => stuck
theorem Rl.vp {c : Ctx} {ps : Pls} {σ : St} {ρ : Rho} {P : Pool} {F H : Hp} {d : D} {v : V} (r : Rl c ps ow σ ρ P F H) (h : Rp F v d) : Vp c ps ow σ ρ F H P 0 d v F H [] :=
  ⟨r, .refl _ _ _, .fz h, List.nodup_nil, fun _ h => nomatch h⟩
theorem se_name {i : Nat} {x : Str} {pos : Pos} (hi : ow.lookup i = none := by rfl) (hN : J.X.N[i]? = some x := by rfl) (hv : Vis J.X.env.scope x := by first | exact Or.inl rfl | exact Or.inr (Or.inl rfl) | exact Or.inr (Or.inr rfl)) (hd : (x == ("__debug__" : Str)) = false := by decide)
    (hcd : (x == ("__classdict__" : Str)) = false := by decide) : Se J ow (.Name x pos) 0 (eVar i) := by
  refine ⟨_, pe_var hN hv hd hcd, fun c σ ρ P F H Q _ r h => ?_⟩
  unfold eVar at h
  cases e : ρ[i]? with
  | none => rw [e] at h; exact h.elim
  | some o =>
    rw [e] at h
    cases o with
    | none => exact h.elim
    | some d =>
      obtain ⟨v, hv, rp⟩ := r.fz i d e hi
      exact ⟨v, hv, Wp.ok h _ _ _ _ (r.vp rp)⟩
def eC (d : D) : Rho → M D := fun _ => ret d
theorem se_int {i : Int} {j pos} : Se J ow (.Constant (.int i) j pos) 0 (eC (.int i)) := ⟨_, pe_int, fun _ _ _ _ _ _ _ _ r h => h _ _ _ _ (r.vp (.int i))⟩
theorem se_bl {b : Bool} {j pos} : Se J ow (.Constant (.bool b) j pos) 0 (eC (.bool b)) := ⟨_, pe_bl, fun _ _ _ _ _ _ _ _ r h => h _ _ _ _ (r.vp (.bl b))⟩
theorem se_non {j pos} : Se J ow (.Constant .none j pos) 0 (eC .none) := ⟨_, pe_non, fun _ _ _ _ _ _ _ _ r h => h _ _ _ _ (r.vp .non)⟩
theorem se_str {x : Str} {j pos} : Se J ow (.Constant (.str x) j pos) 0 (eC (.str x)) := ⟨_, pe_str, fun _ _ _ _ _ _ _ _ r h => h _ _ _ _ (r.vp (.str x))⟩
theorem se_glob {x : Str} {i : Int} {t : Tok} {pos : Pos} (hm : J.X.mg x = some (.int i t)) (hg : Gl J.X x := by rfl) (hd : (x == ("__debug__" : Str)) = false := by decide) : Se J ow (.Name x pos) 0 (eC (.int i)) :=
  ⟨_, pe_glob (v := .int i) hg hm ⟨t, rfl⟩ hd, fun _ _ _ _ _ _ _ _ r h => h _ _ _ _ (r.vp (.int i))⟩
theorem Se.frz {e : Expr} {k : Nat} {f : Rho → M D} (h : Se J ow e k f) : Se J ow e 0 f := by
  obtain ⟨t, ht, q⟩ := h
  exact ⟨t, ht, fun c σ ρ P F H Q e r w => q c σ ρ P F H Q e r (w.mono (fun d P' k v F' H' A x => k v _ _ _ (r.frz x)) fun _ _ h => h)⟩

/-! ### operations on data -/
structure Nw (F H : Hp) (k : Nat) (d : D) (v : V) (F' H' : Hp) (A : List Addr) : Prop where
  fs : Same F F'
  sub : Same F' H'
  hs : Same H H'
  gr : ∀ a o, F' a = some o → F a = some o ∨ H a = none
  ow : Ow F' H' k v d A
  nd : A.Nodup
  fr : ∀ a ∈ A, F' a = none ∧ H a = none
theorem Nw.same {F H : Hp} {d : D} {v : V} (s : Same F H) (h : Rp F v d) : Nw F H 0 d v F H [] := ⟨.refl _, s, .refl _, fun _ _ h => .inl h, .fz h, List.nodup_nil, fun _ h => nomatch h⟩
theorem same_upd {H : Hp} {p : Addr} {o : HO} (h : H p = none) : Same H (upd H p o) := fun b x e => by rw [upd_ne (ne_of_none e h)]; exact e
theorem sub_upd {F H : Hp} (s : Same F H) {p : Addr} {o : HO} : Same (upd F p o) (upd H p o) := fun b x e => by
  by_cases hb : b = p
  · subst hb; rw [upd_same] at e ⊢; exact e
  · rw [upd_ne hb] at e ⊢; exact s _ _ e
/-- a new frozen object -/
theorem Nw.new {F H : Hp} (s : Same F H) {p : Addr} {o : HO} {d : D} (hp : H p = none) (h : ∀ F', Same F F' → F' p = some o → Rp F' (.ref p) d) : Nw F H 0 d (.ref p) (upd F p o) (upd H p o) [] where
  fs := same_upd (s.free hp)
  sub := sub_upd s
  hs := same_upd hp
  gr := fun a u e => by
    by_cases ha : a = p
    · subst ha; exact .inr hp
    · rw [upd_ne ha] at e; exact .inl e
  ow := .fz (h _ (same_upd (s.free hp)) upd_same)
  nd := List.nodup_nil
  fr := fun _ h => nomatch h
/-- a new list of one's own -/
theorem Nw.own {F H : Hp} (s : Same F H) {p : Addr} {xs : List V} {ds : List D} (hp : H p = none) (h : Rps F xs ds) : Nw F H 1 (.list ds) (.ref p) F (upd H p (.lst xs)) [p] where
  fs := .refl _
  sub := s.trans (same_upd hp)
  hs := same_upd hp
  gr := fun _ _ h => .inl h
  ow := .lst upd_same (Ows.ofRps h)
  nd := by simp
  fr := fun a h => by rw [List.mem_singleton.mp h]; exact ⟨s.free hp, hp⟩
theorem Rl.nw {c : Ctx} {ps : Pls} {σ : St} {ρ : Rho} {P : Pool} {F H F' H' : Hp} {k : Nat} {d : D} {v : V} {A : List Addr} (r : Rl c ps ow σ ρ P F H) (n : Nw F H k d v F' H' A) : Vp c ps ow σ ρ F H P k d v F' H' A := by
  have s : Stp c F H F' H' := ⟨n.fs, n.gr, fun a o h _ => n.hs a o h, fun a h => n.hs.free h⟩
  refine ⟨r.grow s n.sub fun p q e => ?_, s, n.ow, n.nd, n.fr⟩
  obtain ⟨h0, h1, h2, h3, h4⟩ := r.gd.pool p q e
  refine ⟨h0, n.hs _ _ h1, n.hs _ _ h2, ?_, ?_⟩
  · cases z : F' p with
    | none => rfl
    | some o => rcases n.gr _ _ z with y | y; · rw [h3] at y; cases y
                · rw [h1] at y; cases y
  · cases z : F' q with
    | none => rfl
    | some o => rcases n.gr _ _ z with y | y; · rw [h4] at y; cases y
                · rw [h2] at y; cases y
/-- two steps of an expression -/
theorem Vp.after {c : Ctx} {ps : Pls} {σ : St} {ρ : Rho} {F H F1 H1 F2 H2 : Hp} {P2 : Pool} {k : Nat} {d : D} {v : V} {A : List Addr} (s : Stp c F H F1 H1) (x : Vp c ps ow σ ρ F1 H1 P2 k d v F2 H2 A) : Vp c ps ow σ ρ F H P2 k d v F2 H2 A :=
  ⟨x.rl, s.trans x.st, x.ow, x.nd, fun a h => ⟨(x.fr a h).1, s.dm a (x.fr a h).2⟩⟩
theorem Vp.rp {c : Ctx} {ps : Pls} {σ : St} {ρ : Rho} {F H F1 H1 : Hp} {P2 : Pool} {d : D} {v : V} {A : List Addr} (x : Vp c ps ow σ ρ F H P2 0 d v F1 H1 A) : Rp F1 v d := by
  cases x.ow with | fz h => exact h
abbrev Op2 (r : R2) (k : Nat) (g : D → D → Option D) : Prop :=
  ∀ (F H : Hp) (x y : V) (a b d : D) (Q : VK), Same F H → Rp F x a → Rp F y b → g a b = some d → (∀ v F' H' A, Nw F H k d v F' H' A → Q v H') → r x y H Q
def lift {α : Type} (o : Option α) : M α := match o with | some a => ret a | none => stuck
theorem Wp.lift {α : Type} {o : Option α} {p : Pool} {q : α → Pool → Prop} {e : Exn → Pool → Prop} (h : Wp (lift o p) q e) : ∃ a, o = some a ∧ q a p := by
  cases o with
  | none => exact h.elim
  | some a => exact ⟨a, rfl, h⟩
def eOp (g : D → D → Option D) (f f' : Rho → M D) : Rho → M D := fun ρ => bnd (f ρ) fun a => bnd (f' ρ) fun b => lift (g a b)
theorem op2_run {a b : Expr} {f f' : Rho → M D} {r : R2} {k : Nat} {g : D → D → Option D} {ta tb : TE}
    (qa : ∀ (c : Ctx) (σ : St) (ρ : Rho) (P : Pool) (F H : Hp) (Q : VK), CxOk J c → Rl c J.ps ow σ ρ P F H → Wp (f ρ P) (fun d P' => ∀ v F' H' A, Vp c J.ps ow σ ρ F H P' 0 d v F' H' A → Q v H') (ErrE J c ow σ ρ) → ta σ H Q)
    (qb : ∀ (c : Ctx) (σ : St) (ρ : Rho) (P : Pool) (F H : Hp) (Q : VK), CxOk J c → Rl c J.ps ow σ ρ P F H → Wp (f' ρ P) (fun d P' => ∀ v F' H' A, Vp c J.ps ow σ ρ F H P' 0 d v F' H' A → Q v H') (ErrE J c ow σ ρ) → tb σ H Q)
    (hr : Op2 r k g) (c : Ctx) (σ : St) (ρ : Rho) (P : Pool) (F H : Hp) (Q : VK) (hc : CxOk J c) (rl : Rl c J.ps ow σ ρ P F H)
    (h : Wp (eOp g f f' ρ P) (fun d P' => ∀ v F' H' A, Vp c J.ps ow σ ρ F H P' k d v F' H' A → Q v H') (ErrE J c ow σ ρ)) : tOp r ta tb σ H Q := by
  refine qa c σ ρ P F H _ hc rl (h.bnd.mono (fun x P1 h1 v F1 H1 A1 x1 => ?_) fun _ _ h => h)
  refine qb c σ ρ P1 F1 H1 _ hc x1.rl (h1.bnd.mono (fun y P2 h2 u F2 H2 A2 x2 => ?_) fun _ _ h => h)
  obtain ⟨d, e, q⟩ := h2.lift
  exact hr F2 H2 v u x y d _ x2.rl.gd.sub (x1.rp.mono x2.st.fs) x2.rp e fun z F3 H3 A3 n => q z F3 H3 A3 (((x2.rl.nw n).after x2.st).after x1.st)
theorem se_op {a b : Expr} {pos : Pos} {f f' : Rho → M D} {op : Operator} {r : R2} {k : Nat} {g : D → D → Option D} (ho : OpR J.X (binaryOp op) r) (hr : Op2 r k g) (ha : Se J ow a 0 f) (hb : Se J ow b 0 f') : Se J ow (.BinOp a op b pos) k (eOp g f f') := by
  obtain ⟨ta, pa, qa⟩ := ha
  obtain ⟨tb, pb, qb⟩ := hb
  exact ⟨_, pe_op ho pa pb, op2_run (a := a) (b := b) qa qb hr⟩
theorem se_cmp {a b : Expr} {pos : Pos} {f f' : Rho → M D} {op : CmpOp} {r : R2} {g : D → D → Option D} (ho : OpR J.X (compareOp op) r) (hr : Op2 r 0 g) (ha : Se J ow a 0 f) (hb : Se J ow b 0 f') (hm : behindInMarks op b = false := by first | exact nomark _ | rfl) : Se J ow (.Compare a [op] [b] pos) 0 (eOp g f f') := by
  obtain ⟨ta, pa, qa⟩ := ha
  obtain ⟨tb, pb, qb⟩ := hb
  exact ⟨_, pe_cmpR ho pa pb hm, op2_run (a := a) (b := b) qa qb hr⟩
theorem se_ix {a b : Expr} {pos : Pos} {f f' : Rho → M D} {r : R2} {g : D → D → Option D} (ho : IxR J.X r) (hr : Op2 r 0 g) (ha : Se J ow a 0 f) (hb : Se J ow b 0 f') (hs : PlainIx b := by exact fun _ _ => rfl) : Se J ow (.Subscript a b pos) 0 (eOp g f f') := by
  obtain ⟨ta, pa, qa⟩ := ha
  obtain ⟨tb, pb, qb⟩ := hb
  exact ⟨_, pe_ix ho pa pb hs, op2_run (a := a) (b := b) qa qb hr⟩
/-- one operand -/
abbrev Op1 (r : V → Hp → VK → Prop) (k : Nat) (g : D → Option D) : Prop := ∀ (F H : Hp) (x : V) (a d : D) (Q : VK), Same F H → Rp F x a → g a = some d → (∀ v F' H' A, Nw F H k d v F' H' A → Q v H') → r x H Q
def eUn (g : D → Option D) (f : Rho → M D) : Rho → M D := fun ρ => bnd (f ρ) fun a => lift (g a)
theorem op1_run {f : Rho → M D} {r : V → Hp → VK → Prop} {k : Nat} {g : D → Option D} {ta : TE}
    (qa : ∀ (c : Ctx) (σ : St) (ρ : Rho) (P : Pool) (F H : Hp) (Q : VK), CxOk J c → Rl c J.ps ow σ ρ P F H → Wp (f ρ P) (fun d P' => ∀ v F' H' A, Vp c J.ps ow σ ρ F H P' 0 d v F' H' A → Q v H') (ErrE J c ow σ ρ) → ta σ H Q)
    (hr : Op1 r k g) (c : Ctx) (σ : St) (ρ : Rho) (P : Pool) (F H : Hp) (Q : VK) (hc : CxOk J c) (rl : Rl c J.ps ow σ ρ P F H)
    (h : Wp (eUn g f ρ P) (fun d P' => ∀ v F' H' A, Vp c J.ps ow σ ρ F H P' k d v F' H' A → Q v H') (ErrE J c ow σ ρ)) : ta σ H fun x H1 => r x H1 Q := by
  refine qa c σ ρ P F H _ hc rl (h.bnd.mono (fun x P1 h1 v F1 H1 A1 x1 => ?_) fun _ _ h => h)
  obtain ⟨d, e, q⟩ := h1.lift
  exact hr F1 H1 v x d _ x1.rl.gd.sub x1.rp e fun z F3 H3 A3 n => q z F3 H3 A3 ((x1.rl.nw n).after x1.st)
theorem se_un {a : Expr} {pos : Pos} {f : Rho → M D} {op : UnaryOp} {r : V → Hp → VK → Prop} {k : Nat} {g : D → Option D} (ho : UnR J.X (unaryOp op) r) (hr : Op1 r k g) (ha : Se J ow a 0 f) : Se J ow (.UnaryOp op a pos) k (eUn g f) := by
  obtain ⟨ta, pa, qa⟩ := ha
  exact ⟨_, pe_un ho pa, op1_run (ta := ta) qa hr⟩

/-! ### arguments, displays, calls -/
theorem Sa.nil : Sa J ow [] fun _ => ret [] := ⟨_, pa_nil, fun ρ P ds P' h => by cases h; rfl, fun c σ ρ P F H Q _ r h => h [] F H r (.refl _ _ _) .nil⟩
def eCons (f : Rho → M D) (g : Rho → M (List D)) : Rho → M (List D) := fun ρ => bnd (f ρ) fun d => bnd (g ρ) fun ds => ret (d :: ds)
theorem Sa.cons {e : Expr} {es : List Expr} {f : Rho → M D} {g : Rho → M (List D)} (h : Se J ow e 0 f) (hr : Sa J ow es g) (hs : starEach (e :: es) J.X.env = (false, eval e J.X.env) :: starEach es J.X.env := by rfl) : Sa J ow (e :: es) (eCons f g) := by
  obtain ⟨ta, pa, qa⟩ := h
  obtain ⟨tb, pb, lb, qb⟩ := hr
  refine ⟨_, pa_cons pa pb hs, fun ρ P ds P' z => ?_, fun c σ ρ P F H Q hc rl w => ?_⟩
  · unfold eCons bnd at z
    cases h1 : f ρ P with
    | none => rw [h1] at z; cases z
    | some r =>
      obtain ⟨r, P1⟩ := r
      rw [h1] at z
      cases r with
      | error x => cases z
      | ok d =>
        simp only at z
        cases h2 : g ρ P1 with
        | none => rw [h2] at z; cases z
        | some r =>
          obtain ⟨r, P2⟩ := r
          rw [h2] at z
          cases r with
          | error x => cases z
          | ok ds' => cases z; rw [List.length_cons, List.length_cons, lb _ _ _ _ h2]
  refine qa c σ ρ P F H _ hc rl (w.bnd.mono (fun x P1 h1 v F1 H1 A1 x1 => ?_) fun _ _ h => h)
  exact qb c σ ρ P1 F1 H1 _ hc x1.rl (h1.bnd.mono (fun ys P2 h2 us F2 H2 r2 s2 rp => h2 (v :: us) F2 H2 r2 (x1.st.trans s2) (.cons (x1.rp.mono s2.fs) rp)) fun _ _ h => h)
def eTup (g : Rho → M (List D)) : Rho → M D := fun ρ => bnd (g ρ) fun ds => if ds.length ≤ 1000000 then ret (.tuple ds) else stuck
def eLst (g : Rho → M (List D)) : Rho → M D := fun ρ => bnd (g ρ) fun ds => if ds.length ≤ 1000000 then ret (.list ds) else stuck
theorem line_of {n : Nat} (h : n ≤ 1000000) : n ≤ sizeLine := Nat.le_trans h (by decide)
theorem line_lt {n : Nat} (h : n ≤ 1000000) : n < sizeLine := Nat.lt_of_le_of_lt h (by decide)
theorem se_tup {es : List Expr} {g : Rho → M (List D)} {x1 pos} (h : Sa J ow es g) : Se J ow (.Tuple es x1 pos) 0 (eTup g) := by
  obtain ⟨ta, pa, _, qa⟩ := h
  refine ⟨_, pe_tup pa, fun c σ ρ P F H Q hc rl w => ?_⟩
  refine qa c σ ρ P F H _ hc rl (w.bnd.mono (fun ds P1 h1 vs F1 H1 r1 s1 rp => ?_) fun _ _ h => h)
  by_cases hz : ds.length ≤ 1000000
  · rw [if_pos hz] at h1
    exact ⟨line_of (by rw [rp.length]; exact hz), fun p hp => h1 _ _ _ _ (((r1.nw (Nw.new r1.gd.sub hp fun F' s e => .tup e (rp.mono s)))).after s1)⟩
  · rw [if_neg hz] at h1; exact h1.elim
theorem se_lst {es : List Expr} {g : Rho → M (List D)} {pos} (h : Sa J ow es g) : Se J ow (.List es pos) 1 (eLst g) := by
  obtain ⟨ta, pa, _, qa⟩ := h
  refine ⟨_, pe_lst pa, fun c σ ρ P F H Q hc rl w => ?_⟩
  refine qa c σ ρ P F H _ hc rl (w.bnd.mono (fun ds P1 h1 vs F1 H1 r1 s1 rp => ?_) fun _ _ h => h)
  by_cases hz : ds.length ≤ 1000000
  · rw [if_pos hz] at h1
    exact ⟨line_of (by rw [rp.length]; exact hz), fun p hp => h1 _ _ _ _ ((r1.nw (Nw.own r1.gd.sub hp rp)).after s1)⟩
  · rw [if_neg hz] at h1; exact h1.elim
/-- a built-in called with data -/
abbrev OpL (r : List V → Hp → VK → Prop) (k : Nat) (g : List D → Option D) : Prop := ∀ (F H : Hp) (xs : List V) (as : List D) (d : D) (Q : VK), Same F H → Rps F xs as → g as = some d → (∀ v F' H' A, Nw F H k d v F' H' A → Q v H') → r xs H Q
def eB (g : List D → Option D) (f : Rho → M (List D)) : Rho → M D := fun ρ => bnd (f ρ) fun ds => lift (g ds)
theorem opL_run {f : Rho → M (List D)} {r : List V → Hp → VK → Prop} {k : Nat} {g : List D → Option D} {ta : TA}
    (qa : ∀ (c : Ctx) (σ : St) (ρ : Rho) (P : Pool) (F H : Hp) (Q : List V → Hp → Prop), CxOk J c → Rl c J.ps ow σ ρ P F H →
    Wp (f ρ P) (fun ds P' => ∀ vs F' H', Rl c J.ps ow σ ρ P' F' H' → Stp c F H F' H' → Rps F' vs ds → Q vs H') (ErrE J c ow σ ρ) → ta σ H Q)
    (hr : OpL r k g) (c : Ctx) (σ : St) (ρ : Rho) (P : Pool) (F H : Hp) (Q : VK) (hc : CxOk J c) (rl : Rl c J.ps ow σ ρ P F H)
    (h : Wp (eB g f ρ P) (fun d P' => ∀ v F' H' A, Vp c J.ps ow σ ρ F H P' k d v F' H' A → Q v H') (ErrE J c ow σ ρ)) : tCB r ta σ H Q := by
  refine qa c σ ρ P F H _ hc rl (h.bnd.mono (fun ds P1 h1 vs F1 H1 r1 s1 rp => ?_) fun _ _ h => h)
  obtain ⟨d, e, q⟩ := h1.lift
  exact hr F1 H1 vs ds d _ r1.gd.sub rp e fun z F3 H3 A3 n => q z F3 H3 A3 ((r1.nw n).after s1)
theorem se_bi {x : Str} {p pos : Pos} {e : Expr} {es : List Expr} {id : String} {r : List V → Hp → VK → Prop} {k : Nat} {g : List D → Option D} {f : Rho → M (List D)} (hc : CallR J.X (.builtin id) r) (hr : OpL r k g) (hm : J.X.mg x = none) (ha : Sa J ow (e :: es) f)
    (hg : Gl J.X x := by rfl) (hv : bootBuiltins x = some (.builtin id) := by decide +kernel) (hn : x ≠ "__name__" := by decide) (hdb : (x == ("__debug__" : Str)) = false := by decide)
    (he : starEach (e :: es) J.X.env = (false, eval e J.X.env) :: starEach es J.X.env := by rfl) (hpl : (backTo pos (starEach es J.X.env)).any (·.1) = false := by rfl) : Se J ow (.Call (.Name x p) (e :: es) [] pos) k (eB g f) := by
  obtain ⟨ta, pa, _, qa⟩ := ha
  exact ⟨_, pe_callB hc hg hm hv pa hn hdb he hpl, opL_run qa hr⟩
theorem se_ty {x : Str} {p pos : Pos} {e : Expr} {es : List Expr} {T : String} {r : List V → Hp → VK → Prop} {k : Nat} {g : List D → Option D} {f : Rho → M (List D)} (hc : CallR J.X (.type T) r) (hr : OpL r k g) (hm : J.X.mg x = none) (ha : Sa J ow (e :: es) f)
    (hg : Gl J.X x := by rfl) (hv : bootBuiltins x = some (.type T) := by decide +kernel) (hn : x ≠ "__name__" := by decide) (hdb : (x == ("__debug__" : Str)) = false := by decide)
    (he : starEach (e :: es) J.X.env = (false, eval e J.X.env) :: starEach es J.X.env := by rfl) (hpl : (backTo pos (starEach es J.X.env)).any (·.1) = false := by rfl) : Se J ow (.Call (.Name x p) (e :: es) [] pos) k (eB g f) := by
  obtain ⟨ta, pa, _, qa⟩ := ha
  exact ⟨_, pe_callTy hc hg hm hv pa hn hdb he hpl, opL_run qa hr⟩
end
end DL

end
section
set_option Elab.async false
set_option linter.all false
set_option maxRecDepth 100000
set_option maxHeartbeats 2000000
namespace DL
open PySem PySem.Spec L2

section
variable {J : Jd} {ow : Owns}
/-! ### tests -/
def tBool (f : Rho → M D) : Rho → M Bool := fun ρ => bnd (f ρ) fun d => match d with | .bool b => ret b | _ => stuck
theorem te_bool {e : Expr} {f : Rho → M D} (h : Se J ow e 0 f) (he : ∀ whole, isTrue e J.X.env whole = (do let v ← whole; standAt e.pos; holding [v] (truthy v)) := by intro _; rfl) : Te J ow e (tBool f) := by
  obtain ⟨t, p, q⟩ := h
  refine ⟨_, pt_val p he, fun c σ ρ P F H Q hc r w => ?_⟩
  refine q c σ ρ P F H _ hc r (w.bnd.mono (fun d P1 h1 v F1 H1 A x => ?_) fun _ _ h => h)
  cases x.rp with
  | bl b => exact ⟨b, rfl, h1 F1 H1 x.rl x.st⟩
  | _ => exact h1.elim
/-- truth of any datum -/
def truD : D → Option Bool
  | .none => some false
  | .bool b => some b
  | .int i => some (i != 0)
  | .str x => if x.length ≤ 1000000 then some ((x.length : Int) != 0) else none
  | .list xs => some (!xs.isEmpty)
  | .tuple xs => some (!xs.isEmpty)
  | .dict _ => none
def tTru (f : Rho → M D) : Rho → M Bool := fun ρ => bnd (f ρ) fun d => lift (truD d)
theorem isEmpty_rps {F : Hp} {vs : List V} {ds : List D} (r : Rps F vs ds) : vs.isEmpty = ds.isEmpty := by cases r <;> rfl
theorem te_tru {e : Expr} {f : Rho → M D} (h : Se J ow e 0 f) (he : ∀ whole, isTrue e J.X.env whole = (do let v ← whole; standAt e.pos; holding [v] (truthy v)) := by intro _; rfl) : Te J ow e (tTru f) := by
  obtain ⟨t, p, q⟩ := h
  refine ⟨_, pt_truth p he, fun c σ ρ P F H Q hc r w => ?_⟩
  refine q c σ ρ P F H _ hc r (w.bnd.mono (fun d P1 h1 v F1 H1 A x => ?_) fun _ _ h => h)
  obtain ⟨b, e, k⟩ := h1.lift
  refine ⟨b, ?_, k F1 H1 x.rl x.st⟩
  have sub := x.rl.gd.sub
  cases x.rp with
  | non => exact (Option.some.inj e).symm
  | bl b => exact (Option.some.inj e).symm
  | int i => exact (Option.some.inj e).symm
  | str x =>
    simp only [truD] at e
    split at e
    · rename_i hz; exact ⟨line_of hz, (Option.some.inj e).symm⟩
    · cases e
  | lst h r => exact .inl ⟨_, .inl (.inl (sub _ _ h)), by rw [isEmpty_rps r]; exact (Option.some.inj e).symm⟩
  | tup h r => exact .inr (.inl ⟨_, .inl (.inl (sub _ _ h)), by rw [isEmpty_rps r]; exact (Option.some.inj e).symm⟩)
  | dK h r => cases e
  | dT h r => cases e
def tAnd' (f g : Rho → M Bool) : Rho → M Bool := fun ρ => bnd (f ρ) fun b => if b = true then g ρ else ret false
def tOr' (f g : Rho → M Bool) : Rho → M Bool := fun ρ => bnd (f ρ) fun b => if b = true then ret true else g ρ
def tNot' (f : Rho → M Bool) : Rho → M Bool := fun ρ => bnd (f ρ) fun b => ret (!b)
variable {a b : Expr} {rest : List Expr} {pos : Pos} {f g : Rho → M Bool}
theorem tw_and1 (h : Te J ow a f) : Tw J ow (.BoolOp .And [a] pos) f := let ⟨t, p, q⟩ := h; ⟨t, pw_and1 p, q⟩
theorem tw_or1 (h : Te J ow a f) : Tw J ow (.BoolOp .Or [a] pos) f := let ⟨t, p, q⟩ := h; ⟨t, pw_or1 p, q⟩
theorem Tw.te (h : Tw J ow a f) : Te J ow a f := let ⟨t, p, q⟩ := h; ⟨t, p.pt, q⟩
theorem tw_and (h : Te J ow a f) (k : Tw J ow (.BoolOp .And (b :: rest) pos) g) : Tw J ow (.BoolOp .And (a :: b :: rest) pos) (tAnd' f g) := by
  obtain ⟨ta, pa, qa⟩ := h
  obtain ⟨tb, pb, qb⟩ := k
  refine ⟨_, pw_and pa pb, fun c σ ρ P F H Q hc r w => ?_⟩
  refine qa c σ ρ P F H _ hc r (w.bnd.mono (fun b P1 h1 F1 H1 r1 s1 => ?_) fun _ _ h => h)
  cases b with
  | true => exact qb c σ ρ P1 F1 H1 _ hc r1 (Wp.mono h1 (fun b P2 h2 F2 H2 r2 s2 => h2 F2 H2 r2 (s1.trans s2)) fun _ _ h => h)
  | false => exact Wp.ok h1 F1 H1 r1 s1
theorem tw_or (h : Te J ow a f) (k : Tw J ow (.BoolOp .Or (b :: rest) pos) g) : Tw J ow (.BoolOp .Or (a :: b :: rest) pos) (tOr' f g) := by
  obtain ⟨ta, pa, qa⟩ := h
  obtain ⟨tb, pb, qb⟩ := k
  refine ⟨_, pw_or pa pb, fun c σ ρ P F H Q hc r w => ?_⟩
  refine qa c σ ρ P F H _ hc r (w.bnd.mono (fun b P1 h1 F1 H1 r1 s1 => ?_) fun _ _ h => h)
  cases b with
  | false => exact qb c σ ρ P1 F1 H1 _ hc r1 (Wp.mono h1 (fun b P2 h2 F2 H2 r2 s2 => h2 F2 H2 r2 (s1.trans s2)) fun _ _ h => h)
  | true => exact Wp.ok h1 F1 H1 r1 s1
theorem te_not (h : Te J ow a f) : Te J ow (.UnaryOp .Not a pos) (tNot' f) := by
  obtain ⟨ta, pa, qa⟩ := h
  refine ⟨_, pt_not pa, fun c σ ρ P F H Q hc r w => ?_⟩
  exact qa c σ ρ P F H _ hc r (w.bnd.mono (fun b P1 h1 F1 H1 r1 s1 => Wp.ok h1 F1 H1 r1 s1) fun _ _ h => h)
theorem te_cmp {op : CmpOp} {r : R2} {g : D → D → Option D} {f f' : Rho → M D} (ho : OpR J.X (compareOp op) r) (hr : Op2 r 0 g) (ha : Se J ow a 0 f) (hb : Se J ow b 0 f') (hm : behindInMarks op b = false := by first | exact nomark _ | rfl) : Te J ow (.Compare a [op] [b] pos) (tBool (eOp g f f')) := by
  obtain ⟨ta, pa, qa⟩ := ha
  obtain ⟨tb, pb, qb⟩ := hb
  refine ⟨_, pt_cmpR ho pa pb hm, fun c σ ρ P F H Q hc rl w => ?_⟩
  refine op2_run (a := a) (b := b) qa qb hr c σ ρ P F H _ hc rl (w.bnd.mono (fun d P1 h1 v F1 H1 A x => ?_) fun _ _ h => h)
  cases x.rp with
  | bl b => exact ⟨b, rfl, h1 F1 H1 x.rl x.st⟩
  | _ => exact h1.elim
/-! ### and, or, not as values (of tests that are bools) -/
def vAnd (f g : Rho → M D) : Rho → M D := fun ρ => bnd (f ρ) fun d => match d with | .bool true => g ρ | .bool false => ret (.bool false) | _ => stuck
def vOr (f g : Rho → M D) : Rho → M D := fun ρ => bnd (f ρ) fun d => match d with | .bool false => g ρ | .bool true => ret (.bool true) | _ => stuck
def vNot (f : Rho → M D) : Rho → M D := fun ρ => bnd (f ρ) fun d => match d with | .bool b => ret (.bool (!b)) | _ => stuck
variable {u w' : Rho → M D}
theorem se_one {op} (h : Se J ow a 0 u) : Se J ow (.BoolOp op [a] pos) 0 u := let ⟨t, p, q⟩ := h; ⟨t, pe_one p, q⟩
theorem se_and (ha : Se J ow a 0 u) (hb : Se J ow (.BoolOp .And (b :: rest) pos) 0 w') : Se J ow (.BoolOp .And (a :: b :: rest) pos) 0 (vAnd u w') := by
  obtain ⟨ta, pa, qa⟩ := ha
  obtain ⟨tb, pb, qb⟩ := hb
  refine ⟨_, pe_and pa pb, fun c σ ρ P F H Q hc r w => ?_⟩
  refine qa c σ ρ P F H _ hc r (w.bnd.mono (fun d P1 h1 v F1 H1 A x => ?_) fun _ _ h => h)
  cases x.rp with
  | bl b =>
    refine ⟨b, rfl, ?_⟩
    cases b with
    | true => exact qb c σ ρ P1 F1 H1 _ hc x.rl (Wp.mono h1 (fun d P2 h2 v F2 H2 A2 x2 => h2 v F2 H2 A2 (x2.after x.st)) fun _ _ h => h)
    | false => exact Wp.ok h1 _ F1 H1 _ ((x.rl.vp (.bl false)).after x.st)
  | _ => exact h1.elim
theorem se_or (ha : Se J ow a 0 u) (hb : Se J ow (.BoolOp .Or (b :: rest) pos) 0 w') : Se J ow (.BoolOp .Or (a :: b :: rest) pos) 0 (vOr u w') := by
  obtain ⟨ta, pa, qa⟩ := ha
  obtain ⟨tb, pb, qb⟩ := hb
  refine ⟨_, pe_or pa pb, fun c σ ρ P F H Q hc r w => ?_⟩
  refine qa c σ ρ P F H _ hc r (w.bnd.mono (fun d P1 h1 v F1 H1 A x => ?_) fun _ _ h => h)
  cases x.rp with
  | bl b =>
    refine ⟨b, rfl, ?_⟩
    cases b with
    | false => exact qb c σ ρ P1 F1 H1 _ hc x.rl (Wp.mono h1 (fun d P2 h2 v F2 H2 A2 x2 => h2 v F2 H2 A2 (x2.after x.st)) fun _ _ h => h)
    | true => exact Wp.ok h1 _ F1 H1 _ ((x.rl.vp (.bl true)).after x.st)
  | _ => exact h1.elim
theorem se_not (ha : Se J ow a 0 u) : Se J ow (.UnaryOp .Not a pos) 0 (vNot u) := by
  obtain ⟨ta, pa, qa⟩ := ha
  refine ⟨_, pe_not pa, fun c σ ρ P F H Q hc r w => ?_⟩
  refine qa c σ ρ P F H _ hc r (w.bnd.mono (fun d P1 h1 v F1 H1 A x => ?_) fun _ _ h => h)
  cases x.rp with
  | bl b => exact ⟨b, rfl, Wp.ok h1 _ F1 H1 _ ((x.rl.vp (.bl (!b))).after x.st)⟩
  | _ => exact h1.elim
/-- a op b op' c -/
def eChain (g g' : D → D → Option D) (f f' f'' : Rho → M D) : Rho → M D := fun ρ => bnd (f ρ) fun a => bnd (f' ρ) fun b => bnd (lift (g a b)) fun z => match z with
  | .bool true => bnd (f'' ρ) fun c => lift (g' b c)
  | .bool false => ret (.bool false)
  | _ => stuck
theorem chain_run {op op' : CmpOp} {r r' : R2} {g g' : D → D → Option D} {cc : Expr} {f f' f'' : Rho → M D} (hr : Op2 r 0 g) (hr' : Op2 r' 0 g') (ha : Se J ow a 0 f) (hb : Se J ow b 0 f') (hc : Se J ow cc 0 f'') :
    ∃ ta tb tc, PE J.X a ta ∧ PE J.X b tb ∧ PE J.X cc tc ∧ ∀ (c : Ctx) (σ : St) (ρ : Rho) (P : Pool) (F H : Hp) (Q : VK), CxOk J c → Rl c J.ps ow σ ρ P F H →
    Wp (eChain g g' f f' f'' ρ P) (fun d P' => ∀ v F' H' A, Vp c J.ps ow σ ρ F H P' 0 d v F' H' A → Q v H') (ErrE J c ow σ ρ) → tChain r r' ta tb tc σ H Q := by
  obtain ⟨ta, pa, qa⟩ := ha
  obtain ⟨tb, pb, qb⟩ := hb
  obtain ⟨tc, pc, qc⟩ := hc
  refine ⟨ta, tb, tc, pa, pb, pc, fun c σ ρ P F H Q hc rl w => ?_⟩
  refine qa c σ ρ P F H _ hc rl (w.bnd.mono (fun x P1 h1 v F1 H1 A1 x1 => ?_) fun _ _ h => h)
  refine qb c σ ρ P1 F1 H1 _ hc x1.rl (h1.bnd.mono (fun y P2 h2 u F2 H2 A2 x2 => ?_) fun _ _ h => h)
  obtain ⟨z, e, k⟩ := h2.bnd.lift
  refine hr F2 H2 v u x y z _ x2.rl.gd.sub (x1.rp.mono x2.st.fs) x2.rp e fun zz F3 H3 A3 n => ?_
  have x3 := ((x2.rl.nw n).after x2.st).after x1.st
  cases x3.rp with
  | bl kk =>
    refine ⟨kk, rfl, ?_⟩
    cases kk with
    | false => exact Wp.ok k _ _ _ _ x3
    | true =>
      refine qc c σ ρ P2 F3 H3 _ hc x3.rl (Wp.mono (Wp.bnd k) (fun cd P4 h4 ww F4 H4 A4 x4 => ?_) fun _ _ h => h)
      obtain ⟨d, e', q⟩ := h4.lift
      exact hr' F4 H4 u ww y cd d _ x4.rl.gd.sub ((x2.rp.mono n.fs).mono x4.st.fs) x4.rp e' fun zz F5 H5 A5 n5 => q _ _ _ _ (((x4.rl.nw n5).after x4.st).after x3.st)
  | _ => exact k.elim
theorem se_chain {op op' : CmpOp} {r r' : R2} {g g' : D → D → Option D} {cc : Expr} {f f' f'' : Rho → M D} (ho : OpR J.X (compareOp op) r) (ho' : OpR J.X (compareOp op') r') (hr : Op2 r 0 g) (hr' : Op2 r' 0 g') (ha : Se J ow a 0 f) (hb : Se J ow b 0 f') (hc : Se J ow cc 0 f'')
    (hm : lastMarks [op, op'] [b, cc] = false := by with_unfolding_all rfl) : Se J ow (.Compare a [op, op'] [b, cc] pos) 0 (eChain g g' f f' f'') := by
  obtain ⟨ta, tb, tc, pa, pb, pc, q⟩ := chain_run (op := op) (op' := op') hr hr' ha hb hc
  exact ⟨_, pe_chain ho ho' pa pb pc hm, q⟩
theorem te_chain {op op' : CmpOp} {r r' : R2} {g g' : D → D → Option D} {cc : Expr} {f f' f'' : Rho → M D} (ho : OpR J.X (compareOp op) r) (ho' : OpR J.X (compareOp op') r') (hr : Op2 r 0 g) (hr' : Op2 r' 0 g') (ha : Se J ow a 0 f) (hb : Se J ow b 0 f') (hc : Se J ow cc 0 f'')
    (hm : lastMarks [op, op'] [b, cc] = false := by with_unfolding_all rfl) : Te J ow (.Compare a [op, op'] [b, cc] pos) (tBool (eChain g g' f f' f'')) := by
  obtain ⟨ta, tb, tc, pa, pb, pc, q⟩ := chain_run (op := op) (op' := op') hr hr' ha hb hc
  refine ⟨_, pt_chain ho ho' pa pb pc hm, fun c σ ρ P F H Q hc rl w => ?_⟩
  refine q c σ ρ P F H _ hc rl (w.bnd.mono (fun d P1 h1 v F1 H1 A x => ?_) fun _ _ h => h)
  cases x.rp with
  | bl b => exact ⟨b, rfl, h1 F1 H1 x.rl x.st⟩
  | _ => exact h1.elim
/-- a if t else b -/
def eIf (t : Rho → M Bool) (f g : Rho → M D) : Rho → M D := fun ρ => bnd (t ρ) fun b => if b = true then f ρ else g ρ
theorem se_if {cc : Expr} {f' g' : Rho → M D} (hc : Te J ow cc f) (ha : Se J ow a 0 f') (hb : Se J ow b 0 g') : Se J ow (.IfExp cc a b pos) 0 (eIf f f' g') := by
  obtain ⟨tc, pc, qc⟩ := hc
  obtain ⟨ta, pa, qa⟩ := ha
  obtain ⟨tb, pb, qb⟩ := hb
  refine ⟨_, pe_ifExp pc pa pb, fun c σ ρ P F H Q hc rl w => ?_⟩
  refine qc c σ ρ P F H _ hc rl (w.bnd.mono (fun b P1 h1 F1 H1 r1 s1 => ?_) fun _ _ h => h)
  cases b with
  | true => exact qa c σ ρ P1 F1 H1 _ hc r1 (Wp.mono h1 (fun d P2 h2 v F2 H2 A2 x2 => h2 v F2 H2 A2 (x2.after s1)) fun _ _ h => h)
  | false => exact qb c σ ρ P1 F1 H1 _ hc r1 (Wp.mono h1 (fun d P2 h2 v F2 H2 A2 x2 => h2 v F2 H2 A2 (x2.after s1)) fun _ _ h => h)

/-! ### a call of a def -/
/-- a def that is not handed the pool leaves it -/
def noP {α : Type} (m : M α) : M α := fun p => match m p with
  | none => none
  | some (r, _) => some (r, p)
theorem Wp.noP {α : Type} {m : M α} {p : Pool} {q : α → Pool → Prop} {e : Exn → Pool → Prop} (h : Wp (noP m p) q e) : Wp (m p) (fun a _ => q a p) (fun x _ => e x p) := by
  unfold DL.noP at h
  cases z : m p with
  | none => rw [z] at h; exact h
  | some r =>
    obtain ⟨r, p'⟩ := r
    rw [z] at h
    cases r with
    | ok a => exact h
    | error x => exact h
def eCall (fn : List D → M D) (g : Rho → M (List D)) : Rho → M D := fun ρ => bnd (g ρ) fun ds => noP (fn ds)
def eCallP (fn : List D → M D) (g : Rho → M (List D)) : Rho → M D := fun ρ => bnd (g ρ) fn
theorem Wp.len {α β : Type} {m : M α} {p : Pool} {q : α → Pool → Prop} {e : Exn → Pool → Prop} {C : α → Prop} (h : Wp (m p) q e) (l : ∀ a p', m p = some (.ok a, p') → C a) : Wp (m p) (fun a p' => C a ∧ q a p') e := by
  revert l h
  cases m p with
  | none => exact fun h _ => h
  | some r =>
    obtain ⟨r, p'⟩ := r
    cases r with
    | ok a => exact fun h l => ⟨l a p' rfl, h⟩
    | error x => exact fun h _ => h
/-- what a callee leaves, seen from the caller -/
theorem Rl.called {c : Ctx} {ps : Pls} {σ : St} {ρ : Rho} {P P1 P' : Pool} {F H F' H' : Hp} {pa : Option (Addr × Addr)} (r : Rl c ps ow σ ρ P F H) (hpa : (pa = c.pa ∧ P1 = P') ∨ (pa = none ∧ P' = P))
    (g : Gd ⟨H, F, pa, c.cl, none⟩ P1 F' H') : Rl c ps ow σ ρ P' F' H' ∧ Stp c F H F' H' := by
  have pool : PoolAt c.pa P' F' H' := by
    rcases hpa with ⟨e, e2⟩ | ⟨e, e2⟩
    · subst e; subst e2; exact g.pool
    · subst e; subst e2
      intro p q e
      obtain ⟨h0, h1, h2, h3, h4⟩ := r.gd.pool p q e
      refine ⟨h0, g.kp _ _ h1 (fun _ _ z => nomatch z), g.kp _ _ h2 (fun _ _ z => nomatch z), ?_, ?_⟩
      · cases z : F' p with
        | none => rfl
        | some o => rcases g.gr _ _ z with y | y
                    · exact absurd (y.symm.trans h3) (by simp)
                    · exact absurd (y.symm.trans h1) (by simp)
      · cases z : F' q with
        | none => rfl
        | some o => rcases g.gr _ _ z with y | y
                    · exact absurd (y.symm.trans h4) (by simp)
                    · exact absurd (y.symm.trans h2) (by simp)
  have s : Stp c F H F' H' := ⟨g.f0, g.gr, fun a o h n => g.kp a o h (by
    rcases hpa with ⟨e, _⟩ | ⟨e, _⟩
    · subst e; exact n
    · subst e; exact fun _ _ z => nomatch z), g.dm⟩
  exact ⟨r.grow s g.sub pool, s⟩
theorem se_call {x : Str} {p : Pos} {e : Expr} {es : List Expr} {k n j : Nat} {fa : Addr} {fd : FuncData} {prs : List Str} {fn : List D → M D} {g : Rho → M (List D)} (O : Ok J) (G : FnG J.X.prog J.X.w J.X.K J.X.mg J.X.base j fa fd prs (spD J.cl false n k fn)) (hr : Room j J.X.A) (hm : J.X.mg x = some (.ref fa))
    (hk : PySem.W.keepIn J.X.K (.ref fa) = true) (hb : Binds J.X.K fd prs []) (ha : Sa J ow (e :: es) g) (hn : (e :: es).length = n := by rfl) (hg : Gl J.X x := by rfl) (hdb : (x == ("__debug__" : Str)) = false := by decide)
    (he : starEach (e :: es) J.X.env = (false, eval e J.X.env) :: starEach es J.X.env := by rfl) (hpl : (backTo pos (starEach es J.X.env)).any (·.1) = false := by rfl) : Se J ow (.Call (.Name x p) (e :: es) [] pos) k (eCall fn g) := by
  obtain ⟨ta, pa, la, qa⟩ := ha
  refine ⟨_, pe_callG G O.g hr hg hm hk hb O.tk pa hdb he hpl, fun c σ ρ P F H Q hc rl w => ?_⟩
  have both := Wp.len (C := fun ds : List D => ds.length = n) (β := Unit) w.bnd fun ds P' z => (la ρ P ds P' z).trans hn
  refine qa c σ ρ P F H _ hc rl (both.mono (fun ds P1 ⟨hn1, h1⟩ vs F1 H1 r1 s1 rp => ?_) fun _ _ h => h)
  refine ⟨F1, none, P1, ds, vs, rfl, rp.length.trans hn1, rp, r1.gd.sub, (fun _ _ z => by cases z), ?_⟩
  refine h1.noP.mono (fun d P2 q v H2 x => ?_) fun x P2 q cls dd F2 H2 g ea => ?_
  · obtain ⟨F2, A, g, o, nd, fr⟩ := x.ex
    rw [← hc.eq] at g
    obtain ⟨r2, s2⟩ := r1.called (.inr ⟨rfl, rfl⟩) g
    exact q v F2 H2 A ⟨r2, s1.trans s2, o, nd, fun a ha => ⟨(fr a ha).1, s1.dm a (fr a ha).2.1⟩⟩
  · rw [← hc.eq] at g
    obtain ⟨r2, s2⟩ := r1.called (.inr ⟨rfl, rfl⟩) g
    exact q cls dd F2 H2 r2 ea
/-- f(pool, ..) -/
theorem se_callP {x y : Str} {p pp : Pos} {es : List Expr} {k n j i : Nat} {fa : Addr} {fd : FuncData} {prs : List Str} {fn : List D → M D} {g : Rho → M (List D)} (O : Ok J) (hps : J.ps.1 = some i) (G : FnG J.X.prog J.X.w J.X.K J.X.mg J.X.base j fa fd prs (spD J.cl true n k fn)) (hr : Room j J.X.A) (hm : J.X.mg x = some (.ref fa))
    (hk : PySem.W.keepIn J.X.K (.ref fa) = true) (hb : Binds J.X.K fd prs []) (ha : Sa J ow es g) (hn : es.length = n := by rfl) (hN : J.X.N[i]? = some y := by rfl) (hv : Vis J.X.env.scope y := by first | exact Or.inl rfl | exact Or.inr (Or.inl rfl) | exact Or.inr (Or.inr rfl)) (hdy : (y == ("__debug__" : Str)) = false := by decide)
    (hcd : (y == ("__classdict__" : Str)) = false := by decide) (hg : Gl J.X x := by rfl) (hdb : (x == ("__debug__" : Str)) = false := by decide)
    (he : starEach (.Name y pp :: es) J.X.env = (false, eval (.Name y pp) J.X.env) :: starEach es J.X.env := by rfl) (hpl : (backTo pos (starEach es J.X.env)).any (·.1) = false := by rfl) : Se J ow (.Call (.Name x p) (.Name y pp :: es) [] pos) k (eCallP fn g) := by
  obtain ⟨ta, pa, la, qa⟩ := ha
  refine ⟨_, pe_callG G O.g hr hg hm hk hb O.tk (pa_cons (pe_var hN hv hdy hcd) pa he) hdb he hpl, fun c σ ρ P F H Q hc rl w => ?_⟩
  obtain ⟨ap, ar, epa, hσ⟩ := rl.psl i hps
  have both := Wp.len (C := fun ds : List D => ds.length = n) (β := Unit) w.bnd fun ds P' z => (la ρ P ds P' z).trans hn
  refine ⟨_, hσ, ?_⟩
  refine qa c σ ρ P F H _ hc rl (both.mono (fun ds P1 ⟨hn1, h1⟩ vs F1 H1 r1 s1 rp => ?_) fun _ _ h => h)
  refine ⟨F1, some (ap, ar), P1, ds, vs, rfl, rp.length.trans hn1, rp, r1.gd.sub, epa ▸ r1.gd.pool, ?_⟩
  refine h1.mono (fun d P2 q v H2 x => ?_) fun x P2 q cls dd F2 H2 g ea => ?_
  · obtain ⟨F2, A, g, o, nd, fr⟩ := x.ex
    rw [← hc.eq] at g
    obtain ⟨r2, s2⟩ := r1.called (.inl ⟨epa.symm, rfl⟩) g
    exact q v F2 H2 A ⟨r2, s1.trans s2, o, nd, fun a ha => ⟨(fr a ha).1, s1.dm a (fr a ha).2.1⟩⟩
  · rw [← hc.eq] at g
    obtain ⟨r2, s2⟩ := r1.called (.inl ⟨epa.symm, rfl⟩) g
    exact q cls dd F2 H2 r2 ea
end
end DL

end
section
set_option Elab.async false
set_option linter.all false
set_option maxRecDepth 100000
set_option maxHeartbeats 2000000
namespace PySem
namespace DLE
open Builtin
abbrev enumObj (it : Addr) : Obj := { cls := .type "enumerate", data := .fields #[.none, .bool false, .ref it, rawInt 0, .none, .none] }
theorem meetsEnum {v : Value} {o : Obj} {G : Heap → Prop} (B : Begins v o G) :
    Meets (Builtin.«enumerate.__new__» ⟨[.type "enumerate", v], []⟩) (fun _ R s => G s.heap ∧ R (.ok (.ret (.ref (s.heap.push o).objs.size))) { s with heap := (s.heap.push o).push (enumObj s.heap.objs.size) }) :=
  .of_wp fun prog w A R s hh => by
    obtain ⟨h0, gs, dr, tks, oss⟩ := s
    obtain ⟨g1, hr⟩ := hh
    have subE := sub_enumerate
    have goes : ∀ {A' : Around} {E : Value → Shared → Prop} {Q : Value → Shared → Prop}, Q (.ref h0.objs.size) ⟨h0.push o, gs, dr, tks, oss⟩ → wpAny (model prog w) A' (pyIter v) Q E ⟨h0, gs, dr, tks, oss⟩ := fun q => B.iter prog w _ _ _ _ g1 q
    wp_walk using goes
    refine wpAny_stack_any fun st => wpAny_pure ?_
    split
    · rename_i c _ _ _ _ _
      cases (c == Value.type "enumerate") <;> (wp_walk using goes; exact ⟨_, rfl, hr⟩)
    · wp_walk using goes
      exact ⟨_, rfl, hr⟩
section
variable {prog : Program} {w : World} {A : Around} {E : Value → Shared → Prop} {s : Shared}
theorem call_enum1 {v : Value} {o : Obj} {G : Heap → Prop} {Q : Value → Shared → Prop} (B : Begins v o G) (g1 : G s.heap)
    (k : ∀ h', IsEnum h' (s.heap.objs.size + 1) s.heap.objs.size 0 .none → h'.get? s.heap.objs.size = some o → h'.objs.size = s.heap.objs.size + 2 → (∀ b u, s.heap.get? b = some u → h'.get? b = some u) → Q (.ref (s.heap.objs.size + 1)) { s with heap := h' }) :
    wpAny (model prog w) A (call (.type "enumerate") [v]) Q E s := by
  refine callType_new F.called_enumerate (by decide) (F.typeCall_enumerate_1 _) (F.newCall_enumerate_1 _) (fun obj => F.args_object_init_2 obj _) F.entry_enumerate_new (meetsEnum B) ⟨g1, ?_⟩
  have sz : (s.heap.push o).objs.size = s.heap.objs.size + 1 := Heap.size_push ..
  show _ ∧ _
  rw [sz]
  have isE : IsEnum ((s.heap.push o).push (enumObj s.heap.objs.size)) (s.heap.objs.size + 1) s.heap.objs.size 0 .none := by
    have z := Heap.get?_push_size (s.heap.push o) (o := enumObj s.heap.objs.size) rfl
    rw [sz] at z
    exact z
  exact ⟨⟨_, isE, rfl⟩, k _ isE (Heap.get?_push_of_some _ (Heap.get?_push_size _ B.free)) (by rw [Heap.size_push, sz]) fun b u x => Heap.get?_push_of_some _ (Heap.get?_push_of_some _ x)⟩
end
end DLE
end PySem
namespace DL
open PySem PySem.Spec L2
/-- enumerate of a tuple -/
def Iet (K : PySem.W.Frag) (a : Addr) : It :=
  ⟨fun i H => ∃ (xs : List V) (x : V), SqT K H a xs ∧ xs[i]? = some x, fun i H v H' => ∃ T x, v = .ref T ∧ H T = none ∧ H' = upd H T (.tup [.int (i : Nat), x]) ∧ ∀ ys, SqT K H a ys → ys[i]? = some x, fun i H => ∃ xs : List V, SqT K H a xs ∧ xs.length ≤ i⟩
theorem turn_enumT {P : Program} {w : World} {K : PySem.W.Frag} {elts : List Expr} {kk : Nat} {tpos : Pos} (a en it : Addr) :
    Turn P w K (.Tuple elts kk tpos) (Iet K a) [en, it] en (fun i h => (∃ old, IsEnum h en it ((i : Nat) : Int) old) ∧ h.IsTupleIter it a i ∧ en ≠ it ∧ a ≠ it) where
  mem := List.mem_cons_self
  obj := by
    rintro i h ⟨⟨old, he⟩, ⟨o, ho, hc, hd⟩, _⟩ b hb
    rcases (by simpa using hb : b = en ∨ b = it) with rfl | rfl
    · exact ⟨_, he, fun v q => nomatch q⟩
    · exact ⟨o, ho, fun v q => by rw [hd] at q; cases q⟩
  keep := fun i h h' ⟨⟨old, he⟩, hi, hne, hn2⟩ k => ⟨⟨old, k en (by simp) _ he⟩, hi.at fun o q => k it (by simp) o q, hne, hn2⟩
  item := by
    intro X hP hw hK hc i pins s σ H E I hf st hg
    subst hP hw hK
    obtain ⟨⟨old, he⟩, hit, hne, hn2⟩ := st
    obtain ⟨xs, x, hq, hx⟩ := hg
    obtain ⟨its, rv, p, hz⟩ := I.tuple hq
    obtain ⟨u0, hu0, ru0⟩ := rv.get hx
    have lt1 : en < s.heap.objs.size := Heap.lt_size he
    have lt2 : it < s.heap.objs.size := by obtain ⟨_, q, _⟩ := hit; exact Heap.lt_size q
    have isT : s.heap.IsTuple a its.toArray := p
    by_cases hea : en = a
    · exfalso
      obtain ⟨o, ho, c1, _⟩ := p
      rw [hea] at he
      have z := congrArg (fun q => q.map (·.cls)) (he.symm.trans ho)
      simp [c1] at z
    refine wpAny_pyNext_enum_itemD (Draws.tuple (show X.A.in1.handled = none from I.ok.hd hc) it a hn2 its.toArray) he ⟨hit, isT⟩ (i := i) (by simpa using (List.getElem?_eq_some_iff.mp hu0).1) hne (by simp [hne, hea]) fun u h' tk hu ho st' hT hsz hk => ?_
    have eu : u = u0 := by
      have z : its[i]? = some u := by simpa using hu
      rw [hu0] at z; cases z; rfl
    subst eu
    refine ⟨_, rfl, wpAny_letOwnedTupleGo_enum (s := { s with heap := h', toks := tk + 1 }) ho fun h'' he' sb => ?_⟩
    have hT2 : h''.get? s.heap.objs.size = some { cls := .type "tuple", data := .seq #[.int i tk, u] } := (sb.2 _ (Nat.ne_of_gt lt1)).trans hT
    have new : ObjOk X.prog X.w (upd H s.heap.objs.size (.tup [.int (i : Nat), x])) h'' s.heap.objs.size (.tup [.int (i : Nat), x]) :=
      ⟨by show 2 ≤ sizeLine; decide, [.int i tk, u], .cons ⟨_, rfl⟩ (.cons ru0 .nil), ⟨_, hT2, rfl, _, rfl⟩⟩
    have I1 : Inv X pins σ (upd H s.heap.objs.size (.tup [.int (i : Nat), x])) { s with heap := h'', toks := tk + 1 } :=
      I.turnedNew (ch := [en, it]) (fun b ob hb q => (sb.2 b (fun z => hb (by simp [z]))).trans (hk b ob (fun z => hb (by simp [z])) (fun z => hb (by simp [z])) q)) hf (Nat.le_refl _) new
    refine ⟨.ref s.heap.objs.size, _, I1, rfl, ⟨_, x, rfl, I.hok.fresh (Nat.le_refl _), rfl, fun ys hy => by rw [I.tuple_inj hy hq]; exact hx⟩, ⟨⟨u, ?_⟩, st'.1.at fun o q => (sb.2 it (Ne.symm hne)).trans q, hne, hn2⟩, fun b hb => ?_⟩
    · rw [show ((i + 1 : Nat) : Int) = (i : Int) + 1 by omega]; exact he'
    · rw [upd_ne (Nat.ne_of_lt (by rcases (by simpa using hb : b = en ∨ b = it) with rfl | rfl <;> assumption))]
      exact (hf b hb).1
  done := by
    intro X hP hw hK hc i pins s σ H E I hf st hg
    subst hP hw hK
    obtain ⟨⟨old, he⟩, hit, hne, hn2⟩ := st
    obtain ⟨xs, hq, hx⟩ := hg
    obtain ⟨its, rv, p, hz⟩ := I.tuple hq
    obtain ⟨f0, f1, f2, f3, f4, f5⟩ := hf it (by simp)
    have isT : s.heap.IsTuple a its.toArray := p
    have hT : s.TypeIs (.ref en) "enumerate" := ⟨_, he, rfl⟩
    have hnone : its.toArray[i]? = none := by
      rw [List.getElem?_toArray]
      exact List.getElem?_eq_none_iff.mpr (by rw [← rv.length]; exact hx)
    unfold pyNext
    refine wpAny_bind (wpAny_attempt (wpAny_callSpecial?_slot (name := Str.ofString "__next__") hT F.slot_enumerate_next (wpAny_call_entry F.slot_enumerate_next hT F.entry_enumerate_next ?_ (F.args_enumerate_next_1 _))))
    show wpAny _ _ (field (.ref en) 2 >>= _) _ _ _
    refine wpAny_bind (wpAny_field he rfl (x := .ref it) rfl (wpAny_bind (wpAny_nextOf_tuple_end (show X.A.in1.handled = none from I.ok.hd hc) hit isT hnone fun h' x he' hx' => ?_)))
    obtain ⟨o, ho, hcl⟩ := hx'
    refine wpAny_bind (wpAny_isInstance (T := "StopIteration") (b := true) ⟨o, ho, hcl⟩ isSubtype_stop (wpAny_pure ?_))
    exact ⟨rfl, I.turned (t' := s.toks) (fun b o hb q => he' b o hb q) f0 f1 f3 f4 f5⟩
  self := fun A i s Q E ⟨⟨_, he⟩, _⟩ h => wpAny_pyIter_enum he h
/-- enumerate of a list or a tuple -/
def iEnumA (K : PySem.W.Frag) (ta : TA) : TI := fun σ H R => ta σ H fun vs H1 => ∃ a xs, vs = [.ref a] ∧ ((SqL K H1 a xs ∧ R (Ite K a) H1) ∨ (SqT K H1 a xs ∧ R (Iet K a) H1))
theorem pi_enumA {X : Cx} {e : Expr} {ta : TA} {p pos tpos : Pos} {elts : List Expr} {kk : Nat} (hg : Gl X "enumerate") (hm : X.mg "enumerate" = none) (ha : PA X [e] ta) (hs : starEach [e] X.env = [(false, eval e X.env)] := by rfl) :
    PI X (.Tuple elts kk tpos) (.Call (.Name "enumerate" p) [e] [] pos) (iEnumA X.K ta) := by
  refine ⟨fun pins s σ H R I h => PyProof.Rows.Call_ (ld_blt I hg hm PyProof.Rows.boot_enumerate (PyProof.Rows.callWith_type1 (thn (ha.run pos pins s σ H _ I h) fun us s1 ⟨vs, H1, I1, r1, a, xs, ex, q⟩ => ?_) hs rfl))⟩
  subst ex
  cases r1 with
  | cons r rr =>
    cases rr
    cases r
    have fp : ∀ b ∈ [s1.heap.objs.size + 1, s1.heap.objs.size], FpOk X pins H1 b := fun b hb => by
      have le : s1.heap.objs.size ≤ b := by
        rcases (by simpa using hb : b = s1.heap.objs.size + 1 ∨ b = s1.heap.objs.size) with z | z <;> rw [z]
        · exact Nat.le_succ _
        · exact Nat.le_refl _
      exact I1.fpOk le (I1.hok.fresh le)
    rcases q with ⟨hq, q⟩ | ⟨hq, q⟩
    · obtain ⟨its, rv, p', hz⟩ := I1.list hq
      refine call_enumerate_list p'.isList fun h' he hit hsz hk => wpAny_pyIter_enum he ?_
      exact ⟨_, _, _, _, H1, rfl, I1.kept (t' := s1.toks) hk, turn_enum a _ s1.heap.objs.size, ⟨⟨.none, he⟩, hit, Nat.succ_ne_self _⟩, fp, q⟩
    · obtain ⟨its, rv, p', hz⟩ := I1.tuple hq
      have isT : s1.heap.IsTuple a its.toArray := p'
      have la : a < s1.heap.objs.size := by obtain ⟨o, ho, _⟩ := p'; exact Heap.lt_size ho
      refine DLE.call_enum1 (begins_tuple a its.toArray) isT fun h' he hit hsz hk => wpAny_pyIter_enum he ?_
      exact ⟨_, _, _, _, H1, rfl, I1.kept (t' := s1.toks) hk, turn_enumT a _ s1.heap.objs.size, ⟨⟨.none, he⟩, ⟨_, hit, rfl, rfl⟩, Nat.succ_ne_self _, Nat.ne_of_lt la⟩, fp, q⟩
/-- a list or a tuple, walked -/
def iSeqA (K : PySem.W.Frag) (tl : TE) : TI := fun σ H R => tl σ H fun x H1 => ∃ a xs, x = .ref a ∧ ((SqL K H1 a xs ∧ R (Itl K a) H1) ∨ (SqT K H1 a xs ∧ R (Itt K a) H1))
theorem pi_seqA {X : Cx} {tg l : Expr} {tl : TE} (hl : PE X l tl) : PI X tg l (iSeqA X.K tl) := by
  refine ⟨fun pins s σ H R I h => thn (hl.run pins s σ H _ I h) fun v s1 ⟨x, H1, I1, r1, a, xs, e, q⟩ => ?_⟩
  subst e
  cases r1
  have fp : ∀ b ∈ [s1.heap.objs.size], FpOk X pins H1 b := fun b hb => by
    rw [List.mem_singleton.mp hb]
    exact I1.fpOk (Nat.le_refl _) (I1.hok.fresh (Nat.le_refl _))
  rcases q with ⟨hq, q⟩ | ⟨hq, q⟩
  · obtain ⟨its, rv, p, hz⟩ := I1.list hq
    exact wpAny_pyIter_list p.isList ⟨_, _, _, _, H1, rfl, I1.kept (t' := s1.toks) fun b o e => Heap.get?_push_of_some _ e, turn_list a _, ⟨_, Heap.get?_push_size _ rfl, rfl, rfl⟩, fp, q⟩
  · obtain ⟨its, rv, p, hz⟩ := I1.tuple hq
    exact wpAny_pyIter_tuple (show s1.heap.IsTuple a its.toArray from p) ⟨_, _, _, _, H1, rfl, I1.kept (t' := s1.toks) fun b o e => Heap.get?_push_of_some _ e, turn_tuple a _, ⟨_, Heap.get?_push_size _ rfl, rfl, rfl⟩, fp, q⟩
end DL

end
section
set_option Elab.async false
set_option linter.all false
set_option maxRecDepth 100000
set_option maxHeartbeats 2000000
namespace DL
open PySem PySem.Spec L2

/-- what an iterator yields, as data -/
def ItD (F : Hp) (I : It) (ds : List D) : Prop := ∀ F' H', Same F F' → Same F' H' → ∀ i, (ds.length ≤ i → I.stop i H') ∧ ∀ d, ds[i]? = some d → I.go i H' ∧ ∀ v H2, I.yld i H' v H2 → ∃ F2, Nw F' H' 0 d v F2 H2 []
def Si (J : Jd) (ow : Owns) (tg iter : Expr) (f : Rho → M (List D)) : Prop :=
  ∃ wi, PI J.X tg iter wi ∧ ∀ (c : Ctx) (σ : St) (ρ : Rho) (P : Pool) (F H : Hp) (R : It → Hp → Prop), CxOk J c → Rl c J.ps ow σ ρ P F H →
    Wp (f ρ P) (fun ds P' => ∀ I F' H', Rl c J.ps ow σ ρ P' F' H' → Stp c F H F' H' → ItD F' I ds → R I H') (ErrE J c ow σ ρ) → wi σ H R
/-- .. while the objects that stood stay (a comprehension's) -/
def ItC (c : Ctx) (F H : Hp) (I : It) (ds : List D) : Prop := ∀ F' H', Same F F' → Same F' H' → (∀ a o, H a = some o → NP c a → H' a = some o) → ∀ i, (ds.length ≤ i → I.stop i H') ∧ ∀ d, ds[i]? = some d → I.go i H' ∧ ∀ v H2, I.yld i H' v H2 → ∃ F2, Nw F' H' 0 d v F2 H2 []
def SiC (J : Jd) (ow : Owns) (tg iter : Expr) (f : Rho → M (List D)) : Prop :=
  ∃ wi, PI J.X tg iter wi ∧ ∀ (c : Ctx) (σ : St) (ρ : Rho) (P : Pool) (F H : Hp) (R : It → Hp → Prop), CxOk J c → Rl c J.ps ow σ ρ P F H →
    Wp (f ρ P) (fun ds P' => ∀ I F' H', Rl c J.ps ow σ ρ P' F' H' → Stp c F H F' H' → ItC c F' H' I ds → R I H') (ErrE J c ow σ ρ) → wi σ H R
theorem Si.c {J : Jd} {ow : Owns} {tg iter : Expr} {f : Rho → M (List D)} (h : Si J ow tg iter f) : SiC J ow tg iter f :=
  let ⟨wi, p, q⟩ := h
  ⟨wi, p, fun c σ ρ P F H R hc r w => q c σ ρ P F H R hc r (w.mono (fun _ _ k I F' H' r s i => k I F' H' r s fun F2 H2 a b _ => i F2 H2 a b) fun _ _ h => h)⟩
/-- outside of ts alike -/
def Out (ts : List Nat) (σ σ' : St) : Prop := σ'.length = σ.length ∧ ∀ i, i ∉ ts → σ'[i]? = σ[i]?
theorem Out.refl (ts : List Nat) (σ : St) : Out ts σ σ := ⟨rfl, fun _ _ => rfl⟩
theorem Out.trans {ts : List Nat} {a b c : St} (h : Out ts a b) (k : Out ts b c) : Out ts a c := ⟨k.1.trans h.1, fun i hi => (k.2 i hi).trans (h.2 i hi)⟩
theorem Out.mono {ts us : List Nat} {a b : St} (h : Out ts a b) (k : ∀ i ∈ ts, i ∈ us) : Out us a b := ⟨h.1, fun i hi => h.2 i fun z => hi (k i z)⟩
def Gt (J : Jd) (ow : Owns) (tg : Expr) (ts : List Nat) (g : D → Rho → Option Rho) : Prop :=
  ∃ t, PG J.X tg t ∧ ∀ (c : Ctx) (σ : St) (ρ ρ' : Rho) (P : Pool) (F H : Hp) (v : V) (d : D) (Q : St → Hp → Prop), Rl c J.ps ow σ ρ P F H → Rp F v d → g d ρ = some ρ' →
    (∀ σ', Out ts σ σ' → Rl c J.ps ow σ' ρ' P F H → Q σ' H) → t v σ H Q

section
variable {J : Jd} {ow : Owns}
/-! ### iterables -/
def seqD : D → Option (List D)
  | .list xs => some xs
  | .tuple xs => some xs
  | _ => none
def iSeq (f : Rho → M D) : Rho → M (List D) := fun ρ => bnd (f ρ) fun d => lift (seqD d)
theorem SqL.inj {K : PySem.W.Frag} {H : Hp} {a : Addr} {xs ys : List V} (h : H a = some (.lst xs)) (q : SqL K H a ys) (hk : K.lookup a = none) : ys = xs := by
  rcases q with (q | ⟨o, q⟩) | ⟨_, _, _, q, _⟩
  · rw [h] at q; cases q; rfl
  · rw [h] at q; cases q
  · rw [hk] at q; cases q
theorem itd_list {K : PySem.W.Frag} {F : Hp} {a : Addr} {xs : List V} {ds : List D} (h : F a = some (.lst xs)) (r : Rps F xs ds) : ItD F (Itl K a) ds := fun F' H' s1 s2 i => by
  have e : SqL K H' a xs := .inl (.inl (s2 _ _ (s1 _ _ h)))
  refine ⟨fun hi => ⟨xs, e, by rw [r.length]; exact hi⟩, fun d hd => ?_⟩
  obtain ⟨v, hv, rp⟩ := r.get' hd
  refine ⟨⟨xs, v, e, hv⟩, fun u H2 hy => ?_⟩
  obtain ⟨rfl, hu⟩ := hy
  have q := hu xs e
  rw [hv] at q
  cases q
  exact ⟨F', Nw.same s2 (rp.mono s1)⟩
theorem itd_tup {K : PySem.W.Frag} {F : Hp} {a : Addr} {xs : List V} {ds : List D} (h : F a = some (.tup xs)) (r : Rps F xs ds) : ItD F (Itt K a) ds := fun F' H' s1 s2 i => by
  have e : SqT K H' a xs := .inl (.inl (s2 _ _ (s1 _ _ h)))
  refine ⟨fun hi => ⟨xs, e, by rw [r.length]; exact hi⟩, fun d hd => ?_⟩
  obtain ⟨v, hv, rp⟩ := r.get' hd
  refine ⟨⟨xs, v, e, hv⟩, fun u H2 hy => ?_⟩
  obtain ⟨rfl, hu⟩ := hy
  have q := hu xs e
  rw [hv] at q
  cases q
  exact ⟨F', Nw.same s2 (rp.mono s1)⟩
theorem si_seq {tg e : Expr} {f : Rho → M D} (h : Se J ow e 0 f) : Si J ow tg e (iSeq f) := by
  obtain ⟨t, p, q⟩ := h
  refine ⟨_, pi_seqA p, fun c σ ρ P F H R hc r w => ?_⟩
  refine q c σ ρ P F H _ hc r (w.bnd.mono (fun d P1 h1 v F1 H1 A x => ?_) fun _ _ h => h)
  obtain ⟨ds, e, k⟩ := h1.lift
  cases x.rp with
  | lst h r => cases e; exact ⟨_, _, rfl, .inl ⟨.inl (.inl (x.rl.gd.sub _ _ h)), k _ F1 H1 x.rl x.st (itd_list h r)⟩⟩
  | tup h r => cases e; exact ⟨_, _, rfl, .inr ⟨.inl (.inl (x.rl.gd.sub _ _ h)), k _ F1 H1 x.rl x.st (itd_tup h r)⟩⟩
  | _ => cases e
def intsD (lo : Int) (n : Nat) : List D := (List.range n).map fun (i : Nat) => .int (lo + (i : Int))
theorem intsD_get (lo : Int) (n i : Nat) : (intsD lo n)[i]? = if i < n then some (.int (lo + (i : Int))) else none := by
  unfold intsD
  rw [List.getElem?_map]
  by_cases h : i < n
  · rw [List.getElem?_range h, if_pos h]; rfl
  · rw [List.getElem?_eq_none (by simpa using h), if_neg h]; rfl
theorem intsD_length (lo : Int) (n : Nat) : (intsD lo n).length = n := by simp [intsD]
theorem itd_range {F : Hp} {lo : Int} {n : Nat} : ItD F (Itr lo n) (intsD lo n) := fun F' H' s1 s2 i => by
  refine ⟨fun hi => by rw [intsD_length] at hi; exact hi, fun d hd => ?_⟩
  rw [intsD_get] at hd
  by_cases h : i < n
  · rw [if_pos h] at hd; cases hd
    exact ⟨h, fun v H2 hy => by obtain ⟨rfl, rfl⟩ := hy; exact ⟨F', Nw.same s2 (.int _)⟩⟩
  · rw [if_neg h] at hd; cases hd
def okR (i : Int) : Bool := decide (-1000000 ≤ i) && decide (i ≤ 1000000)
theorem okR.b {i : Int} (h : okR i = true) : -(2 ^ 62) ≤ i ∧ i < 2 ^ 62 := by
  simp only [okR, Bool.and_eq_true, decide_eq_true_eq] at h
  omega
def rngD : List D → Option (List D)
  | [.int j] => if okR j = true then some (intsD 0 j.toNat) else none
  | [.int i, .int j] => if okR i = true ∧ okR j = true then some (intsD i (j - i).toNat) else none
  | _ => none
def iRng (f : Rho → M (List D)) : Rho → M (List D) := fun ρ => bnd (f ρ) fun ds => lift (rngD ds)
theorem si_range1 {tg a : Expr} {p pos : Pos} {f : Rho → M (List D)} (hm : J.X.mg "range" = none) (h : Sa J ow [a] f) (hg : Gl J.X "range" := by rfl) (hs : starEach [a] J.X.env = [(false, eval a J.X.env)] := by rfl) :
    Si J ow tg (.Call (.Name "range" p) [a] [] pos) (iRng f) := by
  obtain ⟨t, pa, la, q⟩ := h
  refine ⟨_, pi_range1 hg hm pa hs, fun c σ ρ P F H R hc r w => ?_⟩
  refine q c σ ρ P F H _ hc r ((Wp.len (β := Unit) w.bnd fun ds P' z => la ρ P ds P' z).mono (fun ds P1 ⟨l1, h1⟩ vs F1 H1 r1 s1 rp => ?_) fun _ _ h => h)
  obtain ⟨xs, e, k⟩ := h1.lift
  cases rp with
  | nil => cases l1
  | cons hv rr =>
    cases rr with
    | cons _ _ => cases l1
    | nil =>
      cases hv with
      | int j =>
        simp only [rngD] at e
        split at e
        · rename_i hj; cases e
          exact ⟨j, rfl, (okR.b hj).1, (okR.b hj).2, k _ F1 H1 r1 s1 itd_range⟩
        · cases e
      | _ => cases e
theorem si_range2 {tg a b : Expr} {p pos : Pos} {f : Rho → M (List D)} (hm : J.X.mg "range" = none) (h : Sa J ow [a, b] f) (hg : Gl J.X "range" := by rfl) (hs : starEach [a, b] J.X.env = [(false, eval a J.X.env), (false, eval b J.X.env)] := by rfl)
    (hs2 : starEach [b] J.X.env = [(false, eval b J.X.env)] := by rfl) : Si J ow tg (.Call (.Name "range" p) [a, b] [] pos) (iRng f) := by
  obtain ⟨t, pa, la, q⟩ := h
  refine ⟨_, pi_range2 hg hm pa hs hs2, fun c σ ρ P F H R hc r w => ?_⟩
  refine q c σ ρ P F H _ hc r ((Wp.len (β := Unit) w.bnd fun ds P' z => la ρ P ds P' z).mono (fun ds P1 ⟨l1, h1⟩ vs F1 H1 r1 s1 rp => ?_) fun _ _ h => h)
  obtain ⟨xs, e, k⟩ := h1.lift
  cases rp with
  | nil => cases l1
  | cons hv rr =>
    cases rr with
    | nil => cases l1
    | cons hu rr =>
      cases rr with
      | cons _ _ => cases l1
      | nil =>
        cases hv with
        | int i =>
          cases hu with
          | int j =>
            simp only [rngD] at e
            split at e
            · rename_i hj; cases e
              have b1 := okR.b hj.1
              have b2 := okR.b hj.2
              exact ⟨i, j, rfl, ⟨b1.1, b1.2, b2.1, b2.2⟩, k _ F1 H1 r1 s1 itd_range⟩
            · cases e
          | _ => cases e
        | _ => cases e
/-- reversed(range(n)) -/
def revR : List D → Option (List D)
  | [.int j] => if okR j = true then some (intsD 0 j.toNat).reverse else none
  | _ => none
def iRev1 (f : Rho → M (List D)) : Rho → M (List D) := fun ρ => bnd (f ρ) fun ds => lift (revR ds)
theorem si_revrange {tg a : Expr} {p p2 pos pos2 : Pos} {f : Rho → M D} (hm : J.X.mg "range" = none) (hm2 : J.X.mg "reversed" = none) (h : Se J ow a 0 f) (hg : Gl J.X "range" := by rfl) (hg2 : Gl J.X "reversed" := by rfl)
    (hs : starEach [a] J.X.env = (false, eval a J.X.env) :: starEach [] J.X.env := by rfl) (hs2 : starEach [.Call (.Name "range" p) [a] [] pos] J.X.env = (false, eval (.Call (.Name "range" p) [a] [] pos) J.X.env) :: starEach [] J.X.env := by rfl) :
    Si J ow tg (.Call (.Name "reversed" p2) [.Call (.Name "range" p) [a] [] pos] [] pos2) (iRev1 (eCons f fun _ => ret [])) := by
  obtain ⟨t, pa, q⟩ := h
  refine ⟨_, pi_revR hg2 hm2 (prg_1 hg hm pa hs) hs2, fun c σ ρ P F H R hc r w => ?_⟩
  refine q c σ ρ P F H _ hc r (Wp.mono (Wp.bnd (Wp.bnd w)) (fun d P1 h1 v F1 H1 A x => ?_) fun _ _ h => h)
  obtain ⟨xs, e, k⟩ := Wp.lift (Wp.ok h1)
  cases x.rp with
  | int j =>
    simp only [revR] at e
    split at e
    · rename_i hj; cases e
      refine ⟨j, rfl, by omega, by omega, (okR.b hj).1, (okR.b hj).2, k _ F1 H1 x.rl x.st fun F' H' s1 s2 i => ?_⟩
      have l : (intsD 0 j.toNat).reverse.length = j.toNat := by rw [List.length_reverse, intsD_length]
      have ej : (j - 0).toNat = j.toNat := by omega
      rw [ej]
      refine ⟨fun hi => by rw [l] at hi; exact hi, fun d hd => ?_⟩
      have hi : i < j.toNat := by
        have := (List.getElem?_eq_some_iff.mp hd).1
        rwa [l] at this
      rw [List.getElem?_reverse (by rw [intsD_length]; exact hi), intsD_get, intsD_length, if_pos (by omega)] at hd
      cases hd
      refine ⟨hi, fun v H2 hy => ?_⟩
      obtain ⟨rfl, rfl⟩ := hy
      refine ⟨F', Nw.same s2 ?_⟩
      rw [show (0 : Int) + ((j.toNat : Nat) : Int) - 1 + (i : Nat) * (-1) = 0 + ((j.toNat - 1 - i : Nat) : Int) by omega]
      exact .int _
    · cases e
  | _ => cases e
/-- enumerate -/
def enumD (ds : List D) : List D := (List.range ds.length).map fun (i : Nat) => .tuple [.int (i : Int), ds.getD i .none]
theorem enumD_get (ds : List D) (i : Nat) : (enumD ds)[i]? = (ds[i]?).map fun d => .tuple [.int (i : Int), d] := by
  unfold enumD
  rw [List.getElem?_map]
  by_cases h : i < ds.length
  · rw [List.getElem?_range h, List.getElem?_eq_getElem h]
    simp [List.getD, List.getElem?_eq_getElem h]
  · rw [List.getElem?_eq_none (by simpa using h), List.getElem?_eq_none (by simpa using h)]; rfl
def enuD : List D → Option (List D)
  | [d] => (seqD d).map enumD
  | _ => none
def iEnu (f : Rho → M (List D)) : Rho → M (List D) := fun ρ => bnd (f ρ) fun ds => lift (enuD ds)
theorem itd_of_pairs {F : Hp} {I : It} {xs : List V} {ds : List D} (r : Rps F xs ds) (hs : ∀ F' H', Same F F' → Same F' H' → ∀ i, (xs.length ≤ i → I.stop i H') ∧ ∀ x, xs[i]? = some x → I.go i H' ∧ ∀ v H2, I.yld i H' v H2 → ∃ T, v = .ref T ∧ H' T = none ∧ H2 = upd H' T (.tup [.int (i : Nat), x])) : ItD F I (enumD ds) := fun F' H' s1 s2 i => by
  obtain ⟨h1, h2⟩ := hs F' H' s1 s2 i
  have le : (enumD ds).length = ds.length := by simp [enumD]
  refine ⟨fun hi => h1 (by rw [r.length]; omega), fun d hd => ?_⟩
  rw [enumD_get] at hd
  cases hx : ds[i]? with
  | none => rw [hx] at hd; cases hd
  | some y =>
    rw [hx] at hd
    cases hd
    obtain ⟨v, hv, rp⟩ := r.get' hx
    obtain ⟨g, h3⟩ := h2 v hv
    refine ⟨g, fun u H2 hy => ?_⟩
    obtain ⟨T, rfl, hT, rfl⟩ := h3 u H2 hy
    exact ⟨_, Nw.new s2 hT fun F2 s e => .tup e (.cons (.int _) (.cons ((rp.mono s1).mono s) .nil))⟩
theorem si_enum {a : Expr} {p pos tpos : Pos} {elts : List Expr} {kk : Nat} {f : Rho → M (List D)} (hm : J.X.mg "enumerate" = none) (h : Sa J ow [a] f) (hg : Gl J.X "enumerate" := by rfl) (hs : starEach [a] J.X.env = [(false, eval a J.X.env)] := by rfl) :
    Si J ow (.Tuple elts kk tpos) (.Call (.Name "enumerate" p) [a] [] pos) (iEnu f) := by
  obtain ⟨t, pa, la, q⟩ := h
  refine ⟨_, pi_enumA hg hm pa hs, fun c σ ρ P F H R hc r w => ?_⟩
  refine q c σ ρ P F H _ hc r ((Wp.len (β := Unit) w.bnd fun ds P' z => la ρ P ds P' z).mono (fun ds P1 ⟨l1, h1⟩ vs F1 H1 r1 s1 rp => ?_) fun _ _ h => h)
  obtain ⟨xs, e, k⟩ := h1.lift
  cases rp with
  | nil => cases l1
  | cons hv rr =>
    cases rr with
    | cons _ _ => cases l1
    | nil =>
      cases hv with
      | lst h rs =>
        cases e
        refine ⟨_, _, rfl, .inl ⟨.inl (.inl (r1.gd.sub _ _ h)), k _ F1 H1 r1 s1 (itd_of_pairs rs fun F' H' t1 t2 i => ?_)⟩⟩
        have e : SqL J.X.K H' _ _ := .inl (.inl (t2 _ _ (t1 _ _ h)))
        refine ⟨fun hi => ⟨_, e, hi⟩, fun x hx => ⟨⟨_, x, e, hx⟩, fun v H2 hy => ?_⟩⟩
        obtain ⟨T, y, e1, e2, e3, e4⟩ := hy
        have z := e4 _ e
        rw [hx] at z; cases z
        exact ⟨T, e1, e2, e3⟩
      | tup h rs =>
        cases e
        refine ⟨_, _, rfl, .inr ⟨.inl (.inl (r1.gd.sub _ _ h)), k _ F1 H1 r1 s1 (itd_of_pairs rs fun F' H' t1 t2 i => ?_)⟩⟩
        have e : SqT J.X.K H' _ _ := .inl (.inl (t2 _ _ (t1 _ _ h)))
        refine ⟨fun hi => ⟨_, e, hi⟩, fun x hx => ⟨⟨_, x, e, hx⟩, fun v H2 hy => ?_⟩⟩
        obtain ⟨T, y, e1, e2, e3, e4⟩ := hy
        have z := e4 _ e
        rw [hx] at z; cases z
        exact ⟨T, e1, e2, e3⟩
      | _ => cases e

/-! ### targets -/
def gtName (i : Nat) : D → Rho → Option Rho := fun d ρ => if i < ρ.length then some (ρ.set i (some d)) else none
theorem Rl.set {c : Ctx} {ps : Pls} {σ : St} {ρ : Rho} {P : Pool} {F H : Hp} {i : Nat} {v : V} {d : D} (r : Rl c ps ow σ ρ P F H) (h : Rp F v d) (hi : ow.lookup i = none) (hps : Fre ps i) (hl : i < ρ.length) : Rl c ps ow (σ.set i (some v)) (ρ.set i (some d)) P F H where
  gd := r.gd
  len := by rw [List.length_set, List.length_set]; exact r.len
  psl := fun j e => by
    obtain ⟨p, q, h1, h2⟩ := r.psl j e
    refine ⟨p, q, h1, ?_⟩
    rw [List.getElem?_set_ne (fun z => hps.1 (by rw [e, z]))]
    exact h2
  scl := fun e => by
    obtain ⟨a, h1, h2⟩ := r.scl e
    exact ⟨a, h1, by rw [List.getElem?_set_ne (hps.2 e)]; exact h2⟩
  fz := fun j e h1 h2 => by
    by_cases hj : i = j
    · subst hj
      rw [List.getElem?_set_self hl] at h1
      cases h1
      exact ⟨v, List.getElem?_set_self (by rw [r.len]; exact hl), h⟩
    · rw [List.getElem?_set_ne hj] at h1
      obtain ⟨u, a, b⟩ := r.fz j e h1 h2
      exact ⟨u, by rw [List.getElem?_set_ne hj]; exact a, b⟩
  own := by
    obtain ⟨Am, h1, h2⟩ := r.own
    refine ⟨Am, fun j k e => ?_, h2⟩
    have hj : i ≠ j := fun z => by rw [z, e] at hi; cases hi
    obtain ⟨u, x, a, b, q⟩ := h1 j k e
    exact ⟨u, x, by rw [List.getElem?_set_ne hj]; exact a, by rw [List.getElem?_set_ne hj]; exact b, q⟩
theorem gt_name {i : Nat} {x : Str} {pos : Pos} (O : J.X.N.Nodup) (hi : ow.lookup i = none := by rfl) (hps : Fre J.ps i := by exact ⟨by simp, by simp⟩) (hN : J.X.N[i]? = some x := by rfl) (hx : Loc J.X.env.scope x := by first | exact Or.inl rfl | exact Or.inr rfl)
    (hf : J.X.fn x = true ∨ J.X.env.scope.names.lookup x = some .local := by first | exact .inl rfl | exact .inr rfl | assumption) : Gt J ow (.Name x pos) [i] (gtName i) := by
  refine ⟨_, pg_name O hN hx hf, fun c σ ρ ρ' P F H v d Q r rp e k => ?_⟩
  unfold gtName at e
  split at e
  · rename_i hl; cases e; exact k _ ⟨List.length_set .., fun j hj => List.getElem?_set_ne (fun z => hj (by simp [z]))⟩ (r.set rp hi hps hl)
  · cases e
/-- (a, b) = a tuple of that length -/
def Gs (J : Jd) (ow : Owns) (tgs : List Expr) (ts : List Nat) (g : List D → Rho → Option Rho) : Prop :=
  ∃ t, PGs J.X tgs t ∧ ∀ (c : Ctx) (σ : St) (ρ ρ' : Rho) (P : Pool) (F H : Hp) (vs : List V) (ds : List D) (Q : St → Hp → Prop), Rl c J.ps ow σ ρ P F H → Rps F vs ds → g ds ρ = some ρ' →
    (∀ σ', Out ts σ σ' → Rl c J.ps ow σ' ρ' P F H → Q σ' H) → t vs σ H Q
def gsNil : List D → Rho → Option Rho := fun ds ρ => match ds with | [] => some ρ | _ => none
def gsCons (g : D → Rho → Option Rho) (gs : List D → Rho → Option Rho) : List D → Rho → Option Rho := fun ds ρ => match ds with | [] => none | d :: r => (g d ρ).bind (gs r)
theorem gs_nil : Gs J ow [] [] gsNil := by
  refine ⟨_, pgs_nil, fun c σ ρ ρ' P F H vs ds Q r rp e k => ?_⟩
  cases rp with
  | nil => cases e; exact ⟨rfl, k _ (.refl _ _) r⟩
  | cons _ _ => cases e
theorem gs_cons {e : Expr} {es : List Expr} {g : D → Rho → Option Rho} {gs : List D → Rho → Option Rho} {ts us : List Nat} (h : Gt J ow e ts g) (hr : Gs J ow es us gs) (hs : (assignEach (e :: es) J.X.env).map (·.2) = assign e J.X.env :: (assignEach es J.X.env).map (·.2) := by rfl) : Gs J ow (e :: es) (ts ++ us) (gsCons g gs) := by
  obtain ⟨t, pt, qt⟩ := h
  obtain ⟨u, pu, qu⟩ := hr
  refine ⟨_, pgs_cons pt pu hs, fun c σ ρ ρ' P F H vs ds Q r rp e k => ?_⟩
  cases rp with
  | nil => cases e
  | cons hv rr =>
    simp only [gsCons, Option.bind_eq_some_iff] at e
    obtain ⟨ρ1, e1, e2⟩ := e
    exact ⟨_, _, rfl, qt c σ ρ ρ1 P F H _ _ _ r hv e1 fun σ1 o1 r1 => qu c σ1 ρ1 ρ' P F H _ _ Q r1 rr e2 fun σ2 o2 r2 => k σ2 ((o1.mono fun _ h => List.mem_append_left _ h).trans (o2.mono fun _ h => List.mem_append_right _ h)) r2⟩
def gtTup (n : Nat) (gs : List D → Rho → Option Rho) : D → Rho → Option Rho := fun d ρ => match d with | .tuple ds => if ds.length = n then gs ds ρ else none | _ => none
theorem gt_tup {es : List Expr} {k n : Nat} {pos : Pos} {gs : List D → Rho → Option Rho} {ts : List Nat} (O : J.X.calm = true) (h : Gs J ow es ts gs) (hn : (assignEach es J.X.env).length = n := by rfl) (hst : (assignEach es J.X.env).findIdx? (·.1) = none := by rfl) : Gt J ow (.Tuple es k pos) ts (gtTup n gs) := by
  obtain ⟨t, pt, qt⟩ := h
  refine ⟨_, pg_tup O pt hn hst, fun c σ ρ ρ' P F H v d Q r rp e kk => ?_⟩
  cases rp with
  | tup ha rs =>
    simp only [gtTup] at e
    split at e
    · rename_i hl
      exact ⟨_, _, rfl, .inl (.inl (r.gd.sub _ _ ha)), by rw [rs.length]; exact hl, qt c σ ρ ρ' P F H _ _ Q r rs e kk⟩
    · cases e
  | _ => cases e
end
end DL

end
section
set_option Elab.async false
set_option linter.all false
set_option maxRecDepth 100000
set_option maxHeartbeats 2000000
namespace DL
open PySem PySem.Spec L2
def unO (i : Nat) (ow : Owns) : Owns := ow.filter fun p => p.1 != i
def setO (i k : Nat) (ow : Owns) : Owns := match k with
  | 0 => unO i ow
  | k + 1 => (i, k + 1) :: unO i ow

/-! ### the block of a comprehension -/
structure BI where
  s : Shared
  H : Hp
  C : Addr
  cl : List (Str × Addr)
  fp : List Addr
abbrev Jd.blk (J : Jd) (sc : Scope) (b : BI) : Jd := { X := J.X.blk b.s b.H sc (compEnvC sc b.cl b.C J.X.env) b.fp, W := fun _ _ _ _ => False, cl := J.cl, ps := J.ps, cx := J.cx, cxm := J.cxm }
theorem Ok.blk {J : Jd} (O : Ok J) (sc : Scope) (b : BI) : Ok (J.blk sc b) := ⟨O.g, O.c, O.u, takes0, O.nd, O.h0⟩
section
variable {J : Jd} {ow : Owns} {sc : Scope}
theorem Se.all {e : Expr} {k : Nat} {f : Rho → M D} (h : ∀ b, Se (J.blk sc b) ow e k f) : ∃ t, (∀ b, PE (J.blk sc b).X e t) ∧ ∀ (c : Ctx) (σ : St) (ρ : Rho) (P : Pool) (F H : Hp) (Q : VK), CxOk J c → Rl c J.ps ow σ ρ P F H →
    Wp (f ρ P) (fun d P' => ∀ v F' H' A, Vp c J.ps ow σ ρ F H P' k d v F' H' A → Q v H') (fun _ _ => False) → t σ H Q :=
  ⟨fun σ H Q => ∀ b, (h b).choose σ H Q, fun b => ⟨fun pins s σ H Q I w => (h b).choose_spec.1.run pins s σ H Q I (w b)⟩, fun c σ ρ P F H Q hc r w b => (h b).choose_spec.2 c σ ρ P F H Q ⟨hc.eq, hc.cx⟩ r (w.mono (fun _ _ h => h) fun _ _ h => h.elim)⟩
theorem Te.all {e : Expr} {f : Rho → M Bool} (h : ∀ b, Te (J.blk sc b) ow e f) : ∃ t, (∀ b, PT (J.blk sc b).X e t) ∧ ∀ (c : Ctx) (σ : St) (ρ : Rho) (P : Pool) (F H : Hp) (Q : Bool → Hp → Prop), CxOk J c → Rl c J.ps ow σ ρ P F H →
    Wp (f ρ P) (fun b P' => ∀ F' H', Rl c J.ps ow σ ρ P' F' H' → Stp c F H F' H' → Q b H') (fun _ _ => False) → t σ H Q :=
  ⟨fun σ H Q => ∀ b, (h b).choose σ H Q, fun b => ⟨fun pins s σ H Q I w => (h b).choose_spec.1.run pins s σ H Q I (w b)⟩, fun c σ ρ P F H Q hc r w b => (h b).choose_spec.2 c σ ρ P F H Q ⟨hc.eq, hc.cx⟩ r (w.mono (fun _ _ h => h) fun _ _ h => h.elim)⟩
theorem Gt.all {e : Expr} {ts : List Nat} {g : D → Rho → Option Rho} (h : ∀ b, Gt (J.blk sc b) ow e ts g) : ∃ t, (∀ b, PG (J.blk sc b).X e t) ∧ ∀ (c : Ctx) (σ : St) (ρ ρ' : Rho) (P : Pool) (F H : Hp) (v : V) (d : D) (Q : St → Hp → Prop), Rl c J.ps ow σ ρ P F H → Rp F v d → g d ρ = some ρ' →
    (∀ σ', Out ts σ σ' → Rl c J.ps ow σ' ρ' P F H → Q σ' H) → t v σ H Q :=
  ⟨fun v σ H Q => ∀ b, (h b).choose v σ H Q, fun b => ⟨fun pins s σ H v u Q I rv w => (h b).choose_spec.1.run pins s σ H v u Q I rv (w b)⟩, fun c σ ρ ρ' P F H v d Q r rp e k b => (h b).choose_spec.2 c σ ρ ρ' P F H v d Q r rp e k⟩
/-- a clause's tests -/
def Ts (J : Jd) (ow : Owns) (sc : Scope) (ifs : List Expr) (f : Rho → M Bool) : Prop := ∃ t, (∀ b, PTs (J.blk sc b).X ifs t) ∧ ∀ (c : Ctx) (σ : St) (ρ : Rho) (P : Pool) (F H : Hp) (Q : Bool → Hp → Prop), CxOk J c → Rl c J.ps ow σ ρ P F H →
    Wp (f ρ P) (fun b P' => ∀ F' H', Rl c J.ps ow σ ρ P' F' H' → Stp c F H F' H' → Q b H') (fun _ _ => False) → t σ H Q
theorem ts_nil : Ts J ow sc [] fun _ => ret true := ⟨_, fun _ => pts_nil, fun c σ ρ P F H Q hc r w => w F H r (.refl _ _ _)⟩
theorem ts_one {e : Expr} {f : Rho → M Bool} (h : ∀ b, Te (J.blk sc b) ow e f) : Ts J ow sc [e] f := let ⟨t, p, q⟩ := Te.all h; ⟨t, fun b => pts_one (p b), q⟩
def wipeD (ρ : Rho) : List Nat → Rho
  | [] => ρ
  | v :: vs => (wipeD ρ vs).set v none
theorem wipe_get {α : Type} (w : List (Option α) → List Nat → List (Option α)) (h0 : ∀ σ, w σ [] = σ) (h1 : ∀ σ v vs, w σ (v :: vs) = (w σ vs).set v none) (σ : List (Option α)) : ∀ (vs : List Nat) (i : Nat), (w σ vs)[i]? = if i ∈ vs then (σ[i]?).map fun _ => none else σ[i]?
  | [], i => by rw [h0]; simp
  | v :: vs, i => by
    have ih := wipe_get w h0 h1 σ vs
    rw [h1]
    by_cases hv : v = i
    · subst hv
      rw [if_pos List.mem_cons_self]
      have := ih v
      cases e : σ[v]? with
      | none =>
        rw [e] at this
        have : (w σ vs)[v]? = none := by rw [this]; split <;> rfl
        rw [List.getElem?_set]; simp [List.getElem?_eq_none_iff.mp this]
      | some x =>
        rw [e] at this
        have : ∃ y, (w σ vs)[v]? = some y := by rw [this]; split <;> exact ⟨_, rfl⟩
        obtain ⟨y, hy⟩ := this
        rw [List.getElem?_set_self (List.getElem?_eq_some_iff.mp hy).1]; rfl
    · rw [List.getElem?_set_ne hv, ih i]
      have : (i ∈ v :: vs) = (i ∈ vs) := by simp [Ne.symm hv]
      simp only [this]
theorem wipeV (σ : St) (vs : List Nat) (i : Nat) : (wipe σ vs)[i]? = if i ∈ vs then (σ[i]?).map fun _ => none else σ[i]? := wipe_get wipe (fun _ => rfl) (fun _ _ _ => rfl) σ vs i
theorem wipeR (ρ : Rho) (vs : List Nat) (i : Nat) : (wipeD ρ vs)[i]? = if i ∈ vs then (ρ[i]?).map fun _ => none else ρ[i]? := wipe_get wipeD (fun _ => rfl) (fun _ _ _ => rfl) ρ vs i
theorem wipeD_length (ρ : Rho) : ∀ vs, (wipeD ρ vs).length = ρ.length
  | [] => rfl
  | v :: vs => by show ((wipeD ρ vs).set v none).length = _; rw [List.length_set]; exact wipeD_length ρ vs
theorem wipe_out {σ σ2 : St} {vs ts : List Nat} (h : Out ts (wipe σ vs) σ2) (k : ∀ i ∈ ts, i ∈ vs) : wipe σ2 vs = wipe σ vs := by
  apply List.ext_getElem?
  intro i
  rw [wipeV, wipeV]
  by_cases hi : i ∈ vs
  · rw [if_pos hi, if_pos hi]
    have l : σ2.length = σ.length := h.1.trans (wipe_length σ vs)
    by_cases hl : i < σ.length
    · rw [List.getElem?_eq_getElem hl, List.getElem?_eq_getElem (by rw [l]; exact hl)]; rfl
    · rw [List.getElem?_eq_none (by omega), List.getElem?_eq_none (by omega)]
  · rw [if_neg hi, if_neg hi, h.2 i fun z => hi (k i z), wipeV, if_neg hi]
theorem Rl.wiped {c : Ctx} {ps : Pls} {σ : St} {ρ : Rho} {P : Pool} {F H : Hp} (r : Rl c ps ow σ ρ P F H) {vs : List Nat} (hv : ∀ v ∈ vs, ow.lookup v = none ∧ Fre ps v) : Rl c ps ow (wipe σ vs) (wipeD ρ vs) P F H where
  gd := r.gd
  len := by rw [wipe_length, wipeD_length]; exact r.len
  psl := fun i e => by
    obtain ⟨p, q, h1, h2⟩ := r.psl i e
    refine ⟨p, q, h1, ?_⟩
    rw [wipeV, if_neg fun z => (hv i z).2.1 e]; exact h2
  scl := fun e => by
    obtain ⟨a, h1, h2⟩ := r.scl e
    exact ⟨a, h1, by rw [wipeV, if_neg fun z => (hv 0 z).2.2 e rfl]; exact h2⟩
  fz := fun i d e n => by
    rw [wipeR] at e
    split at e
    · cases z : ρ[i]? <;> rw [z] at e <;> cases e
    · rename_i hi
      obtain ⟨v, a, b⟩ := r.fz i d e n
      exact ⟨v, by rw [wipeV, if_neg hi]; exact a, b⟩
  own := by
    obtain ⟨Am, h1, h2⟩ := r.own
    refine ⟨Am, fun i k e => ?_, h2⟩
    have hi : i ∉ vs := fun z => by rw [(hv i z).1] at e; cases e
    obtain ⟨v, d, a, b, q⟩ := h1 i k e
    exact ⟨v, d, by rw [wipeR, if_neg hi]; exact a, by rw [wipeV, if_neg hi]; exact b, q⟩
/-- an object that no datum and no slot holds is written -/
theorem Rl.mut {c : Ctx} {ps : Pls} {σ : St} {ρ : Rho} {P : Pool} {F H : Hp} (r : Rl c ps ow σ ρ P F H) {a : Addr} {o : HO} (h1 : F a = none) (h2 : c.H0 a = none) (h3 : NP c a) (h5 : ∃ u, H a = some u)
    (h4 : ∀ i k v d A, ow.lookup i = some k → σ[i]? = some (some v) → Ow F H k v d A → a ∉ A) : Rl c ps ow σ ρ P F (upd H a o) where
  gd := ⟨fun b u e => by rw [upd_ne (fun z => by rw [z, h1] at e; cases e)]; exact r.gd.sub b u e, r.gd.f0, r.gd.gr, fun b u e n => by rw [upd_ne (fun z => by rw [z, h2] at e; cases e)]; exact r.gd.kp b u e n, fun b e => r.gd.dm b (by
      by_cases hb : b = a
      · subst hb; rw [upd_same] at e; cases e
      · rw [upd_ne hb] at e; exact e), fun p q e => by
      obtain ⟨x0, x1, x2, x3, x4⟩ := r.gd.pool p q e
      have n := h3 p q e
      exact ⟨x0, by rw [upd_ne (Ne.symm n.1)]; exact x1, by rw [upd_ne (Ne.symm n.2)]; exact x2, x3, x4⟩⟩
  len := r.len
  psl := r.psl
  scl := r.scl
  fz := r.fz
  own := by
    obtain ⟨Am, k1, k2⟩ := r.own
    refine ⟨Am, fun i k e => ?_, k2⟩
    obtain ⟨v, d, x, y, q, z⟩ := k1 i k e
    refine ⟨v, d, x, y, q.mono (.refl _) fun b hb u hu => ?_, z⟩
    rw [upd_ne (fun w => by subst w; exact h4 i k v d (Am i) e y q hb)]
    exact hu
theorem Rl.notown {c : Ctx} {ps : Pls} {σ : St} {ρ : Rho} {P P' : Pool} {F H F' H' : Hp} (r : Rl c ps ow σ ρ P F H) (s : Stp c F H F' H') {a : Addr} (ha : H a = none) : ∀ i k v d A, ow.lookup i = some k → σ[i]? = some (some v) → Ow F' H' k v d A → a ∉ A := by
  intro i k v d A e hv o z
  obtain ⟨Bm, h1, _⟩ := r.own
  obtain ⟨v', d', _, a', o', _, fr⟩ := h1 i k e
  rw [hv] at a'; cases a'
  have o2 : Ow F' H' k v d' (Bm i) := o'.mono s.fs fun b hb u h => s.kp b u h (fr b hb).2.2
  rw [o.uniq o2] at z
  obtain ⟨u, hu⟩ := o'.there z
  rw [ha] at hu; cases hu
theorem Rl.notown_w {c : Ctx} {ps : Pls} {σ : St} {ρ : Rho} {P P' : Pool} {F H F' H' : Hp} (r : Rl c ps ow σ ρ P F H) (s : Stp c F H F' H') {a : Addr} (ha : H a = none) {vs : List Nat} {σ2 : St} {ts : List Nat} (ho : Out ts (wipe σ vs) σ2) (ht : ∀ i ∈ ts, i ∈ vs) (hv : ∀ v ∈ vs, ow.lookup v = none) :
    ∀ i k v d A, ow.lookup i = some k → σ2[i]? = some (some v) → Ow F' H' k v d A → a ∉ A := fun i k v d A e h o => by
  have hi : i ∉ vs := fun z => by rw [hv i z] at e; cases e
  rw [ho.2 i fun z => hi (ht i z), wipeV, if_neg hi] at h
  exact r.notown (P' := P') s ha i k v d A e h o
/-- exceptions may not leave it -/
def noX {α : Type} (m : M α) : M α := fun p => match m p with
  | some (.ok a, p') => some (.ok a, p')
  | _ => none
theorem Wp.noX {α : Type} {m : M α} {p : Pool} {q : α → Pool → Prop} {e : Exn → Pool → Prop} (h : Wp (noX m p) q e) : Wp (m p) q (fun _ _ => False) := by
  unfold DL.noX at h
  cases z : m p with
  | none => rw [z] at h; exact h
  | some r =>
    obtain ⟨r, p'⟩ := r
    rw [z] at h
    cases r with
    | ok a => exact h
    | error x => exact h
def consO : Option D → List D → List D
  | some x, r => x :: r
  | none, r => r
def mapM' (step : D → M (Option D)) : List D → M (List D)
  | [] => ret []
  | d :: ds => bnd (step d) fun o => bnd (mapM' step ds) fun r => ret (consO o r)
def lcStep (ρ : Rho) (vs : List Nat) (g : D → Rho → Option Rho) (tt : Rho → M Bool) (te : Rho → M D) (d : D) : M (Option D) :=
  bnd (lift (g d (wipeD ρ vs))) fun ρ1 => bnd (tt ρ1) fun b => if b = true then bnd (te ρ1) fun x => ret (some x) else ret none
def eLc (vs : List Nat) (fi : Rho → M (List D)) (g : D → Rho → Option Rho) (tt : Rho → M Bool) (te : Rho → M D) : Rho → M D := fun ρ => bnd (fi ρ) fun ds =>
  bnd (noX (mapM' (lcStep ρ vs g tt te) ds)) fun r => if r.length ≤ 1000000 then ret (.list r) else stuck
theorem Wp.ex {α : Type} {r : R α} {q : α → Pool → Prop} (h : Wp r q (fun _ _ => False)) : ∃ a p, r = some (.ok a, p) ∧ q a p := by
  match r, h with
  | some (.ok a, p), h => exact ⟨a, p, rfl, h⟩
theorem Ows.append {F H : Hp} {k : Nat} : ∀ {vs ws : List V} {ds es : List D} {A B : List Addr}, Ows F H k vs ds A → Ows F H k ws es B → Ows F H k (vs ++ ws) (ds ++ es) (A ++ B)
  | _, _, _, _, _, _, .nil, s => s
  | _, _, _, _, _, _, .cons h r, s => by rw [List.append_assoc]; exact .cons h (Ows.append r s)
theorem Ows.length {F H : Hp} {k : Nat} : ∀ {vs : List V} {ds : List D} {A : List Addr}, Ows F H k vs ds A → vs.length = ds.length
  | _, _, _, .nil => rfl
  | _, _, _, .cons _ r => congrArg Nat.succ (Ows.length r)
theorem lc_run {iter tg elt : Expr} {ifs : List Expr} {k : Nat} {ts vs : List Nat} {fi : Rho → M (List D)} {g : D → Rho → Option Rho} {tt : Rho → M Bool} {te : Rho → M D} (hi : SiC J ow tg iter fi) (hg : ∀ b, Gt (J.blk sc b) ow tg ts g) (ht : Ts J ow sc ifs tt) (he : ∀ b, Se (J.blk sc b) ow elt k te)
    (hts : ∀ i ∈ ts, i ∈ vs) (hvs : ∀ v ∈ vs, ow.lookup v = none ∧ Fre J.ps v) :
    ∃ wi gg tg' ee, PI J.X tg iter wi ∧ (∀ b, PG (J.blk sc b).X tg gg) ∧ (∀ b, PTs (J.blk sc b).X ifs tg') ∧ (∀ b, PE (J.blk sc b).X elt ee) ∧ ∀ (c : Ctx) (σ : St) (ρ : Rho) (P : Pool) (F H : Hp) (Q : VK), CxOk J c → Rl c J.ps ow σ ρ P F H →
    Wp (eLc vs fi g tt te ρ P) (fun d P' => ∀ v F' H' A, Vp c J.ps ow σ ρ F H P' (k + 1) d v F' H' A → Q v H') (ErrE J c ow σ ρ) → tLc wi gg tg' ee vs σ H Q := by
  obtain ⟨wi, pi, qi⟩ := hi
  obtain ⟨gg, pg, qg⟩ := Gt.all hg
  obtain ⟨tg', pt, qt⟩ := ht
  obtain ⟨ee, pe, qe⟩ := Se.all he
  refine ⟨wi, gg, tg', ee, pi, pg, pt, pe, fun c σ ρ P F H Q hc rl w => ?_⟩
  refine qi c σ ρ P F H _ hc rl (w.bnd.mono (fun ds P1 h1 I F1 H1 r1 s1 hI D hD => ?_) fun _ _ h => h)
  have h1 := (Wp.bnd h1).noX
  -- what is still to come, and what stands at D
  let Inv : Nat → Hp → Prop := fun i Hh => ∃ P2 F2 acc accD A, Rl c J.ps ow (wipe σ vs) (wipeD ρ vs) P2 F2 Hh ∧ Stp c F1 H1 F2 Hh ∧ Hh D = some (.lst acc) ∧ F2 D = none ∧ Ows F2 Hh k acc accD A ∧ (D :: A).Nodup ∧ (∀ a ∈ A, F2 a = none ∧ H1 a = none) ∧
    Wp (mapM' (lcStep ρ vs g tt te) (ds.drop i) P2) (fun r P' => Wp (if (accD ++ r).length ≤ 1000000 then ret (PyData.list (accD ++ r)) P' else stuck P') (fun d P' => ∀ v F' H' A, Vp c J.ps ow σ ρ F H P' (k + 1) d v F' H' A → Q v H') (ErrE J c ow σ ρ)) (fun _ _ => False)
  refine ⟨fun i m Hh => i + m = ds.length ∧ Inv i Hh, ⟨ds.length, by omega, ?_⟩, fun i m Hh ⟨hm, P2, F2, acc, accD, A, r2, s2, hDh, hFD, hacc, hnd, hfr, wr⟩ => ?_⟩
  · have l := (r1.wiped hvs).laid (o := .lst []) hD
    exact ⟨P1, F1, [], [], [], l.1, l.2, upd_same, r1.gd.sub.free hD, .nil, by simp, (fun _ h => nomatch h), by
      refine h1.mono (fun r P' hh => ?_) fun _ _ h => h
      simp only [List.nil_append]
      split
      · rename_i hz; rw [if_pos hz] at hh; exact hh
      · rename_i hz; rw [if_neg hz] at hh; exact hh⟩
  · obtain ⟨hstop, hgo⟩ := hI F2 Hh s2.fs r2.gd.sub s2.kp i
    by_cases hi : ds.length ≤ i
    · refine .inl ⟨hstop hi, ?_⟩
      rw [List.drop_eq_nil_of_le hi] at wr
      have wr : Wp (if (accD ++ []).length ≤ 1000000 then ret (PyData.list (accD ++ [])) P2 else stuck P2) _ _ := wr
      rw [List.append_nil] at wr
      split at wr
      · refine Wp.ok wr _ F2 Hh (D :: A) ⟨?_, s1.trans s2, .lst hDh hacc, hnd, fun a ha => ?_⟩
        · exact rl.grow (s1.trans s2) r2.gd.sub r2.gd.pool
        · rcases List.mem_cons.mp ha with rfl | ha
          · exact ⟨hFD, s1.dm _ hD⟩
          · exact ⟨(hfr a ha).1, s1.dm _ (hfr a ha).2⟩
      · exact wr.elim
    · have hi' : i < ds.length := Nat.lt_of_not_le hi
      obtain ⟨d, hd⟩ : ∃ d, ds[i]? = some d := ⟨_, List.getElem?_eq_getElem hi'⟩
      obtain ⟨go, hy⟩ := hgo d hd
      refine .inr ⟨go, fun H' => Inv (i + 1) H', fun H' h => ⟨m - 1, by omega, by omega, h⟩, fun x H3 hx => ?_⟩
      obtain ⟨F3, nw⟩ := hy x H3 hx
      have x3 := r2.nw nw
      have hD3 : F3 D = none := by
        cases z : F3 D with
        | none => rfl
        | some o => rcases nw.gr _ _ z with y | y
                    · rw [hFD] at y; cases y
                    · rw [hDh] at y; cases y
      have A3 : ∀ a ∈ A, F3 a = none := fun a ha => by
        cases z : F3 a with
        | none => rfl
        | some o => rcases nw.gr _ _ z with y | y
                    · rw [(hfr a ha).1] at y; cases y
                    · exact absurd (hacc.there ha) (by rw [y]; simp)
      have hdrop : ds.drop i = d :: ds.drop (i + 1) := by
        rw [List.drop_eq_getElem_cons hi', (Option.some.inj ((List.getElem?_eq_getElem hi').symm.trans hd))]
      rw [hdrop] at wr
      have wr := Wp.bnd (show Wp (bnd (lcStep ρ vs g tt te d) (fun o => bnd (mapM' (lcStep ρ vs g tt te) (ds.drop (i + 1))) fun r => ret (consO o r)) P2) _ _ from wr)
      obtain ⟨ρ1, e1, wr⟩ := Wp.lift (Wp.bnd wr)
      refine qg c (wipe σ vs) (wipeD ρ vs) ρ1 P2 F3 H3 x d _ x3.rl x3.rp e1 fun σ2 ho r4 => ⟨wipe_out ho hts, ?_⟩
      refine qt c σ2 ρ1 P2 F3 H3 _ hc r4 (Wp.mono (Wp.bnd wr) (fun b P5 h5 F5 H5 r5 s5 => ?_) fun _ _ h => h)
      have keepW : ∀ {P' : Pool} {F' H' : Hp}, Rl c J.ps ow σ2 ρ1 P' F' H' → Stp c F3 H3 F' H' → Rl c J.ps ow (wipe σ vs) (wipeD ρ vs) P' F' H' := fun r s => x3.rl.grow s r.gd.sub r.gd.pool
      have st3 : Stp c F1 H1 F3 H3 := s2.trans x3.st
      cases b with
      | false =>
        show Inv (i + 1) H5
        have npD : NP c D := np_of r1.gd hD
        refine ⟨P5, F5, acc, accD, A, keepW r5 s5, st3.trans s5, s5.kp _ _ (nw.hs _ _ hDh) npD, ?_, hacc.mono (nw.fs.trans s5.fs) (fun a ha o h => s5.kp _ _ (nw.hs _ _ h) (np_of r1.gd (hfr a ha).2)), hnd, fun a ha => ⟨?_, (hfr a ha).2⟩, ?_⟩
        · cases z : F5 D with
          | none => rfl
          | some o => rcases s5.gr _ _ z with y | y
                      · rw [hD3] at y; cases y
                      · rw [nw.hs _ _ hDh] at y; cases y
        · cases z : F5 a with
          | none => rfl
          | some o => rcases s5.gr _ _ z with y | y
                      · rw [A3 a ha] at y; cases y
                      · obtain ⟨u, hu⟩ := hacc.there ha
                        rw [nw.hs _ _ hu] at y; cases y
        · exact (Wp.bnd (Wp.ok h5)).mono (fun r P' h => h) fun _ _ h => h
      | true =>
        show ee σ2 H5 _
        refine qe c σ2 ρ1 P5 F5 H5 _ hc r5 (Wp.mono (Wp.bnd h5) (fun y P6 h6 v F6 H6 B x6 => ?_) fun _ _ h => h)
        have h6 := Wp.bnd (Wp.ok h6)
        have s6 : Stp c F3 H3 F6 H6 := s5.trans x6.st
        have npD : NP c D := np_of r1.gd hD
        have hD6 : H6 D = some (.lst acc) := s6.kp _ _ (nw.hs _ _ hDh) npD
        have F6D : F6 D = none := by
          cases z : F6 D with
          | none => rfl
          | some o => rcases s6.gr _ _ z with q | q
                      · rw [hD3] at q; cases q
                      · rw [nw.hs _ _ hDh] at q; cases q
        have F6A : ∀ a ∈ A, F6 a = none := fun a ha => by
          cases z : F6 a with
          | none => rfl
          | some o => rcases s6.gr _ _ z with q | q
                      · rw [A3 a ha] at q; cases q
                      · obtain ⟨u, hu⟩ := hacc.there ha
                        rw [nw.hs _ _ hu] at q; cases q
        have DnB : D ∉ B := fun z => by
          have := (x6.fr D z).2
          rw [s5.kp _ _ (nw.hs _ _ hDh) npD] at this; cases this
        have AB : ∀ a ∈ A, a ∉ B := fun a ha z => by
          obtain ⟨u, hu⟩ := hacc.there ha
          have := (x6.fr a z).2
          rw [s5.kp _ _ (nw.hs _ _ hu) (np_of r1.gd (hfr a ha).2)] at this; cases this
        have B1 : ∀ a ∈ B, H1 a = none := fun a ha => st3.dm a (s5.dm a (x6.fr a ha).2)
        have nodD := List.nodup_cons.mp hnd
        have hz : acc.length < sizeLine := by
          obtain ⟨r, p, _, h7⟩ := h6.ex
          rw [hacc.length]
          have h8 : (accD ++ (y :: r)).length ≤ 1000000 := by
            by_cases hz : (accD ++ (y :: r)).length ≤ 1000000
            · exact hz
            · have h9 : Wp (if (accD ++ (y :: r)).length ≤ 1000000 then ret (PyData.list (accD ++ (y :: r))) p else stuck p) _ _ := h7
              rw [if_neg hz] at h9; exact h9.elim
          exact line_lt (by rw [List.length_append] at h8; omega)
        refine ⟨acc, hD6, hz, ?_⟩
        have rw6 := keepW x6.rl s6
        have rm := rw6.mut (o := .lst (acc ++ [v])) F6D (r1.gd.dm _ hD) npD ⟨_, hD6⟩ (r1.notown_w (P' := P6) (st3.trans s6) hD (.refl [] _) (fun _ h => nomatch h) fun v h => (hvs v h).1)
        have keepU : ∀ a, a ≠ D → ∀ o, H6 a = some o → upd H6 D (.lst (acc ++ [v])) a = some o := fun a ha o h => by rw [upd_ne ha]; exact h
        refine ⟨P6, F6, acc ++ [v], accD ++ [y], A ++ B, rm, ?_, upd_same, F6D, ?_, ?_, ?_, ?_⟩
        · have t := st3.trans s6
          refine ⟨t.fs, t.gr, fun a o h n => ?_, fun a h => ?_⟩
          · rw [upd_ne (fun z => by rw [z, hD] at h; cases h)]; exact t.kp a o h n
          · by_cases ha : a = D
            · subst ha; rw [upd_same] at h; cases h
            · rw [upd_ne ha] at h; exact t.dm a h
        · refine Ows.append (hacc.mono (nw.fs.trans s6.fs) fun a ha o h => keepU a (fun z => nodD.1 (z ▸ ha)) o (s6.kp _ _ (nw.hs _ _ h) (np_of r1.gd (hfr a ha).2))) ?_
          have one := Ows.cons (x6.ow.mono (.refl _) fun a ha o h => keepU a (fun z => DnB (z ▸ ha)) o h) (Ows.nil (F := F6) (H := upd H6 D (.lst (acc ++ [v]))) (k := k))
          simpa using one
        · rw [List.nodup_cons]
          refine ⟨fun z => (List.mem_append.mp z).elim nodD.1 DnB, List.nodup_append.mpr ⟨nodD.2, x6.nd, fun a ha b hb z => AB a ha (z ▸ hb)⟩⟩
        · intro a ha
          rcases List.mem_append.mp ha with ha | ha
          · exact ⟨F6A a ha, (hfr a ha).2⟩
          · exact ⟨(x6.fr a ha).1, B1 a ha⟩
        · refine h6.mono (fun r P' h => ?_) fun _ _ h => h
          rw [List.append_assoc]
          exact h
theorem se_lc {elt tg iter : Expr} {ifs : List Expr} {own : List (Str × Nat)} {pos : Pos} {k : Nat} {ts : List Nat} {fi : Rho → M (List D)} {g : D → Rho → Option Rho} {tt : Rho → M Bool} {te : Rho → M D} (O : Ok J) (hi : SiC J ow tg iter fi) (ok : BlkOk J.X.N J.X.env.scope sc own) (hg : ∀ b, Gt (J.blk sc b) ow tg ts g) (ht : Ts J ow sc ifs tt) (he : ∀ b, Se (J.blk sc b) ow elt k te)
    (hts : ∀ i ∈ ts, i ∈ own.map (·.2) := by decide) (hvs : ∀ v ∈ own.map (·.2), ow.lookup v = none ∧ Fre J.ps v := by first | (simp [Fre]; done) | (simp [setO, unO, Fre]; done)) (hs : ∀ x, foldedSetIterable iter J.X.env x = pure x := by intro _; rfl) :
    Se J ow (.ListComp elt [⟨tg, iter, ifs, 0⟩] sc pos) (k + 1) (eLc (own.map (·.2)) fi g tt te) := by
  obtain ⟨wi, gg, tg', ee, pi, pg, pt, pe, q⟩ := lc_run hi hg ht he hts hvs
  exact ⟨_, pe_lc O.c O.nd pi ok (fun s H C cl fp => pg ⟨s, H, C, cl, fp⟩) (fun s H C cl fp => pt ⟨s, H, C, cl, fp⟩) (fun s H C cl fp => pe ⟨s, H, C, cl, fp⟩) hs, q⟩
end
end DL

end
section
set_option Elab.async false
set_option linter.all false
set_option maxRecDepth 100000
set_option maxHeartbeats 2000000
namespace DL
open PySem PySem.Spec L2

/-! ### statements -/
inductive Oc where
  | nx (ρ : Rho) | rt (d : D) | bk (ρ : Rho) | ct (ρ : Rho)
/-- ow': the slots' ownership behind it; owl: at a break or continue; kr: how deep the answer is owned -/
def StP (J : Jd) (c : Ctx) (ow' owl : Owns) (kr : Nat) (F : Hp) (E : Ends) : Oc → Pool → Prop
  | .nx ρ', P' => ∀ σ' F' H', Rl c J.ps ow' σ' ρ' P' F' H' → Same F F' → E.nx σ' H'
  | .rt d, P' => ∀ v H', Rt c kr P' d v H' → E.rt v H'
  | .bk ρ', P' => ∀ σ' F' H', Rl c J.ps owl σ' ρ' P' F' H' → Same F F' → E.bk σ' H'
  | .ct ρ', P' => ∀ σ' F' H', Rl c J.ps owl σ' ρ' P' F' H' → Same F F' → E.ct σ' H'
def ErrS (J : Jd) (c : Ctx) : Exn → Pool → Prop := fun x P' => ∀ cls dd σ' F' H', Gd c P' F' H' → ExAt J.cl x F' cls dd H' → J.W cls dd σ' H'
theorem ErrS.e {J : Jd} {c : Ctx} {ow : Owns} {σ : St} {ρ : Rho} : ∀ x p, ErrS J c x p → ErrE J c ow σ ρ x p := fun _ _ h cls dd F' H' r e => h cls dd σ F' H' r.gd e
def S1 (J : Jd) (ow ow' owl : Owns) (kr : Nat) (st : Stmt) (f : Rho → M Oc) : Prop :=
  ∃ t, PS J.X st t ∧ ∀ (c : Ctx) (σ : St) (ρ : Rho) (P : Pool) (F H : Hp) (E : Ends), CxOk J c → Rl c J.ps ow σ ρ P F H → Wp (f ρ P) (StP J c ow' owl kr F E) (ErrS J c) → t E σ H
def Ss (J : Jd) (ow ow' owl : Owns) (kr : Nat) (st : List Stmt) (f : Rho → M Oc) : Prop :=
  ∃ t, PSs J.X st t ∧ ∀ (c : Ctx) (σ : St) (ρ : Rho) (P : Pool) (F H : Hp) (E : Ends), CxOk J c → Rl c J.ps ow σ ρ P F H → Wp (f ρ P) (StP J c ow' owl kr F E) (ErrS J c) → t E σ H
theorem StP.sub {J : Jd} {c : Ctx} {ow' owl : Owns} {kr : Nat} {F F1 : Hp} {E : Ends} (s : Same F F1) : ∀ oc p, StP J c ow' owl kr F E oc p → StP J c ow' owl kr F1 E oc p
  | .nx _, _, h => fun σ' F' H' r t => h σ' F' H' r (s.trans t)
  | .rt _, _, h => h
  | .bk _, _, h => fun σ' F' H' r t => h σ' F' H' r (s.trans t)
  | .ct _, _, h => fun σ' F' H' r t => h σ' F' H' r (s.trans t)
section
variable {J : Jd} {ow ow' ow2 owl : Owns} {kr : Nat}
def sSkip : Rho → M Oc := fun ρ => ret (.nx ρ)
def sSeq (f g : Rho → M Oc) : Rho → M Oc := fun ρ => bnd (f ρ) fun oc => match oc with | .nx ρ' => g ρ' | o => ret o
theorem ss_nil : Ss J ow ow owl kr [] sSkip := ⟨_, pss_nil, fun c σ ρ P F H E hc r w => w σ F H r (.refl _)⟩
theorem ss_cons {st : Stmt} {rest : List Stmt} {f g : Rho → M Oc} (h : S1 J ow ow' owl kr st f) (k : Ss J ow' ow2 owl kr rest g) : Ss J ow ow2 owl kr (st :: rest) (sSeq f g) := by
  obtain ⟨t, p, q⟩ := h
  obtain ⟨u, p2, q2⟩ := k
  refine ⟨_, pss_cons p p2, fun c σ ρ P F H E hc r w => ?_⟩
  refine q c σ ρ P F H _ hc r (Wp.mono w.bnd (fun oc P1 h1 => ?_) fun _ _ h => h)
  cases oc with
  | nx ρ1 => exact fun σ1 F1 H1 r1 s1 => q2 c σ1 ρ1 P1 F1 H1 E hc r1 (Wp.mono h1 (fun oc p h => StP.sub s1 oc p h) fun _ _ h => h)
  | rt d => exact (show StP J c ow2 owl kr F E (.rt d) P1 from h1)
  | bk ρ1 => exact (show StP J c ow2 owl kr F E (.bk ρ1) P1 from h1)
  | ct ρ1 => exact (show StP J c ow2 owl kr F E (.ct ρ1) P1 from h1)
theorem ss_one {st : Stmt} {f : Rho → M Oc} (h : S1 J ow ow' owl kr st f) : Ss J ow ow' owl kr [st] f := let ⟨t, p, q⟩ := h; ⟨t, pss_one p, q⟩
/-- code that is never come to -/
def sNever : Rho → M Oc := fun _ => stuck
theorem ss_never {sts : List Stmt} : Ss J ow ow' owl kr sts sNever := ⟨_, pss_never, fun c σ ρ P F H E hc r w => w.elim⟩
theorem s1_never {st : Stmt} : S1 J ow ow' owl kr st sNever := ⟨_, ps_never, fun c σ ρ P F H E hc r w => w.elim⟩
theorem s1_pass {pos} : S1 J ow ow owl kr (.Pass pos) sSkip := ⟨_, ps_pass, fun c σ ρ P F H E hc r w => w σ F H r (.refl _)⟩
theorem s1_break {pos} : S1 J ow ow' ow kr (.Break pos) (fun ρ => ret (.bk ρ)) := ⟨_, ps_break, fun c σ ρ P F H E hc r w => w σ F H r (.refl _)⟩
theorem s1_cont {pos} : S1 J ow ow' ow kr (.Continue pos) (fun ρ => ret (.ct ρ)) := ⟨_, ps_continue, fun c σ ρ P F H E hc r w => w σ F H r (.refl _)⟩
theorem Rl.rt {c : Ctx} {ps : Pls} {σ : St} {ρ : Rho} {P P' : Pool} {F H F' H' : Hp} {k : Nat} {d : D} {v : V} {A : List Addr} (r : Rl c ps ow σ ρ P F H) (x : Vp c ps ow σ ρ F H P' k d v F' H' A) : Rt c k P' d v H' :=
  ⟨F', A, x.rl.gd, x.ow, x.nd, fun a ha => ⟨(x.fr a ha).1, r.gd.dm a (x.fr a ha).2, np_of r.gd (x.fr a ha).2⟩⟩
def sRet (f : Rho → M D) : Rho → M Oc := fun ρ => bnd (f ρ) fun d => ret (.rt d)
theorem s1_ret {e : Expr} {f : Rho → M D} {pos} (h : Se J ow e kr f) : S1 J ow ow' owl kr (.Return (some e) pos) (sRet f) := by
  obtain ⟨t, p, q⟩ := h
  refine ⟨_, ps_ret p, fun c σ ρ P F H E hc r w => ?_⟩
  exact q c σ ρ P F H _ hc r (w.bnd.mono (fun d P1 h1 v F1 H1 A x => Wp.ok h1 v H1 (r.rt x)) ErrS.e)
theorem s1_retN {pos} : S1 J ow ow' owl 0 (.Return none pos) (fun _ => ret (.rt .none)) := ⟨_, ps_retN, fun c σ ρ P F H E hc r w => w _ H (r.rt (r.vp .non))⟩
def sDrop (f : Rho → M D) : Rho → M Oc := fun ρ => bnd (f ρ) fun _ => ret (.nx ρ)
theorem s1_expr {e : Expr} {f : Rho → M D} {pos} (h : Se J ow e 0 f) (hs : swapsWith e none pos.line J.X.env = pure false := by rfl) : S1 J ow ow owl kr (.Expr e pos) (sDrop f) := by
  obtain ⟨t, p, q⟩ := h
  refine ⟨_, ps_expr p hs, fun c σ ρ P F H E hc r w => ?_⟩
  exact q c σ ρ P F H _ hc r (w.bnd.mono (fun d P1 h1 v F1 H1 A x => Wp.ok h1 σ F1 H1 x.rl x.st.fs) ErrS.e)
def sIf (t : Rho → M Bool) (f g : Rho → M Oc) : Rho → M Oc := fun ρ => bnd (t ρ) fun b => if b = true then f ρ else g ρ
theorem s1_if {e : Expr} {a b : List Stmt} {t : Rho → M Bool} {f g : Rho → M Oc} {pos} (h : Te J ow e t) (ha : Ss J ow ow' owl kr a f) (hb : Ss J ow ow' owl kr b g) : S1 J ow ow' owl kr (.If e a b pos) (sIf t f g) := by
  obtain ⟨tt, p, q⟩ := h
  obtain ⟨ta, pa, qa⟩ := ha
  obtain ⟨tb, pb, qb⟩ := hb
  refine ⟨_, ps_if p pa pb, fun c σ ρ P F H E hc r w => ?_⟩
  refine q c σ ρ P F H _ hc r (w.bnd.mono (fun b P1 h1 F1 H1 r1 s1 => ?_) ErrS.e)
  cases b with
  | true => exact qa c σ ρ P1 F1 H1 E hc r1 (Wp.mono h1 (fun oc p h => StP.sub s1.fs oc p h) fun _ _ h => h)
  | false => exact qb c σ ρ P1 F1 H1 E hc r1 (Wp.mono h1 (fun oc p h => StP.sub s1.fs oc p h) fun _ _ h => h)

/-! ### ownership: a slot is frozen, stored -/
theorem unO_lookup (i j : Nat) : ∀ ow : Owns, (unO i ow).lookup j = if j = i then none else ow.lookup j
  | [] => by simp [unO]
  | (a, k) :: r => by
    have ih := unO_lookup i j r
    unfold unO at ih ⊢
    rw [List.filter_cons]
    by_cases ha : a = i
    · subst ha
      simp only [bne_self_eq_false, Bool.false_eq_true, if_false]
      rw [ih]
      by_cases hj : j = a
      · simp [hj]
      · rw [if_neg hj, if_neg hj, List.lookup_cons, beq_false_of_ne hj]
    · have : (a != i) = true := by simpa using ha
      rw [if_pos this, List.lookup_cons, List.lookup_cons, ih]
      by_cases hj : j = a
      · subst hj; simp [ha]
      · rw [beq_false_of_ne hj]
theorem setO_lookup (i j k : Nat) (ow : Owns) : (setO i k ow).lookup j = if j = i then (if k = 0 then none else some k) else ow.lookup j := by
  cases k with
  | zero => simp only [setO, unO_lookup, if_true]
  | succ k =>
    simp only [setO, List.lookup_cons, unO_lookup]
    by_cases hj : j = i
    · subst hj; simp
    · rw [beq_false_of_ne hj, if_neg hj, if_neg hj]
theorem Rl.freeze {c : Ctx} {ps : Pls} {σ : St} {ρ : Rho} {P : Pool} {F H : Hp} (r : Rl c ps ow σ ρ P F H) (i : Nat) : ∃ F', Rl c ps (unO i ow) σ ρ P F' H ∧ Same F F' := by
  cases hk : ow.lookup i with
  | none =>
    refine ⟨F, ⟨r.gd, r.len, r.psl, r.scl, fun j d e n => r.fz j d e ?_, ?_⟩, .refl _⟩
    · rw [unO_lookup] at n
      by_cases hj : j = i
      · rw [hj]; exact hk
      · rw [if_neg hj] at n; exact n
    · obtain ⟨Am, h1, h2⟩ := r.own
      have conv : ∀ j k, (unO i ow).lookup j = some k → ow.lookup j = some k := fun j k e => by
        rw [unO_lookup] at e; split at e
        · cases e
        · exact e
      exact ⟨Am, fun j k e => h1 j k (conv j k e), fun a b k l e1 e2 => h2 a b k l (conv _ _ e1) (conv _ _ e2)⟩
  | some k0 =>
    obtain ⟨Am, h1, h2⟩ := r.own
    obtain ⟨v0, d0, a0, b0, o0, nd0, fr0⟩ := h1 i k0 hk
    have conv : ∀ j k, (unO i ow).lookup j = some k → ow.lookup j = some k ∧ j ≠ i := fun j k e => by
      rw [unO_lookup] at e; split at e
      · cases e
      · rename_i hj; exact ⟨e, hj⟩
    have sm : Same F (addF F H (Am i)) := addF_same fun a ha => (fr0 a ha).1
    have apart : ∀ j k, (unO i ow).lookup j = some k → ∀ a ∈ Am j, a ∉ Am i := fun j k e a ha => h2 j i k k0 (conv j k e).1 hk (conv j k e).2 a ha
    refine ⟨addF F H (Am i), ⟨⟨addF_sub r.gd.sub, r.gd.f0.trans sm, fun a o e => (addF_new e).elim (r.gd.gr a o) fun z => .inr (fr0 a z).2.1, r.gd.kp, r.gd.dm, fun p q e => ?_⟩, r.len, r.psl, r.scl, fun j d e n => ?_, Am, fun j k e => ?_, fun a b k l e1 e2 => h2 a b k l (conv _ _ e1).1 (conv _ _ e2).1⟩, sm⟩
    · obtain ⟨x0, x1, x2, x3, x4⟩ := r.gd.pool p q e
      refine ⟨x0, x1, x2, ?_, ?_⟩
      · unfold addF; rw [if_neg fun z => ((fr0 p z).2.2 p q e).1 rfl]; exact x3
      · unfold addF; rw [if_neg fun z => ((fr0 q z).2.2 p q e).2 rfl]; exact x4
    · rw [unO_lookup] at n
      by_cases hj : j = i
      · subst hj
        rw [a0] at e; cases e
        exact ⟨v0, b0, o0.frz sm fun a ha o h => by unfold addF; rw [if_pos ha]; exact h⟩
      · rw [if_neg hj] at n
        obtain ⟨v, x, y⟩ := r.fz j d e n
        exact ⟨v, x, y.mono sm⟩
    · obtain ⟨e', hj⟩ := conv j k e
      obtain ⟨v, d, x, y, o, nd, fr⟩ := h1 j k e'
      refine ⟨v, d, x, y, o.mono sm fun _ _ _ h => h, nd, fun a ha => ⟨?_, (fr a ha).2⟩⟩
      unfold addF
      rw [if_neg (apart j k e a ha)]
      exact (fr a ha).1
theorem ss_frz (i : Nat) {sts : List Stmt} {f : Rho → M Oc} (h : Ss J (unO i ow) ow' owl kr sts f) : Ss J ow ow' owl kr sts f := by
  obtain ⟨t, p, q⟩ := h
  refine ⟨t, p, fun c σ ρ P F H E hc r w => ?_⟩
  obtain ⟨F', r', s⟩ := r.freeze i
  exact q c σ ρ P F' H E hc r' (w.mono (fun oc p h => StP.sub s oc p h) fun _ _ h => h)
/-- x = e, e owned to the depth k -/
def sSet (i : Nat) (f : Rho → M D) : Rho → M Oc := fun ρ => bnd (f ρ) fun d => if i < ρ.length then ret (.nx (ρ.set i (some d))) else stuck
theorem Rl.store {c : Ctx} {ps : Pls} {σ : St} {ρ : Rho} {P P' : Pool} {F H F' H' : Hp} {i k : Nat} {d : D} {v : V} {A : List Addr} (r : Rl c ps ow σ ρ P F H) (x : Vp c ps ow σ ρ F H P' k d v F' H' A) (hps : Fre ps i) (hl : i < ρ.length) : Rl c ps (setO i k ow) (σ.set i (some v)) (ρ.set i (some d)) P' F' H' where
  gd := x.rl.gd
  len := by rw [List.length_set, List.length_set]; exact r.len
  psl := fun j e => by
    obtain ⟨p, q, h1, h2⟩ := x.rl.psl j e
    refine ⟨p, q, h1, ?_⟩
    rw [List.getElem?_set_ne (fun z => hps.1 (by rw [e, z]))]
    exact h2
  scl := fun e => by
    obtain ⟨a, h1, h2⟩ := x.rl.scl e
    exact ⟨a, h1, by rw [List.getElem?_set_ne (hps.2 e)]; exact h2⟩
  fz := fun j e h1 h2 => by
    rw [setO_lookup] at h2
    by_cases hj : j = i
    · subst hj
      rw [if_pos rfl] at h2
      rw [List.getElem?_set_self hl] at h1
      cases h1
      have hk : k = 0 := by
        by_cases hk : k = 0
        · exact hk
        · rw [if_neg hk] at h2; cases h2
      subst hk
      exact ⟨v, List.getElem?_set_self (by rw [r.len]; exact hl), x.rp⟩
    · rw [if_neg hj] at h2
      rw [List.getElem?_set_ne (Ne.symm hj)] at h1
      obtain ⟨u, a, b⟩ := x.rl.fz j e h1 h2
      exact ⟨u, by rw [List.getElem?_set_ne (Ne.symm hj)]; exact a, b⟩
  own := by
    obtain ⟨Am, h1, h2⟩ := x.rl.own
    have notA : ∀ j l, ow.lookup j = some l → ∀ a ∈ Am j, a ∉ A := fun j l e a ha z => by
      obtain ⟨u, y, _, b, o, _, _⟩ := h1 j l e
      exact r.notown (P' := P') x.st (x.fr a z).2 j l u y (Am j) e b o ha
    refine ⟨fun j => if j = i then A else Am j, fun j l e => ?_, fun a b l m e1 e2 hab q hq => ?_⟩
    · rw [setO_lookup] at e
      by_cases hj : j = i
      · subst hj
        rw [if_pos rfl] at e
        have hk : k ≠ 0 := fun z => by rw [if_pos z] at e; cases e
        rw [if_neg hk] at e
        cases e
        refine ⟨v, d, List.getElem?_set_self hl, List.getElem?_set_self (by rw [r.len]; exact hl), ?_, ?_, ?_⟩
        · dsimp only; rw [if_pos rfl]; exact x.ow
        · dsimp only; rw [if_pos rfl]; exact x.nd
        · dsimp only; rw [if_pos rfl]; exact fun a ha => ⟨(x.fr a ha).1, r.gd.dm a (x.fr a ha).2, np_of r.gd (x.fr a ha).2⟩
      · rw [if_neg hj] at e
        obtain ⟨u, y, a, b, o⟩ := h1 j l e
        dsimp only
        rw [if_neg hj]
        exact ⟨u, y, by rw [List.getElem?_set_ne (Ne.symm hj)]; exact a, by rw [List.getElem?_set_ne (Ne.symm hj)]; exact b, o⟩
    · rw [setO_lookup] at e1 e2
      dsimp only at hq ⊢
      by_cases ha : a = i
      · subst ha
        rw [if_pos rfl] at hq
        rw [if_neg (Ne.symm hab)] at e2 ⊢
        exact fun z => notA b m e2 q z hq
      · rw [if_neg ha] at e1 hq
        by_cases hb : b = i
        · rw [if_pos hb]; exact notA a l e1 q hq
        · rw [if_neg hb] at e2 ⊢
          exact h2 a b l m e1 e2 hab q hq
theorem s1_set {i k : Nat} {x : Str} {e : Expr} {f : Rho → M D} {pos pos' : Pos} (O : Ok J) (h : Se J ow e k f) (hps : Fre J.ps i := by exact ⟨by simp, by simp⟩) (hN : J.X.N[i]? = some x := by rfl) (hx : Loc J.X.env.scope x := by first | exact Or.inl rfl | exact Or.inr rfl) (hs : swapsWith e (some (.Name x pos')) pos.line J.X.env = pure false := by rfl)
    (hf : J.X.fn x = true ∨ J.X.env.scope.names.lookup x = some .local := by first | exact .inl rfl | exact .inr rfl) : S1 J ow (setO i k ow) owl kr (.Assign [.Name x pos'] e pos) (sSet i f) := by
  obtain ⟨t, p, q⟩ := h
  refine ⟨_, ps_set O.nd hN hx p hs hf, fun c σ ρ P F H E hc r w => ?_⟩
  refine q c σ ρ P F H _ hc r (w.bnd.mono (fun d P1 h1 v F1 H1 A z => ?_) ErrS.e)
  by_cases hl : i < ρ.length
  · rw [if_pos hl] at h1
    exact Wp.ok h1 _ F1 H1 (r.store z hps hl) z.st.fs
  · rw [if_neg hl] at h1; exact h1.elim
theorem s1_setLc {i k : Nat} {y : Str} {elt tg iter : Expr} {ifs : List Expr} {sc : Scope} {own : List (Str × Nat)} {py pos spos : Pos} {ts : List Nat} {fi : Rho → M (List D)} {g : D → Rho → Option Rho} {tt : Rho → M Bool} {te : Rho → M D} (O : Ok J) (hi : SiC J ow tg iter fi) (ok : BlkOk J.X.N J.X.env.scope sc own)
    (hg : ∀ b, Gt (J.blk sc b) ow tg ts g) (ht : Ts J ow sc ifs tt) (he : ∀ b, Se (J.blk sc b) ow elt k te) (hsw : swapsWith (.ListComp elt [⟨tg, iter, ifs, 0⟩] sc pos) (some (.Name y py)) spos.line J.X.env = pure true)
    (hps : Fre J.ps i := by exact ⟨by simp, by simp⟩) (hN : J.X.N[i]? = some y := by rfl) (hyl : J.X.env.scope.names.lookup y = some .local := by rfl)
    (hts : ∀ i ∈ ts, i ∈ own.map (·.2) := by decide) (hvs : ∀ v ∈ own.map (·.2), ow.lookup v = none ∧ Fre J.ps v := by first | (simp [Fre]; done) | (simp [setO, unO, Fre]; done)) (hs : ∀ x, foldedSetIterable iter J.X.env x = pure x := by intro _; rfl) :
    S1 J ow (setO i (k + 1) ow) owl kr (.Assign [.Name y py] (.ListComp elt [⟨tg, iter, ifs, 0⟩] sc pos) spos) (sSet i (eLc (own.map (·.2)) fi g tt te)) := by
  obtain ⟨wi, gg, tg', ee, pi, pg, pt, pe, q⟩ := lc_run hi hg ht he hts hvs
  refine ⟨_, ps_setLc O.c O.nd hN hyl hsw pi ok (fun s H C cl fp => pg ⟨s, H, C, cl, fp⟩) (fun s H C cl fp => pt ⟨s, H, C, cl, fp⟩) (fun s H C cl fp => pe ⟨s, H, C, cl, fp⟩) hs, fun c σ ρ P F H E hc r w => ?_⟩
  refine q c σ ρ P F H _ hc r (w.bnd.mono (fun d P1 h1 v F1 H1 A z => ?_) ErrS.e)
  by_cases hl : i < ρ.length
  · rw [if_pos hl] at h1
    exact Wp.ok h1 _ F1 H1 (r.store z hps hl) z.st.fs
  · rw [if_neg hl] at h1; exact h1.elim
/-- target = e -/
def sAsg (g : D → Rho → Option Rho) (f : Rho → M D) : Rho → M Oc := fun ρ => bnd (f ρ) fun d => bnd (lift (g d ρ)) fun ρ' => ret (.nx ρ')
theorem s1_asg {tg e : Expr} {ts : List Nat} {g : D → Rho → Option Rho} {f : Rho → M D} {pos : Pos} (h : Se J ow e 0 f) (hg : Gt J ow tg ts g) (hs : swapsWithSole [tg] e pos.line J.X.env = pure false := by rfl) (hw : swappedStores [tg] e J.X.env = pure none := by rfl)
    (h1 : (assignEach [tg] J.X.env).map (·.2) = [assign tg J.X.env] := by rfl) : S1 J ow ow owl kr (.Assign [tg] e pos) (sAsg g f) := by
  obtain ⟨t, p, q⟩ := h
  obtain ⟨u, p2, q2⟩ := hg
  refine ⟨_, ps_asg p p2 hs hw h1, fun c σ ρ P F H E hc r w => ?_⟩
  refine q c σ ρ P F H _ hc r (w.bnd.mono (fun d P1 h1 v F1 H1 A z => ?_) ErrS.e)
  obtain ⟨ρ', e', k⟩ := (Wp.bnd h1).lift
  exact q2 c σ ρ ρ' P1 F1 H1 v d _ z.rl z.rp e' fun σ' _ r' => Wp.ok k σ' F1 H1 r' z.st.fs

/-! ### for -/
def forF (g : D → Rho → Option Rho) (fb : Rho → M Oc) : List D → Rho → M Oc
  | [], ρ => ret (.nx ρ)
  | d :: ds, ρ => bnd (lift (g d ρ)) fun ρ1 => bnd (fb ρ1) fun oc => match oc with
    | .nx ρ2 => forF g fb ds ρ2
    | .ct ρ2 => forF g fb ds ρ2
    | .bk ρ2 => ret (.nx ρ2)
    | .rt d => ret (.rt d)
def sFor (fi : Rho → M (List D)) (g : D → Rho → Option Rho) (fb : Rho → M Oc) : Rho → M Oc := fun ρ => bnd (fi ρ) fun ds => forF g fb ds ρ
theorem s1_for {tg iter : Expr} {body : List Stmt} {ts : List Nat} {fi : Rho → M (List D)} {g : D → Rho → Option Rho} {fb : Rho → M Oc} {pos : Pos} (O : Ok J) (hp : PassesOwn (model J.X.prog J.X.w) J.X.A J.X.env J.X.xe) (hi : Si J ow tg iter fi) (hg : Gt J ow tg ts g) (hb : Ss J ow ow ow kr body fb)
    (hs : ∀ x, foldedSetIterable iter J.X.env x = pure x := by intro _; rfl) : S1 J ow ow owl kr (.For tg iter body [] pos) (sFor fi g fb) := by
  obtain ⟨wi, pi, qi⟩ := hi
  obtain ⟨gg, pg, qg⟩ := hg
  obtain ⟨tb, pb, qb⟩ := hb
  refine ⟨_, ps_for hp O.c pi pg pb hs, fun c σ ρ P F H E hc r w => ?_⟩
  refine qi c σ ρ P F H _ hc r (w.bnd.mono (fun ds P1 h1 I F1 H1 r1 s1 hI => ?_) ErrS.e)
  refine ⟨fun i m σ2 H2 => i + m = ds.length ∧ ∃ ρ2 P2 F2, Rl c J.ps ow σ2 ρ2 P2 F2 H2 ∧ Same F1 F2 ∧ Wp (forF g fb (ds.drop i) ρ2 P2) (StP J c ow owl kr F1 E) (ErrS J c), ⟨ds.length, by omega, ρ, P1, F1, r1, .refl _, Wp.mono h1 (fun oc p h => StP.sub s1.fs oc p h) fun _ _ h => h⟩, fun i m σ2 H2 ⟨hm, ρ2, P2, F2, r2, s2, w2⟩ => ?_⟩
  obtain ⟨hstop, hgo⟩ := hI F2 H2 s2 r2.gd.sub i
  by_cases hi : ds.length ≤ i
  · rw [List.drop_eq_nil_of_le hi] at w2
    exact .inl ⟨hstop hi, Wp.ok w2 σ2 F2 H2 r2 s2⟩
  · have hi' : i < ds.length := Nat.lt_of_not_le hi
    obtain ⟨d, hd⟩ : ∃ d, ds[i]? = some d := ⟨_, List.getElem?_eq_getElem hi'⟩
    obtain ⟨go, hy⟩ := hgo d hd
    refine .inr ⟨go, fun σ' H' => ∃ ρ3 P3 F3, Rl c J.ps ow σ' ρ3 P3 F3 H' ∧ Same F1 F3 ∧ Wp (forF g fb (ds.drop (i + 1)) ρ3 P3) (StP J c ow owl kr F1 E) (ErrS J c), fun σ' H' h => ⟨m - 1, by omega, by omega, h⟩, fun x H3 hx => ?_⟩
    obtain ⟨F3, nw⟩ := hy x H3 hx
    have x3 := r2.nw nw
    rw [List.drop_eq_getElem_cons hi', (Option.some.inj ((List.getElem?_eq_getElem hi').symm.trans hd))] at w2
    obtain ⟨ρ1, e1, w3⟩ := Wp.lift (Wp.bnd (show Wp (bnd (lift (g d ρ2)) (fun ρ1 => bnd (fb ρ1) fun oc => match oc with
      | .nx ρ2 => forF g fb (ds.drop (i + 1)) ρ2
      | .ct ρ2 => forF g fb (ds.drop (i + 1)) ρ2
      | .bk ρ2 => ret (.nx ρ2)
      | .rt d => ret (.rt d)) P2) _ _ from w2))
    refine qg c σ2 ρ2 ρ1 P2 F3 H3 x d _ x3.rl x3.rp e1 fun σ4 _ r4 => ?_
    refine qb c σ4 ρ1 P2 F3 H3 _ hc r4 (Wp.mono (Wp.bnd w3) (fun oc P5 h5 => ?_) fun _ _ h => h)
    have s3 := s2.trans nw.fs
    cases oc with
    | nx ρ5 => exact fun σ5 F5 H5 r5 s5 => ⟨ρ5, P5, F5, r5, s3.trans s5, h5⟩
    | ct ρ5 => exact fun σ5 F5 H5 r5 s5 => ⟨ρ5, P5, F5, r5, s3.trans s5, h5⟩
    | bk ρ5 => exact fun σ5 F5 H5 r5 s5 => Wp.ok h5 σ5 F5 H5 r5 (s3.trans s5)
    | rt d => exact fun v H' q => Wp.ok h5 v H' q
/-! ### while, with a count of the turns -/
def whileF (t : Rho → M Bool) (fb : Rho → M Oc) : Nat → Rho → M Oc
  | 0, _ => stuck
  | n + 1, ρ => bnd (t ρ) fun b => if b = true then bnd (fb ρ) fun oc => match oc with
    | .nx ρ2 => whileF t fb n ρ2
    | .ct ρ2 => whileF t fb n ρ2
    | .bk ρ2 => ret (.nx ρ2)
    | .rt d => ret (.rt d) else ret (.nx ρ)
theorem s1_while {e : Expr} {body : List Stmt} {t : Rho → M Bool} {fb : Rho → M Oc} {pos : Pos} (n : Nat) (O : Ok J) (hp : PassesOwn (model J.X.prog J.X.w) J.X.A J.X.env J.X.xe) (ht : Te J ow e t) (hb : Ss J ow ow ow kr body fb) : S1 J ow ow owl kr (.While e body [] pos) (whileF t fb n) := by
  obtain ⟨tt, pt, qt⟩ := ht
  obtain ⟨tb, pb, qb⟩ := hb
  refine ⟨_, ps_while hp pt pb, fun c σ ρ P F H E hc r w => ?_⟩
  refine ⟨fun m σ2 H2 => ∃ ρ2 P2 F2, Rl c J.ps ow σ2 ρ2 P2 F2 H2 ∧ Same F F2 ∧ Wp (whileF t fb m ρ2 P2) (StP J c ow owl kr F E) (ErrS J c), ⟨n, ρ, P, F, r, .refl _, w⟩, fun m σ2 H2 ⟨ρ2, P2, F2, r2, s2, w2⟩ => ?_⟩
  cases m with
  | zero => exact w2.elim
  | succ m =>
    refine qt c σ2 ρ2 P2 F2 H2 _ hc r2 (Wp.mono (Wp.bnd w2) (fun b P3 h3 F3 H3 r3 s3 => ?_) ErrS.e)
    cases b with
    | false => exact Wp.ok h3 σ2 F3 H3 r3 (s2.trans s3.fs)
    | true =>
      refine ⟨fun σ' H' => ∃ ρ5 P5 F5, Rl c J.ps ow σ' ρ5 P5 F5 H' ∧ Same F F5 ∧ Wp (whileF t fb m ρ5 P5) (StP J c ow owl kr F E) (ErrS J c), fun σ' H' h => ⟨m, Nat.lt_succ_self m, h⟩, ?_⟩
      refine qb c σ2 ρ2 P3 F3 H3 _ hc r3 (Wp.mono (Wp.bnd h3) (fun oc P5 h5 => ?_) fun _ _ h => h)
      have s4 := s2.trans s3.fs
      cases oc with
      | nx ρ5 => exact fun σ5 F5 H5 r5 s5 => ⟨ρ5, P5, F5, r5, s4.trans s5, h5⟩
      | ct ρ5 => exact fun σ5 F5 H5 r5 s5 => ⟨ρ5, P5, F5, r5, s4.trans s5, h5⟩
      | bk ρ5 => exact fun σ5 F5 H5 r5 s5 => Wp.ok h5 σ5 F5 H5 r5 (s4.trans s5)
      | rt d => exact fun v H' q => Wp.ok h5 v H' q
end

/-! ### a def -/
def bodyF (kr : Nat) (fb : Rho → M Oc) (ρ : Rho) : M D := bnd (fb ρ) fun oc => match oc with
  | .nx _ => if kr = 0 then ret .none else stuck
  | .rt d => ret d
  | _ => stuck
def rho0 (hp : Bool) (m : Nat) (ds : List D) : Rho := (if hp then [none] else []) ++ ds.map some ++ List.replicate (m - (ds.length + if hp then 1 else 0)) none
abbrev jd (P : Program) (w : World) (K : PySem.W.Frag) (mg : Str → Option Value) (base : Heap) (N : List Str) (qual : Str) (sc : Scope) (f : Addr) (cdv : Value) (B : Around) (up : List Env) (s : Shared) (H : Hp) (E : XK) (cl : String → Addr) (ps : Option Nat) : Jd :=
  { X := cxOf (L2.CX P w) P w K mg base N qual sc f cdv B up s H E, W := fun cls d _ H => E cls d H, cl := cl, ps := (ps, false) }
section
variable {P : Program} {w : World} {K : PySem.W.Frag} {mg : Str → Option Value} {base : Heap}
theorem Rps.slots {F : Hp} {vs : List V} {ds : List D} (r : Rps F vs ds) : ∀ (i : Nat) (d : D), (ds.map some)[i]? = some (some d) → ∃ v, (vs.map some)[i]? = some (some v) ∧ Rp F v d := fun i d e => by
  rw [List.getElem?_map] at e
  cases z : ds[i]? with
  | none => rw [z] at e; cases e
  | some x =>
    rw [z] at e; cases e
    obtain ⟨v, h1, h2⟩ := r.get' z
    exact ⟨v, by rw [List.getElem?_map, h1]; rfl, h2⟩
theorem slots_some {F : Hp} {vs : List V} {ds : List D} (m n : Nat) (r : Rps F vs ds) (i : Nat) (d : D) (e : (ds.map some ++ List.replicate m none)[i]? = some (some d)) : ∃ v, (vs.map some ++ List.replicate n none)[i]? = some (some v) ∧ Rp F v d := by
  by_cases hi : i < ds.length
  · rw [List.getElem?_append_left (by simpa using hi)] at e
    obtain ⟨v, a, b⟩ := r.slots i d e
    exact ⟨v, by rw [List.getElem?_append_left (by rw [List.length_map, r.length]; exact hi)]; exact a, b⟩
  · rw [List.getElem?_append_right (by simpa using hi), List.getElem?_replicate] at e
    split at e <;> cases e
theorem fn_def {x qual : Str} {st : Stmt} {f : Addr} {fd : FuncData} {N prs : List Str} {k n kr : Nat} {cl : String → Addr} {ow' : Owns} {fb : Rho → M Oc} (hp : Bool) (G : Fun K x qual st f fd) (S : FnScope N prs (defScope st)) (hn : prs.length = n + (if hp then 1 else 0)) (hm : prs.length ≤ N.length)
    (body : ∀ (cdv : Value) (B : Around) (up : List Env) (s : Shared) (H : Hp) (E : XK), Ok (jd P w K mg base N qual (defScope st) f cdv B up s H E cl (if hp then some 0 else none)) → PassesOwn (model P w) (jd P w K mg base N qual (defScope st) f cdv B up s H E cl (if hp then some 0 else none)).X.A (jd P w K mg base N qual (defScope st) f cdv B up s H E cl (if hp then some 0 else none)).X.env (jd P w K mg base N qual (defScope st) f cdv B up s H E cl (if hp then some 0 else none)).X.xe →
      Room k (jd P w K mg base N qual (defScope st) f cdv B up s H E cl (if hp then some 0 else none)).X.A → Ss (jd P w K mg base N qual (defScope st) f cdv B up s H E cl (if hp then some 0 else none)) [] ow' [] kr (defBody st) fb) :
    FnG P w K mg base (k + 1) f fd prs (spD cl hp n kr fun ds => bodyF kr fb (rho0 hp N.length ds)) := by
  refine fnG_of G S (spD_len hn) fun cdv B up s H vs Q E hg hr ⟨F, pa, P0, ds, ws, hv, hw, rp, sub, pool, wp⟩ => ?_
  have O : Ok (jd P w K mg base N qual (defScope st) f cdv B up s H E cl (if hp then some 0 else none)) := ⟨hg, rfl, by have := hr.un; show (B.deeper _).units + 200 < cLine; omega, takes_of rfl rfl rfl rfl, S.nd, hr.hd⟩
  obtain ⟨t, pt, qt⟩ := body cdv B up s H E O (passes_of rfl) hr
  refine ⟨t, pt, ?_⟩
  let c : Ctx := ⟨H, F, pa, cl, none⟩
  have gd : Gd c P0 F H := ⟨sub, .refl _, fun _ _ h => .inl h, fun _ _ h _ => h, fun _ h => h, pool⟩
  have ld : ds.length = n := rp.length.symm.trans hw
  have rl : Rl c ((if hp then some 0 else none), false) [] (L2.start N vs) (rho0 hp N.length ds) P0 F H := by
    cases hp with
    | false =>
      cases pa with
      | some q => exact hv.elim
      | none =>
        have ev : vs = ws := hv
        subst ev
        refine ⟨gd, ?_, (fun i e => by cases e), (fun e => by cases e), fun i d e _ => ?_, fun _ => [], (fun i k e => by cases e), (fun i j k l e => by cases e)⟩
        · simp only [L2.start, rho0, List.length_append, List.length_map, List.length_replicate, Bool.false_eq_true, if_false, List.nil_append, hw, ld, Nat.add_zero]
        · unfold rho0 at e
          unfold L2.start
          simp only [Bool.false_eq_true, if_false, List.nil_append, Nat.add_zero] at e
          exact slots_some _ _ rp i d e
    | true =>
      cases pa with
      | none => exact hv.elim
      | some q =>
        obtain ⟨p, q⟩ := q
        have ev : vs = .ref p :: ws := hv
        subst ev
        refine ⟨gd, ?_, fun i e => ?_, (fun e => by cases e), fun i d e _ => ?_, fun _ => [], (fun i k e => by cases e), (fun i j k l e => by cases e)⟩
        · simp [L2.start, rho0, hw, ld]
        · cases e; exact ⟨p, q, rfl, rfl⟩
        · unfold rho0 at e
          unfold L2.start
          cases i with
          | zero => cases e
          | succ i =>
            simp only [if_true, List.cons_append, List.nil_append, List.getElem?_cons_succ, List.map_cons] at e ⊢
            exact slots_some _ _ rp i d e
  refine qt c (L2.start N vs) (rho0 hp N.length ds) P0 F H _ ⟨rfl, trivial⟩ rl (Wp.mono (Wp.bnd wp) (fun oc P1 h1 => ?_) fun x P1 h1 cls dd σ' F' H' g e => h1 cls dd F' H' g e)
  cases oc with
  | nx ρ1 =>
    intro σ1 F1 H1 r1 s1
    by_cases hk : kr = 0
    · subst hk
      exact (show ∀ v H', Rt c 0 P1 .none v H' → Q v H' from h1) V.non H1 (r1.rt (r1.vp .non))
    · change Wp ((if kr = 0 then ret PyData.none else stuck) P1) _ _ at h1
      rw [if_neg hk] at h1
      exact h1.elim
  | rt d => exact fun v H1 q => Wp.ok h1 v H1 q
  | bk ρ1 => exact h1.elim
  | ct ρ1 => exact h1.elim
end
end DL

end
section
set_option Elab.async false
set_option linter.all false
set_option maxRecDepth 100000
set_option maxHeartbeats 4000000
namespace L2
open PySem PySem.Spec PyProof.Rows
section
variable {P : Program} {w : World} {A : Around} {E : Value → Shared → Prop} {s : Shared}
set_option maxRecDepth 100000 in
set_option maxHeartbeats 3200000 in
theorem call_set_lstI {l : Addr} {items : Array Value} (ns : List Int) {Q : Value → Shared → Prop} (hh : A.handled = none) (hl : s.heap.IsList l items) (hit : IntsAre items.toList ns) (hb : ns.length + 1 < scanBound)
    (h : ∀ (h' : Heap) (tk c : Nat), SetR w h' s.heap.objs.size (fun j => decide (j ∈ ns)) c → c ≤ ns.length → (∀ b o, s.heap.get? b = some o → h'.get? b = some o) → Q (.ref s.heap.objs.size) { s with heap := h', toks := tk }) :
    wpAny (model P w) A (call (.type "set") [.ref l]) Q E s := by
  have sizeEq : items.size = ns.length := by
    have q := IntsAre.length hit
    rw [Array.length_toList] at q
    exact q
  obtain ⟨c, tl, mro0⟩ := F.called_set.mro
  have mk0 := F.called_set.made
  have sb0 := F.called_set.sub
  refine wpAny_call (codeAny_of_tree ?_)
  show wpAny _ _ (callAny (.type "set") _) _ _ _
  refine wpAny_pure ⟨Code.quiet_builtin _ (by decide +kernel), codeAny_builtin F.entry_type_call ?_⟩
  rw [Around.under_plain (weight_type_call_type "set" [.ref l] []) rfl]
  have h1 := F.called_set.notType
  have h2 := F.called_set.canCreate
  have tc0 := F.typeCall_set_1 (.ref l)
  repeat (any_goals (first | assumption | wp_step))

  refine codeAny_mono (code_set_led1 (.ref l) (E := E) (Q₁ := fun obj s₁ => obj = .ref s.heap.objs.size ∧ s₁ = { s with heap := s.heap.push { cls := .type "set", dict := none, data := .set #[] 0 (.fresh 0 0 (!w.params.followText "set-order")) } }) ⟨rfl, rfl⟩) fun r s₁ hr => ?_
  cases r with
  | error e => exact hr
  | ok fl =>
    cases fl with
    | ret obj =>
      obtain ⟨rfl, rfl⟩ := hr
      have hS : (s.heap.push { cls := .type "set", dict := none, data := .set #[] 0 (.fresh 0 0 (!w.params.followText "set-order")) }).get? s.heap.objs.size = some { cls := .type "set", dict := none, data := .set #[] 0 (.fresh 0 0 (!w.params.followText "set-order")) } := Heap.get?_push_size _ rfl
      have hT : Shared.TypeIs { s with heap := s.heap.push { cls := .type "set", dict := none, data := .set #[] 0 (.fresh 0 0 (!w.params.followText "set-order")) } } (.ref s.heap.objs.size) "set" := ⟨_, hS, rfl⟩
      have hli := F.called_set.init.lookup
      have hbi := F.called_set.init.bind (.ref s.heap.objs.size)
      repeat (any_goals (first | assumption | wp_step))

      refine codeAny_mono (codeAny_call_builtin (R := wants (fun r s₂ => r = .none ∧ ∃ h' tk c, s₂ = { s with heap := h', toks := tk } ∧ SetR w h' s.heap.objs.size (fun j => decide (j ∈ ns)) c ∧ c ≤ ns.length ∧
          (∀ b o, s.heap.get? b = some o → h'.get? b = some o)) E) F.called_set.init.plain F.entry_set_init (check_set_init_1 hT ?_)) fun r₂ s₂ hEnd => ?_
      · obtain ⟨ol, obL, hcl, nl, hdl⟩ := hl
        obtain ⟨ocls, odict, odata, oslots⟩ := ol
        simp only at hcl hdl
        subst hcl; subst hdl
        have obL' : (s.heap.push { cls := .type "set", dict := none, data := .set #[] 0 (.fresh 0 0 (!w.params.followText "set-order")) }).get? l = some { cls := .type "list", dict := odict, data := .seq items nl, slots := oslots } := Heap.get?_push_of_some _ obL
        have sl1 := F.sub_list_set
        have sl2 := F.sub_list_frozenset
        have hne : (Value.type "list" == Value.type "dict") = false := by decide
        have isL1 : (s.heap.push { cls := .type "set", dict := none, data := .set #[] 0 (.fresh 0 0 (!w.params.followText "set-order")) }).IsList l items := ⟨_, obL', rfl, nl, rfl⟩
        unfold Builtin.«set.__init__» noKeywords Builtin.Frozenset.updateFrom
        generalize hPI : pyIter = PI
        wp_walk
        subst hPI

        refine wpAny_pyIter_list isL1 ?_
        refine wpAny_bind (wpAny_runValue ?_)
        have hlS : l < s.heap.objs.size := Heap.lt_size obL
        have hh3 : A.in1.in1.in1.handled = none := by simp [hh]
        have hz1 : (s.heap.push { cls := .type "set", dict := none, data := .set #[] 0 (.fresh 0 0 (!w.params.followText "set-order")) }).objs.size = s.heap.objs.size + 1 := Heap.size_push ..
        have neIt : l ≠ (s.heap.push { cls := .type "set", dict := none, data := .set #[] 0 (.fresh 0 0 (!w.params.followText "set-order")) }).objs.size := by
          rw [Heap.size_push]; exact Nat.ne_of_lt (Nat.lt_succ_of_lt hlS)
        have hSf : s.heap.objs.size ∉ [(s.heap.push { cls := .type "set", dict := none, data := .set #[] 0 (.fresh 0 0 (!w.params.followText "set-order")) }).objs.size, l] := by
          rw [Heap.size_push]; simp only [List.mem_cons, List.mem_singleton, List.not_mem_nil, or_false, not_or]
          exact ⟨Nat.ne_of_lt (Nat.lt_succ_self _), Nat.ne_of_gt hlS⟩
        have valAt : ∀ (i : Nat) (v : Value), items[i]? = some v → ∃ k t, ns[i]? = some k ∧ v = .int k t := fun i v hv => by
          have hi : i < ns.length := by rw [← sizeEq]; exact (Array.getElem?_eq_some_iff.mp hv).1
          obtain ⟨t, e⟩ := PyProof.Rows.IntsAre.int_at hit i v (by rw [Array.getElem?_toList]; exact hv)
          refine ⟨ns[i], t, List.getElem?_eq_getElem hi, ?_⟩
          rw [e, List.getD_eq_getElem?_getD, List.getElem?_eq_getElem hi] <;> rfl
        refine set_update_ints ((Walks.list hh3 _ l neIt items).toS) s.heap.objs.size
          hSf ns sizeEq hb valAt (items.size - 0) 0 _ (by omega) (Nat.zero_le _)
          ⟨⟨_, Heap.get?_push_size _ rfl, rfl, rfl⟩, (isL1.push _)⟩ ?hS0 ?hR
        case hS0 =>
          have hget : ((s.heap.push { cls := .type "set", dict := none, data := .set #[] 0 (.fresh 0 0 (!w.params.followText "set-order")) }).push { cls := .type "list_iterator", data := .fields #[.ref l, .int 0 0] }).get? s.heap.objs.size
              = some { cls := .type "set", dict := none, data := .set #[] 0 (.fresh 0 0 (!w.params.followText "set-order")) } := Heap.get?_push_of_some _ hS
          exact ⟨0, Nat.le_refl 0, setR_new_at hget⟩
        case hR =>
          intro s' c' hm hc' hS'
          obtain ⟨h', g2, d', tk', os'⟩ := s'
          have eg : g2 = s.gens := hm.gens
          have ed : d' = s.drawn := hm.drawn
          have eo : os' = s.os := hm.os
          subst eg; subst ed; subst eo
          show wpAny _ _ _ _ _ _
          refine wpAny_pure ?_
          show wpAny _ _ (ret Value.none) _ _ _
          rw [sizeEq] at hc'
          refine wpAny_pure ⟨rfl, h', tk', c', rfl, hS', hc', fun b o e => ?_⟩
          have hb0 : b < s.heap.objs.size := Heap.lt_size e
          have hb1 : b ≠ s.heap.objs.size := Nat.ne_of_lt hb0
          have hb2 : b ≠ (s.heap.push { cls := .type "set", dict := none, data := .set #[] 0 (.fresh 0 0 (!w.params.followText "set-order")) }).objs.size := by
            rw [Heap.size_push]; exact Nat.ne_of_lt (Nat.lt_succ_of_lt hb0)
          exact hm.heap b o (by simp only [List.mem_cons, List.mem_singleton, List.not_mem_nil, or_false, not_or]; exact ⟨hb1, hb2⟩) (Heap.get?_push_of_some _ (Heap.get?_push_of_some _ e))

      · cases r₂ with
        | error e => exact hEnd
        | ok fl₂ =>
          cases fl₂ with
          | ret r =>
            obtain ⟨rfl, h', tk, c', rfl, hS', hc', hk'⟩ := hEnd
            repeat (any_goals (first | assumption | wp_step))
            exact h _ _ _ hS' hc' hk'
          | _ => exact hEnd.elim
    | _ => exact hr.elim

end
end L2
namespace DL
open PySem PySem.Spec L2
def tSortSet (K : PySem.W.Frag) (ta : TE) : TE := fun σ H Q => ta σ H fun x H1 => ∃ (l : Addr) (ns ds : List Int), x = .ref l ∧ SqL K H1 l (ns.map V.int) ∧ ns.length < 4000 ∧ ds.Nodup ∧ (∀ k, k ∈ ds ↔ k ∈ ns) ∧ ds.length < 64 ∧
  ∀ (ms : List Int) (p : Addr), ms.Pairwise (· < ·) → (∀ k : Int, k ∈ ms ↔ k ∈ ns) → H1 p = none → Q (.ref p) (upd H1 p (.lst (ms.map V.int)))
/-- sorted(set(xs)), xs a list of fewer than 4000 ints, fewer than 64 unlike ones -/
theorem pe_sortSet {X : Cx} {a : Expr} {ta : TE} {p p2 q pos : Pos} (hc : X.calm = true) (hg : Gl X "sorted") (hm : X.mg "sorted" = none) (hg2 : Gl X "set") (hm2 : X.mg "set" = none) (ha : PE X a ta)
    (na : starEach [a] X.env = (false, eval a X.env) :: starEach [] X.env := by rfl) : PE X (.Call (.Name "sorted" p) [.Call (.Name "set" p2) [a] [] q] [] pos) (tSortSet X.K ta) := by
  refine ⟨fun pins s σ H Q I h => PyProof.Rows.Call_ (ld_blt I hg hm PyProof.Rows.boot_sorted (PyProof.Rows.callWith_builtin1 (PyProof.Rows.args_cons ?_ rfl) rfl rfl))⟩
  refine PyProof.Rows.Call_ (ld_blt I hg2 hm2 PyProof.Rows.boot_set (PyProof.Rows.callWith_type1 (PyProof.Rows.args_cons (thn (ha.run pins s σ H _ I h) fun v s1 ⟨x, H1, I1, r1, l, ns, ds, ex, hq, h4k, dn, dm, d64, q1⟩ => PyProof.Rows.args_nil ?_) na) na rfl))
  subst ex
  cases r1
  obtain ⟨its, r, pl, hz⟩ := I1.list hq
  refine call_set_lstI ns (I1.ok.hd hc) pl.isList (by simpa using r.ints) (by unfold scanBound; omega) fun h' tk c hS hcn hk => PyProof.Rows.args_nil ?_
  have I2 : Inv X pins σ H1 { s1 with heap := h', toks := tk } := I1.kept hk
  have h64 : c < 64 := by
    obtain ⟨o, es, ep, t, _, _, _, _, nd, hm, _, _, hn, _, _⟩ := hS
    have pm : (es.toList.map keyOf).Perm ds := (List.perm_ext_iff_of_nodup nd dn).mpr fun k => by rw [← hm k, dm k]; simp
    have := pm.length_eq
    rw [List.length_map, Array.length_toList, hn] at this
    omega
  refine sorted_set hS (I1.ok.hd hc) (by omega) fun s' p out c ms k g o hp hg hi hs hmem hl => ?_
  have le : (ms.map V.int).length ≤ sizeLine := by rw [List.length_map, hl, sizeLine_eq]; omega
  have hn : H1 p = none := I2.hok.fresh hp
  have J : Inv X pins σ (upd H1 p (.lst (ms.map V.int))) { ({ s1 with heap := h', toks := tk } : Shared) with heap := s'.heap, gens := s'.gens, drawn := s'.drawn, toks := s'.toks } :=
    I2.call (ch := []) (Un.laid k hp hn) (I2.hok.laid k hp ⟨le, out.toList, c, vals_of_ints hi, hg⟩) (by rw [g]; exact I2.bare) (fun _ z => nomatch z)
  have es : s' = { s1 with heap := s'.heap, gens := s'.gens, drawn := s'.drawn, toks := s'.toks } := by cases s'; cases s1; cases o; rfl
  rw [es]
  exact ⟨.ref p, _, J, rfl, q1 ms p hs (fun k => by rw [hmem k]; simp) hn⟩
end DL

end
section
set_option Elab.async false
set_option linter.all false
set_option maxRecDepth 100000
set_option maxHeartbeats 2000000
namespace DL
open PySem PySem.Spec L2

/-! ### operations on data -/
def LIM : Nat := 1000000
def gSub : D → D → Option D | .int i, .int j => some (.int (i - j)) | _, _ => none
theorem o_sub : Op2 (rI0 fun i j => .int (i - j)) 0 gSub := fun F H x y a b d Q s ha hb e k => by
  cases ha <;> cases hb <;> cases e
  exact ⟨_, _, rfl, rfl, k _ _ _ _ (Nw.same s (.int _))⟩
def small64 (i : Int) : Bool := decide (-(2 ^ 64) < i ∧ i < 2 ^ 64)
def gMul : D → D → Option D
  | .int i, .int j => if small64 i = true ∨ small64 j = true then some (.int (i * j)) else none
  | .list xs, .int j => if j ≤ 1000000 ∧ xs.length * j.toNat ≤ 1000000 ∧ -1000000 ≤ j then some (.list (List.replicate j.toNat xs).flatten) else none
  | _, _ => none
theorem Nw.lst {F H : Hp} (s : Same F H) {p : Addr} {xs : List V} {ds : List D} (hp : H p = none) (h : Rps F xs ds) : Nw F H 0 (.list ds) (.ref p) (upd F p (.lst xs)) (upd H p (.lst xs)) [] := Nw.new s hp fun F' t e => .lst e (h.mono t)
theorem Nw.tup {F H : Hp} (s : Same F H) {p : Addr} {xs : List V} {ds : List D} (hp : H p = none) (h : Rps F xs ds) : Nw F H 0 (.tuple ds) (.ref p) (upd F p (.tup xs)) (upd H p (.tup xs)) [] := Nw.new s hp fun F' t e => .tup e (h.mono t)
theorem o_mul : Op2 (fun x y H Q => rI CMul (fun i j => .int (i * j)) x y H Q ∨ rRep x y H Q) 0 gMul := fun F H x y a b d Q s ha hb e k => by
  cases ha with
  | int i =>
    cases hb with
    | int j =>
      simp only [gMul] at e
      split at e
      · rename_i h; cases e
        refine .inl ⟨i, j, rfl, rfl, ?_, k _ _ _ _ (Nw.same s (.int _))⟩
        simp only [small64, decide_eq_true_eq] at h
        exact h
      · cases e
    | _ => cases e
  | lst h r =>
    cases hb with
    | int j =>
      simp only [gMul] at e
      split at e
      · rename_i c; cases e
        exact .inr ⟨_, j, _, rfl, rfl, s _ _ h, by omega, by omega, line_of (by rw [r.length]; exact c.2.1), fun p hp => k _ _ _ _ (Nw.lst s hp (r.rep _))⟩
      · cases e
    | _ => cases e
  | _ => cases hb <;> cases e
def gAdd : D → D → Option D
  | .int i, .int j => some (.int (i + j))
  | .tuple xs, .tuple ys => if xs.length + ys.length ≤ 1000000 then some (.tuple (xs ++ ys)) else none
  | .list xs, .list ys => if xs.length + ys.length ≤ 1000000 then some (.list (xs ++ ys)) else none
  | .str x, .str y => if x.length + y.length ≤ 1000000 then some (.str (x ++ y)) else none
  | _, _ => none
def rAddA (K : PySem.W.Frag) : R2 := fun x y H Q => rI0 (fun i j => .int (i + j)) x y H Q ∨ rCatA K x y H Q ∨ rCat x y H Q ∨ (∃ i j, x = .str i ∧ y = .str j ∧ i.length + j.length ≤ sizeLine ∧ Q (.str (i ++ j)) H)
theorem op_addA {X : Cx} : OpR X (binaryOp .Add) (rAddA X.K) := op_add.or (op_catA.or (op_cat.or op_add_str))
theorem Rps.nil_iff {F : Hp} {vs : List V} {ds : List D} (r : Rps F vs ds) : vs = [] ↔ ds = [] := by cases r <;> simp
theorem o_add {K : PySem.W.Frag} : Op2 (rAddA K) 0 gAdd := fun F H x y a b d Q s ha hb e k => by
  cases ha with
  | int i => cases hb with
    | int j => cases e; exact .inl ⟨_, _, rfl, rfl, k _ _ _ _ (Nw.same s (.int _))⟩
    | _ => cases e
  | str i => cases hb with
    | str j =>
      simp only [gAdd] at e
      split at e
      · rename_i c; cases e; exact .inr (.inr (.inr ⟨_, _, rfl, rfl, line_of c, k _ _ _ _ (Nw.same s (.str _))⟩))
      · cases e
    | _ => cases e
  | lst h r => cases hb with
    | lst h2 r2 =>
      simp only [gAdd] at e
      split at e
      · rename_i c; cases e
        exact .inr (.inr (.inl ⟨_, _, _, _, rfl, rfl, s _ _ h, s _ _ h2, line_of (by rw [r.length, r2.length]; exact c), fun p hp => k _ _ _ _ (Nw.lst s hp (r.append r2))⟩))
      · cases e
    | _ => cases e
  | tup h r => cases hb with
    | tup h2 r2 =>
      simp only [gAdd] at e
      split at e
      · rename_i c; cases e
        refine .inr (.inl ⟨_, _, _, _, rfl, rfl, .inl (.inl (s _ _ h)), .inl (.inl (s _ _ h2)), line_of (by rw [r.length, r2.length]; exact c), fun z => ?_, fun _ z => ?_, fun _ _ p hp => k _ _ _ _ (Nw.tup s hp (r.append r2))⟩)
        · rw [r.nil_iff.mp z, List.nil_append] at k; exact k _ _ _ _ (Nw.same s (.tup h2 r2))
        · rw [r2.nil_iff.mp z, List.append_nil] at k; exact k _ _ _ _ (Nw.same s (.tup h r))
      · cases e
    | _ => cases e
  | _ => cases hb <;> cases e
def gDiv : D → D → Option D | .int i, .int j => if j ≠ 0 ∧ j.natAbs < 1073741824 then some (.int (i.fdiv j)) else none | _, _ => none
theorem o_div : Op2 (rI CDivN fun i j => .int (i.fdiv j)) 0 gDiv := fun F H x y a b d Q s ha hb e k => by
  cases ha <;> cases hb <;> simp only [gDiv] at e <;> try (cases e)
  split at e
  · rename_i c; cases e; exact ⟨_, _, rfl, rfl, c, k _ _ _ _ (Nw.same s (.int _))⟩
  · cases e
def gMod : D → D → Option D | .int i, .int j => if j ≠ 0 then some (.int (i.fmod j)) else none | _, _ => none
theorem o_mod : Op2 (rI (fun _ j => j ≠ 0) fun i j => .int (i.fmod j)) 0 gMod := fun F H x y a b d Q s ha hb e k => by
  cases ha <;> cases hb <;> simp only [gMod] at e <;> try (cases e)
  split at e
  · rename_i c; cases e; exact ⟨_, _, rfl, rfl, c, k _ _ _ _ (Nw.same s (.int _))⟩
  · cases e
def gPow : D → D → Option D | .int i, .int j => if 0 ≤ j ∧ j ≤ 1000000 ∧ i.natAbs < 2 ^ 64 then some (.int (i ^ j.toNat)) else none | _, _ => none
theorem o_pow : Op2 (rI CPow fun i j => .int (i ^ j.toNat)) 0 gPow := fun F H x y a b d Q s ha hb e k => by
  cases ha <;> cases hb <;> simp only [gPow] at e <;> try (cases e)
  split at e
  · rename_i c; cases e; exact ⟨_, _, rfl, rfl, c, k _ _ _ _ (Nw.same s (.int _))⟩
  · cases e
def gShl : D → D → Option D | .int i, .int j => if 0 ≤ j ∧ j ≤ 1000000 ∧ i.natAbs < 2 ^ 64 then some (.int (i * 2 ^ j.toNat)) else none | _, _ => none
theorem o_shl : Op2 (rI CPow fun i j => .int (i * 2 ^ j.toNat)) 0 gShl := fun F H x y a b d Q s ha hb e k => by
  cases ha <;> cases hb <;> simp only [gShl] at e <;> try (cases e)
  split at e
  · rename_i c; cases e; exact ⟨_, _, rfl, rfl, c, k _ _ _ _ (Nw.same s (.int _))⟩
  · cases e
def gShr : D → D → Option D | .int i, .int j => if 0 ≤ j then some (.int (i / 2 ^ j.toNat)) else none | _, _ => none
theorem o_shr : Op2 (rI (fun _ j => 0 ≤ j) fun i j => .int (i / 2 ^ j.toNat)) 0 gShr := fun F H x y a b d Q s ha hb e k => by
  cases ha <;> cases hb <;> simp only [gShr] at e <;> try (cases e)
  split at e
  · rename_i c; cases e; exact ⟨_, _, rfl, rfl, c, k _ _ _ _ (Nw.same s (.int _))⟩
  · cases e
def gAnd : D → D → Option D | .int i, .int j => some (.int (Builtin.bitAnd i j)) | _, _ => none
theorem o_and : Op2 (rI0 fun i j => .int (Builtin.bitAnd i j)) 0 gAnd := fun F H x y a b d Q s ha hb e k => by
  cases ha <;> cases hb <;> cases e
  exact ⟨_, _, rfl, rfl, k _ _ _ _ (Nw.same s (.int _))⟩
def gOr : D → D → Option D | .int i, .int j => some (.int (Builtin.bitOr i j)) | _, _ => none
theorem o_or : Op2 (rI0 fun i j => .int (Builtin.bitOr i j)) 0 gOr := fun F H x y a b d Q s ha hb e k => by
  cases ha <;> cases hb <;> cases e
  exact ⟨_, _, rfl, rfl, k _ _ _ _ (Nw.same s (.int _))⟩
def gNeg : D → Option D | .int i => some (.int (-i)) | _ => none
theorem o_neg : Op1 (rU fun i => .int (-i)) 0 gNeg := fun F H x a d Q s ha e k => by
  cases ha <;> cases e
  exact ⟨_, rfl, k _ _ _ _ (Nw.same s (.int _))⟩
def gCmp (p : Int → Int → Bool) : D → D → Option D | .int i, .int j => some (.bool (p i j)) | _, _ => none
theorem o_cmp {p : Int → Int → Bool} : Op2 (rI0 fun i j => .bl (p i j)) 0 (gCmp p) := fun F H x y a b d Q s ha hb e k => by
  cases ha <;> cases hb <;> cases e
  exact ⟨_, _, rfl, rfl, k _ _ _ _ (Nw.same s (.bl _))⟩
abbrev gLt := gCmp fun i j => decide (i < j)
abbrev gLe := gCmp fun i j => decide (i ≤ j)
abbrev gGt := gCmp fun i j => decide (j < i)
abbrev gGe := gCmp fun i j => decide (j ≤ i)
/-! == of data -/
mutual
theorem Rp.dp {K : PySem.W.Frag} {F H : Hp} (s : Same F H) : ∀ {v : V} {d : D}, Rp F v d → SeqAt.shaped d = true → Dp K H v d
  | _, _, .non, _ => .non
  | _, _, .bl b, _ => .bl b
  | _, _, .int i, _ => .int i
  | _, _, .str x, _ => .str x
  | _, _, .lst h r, c => .lst (.inl (.inl (s _ _ h))) (Rps.dp s r (by
      have := SeqAt.canLay_of_shaped c
      simpa [PyData.canLay0] using this))
  | _, _, .tup h r, c => .tup (.inl (.inl (s _ _ h))) (Rps.dp s r (by
      have := SeqAt.canLay_of_shaped c
      simpa [PyData.canLay0] using this))
  | _, _, .dK h r, c => by
    have := SeqAt.canLay_of_shaped c
    simp [PyData.canLay0] at this
  | _, _, .dT h r, c => by
    have := SeqAt.canLay_of_shaped c
    simp [PyData.canLay0] at this
theorem Rps.dp {K : PySem.W.Frag} {F H : Hp} (s : Same F H) : ∀ {v : List V} {d : List D}, Rps F v d → PyData.canLayAll0 d = true → DpAll K H v d
  | _, _, .nil, _ => .nil
  | _, _, .cons h r, c => by
    simp only [PyData.canLayAll0, Bool.and_eq_true] at c
    exact .cons (Rp.dpL s h c.1) (Rps.dp s r c.2)
theorem Rp.dpL {K : PySem.W.Frag} {F H : Hp} (s : Same F H) : ∀ {v : V} {d : D}, Rp F v d → PyData.canLay0 d = true → Dp K H v d
  | _, _, .non, _ => .non
  | _, _, .bl b, _ => .bl b
  | _, _, .int i, _ => .int i
  | _, _, .str x, _ => .str x
  | _, _, .lst h r, c => .lst (.inl (.inl (s _ _ h))) (Rps.dp s r (by simpa [PyData.canLay0] using c))
  | _, _, .tup h r, c => .tup (.inl (.inl (s _ _ h))) (Rps.dp s r (by simpa [PyData.canLay0] using c))
  | _, _, .dK h r, c => by simp [PyData.canLay0] at c
  | _, _, .dT h r, c => by simp [PyData.canLay0] at c
end
def gEq : D → D → Option D := fun a b => match a, b with
  | .str x, .str y => some (.bool (decide (x = y)))
  | a, b => if SeqAt.shaped a = true ∧ SeqAt.shaped b = true then some (.bool (PyData.eqv a b)) else none
def gNe : D → D → Option D := fun a b => match a, b with
  | .str x, .str y => some (.bool (!decide (x = y)))
  | a, b => if SeqAt.shaped a = true ∧ SeqAt.shaped b = true then some (.bool (!PyData.eqv a b)) else none
theorem dec_strV {x y : Str} : decide (V.str x = V.str y) = decide (x = y) := decide_eq_decide.mpr ⟨fun h => by cases h; rfl, fun h => by rw [h]⟩
theorem o_eq {K : PySem.W.Frag} : Op2 (fun x y H Q => rEqD K x y H Q ∨ rEq x y H Q) 0 gEq := fun F H x y a b d Q s ha hb e k => by
  unfold gEq at e
  split at e
  · cases ha; cases hb; cases e
    refine .inr ⟨rfl, ?_⟩
    rw [dec_strV]
    exact k _ _ _ _ (Nw.same s (.bl _))
  · split at e
    · rename_i c; cases e
      exact .inl ⟨_, _, ha.dp s c.1, hb.dp s c.2, c.1, c.2, k _ _ _ _ (Nw.same s (.bl _))⟩
    · cases e
theorem o_ne {K : PySem.W.Frag} : Op2 (fun x y H Q => rNeD K x y H Q ∨ rNe x y H Q) 0 gNe := fun F H x y a b d Q s ha hb e k => by
  unfold gNe at e
  split at e
  · cases ha; cases hb; cases e
    refine .inr ⟨rfl, ?_⟩
    rw [dec_strV]
    exact k _ _ _ _ (Nw.same s (.bl _))
  · split at e
    · rename_i c; cases e
      exact .inl ⟨_, _, ha.dp s c.1, hb.dp s c.2, c.1, c.2, k _ _ _ _ (Nw.same s (.bl _))⟩
    · cases e
/-! in: flat things in a list or a tuple -/
def flatD : D → Bool | .none => true | .bool _ => true | .int _ => true | .str _ => true | _ => false
theorem Rp.flat {F : Hp} {v : V} {d : D} (h : Rp F v d) (f : flatD d = true) : flatV v = true := by cases h <;> first | rfl | cases f
theorem Rps.flat {F : Hp} : ∀ {vs : List V} {ds : List D}, Rps F vs ds → ds.all flatD = true → vs.all flatV = true
  | _, _, .nil, _ => rfl
  | _, _, .cons h r, f => by
    simp only [List.all_cons, Bool.and_eq_true] at f ⊢
    exact ⟨h.flat f.1, r.flat f.2⟩
theorem eqV_eqv {F : Hp} {v u : V} {a b : D} (h : Rp F v a) (k : Rp F u b) (fa : flatD a = true) (fb : flatD b = true) : eqV v u = PyData.eqv a b := by
  cases h <;> first | (cases fa; done) | (cases k <;> first | (cases fb; done) | (simp [eqV, PyData.eqv]))
theorem inV_eqv {F : Hp} {v : V} {a : D} (h : Rp F v a) (fa : flatD a = true) : ∀ {vs : List V} {ds : List D}, Rps F vs ds → ds.all flatD = true → inV v vs = ds.any fun z => PyData.eqv z a
  | _, _, .nil, _ => rfl
  | _, _, .cons k r, f => by
    simp only [List.all_cons, Bool.and_eq_true] at f
    have := inV_eqv h fa r f.2
    unfold inV at this ⊢
    simp only [List.any_cons, this, eqV_eqv k h f.1 fa]
def gIn (neg : Bool) : D → D → Option D := fun a b => match seqD b with
  | some ds => if flatD a = true ∧ ds.all flatD = true then some (.bool (if neg then !(ds.any fun z => PyData.eqv z a) else ds.any fun z => PyData.eqv z a)) else none
  | none => none
theorem o_in {K : PySem.W.Frag} {neg : Bool} : Op2 (rIn K neg) 0 (gIn neg) := fun F H x y a b d Q s ha hb e k => by
  unfold gIn at e
  cases hb with
  | lst h r =>
    simp only [seqD] at e
    split at e
    · rename_i c; cases e
      refine ⟨_, _, rfl, .inl (.inl (.inl (s _ _ h))), ha.flat c.1, r.flat c.2, ?_⟩
      rw [inV_eqv ha c.1 r c.2]
      exact k _ _ _ _ (Nw.same s (.bl _))
    · cases e
  | tup h r =>
    simp only [seqD] at e
    split at e
    · rename_i c; cases e
      refine ⟨_, _, rfl, .inr (.inl (.inl (s _ _ h))), ha.flat c.1, r.flat c.2, ?_⟩
      rw [inV_eqv ha c.1 r c.2]
      exact k _ _ _ _ (Nw.same s (.bl _))
    · cases e
  | _ => cases e
/-! is None, is True -/
def gIsN (neg : Bool) : D → D → Option D := fun a b => match b with | .none => some (.bool (if neg then !(match a with | .none => true | _ => false) else (match a with | .none => true | _ => false))) | _ => none
theorem o_isN : Op2 (fun x y H Q => y = .non ∧ Q (.bl (decide (x = .non))) H) 0 (gIsN false) := fun F H x y a b d Q s ha hb e k => by
  cases hb <;> cases e
  refine ⟨rfl, ?_⟩
  cases ha <;> exact k _ _ _ _ (Nw.same s (.bl _))
theorem o_notN : Op2 (fun x y H Q => y = .non ∧ Q (.bl (!decide (x = .non))) H) 0 (gIsN true) := fun F H x y a b d Q s ha hb e k => by
  cases hb <;> cases e
  refine ⟨rfl, ?_⟩
  cases ha <;> exact k _ _ _ _ (Nw.same s (.bl _))
def gIsB (neg : Bool) : D → D → Option D | .bool a, .bool b => some (.bool (if neg then !decide (a = b) else decide (a = b))) | _, _ => none
theorem o_isB : Op2 rIsB 0 (gIsB false) := fun F H x y a b d Q s ha hb e k => by
  cases ha <;> cases hb <;> cases e
  exact ⟨_, _, rfl, rfl, k _ _ _ _ (Nw.same s (.bl _))⟩
theorem o_notB : Op2 rNotB 0 (gIsB true) := fun F H x y a b d Q s ha hb e k => by
  cases ha <;> cases hb <;> cases e
  exact ⟨_, _, rfl, rfl, k _ _ _ _ (Nw.same s (.bl _))⟩
/-! an item -/
def gIx : D → D → Option D
  | .list xs, .int i => atI xs i
  | .tuple xs, .int i => atI xs i
  | _, _ => none
theorem atI_rps {F : Hp} {vs : List V} {ds : List D} (r : Rps F vs ds) {i : Int} {d : D} (h : atI ds i = some d) : ∃ v, atI vs i = some v ∧ Rp F v d := by
  unfold atI at h ⊢
  rw [Option.bind_eq_some_iff] at h
  obtain ⟨j, h1, h2⟩ := h
  obtain ⟨v, h3, h4⟩ := r.get' h2
  exact ⟨v, by rw [r.length, h1]; exact h3, h4⟩
theorem o_ix {K : PySem.W.Frag} : Op2 (rIx K) 0 gIx := fun F H x y a b d Q s ha hb e k => by
  cases ha with
  | lst h r => cases hb with
    | int i =>
      obtain ⟨v, h1, h2⟩ := atI_rps r e
      exact .inl ⟨_, _, i, v, rfl, rfl, .inl (.inl (s _ _ h)), h1, k _ _ _ _ (Nw.same s h2)⟩
    | _ => cases e
  | tup h r => cases hb with
    | int i =>
      obtain ⟨v, h1, h2⟩ := atI_rps r e
      exact .inr (.inl ⟨_, _, i, v, rfl, rfl, .inl (.inl (s _ _ h)), h1, k _ _ _ _ (Nw.same s h2)⟩)
    | _ => cases e
  | _ => cases hb <;> cases e
/-! built-ins -/
def gLen : List D → Option D
  | [.list xs] => some (.int xs.length)
  | [.tuple xs] => some (.int xs.length)
  | _ => none
theorem o_len {K : PySem.W.Frag} : OpL (fun xs H Q => ∃ p ys, xs = [.ref p] ∧ (SqL K H p ys ∨ SqT K H p ys) ∧ Q (.int ys.length) H) 0 gLen := fun F H xs as d Q s ha e k => by
  cases ha with
  | nil => cases e
  | cons h r => cases r with
    | cons _ _ => cases h <;> cases e
    | nil => cases h with
      | lst h r => cases e; exact ⟨_, _, rfl, .inl (.inl (.inl (s _ _ h))), by rw [r.length]; exact k _ _ _ _ (Nw.same s (.int _))⟩
      | tup h r => cases e; exact ⟨_, _, rfl, .inr (.inl (.inl (s _ _ h))), by rw [r.length]; exact k _ _ _ _ (Nw.same s (.int _))⟩
      | _ => cases e
def gTuple : List D → Option D
  | [.list xs] => some (.tuple xs)
  | [.tuple xs] => some (.tuple xs)
  | _ => none
theorem o_tuple {K : PySem.W.Frag} : OpL (fun xs H Q => ∃ p ys, xs = [.ref p] ∧ ((SqL K H p ys ∧ ∀ l, H l = none → Q (.ref l) (upd H l (.tup ys))) ∨ (SqT K H p ys ∧ Q (.ref p) H))) 0 gTuple := fun F H xs as d Q s ha e k => by
  cases ha with
  | nil => cases e
  | cons h r => cases r with
    | cons _ _ => cases h <;> cases e
    | nil => cases h with
      | lst h r => cases e; exact ⟨_, _, rfl, .inl ⟨.inl (.inl (s _ _ h)), fun l hl => k _ _ _ _ (Nw.tup s hl r)⟩⟩
      | tup h r => cases e; exact ⟨_, _, rfl, .inr ⟨.inl (.inl (s _ _ h)), k _ _ _ _ (Nw.same s (.tup h r))⟩⟩
      | _ => cases e
def gList : List D → Option D
  | [.list xs] => some (.list xs)
  | [.tuple xs] => some (.list xs)
  | _ => none
theorem o_list {K : PySem.W.Frag} : OpL (fun xs H Q => ∃ p ys, xs = [.ref p] ∧ (SqL K H p ys ∨ SqT K H p ys) ∧ ∀ l, H l = none → Q (.ref l) (upd H l (.lst ys))) 1 gList := fun F H xs as d Q s ha e k => by
  cases ha with
  | nil => cases e
  | cons h r => cases r with
    | cons _ _ => cases h <;> cases e
    | nil => cases h with
      | lst h r => cases e; exact ⟨_, _, rfl, .inl (.inl (.inl (s _ _ h))), fun l hl => k _ _ _ _ (Nw.own s hl r)⟩
      | tup h r => cases e; exact ⟨_, _, rfl, .inr (.inl (.inl (s _ _ h))), fun l hl => k _ _ _ _ (Nw.own s hl r)⟩
      | _ => cases e
def gInt : List D → Option D
  | [.int i] => some (.int i)
  | [.bool b] => some (.int (if b then 1 else 0))
  | _ => none
theorem o_int : OpL (fun xs H Q => (∃ i, xs = [.int i] ∧ Q (.int i) H) ∨ ∃ k, xs = [.bl k] ∧ Q (.int (if k then 1 else 0)) H) 0 gInt := fun F H xs as d Q s ha e k => by
  cases ha with
  | nil => cases e
  | cons h r => cases r with
    | cons _ _ => cases h <;> cases e
    | nil => cases h with
      | int i => cases e; exact .inl ⟨_, rfl, k _ _ _ _ (Nw.same s (.int _))⟩
      | bl b => cases e; exact .inr ⟨_, rfl, k _ _ _ _ (Nw.same s (.int _))⟩
      | _ => cases e
/-- lists of boolsOf, of intsOf -/
def boolsOf : List D → Option (List Bool)
  | [] => some []
  | .bool b :: r => (boolsOf r).map (b :: ·)
  | _ :: _ => none
def intsOf : List D → Option (List Int)
  | [] => some []
  | .int b :: r => (intsOf r).map (b :: ·)
  | _ :: _ => none
theorem bools_rps {F : Hp} : ∀ {vs : List V} {ds : List D} {bs : List Bool}, Rps F vs ds → boolsOf ds = some bs → vs = bs.map V.bl
  | _, _, _, .nil, e => by cases e; rfl
  | _, _, _, .cons (.bl b) r, e => by
    simp only [boolsOf, Option.map_eq_some_iff] at e
    obtain ⟨bs, e, rfl⟩ := e
    rw [bools_rps r e]; rfl
  | _, _, _, .cons .non r, e => nomatch e
  | _, _, _, .cons (.int _) r, e => nomatch e
  | _, _, _, .cons (.str _) r, e => nomatch e
  | _, _, _, .cons (.lst _ _) r, e => nomatch e
  | _, _, _, .cons (.tup _ _) r, e => nomatch e
  | _, _, _, .cons (.dK _ _) r, e => nomatch e
  | _, _, _, .cons (.dT _ _) r, e => nomatch e
theorem ints_rps {F : Hp} : ∀ {vs : List V} {ds : List D} {bs : List Int}, Rps F vs ds → intsOf ds = some bs → vs = bs.map V.int
  | _, _, _, .nil, e => by cases e; rfl
  | _, _, _, .cons (.int b) r, e => by
    simp only [intsOf, Option.map_eq_some_iff] at e
    obtain ⟨bs, e, rfl⟩ := e
    rw [ints_rps r e]; rfl
  | _, _, _, .cons .non r, e => nomatch e
  | _, _, _, .cons (.bl _) r, e => nomatch e
  | _, _, _, .cons (.str _) r, e => nomatch e
  | _, _, _, .cons (.lst _ _) r, e => nomatch e
  | _, _, _, .cons (.tup _ _) r, e => nomatch e
  | _, _, _, .cons (.dK _ _) r, e => nomatch e
  | _, _, _, .cons (.dT _ _) r, e => nomatch e
theorem rps_ints {F : Hp} : ∀ ns : List Int, Rps F (ns.map V.int) (ns.map PyData.int)
  | [] => .nil
  | n :: r => .cons (.int n) (rps_ints r)
def gAll (f : List Bool → Bool) : List D → Option D
  | [.list xs] => (boolsOf xs).map fun bs => .bool (f bs)
  | _ => none
theorem o_all {K : PySem.W.Frag} : OpL (rAll K) 0 (gAll fun bs => bs.all id) := fun F H xs as d Q s ha e k => by
  cases ha with
  | nil => cases e
  | cons h r => cases r with
    | cons _ _ => cases h <;> cases e
    | nil => cases h with
      | lst h r =>
        simp only [gAll, Option.map_eq_some_iff] at e
        obtain ⟨bs, e, rfl⟩ := e
        have z := bools_rps r e
        subst z
        exact ⟨_, _, rfl, .inl (.inl (s _ _ h)), k _ _ _ _ (Nw.same s (.bl _))⟩
      | _ => cases e
theorem o_any {K : PySem.W.Frag} : OpL (rAny K) 0 (gAll fun bs => bs.any id) := fun F H xs as d Q s ha e k => by
  cases ha with
  | nil => cases e
  | cons h r => cases r with
    | cons _ _ => cases h <;> cases e
    | nil => cases h with
      | lst h r =>
        simp only [gAll, Option.map_eq_some_iff] at e
        obtain ⟨bs, e, rfl⟩ := e
        have z := bools_rps r e
        subst z
        exact ⟨_, _, rfl, .inl (.inl (s _ _ h)), k _ _ _ _ (Nw.same s (.bl _))⟩
      | _ => cases e
def gSum : List D → Option D
  | [.list xs] => (intsOf xs).map fun ns => .int ns.sum
  | _ => none
theorem o_sum {K : PySem.W.Frag} : OpL (rSum K) 0 gSum := fun F H xs as d Q s ha e k => by
  cases ha with
  | nil => cases e
  | cons h r => cases r with
    | cons _ _ => cases h <;> cases e
    | nil => cases h with
      | lst h r =>
        simp only [gSum, Option.map_eq_some_iff] at e
        obtain ⟨bs, e, rfl⟩ := e
        have z := ints_rps r e
        subst z
        exact ⟨_, _, rfl, .inl (.inl (s _ _ h)), k _ _ _ _ (Nw.same s (.int _))⟩
      | _ => cases e
/-! sorted -/
def insI (x : Int) : List Int → List Int
  | [] => [x]
  | y :: r => if x ≤ y then x :: y :: r else y :: insI x r
def sortI : List Int → List Int
  | [] => []
  | x :: r => insI x (sortI r)
theorem insI_perm (x : Int) : ∀ l, (insI x l).Perm (x :: l)
  | [] => .refl _
  | y :: r => by
    unfold insI
    split
    · exact .refl _
    · exact ((insI_perm x r).cons y).trans (.swap _ _ _)
theorem sortI_perm : ∀ l, (sortI l).Perm l
  | [] => .refl _
  | x :: r => (insI_perm x (sortI r)).trans ((sortI_perm r).cons x)
theorem insI_sorted (x : Int) : ∀ l : List Int, l.Pairwise (· ≤ ·) → (insI x l).Pairwise (· ≤ ·)
  | [], _ => by simp [insI]
  | y :: r, h => by
    obtain ⟨h1, h2⟩ := List.pairwise_cons.mp h
    unfold insI
    split
    · rename_i c
      refine List.pairwise_cons.mpr ⟨fun z hz => ?_, h⟩
      rcases List.mem_cons.mp hz with rfl | hz
      · exact c
      · have := h1 z hz; omega
    · rename_i c
      refine List.pairwise_cons.mpr ⟨fun z hz => ?_, insI_sorted x r h2⟩
      rcases List.mem_cons.mp ((insI_perm x r).mem_iff.mp hz) with rfl | hz
      · omega
      · exact h1 z hz
theorem sortI_sorted : ∀ l : List Int, (sortI l).Pairwise (· ≤ ·)
  | [] => .nil
  | x :: r => insI_sorted x _ (sortI_sorted r)
theorem sorted_uniq {a b : List Int} (p : a.Perm b) (h1 : a.Pairwise (· ≤ ·)) (h2 : b.Pairwise (· ≤ ·)) : a = b := p.eq_of_pairwise (fun x y _ _ h k => Int.le_antisymm h k) h1 h2
def gSorted : List D → Option D
  | [.list xs] => (intsOf xs).map fun ns => .list ((sortI ns).map .int)
  | _ => none
theorem o_sorted {K : PySem.W.Frag} : OpL (rSortedI K) 1 gSorted := fun F H xs as d Q s ha e k => by
  cases ha with
  | nil => cases e
  | cons h r => cases r with
    | cons _ _ => cases h <;> cases e
    | nil => cases h with
      | lst h r =>
        simp only [gSorted, Option.map_eq_some_iff] at e
        obtain ⟨bs, e, rfl⟩ := e
        have z := ints_rps r e
        subst z
        refine ⟨_, _, rfl, .inl (.inl (s _ _ h)), fun ns p hp hs hn => ?_⟩
        rw [sorted_uniq (hp.trans (sortI_perm bs).symm) hs (sortI_sorted bs)]
        exact k _ _ _ _ (Nw.own s hn (rps_ints _))
      | _ => cases e
/-- sorted(set(..)) -/
def insU (x : Int) : List Int → List Int
  | [] => [x]
  | y :: r => if x < y then x :: y :: r else if x = y then y :: r else y :: insU x r
def sortU : List Int → List Int
  | [] => []
  | x :: r => insU x (sortU r)
theorem insU_mem (x z : Int) : ∀ l, z ∈ insU x l ↔ z = x ∨ z ∈ l
  | [] => by simp [insU]
  | y :: r => by
    unfold insU
    split
    · simp
    · split
      · rename_i h; subst h; simp
      · simp only [List.mem_cons, insU_mem x z r]
        constructor
        · rintro (h | h | h) <;> simp [h]
        · rintro (h | h | h) <;> simp [h]
theorem sortU_mem (z : Int) : ∀ l, z ∈ sortU l ↔ z ∈ l
  | [] => by simp [sortU]
  | x :: r => by unfold sortU; rw [insU_mem, sortU_mem z r, List.mem_cons]
theorem insU_sorted (x : Int) : ∀ l : List Int, l.Pairwise (· < ·) → (insU x l).Pairwise (· < ·)
  | [], _ => by simp [insU]
  | y :: r, h => by
    obtain ⟨h1, h2⟩ := List.pairwise_cons.mp h
    unfold insU
    split
    · rename_i c
      refine List.pairwise_cons.mpr ⟨fun z hz => ?_, h⟩
      rcases List.mem_cons.mp hz with rfl | hz
      · exact c
      · have := h1 z hz; omega
    · split
      · exact h
      · rename_i c1 c2
        refine List.pairwise_cons.mpr ⟨fun z hz => ?_, insU_sorted x r h2⟩
        rcases (insU_mem x z r).mp hz with rfl | hz
        · omega
        · exact h1 z hz
theorem sortU_sorted : ∀ l : List Int, (sortU l).Pairwise (· < ·)
  | [] => .nil
  | x :: r => insU_sorted x _ (sortU_sorted r)
theorem lt_uniq {a b : List Int} (h1 : a.Pairwise (· < ·)) (h2 : b.Pairwise (· < ·)) (m : ∀ k, k ∈ a ↔ k ∈ b) : a = b := by
  have n1 : a.Nodup := h1.imp fun h => Int.ne_of_lt h
  have n2 : b.Nodup := h2.imp fun h => Int.ne_of_lt h
  exact sorted_uniq ((List.perm_ext_iff_of_nodup n1 n2).mpr m) (h1.imp fun h => Int.le_of_lt h) (h2.imp fun h => Int.le_of_lt h)
section
variable {J : Jd} {ow : Owns}
def gSortSet : D → Option D
  | .list xs => (intsOf xs).bind fun ns => if ns.length < 4000 ∧ (sortU ns).length < 64 then some (.list ((sortU ns).map .int)) else none
  | _ => none
theorem se_sortset {a : Expr} {f : Rho → M D} {p p2 q pos : Pos} (O : Ok J) (hm : J.X.mg "sorted" = none) (hm2 : J.X.mg "set" = none) (h : Se J ow a 0 f) (hg : Gl J.X "sorted" := by rfl) (hg2 : Gl J.X "set" := by rfl)
    (na : starEach [a] J.X.env = (false, eval a J.X.env) :: starEach [] J.X.env := by rfl) : Se J ow (.Call (.Name "sorted" p) [.Call (.Name "set" p2) [a] [] q] [] pos) 1 (eUn gSortSet f) := by
  obtain ⟨t, pa, qa⟩ := h
  refine ⟨_, pe_sortSet O.c hg hm hg2 hm2 pa na, op1_run (ta := t) qa fun F H x a d Q s ha e k => ?_⟩
  cases ha with
  | lst h r =>
    simp only [gSortSet, Option.bind_eq_some_iff] at e
    obtain ⟨ns, e1, e2⟩ := e
    split at e2
    · rename_i c; cases e2
      have z := ints_rps r e1
      subst z
      refine ⟨_, ns, sortU ns, rfl, .inl (.inl (s _ _ h)), c.1, (sortU_sorted ns).imp fun h => Int.ne_of_lt h, fun k => sortU_mem k ns, c.2, fun ms p hs hmem hp => ?_⟩
      rw [lt_uniq hs (sortU_sorted ns) fun k => by rw [hmem k, sortU_mem]]
      exact k _ _ _ _ (Nw.own s hp (rps_ints _))
    · cases e2
  | _ => cases e
/-! isinstance -/
def tyD : D → String
  | .none => "NoneType" | .bool _ => "bool" | .int _ => "int" | .str _ => "str" | .list _ => "list" | .tuple _ => "tuple" | .dict _ => "dict"
def isT (T : String) (d : D) : Bool := tyD d == T || (T == "int" && tyD d == "bool")
theorem Rp.ty {K : PySem.W.Frag} {F H : Hp} (s : Same F H) {v : V} {d : D} (h : Rp F v d) : TyX K H v (.type (tyD d)) := by
  cases h with
  | non => exact .base .non
  | bl b => exact .base (.bl b)
  | int i => exact .base (.int i)
  | str x => exact .base (.str x)
  | lst h r => exact .base (.lst (s _ _ h))
  | tup h r => exact .base (.tup (s _ _ h))
  | dK h r => exact .base (.dK (s _ _ h))
  | dT h r => exact .base (.dT (s _ _ h))
def okT (T : String) : Bool := ["NoneType", "bool", "int", "str", "list", "tuple", "dict"].all fun a => kitB a T == some (a == T || (T == "int" && a == "bool"))
theorem kit_isT {K : PySem.W.Frag} {T : String} (hT : okT T = true) (d : D) : PySem.W.kitOne K (.type (tyD d)) (.type T) = some (isT T d) := by
  apply kit_ty
  simp only [okT, List.all_cons, List.all_nil, Bool.and_true, Bool.and_eq_true, beq_iff_eq] at hT
  obtain ⟨h1, h2, h3, h4, h5, h6, h7⟩ := hT
  cases d <;> simp only [tyD, isT] <;> assumption
def gIs (T : String) : D → Option D := fun d => some (.bool (isT T d))
theorem se_isi {a : Expr} {f : Rho → M D} {T : String} {x : Str} {p p2 pos : Pos} (hm : J.X.mg "isinstance" = none) (hmT : J.X.mg x = none) (h : Se J ow a 0 f) (hT : okT T = true := by decide +kernel) (hg : Gl J.X "isinstance" := by rfl) (hgT : Gl J.X x := by rfl) (hv : bootBuiltins x = some (.type T) := by decide +kernel)
    (hnT : x ≠ "__name__" := by decide) (hdT : (x == ("__debug__" : Str)) = false := by decide)
    (he : starEach [a, .Name x p2] J.X.env = (false, eval a J.X.env) :: starEach [.Name x p2] J.X.env := by rfl) (he2 : starEach [.Name x p2] J.X.env = (false, eval (.Name x p2) J.X.env) :: starEach [] J.X.env := by rfl) (hpl : (backTo pos (starEach [.Name x p2] J.X.env)).any (·.1) = false := by rfl) :
    Se J ow (.Call (.Name "isinstance" p) [a, .Name x p2] [] pos) 0 (eUn (gIs T) f) := by
  obtain ⟨t, pa, qa⟩ := h
  refine ⟨_, pe_callB call_isi hg hm (by decide +kernel) (pa_cons pa (pa_cons (pe_bltn (v := .ty T) hgT hmT hv rfl hnT hdT) pa_nil he2) he) (by decide) (by decide) he hpl, op1_run (ta := t) qa fun F H x a d Q s ha e k => ?_⟩
  cases e
  exact ⟨x, .ty T, _, _, _, rfl, .ty T, ha.ty s, kit_isT hT a, k _ _ _ _ (Nw.same s (.bl _))⟩
def gIs2 (T U : String) : D → Option D := fun d => some (.bool (isT T d || isT U d))
theorem se_isi2 {a : Expr} {f : Rho → M D} {T U : String} {x y : Str} {n : Nat} {p p2 p3 p4 pos : Pos} (hm : J.X.mg "isinstance" = none) (hmT : J.X.mg x = none) (hmU : J.X.mg y = none) (h : Se J ow a 0 f) (hT : okT T = true := by decide +kernel) (hU : okT U = true := by decide +kernel) (hg : Gl J.X "isinstance" := by rfl) (hgT : Gl J.X x := by rfl) (hgU : Gl J.X y := by rfl)
    (hv : bootBuiltins x = some (.type T) := by decide +kernel) (hvU : bootBuiltins y = some (.type U) := by decide +kernel)
    (hnT : x ≠ "__name__" := by decide) (hdT : (x == ("__debug__" : Str)) = false := by decide) (hnU : y ≠ "__name__" := by decide) (hdU : (y == ("__debug__" : Str)) = false := by decide)
    (he : starEach [a, .Tuple [.Name x p2, .Name y p3] n p4] J.X.env = (false, eval a J.X.env) :: starEach [.Tuple [.Name x p2, .Name y p3] n p4] J.X.env := by rfl) (he2 : starEach [.Tuple [.Name x p2, .Name y p3] n p4] J.X.env = (false, eval (.Tuple [.Name x p2, .Name y p3] n p4) J.X.env) :: starEach [] J.X.env := by rfl) (hpl : (backTo pos (starEach [.Tuple [.Name x p2, .Name y p3] n p4] J.X.env)).any (·.1) = false := by rfl)
    (h3 : starEach [.Name x p2, .Name y p3] J.X.env = (false, eval (.Name x p2) J.X.env) :: starEach [.Name y p3] J.X.env := by rfl) (h4 : starEach [.Name y p3] J.X.env = (false, eval (.Name y p3) J.X.env) :: starEach [] J.X.env := by rfl) :
    Se J ow (.Call (.Name "isinstance" p) [a, .Tuple [.Name x p2, .Name y p3] n p4] [] pos) 0 (eUn (gIs2 T U) f) := by
  obtain ⟨t, pa, qa⟩ := h
  refine ⟨_, pe_callB call_isiT hg hm (by decide +kernel) (pa_cons pa (pa_cons (pe_tup (pa_cons (pe_bltn (v := .ty T) hgT hmT hv rfl hnT hdT) (pa_cons (pe_bltn (v := .ty U) hgU hmU hvU rfl hnU hdU) pa_nil h4) h3)) pa_nil he2) he) (by decide) (by decide) he hpl, op1_run (ta := t) (r := fun x H Q => 2 ≤ sizeLine ∧ ∀ q, H q = none → rIsiT J.X.K [x, .ref q] (upd H q (.tup [.ty T, .ty U])) Q) qa fun F H x a d Q s ha e k => ?_⟩
  cases e
  refine ⟨by show 2 ≤ sizeLine; decide, fun q hq => ⟨x, q, [.ty T, .ty U], _, [.type T, .type U], _, rfl, upd_same, .cons (.ty T) (.cons (.ty U) .nil), ha.ty (s.trans (same_upd hq)), ?_, k _ F (upd H q (.tup [.ty T, .ty U])) [] ⟨.refl _, s.trans (same_upd hq), same_upd hq, fun _ _ h => .inl h, .fz (.bl _), List.nodup_nil, fun _ h => nomatch h⟩⟩⟩
  exact kitAny_cons (kit_isT hT a) (fun hb => kitAny_cons (kit_isT hU a) (fun hb2 => by rw [hb, hb2]; exact kitAny_nil) fun hb2 => by rw [hb2, Bool.or_true]) fun hb => by rw [hb, Bool.true_or]
/-! mask.bit_length() -/
def gBits : D → Option D | .int i => some (.int (Builtin.Int.intBits i : Nat)) | _ => none
theorem se_bits {a : Expr} {f : Rho → M D} {apos pos : Pos} (h : Se J ow a 0 f) (hbase : attributeBase a "bit_length" J.X.env (eval a J.X.env) = eval a J.X.env := by rfl) (hline : (apos.endLine == pos.line) = true := by rfl) : Se J ow (.Call (.Attribute a "bit_length" apos) [] [] pos) 0 (eUn gBits f) := by
  obtain ⟨t, pa, qa⟩ := h
  refine ⟨_, pe_bits pa hbase hline, op1_run (ta := t) qa fun F H x a d Q s ha e k => ?_⟩
  cases ha <;> cases e
  exact ⟨_, rfl, k _ _ _ _ (Nw.same s (.int _))⟩
/-! list(range(..)), tuple(range(..)) -/
def gRgL : D → Option D | .int j => if okR j = true then some (.list (intsD 0 j.toNat)) else none | _ => none
def gRgT : D → Option D | .int j => if okR j = true then some (.tuple (intsD 0 j.toNat)) else none | _ => none
theorem rps_rg {F : Hp} (j : Int) : Rps F (rgV 0 j) (intsD 0 j.toNat) := by
  unfold rgV intsD
  rw [show (j - 0).toNat = j.toNat by omega]
  generalize List.range j.toNat = l
  induction l with
  | nil => exact .nil
  | cons a r ih => exact .cons (.int _) ih
theorem rgOk_of {j : Int} (h : okR j = true) : RgOk 0 j := by
  simp only [okR, Bool.and_eq_true, decide_eq_true_eq] at h
  exact ⟨by omega, by omega, by omega, by omega, by omega⟩
theorem se_listRg {a : Expr} {f : Rho → M D} {p p2 q pos : Pos} (O : Ok J) (hm : J.X.mg "list" = none) (hm2 : J.X.mg "range" = none) (h : Se J ow a 0 f) (hg : Gl J.X "list" := by rfl) (hg2 : Gl J.X "range" := by rfl) (na : starEach [a] J.X.env = (false, eval a J.X.env) :: starEach [] J.X.env := by rfl)
    (nb : starEach [.Call (.Name "range" p2) [a] [] q] J.X.env = (false, eval (.Call (.Name "range" p2) [a] [] q) J.X.env) :: starEach [] J.X.env := by rfl) : Se J ow (.Call (.Name "list" p) [.Call (.Name "range" p2) [a] [] q] [] pos) 1 (eUn gRgL f) := by
  obtain ⟨t, pa, qa⟩ := h
  refine ⟨_, pe_listRg O.c hg hm (prg_1 hg2 hm2 pa na) nb, op1_run (ta := t) qa fun F H x a d Q s ha e k => ?_⟩
  cases ha <;> simp only [gRgL] at e <;> try (cases e)
  split at e
  · rename_i c; cases e; exact ⟨_, rfl, rgOk_of c, fun q hq => k _ _ _ _ (Nw.own s hq (rps_rg _))⟩
  · cases e
theorem se_tupRg {a : Expr} {f : Rho → M D} {p p2 q pos : Pos} (O : Ok J) (hm : J.X.mg "tuple" = none) (hm2 : J.X.mg "range" = none) (h : Se J ow a 0 f) (hg : Gl J.X "tuple" := by rfl) (hg2 : Gl J.X "range" := by rfl) (na : starEach [a] J.X.env = (false, eval a J.X.env) :: starEach [] J.X.env := by rfl)
    (nb : starEach [.Call (.Name "range" p2) [a] [] q] J.X.env = (false, eval (.Call (.Name "range" p2) [a] [] q) J.X.env) :: starEach [] J.X.env := by rfl) : Se J ow (.Call (.Name "tuple" p) [.Call (.Name "range" p2) [a] [] q] [] pos) 0 (eUn gRgT f) := by
  obtain ⟨t, pa, qa⟩ := h
  refine ⟨_, pe_tupRg O.c hg hm (prg_1 hg2 hm2 pa na) nb, op1_run (ta := t) qa fun F H x a d Q s ha e k => ?_⟩
  cases ha <;> simp only [gRgT] at e <;> try (cases e)
  split at e
  · rename_i c; cases e; exact ⟨_, rfl, rgOk_of c, fun q hq => k _ _ _ _ (Nw.tup s hq (rps_rg _))⟩
  · cases e
end
end DL

end
section
set_option Elab.async false
set_option linter.all false
set_option maxRecDepth 100000
set_option maxHeartbeats 2000000
namespace DL
open PySem PySem.Spec L2

/-! ### what an owned slot holds is written -/
theorem Ows.split {F H : Hp} {k : Nat} : ∀ {xs : List V} {ds : List D} {B : List Addr} (j : Nat) {v : V} {d : D}, Ows F H k xs ds B → xs[j]? = some v → ds[j]? = some d →
    ∃ B1 A B2, B = B1 ++ (A ++ B2) ∧ Ow F H k v d A ∧ ∀ (H' : Hp) (v' : V) (d' : D) (A' : List Addr), Ow F H' k v' d' A' → (∀ a ∈ B1 ++ B2, ∀ o, H a = some o → H' a = some o) → Ows F H' k (xs.set j v') (ds.set j d') (B1 ++ (A' ++ B2))
  | _, _, _, 0, v, d, .cons (A := A) (B := B) h r, e1, e2 => by
    simp at e1 e2
    subst e1 e2
    exact ⟨[], A, B, rfl, h, fun H' v' d' A' o k => by
      have z := Ows.cons o (r.mono (H' := H') (.refl _) fun a ha => k a (by simpa using ha))
      simpa using z⟩
  | _, _, _, j + 1, v, d, .cons (A := A) (B := B) h r, e1, e2 => by
    obtain ⟨B1, A1, B2, e, o, k⟩ := Ows.split j r (by simpa using e1) (by simpa using e2)
    refine ⟨A ++ B1, A1, B2, by rw [e]; simp, o, fun H' v' d' A' o' keep => ?_⟩
    have z := Ows.cons (h.mono (H' := H') (.refl _) fun a ha => keep a (by simp [ha])) (k H' v' d' A' o' fun a ha => keep a (by
      rcases List.mem_append.mp ha with q | q <;> simp [q]))
    simpa using z
section
variable {c : Ctx} {ps : Pls} {ow : Owns} {σ : St} {ρ : Rho} {P : Pool} {F H : Hp}
theorem Rl.hold (r : Rl c ps ow σ ρ P F H) {i k : Nat} (hi : ow.lookup i = some k) : ∃ v d A, ρ[i]? = some (some d) ∧ σ[i]? = some (some v) ∧ Ow F H k v d A ∧ A.Nodup ∧ ∀ a ∈ A, F a = none ∧ c.H0 a = none ∧ NP c a :=
  let ⟨Am, h1, _⟩ := r.own; let ⟨v, d, q⟩ := h1 i k hi; ⟨v, d, Am i, q⟩
/-- the object at a, one of slot i's own, is written; the slot's datum becomes d' -/
theorem Rl.rewrite (r : Rl c ps ow σ ρ P F H) {i k : Nat} {a : Addr} {v : V} {d d' : D} {A A' : List Addr} {o : HO} (hi : ow.lookup i = some k) (hσ : σ[i]? = some (some v)) (ho : Ow F H k v d A) (ha : a ∈ A) (hρ : i < ρ.length)
    (new : Ow F (upd H a o) k v d' A') (nd : A'.Nodup) (fr : ∀ b ∈ A', b ∈ A ∨ (F b = none ∧ c.H0 b = none ∧ NP c b ∧ ∀ j l v d A, ow.lookup j = some l → σ[j]? = some (some v) → Ow F H l v d A → b ∉ A)) :
    Rl c ps ow σ (ρ.set i (some d')) P F (upd H a o) := by
  obtain ⟨Am, h1, h2⟩ := r.own
  obtain ⟨v0, d0, e1, e2, o0, nd0, fr0⟩ := h1 i k hi
  rw [hσ] at e2; cases e2
  have eA : Am i = A := o0.uniq ho
  have fa := fr0 a (eA ▸ ha)
  have others : ∀ j l, ow.lookup j = some l → j ≠ i → a ∉ Am j := fun j l e hj z => h2 j i l k e hi hj a z (eA ▸ ha)
  refine ⟨⟨fun b u e => ?_, r.gd.f0, r.gd.gr, fun b u e n => ?_, fun b e => ?_, fun p q e => ?_⟩, ?_, r.psl, r.scl, fun j e q n => ?_, fun j => if j = i then A' else Am j, fun j l e => ?_, fun x y l m ex ey hxy b hb => ?_⟩
  · rw [upd_ne (fun z => by rw [z, fa.1] at e; cases e)]; exact r.gd.sub b u e
  · rw [upd_ne (fun z => by rw [z, fa.2.1] at e; cases e)]; exact r.gd.kp b u e n
  · refine r.gd.dm b ?_
    by_cases hb : b = a
    · subst hb; rw [upd_same] at e; cases e
    · rw [upd_ne hb] at e; exact e
  · obtain ⟨x0, x1, x2, x3, x4⟩ := r.gd.pool p q e
    have n := fa.2.2 p q e
    exact ⟨x0, by rw [upd_ne (Ne.symm n.1)]; exact x1, by rw [upd_ne (Ne.symm n.2)]; exact x2, x3, x4⟩
  · rw [List.length_set]; exact r.len
  · by_cases hj : i = j
    · subst hj; rw [hi] at n; cases n
    · rw [List.getElem?_set_ne hj] at q
      exact r.fz j e q n
  · dsimp only
    by_cases hj : j = i
    · subst hj
      rw [hi] at e; cases e
      rw [if_pos rfl]
      refine ⟨v, d', List.getElem?_set_self hρ, hσ, new, nd, fun b hb => ?_⟩
      rcases fr b hb with q | q
      · exact fr0 b (eA ▸ q)
      · exact ⟨q.1, q.2.1, q.2.2.1⟩
    · rw [if_neg hj]
      obtain ⟨u, x, y1, y2, y3, y4⟩ := h1 j l e
      exact ⟨u, x, by rw [List.getElem?_set_ne (Ne.symm hj)]; exact y1, y2, y3.mono (.refl _) fun b hb w hw => by rw [upd_ne (fun z => by subst z; exact others j l e hj hb)]; exact hw, y4⟩
  · dsimp only at hb ⊢
    by_cases hx : x = i
    · subst hx
      rw [if_pos rfl] at hb
      rw [if_neg (Ne.symm hxy)]
      intro z
      rcases fr b hb with q | q
      · exact h2 _ _ _ _ ex ey hxy b (eA ▸ q) z
      · obtain ⟨u, w, y1, y2, y3, _⟩ := h1 y m ey
        exact q.2.2.2 y m u w (Am y) ey y2 y3 z
    · rw [if_neg hx] at hb
      by_cases hy : y = i
      · subst hy
        rw [if_pos rfl]
        intro z
        rcases fr b z with q | q
        · exact h2 _ _ _ _ ex ey hxy b hb (eA ▸ q)
        · obtain ⟨u, w, y1, y2, y3, _⟩ := h1 x l ex
          exact q.2.2.2 x l u w (Am x) ex y2 y3 hb
      · rw [if_neg hy]
        exact h2 _ _ _ _ ex ey hxy b hb
end
theorem Ow.lst_inv {F H : Hp} {k : Nat} {v : V} {ds : List D} {A : List Addr} (h : Ow F H (k + 1) v (.list ds) A) : ∃ a xs B, v = .ref a ∧ H a = some (.lst xs) ∧ Ows F H k xs ds B ∧ A = a :: B := by
  cases h with
  | lst e r => exact ⟨_, _, _, rfl, e, r, rfl⟩

section
variable {J : Jd} {ow owl : Owns} {kr : Nat}
abbrev lstAt (ρ : Rho) (i : Nat) : Option (List D) := match ρ[i]? with | some (some (.list ds)) => some ds | _ => none
theorem lstAt_some {ρ : Rho} {i : Nat} {ds : List D} (h : lstAt ρ i = some ds) : ρ[i]? = some (some (.list ds)) := by
  unfold lstAt at h
  split at h
  · rename_i e; cases h; exact e
  · cases h
/-- x.append(e) -/
def sApp (i : Nat) (f : Rho → M D) : Rho → M Oc := fun ρ => bnd (lift (lstAt ρ i)) fun ds => bnd (f ρ) fun d => if ds.length < 1000000 then ret (.nx (ρ.set i (some (.list (ds ++ [d]))))) else stuck
theorem Same.fs {F H : Hp} : Same F F := .refl _
/-- a fresh thing goes to the end of an owned list -/
theorem Rl.app {c : Ctx} {ps : Pls} {σ : St} {ρ : Rho} {P P' : Pool} {F H F' H' : Hp} {i k : Nat} {ds : List D} {d : D} {v : V} {A : List Addr} {a : Addr} {xs : List V} {B : List Addr} (r0 : Rl c ps ow σ ρ P F H) (x : Vp c ps ow σ ρ F H P' k d v F' H' A) (hi : ow.lookup i = some (k + 1)) (hρ : ρ[i]? = some (some (.list ds)))
    (hσ : σ[i]? = some (some (.ref a))) (hH : H' a = some (.lst xs)) (hs : Ows F' H' k xs ds B) : Rl c ps ow σ (ρ.set i (some (.list (ds ++ [d])))) P' F' (upd H' a (.lst (xs ++ [v]))) := by
  obtain ⟨v0, d0, A0, e1, e2, o0, nd0, fr0⟩ := x.rl.hold hi
  rw [hσ] at e2; cases e2
  rw [hρ] at e1; cases e1
  have eA : A0 = a :: B := o0.uniq (.lst hH hs)
  subst eA
  have naB : a ∉ B := (List.nodup_cons.mp nd0).1
  have there : ∀ b ∈ a :: B, ∃ o, H b = some o := fun b hb => by
    obtain ⟨v1, d1, A1, f1, f2, o1, _, fr1⟩ := r0.hold hi
    rw [hσ] at f2; cases f2
    rw [hρ] at f1; cases f1
    have z := (o1.mono (F' := F') (H' := H') x.st.fs fun q hq u hu => x.st.kp q u hu (fr1 q hq).2.2).uniq o0
    rw [← z] at hb
    exact o1.there hb
  have nAB : ∀ b ∈ A, b ∉ a :: B := fun b hb z => by
    obtain ⟨u, hu⟩ := there b z
    rw [(x.fr b hb).2] at hu; cases hu
  have keep : ∀ b, b ≠ a → ∀ u, H' b = some u → upd H' a (.lst (xs ++ [v])) b = some u := fun b hb u hu => by rw [upd_ne hb]; exact hu
  refine x.rl.rewrite (A := a :: B) (A' := a :: (B ++ A)) (d := .list ds) hi hσ (.lst hH hs) List.mem_cons_self ((List.getElem?_eq_some_iff.mp hρ).1) (.lst upd_same (Ows.append (hs.mono (.refl _) fun b hb u hu => keep b (fun z => naB (z ▸ hb)) u hu) ?_)) ?_ fun b hb => ?_
  · have one := Ows.cons (x.ow.mono (F' := F') (H' := upd H' a (.lst (xs ++ [v]))) (.refl _) fun b hb u hu => keep b (fun z => nAB b hb (z ▸ List.mem_cons_self)) u hu) (Ows.nil (k := k))
    simpa using one
  · rw [List.nodup_cons, List.mem_append]
    refine ⟨fun z => z.elim naB fun q => nAB a q List.mem_cons_self, List.nodup_append.mpr ⟨(List.nodup_cons.mp nd0).2, x.nd, fun p hp q hq z => nAB q hq (z ▸ List.mem_cons_of_mem _ hp)⟩⟩
  · rcases List.mem_cons.mp hb with rfl | hb
    · exact .inl List.mem_cons_self
    · rcases List.mem_append.mp hb with hb | hb
      · exact .inl (List.mem_cons_of_mem _ hb)
      · exact .inr ⟨(x.fr b hb).1, r0.gd.dm b (x.fr b hb).2, np_of r0.gd (x.fr b hb).2, r0.notown (P' := P') x.st (x.fr b hb).2⟩
theorem s1_append {i k : Nat} {x : Str} {e : Expr} {f : Rho → M D} {p apos cpos pos : Pos} (h : Se J ow e k f) (hi : ow.lookup i = some (k + 1) := by rfl) (hN : J.X.N[i]? = some x := by rfl) (hv : Vis J.X.env.scope x := by first | exact Or.inl rfl | exact Or.inr (Or.inl rfl)) (hd : (x == ("__debug__" : Str)) = false := by decide) (hcd : (x == ("__classdict__" : Str)) = false := by decide)
    (hbase : attributeBase (.Name x p) "append" J.X.env (eval (.Name x p) J.X.env) = eval (.Name x p) J.X.env := by rfl)
    (hfew : ((backTo cpos (starEach [e] J.X.env)).all (fun x => !x.1) && (backToKw cpos (keywordEach [] J.X.env)).all (fun x => x.1.isSome) && decide ([e].length + ([] : List Keyword).length + (if ([] : List Keyword).isEmpty then 0 else 1) < 30)) = true := by rfl)
    (hline : (apos.endLine == cpos.line) = true := by rfl) (hs : starEach [e] J.X.env = (false, eval e J.X.env) :: starEach [] J.X.env := by rfl) (hplain : (backTo cpos (starEach [] J.X.env)).any (·.1) = false := by rfl)
    (hsw : swapsWith (.Call (.Attribute (.Name x p) "append" apos) [e] [] cpos) none pos.line J.X.env = pure false := by rfl) : S1 J ow ow owl kr (.Expr (.Call (.Attribute (.Name x p) "append" apos) [e] [] cpos) pos) (sApp i f) := by
  obtain ⟨t, pe, q⟩ := h
  refine ⟨_, ps_expr (pe_bm PySem.F.plainAttrs_list PySem.F.slot_list_append PySem.F.type_list_append mt_append (pe_var hN hv hd hcd) (pa_cons pe pa_nil hs) hbase hfew hline hs hplain) hsw, fun c σ ρ P F H E hc r w => ?_⟩
  obtain ⟨ds, el, w⟩ := Wp.lift (Wp.bnd w)
  have e1 := lstAt_some el
  obtain ⟨v0, d0, A0, e0, e2, o0, nd0, fr0⟩ := r.hold hi
  rw [e1] at e0; cases e0
  obtain ⟨a, xs, B0, rfl, hH, hs0, _⟩ := o0.lst_inv
  refine ⟨.ref a, e2, .inl ⟨rfl, xs, .inl (.inl hH)⟩, ?_⟩
  refine q c σ ρ P F H _ hc r ((Wp.bnd w).mono (fun d P1 h1 v F1 H1 A x1 => ?_) ErrS.e)
  have h1 : Wp ((if ds.length < 1000000 then ret (Oc.nx (ρ.set i (some (.list (ds ++ [d]))))) else stuck) P1) _ _ := h1
  obtain ⟨v1, d1, A1, f1, f2, o1, nd1, fr1⟩ := x1.rl.hold hi
  rw [e2] at f2; cases f2
  rw [e1] at f1; cases f1
  obtain ⟨a', xs1, B, ea, hH1, hs1, eA⟩ := o1.lst_inv
  cases ea
  split at h1
  · rename_i hz
    refine ⟨a, xs1, v, rfl, rfl, hH1, by rw [hs1.length]; exact line_lt (Nat.le_of_lt hz), ?_⟩
    exact (show StP J c ow owl kr F E (.nx _) P1 from h1) σ F1 _ (r.app x1 hi e1 e2 hH1 hs1) x1.st.fs
  · exact h1.elim

theorem set_self {α : Type} {l : List α} {n : Nat} {x : α} (h : l[n]? = some x) : l.set n x = l := by
  apply List.ext_getElem?
  intro i
  by_cases hi : n = i
  · subst hi; rw [List.getElem?_set_self ((List.getElem?_eq_some_iff.mp h).1), h]
  · rw [List.getElem?_set_ne hi]
/-! an owned list of data (depth 1) gets other contents -/
theorem Rl.put1 {c : Ctx} {ps : Pls} {σ : St} {ρ : Rho} {P : Pool} {F H : Hp} {i : Nat} {a : Addr} {xs ys : List V} {ds es : List D} (r : Rl c ps ow σ ρ P F H) (hi : ow.lookup i = some 1) (hρ : ρ[i]? = some (some (.list ds))) (hσ : σ[i]? = some (some (.ref a))) (hH : H a = some (.lst xs)) (hs : Rps F xs ds) (hy : Rps F ys es) :
    Rl c ps ow σ (ρ.set i (some (.list es))) P F (upd H a (.lst ys)) :=
  r.rewrite (A := [a]) (A' := [a]) (d := .list ds) hi hσ (.lst hH (Ows.ofRps hs)) List.mem_cons_self ((List.getElem?_eq_some_iff.mp hρ).1) (.lst upd_same (Ows.ofRps hy)) (by simp) fun b hb => .inl hb
theorem Rl.hold1 {c : Ctx} {ps : Pls} {σ : St} {ρ : Rho} {P : Pool} {F H : Hp} {i : Nat} {ds : List D} (r : Rl c ps ow σ ρ P F H) (hi : ow.lookup i = some 1) (hρ : ρ[i]? = some (some (.list ds))) : ∃ a xs, σ[i]? = some (some (.ref a)) ∧ H a = some (.lst xs) ∧ Rps F xs ds ∧ F a = none ∧ c.H0 a = none ∧ NP c a := by
  obtain ⟨v0, d0, A0, e0, e2, o0, nd0, fr0⟩ := r.hold hi
  rw [hρ] at e0; cases e0
  obtain ⟨a, xs, B0, rfl, hH, hs0, eA⟩ := o0.lst_inv
  obtain ⟨h1, h2⟩ := hs0.toRps
  have q := fr0 a (eA ▸ List.mem_cons_self)
  exact ⟨a, xs, e2, hH, h1, q.1, q.2.1, q.2.2⟩
open PySem.AutoSeq1 in
theorem ext_tup (l : Addr) (items : Array Value) (n : Nat) (b : Addr) (items2 : Array Value) (n2 : Nat) (dd : Option Addr) (sl : Array (Option Value)) (short : ¬(!items.isEmpty && Builtin.List.listTooLong (items.size + items2.size)) = true) (hs1 : items.size ≤ sizeLine) (hs2 : items.size + items2.size ≤ sizeLine + 1) :
    Meets (Builtin.«list.extend» ⟨[.ref l, .ref b], []⟩) (fun _ R s => s.heap.get? l = some { cls := .type "list", dict := none, data := .seq items n, slots := #[] } ∧ s.heap.get? b = some { cls := .type "tuple", dict := dd, data := .seq items2 n2, slots := sl } ∧
      R (.ok (.ret Value.none)) { s with heap := s.heap.update l (Obj.mapSeq fun x => x ++ items2), toks := s.toks }) :=
  .of_wp fun prog w A R s h => by
    obtain ⟨hp, g, d, tk, os⟩ := s
    obtain ⟨hl, hb, h⟩ := h
    have f1 := idx_int
    have f2 := sub_tuple_tuple
    have f3 := sub_list_list
    have f4 := sub_tuple_list
    have f5 := sub_list_tuple
    have hz' : (items ++ items2).size ≤ sizeLine + 1 := by rw [Array.size_append]; omega
    wp_walk using (wpAny_updateSeq hl rfl (hz := hs1) (_hz' := hz')), wpAny_loadPart' hl, wpAny_loadPart' hb
    exact ⟨_, rfl, h⟩
def rExtT : V → List V → Hp → VK → Prop := fun x vs H Q => ∃ l b xs zs, x = .ref l ∧ vs = [.ref b] ∧ H l = some (.lst xs) ∧ H b = some (.tup zs) ∧ xs.length + zs.length ≤ sizeLine ∧ Q .non (upd H l (.lst (xs ++ zs)))
theorem mt_extT {X : Cx} : MtM X "list.extend" fun x vs H Q => rExtend x vs H Q ∨ rExtT x vs H Q := by
  intro pins s σ H x vs v us Q I rx rv h
  rcases h with h | ⟨l, b, xs, zs, ex, ev, hH, hB, hz, q⟩
  · exact mt_extend pins s σ H x vs v us Q I rx rv h
  · subst ex ev
    cases rx
    obtain ⟨u, rfl, ru⟩ := rv.one
    cases ru
    obtain ⟨z, its, n, r, hl, e⟩ := I.lstM hH
    obtain ⟨its2, r2, ⟨o2, e2, c2, n2, d2⟩, hz2⟩ := I.tuple (.inl (.inl hB))
    obtain ⟨cls, dd, dat, sl⟩ := o2
    cases c2
    cases d2
    have l1 := r.length
    have l2 := r2.length
    have hsz : its.toArray.size + its2.toArray.size ≤ sizeLine := by rw [List.size_toArray, List.size_toArray]; omega
    have short : ¬ (!its.toArray.isEmpty && Builtin.List.listTooLong (its.toArray.size + its2.toArray.size)) = true := by
      rw [notLongL hsz, Bool.and_false]; decide
    refine call_meets PySem.F.slot_list_extend ⟨_, e, rfl⟩ PySem.F.entry_list_extend (PySem.F.args_list_extend_2 _ _)
      (ext_tup l its.toArray n b its2.toArray n2 _ _ short (by rw [List.size_toArray]; omega) (by omega)) ⟨e, e2, ?_⟩
    refine ⟨.non, _, I.lset (its' := its ++ its2) hH e (by simp) (r.append r2) ?_, rfl, q⟩
    rw [List.length_append]; omega
/-- x.extend(e) -/
def sExt (i : Nat) (f : Rho → M D) : Rho → M Oc := fun ρ => bnd (lift (lstAt ρ i)) fun ds => bnd (f ρ) fun d => match d with
  | .list es => if ds.length + es.length ≤ 1000000 then ret (.nx (ρ.set i (some (.list (ds ++ es))))) else stuck
  | .tuple es => if ds.length + es.length ≤ 1000000 then ret (.nx (ρ.set i (some (.list (ds ++ es))))) else stuck
  | _ => stuck
theorem s1_extend {i : Nat} {x : Str} {e : Expr} {f : Rho → M D} {p apos cpos pos : Pos} (h : Se J ow e 0 f) (hi : ow.lookup i = some 1 := by rfl) (hN : J.X.N[i]? = some x := by rfl) (hv : Vis J.X.env.scope x := by first | exact Or.inl rfl | exact Or.inr (Or.inl rfl)) (hd : (x == ("__debug__" : Str)) = false := by decide) (hcd : (x == ("__classdict__" : Str)) = false := by decide)
    (hbase : attributeBase (.Name x p) "extend" J.X.env (eval (.Name x p) J.X.env) = eval (.Name x p) J.X.env := by rfl)
    (hfew : ((backTo cpos (starEach [e] J.X.env)).all (fun x => !x.1) && (backToKw cpos (keywordEach [] J.X.env)).all (fun x => x.1.isSome) && decide ([e].length + ([] : List Keyword).length + (if ([] : List Keyword).isEmpty then 0 else 1) < 30)) = true := by rfl)
    (hline : (apos.endLine == cpos.line) = true := by rfl) (hs : starEach [e] J.X.env = (false, eval e J.X.env) :: starEach [] J.X.env := by rfl) (hplain : (backTo cpos (starEach [] J.X.env)).any (·.1) = false := by rfl)
    (hsw : swapsWith (.Call (.Attribute (.Name x p) "extend" apos) [e] [] cpos) none pos.line J.X.env = pure false := by rfl) : S1 J ow ow owl kr (.Expr (.Call (.Attribute (.Name x p) "extend" apos) [e] [] cpos) pos) (sExt i f) := by
  obtain ⟨t, pe, q⟩ := h
  refine ⟨_, ps_expr (pe_bm PySem.F.plainAttrs_list PySem.F.slot_list_extend PySem.F.type_list_extend mt_extT (pe_var hN hv hd hcd) (pa_cons pe pa_nil hs) hbase hfew hline hs hplain) hsw, fun c σ ρ P F H E hc r w => ?_⟩
  obtain ⟨ds, el, w⟩ := Wp.lift (Wp.bnd w)
  have e1 := lstAt_some el
  obtain ⟨a, xs, e2, hH, hs0, _⟩ := r.hold1 hi e1
  refine ⟨.ref a, e2, .inl ⟨rfl, xs, .inl (.inl hH)⟩, ?_⟩
  refine q c σ ρ P F H _ hc r ((Wp.bnd w).mono (fun d P1 h1 v F1 H1 A x1 => ?_) ErrS.e)
  obtain ⟨a', xs1, f2, hH1, hs1, _⟩ := x1.rl.hold1 hi e1
  rw [e2] at f2; cases f2
  cases x1.rp with
  | lst hb rb =>
    simp only at h1
    split at h1
    · rename_i es _ hz
      refine .inl ⟨a, _, xs1, _, rfl, rfl, hH1, x1.rl.gd.sub _ _ hb, line_of (by rw [hs1.length, rb.length]; exact hz), ?_⟩
      exact (show StP J c ow owl kr F E (.nx _) P1 from h1) σ F1 _ (x1.rl.put1 hi e1 e2 hH1 hs1 (hs1.append rb)) x1.st.fs
    · exact h1.elim
  | tup hb rb =>
    simp only at h1
    split at h1
    · rename_i es _ hz
      refine .inr ⟨a, _, xs1, _, rfl, rfl, hH1, x1.rl.gd.sub _ _ hb, line_of (by rw [hs1.length, rb.length]; exact hz), ?_⟩
      exact (show StP J c ow owl kr F E (.nx _) P1 from h1) σ F1 _ (x1.rl.put1 hi e1 e2 hH1 hs1 (hs1.append rb)) x1.st.fs
    · exact h1.elim
  | _ => exact h1.elim
/-- x[j] = e -/
def setD (ds : List D) (j : D) (d : D) : Option (List D) := match j with | .int k => (ixN ds.length k).map fun n => ds.set n d | _ => none
def sSub (i : Nat) (f g : Rho → M D) : Rho → M Oc := fun ρ => bnd (f ρ) fun d => bnd (g ρ) fun j => bnd (lift (lstAt ρ i)) fun ds => bnd (lift (setD ds j d)) fun es => ret (.nx (ρ.set i (some (.list es))))
theorem s1_sub {i : Nat} {x : Str} {e ix : Expr} {f g : Rho → M D} {p tp pos : Pos} (h : Se J ow e 0 f) (hg : Se J ow ix 0 g) (hi : ow.lookup i = some 1 := by rfl) (hN : J.X.N[i]? = some x := by rfl) (hv : Vis J.X.env.scope x := by first | exact Or.inl rfl | exact Or.inr (Or.inl rfl)) (hd : (x == ("__debug__" : Str)) = false := by decide) (hcd : (x == ("__classdict__" : Str)) = false := by decide)
    (ha : ∀ v, assign (.Subscript (.Name x p) ix tp) J.X.env v = (do
      let ov ← holding [v] (eval (.Name x p) J.X.env)
      let iv ← holding [v, ov] (eval ix J.X.env)
      standAt tp
      holding [v, ov, iv] (setItem ov iv v)
      release [v, ov, iv] []) := by intro _; rfl)
    (hs : swapsWithSole [.Subscript (.Name x p) ix tp] e pos.line J.X.env = pure false := by rfl) (hw : swappedStores [.Subscript (.Name x p) ix tp] e J.X.env = pure none := by rfl) (h1 : (assignEach [.Subscript (.Name x p) ix tp] J.X.env).map (·.2) = [assign (.Subscript (.Name x p) ix tp) J.X.env] := by rfl) :
    S1 J ow ow owl kr (.Assign [.Subscript (.Name x p) ix tp] e pos) (sSub i f g) := by
  obtain ⟨t, pe, q⟩ := h
  obtain ⟨u, pg, qg⟩ := hg
  refine ⟨_, ps_asg pe (pg_sub (pe_var hN hv hd hcd) pg set_list ha) hs hw h1, fun c σ ρ P F H E hc r w => ?_⟩
  refine q c σ ρ P F H _ hc r (w.bnd.mono (fun d P1 h1 v F1 H1 A x1 => ?_) ErrS.e)
  have h1 := Wp.bnd h1
  have hex : ∃ a, σ[i]? = some (some (.ref a)) := by
    obtain ⟨v0, d0, A0, _, e2, o0, _⟩ := x1.rl.hold hi
    cases o0 with
    | lst _ _ => exact ⟨_, e2⟩
    | dK _ _ => exact ⟨_, e2⟩
    | dT _ _ => exact ⟨_, e2⟩
  obtain ⟨a, e2⟩ := hex
  refine ⟨.ref a, e2, ?_⟩
  refine qg c σ ρ P1 F1 H1 _ hc x1.rl (h1.mono (fun j P2 h2 z F2 H2 A2 x2 => ?_) ErrS.e)
  obtain ⟨ds, el, h2⟩ := Wp.lift (Wp.bnd h2)
  obtain ⟨es, ee, h2⟩ := Wp.lift (Wp.bnd h2)
  have e1 := lstAt_some el
  obtain ⟨a', xs, f2, hH, hs0, _⟩ := x2.rl.hold1 hi e1
  rw [e2] at f2; cases f2
  cases x2.rp with
  | int k =>
    simp only [setD, Option.map_eq_some_iff] at ee
    obtain ⟨n, en, rfl⟩ := ee
    refine ⟨a, xs, k, n, rfl, rfl, hH, by rw [hs0.length]; exact en, ?_⟩
    exact (show StP J c ow owl kr F E (.nx _) P2 from h2) σ F2 _ (x2.rl.put1 hi e1 e2 hH hs0 (hs0.set (x1.rp.mono x2.st.fs) n)) (x1.st.fs.trans x2.st.fs)
  | _ => cases ee
/-- an item of an owned list -/
def ePeek (i : Nat) (g : Rho → M D) : Rho → M D := fun ρ => bnd (lift (lstAt ρ i)) fun ds => bnd (g ρ) fun j => lift (gIx (.list ds) j)
theorem se_peek {i : Nat} {x : Str} {ix : Expr} {g : Rho → M D} {p pos : Pos} (hg : Se J ow ix 0 g) (hi : ow.lookup i = some 1 := by rfl) (hN : J.X.N[i]? = some x := by rfl) (hv : Vis J.X.env.scope x := by first | exact Or.inl rfl | exact Or.inr (Or.inl rfl) | exact Or.inr (Or.inr rfl)) (hd : (x == ("__debug__" : Str)) = false := by decide) (hcd : (x == ("__classdict__" : Str)) = false := by decide)
    (hs : PlainIx ix := by exact fun _ _ => rfl) : Se J ow (.Subscript (.Name x p) ix pos) 0 (ePeek i g) := by
  obtain ⟨u, pg, qg⟩ := hg
  refine ⟨_, pe_ix ix_list (pe_var hN hv hd hcd) pg hs, fun c σ ρ P F H Q hc r w => ?_⟩
  obtain ⟨ds, el, w⟩ := Wp.lift (Wp.bnd w)
  have e1 := lstAt_some el
  obtain ⟨a, xs, e2, hH, hs0, _⟩ := r.hold1 hi e1
  refine ⟨.ref a, e2, ?_⟩
  refine qg c σ ρ P F H _ hc r ((Wp.bnd w).mono (fun j P2 h2 z F2 H2 A2 x2 => ?_) fun _ _ h => h)
  obtain ⟨a', xs1, f2, hH1, hs1, _⟩ := x2.rl.hold1 hi e1
  rw [e2] at f2; cases f2
  obtain ⟨d, ed, h3⟩ := h2.lift
  cases x2.rp with
  | int k =>
    obtain ⟨v, h4, h5⟩ := atI_rps hs1 ed
    exact ⟨a, xs1, k, v, rfl, rfl, .inl (.inl hH1), h4, h3 _ _ _ _ ((x2.rl.vp h5).after x2.st)⟩
  | _ => cases ed
/-- the items of an owned list of lists' list: walked by a comprehension, flat things -/
def flatL : Option D → Option (List D)
  | some (.list es) => if es.all flatD = true then some es else none
  | _ => none
theorem flatL_some {o : Option D} {es : List D} (h : flatL o = some es) : o = some (.list es) ∧ es.all flatD = true := by
  unfold flatL at h
  split at h
  · split at h
    · cases h; exact ⟨rfl, by assumption⟩
    · cases h
  · cases h
def iPeek (i : Nat) (g : Rho → M D) : Rho → M (List D) := fun ρ => bnd (lift (lstAt ρ i)) fun ds => bnd (g ρ) fun j => lift (flatL (gIx (.list ds) j))
theorem Rp.any {F G : Hp} {v : V} {d : D} (h : Rp F v d) (f : flatD d = true) : Rp G v d := by
  cases h with
  | non => exact .non
  | bl b => exact .bl b
  | int i => exact .int i
  | str x => exact .str x
  | _ => cases f
theorem Ow.inner {F H : Hp} {k : Nat} {xs : List V} {ds : List D} {B : List Addr} {j : Int} {d : D} (h : Ows F H k xs ds B) (e : atI ds j = some d) : ∃ n v B1 A B2, ixN ds.length j = some n ∧ xs[n]? = some v ∧ ds[n]? = some d ∧ B = B1 ++ (A ++ B2) ∧ Ow F H k v d A ∧
    ∀ (H' : Hp) (v' : V) (d' : D) (A' : List Addr), Ow F H' k v' d' A' → (∀ a ∈ B1 ++ B2, ∀ o, H a = some o → H' a = some o) → Ows F H' k (xs.set n v') (ds.set n d') (B1 ++ (A' ++ B2)) := by
  unfold atI at e
  rw [Option.bind_eq_some_iff] at e
  obtain ⟨n, h1, h2⟩ := e
  have hl := h.length
  obtain ⟨v, hv⟩ : ∃ v, xs[n]? = some v := ⟨_, List.getElem?_eq_getElem (by rw [hl]; exact (List.getElem?_eq_some_iff.mp h2).1)⟩
  obtain ⟨B1, A, B2, e, o, k⟩ := h.split n hv h2
  exact ⟨n, v, B1, A, B2, h1, hv, h2, e, o, k⟩
theorem atI_of {α β : Type} {xs : List α} {ds : List β} {j : Int} {n : Nat} {v : α} (hl : xs.length = ds.length) (h1 : ixN ds.length j = some n) (h2 : xs[n]? = some v) : atI xs j = some v := by
  unfold atI; rw [hl, h1]; exact h2
theorem si_peek {i : Nat} {x : Str} {tg ix : Expr} {g : Rho → M D} {p pos : Pos} (hg : Se J ow ix 0 g) (hi : ow.lookup i = some 2 := by rfl) (hN : J.X.N[i]? = some x := by rfl) (hv : Vis J.X.env.scope x := by first | exact Or.inl rfl | exact Or.inr (Or.inl rfl) | exact Or.inr (Or.inr rfl)) (hd : (x == ("__debug__" : Str)) = false := by decide) (hcd : (x == ("__classdict__" : Str)) = false := by decide)
    (hs : PlainIx ix := by exact fun _ _ => rfl) : SiC J ow tg (.Subscript (.Name x p) ix pos) (iPeek i g) := by
  obtain ⟨u, pg, qg⟩ := hg
  refine ⟨_, pi_seqA (pe_ix ix_list (pe_var hN hv hd hcd) pg hs), fun c σ ρ P F H R hc r w => ?_⟩
  obtain ⟨ds, el, w⟩ := Wp.lift (Wp.bnd w)
  have e1 := lstAt_some el
  have hex : ∃ a, σ[i]? = some (some (.ref a)) := by
    obtain ⟨v0, d0, A0, _, e2, o0, _⟩ := r.hold hi
    cases o0 with
    | lst _ _ => exact ⟨_, e2⟩
  obtain ⟨a, e2⟩ := hex
  refine ⟨.ref a, e2, ?_⟩
  refine qg c σ ρ P F H _ hc r ((Wp.bnd w).mono (fun j P2 h2 z F2 H2 A2 x2 => ?_) fun _ _ h => h)
  obtain ⟨v0, d0, A0, f1, f2, o0, nd0, fr0⟩ := x2.rl.hold hi
  rw [e2] at f2; cases f2
  rw [e1] at f1; cases f1
  obtain ⟨a', xs, B, ea, hH, hs0, eA⟩ := o0.lst_inv
  cases ea
  obtain ⟨es, efl, h3⟩ := h2.lift
  obtain ⟨eg, hf⟩ := flatL_some efl
  cases x2.rp with
  | int k =>
    obtain ⟨n, v, B1, A, B2, g1, g2, g3, g4, g5, _⟩ := Ow.inner hs0 eg
    obtain ⟨p', zs, C, rfl, hp, hz, eC⟩ := g5.lst_inv
    obtain ⟨rz, rfl⟩ := hz.toRps
    have np : NP c p' := (fr0 p' (by rw [eA, g4, eC]; simp)).2.2
    refine ⟨a, xs, k, .ref p', rfl, rfl, .inl (.inl hH), atI_of hs0.length g1 g2, p', zs, rfl, .inl ⟨.inl (.inl hp), h3 _ F2 H2 x2.rl x2.st fun F' H' s1 s2 kp i => ?_⟩⟩
    have e : SqL J.X.K H' p' zs := .inl (.inl (kp _ _ hp np))
    refine ⟨fun hi => ⟨zs, e, by rw [rz.length]; exact hi⟩, fun d hd => ?_⟩
    obtain ⟨v, hv, rp⟩ := rz.get' hd
    refine ⟨⟨zs, v, e, hv⟩, fun u H3 hy => ?_⟩
    obtain ⟨rfl, hu⟩ := hy
    have q := hu zs e
    rw [hv] at q; cases q
    exact ⟨F', Nw.same s2 (rp.mono s1)⟩
  | _ => cases eg
/-- x[j].append(e), x.remove(e) at an inner list -/
theorem Rl.inner {c : Ctx} {ps : Pls} {σ : St} {ρ : Rho} {P : Pool} {F H : Hp} {i k n : Nat} {a p : Addr} {xs zs : List V} {ds es : List D} {B B1 A B2 C : List Addr} (r : Rl c ps ow σ ρ P F H) (hi : ow.lookup i = some (k + 2)) (hρ : ρ[i]? = some (some (.list ds))) (hσ : σ[i]? = some (some (.ref a))) (hH : H a = some (.lst xs)) (hs : Ows F H (k + 1) xs ds (B1 ++ (A ++ B2)))
    (g2 : xs[n]? = some (.ref p)) (eA : A = p :: C) (put : ∀ (H' : Hp) (v' : V) (d' : D) (A' : List Addr), Ow F H' (k + 1) v' d' A' → (∀ a ∈ B1 ++ B2, ∀ o, H a = some o → H' a = some o) → Ows F H' (k + 1) (xs.set n v') (ds.set n d') (B1 ++ (A' ++ B2)))
    (C' : List Addr) (new : Ows F (upd H p (.lst zs)) k zs es C') (nd : (a :: (B1 ++ ((p :: C') ++ B2))).Nodup) (fr : ∀ b ∈ C', b ∈ C ∨ (F b = none ∧ c.H0 b = none ∧ NP c b ∧ ∀ j l v d A, ow.lookup j = some l → σ[j]? = some (some v) → Ow F H l v d A → b ∉ A)) :
    Rl c ps ow σ (ρ.set i (some (.list (ds.set n (.list es))))) P F (upd H p (.lst zs)) := by
  subst eA
  obtain ⟨v0, d0, A0, f1, f2, o0, nd0, fr0⟩ := r.hold hi
  rw [hσ] at f2; cases f2
  have own0 : Ow F H (k + 2) (.ref a) (.list ds) (a :: (B1 ++ ((p :: C) ++ B2))) := .lst hH hs
  have eA0 := o0.uniq own0
  subst eA0
  have hset : xs.set n (.ref p) = xs := set_self g2
  refine r.rewrite (A := a :: (B1 ++ ((p :: C) ++ B2))) (A' := a :: (B1 ++ ((p :: C') ++ B2))) (d := .list ds) hi hσ own0 (by simp) ((List.getElem?_eq_some_iff.mp hρ).1) ?_ nd fun b hb => ?_
  · have pa : p ≠ a := by
      intro z; subst z
      simp at nd0
    have q := put (upd H p (.lst zs)) (.ref p) (.list es) (p :: C') (.lst upd_same new) fun b hb u hu => by
      rw [upd_ne (fun z => by
        subst z
        have := (List.nodup_cons.mp nd0).2
        rw [List.nodup_append] at this
        obtain ⟨n1, n2, n3⟩ := this
        rcases List.mem_append.mp hb with hb | hb
        · exact n3 b hb b (by simp) rfl
        · rw [List.cons_append, List.nodup_cons] at n2
          exact n2.1 (List.mem_append_right _ hb))]
      exact hu
    rw [hset] at q
    refine .lst ?_ q
    rw [upd_ne (Ne.symm pa)]; exact hH
  · simp only [List.mem_cons, List.mem_append] at hb
    rcases hb with rfl | hb | (rfl | hb) | hb
    · exact .inl List.mem_cons_self
    · exact .inl (by simp [hb])
    · exact .inl (by simp)
    · rcases fr b hb with q | q
      · exact .inl (by simp [q])
      · exact .inr q
    · exact .inl (by simp [hb])
end
end DL

end
section
set_option Elab.async false
set_option linter.all false
set_option maxRecDepth 100000
set_option maxHeartbeats 2000000
namespace DL
open PySem PySem.Spec L2

section
variable {J : Jd} {ow ow' owl : Owns} {kr : Nat}
/-- an owned slot is handed back -/
def sRetO (i : Nat) : Rho → M Oc := fun ρ => match ρ[i]? with | some (some d) => ret (.rt d) | _ => stuck
theorem s1_retO {i : Nat} {x : Str} {p pos : Pos} (hi : ow.lookup i = some kr := by rfl) (hN : J.X.N[i]? = some x := by rfl) (hv : Vis J.X.env.scope x := by first | exact Or.inl rfl | exact Or.inr (Or.inl rfl)) (hd : (x == ("__debug__" : Str)) = false := by decide) (hcd : (x == ("__classdict__" : Str)) = false := by decide) : S1 J ow ow' owl kr (.Return (some (.Name x p)) pos) (sRetO i) := by
  refine ⟨_, ps_ret (pe_var hN hv hd hcd), fun c σ ρ P F H E hc r w => ?_⟩
  obtain ⟨v, d, A, e1, e2, o, nd, fr⟩ := r.hold hi
  unfold sRetO at w
  rw [e1] at w
  exact ⟨v, e2, (show StP J c ow' owl kr F E (.rt d) P from w) v H ⟨F, A, r.gd, o, nd, fr⟩⟩
/-! x += e, ints -/
def sAug (i : Nat) (g : D → D → Option D) (f : Rho → M D) : Rho → M Oc := fun ρ => bnd (eVar i ρ) fun a => bnd (f ρ) fun b => bnd (lift (g a b)) fun d => ret (.nx (ρ.set i (some d)))
theorem o_ip {f : Int → Int → Int} : ∀ (F H : Hp) (x y : V) (a b d : D) (Q : VK), Same F H → Rp F x a → Rp F y b → (match a, b with | .int i, .int j => some (.int (f i j)) | _, _ => none : Option D) = some d → (∀ v, Rp F v d → Q v H) → ipI f x y H Q := fun F H x y a b d Q s ha hb e k => by
  cases ha <;> cases hb <;> cases e
  exact ⟨_, _, rfl, rfl, k _ (.int _)⟩
def gIp (f : Int → Int → Int) : D → D → Option D := fun a b => match a, b with | .int i, .int j => some (.int (f i j)) | _, _ => none
theorem s1_aug {i : Nat} {x : Str} {e : Expr} {f : Rho → M D} {op : Operator} {h : Int → Int → Int} {pos pos' : Pos} (O : Ok J) (hip : PIp J.X op (ipI h)) (he : Se J ow e 0 f) (hi : ow.lookup i = none := by rfl) (hps : Fre J.ps i := by exact ⟨by simp, by simp⟩) (hN : J.X.N[i]? = some x := by rfl) (hx : Loc J.X.env.scope x := by first | exact Or.inl rfl | exact Or.inr rfl)
    (hf : J.X.fn x = true ∨ J.X.env.scope.names.lookup x = some .local := by first | exact .inl rfl | exact .inr rfl) : S1 J ow ow owl kr (.AugAssign (.Name x pos') op e pos) (sAug i (gIp h) f) := by
  obtain ⟨t, p, q⟩ := he
  refine ⟨_, ps_aug O.nd hN hx p hip hf, fun c σ ρ P F H E hc r w => ?_⟩
  unfold sAug at w
  have w := Wp.bnd w
  unfold eVar at w
  cases ev : ρ[i]? with
  | none => rw [ev] at w; exact w.elim
  | some o =>
    rw [ev] at w
    cases o with
    | none => exact w.elim
    | some a =>
      obtain ⟨v, hv, rp⟩ := r.fz i a ev hi
      refine ⟨v, hv, ?_⟩
      refine q c σ ρ P F H _ hc r (Wp.mono (Wp.bnd (Wp.ok w)) (fun b P1 h1 u F1 H1 A x1 => ?_) ErrS.e)
      obtain ⟨d, ed, h2⟩ := Wp.lift (Wp.bnd h1)
      refine o_ip F1 H1 v u a b d _ x1.rl.gd.sub (rp.mono x1.st.fs) x1.rp ed fun z hz => ?_
      exact (show StP J c ow owl kr F E (.nx _) P1 from h2) _ F1 H1 (x1.rl.set hz hi hps (List.getElem?_eq_some_iff.mp ev).1) x1.st.fs
/-! slices -/
def So (J : Jd) (ow : Owns) (e : Option Expr) (f : Rho → M (Option Int)) : Prop :=
  ∃ t, PO J.X e t ∧ ∀ (c : Ctx) (σ : St) (ρ : Rho) (P : Pool) (F H : Hp) (Q : Option Int → Hp → Prop), CxOk J c → Rl c J.ps ow σ ρ P F H →
    Wp (f ρ P) (fun o P' => ∀ F' H', Rl c J.ps ow σ ρ P' F' H' → Stp c F H F' H' → Q o H') (ErrE J c ow σ ρ) → t σ H Q
def oNo : Rho → M (Option Int) := fun _ => ret none
def oInt (f : Rho → M D) : Rho → M (Option Int) := fun ρ => bnd (f ρ) fun d => match d with | .int i => ret (some i) | _ => stuck
theorem so_none : So J ow none oNo := ⟨_, po_none, fun c σ ρ P F H Q hc r w => w F H r (.refl _ _ _)⟩
theorem so_some {e : Expr} {f : Rho → M D} (h : Se J ow e 0 f) : So J ow (some e) (oInt f) := by
  obtain ⟨t, p, q⟩ := h
  refine ⟨_, po_some p, fun c σ ρ P F H Q hc r w => ?_⟩
  refine q c σ ρ P F H _ hc r (w.bnd.mono (fun d P1 h1 v F1 H1 A x => ?_) fun _ _ h => h)
  cases x.rp with
  | int i => exact ⟨i, rfl, h1 F1 H1 x.rl x.st⟩
  | _ => exact h1.elim
def cutD (xs : List D) (lo hi : Option Int) : List D := (xs.drop (HT.sIx xs.length 0 lo)).take (HT.sIx xs.length xs.length hi - HT.sIx xs.length 0 lo)
theorem rps_cut {F : Hp} {vs : List V} {ds : List D} (r : Rps F vs ds) (lo hi : Option Int) : Rps F (cutV vs lo hi) (cutD ds lo hi) := by
  unfold cutV cutD
  rw [r.length]
  exact (r.drop _).take _
theorem cut_whole {xs : List D} {lo hi : Option Int} (z : HT.sIx xs.length 0 lo = 0 ∧ HT.sIx xs.length xs.length hi = xs.length) : cutD xs lo hi = xs := by
  unfold cutD
  rw [z.1, z.2, List.drop_zero, Nat.sub_zero, List.take_length]
def gSl (d : D) (lo hi : Option Int) : Option D := match d with
  | .list xs => some (.list (cutD xs lo hi))
  | .tuple xs => some (.tuple (cutD xs lo hi))
  | _ => none
def eSl (f : Rho → M D) (l h : Rho → M (Option Int)) : Rho → M D := fun ρ => bnd (f ρ) fun d => bnd (l ρ) fun lo => bnd (h ρ) fun hi => lift (gSl d lo hi)
theorem se_slice {e : Expr} {lo hi : Option Expr} {f : Rho → M D} {l h : Rho → M (Option Int)} {p2 pos : Pos} (he : Se J ow e 0 f) (hl : So J ow lo l) (hh : So J ow hi h) : Se J ow (.Subscript e (.Slice lo hi none p2) pos) 0 (eSl f l h) := by
  obtain ⟨t, p, q⟩ := he
  obtain ⟨tl, pl, ql⟩ := hl
  obtain ⟨th, ph, qh⟩ := hh
  refine ⟨_, pe_slice (SlR.or sl_list sl_tupA) p pl ph, fun c σ ρ P F H Q hc r w => ?_⟩
  refine q c σ ρ P F H _ hc r (w.bnd.mono (fun d P1 h1 v F1 H1 A1 x1 => ?_) fun _ _ h => h)
  refine ql c σ ρ P1 F1 H1 _ hc x1.rl (h1.bnd.mono (fun lo' P2 h2 F2 H2 r2 s2 => ?_) fun _ _ h => h)
  refine qh c σ ρ P2 F2 H2 _ hc r2 (h2.bnd.mono (fun hi' P3 h3 F3 H3 r3 s3 => ?_) fun _ _ h => h)
  obtain ⟨z, ez, k⟩ := h3.lift
  have st := x1.st.trans (s2.trans s3)
  have rp := x1.rp.mono (s2.fs.trans s3.fs)
  cases rp with
  | lst ha ra =>
    cases ez
    refine .inl ⟨_, _, rfl, .inl (.inl (r3.gd.sub _ _ ha)), fun p hp => k _ _ _ _ ((r3.nw (Nw.lst r3.gd.sub hp (rps_cut ra lo' hi'))).after st)⟩
  | tup ha ra =>
    cases ez
    refine .inr ⟨_, _, rfl, .inl (.inl (r3.gd.sub _ _ ha)), fun z => ?_, fun _ p hp => k _ _ _ _ ((r3.nw (Nw.tup r3.gd.sub hp (rps_cut ra lo' hi'))).after st)⟩
    rw [ra.length] at z
    rw [cut_whole z] at k
    exact k _ _ _ _ ((r3.vp (.tup ha ra)).after st)
  | _ => cases ez
/-! xs[::-1] of a list -/
def gRev : D → Option D | .list xs => some (.list xs.reverse) | _ => none
theorem se_revL {e : Expr} {f : Rho → M D} {k : Nat} {p1 p2 p3 pos : Pos} (h : Se J ow e 0 f) : Se J ow (.Subscript e (.Slice none none (some (.UnaryOp .USub (.Constant (.int 1) k p1) p2)) p3) pos) 0 (eUn gRev f) := by
  obtain ⟨t, p, q⟩ := h
  refine ⟨_, pe_revL p, op1_run (ta := t) (r := fun x H1 Q => ∃ a xs, x = .ref a ∧ SqL J.X.K H1 a xs ∧ ∀ p, H1 p = none → Q (.ref p) (upd H1 p (.lst xs.reverse))) q fun F H x a d Q s ha e k => ?_⟩
  cases ha with
  | lst h r => cases e; exact ⟨_, _, rfl, .inl (.inl (s _ _ h)), fun p hp => k _ _ _ _ (Nw.lst s hp r.reverse)⟩
  | _ => cases e
/-! repr of a list or tuple (no dict within) -/
def noDict : D → Bool := fun d => d.canLay0
def gRepr : List D → Option D
  | [.list xs] => if (PyData.list xs).canLay0 = true ∧ (PyData.list xs).depth ≤ 64 ∧ (PyData.list xs).showable = true ∧ (PyData.list xs).shown.length ≤ sizeLine then some (.str (PyData.list xs).shown) else none
  | [.tuple xs] => if (PyData.tuple xs).canLay0 = true ∧ (PyData.tuple xs).depth ≤ 64 ∧ (PyData.tuple xs).showable = true ∧ (PyData.tuple xs).shown.length ≤ sizeLine then some (.str (PyData.tuple xs).shown) else none
  | _ => none
mutual
theorem noDict_of : ∀ d : PyData, d.canLay0 = true → d.hasDict = false
  | .none, _ => rfl
  | .bool _, _ => rfl
  | .int _, _ => rfl
  | .str _, _ => rfl
  | .list xs, h => by
    simp only [PyData.hasDict]
    exact noDict_all xs (by simpa [PyData.canLay0] using h)
  | .tuple xs, h => by
    simp only [PyData.hasDict]
    exact noDict_all xs (by simpa [PyData.canLay0] using h)
  | .dict _, h => by simp [PyData.canLay0] at h
theorem noDict_all : ∀ ds : List PyData, PyData.canLayAll0 ds = true → PyData.hasDictAll ds = false
  | [], _ => rfl
  | d :: r, h => by
    simp only [PyData.canLayAll0, Bool.and_eq_true] at h
    simp only [PyData.hasDictAll, noDict_of d h.1, noDict_all r h.2, Bool.or_self]
end
def rReprD (K : PySem.W.Frag) : List V → Hp → VK → Prop := fun xs H Q => ∃ (a : Addr) (d : D), xs = [.ref a] ∧ Dp K H (.ref a) d ∧ d.canLay0 = true ∧ d.depth ≤ 64 ∧ d.showable = true ∧ d.shown.length ≤ sizeLine ∧ Q (.str d.shown) H
theorem call_reprD {X : Cx} (hg : X.A.guards = some []) (hu : X.A.units + 200 < cLine) : CallR X (.builtin "repr") (rReprD X.K) := by
  intro pins s σ H xs us Q I r h
  obtain ⟨a, d, rfl, hd, hl, hdp, hs, hz, q⟩ := h
  rw [Vals.ref1 r]
  obtain ⟨as, rd⟩ := Dp.reads I d (.ref a) (.ref a) hd rfl
  exact repr_of_reads' rd hs (fun z => by rw [noDict_of d hl] at z; cases z) hg (by omega) (fun _ _ h => h) (fun h' u tk hk => ⟨.str d.shown, H, I.kept hk, ⟨u, rfl⟩, q⟩) hz
theorem o_repr {K : PySem.W.Frag} : OpL (rReprD K) 0 gRepr := fun F H xs as d Q s ha e k => by
  cases ha with
  | nil => cases e
  | cons h r => cases r with
    | cons _ _ => cases h <;> cases e
    | nil => cases h with
      | lst h r =>
        simp only [gRepr] at e
        split at e
        · rename_i c; cases e
          exact ⟨_, _, rfl, Rp.dpL s (.lst h r) c.1, c.1, c.2.1, c.2.2.1, c.2.2.2, k _ _ _ _ (Nw.same s (.str _))⟩
        · cases e
      | tup h r =>
        simp only [gRepr] at e
        split at e
        · rename_i c; cases e
          exact ⟨_, _, rfl, Rp.dpL s (.tup h r) c.1, c.1, c.2.1, c.2.2.1, c.2.2.2, k _ _ _ _ (Nw.same s (.str _))⟩
        · cases e
      | _ => cases e
/-! an owned slot lent to a test -/
theorem Rl.lend {c : Ctx} {ps : Pls} {σ : St} {ρ : Rho} {P P' : Pool} {F H F' H' : Hp} {i k : Nat} {d0 : D} {v0 : V} {A : List Addr} (r : Rl c ps ow σ ρ P F H) (hi : ow.lookup i = some k) (hσ : σ[i]? = some (some v0)) (ho : Ow F H k v0 d0 A) (hf : ∀ a ∈ A, F a = none ∧ c.H0 a = none ∧ NP c a)
    (r' : Rl c ps (unO i ow) σ ρ P' F' H') (s : Stp c (addF F H A) H F' H') : ∃ F2, Rl c ps ow σ ρ P' F2 H' ∧ Stp c F H F2 H' := by
  have e2 : ∀ a o, (fun a => if a ∈ A then none else F' a : Hp) a = some o → a ∉ A ∧ F' a = some o := fun a o e => by
    dsimp only at e
    split at e
    · cases e
    · exact ⟨by assumption, e⟩
  have fs : Same F fun a => if a ∈ A then none else F' a := fun a o e => by
    have na : a ∉ A := fun z => by rw [(hf a z).1] at e; cases e
    dsimp only
    rw [if_neg na]
    exact s.fs a o (addF_same (fun a ha => (hf a ha).1) a o e)
  have st : Stp c F H (fun a => if a ∈ A then none else F' a) H' := ⟨fs, fun a o e => by
    obtain ⟨na, e⟩ := e2 a o e
    rcases s.gr a o e with z | z
    · rcases addF_new z with y | y
      · exact .inl y
      · exact absurd y na
    · exact .inr z, s.kp, s.dm⟩
  refine ⟨_, r.grow st (fun a o e => r'.gd.sub a o (e2 a o e).2) fun p q e => ?_, st⟩
  obtain ⟨x0, x1, x2, x3, x4⟩ := r'.gd.pool p q e
  refine ⟨x0, x1, x2, ?_, ?_⟩
  · split
    · rfl
    · exact x3
  · split
    · rfl
    · exact x4
theorem Rl.lent {c : Ctx} {ps : Pls} {σ : St} {ρ : Rho} {P : Pool} {F H : Hp} {i k : Nat} {d0 : D} {v0 : V} {A : List Addr} (r : Rl c ps ow σ ρ P F H) (hi : ow.lookup i = some k) (hρ : ρ[i]? = some (some d0)) (hσ : σ[i]? = some (some v0)) (ho : Ow F H k v0 d0 A) (hf : ∀ a ∈ A, F a = none ∧ c.H0 a = none ∧ NP c a) : Rl c ps (unO i ow) σ ρ P (addF F H A) H := by
  obtain ⟨Am, h1, h2⟩ := r.own
  obtain ⟨v1, d1, a1, b1, o1, nd1, fr1⟩ := h1 i k hi
  rw [hσ] at b1; cases b1
  have eA := o1.uniq ho
  have conv : ∀ j k, (unO i ow).lookup j = some k → ow.lookup j = some k ∧ j ≠ i := fun j k e => by
    rw [unO_lookup] at e; split at e
    · cases e
    · rename_i hj; exact ⟨e, hj⟩
  have sm : Same F (addF F H A) := addF_same fun a ha => (hf a ha).1
  have apart : ∀ j k, (unO i ow).lookup j = some k → ∀ a ∈ Am j, a ∉ A := fun j k e a ha => eA ▸ h2 j i k _ (conv j k e).1 hi (conv j k e).2 a ha
  refine ⟨⟨addF_sub r.gd.sub, r.gd.f0.trans sm, fun a o e => (addF_new e).elim (r.gd.gr a o) fun z => .inr (hf a z).2.1, r.gd.kp, r.gd.dm, fun p q e => ?_⟩, r.len, r.psl, r.scl, fun j d e n => ?_, Am, fun j k e => ?_, fun a b k l e1 e2 => h2 a b k l (conv _ _ e1).1 (conv _ _ e2).1⟩
  · obtain ⟨x0, x1, x2, x3, x4⟩ := r.gd.pool p q e
    refine ⟨x0, x1, x2, ?_, ?_⟩
    · unfold addF; rw [if_neg fun z => ((hf p z).2.2 p q e).1 rfl]; exact x3
    · unfold addF; rw [if_neg fun z => ((hf q z).2.2 p q e).2 rfl]; exact x4
  · rw [unO_lookup] at n
    by_cases hj : j = i
    · subst hj
      rw [hρ] at e; cases e
      exact ⟨v0, hσ, ho.frz sm fun a ha o h => by unfold addF; rw [if_pos ha]; exact h⟩
    · rw [if_neg hj] at n
      obtain ⟨v, x, y⟩ := r.fz j d e n
      exact ⟨v, x, y.mono sm⟩
  · obtain ⟨e', hj⟩ := conv j k e
    obtain ⟨v, d, x, y, o, nd, fr⟩ := h1 j k e'
    refine ⟨v, d, x, y, o.mono sm fun _ _ _ h => h, nd, fun a ha => ⟨?_, (fr a ha).2⟩⟩
    unfold addF
    rw [if_neg (apart j k e a ha)]
    exact (fr a ha).1
/-- while the test runs, slot i is read only; an exception may not leave it -/
theorem te_lend (i : Nat) {k : Nat} {e : Expr} {f : Rho → M Bool} (hi : ow.lookup i = some k) (h : Te J (unO i ow) e f) : Te J ow e fun ρ => noX (f ρ) := by
  obtain ⟨t, p, q⟩ := h
  refine ⟨t, p, fun c σ ρ P F H Q hc r w => ?_⟩
  obtain ⟨v, d, A, e1, e2, o, nd, fr⟩ := r.hold hi
  have rl := r.lent hi e1 e2 o fr
  refine q c σ ρ P _ H Q hc rl (w.noX.mono (fun b P1 h1 F1 H1 r1 s1 => ?_) fun _ _ h => h.elim)
  obtain ⟨F2, r2, s2⟩ := r.lend hi e2 o fr r1 s1
  exact h1 F2 H1 r2 s2
/-! x[j].remove(e) -/
def rmI (x : Int) (l : List Int) : Option (List Int) := if x ∈ l then some (l.erase x) else none
def sRem (i : Nat) (g f : Rho → M D) : Rho → M Oc := fun ρ => bnd (lift (lstAt ρ i)) fun ds => bnd (g ρ) fun j => bnd (f ρ) fun d => match j, d with
  | .int j, .int x => match ixN ds.length j with
    | some n => match ds[n]? with
      | some (.list es) => bnd (lift ((intsOf es).bind (rmI x))) fun ns => ret (.nx (ρ.set i (some (.list (ds.set n (.list (ns.map .int)))))))
      | _ => stuck
    | none => stuck
  | _, _ => stuck
theorem first_at {x : Int} : ∀ {l : List Int}, x ∈ l → ∃ j : Nat, l[j]? = some x ∧ (∀ m : Nat, m < j → l[m]? ≠ some x) ∧ l.eraseIdx j = l.erase x
  | a :: r, h => by
    by_cases e : a = x
    · subst e
      exact ⟨0, rfl, fun m hm => absurd hm (Nat.not_lt_zero _), by simp⟩
    · obtain ⟨j, h1, h2, h3⟩ := first_at (x := x) (l := r) ((List.mem_cons.mp h).resolve_left (Ne.symm e))
      refine ⟨j + 1, by simpa using h1, fun m hm => ?_, ?_⟩
      · cases m with
        | zero => simp [e]
        | succ m => simpa using h2 m (by omega)
      · rw [List.eraseIdx_cons_succ, h3, List.erase_cons_tail (by simpa using e)]
end
/-! ### a def of the text by its name -/
def Fn (P : Program) (w : World) (K : PySem.W.Frag) (mg : Str → Option Value) (base : Heap) (j : Nat) (x : Str) (prs : List Str) (sp : Sp) : Prop :=
  ∃ f fd, FnG P w K mg base j f fd prs sp ∧ mg x = some (.ref f) ∧ PySem.W.keepIn K (.ref f) = true ∧ Binds K fd prs []
def Df (K : PySem.W.Frag) (mg : Str → Option Value) (x : Str) (st : Stmt) (prs : List Str) : Prop := ∃ f fd, Fun K x x st f fd ∧ mg x = some (.ref f) ∧ Binds K fd prs []
theorem def_of {P : Program} {w : World} {K : PySem.W.Frag} {mg : Str → Option Value} {base : Heap} {x : Str} {st : Stmt} {N prs : List Str} {k n kr : Nat} {cl : String → Addr} {ow' : Owns} {fb : Rho → M Oc} (hp : Bool) (T : Df K mg x st prs) (S : FnScope N prs (defScope st)) (hn : prs.length = n + (if hp then 1 else 0)) (hm : prs.length ≤ N.length)
    (body : ∀ (f : Addr) (cdv : Value) (B : Around) (up : List Env) (s : Shared) (H : Hp) (E : XK), Ok (jd P w K mg base N x (defScope st) f cdv B up s H E cl (if hp then some 0 else none)) → PassesOwn (model P w) (jd P w K mg base N x (defScope st) f cdv B up s H E cl (if hp then some 0 else none)).X.A (jd P w K mg base N x (defScope st) f cdv B up s H E cl (if hp then some 0 else none)).X.env (jd P w K mg base N x (defScope st) f cdv B up s H E cl (if hp then some 0 else none)).X.xe →
      Room k (jd P w K mg base N x (defScope st) f cdv B up s H E cl (if hp then some 0 else none)).X.A → Ss (jd P w K mg base N x (defScope st) f cdv B up s H E cl (if hp then some 0 else none)) [] ow' [] kr (defBody st) fb) :
    Fn P w K mg base (k + 1) x prs (spD cl hp n kr fun ds => bodyF kr fb (rho0 hp N.length ds)) := by
  obtain ⟨f, fd, F, h1, h2⟩ := T
  exact ⟨f, fd, fn_def hp F S hn hm (body f), h1, F.kp, h2⟩
section
variable {J : Jd} {ow : Owns}
theorem se_fn {x : Str} {p : Pos} {e : Expr} {es : List Expr} {k n j m : Nat} {prs : List Str} {fn : List D → M D} {g : Rho → M (List D)} (O : Ok J) (hr : Room m J.X.A) (G : Fn J.X.prog J.X.w J.X.K J.X.mg J.X.base j x prs (spD J.cl false n k fn)) (ha : Sa J ow (e :: es) g) (hj : j ≤ m := by decide) (hn : (e :: es).length = n := by rfl) (hg : Gl J.X x := by rfl) (hdb : (x == ("__debug__" : Str)) = false := by decide)
    (he : starEach (e :: es) J.X.env = (false, eval e J.X.env) :: starEach es J.X.env := by rfl) (hpl : (backTo pos (starEach es J.X.env)).any (·.1) = false := by rfl) : Se J ow (.Call (.Name x p) (e :: es) [] pos) k (eCall fn g) := by
  obtain ⟨f, fd, F, h1, h2, h3⟩ := G
  exact se_call O F (hr.mono hj) h1 h2 h3 ha hn hg hdb he hpl
theorem se_fnP {x y : Str} {p pp : Pos} {es : List Expr} {k n j i m : Nat} {prs : List Str} {fn : List D → M D} {g : Rho → M (List D)} (O : Ok J) (hr : Room m J.X.A) (G : Fn J.X.prog J.X.w J.X.K J.X.mg J.X.base j x prs (spD J.cl true n k fn)) (ha : Sa J ow es g) (hps : J.ps.1 = some i := by rfl) (hj : j ≤ m := by decide) (hn : es.length = n := by rfl) (hN : J.X.N[i]? = some y := by rfl) (hv : Vis J.X.env.scope y := by first | exact Or.inl rfl | exact Or.inr (Or.inl rfl) | exact Or.inr (Or.inr rfl)) (hdy : (y == ("__debug__" : Str)) = false := by decide)
    (hcd : (y == ("__classdict__" : Str)) = false := by decide) (hg : Gl J.X x := by rfl) (hdb : (x == ("__debug__" : Str)) = false := by decide)
    (he : starEach (.Name y pp :: es) J.X.env = (false, eval (.Name y pp) J.X.env) :: starEach es J.X.env := by rfl) (hpl : (backTo pos (starEach es J.X.env)).any (·.1) = false := by rfl) : Se J ow (.Call (.Name x p) (.Name y pp :: es) [] pos) k (eCallP fn g) := by
  obtain ⟨f, fd, F, h1, h2, h3⟩ := G
  exact se_callP O hps F (hr.mono hj) h1 h2 h3 ha hn hN hv hdy hcd hg hdb he hpl
end
end DL

end
section
set_option Elab.async false
set_option linter.all false
set_option maxRecDepth 100000
set_option maxHeartbeats 2000000
namespace DL
open PySem PySem.Spec L2
section
variable {J : Jd} {ow ow' owl : Owns} {kr : Nat}
theorem se_globE {x : Str} {i : Int} {pos : Pos} (hm : ∃ t, J.X.mg x = some (.int i t)) (hg : Gl J.X x := by rfl) (hd : (x == ("__debug__" : Str)) = false := by decide) : Se J ow (.Name x pos) 0 (eC (.int i)) := by
  obtain ⟨t, hm⟩ := hm
  exact se_glob hm hg hd
/-- a new list without items is owned as deep as one likes -/
theorem se_nil {k : Nat} {pos : Pos} : Se J ow (.List [] pos) (k + 1) (eC (.list [])) := by
  refine ⟨_, pe_lst pa_nil, fun c σ ρ P F H Q hc r w => ?_⟩
  refine ⟨line_of (by simp), fun p hp => Wp.ok w _ _ _ _ (r.nw ⟨.refl _, r.gd.sub.trans (same_upd hp), same_upd hp, fun _ _ h => .inl h, .lst upd_same .nil, by simp, fun a h => by
    rw [List.mem_singleton.mp h]; exact ⟨r.gd.sub.free hp, hp⟩⟩)⟩
theorem rps_intsV {F : Hp} : ∀ {ns : List Int} {vs : List V}, Rps F vs (ns.map PyData.int) → vs = ns.map V.int
  | [], _, .nil => rfl
  | n :: r, _, .cons (.int _) h => by rw [rps_intsV h]; rfl
def innerAt (ds : List D) (j : D) : Option (Nat × List D) := match j with
  | .int k => (ixN ds.length k).bind fun n => match ds[n]? with | some (.list es) => some (n, es) | _ => none
  | _ => none
theorem innerAt_some {ds : List D} {k : Int} {n : Nat} {es : List D} (h : innerAt ds (.int k) = some (n, es)) : ixN ds.length k = some n ∧ ds[n]? = some (.list es) := by
  simp only [innerAt, Option.bind_eq_some_iff] at h
  obtain ⟨m, h1, h2⟩ := h
  split at h2
  · rename_i es' he
    cases h2; exact ⟨h1, he⟩
  · cases h2
def remD (es : List D) (d : D) : Option (List D) := match d with
  | .int x => (intsOf es).bind fun ns => if x ∈ ns then some ((ns.erase x).map PyData.int) else none
  | _ => none
def sRem' (i : Nat) (g f : Rho → M D) : Rho → M Oc := fun ρ => bnd (lift (lstAt ρ i)) fun ds => bnd (g ρ) fun j => bnd (lift (innerAt ds j)) fun ne => bnd (f ρ) fun d => bnd (lift (remD ne.2 d)) fun es => ret (.nx (ρ.set i (some (.list (ds.set ne.1 (.list es))))))
theorem s1_remove {i : Nat} {x : Str} {e ix : Expr} {f g : Rho → M D} {p q0 apos cpos pos : Pos} (hg : Se J ow ix 0 g) (h : Se J ow e 0 f) (hi : ow.lookup i = some 2 := by rfl) (hN : J.X.N[i]? = some x := by rfl) (hv : Vis J.X.env.scope x := by first | exact Or.inl rfl | exact Or.inr (Or.inl rfl)) (hd : (x == ("__debug__" : Str)) = false := by decide) (hcd : (x == ("__classdict__" : Str)) = false := by decide)
    (hpl : PlainIx ix := by exact fun _ _ => rfl)
    (hbase : attributeBase (.Subscript (.Name x p) ix q0) "remove" J.X.env (eval (.Subscript (.Name x p) ix q0) J.X.env) = eval (.Subscript (.Name x p) ix q0) J.X.env := by rfl)
    (hfew : ((backTo cpos (starEach [e] J.X.env)).all (fun x => !x.1) && (backToKw cpos (keywordEach [] J.X.env)).all (fun x => x.1.isSome) && decide ([e].length + ([] : List Keyword).length + (if ([] : List Keyword).isEmpty then 0 else 1) < 30)) = true := by rfl)
    (hline : (apos.endLine == cpos.line) = true := by rfl) (hs : starEach [e] J.X.env = (false, eval e J.X.env) :: starEach [] J.X.env := by rfl) (hplain : (backTo cpos (starEach [] J.X.env)).any (·.1) = false := by rfl)
    (hsw : swapsWith (.Call (.Attribute (.Subscript (.Name x p) ix q0) "remove" apos) [e] [] cpos) none pos.line J.X.env = pure false := by rfl) : S1 J ow ow owl kr (.Expr (.Call (.Attribute (.Subscript (.Name x p) ix q0) "remove" apos) [e] [] cpos) pos) (sRem' i g f) := by
  obtain ⟨t, pe, q⟩ := h
  obtain ⟨u, pg, qg⟩ := hg
  refine ⟨_, ps_expr (pe_bm PySem.F.plainAttrs_list PySem.F.slot_list_remove PySem.F.type_list_remove mt_remove (pe_ix ix_list (pe_var hN hv hd hcd) pg hpl) (pa_cons pe pa_nil hs) hbase hfew hline hs hplain) hsw, fun c σ ρ P F H E hc r w => ?_⟩
  obtain ⟨ds, el, w⟩ := Wp.lift (Wp.bnd w)
  have e1 := lstAt_some el
  have hex : ∃ a, σ[i]? = some (some (.ref a)) := by
    obtain ⟨v0, d0, A0, _, e2, o0, _⟩ := r.hold hi
    cases o0 with
    | lst _ _ => exact ⟨_, e2⟩
  obtain ⟨a, e2⟩ := hex
  refine ⟨.ref a, e2, ?_⟩
  refine qg c σ ρ P F H _ hc r ((Wp.bnd w).mono (fun j P2 h2 z F2 H2 A2 x2 => ?_) ErrS.e)
  obtain ⟨v0, d0, A0, f1, f2, o0, nd0, fr0⟩ := x2.rl.hold hi
  rw [e2] at f2; cases f2
  rw [e1] at f1; cases f1
  obtain ⟨a', xs, B, ea, hH, hs0, eA⟩ := o0.lst_inv
  cases ea
  obtain ⟨⟨n, es⟩, en, h4⟩ := Wp.lift (Wp.bnd h2)
  cases x2.rp with
  | int k =>
    obtain ⟨n1, n2⟩ := innerAt_some en
    obtain ⟨n', v, B1, A, B2, g1, g2, g3, g4, g5, _⟩ := Ow.inner (j := k) hs0 (by unfold atI; rw [n1]; exact n2)
    rw [n1] at g1; cases g1
    obtain ⟨p', zs, C, rfl, hp, hz, eC⟩ := g5.lst_inv
    refine ⟨a, xs, k, .ref p', rfl, rfl, .inl (.inl hH), atI_of hs0.length n1 g2, .inl ⟨rfl, zs, .inl (.inl hp)⟩, ?_⟩
    refine q c σ ρ P2 F2 H2 _ hc x2.rl ((Wp.bnd h4).mono (fun d P3 h3 y F3 H3 A3 x3 => ?_) ErrS.e)
    obtain ⟨es', ee, h3⟩ := Wp.lift (Wp.bnd h3)
    have hH3 : H3 a = some (.lst xs) := x3.st.kp _ _ hH (fr0 a (by rw [eA]; simp)).2.2
    have hp3 : H3 p' = some (.lst zs) := x3.st.kp _ _ hp (fr0 p' (by rw [eA, g4, eC]; simp)).2.2
    obtain ⟨v1, d1, A1, f1, f2, o1, nd1, fr1⟩ := x3.rl.hold hi
    rw [e2] at f2; cases f2
    rw [e1] at f1; cases f1
    obtain ⟨a1, xs1, B', ea, hH1, hs1, eA1⟩ := o1.lst_inv
    cases ea
    rw [hH3] at hH1; cases hH1
    obtain ⟨n', v, B1', A', B2', g1, g2', g3', g4', g5', put⟩ := Ow.inner (j := k) hs1 (by unfold atI; rw [n1]; exact n2)
    rw [n1] at g1; cases g1
    rw [g2] at g2'; cases g2'
    obtain ⟨p2, zs2, C2, ep, hp2, hz2, eC2⟩ := g5'.lst_inv
    cases ep
    rw [hp3] at hp2; cases hp2
    obtain ⟨rz, rfl⟩ := hz2.toRps
    cases x3.rp with
    | int xx =>
      simp only [remD, Option.bind_eq_some_iff] at ee
      obtain ⟨ns, e3, e4⟩ := ee
      split at e4
      · rename_i hm
        cases e4
        have z := ints_rps rz e3
        subst z
        obtain ⟨jj, j1, j2, j3⟩ := first_at hm
        refine ⟨p', ns, xx, jj, rfl, rfl, hp3, j1, j2, ?_⟩
        rw [j3]
        subst g4' eC2
        refine (show StP J c ow owl kr F E (.nx _) P3 from h3) σ F3 _ (x3.rl.inner (B := B1' ++ ([p'] ++ B2')) hi e1 e2 hH3 hs1 g2 rfl put [] (Ows.ofRps (rps_ints _)) (by rw [← eA1]; exact nd1) (fun _ h => nomatch h)) (x2.st.fs.trans x3.st.fs)
      · cases e4
    | _ => cases ee
  | _ => cases en
end
end DL

end
section
set_option Elab.async false
set_option linter.all false
set_option maxRecDepth 100000
set_option maxHeartbeats 2000000
namespace DL
open PySem PySem.Spec L2
/-! ### the law's draw from its pool -/
def rIntA : List V → Hp → VK → Prop := fun xs H Q => (∃ i, xs = [V.int i] ∧ Q (.int i) H) ∨ ∃ k, xs = [V.bl k] ∧ Q (.int (if k then 1 else 0)) H
abbrev tI (t : TE) : TE := tCB rIntA (tCons t tNil)
abbrev tModN (a b : TE) : TE := tOp (rI (fun _ j => j ≠ 0) fun i j => V.int (i.fmod j)) a b
abbrev tDivN (a b : TE) : TE := tOp (rI CDivN fun i j => V.int (i.fdiv j)) a b
abbrev tMulN (a b : TE) : TE := tOp (rI CMul fun i j => V.int (i * j)) a b
abbrev tAddN (a b : TE) : TE := tOp (rI0 fun i j => V.int (i + j)) a b
abbrev tPowN (a b : TE) : TE := tOp (rI CPow fun i j => V.int (i ^ j.toNat)) a b
def drawT (K : PySem.W.Frag) : TS :=
  tSeq (tAsg (tOp (rIxL K) (tVar 0) (tC (.int 0))) (gName 2)) <|
  tSeq (tAsg (tOp (rIxL K) (tVar 0) (tC (.int 1))) (gName 3)) <|
  tSeq (tAsg (tAddN (tVar 3) (tC (.int 1))) (L2.gSub (tVar 0) (tC (.int 1)) rSetL)) <|
  tSeq (tAsg (tModN (tI (tVar 3)) (tCB (fun xs H Q => ∃ p ys, xs = [.ref p] ∧ (SqL K H p ys ∨ SqT K H p ys) ∧ Q (.int ys.length) H) (tCons (tVar 2) tNil))) (gName 4)) <|
  tSeq (tAsg (tOp (rIxL K) (tVar 2) (tVar 4)) (gName 5)) <|
  tSeq (tIfS (tTest (tOp (rI0 fun i j => V.bl (decide (j ≤ i))) (tVar 5) (tPowN (tC (.int 10)) (tC (.int 18)))))
    (tSeq (tAsg (tDivN (tVar 5) (tVar 1)) (L2.gSub (tVar 2) (tVar 4) rSetL)) (tSeq (tRet (tModN (tI (tVar 5)) (tVar 1))) tNext)) tNext) <|
  tSeq (tAsg (tModN (tMulN (tI (tAddN (tAddN (tVar 5) (tMulN (tC (.int 7919)) (tVar 3))) (tC (.int 1)))) (tC (.int 48271))) (tC (.int 2147483647))) (gName 5)) <|
  tSeq (tAsg (tModN (tMulN (tI (tVar 5)) (tAddN (tDivN (tVar 5) (tC (.int 1009))) (tC (.int 69621)))) (tC (.int 2147483647))) (gName 5)) <|
  tSeq (tAsg (tModN (tMulN (tI (tVar 5)) (tAddN (tDivN (tVar 5) (tC (.int 2003))) (tC (.int 40692)))) (tC (.int 2147483399))) (gName 5)) <|
  tSeq (tRet (tModN (tI (tVar 5)) (tVar 1))) tNext
def mix (v t : Int) : Int :=
  let a := ((v + 7919 * t + 1) * 48271).fmod 2147483647
  let b := (a * (a.fdiv 1009 + 69621)).fmod 2147483647
  (b * (b.fdiv 2003 + 40692)).fmod 2147483399
def drawF : List D → M D := fun ds P => match ds with
  | [.int many] => if 0 < many ∧ many < 1073741824 ∧ 0 < P.rest.length ∧ P.knd = 0 then
      let at' := (P.turn.fmod P.rest.length).toNat
      let v := P.rest.getD at' 0
      if 10 ^ 18 ≤ v then some (.ok (.int (v.fmod many)), ⟨P.rest.set at' (v.fdiv many), P.turn + 1, 0⟩)
      else some (.ok (.int ((mix v P.turn).fmod many)), ⟨P.rest, P.turn + 1, 0⟩)
    else none
  | _ => none
theorem fmod_lo {a b : Int} (h : 0 < b) : 0 ≤ a.fmod b ∧ a.fmod b < b := ⟨Int.fmod_nonneg_of_pos a h, Int.fmod_lt_of_pos a h⟩
theorem draw_run {K : PySem.W.Frag} {H : Hp} {E : Ends} {p r : Addr} {many : Int} {P : Pool} (hne : p ≠ r) (hp : H p = some (.lst [.ref r, .int P.turn])) (hr : H r = some (.lst (P.rest.map V.int))) (hm : 0 < many) (hm2 : many < 1073741824) (hl : 0 < P.rest.length)
    (h1 : ∀ v, P.rest.getD (P.turn.fmod P.rest.length).toNat 0 = v → 10 ^ 18 ≤ v → E.rt (.int (v.fmod many)) (upd (upd H p (.lst [.ref r, .int (P.turn + 1)])) r (.lst ((P.rest.set (P.turn.fmod P.rest.length).toNat (v.fdiv many)).map V.int))))
    (h2 : ∀ v, P.rest.getD (P.turn.fmod P.rest.length).toNat 0 = v → ¬ 10 ^ 18 ≤ v → E.rt (.int ((mix v P.turn).fmod many)) (upd H p (.lst [.ref r, .int (P.turn + 1)]))) :
    drawT K E [some (.ref p), some (.int many), none, none, none, none] H := by
  have hl' : (0 : Int) < P.rest.length := by omega
  have hlo := fmod_lo (a := P.turn) hl'
  generalize hat : P.turn.fmod P.rest.length = at' at h1 h2 hlo
  have hix : ixN P.rest.length at' = some at'.toNat := by unfold ixN; rw [if_pos hlo.1, if_pos hlo.2]
  have hlt : at'.toNat < P.rest.length := by omega
  obtain ⟨v, hv⟩ : ∃ v, P.rest[at'.toNat]? = some v := ⟨_, List.getElem?_eq_getElem hlt⟩
  have hgd : P.rest.getD at'.toNat 0 = v := by rw [List.getD_eq_getElem?_getD, hv]; rfl
  have hatI : atI (P.rest.map V.int) at' = some (.int v) := by
    unfold atI; rw [List.length_map, hix]; show (P.rest.map V.int)[at'.toNat]? = _; rw [List.getElem?_map, hv]; rfl
  have hr1 : upd H p (.lst [.ref r, .int (P.turn + 1)]) r = some (.lst (P.rest.map V.int)) := by rw [upd_ne (Ne.symm hne)]; exact hr
  refine ⟨.ref p, rfl, p, _, 0, .ref r, rfl, rfl, .inl (.inl hp), rfl, ?_⟩
  refine ⟨.ref p, rfl, p, _, 1, .int P.turn, rfl, rfl, .inl (.inl hp), rfl, ?_⟩
  refine ⟨.int P.turn, rfl, P.turn, 1, rfl, rfl, .ref p, rfl, p, _, 1, 1, rfl, rfl, hp, rfl, ?_⟩
  refine ⟨.int P.turn, rfl, .inl ⟨P.turn, rfl, .ref r, rfl, r, _, rfl, .inl (.inl (.inl hr1)), P.turn, _, rfl, rfl, ?_, ?_⟩⟩
  · rw [List.length_map]; omega
  rw [List.length_map]
  dsimp only
  rw [hat]
  refine ⟨.ref r, rfl, .int at', rfl, r, _, at', .int v, rfl, rfl, .inl (.inl hr1), hatI, ?_⟩
  refine ⟨.int v, rfl, 10, 18, rfl, rfl, ⟨by decide, by decide, by decide⟩, v, _, rfl, rfl, decide (10 ^ 18 ≤ v), rfl, ?_⟩
  by_cases hb : 10 ^ 18 ≤ v
  · rw [decide_eq_true hb]
    dsimp only
    rw [if_pos rfl]
    refine ⟨.int v, rfl, .int many, rfl, v, many, rfl, rfl, ⟨by omega, by omega⟩, .ref r, rfl, .int at', rfl, r, _, at', at'.toNat, rfl, rfl, hr1, by rw [List.length_map]; exact hix, ?_⟩
    refine ⟨.int v, rfl, .inl ⟨v, rfl, .int many, rfl, v, many, rfl, rfl, by omega, ?_⟩⟩
    have q := h1 v hgd hb
    rw [List.map_set] at q
    exact q
  · rw [decide_eq_false hb]
    dsimp only
    rw [if_neg (by decide)]
    have q := h2 v hgd hb
    unfold mix at q
    refine ⟨.int v, rfl, .int P.turn, rfl, 7919, P.turn, rfl, rfl, .inl ⟨by decide, by decide⟩, v, _, rfl, rfl, _, 1, rfl, rfl, .inl ⟨_, rfl, _, 48271, rfl, rfl, .inr ⟨by decide, by decide⟩, _, 2147483647, rfl, rfl, (show (2147483647 : Int) ≠ 0 by decide), ?_⟩⟩
    dsimp only
    have a1 := fmod_lo (a := (v + 7919 * P.turn + 1) * 48271) (b := 2147483647) (by decide)
    generalize ((v + 7919 * P.turn + 1) * 48271).fmod 2147483647 = a at q a1 ⊢
    refine ⟨.int a, rfl, .inl ⟨a, rfl, .int a, rfl, a, 1009, rfl, rfl, ⟨by decide, by decide⟩, _, 69621, rfl, rfl, a, _, rfl, rfl, .inl ⟨by omega, by omega⟩, _, 2147483647, rfl, rfl, (show (2147483647 : Int) ≠ 0 by decide), ?_⟩⟩
    dsimp only
    have b1 := fmod_lo (a := a * (a.fdiv 1009 + 69621)) (b := 2147483647) (by decide)
    dsimp only at q
    generalize (a * (a.fdiv 1009 + 69621)).fmod 2147483647 = b at q b1 ⊢
    refine ⟨.int b, rfl, .inl ⟨b, rfl, .int b, rfl, b, 2003, rfl, rfl, ⟨by decide, by decide⟩, _, 40692, rfl, rfl, b, _, rfl, rfl, .inl ⟨by omega, by omega⟩, _, 2147483399, rfl, rfl, (show (2147483399 : Int) ≠ 0 by decide), ?_⟩⟩
    dsimp only
    generalize (b * (b.fdiv 2003 + 40692)).fmod 2147483399 = cc at q ⊢
    exact ⟨.int cc, rfl, .inl ⟨cc, rfl, .int many, rfl, cc, many, rfl, rfl, by omega, q⟩⟩
section
variable {P : Program} {w : World} {K : PySem.W.Frag} {mg : Str → Option Value} {base : Heap}
theorem draw_def {x : Str} {st : Stmt} {f : Addr} {fd : FuncData} {N prs : List Str} {cl : String → Addr} (G : Fun K x x st f fd) (S : FnScope N prs (defScope st)) (hN : N.length = 6) (hp : prs.length = 2)
    (body : ∀ (cdv : Value) (B : Around) (up : List Env) (s : Shared) (H : Hp) (E : XK), PSs (cxOf (L2.CX P w) P w K mg base N x (defScope st) f cdv B up s H E) (defBody st) (drawT K)) : FnG P w K mg base 1 f fd prs (spD cl true 1 0 drawF) := by
  refine fnG_of G S (spD_len hp) fun cdv B up s H vs Q E hg hr ⟨F, pa, P0, ds, ws, hv, hw, rp, sub, pool, wp⟩ => ?_
  refine ⟨_, body cdv B up s H E, ?_⟩
  cases pa with
  | none => exact hv.elim
  | some pr =>
    obtain ⟨p, r⟩ := pr
    have ev : vs = .ref p :: ws := hv
    subst ev
    obtain ⟨hne0, h1, h2, h3, h4⟩ := pool p r rfl
    have e0 : L2.start N (.ref p :: ws) = some (.ref p) :: (ws.map some ++ List.replicate 4 none) := by
      unfold L2.start
      rw [hN, List.length_cons, hw]; rfl
    rw [e0]
    unfold drawF at wp
    split at wp
    · rename_i many
      cases rp with
      | cons ha rr =>
        cases rr
        cases ha
        split at wp
        · rename_i hc
          have hne : p ≠ r := hne0.2 (by rw [hc.2.2.2]; decide)
          unfold poolA at h1
          unfold poolB at h2
          rw [if_pos hc.2.2.2] at h1 h2
          have gd : ∀ (H' : Hp) (P' : Pool), P'.knd = 0 → H' p = some (.lst [.ref r, .int P'.turn]) → H' r = some (.lst (P'.rest.map V.int)) → (∀ a, a ≠ p → a ≠ r → H' a = H a) → Gd ⟨H, F, some (p, r), cl, none⟩ P' F H' := fun H' P' g0 g1 g2 g3 => by
            have sm : ∀ a o, F a = some o → H' a = some o := fun a o e => by
              rw [g3 a (fun z => by subst z; rw [h3] at e; cases e) (fun z => by subst z; rw [h4] at e; cases e)]
              exact sub a o e
            refine ⟨sm, .refl _, fun _ _ h => .inl h, fun a o e n => ?_, fun a e => ?_, fun p' r' e => ?_⟩
            · obtain ⟨n1, n2⟩ := n p r rfl
              rw [g3 a n1 n2]; exact e
            · by_cases z1 : a = p
              · subst z1; rw [g1] at e; cases e
              · by_cases z2 : a = r
                · subst z2; rw [g2] at e; cases e
                · rw [g3 a z1 z2] at e; exact e
            · cases e; refine ⟨⟨fun z => (by rw [g0] at z; cases z), fun _ => hne⟩, ?_, ?_, h3, h4⟩
              · unfold poolA; rw [if_pos g0]; exact g1
              · unfold poolB; rw [if_pos g0]; exact g2
          refine draw_run hne h1 h2 hc.1 hc.2.1 hc.2.2.1 (fun v hv hb => ?_) fun v hv hb => ?_
          · dsimp only at wp
            rw [hv, if_pos hb] at wp
            refine wp _ _ ⟨F, [], gd _ _ rfl ?_ ?_ ?_, .fz (.int _), List.nodup_nil, fun _ h => nomatch h⟩
            · rw [upd_ne hne]; exact upd_same
            · exact upd_same
            · intro a z1 z2; rw [upd_ne z2, upd_ne z1]
          · dsimp only at wp
            rw [hv, if_neg hb] at wp
            refine wp _ _ ⟨F, [], gd _ _ rfl ?_ ?_ ?_, .fz (.int _), List.nodup_nil, fun _ h => nomatch h⟩
            · exact upd_same
            · rw [upd_ne (Ne.symm hne)]; exact h2
            · intro a z1 z2; rw [upd_ne z1]
        · exact wp.elim
    · exact wp.elim
theorem draw_of {x : Str} {st : Stmt} {N prs : List Str} {cl : String → Addr} (T : Df K mg x st prs) (S : FnScope N prs (defScope st)) (hN : N.length = 6 := by rfl) (hp : prs.length = 2 := by rfl)
    (body : ∀ (f : Addr) (cdv : Value) (B : Around) (up : List Env) (s : Shared) (H : Hp) (E : XK), PSs (cxOf (L2.CX P w) P w K mg base N x (defScope st) f cdv B up s H E) (defBody st) (drawT K)) : Fn P w K mg base 1 x prs (spD cl true 1 0 drawF) := by
  obtain ⟨f, fd, F, h1, h2⟩ := T
  exact ⟨f, fd, draw_def F S hN hp (body f), h1, F.kp, h2⟩
end
end DL

end
section
set_option Elab.async false
set_option linter.all false
set_option maxRecDepth 100000
set_option maxHeartbeats 2000000
namespace DL
open PySem PySem.Spec L2
/-! ### the law's pool, its body -/
def lenA (K : PySem.W.Frag) : List V → Hp → VK → Prop := fun xs H Q => ∃ p ys, xs = [V.ref p] ∧ (SqL K H p ys ∨ SqT K H p ys) ∧ Q (.int ys.length) H
def listA (K : PySem.W.Frag) : List V → Hp → VK → Prop := fun xs H Q => ∃ p ys, xs = [V.ref p] ∧ (SqL K H p ys ∨ SqT K H p ys) ∧ ∀ l, H l = none → Q (.ref l) (upd H l (.lst ys))
def poolT (K : PySem.W.Frag) : TS :=
  tSeq (tAsg (tCB (listA K) (tCons (tVar 0) tNil)) (gName 1)) <|
  tSeq (tIfS (tTest (tOp rEq (tCB (lenA K) (tCons (tVar 1) tNil)) (tC (.int 0)))) (tSeq (tAsg (tLst (tCons (tC (.int 5)) tNil)) (gName 1)) tNext) tNext) <|
  tSeq (tRet (tLst (tCons (tVar 1) (tCons (tC (.int 0)) tNil)))) tNext
def poolOf (ns : List Int) : List Int := if ns.length = 0 then [5] else ns
theorem poolOf_pos (ns : List Int) : 0 < (poolOf ns).length := by
  unfold poolOf
  split
  · simp
  · omega
def poolSp (K : PySem.W.Frag) : Sp := fun vs H Q E => ∃ (a : Addr) (ns : List Int), vs = [.ref a] ∧ SqL K H a (ns.map V.int) ∧ ∀ (p r : Addr) (H' : Hp), p ≠ r → H p = none → H r = none → Same H H' → H' p = some (.lst [.ref r, .int 0]) → H' r = some (.lst ((poolOf ns).map V.int)) → Q (.ref p) H'
theorem pool_run {K : PySem.W.Frag} {H : Hp} {E : Ends} {a : Addr} {ns : List Int} (h : SqL K H a (ns.map V.int)) (k : ∀ (p r : Addr) (H' : Hp), p ≠ r → H p = none → H r = none → Same H H' → H' p = some (.lst [.ref r, .int 0]) → H' r = some (.lst ((poolOf ns).map V.int)) → E.rt (.ref p) H') : poolT K E [some (.ref a), none] H := by
  refine ⟨.ref a, rfl, a, _, rfl, .inl h, fun l hl => ?_⟩
  have h1 : upd H l (.lst (ns.map V.int)) l = some (.lst (ns.map V.int)) := upd_same
  have s1 : Same H (upd H l (.lst (ns.map V.int))) := same_upd hl
  refine ⟨.ref l, rfl, l, _, rfl, .inl (.inl (.inl h1)), rfl, decide (V.int (ns.map V.int).length = V.int 0), rfl, ?_⟩
  rw [dec_int, List.length_map]
  dsimp only
  cases e : ((ns.length : Int) == 0) with
  | true =>
    rw [if_pos rfl]
    have e0 : ns.length = 0 := by have := eq_of_beq e; omega
    refine ⟨by decide, fun r hr => ⟨.ref r, rfl, line_of (by simp), fun p hp => ?_⟩⟩
    have hpr : p ≠ r := fun z => by subst z; rw [upd_same] at hp; cases hp
    refine k p r _ hpr (s1.free ((same_upd hr).free hp)) (s1.free hr) ((s1.trans (same_upd hr)).trans (same_upd hp)) upd_same ?_
    rw [upd_ne (Ne.symm hpr)]
    unfold poolOf
    rw [if_pos e0]
    exact upd_same
  | false =>
    rw [if_neg (by decide)]
    have e0 : ns.length ≠ 0 := by
      intro z; rw [z] at e; cases e
    refine ⟨.ref l, rfl, line_of (by simp), fun p hp => ?_⟩
    have hpr : p ≠ l := fun z => by subst z; rw [upd_same] at hp; cases hp
    refine k p l _ hpr (s1.free hp) hl (s1.trans (same_upd hp)) upd_same ?_
    rw [upd_ne (Ne.symm hpr)]
    unfold poolOf
    rw [if_neg e0]
    exact upd_same
section
variable {P : Program} {w : World} {K : PySem.W.Frag} {mg : Str → Option Value} {base : Heap}
theorem pool_of {x : Str} {st : Stmt} {N prs : List Str} (T : Df K mg x st prs) (S : FnScope N prs (defScope st)) (hN : N.length = 2 := by rfl) (hp : prs.length = 1 := by rfl)
    (body : ∀ (f : Addr) (cdv : Value) (B : Around) (up : List Env) (s : Shared) (H : Hp) (E : XK), PSs (cxOf (L2.CX P w) P w K mg base N x (defScope st) f cdv B up s H E) (defBody st) (poolT K)) : Fn P w K mg base 1 x prs (poolSp K) := by
  obtain ⟨f, fd, F, h1, h2⟩ := T
  refine ⟨f, fd, fnG_of F S ?_ fun cdv B up s H vs Q E hg hr ⟨a, ns, hv, hs, k⟩ => ?_, h1, F.kp, h2⟩
  · intro vs H Q E ⟨a, ns, hv, _⟩
    rw [hv, hp]; rfl
  · subst hv
    refine ⟨_, body f cdv B up s H E, ?_⟩
    have e0 : L2.start N [.ref a] = [some (.ref a), none] := by
      unfold L2.start
      rw [hN]; rfl
    rw [e0]
    exact pool_run hs k
def clL : String → Addr := fun _ => 0
def lawSp (K : PySem.W.Frag) : Sp := fun vs H Q E => ∃ (a : Addr) (ns : List Int), vs = [.ref a] ∧ SqL K H a (ns.map V.int) ∧ ∀ H', Q (.bl true) H'
/-- the law tells True -/
def Keeps (N : List Str) (f : Rho → M Oc) : Prop := ∀ rest : List Int, 0 < rest.length → ∃ P', f (List.replicate N.length none) ⟨rest, 0, 0⟩ = some (.ok (.rt (.bool true)), P')
theorem law_def {x : Str} {st : Stmt} {N prs : List Str} {k : Nat} {ow' : Owns} {cl : String → Addr} {fr : Rho → M Oc} {s1 : Stmt} {tail : List Stmt} (T : Df K mg x st prs) (S : FnScope N prs (defScope st)) (hN : 2 ≤ N.length) (hp : prs.length = 1) (hb : defBody st = s1 :: tail)
    (first : ∀ (f : Addr) (cdv : Value) (B : Around) (up : List Env) (s : Shared) (H : Hp) (E : XK) (J : Jd), J = jd P w K mg base N x (defScope st) f cdv B up s H E cl (some 1) → Ok J → Room k J.X.A → PS J.X s1 (tAsg (tCallS (poolSp K) (WE J.W) (tCons (tVar 0) tNil)) (gName 1)))
    (rest : ∀ (f : Addr) (cdv : Value) (B : Around) (up : List Env) (s : Shared) (H : Hp) (E : XK), Ok (jd P w K mg base N x (defScope st) f cdv B up s H E cl (some 1)) → PassesOwn (model P w) (jd P w K mg base N x (defScope st) f cdv B up s H E cl (some 1)).X.A (jd P w K mg base N x (defScope st) f cdv B up s H E cl (some 1)).X.env (jd P w K mg base N x (defScope st) f cdv B up s H E cl (some 1)).X.xe →
      Room k (jd P w K mg base N x (defScope st) f cdv B up s H E cl (some 1)).X.A → Ss (jd P w K mg base N x (defScope st) f cdv B up s H E cl (some 1)) [] ow' [] 0 tail fr)
    (keeps : Keeps N fr) : Fn P w K mg base (k + 1) x prs (lawSp K) := by
  obtain ⟨f, fd, F, h1, h2⟩ := T
  refine ⟨f, fd, fnG_of F S ?_ fun cdv B up s H vs Q E hg hr ⟨a, ns, hv, hs, kq⟩ => ?_, h1, F.kp, h2⟩
  · intro vs H Q E ⟨a, ns, hv, _⟩
    rw [hv, hp]; rfl
  subst hv
  have O : Ok (jd P w K mg base N x (defScope st) f cdv B up s H E cl (some 1)) := ⟨hg, rfl, by have := hr.un; show (B.deeper _).units + 200 < cLine; omega, takes_of rfl rfl rfl rfl, S.nd, hr.hd⟩
  obtain ⟨t, pt, qt⟩ := rest f cdv B up s H E O (passes_of rfl) hr
  refine ⟨_, hb ▸ pss_cons (first f cdv B up s H E _ rfl O hr) pt, ?_⟩
  have e0 : L2.start N [.ref a] = some (.ref a) :: none :: List.replicate (N.length - 2) none := by
    unfold L2.start
    obtain ⟨m, hm⟩ : ∃ m, N.length = m + 2 := ⟨N.length - 2, by omega⟩
    rw [hm]
    simp [List.replicate_succ]
  rw [e0]
  refine ⟨.ref a, rfl, a, ns, rfl, hs, fun p r H' hne hp0 hr0 sm g1 g2 => ?_⟩
  let c : Ctx := ⟨H', fun _ => none, some (p, r), cl, none⟩
  have rl : Rl c (some 1, false) [] (some (.ref a) :: some (.ref p) :: List.replicate (N.length - 2) none) (List.replicate N.length none) ⟨poolOf ns, 0, 0⟩ (fun _ => none) H' := by
    refine ⟨⟨fun _ _ e => (nomatch e), Same.refl _, fun _ _ h => .inl h, fun _ _ h _ => h, fun _ h => h, fun p' r' e => ?_⟩, ?_, fun i e => ?_, (fun e => by cases e), fun i d e _ => ?_, fun _ => [], (fun i k e => by cases e), (fun i j k l e => by cases e)⟩
    · cases e; exact ⟨⟨fun z => (by cases z), fun _ => hne⟩, g1, g2, rfl, rfl⟩
    · simp; omega
    · cases e; exact ⟨p, r, rfl, rfl⟩
    · rw [List.getElem?_replicate] at e
      split at e
      · cases e
      · cases e
  obtain ⟨P', hk⟩ := keeps (poolOf ns) (poolOf_pos ns)
  refine qt c _ _ _ _ _ _ ⟨rfl, trivial⟩ rl ?_
  rw [hk]
  intro v H2 ⟨F', A, gd, o, nd, fr⟩
  have : v = .bl true := by
    cases o with
    | fz h => cases h; rfl
  subst this
  exact kq H2
end
theorem pool_call {J : Jd} {x : Str} {p pos : Pos} {e : Expr} {es : List Expr} {t : TA} {j m : Nat} {prs : List Str} (O : Ok J) (hr : Room m J.X.A) (G : Fn J.X.prog J.X.w J.X.K J.X.mg J.X.base j x prs (poolSp J.X.K)) (ha : PA J.X (e :: es) t) (hj : j ≤ m := by decide) (hg : Gl J.X x := by rfl) (hdb : (x == ("__debug__" : Str)) = false := by decide)
    (he : starEach (e :: es) J.X.env = (false, eval e J.X.env) :: starEach es J.X.env := by rfl) (hpl : (backTo pos (starEach es J.X.env)).any (·.1) = false := by rfl) : PE J.X (.Call (.Name x p) (e :: es) [] pos) (tCallS (poolSp J.X.K) (WE J.W) t) := by
  obtain ⟨f, fd, F, h1, h2, h3⟩ := G
  exact pe_callG F O.g (hr.mono hj) hg h1 h2 h3 O.tk ha hdb he hpl
end DL

end
section
set_option Elab.async false
set_option linter.all false
set_option maxRecDepth 100000
set_option maxHeartbeats 2000000
namespace DL
open PySem PySem.Spec L2 PyProof.Rows
/-! ### the end of a row -/
section
variable {P : Program} {w : World} {K : PySem.W.Frag} {mg mb : Str → Option Value} {k : Nat} {fa a : Addr} {fd : FuncData} {prs : List Str} {s1 : Shared} {vs : List Value} {ns : List Int}
/-- what is told behind the call -/
def Told (s1 : Shared) (r : Result) (s' : Shared) : Prop := r = .ok (.ret (.bool true)) ∧ OldK s1.heap s'.heap ∧ s'.os = s1.os ∧ AllBare s'.gens
theorem run_from {H : Hp} (base : Heap) (F : FnG P w K mg base k fa fd prs (lawSp K)) (hr : Room k callerA) (hb : Binds K fd prs []) (hp : prs.length = 1) (KX : K.In s1.heap) (e0 : Env0 P w K mg base callerA [] s1 H) (hS : SqL K H a (ns.map V.int))
    (old : ∀ (H' : Hp) (s' : Shared), Un [] [] H H' s1.heap s'.heap → HOk P w H' s'.heap → OldK s1.heap s'.heap) :
    codeAny (model P w) callerA (.call (.ref fa) ⟨[.ref a], []⟩) (Told s1) s1 := by
  have b : BindsTo s1 fd ⟨[.ref a], []⟩ (prs.zip [.ref a]) := by simpa using hb s1 [.ref a] KX (by simp [hp])
  refine codeAny_mono (F.run callerA [] s1 H ⟨[.ref a], []⟩ [.ref a] [.ref a] (fun v _ => v = .bl true) (fun _ _ _ => False) rfl hr e0 b (.cons rfl .nil) ⟨a, ns, rfl, hS, fun _ => rfl⟩) fun r s' h => ?_
  cases r with
  | error e => obtain ⟨_, _, _, _, _, _, _, _, _, _, _, _, z⟩ := h; exact z.elim
  | ok fl =>
    cases fl with
    | ret u =>
      obtain ⟨v, H', os, bare, un, hok', r', q⟩ := h
      have q' : v = .bl true := q
      subst q'
      have : u = Value.bool true := r'
      subst this
      exact ⟨rfl, old H' s' un hok', os, bare⟩
    | _ => exact False.elim h
theorem run_law (KX : K.In s1.heap) (hns : s1.heap.Ns mainGlobals mg) (hbn : s1.heap.Ns builtinsNs mb) (hbb : ∀ x : Str, x ≠ "__name__" → mb x = bootBuiltins x) (hlim : s1.heap.NoLimit) (hg : s1.gens = #[])
    (ha : s1.heap.get? a = some { cls := .type "list", data := .seq vs.toArray }) (hi : IntsAre vs ns) (hl : ns.length ≤ sizeLine) (hr : Room k callerA) (hp : prs.length = 1) {x : Str} (hx : mg x = some (.ref fa))
    (F : ∀ base : Heap, Fn P w K mg base k x prs (lawSp K)) : codeAny (model P w) callerA (.call (.ref fa) ⟨[.ref a], []⟩) (Told s1) s1 := by
  have rv := vals_ints hi
  have F : ∀ base : Heap, ∃ fd, FnG P w K mg base k fa fd prs (lawSp K) ∧ Binds K fd prs [] := fun base => by
    obtain ⟨f, fd, G, e, _, b⟩ := F base
    rw [hx] at e; cases e
    exact ⟨fd, G, b⟩
  cases hk : K.lookup a with
  | some o =>
    have e := KX a o hk
    rw [ha] at e
    cases e
    have e0 : Env0 P w K mg s1.heap callerA [] s1 fun _ => none := ⟨rfl, ⟨KX, hns, ⟨mb, hbn, hbb⟩, hlim⟩, fun b o e => ⟨e, rfl⟩, Nat.le_refl _, trivial, (fun b hb => nomatch hb), (fun b u z => nomatch z), .of_eq hg⟩
    obtain ⟨fd, G, hb⟩ := F s1.heap
    exact run_from s1.heap G hr hb hp KX e0 (.inr ⟨_, vs.toArray, _, hk, rfl, rfl, rfl, by rw [List.size_toArray, hi.length]; exact hl, by simpa using rv⟩)
      fun H' s' un _ => .of_keep fun b o e => un.keep b o e rfl (fun z => nomatch z) fun z => nomatch z
  | none =>
    let H : Hp := upd (fun _ => none) a (.frz { cls := .type "list", data := .seq vs.toArray } (.lst (ns.map V.int)))
    have hHa : H a = some (.frz { cls := .type "list", data := .seq vs.toArray } (.lst (ns.map V.int))) := upd_same
    have hHn : ∀ b, b ≠ a → H b = none := fun b hb => upd_ne hb
    have dictless : ∀ {b : Addr} {m : Str → Option Value}, s1.heap.Ns b m → (hidT s1.heap H).Ns b m := fun {b m} ⟨o, es, ep, e, d, r⟩ => by
      refine ⟨o, es, ep, hidT_get e (hHn b fun z => ?_), d, r⟩
      subst z
      rw [ha] at e; cases e
      nomatch (show Data.seq vs.toArray = Data.dict es ep from d)
    have hin : K.In (hidT s1.heap H) := fun b o e => hidT_get (KX b o e) (hHn b fun z => by rw [z, hk] at e; cases e)
    have hok : HOk P w H s1.heap := fun b u z => by
      by_cases hb : b = a
      · subst hb
        rw [hHa] at z; cases z
        exact ⟨ha, by rw [List.length_map]; exact hl, vs, _, rv, ha⟩
      · rw [hHn b hb] at z; cases z
    have e0 : Env0 P w K mg (hidT s1.heap H) callerA [] s1 H :=
      ⟨rfl, ⟨hin, dictless hns, ⟨mb, dictless hbn, hbb⟩, let ⟨mc, h1, h2⟩ := hlim; ⟨mc, dictless h1, h2⟩⟩, fun b o e => of_hidT e, Nat.le_of_eq (hidT_size _ _), trivial, (fun b hb => nomatch hb), hok, .of_eq hg⟩
    obtain ⟨fd, G, hb⟩ := F (hidT s1.heap H)
    refine run_from _ G hr hb hp KX e0 (.inl (.inr ⟨_, hHa⟩)) fun H' s' un hok' => .of_keep fun b o e => ?_
    by_cases hb : b = a
    · subst hb
      obtain ⟨g1, _⟩ := hok b _ hHa
      obtain ⟨g2, _⟩ := hok' b _ (un.frzs b _ _ hHa)
      rw [e] at g1; cases g1
      exact g2
    · exact un.keep b o e (hHn b hb) (fun z => nomatch z) fun z => nomatch z
end
/-- the goal that is left behind the top -/
theorem walk_G {l : PySem.W.OpenLaw} {n k : Nat} {q : Program} {loose : List Str} {XP : (Str → Option Value) → Heap → Prop} {YP : World → Heap → Prop} {d : DefRec} {K : Params → PySem.W.Frag} {prs : List Str}
    (hn : l.most = some n) (hn2 : n ≤ sizeLine) (hdf : d.params.defaults = []) (hr : Room k callerA) (hp : prs.length = 1) (hY : ∀ (w : World) (h : Heap), YP w h → (K w.params).In h)
    (F : ∀ (w : World) (mg : Str → Option Value) (h : Heap), (K w.params).In h → h.Ns mainGlobals mg → ∀ base : Heap, Fn l.prog w (K w.params) mg base k d.name prs (lawSp (K w.params))) :
    PySem.W.WalkO q loose XP YP l.row.toRowW d [] (fun f vs => PySem.call f vs) := by
  refine Att.attach_call hn hdf fun w s₀ s1 mg mb fa o pm cd doc a vs ns G Y ho hd hcd hmg hobj hints hlen hg => ?_
  have KX := hY w _ Y
  exact run_law KX G.T.g G.T.b G.T.builtins G.T.nolimit hg hobj hints (Nat.le_trans hlen hn2) hr hp hmg fun base => F w mg _ KX G.T.g base
theorem df_mk {K : PySem.W.Frag} {h : Heap} {mg : Str → Option Value} (X : K.In h) (G : h.Ns mainGlobals mg) {x : Str} {st : Stmt} {prs : List Str} {f : Addr} {oc : Value} {od an : Option Addr} {osl : Array (Option Value)} {kV doc pm cdv ct : Value}
    (a : PySem.W.nsIn K mainGlobals x = some (some (.ref f))) (l : K.lookup f = some ⟨oc, od, .func (PySem.W.fnOf x x (defArgs st) (defBody st) (defScope st) .none kV doc pm an cdv ct), osl⟩) (c : PySem.W.codeIn K cdv x = true) (k : PySem.W.keepIn K (.ref f) = true)
    (hb : ∀ (kV doc pm : Value) (an : Option Addr) (cdv ct : Value) (us : List Value), us.length = prs.length → bindArgs (PySem.W.fnOf x x (defArgs st) (defBody st) (defScope st) .none kV doc pm an cdv ct) ⟨us, []⟩ = pure (prs.zip us)) : Df K mg x st prs := by
  have F := fun_mk (st := st) (qual := x) l c k
  exact ⟨f, _, F, PySem.W.mg_of X G a, F.binds hb⟩
end DL

end
section
set_option Elab.async false
set_option linter.all false
set_option maxRecDepth 100000
set_option maxHeartbeats 2000000
namespace DL
open PySem PySem.Spec L2
/-! ### an own exception with one field -/
def spI (C : Addr) (f : Str) : Sp := fun vs H Q E => ∃ (a : Addr) (y : V), vs = [.ref a, y] ∧ H a = some (exo a C none) ∧ ∀ dx, H dx = none → dx ≠ a → Q .non (upd (upd H dx (exd dx [(f, y)])) a (exo a C (some dx)))
section
variable {P : Program} {w : World} {K : PySem.W.Frag} {mg : Str → Option Value} {base : Heap}
theorem init_of {qual f : Str} {st : Stmt} {fI C : Addr} {fd : FuncData} {prs : List Str} (F : Fun K "__init__" qual st fI fd) (S : FnScope prs prs (defScope st)) (hp : prs.length = 2) (T : OexC K C) (no : PySem.W.findIn K (.ref C) f = some none)
    (body : ∀ (cdv : Value) (B : Around) (up : List Env) (s : Shared) (H : Hp) (E : XK), PSs (cxOf (L2.CX P w) P w K mg base prs qual (defScope st) fI cdv B up s H E) (defBody st) (tSeq (tOst K f (tVar 0) (tVar 1)) tNext)) : FnOk P w K mg base (L2.CX P w) 1 fI fd prs (spI C f) := by
  refine F.okX S (fun vs H Q E ⟨a, y, h, _⟩ => by rw [h, hp]; rfl) fun cdv B up s H vs Q E hr ⟨a, y, hv, ha, k⟩ => ?_
  subst hv
  refine ⟨_, body cdv B up s H E, ?_⟩
  have e0 : L2.start prs [.ref a, y] = [some (.ref a), some y] := by
    unfold L2.start
    rw [hp]; rfl
  rw [e0]
  exact ⟨y, rfl, .ref a, rfl, a, C, rfl, T, no, .inl ⟨ha, k⟩⟩
end
/-- the class x of the text, with the field f -/
structure X1 (P : Program) (w : World) (K : PySem.W.Frag) (mg : Str → Option Value) (base : Heap) (C : Addr) (x f : Str) : Prop where
  gC : mg x = some (.ref C)
  T : OexC K C
  X : XfC K C
  no : PySem.W.findIn K (.ref C) f = some none
  ini : ∃ (fI : Addr) (fd : FuncData) (prs : List Str), PySem.W.findIn K (.ref C) "__init__" = some (some (.ref fI)) ∧ PySem.W.typeIn K (.ref fI) = some (.type "function") ∧ FnOk P w K mg base (L2.CX P w) 1 fI fd prs (spI C f) ∧ Binds K fd prs []
def sRaise (x : String) (f : Str) (g : Rho → M D) : Rho → M Oc := fun ρ => bnd (g ρ) fun d P => some (.error ⟨x, some (f, d)⟩, P)
section
variable {J : Jd} {ow ow' owl : Owns} {kr : Nat}
/-- an exception that leaves the slots as they are -/
def ErrT (J : Jd) (c : Ctx) (ow : Owns) (ρ : Rho) : Exn → Pool → Prop := fun x P' => ∀ cls dd σ' F' H', Rl c J.ps ow σ' ρ P' F' H' → ExAt J.cl x F' cls dd H' → J.W cls dd σ' H'
theorem ErrT.e {c : Ctx} {σ : St} {ρ : Rho} : ∀ x p, ErrT J c ow ρ x p → ErrE J c ow σ ρ x p := fun _ _ h cls dd F' H' r e => h cls dd σ F' H' r e
theorem ErrS.t {c : Ctx} {ρ : Rho} : ∀ x p, ErrS J c x p → ErrT J c ow ρ x p := fun _ _ h cls dd σ' F' H' r e => h cls dd σ' F' H' r.gd e
/-- .. as a statement -/
def S1E (J : Jd) (ow ow' owl : Owns) (kr : Nat) (st : Stmt) (f : Rho → M Oc) : Prop :=
  ∃ t, PS J.X st t ∧ ∀ (c : Ctx) (σ : St) (ρ : Rho) (P : Pool) (F H : Hp) (E : Ends), CxOk J c → Rl c J.ps ow σ ρ P F H → Wp (f ρ P) (StP J c ow' owl kr F E) (ErrT J c ow ρ) → t E σ H
theorem S1E.s1 {st : Stmt} {f : Rho → M Oc} (h : S1E J ow ow' owl kr st f) : S1 J ow ow' owl kr st f := by
  obtain ⟨t, p, q⟩ := h
  exact ⟨t, p, fun c σ ρ P F H E hc r w => q c σ ρ P F H E hc r (w.mono (fun _ _ h => h) ErrS.t)⟩
theorem s1_raise1 {x : String} {f : Str} {e : Expr} {g : Rho → M D} {m : Nat} {p pos pos2 : Pos} (O : Ok J) (hr : Room m J.X.A) (X : X1 J.X.prog J.X.w J.X.K J.X.mg J.X.base (J.cl x) (Str.ofString x) f) (he : Se J ow e 0 g) (hj : 2 ≤ m := by decide) (hg : Gl J.X (Str.ofString x) := by rfl) (hdb : (Str.ofString x == ("__debug__" : Str)) = false := by decide)
    (hs : starEach [e] J.X.env = (false, eval e J.X.env) :: starEach [] J.X.env := by rfl) (hpl : (backTo pos (starEach [] J.X.env)).any (·.1) = false := by rfl) : S1E J ow ow' owl kr (.Raise (some (.Call (.Name (Str.ofString x) p) [e] [] pos)) none pos2) (sRaise x f g) := by
  obtain ⟨t, pt, qt⟩ := he
  obtain ⟨fI, fd, prs, i1, i2, i3, i4⟩ := X.ini
  refine ⟨_, ps_raise O.c O.tk (pmk_oex X.T i1 i2 i3 (hr.mono hj) i4 .nil passL hg X.gC (pa_cons pt pa_nil hs) hdb hs hpl), fun c σ ρ P F H E hc r wp => ?_⟩
  refine qt c σ ρ P F H _ hc r (Wp.mono (Wp.bnd (m := g ρ) wp) (fun d P1 h1 v F1 H1 A x1 => ?_) ErrT.e)
  refine ⟨by simp, fun a ha => ⟨a, v, rfl, upd_same, fun dx h2 h3 => ⟨rfl, dx, [(f, v)], upd_same, ?_, ?_, ?_⟩⟩⟩
  · rw [upd_ne h3]; exact upd_same
  · rw [upd_ne h3] at h2; exact h2
  · have hd : H1 dx = none := by rw [upd_ne h3] at h2; exact h2
    have eH : upd (del (upd (upd (upd H1 a (exo a (J.cl x) none)) dx (exd dx [(f, v)])) a (exo a (J.cl x) (some dx))) a) dx (.xd [(f, v)]) = upd H1 dx (.xd [(f, v)]) := by
      funext b
      by_cases hb : b = dx
      · subst hb; rw [upd_same, upd_same]
      · rw [upd_ne hb, upd_ne hb]
        by_cases hba : b = a
        · subst hba; rw [del_same, ha]
        · rw [del_ne hba, upd_ne hba, upd_ne hb, upd_ne hba]
    rw [eH]
    obtain ⟨rl, st⟩ := x1.rl.laid (o := .xd [(f, v)]) hd
    exact h1 (.ref (J.cl x)) (some dx) σ F1 _ rl ⟨rfl, dx, v, rfl, upd_same, x1.rp⟩
def SsE (J : Jd) (ow ow' owl : Owns) (kr : Nat) (st : List Stmt) (f : Rho → M Oc) : Prop :=
  ∃ t, PSs J.X st t ∧ ∀ (c : Ctx) (σ : St) (ρ : Rho) (P : Pool) (F H : Hp) (E : Ends), CxOk J c → Rl c J.ps ow σ ρ P F H → Wp (f ρ P) (StP J c ow' owl kr F E) (ErrT J c ow ρ) → t E σ H
theorem sse_nil : SsE J ow ow owl kr [] sSkip := ⟨_, pss_nil, fun c σ ρ P F H E hc r w => w σ F H r (.refl _)⟩
theorem s1e_ret {e : Expr} {f : Rho → M D} {pos} (h : Se J ow e kr f) : S1E J ow ow' owl kr (.Return (some e) pos) (sRet f) := by
  obtain ⟨t, p, q⟩ := h
  refine ⟨_, ps_ret p, fun c σ ρ P F H E hc r w => ?_⟩
  exact q c σ ρ P F H _ hc r (w.bnd.mono (fun d P1 h1 v F1 H1 A x => Wp.ok h1 v H1 (r.rt x)) ErrT.e)
theorem s1e_expr {e : Expr} {f : Rho → M D} {pos} (h : Se J ow e 0 f) (hs : swapsWith e none pos.line J.X.env = pure false := by rfl) : S1E J ow ow owl kr (.Expr e pos) (sDrop f) := by
  obtain ⟨t, p, q⟩ := h
  refine ⟨_, ps_expr p hs, fun c σ ρ P F H E hc r w => ?_⟩
  exact q c σ ρ P F H _ hc r (w.bnd.mono (fun d P1 h1 v F1 H1 A x => Wp.ok h1 σ F1 H1 x.rl x.st.fs) ErrT.e)
theorem s1e_if {e : Expr} {a b : List Stmt} {t : Rho → M Bool} {f g : Rho → M Oc} {pos} (h : Te J ow e t) (ha : SsE J ow ow' owl kr a f) (hb : SsE J ow ow' owl kr b g) : S1E J ow ow' owl kr (.If e a b pos) (sIf t f g) := by
  obtain ⟨tt, p, q⟩ := h
  obtain ⟨ta, pa, qa⟩ := ha
  obtain ⟨tb, pb, qb⟩ := hb
  refine ⟨_, ps_if p pa pb, fun c σ ρ P F H E hc r w => ?_⟩
  refine q c σ ρ P F H _ hc r (w.bnd.mono (fun b P1 h1 F1 H1 r1 s1 => ?_) ErrT.e)
  cases b with
  | true => exact qa c σ ρ P1 F1 H1 E hc r1 (Wp.mono h1 (fun oc p h => StP.sub s1.fs oc p h) fun _ _ h => h)
  | false => exact qb c σ ρ P1 F1 H1 E hc r1 (Wp.mono h1 (fun oc p h => StP.sub s1.fs oc p h) fun _ _ h => h)
/-- a statement that goes on with the same slots -/
def Stay (f : Rho → M Oc) : Prop := ∀ ρ P ρ' P', f ρ P = some (.ok (.nx ρ'), P') → ρ' = ρ
theorem sse_cons {st : Stmt} {rest : List Stmt} {f g : Rho → M Oc} (h : S1E J ow ow owl kr st f) (hf : Stay f) (k : SsE J ow ow' owl kr rest g) : SsE J ow ow' owl kr (st :: rest) (sSeq f g) := by
  obtain ⟨t, p, q⟩ := h
  obtain ⟨u, p2, q2⟩ := k
  refine ⟨_, pss_cons p p2, fun c σ ρ P F H E hc r w => ?_⟩
  have w := w.bnd
  refine q c σ ρ P F H _ hc r ?_
  unfold Wp at w ⊢
  cases hm : f ρ P with
  | none => rw [hm] at w; exact w
  | some z =>
    obtain ⟨z, P1⟩ := z
    rw [hm] at w
    cases z with
    | error x => exact w
    | ok oc =>
      cases oc with
      | nx ρ1 =>
        have e := hf _ _ _ _ hm
        subst e
        intro σ1 F1 H1 r1 s1
        exact q2 c σ1 ρ1 P1 F1 H1 E hc r1 (Wp.mono (show Wp (g ρ1 P1) _ _ from w) (fun oc p h => StP.sub s1 oc p h) fun _ _ h => h)
      | rt d => exact (show StP J c ow' owl kr F E (.rt d) P1 from w)
      | bk ρ1 => exact (show StP J c ow' owl kr F E (.bk ρ1) P1 from w)
      | ct ρ1 => exact (show StP J c ow' owl kr F E (.ct ρ1) P1 from w)
theorem sse_one {st : Stmt} {f : Rho → M Oc} (h : S1E J ow ow' owl kr st f) : SsE J ow ow' owl kr [st] f := let ⟨t, p, q⟩ := h; ⟨t, pss_one p, q⟩
end
end DL

end
section
set_option Elab.async false
set_option linter.all false
set_option maxRecDepth 100000
set_option maxHeartbeats 2000000
namespace DL
open PySem PySem.Spec L2
/-! ### try .. except y as n -/
abbrev trJ (J : Jd) (W : WX) (pn : List (Addr × Obj)) (xe : Value → Shared → Prop) : Jd := { X := J.X.tr pn xe, W := W, cl := J.cl, ps := J.ps, cx := J.cx, cxm := J.cxm }
theorem Ok.tr {J : Jd} (O : Ok J) {W : WX} {pn : List (Addr × Obj)} {xe : Value → Shared → Prop} (tk : Takes (J.X.tr pn xe) W) : Ok (trJ J W pn xe) := ⟨O.g, O.c, O.u, tk, O.nd, O.h0⟩
theorem Rl.setV {c : Ctx} {ps : Pls} {ow : Owns} {σ : St} {ρ : Rho} {P : Pool} {F H : Hp} {i : Nat} {v : Option V} (r : Rl c ps ow σ ρ P F H) (hi : ow.lookup i = none) (hps : Fre ps i) : Rl c ps ow (σ.set i v) (ρ.set i none) P F H where
  gd := r.gd
  len := by rw [List.length_set, List.length_set]; exact r.len
  psl := fun j e => by
    obtain ⟨p, q, h1, h2⟩ := r.psl j e
    refine ⟨p, q, h1, ?_⟩
    rw [List.getElem?_set_ne (fun z => hps.1 (by rw [e, z]))]
    exact h2
  scl := fun e => by
    obtain ⟨a, h1, h2⟩ := r.scl e
    exact ⟨a, h1, by rw [List.getElem?_set_ne (hps.2 e)]; exact h2⟩
  fz := fun j d h1 h2 => by
    by_cases hj : i = j
    · subst hj
      rw [List.getElem?_set] at h1
      split at h1
      · split at h1 <;> cases h1
      · contradiction
    · rw [List.getElem?_set_ne hj] at h1
      obtain ⟨u, a, b⟩ := r.fz j d h1 h2
      exact ⟨u, by rw [List.getElem?_set_ne hj]; exact a, b⟩
  own := by
    obtain ⟨Am, h1, h2⟩ := r.own
    refine ⟨Am, fun j k e => ?_, h2⟩
    have hj : i ≠ j := fun z => by rw [z, e] at hi; cases hi
    obtain ⟨u, x, a, b, q⟩ := h1 j k e
    exact ⟨u, x, by rw [List.getElem?_set_ne hj]; exact a, by rw [List.getElem?_set_ne hj]; exact b, q⟩
def clrO (i : Nat) : Oc → Oc
  | .nx ρ => .nx (ρ.set i none)
  | .bk ρ => .bk (ρ.set i none)
  | .ct ρ => .ct (ρ.set i none)
  | .rt d => .rt d
def sTry (i : Nat) (catch' : Exn → Option Bool) (fb : Rho → M Oc) (fs : Exn → Rho → M Oc) : Rho → M Oc := fun ρ P => if i < ρ.length then match fb ρ P with
    | some (.error ex, P') => match catch' ex with
      | some true => noX (bnd (fs ex (ρ.set i none)) (fun oc => ret (clrO i oc))) P'
      | some false => some (.error ex, P')
      | none => none
    | r => r
  else none
/-- the ground is laid anew -/
abbrev Ctx.at (c : Ctx) (F H : Hp) : Ctx := ⟨H, F, c.pa, c.cl, c.scr⟩
theorem Rl.rebase {c : Ctx} {ps : Pls} {σ : St} {ρ : Rho} {P : Pool} {F H : Hp} (r : Rl c ps [] σ ρ P F H) : Rl (c.at F H) ps [] σ ρ P F H :=
  ⟨⟨r.gd.sub, .refl _, fun _ _ h => .inl h, fun _ _ h _ => h, fun _ h => h, r.gd.pool⟩, r.len, r.psl, r.scl, r.fz, fun _ => [], (fun i k e => nomatch e), fun i j k l e => nomatch e⟩
theorem Gd.back {c : Ctx} {P P' : Pool} {F H F' H' : Hp} (g : Gd c P F H) (d : Gd (c.at F H) P' F' H') : Gd c P' F' H' :=
  ⟨d.sub, g.f0.trans d.f0, fun a o e => (d.gr a o e).elim (g.gr a o) fun z => .inr (g.dm a z), fun a o e n => d.kp a o (g.kp a o e n) n, fun a e => g.dm a (d.dm a e), d.pool⟩
theorem Rl.back {c : Ctx} {ps : Pls} {ow : Owns} {σ : St} {ρ : Rho} {P P' : Pool} {F H F' H' : Hp} (g : Gd c P F H) (r : Rl (c.at F H) ps ow σ ρ P' F' H') : Rl c ps ow σ ρ P' F' H' :=
  ⟨g.back r.gd, r.len, r.psl, r.scl, r.fz, let ⟨Am, h1, h2⟩ := r.own; ⟨Am, fun i k e => let ⟨v, d, a, b, o, n, fr⟩ := h1 i k e; ⟨v, d, a, b, o, n, fun a ha => ⟨(fr a ha).1, g.dm a (fr a ha).2.1, (fr a ha).2.2⟩⟩, h2⟩⟩
theorem Rt.back {c : Ctx} {P P' : Pool} {F H : Hp} {k : Nat} {d : D} {v : V} {H' : Hp} (g : Gd c P F H) (r : Rt (c.at F H) k P' d v H') : Rt c k P' d v H' :=
  let ⟨F', A, h1, h2, h3, h4⟩ := r.ex; ⟨F', A, g.back h1, h2, h3, fun a ha => ⟨(h4 a ha).1, g.dm a (h4 a ha).2.1, (h4 a ha).2.2⟩⟩
theorem StP.back {J : Jd} {c : Ctx} {ow' owl : Owns} {kr : Nat} {P : Pool} {F H : Hp} {E : Ends} (g : Gd c P F H) : ∀ oc p, StP J c ow' owl kr F E oc p → StP J (c.at F H) ow' owl kr F E oc p
  | .nx _, _, h => fun σ' F' H' r t => h σ' F' H' (r.back g) t
  | .rt _, _, h => fun v H' r => h v H' (r.back g)
  | .bk _, _, h => fun σ' F' H' r t => h σ' F' H' (r.back g) t
  | .ct _, _, h => fun σ' F' H' r t => h σ' F' H' (r.back g) t
section
variable {J : Jd} {ow' owl : Owns} {kr : Nat}
/-- an except suite, for the exception ex at a -/
def SuE (J : Jd) (i : Nat) (a : Addr) (oe : Obj) (cls : Value) (d : Option Addr) (pn : List (Addr × Obj)) (ex : Exn) (ow ow' owl : Owns) (kr : Nat) (st : List Stmt) (f : Rho → M Oc) : Prop :=
  ∃ t, PSs (J.X.suite a ((a, oe) :: pn)) st t ∧ ∀ (c : Ctx) (σ : St) (ρ : Rho) (P : Pool) (F H : Hp) (E : Ends), CxOk J c → Rl c J.ps ow σ ρ P F H → σ[i]? = some (some (.ref a)) → ExAt J.cl ex F cls d H → Wp (f ρ P) (StP J c ow' owl kr F E) (fun _ _ => False) → t E σ H
theorem s1_try_as {i : Nat} {y n : Str} {cC : Value} {body suite : List Stmt} {b₀ : Stmt} {np pos pos' : Pos} {catch' : Exn → Option Bool} {fb : Rho → M Oc} {fs : Exn → Rho → M Oc} (O : Ok J) (hc : Names J.X y cC) (hcat : ∀ ex b, catch' ex = some b → PySem.W.exmOne J.X.K (.ref (J.cl ex.name)) cC = some b)
    (hbody : ∀ (W : WX) (pn : List (Addr × Obj)) (xe : Value → Shared → Prop), Ok (trJ J W pn xe) → PassesOwn (model J.X.prog J.X.w) J.X.A J.X.env xe → SsE (trJ J W pn xe) [] ow' owl kr body fb)
    (hsu : ∀ (ex : Exn) (a : Addr) (oe : Obj) (cls : Value) (d : Option Addr) (pn : List (Addr × Obj)), catch' ex = some true → Zc cls d oe → (∃ vs, oe.data = .fields vs) → SuE J i a oe cls d pn ex [] ow' owl kr (b₀ :: suite) (fs ex))
    (hN : J.X.N[i]? = some n := by rfl) (hi' : ow'.lookup i = none := by rfl) (hil : owl.lookup i = none := by rfl) (hps : Fre J.ps i := by exact ⟨by simp, by simp⟩) (hln : J.X.env.kindOf n = some .local := by rfl)
    (hs : J.X.stack = J.X.env :: J.X.outer := by rfl) (hf : J.X.env.frame = some J.X.env.locals := by rfl) :
    S1 J [] ow' owl kr (.Try body [.ExceptHandler (some (.Name y np)) (some n) (b₀ :: suite) pos'] [] [] pos) (sTry i catch' fb fs) := by
  refine ⟨_, ps_try_as (i := i) (tb := fun W D σ H => ∃ c ρ P F, CxOk J c ∧ Rl c J.ps [] σ ρ P F H ∧ Wp (fb ρ P) (StP J c ow' owl kr F D) (ErrT (trJ J W [] (fun _ _ => False)) c [] ρ))
    (ts := fun a cls d D σ H => ∃ ex c ρ P F, catch' ex = some true ∧ CxOk J c ∧ Rl c J.ps [] σ ρ P F H ∧ σ[i]? = some (some (.ref a)) ∧ ExAt J.cl ex F cls d H ∧ Wp (fs ex ρ P) (StP J c ow' owl kr F D) (fun _ _ => False))
    (Wout := J.W) hs hf O.nd hN hln hc O.tk (fun W pn xe tk po => ?_) (fun a oe cls d pn hz hf => ?_), fun c σ ρ P F H E hc r w => ?_⟩
  · obtain ⟨t, pt, qt⟩ := hbody W pn xe (O.tr tk) po
    exact ⟨fun pins s σ H D I ⟨c, ρ, P, F, h1, h2, h3⟩ => pt.run pins s σ H D I (qt c σ ρ P F H D ⟨h1.eq, h1.cx⟩ h2 h3)⟩
  · exact ⟨fun pins s σ H D I ⟨ex, c, ρ, P, F, h0, h1, h2, h3, h4, h5⟩ => by
      obtain ⟨t, pt, qt⟩ := hsu ex a oe cls d pn h0 hz hf
      exact pt.run pins s σ H D I (qt c σ ρ P F H D h1 h2 h3 h4 h5)⟩
  · unfold sTry at w
    by_cases hlen : i < ρ.length
    · rw [if_pos hlen] at w
      have g := r.gd
      have hcc : CxOk J (c.at F H) := ⟨hc.eq, J.cxm c P F H r.gd hc.cx⟩
      refine ⟨c.at F H, ρ, P, F, hcc, r.rebase, ?_⟩
      unfold Wp
      cases hm : fb ρ P with
      | none => rw [hm] at w; exact w.elim
      | some z =>
        obtain ⟨z, P1⟩ := z
        rw [hm] at w
        cases z with
        | ok oc => exact StP.back g oc P1 w
        | error ex =>
          intro cls dd σ' F' H' r' ea
          dsimp only at w
          have sF : Same F F' := r'.gd.f0
          cases hk : catch' ex with
          | none => rw [hk] at w; exact w.elim
          | some b =>
            rw [hk] at w
            refine ⟨b, by rw [ea.1]; exact hcat ex b hk, fun hb a ha => ?_, fun hb => ?_⟩
            · subst hb
              have w2 := Wp.bnd (Wp.noX w)
              refine ⟨ex, c.at F H, ρ.set i none, P1, F', hk, hcc, r'.setV rfl hps, List.getElem?_set_self (by rw [r'.len]; exact hlen), ea, w2.mono (fun oc P2 h2 => ?_) fun x p h => h⟩
              cases oc with
              | nx ρ2 => exact fun σ2 F2 H2 r2 s2 => (show StP J c ow' owl kr F E (.nx (ρ2.set i none)) P2 from h2) _ F2 H2 ((r2.setV hi' hps).back g) (sF.trans s2)
              | rt d => exact fun v H2 r2 => (show StP J c ow' owl kr F E (.rt d) P2 from h2) v H2 (r2.back g)
              | bk ρ2 => exact fun σ2 F2 H2 r2 s2 => (show StP J c ow' owl kr F E (.bk (ρ2.set i none)) P2 from h2) _ F2 H2 ((r2.setV hil hps).back g) (sF.trans s2)
              | ct ρ2 => exact fun σ2 F2 H2 r2 s2 => (show StP J c ow' owl kr F E (.ct (ρ2.set i none)) P2 from h2) _ F2 H2 ((r2.setV hil hps).back g) (sF.trans s2)
            · subst hb
              exact (show ErrS J c ex P1 from w) cls dd σ' F' H' (g.back r'.gd) ea
    · rw [if_neg hlen] at w; exact w.elim
end
end DL

end
section
set_option Elab.async false
set_option linter.all false
set_option maxRecDepth 100000
set_option maxHeartbeats 2000000
namespace DL
open PySem PySem.Spec L2
/-! ### in an except suite: constants, the exception's field, tuples of them; return -/
def Sx (J : Jd) (i : Nat) (a : Addr) (oe : Obj) (cls : Value) (d : Option Addr) (pn : List (Addr × Obj)) (ex : Exn) (e : Expr) (o : Option D) : Prop :=
  ∃ t, PE (J.X.suite a ((a, oe) :: pn)) e t ∧ ∀ (c : Ctx) (σ : St) (ρ : Rho) (P : Pool) (F H : Hp) (Q : VK) (dt : D), o = some dt → Rl c J.ps [] σ ρ P F H → σ[i]? = some (some (.ref a)) → ExAt J.cl ex F cls d H → (∀ v F' H' A, Vp c J.ps [] σ ρ F H P 0 dt v F' H' A → Q v H') → t σ H Q
def SxA (J : Jd) (i : Nat) (a : Addr) (oe : Obj) (cls : Value) (d : Option Addr) (pn : List (Addr × Obj)) (ex : Exn) (es : List Expr) (o : Option (List D)) : Prop :=
  ∃ t, PA (J.X.suite a ((a, oe) :: pn)) es t ∧ ∀ (c : Ctx) (σ : St) (ρ : Rho) (P : Pool) (F H : Hp) (Q : List V → Hp → Prop) (dt : List D), o = some dt → Rl c J.ps [] σ ρ P F H → σ[i]? = some (some (.ref a)) → ExAt J.cl ex F cls d H → (∀ vs F' H', Rl c J.ps [] σ ρ P F' H' → Stp c F H F' H' → Rps F' vs dt → Q vs H') → t σ H Q
section
variable {J : Jd} {i : Nat} {a : Addr} {oe : Obj} {cls : Value} {d : Option Addr} {pn : List (Addr × Obj)} {ex : Exn} {ow' owl : Owns}
theorem ExAt.stp {c : Ctx} {P : Pool} {F H F' H' : Hp} (g : Gd c P F H) (s : Stp c F H F' H') (h : ExAt J.cl ex F cls d H) : ExAt J.cl ex F' cls d H' := by
  obtain ⟨h1, h2⟩ := h
  refine ⟨h1, ?_⟩
  cases e : ex.fld with
  | none => rw [e] at h2; exact h2
  | some nd =>
    rw [e] at h2
    obtain ⟨b, v, e1, e2, e3⟩ := h2
    refine ⟨b, v, e1, s.kp b _ e2 fun p r ep => ?_, e3.mono s.fs⟩
    obtain ⟨_, g1, g2, _, _⟩ := g.pool p r ep
    constructor
    · rintro rfl; rw [e2] at g1; cases g1
    · rintro rfl; rw [e2] at g2; cases g2
theorem sx_str {x : Str} {j pos} : Sx J i a oe cls d pn ex (.Constant (.str x) j pos) (some (.str x)) := ⟨_, pe_str, fun c σ ρ P F H Q dt e r _ _ k => by cases e; exact k _ _ _ _ (r.vp (.str x))⟩
theorem sx_int {x : Int} {j pos} : Sx J i a oe cls d pn ex (.Constant (.int x) j pos) (some (.int x)) := ⟨_, pe_int, fun c σ ρ P F H Q dt e r _ _ k => by cases e; exact k _ _ _ _ (r.vp (.int x))⟩
theorem sx_bl {x : Bool} {j pos} : Sx J i a oe cls d pn ex (.Constant (.bool x) j pos) (some (.bool x)) := ⟨_, pe_bl, fun c σ ρ P F H Q dt e r _ _ k => by cases e; exact k _ _ _ _ (r.vp (.bl x))⟩
/-- e.f -/
def fldO (f : Str) (ex : Exn) : Option D := match ex.fld with | some (nm, x) => if nm = f then some x else none | none => none
theorem sx_fld {n f : Str} {p pos : Pos} (hz : Zc cls d oe) (hf : ∃ vs, oe.data = .fields vs) (T : XfC J.X.K (J.cl ex.name)) (hno : PySem.W.findIn J.X.K (.ref (J.cl ex.name)) f = some none) (hN : J.X.N[i]? = some n := by rfl) (hv : Vis J.X.env.scope n := by first | exact Or.inl rfl | exact Or.inr (Or.inl rfl)) (hd : (n == ("__debug__" : Str)) = false := by decide) (hcd : (n == ("__classdict__" : Str)) = false := by decide)
    (hb : attributeBase (.Name n p) f J.X.env (eval (.Name n p) J.X.env) = eval (.Name n p) J.X.env := by rfl) : Sx J i a oe cls d pn ex (.Attribute (.Name n p) f pos) (fldO f ex) := by
  refine ⟨_, pe_xf (X := J.X) T hno hz hf (pe_var (i := i) hN hv hd hcd) hb, fun c σ ρ P F H Q dt e r hσ ea k => ?_⟩
  refine ⟨.ref a, hσ, rfl, ea.1, ?_⟩
  have h2 := ea.2
  unfold fldO at e
  cases hx : ex.fld with
  | none => rw [hx] at e; cases e
  | some nd =>
    obtain ⟨nm, x⟩ := nd
    rw [hx] at e h2
    dsimp only at e
    split at e
    · rename_i hn
      cases e
      subst hn
      obtain ⟨b, v, e1, e2, e3⟩ := h2
      refine ⟨b, [(nm, v)], v, e1, e2, by simp, ?_⟩
      exact k _ _ _ _ (r.vp e3)
    · cases e
theorem sxa_nil : SxA J i a oe cls d pn ex [] (some []) := ⟨_, pa_nil, fun c σ ρ P F H Q dt e r _ _ k => by cases e; exact k [] F H r (.refl _ _ _) .nil⟩
theorem sxa_cons {e : Expr} {es : List Expr} {o : Option D} {os : Option (List D)} (h : Sx J i a oe cls d pn ex e o) (hr : SxA J i a oe cls d pn ex es os) (hs : starEach (e :: es) (J.X.suite a ((a, oe) :: pn)).env = (false, eval e (J.X.suite a ((a, oe) :: pn)).env) :: starEach es (J.X.suite a ((a, oe) :: pn)).env := by rfl) :
    SxA J i a oe cls d pn ex (e :: es) (o.bind fun x => os.map fun xs => x :: xs) := by
  obtain ⟨t, p, q⟩ := h
  obtain ⟨u, p2, q2⟩ := hr
  refine ⟨_, pa_cons p p2 hs, fun c σ ρ P F H Q dt e r hσ ea k => ?_⟩
  rw [Option.bind_eq_some_iff] at e
  obtain ⟨x, e1, e2⟩ := e
  rw [Option.map_eq_some_iff] at e2
  obtain ⟨xs, e3, rfl⟩ := e2
  refine q c σ ρ P F H _ x e1 r hσ ea fun v F1 H1 A x1 => ?_
  refine q2 c σ ρ P F1 H1 _ xs e3 x1.rl hσ (ea.stp r.gd x1.st) fun vs F2 H2 r2 s2 rp => ?_
  exact k _ F2 H2 r2 (x1.st.trans s2) (.cons (x1.rp.mono s2.fs) rp)
theorem sx_tup {es : List Expr} {os : Option (List D)} {n : Nat} {pos : Pos} (h : SxA J i a oe cls d pn ex es os) (hl : es.length ≤ 1000 := by decide) : Sx J i a oe cls d pn ex (.Tuple es n pos) (os.bind fun xs => if xs.length ≤ 1000000 then some (.tuple xs) else none) := by
  obtain ⟨t, p, q⟩ := h
  refine ⟨_, pe_tup p, fun c σ ρ P F H Q dt e r hσ ea k => ?_⟩
  rw [Option.bind_eq_some_iff] at e
  obtain ⟨xs, e1, e2⟩ := e
  split at e2
  · rename_i hz
    cases e2
    refine q c σ ρ P F H _ xs e1 r hσ ea fun vs F1 H1 r1 s1 rp => ?_
    exact ⟨line_of (by rw [rp.length]; exact hz), fun p hp => k _ _ _ _ ((r1.nw (Nw.tup r1.gd.sub hp rp)).after s1)⟩
  · cases e2
def suRet (o : Exn → Option D) : Exn → Rho → M Oc := fun ex ρ => bnd (lift (o ex)) fun x => ret (.rt x)
theorem su_ret {e : Expr} {o : Exn → Option D} {pos : Pos} (h : Sx J i a oe cls d pn ex e (o ex)) : SuE J i a oe cls d pn ex [] ow' owl 0 [.Return (some e) pos] (suRet o ex) := by
  obtain ⟨t, p, q⟩ := h
  refine ⟨_, pss_one (ps_ret p), fun c σ ρ P F H E hc r hσ ea w => ?_⟩
  obtain ⟨x, e1, w⟩ := Wp.lift (Wp.bnd w)
  exact q c σ ρ P F H _ x e1 r hσ ea fun v F1 H1 A x1 => (show StP J c ow' owl 0 F E (.rt x) P from w) v H1 (r.rt x1)
end
theorem exm_of {K : PySem.W.Frag} {S Y : Addr} {b : Bool} (h1 : PySem.W.subIn K (.ref Y) (.type "BaseException") = some true) (h2 : PySem.W.isClsIn K Y = true) (h3 : PySem.W.typeIn K (.ref Y) = some (.type "type")) (h4 : PySem.W.subIn K (.ref S) (.ref Y) = some b) : PySem.W.exmOne K (.ref S) (.ref Y) = some b := by
  have h2' : (PySem.W.clsIn K Y).isSome = true := h2
  unfold PySem.W.exmOne PySem.W.kitCls
  simp [h1, h2', h3, h4]
/-- which classes a clause takes -/
def catchT (tab : List (String × Bool)) : Exn → Option Bool := fun ex => tab.lookup ex.name
theorem catch_of {R : String → Bool → Prop} : ∀ {tab : List (String × Bool)}, (∀ p ∈ tab, R p.1 p.2) → ∀ (ex : Exn) (b : Bool), catchT tab ex = some b → R ex.name b
  | [], _, _, _, h => nomatch h
  | (x, c) :: r, hr, ex, b, h => by
    unfold catchT at h
    rw [List.lookup_cons] at h
    by_cases e : ex.name = x
    · rw [e] at h ⊢
      simp at h
      subst h
      exact hr (x, c) List.mem_cons_self
    · have : (ex.name == x) = false := by simpa using e
      rw [this] at h
      exact catch_of (fun p hp => hr p (List.mem_cons_of_mem _ hp)) ex b h
theorem all_nil {R : String → Bool → Prop} : ∀ p ∈ ([] : List (String × Bool)), R p.1 p.2 := fun _ h => nomatch h
theorem all_cons {R : String → Bool → Prop} {x : String} {c : Bool} {r : List (String × Bool)} (h : R x c) (hr : ∀ p ∈ r, R p.1 p.2) : ∀ p ∈ (x, c) :: r, R p.1 p.2 := fun p hp => by
  rcases List.mem_cons.mp hp with rfl | hp
  · exact h
  · exact hr p hp
theorem stay_if {t : Rho → M Bool} {f : Rho → M Oc} (h : ∀ ρ P ρ' P', f ρ P ≠ some (.ok (.nx ρ'), P')) : Stay (sIf t f sSkip) := fun ρ P ρ' P' e => by
  unfold sIf bnd at e
  cases hm : t ρ P with
  | none => rw [hm] at e; cases e
  | some z =>
    obtain ⟨z, P1⟩ := z
    rw [hm] at e
    cases z with
    | error x => cases e
    | ok b =>
      cases b with
      | true => exact absurd e (h ρ P1 ρ' P')
      | false => cases e; rfl
theorem ret_leaves {f : Rho → M D} : ∀ ρ P ρ' P', sRet f ρ P ≠ some (.ok (.nx ρ'), P') := fun ρ P ρ' P' e => by
  unfold sRet bnd at e
  cases hm : f ρ P with
  | none => rw [hm] at e; cases e
  | some z =>
    obtain ⟨z, P1⟩ := z
    rw [hm] at e
    cases z <;> cases e
end DL

end
section
set_option Elab.async false
set_option linter.all false
set_option maxRecDepth 100000
set_option maxHeartbeats 2000000
namespace DL
open PySem PySem.Spec L2

/-! ### dicts: keys are ints and texts, or tuples of these (such a dict's datum begins with (None, None)) -/
def kOf : D → Option Key | .int i => some (.inl i) | .str s => some (.inr s) | _ => none
theorem kOf_key (k : Key) : kOf (keyD k) = some k := by cases k <;> rfl
theorem kOf_some {d : D} {k : Key} (h : kOf d = some k) : d = keyD k := by
  cases d <;> simp only [kOf, Option.some.injEq] at h
  all_goals first | (subst h; rfl) | cases h
def kOfs : List D → Option (List Key)
  | [] => some []
  | d :: ds => (kOf d).bind fun k => (kOfs ds).map fun ks => k :: ks
theorem kOfs_keys : ∀ ks : List Key, kOfs (ks.map keyD) = some ks
  | [] => rfl
  | k :: ks => by rw [List.map_cons, kOfs, kOf_key, Option.bind_some, kOfs_keys ks]; rfl
theorem kOfs_some : ∀ {ds : List D} {ks : List Key}, kOfs ds = some ks → ds = ks.map keyD
  | [], ks, h => by cases h; rfl
  | d :: ds, ks, h => by
    rw [kOfs, Option.bind_eq_some_iff] at h
    obtain ⟨k, h1, h2⟩ := h
    obtain ⟨r, h3, rfl⟩ := Option.map_eq_some_iff.mp h2
    rw [kOf_some h1, kOfs_some h3]; rfl
def kT : D → Option (List Key) | .tuple ds => kOfs ds | _ => none
theorem kT_key (ks : List Key) : kT (.tuple (ks.map keyD)) = some ks := kOfs_keys ks
theorem Rp.key {F : Hp} {v : V} {k : Key} (h : Rp F v (keyD k)) : v = kV k := by
  cases k <;> cases h <;> rfl
theorem Rps.keys {F : Hp} : ∀ {vs : List V} {ks : List Key}, Rps F vs (ks.map keyD) → vs = ks.map kV
  | _, [], .nil => rfl
  | _, k :: ks, .cons h r => by rw [h.key, Rps.keys r]; rfl
theorem rp_key {F : Hp} (k : Key) : Rp F (kV k) (keyD k) := by cases k <;> constructor
def look {κ : Type} [DecidableEq κ] (f : D → Option κ) (es : List (D × D)) (k : κ) : Option D := (es.find? fun e => decide (f e.1 = some k)).map (·.2)
def putE {κ : Type} [DecidableEq κ] (f : D → Option κ) (es : List (D × D)) (k : κ) (kd d : D) : List (D × D) :=
  if (es.any fun e => decide (f e.1 = some k)) = true then es.map (fun e => if f e.1 = some k then (e.1, d) else e) else es ++ [(kd, d)]
theorem RpK.look {F : Hp} {k : Key} : ∀ {ks : List (Key × V)} {es : List (D × D)}, RpK F ks es → (valV ks k = none ∧ DL.look kOf es k = none) ∨ ∃ v d, valV ks k = some v ∧ DL.look kOf es k = some d ∧ Rp F v d
  | _, _, .nil => .inl ⟨rfl, rfl⟩
  | _, _, .cons (k := k0) (v := v) (d := d) h r => by
    unfold valV DL.look
    rw [List.find?_cons, List.find?_cons]
    dsimp only
    rw [kOf_key]
    by_cases e : k0 = k
    · rw [decide_eq_true e, decide_eq_true (congrArg some e)]
      exact .inr ⟨v, d, rfl, rfl, h⟩
    · rw [decide_eq_false e, decide_eq_false fun z => e (Option.some.inj z)]
      exact RpK.look r
theorem RpT.look {F : Hp} {k : List Key} : ∀ {ks : List (List Key × V)} {es : List (D × D)}, RpT F ks es → (valV ks k = none ∧ DL.look kT es k = none) ∨ ∃ v d, valV ks k = some v ∧ DL.look kT es k = some d ∧ Rp F v d
  | _, _, .nil => .inl ⟨rfl, rfl⟩
  | _, _, .cons (k := k0) (v := v) (d := d) h r => by
    unfold valV DL.look
    rw [List.find?_cons, List.find?_cons]
    dsimp only
    rw [kT_key]
    by_cases e : k0 = k
    · rw [decide_eq_true e, decide_eq_true (congrArg some e)]
      exact .inr ⟨v, d, rfl, rfl, h⟩
    · rw [decide_eq_false e, decide_eq_false fun z => e (Option.some.inj z)]
      exact RpT.look r
theorem RpK.append {F : Hp} : ∀ {ks ls : List (Key × V)} {es fs : List (D × D)}, RpK F ks es → RpK F ls fs → RpK F (ks ++ ls) (es ++ fs)
  | _, _, _, _, .nil, s => s
  | _, _, _, _, .cons h r, s => .cons h (RpK.append r s)
theorem RpT.append {F : Hp} : ∀ {ks ls : List (List Key × V)} {es fs : List (D × D)}, RpT F ks es → RpT F ls fs → RpT F (ks ++ ls) (es ++ fs)
  | _, _, _, _, .nil, s => s
  | _, _, _, _, .cons h r, s => .cons h (RpT.append r s)
theorem RpK.any {F : Hp} {k : Key} : ∀ {ks : List (Key × V)} {es : List (D × D)}, RpK F ks es → (ks.any fun kv => decide (kv.1 = k)) = (es.any fun e => decide (kOf e.1 = some k))
  | _, _, .nil => rfl
  | _, _, .cons (k := k0) h r => by
    rw [List.any_cons, List.any_cons, RpK.any r]
    dsimp only
    rw [kOf_key, decide_eq_decide.mpr (show k0 = k ↔ some k0 = some k from ⟨congrArg some, Option.some.inj⟩)]
theorem RpT.any {F : Hp} {k : List Key} : ∀ {ks : List (List Key × V)} {es : List (D × D)}, RpT F ks es → (ks.any fun kv => decide (kv.1 = k)) = (es.any fun e => decide (kT e.1 = some k))
  | _, _, .nil => rfl
  | _, _, .cons (k := k0) h r => by
    rw [List.any_cons, List.any_cons, RpT.any r]
    dsimp only
    rw [kT_key, decide_eq_decide.mpr (show k0 = k ↔ some k0 = some k from ⟨congrArg some, Option.some.inj⟩)]
theorem RpK.over {F : Hp} {k : Key} {v : V} {d : D} (hd : Rp F v d) : ∀ {ks : List (Key × V)} {es : List (D × D)}, RpK F ks es → RpK F (ks.map fun kv => if kv.1 = k then (kv.1, v) else kv) (es.map fun e => if kOf e.1 = some k then (e.1, d) else e)
  | _, _, .nil => .nil
  | _, _, .cons (k := k0) h r => by
    rw [List.map_cons, List.map_cons]
    dsimp only
    rw [kOf_key]
    by_cases e : k0 = k
    · rw [if_pos e, if_pos (congrArg some e)]; exact .cons hd (RpK.over hd r)
    · rw [if_neg e, if_neg fun z => e (Option.some.inj z)]; exact .cons h (RpK.over hd r)
theorem RpT.over {F : Hp} {k : List Key} {v : V} {d : D} (hd : Rp F v d) : ∀ {ks : List (List Key × V)} {es : List (D × D)}, RpT F ks es → RpT F (ks.map fun kv => if kv.1 = k then (kv.1, v) else kv) (es.map fun e => if kT e.1 = some k then (e.1, d) else e)
  | _, _, .nil => .nil
  | _, _, .cons (k := k0) h r => by
    rw [List.map_cons, List.map_cons]
    dsimp only
    rw [kT_key]
    by_cases e : k0 = k
    · rw [if_pos e, if_pos (congrArg some e)]; exact .cons hd (RpT.over hd r)
    · rw [if_neg e, if_neg fun z => e (Option.some.inj z)]; exact .cons h (RpT.over hd r)
theorem RpK.put {F : Hp} {k : Key} {v : V} {d : D} {ks : List (Key × V)} {es : List (D × D)} (r : RpK F ks es) (hd : Rp F v d) : RpK F (putK ks k v) (putE kOf es k (keyD k) d) := by
  unfold putK putE
  rw [r.any]
  split
  · exact r.over hd
  · exact r.append (.cons hd .nil)
theorem RpT.put {F : Hp} {k : List Key} {v : V} {d : D} {ks : List (List Key × V)} {es : List (D × D)} (r : RpT F ks es) (hd : Rp F v d) : RpT F (putK ks k v) (putE kT es k (.tuple (k.map keyD)) d) := by
  unfold putK putE
  rw [r.any]
  split
  · exact r.over hd
  · exact r.append (.cons hd .nil)
theorem RpK.length {F : Hp} : ∀ {ks : List (Key × V)} {es : List (D × D)}, RpK F ks es → ks.length = es.length
  | _, _, .nil => rfl
  | _, _, .cons _ r => congrArg Nat.succ (RpK.length r)
theorem RpT.length {F : Hp} : ∀ {ks : List (List Key × V)} {es : List (D × D)}, RpT F ks es → ks.length = es.length
  | _, _, .nil => rfl
  | _, _, .cons _ r => congrArg Nat.succ (RpT.length r)
/-- d[k]: some none where it is not there -/
def dAt (d k : D) : Option (Option D) := match d with
  | .dict es => match es with
    | (.none, .none) :: es => (kT k).map (look kT es)
    | es => (kOf k).map (look kOf es)
  | _ => none
theorem dAt_K {F : Hp} {ks : List (Key × V)} {es : List (D × D)} (r : RpK F ks es) (k : D) : dAt (.dict es) k = (kOf k).map (look kOf es) := by
  cases r with
  | nil => rfl
  | cons h r => rename_i k0 _ _ _ _; cases k0 <;> rfl
/-- d with d[k] = x -/
def dPut (d k x : D) : Option D := match d with
  | .dict es => match es with
    | (.none, .none) :: es => if es.length < 1000000 then (kT k).map fun ks => .dict ((.none, .none) :: putE kT es ks k x) else none
    | es => if es.length < 1000000 then (kOf k).map fun ks => .dict (putE kOf es ks k x) else none
  | _ => none
theorem dPut_K {F : Hp} {ks : List (Key × V)} {es : List (D × D)} (r : RpK F ks es) (k x : D) : dPut (.dict es) k x = if es.length < 1000000 then (kOf k).map fun ks => .dict (putE kOf es ks k x) else none := by
  cases r with
  | nil => rfl
  | cons h r => rename_i k0 _ _ _ _; cases k0 <;> rfl
theorem dGet_of {F H : Hp} {x y : V} {a b : D} {o : Option D} (s : Same F H) (ha : Rp F x a) (hb : Rp F y b) (e : dAt a b = some o) : ∃ p, x = .ref p ∧ ((DGet H p y none ∧ o = none) ∨ ∃ v d, DGet H p y (some v) ∧ o = some d ∧ Rp F v d) := by
  cases ha with
  | dK h r =>
    rw [dAt_K r, Option.map_eq_some_iff] at e
    obtain ⟨k, e1, rfl⟩ := e
    refine ⟨_, rfl, ?_⟩
    rw [kOf_some e1] at hb
    rw [hb.key]
    have g := DGet.k (k := k) (s _ _ h)
    rcases r.look (k := k) with ⟨z1, z2⟩ | ⟨v, d, z1, z2, z3⟩
    · rw [z1] at g; exact .inl ⟨g, z2⟩
    · rw [z1] at g; exact .inr ⟨v, d, g, z2, z3⟩
  | dT h r =>
    rename_i ks es
    have e : (kT b).map (look kT es) = some o := e
    obtain ⟨k, e1, rfl⟩ := Option.map_eq_some_iff.mp e
    refine ⟨_, rfl, ?_⟩
    cases hb with
    | tup hb rb =>
      have e1 : kOfs _ = some k := e1
      rw [kOfs_some e1] at rb
      have g := DGet.t (k := k) (s _ _ h) ((s _ _ hb).trans (by rw [rb.keys]))
      rcases r.look (k := k) with ⟨z1, z2⟩ | ⟨v, d, z1, z2, z3⟩
      · rw [z1] at g; exact .inl ⟨g, z2⟩
      · rw [z1] at g; exact .inr ⟨v, d, g, z2, z3⟩
    | _ => cases e1
  | _ => cases e
section
variable {J : Jd} {ow owl : Owns} {kr : Nat}
def gDg (a b : D) : Option D := (dAt a b).bind id
def gDin (not : Bool) (k d : D) : Option D := (dAt d k).map fun o => .bool (o.isSome != not)
theorem Ok.u1 (O : Ok J) : J.X.A.units + 1 < cLine := Nat.lt_of_le_of_lt (Nat.add_le_add_left (by decide) _) O.u
theorem se_dget {a b : Expr} {pos : Pos} {f f' : Rho → M D} (O : Ok J) (ha : Se J ow a 0 f) (hb : Se J ow b 0 f') (hs : NoSl b := by exact fun _ _ => rfl) : Se J ow (.Subscript a b pos) 0 (eOp gDg f f') := by
  obtain ⟨ta, pa, qa⟩ := ha
  obtain ⟨tb, pb, qb⟩ := hb
  refine ⟨_, pe_dget O.u1 pa pb hs, fun c σ ρ P F H Q hc rl h => ?_⟩
  refine qa c σ ρ P F H _ hc rl (h.bnd.mono (fun x P1 h1 v F1 H1 A1 x1 => ?_) fun _ _ h => h)
  refine qb c σ ρ P1 F1 H1 _ hc x1.rl (h1.bnd.mono (fun y P2 h2 u F2 H2 A2 x2 => ?_) fun _ _ h => h)
  obtain ⟨d, e, q⟩ := h2.lift
  obtain ⟨o, e1, e2⟩ := Option.bind_eq_some_iff.mp e
  obtain ⟨p, ex, g⟩ := dGet_of x2.rl.gd.sub (x1.rp.mono x2.st.fs) x2.rp e1
  rcases g with ⟨_, z⟩ | ⟨w, d', g, z, r⟩
  · rw [z] at e2; cases e2
  · rw [z] at e2; cases e2
    exact ⟨p, w, ex, g, q _ _ _ _ (((x2.rl.vp r).after x2.st).after x1.st)⟩
theorem se_din {a b : Expr} {pos : Pos} {f f' : Rho → M D} (O : Ok J) (ha : Se J ow a 0 f) (hb : Se J ow b 0 f') (hm : behindInMarks .In b = false := by rfl) : Se J ow (.Compare a [.In] [b] pos) 0 (eOp (gDin false) f f') := by
  obtain ⟨ta, pa, qa⟩ := ha
  obtain ⟨tb, pb, qb⟩ := hb
  refine ⟨_, pe_cmp (pc_din O.u1 pa pb) hm, fun c σ ρ P F H Q hc rl h => ?_⟩
  refine qa c σ ρ P F H _ hc rl (h.bnd.mono (fun x P1 h1 v F1 H1 A1 x1 => ?_) fun _ _ h => h)
  refine qb c σ ρ P1 F1 H1 _ hc x1.rl (h1.bnd.mono (fun y P2 h2 u F2 H2 A2 x2 => ?_) fun _ _ h => h)
  obtain ⟨d, e, q⟩ := h2.lift
  obtain ⟨o, e1, rfl⟩ := Option.map_eq_some_iff.mp e
  obtain ⟨p, ex, g⟩ := dGet_of x2.rl.gd.sub x2.rp (x1.rp.mono x2.st.fs) e1
  rcases g with ⟨g, rfl⟩ | ⟨w, d', g, rfl, r⟩
  · exact ⟨p, _, ex, g, q _ _ _ _ (((x2.rl.vp (.bl _)).after x2.st).after x1.st)⟩
  · exact ⟨p, _, ex, g, q _ _ _ _ (((x2.rl.vp (.bl _)).after x2.st).after x1.st)⟩
theorem se_dnotin {a b : Expr} {pos : Pos} {f f' : Rho → M D} (O : Ok J) (ha : Se J ow a 0 f) (hb : Se J ow b 0 f') (hm : behindInMarks .NotIn b = false := by rfl) : Se J ow (.Compare a [.NotIn] [b] pos) 0 (eOp (gDin true) f f') := by
  obtain ⟨ta, pa, qa⟩ := ha
  obtain ⟨tb, pb, qb⟩ := hb
  refine ⟨_, pe_cmp (pc_dnotin O.u1 pa pb) hm, fun c σ ρ P F H Q hc rl h => ?_⟩
  refine qa c σ ρ P F H _ hc rl (h.bnd.mono (fun x P1 h1 v F1 H1 A1 x1 => ?_) fun _ _ h => h)
  refine qb c σ ρ P1 F1 H1 _ hc x1.rl (h1.bnd.mono (fun y P2 h2 u F2 H2 A2 x2 => ?_) fun _ _ h => h)
  obtain ⟨d, e, q⟩ := h2.lift
  obtain ⟨o, e1, rfl⟩ := Option.map_eq_some_iff.mp e
  obtain ⟨p, ex, g⟩ := dGet_of x2.rl.gd.sub x2.rp (x1.rp.mono x2.st.fs) e1
  rcases g with ⟨g, rfl⟩ | ⟨w, d', g, rfl, r⟩
  · exact ⟨p, _, ex, g, q _ _ _ _ (((x2.rl.vp (.bl _)).after x2.st).after x1.st)⟩
  · exact ⟨p, _, ex, g, q _ _ _ _ (((x2.rl.vp (.bl _)).after x2.st).after x1.st)⟩
/-- any expression that is a flag, as a test -/
theorem te_val {e : Expr} {f : Rho → M D} (h : Se J ow e 0 f) (he : ∀ whole, isTrue e J.X.env whole = (do let v ← whole; standAt e.pos; holding [v] (truthy v)) := by intro _; rfl) : Te J ow e (tBool f) := by
  obtain ⟨t, p, q⟩ := h
  refine ⟨_, pt_val p he, fun c σ ρ P F H Q hc rl w => ?_⟩
  refine q c σ ρ P F H _ hc rl (w.bnd.mono (fun d P1 h1 v F1 H1 A x => ?_) fun _ _ h => h)
  cases x.rp with
  | bl b => exact ⟨b, rfl, h1 F1 H1 x.rl x.st⟩
  | _ => exact h1.elim
theorem te_din {a b : Expr} {pos : Pos} {f f' : Rho → M D} (O : Ok J) (ha : Se J ow a 0 f) (hb : Se J ow b 0 f') (hm : behindInMarks .In b = false := by rfl) : Te J ow (.Compare a [.In] [b] pos) (tBool (eOp (gDin false) f f')) := by
  obtain ⟨ta, pa, qa⟩ := ha
  obtain ⟨tb, pb, qb⟩ := hb
  refine ⟨_, pt_cmp (pc_din O.u1 pa pb) hm, fun c σ ρ P F H Q hc rl h => ?_⟩
  have h := h.bnd
  refine qa c σ ρ P F H _ hc rl (h.bnd.mono (fun x P1 h1 v F1 H1 A1 x1 => ?_) fun _ _ h => h)
  refine qb c σ ρ P1 F1 H1 _ hc x1.rl (h1.bnd.mono (fun y P2 h2 u F2 H2 A2 x2 => ?_) fun _ _ h => h)
  obtain ⟨d, e, q⟩ := h2.lift
  obtain ⟨o, e1, rfl⟩ := Option.map_eq_some_iff.mp e
  obtain ⟨p, ex, g⟩ := dGet_of x2.rl.gd.sub x2.rp (x1.rp.mono x2.st.fs) e1
  have y := ((x2.rl.vp (.bl (o.isSome != false))).after x2.st).after x1.st
  have q := Wp.ok q _ _ y.rl y.st
  rcases g with ⟨g, rfl⟩ | ⟨w, d', g, rfl, r⟩
  · exact ⟨p, _, ex, g, _, rfl, q⟩
  · exact ⟨p, _, ex, g, _, rfl, q⟩
theorem te_dnotin {a b : Expr} {pos : Pos} {f f' : Rho → M D} (O : Ok J) (ha : Se J ow a 0 f) (hb : Se J ow b 0 f') (hm : behindInMarks .NotIn b = false := by rfl) : Te J ow (.Compare a [.NotIn] [b] pos) (tBool (eOp (gDin true) f f')) := by
  obtain ⟨ta, pa, qa⟩ := ha
  obtain ⟨tb, pb, qb⟩ := hb
  refine ⟨_, pt_cmp (pc_dnotin O.u1 pa pb) hm, fun c σ ρ P F H Q hc rl h => ?_⟩
  have h := h.bnd
  refine qa c σ ρ P F H _ hc rl (h.bnd.mono (fun x P1 h1 v F1 H1 A1 x1 => ?_) fun _ _ h => h)
  refine qb c σ ρ P1 F1 H1 _ hc x1.rl (h1.bnd.mono (fun y P2 h2 u F2 H2 A2 x2 => ?_) fun _ _ h => h)
  obtain ⟨d, e, q⟩ := h2.lift
  obtain ⟨o, e1, rfl⟩ := Option.map_eq_some_iff.mp e
  obtain ⟨p, ex, g⟩ := dGet_of x2.rl.gd.sub x2.rp (x1.rp.mono x2.st.fs) e1
  have y := ((x2.rl.vp (.bl (o.isSome != true))).after x2.st).after x1.st
  have q := Wp.ok q _ _ y.rl y.st
  rcases g with ⟨g, rfl⟩ | ⟨w, d', g, rfl, r⟩
  · exact ⟨p, _, ex, g, _, rfl, q⟩
  · exact ⟨p, _, ex, g, _, rfl, q⟩
/-! ### {} and its stores -/
theorem se_dnewK {pos : Pos} : Se J ow (.Dict [] [] pos) 1 (eC (.dict [])) := by
  refine ⟨_, pe_dnewK, fun c σ ρ P F H Q hc r w => ?_⟩
  refine fun p hp => Wp.ok w _ _ _ _ (r.nw ⟨.refl _, r.gd.sub.trans (same_upd hp), same_upd hp, fun _ _ h => .inl h, .dK upd_same .nil, by simp, fun a h => by
    rw [List.mem_singleton.mp h]; exact ⟨r.gd.sub.free hp, hp⟩⟩)
theorem se_dnewT {pos : Pos} : Se J ow (.Dict [] [] pos) 1 (eC (.dict [(.none, .none)])) := by
  refine ⟨_, pe_dnewT, fun c σ ρ P F H Q hc r w => ?_⟩
  refine fun p hp => Wp.ok w _ _ _ _ (r.nw ⟨.refl _, r.gd.sub.trans (same_upd hp), same_upd hp, fun _ _ h => .inl h, .dT upd_same .nil, by simp, fun a h => by
    rw [List.mem_singleton.mp h]; exact ⟨r.gd.sub.free hp, hp⟩⟩)
abbrev dctAt (ρ : Rho) (i : Nat) : Option D := match ρ[i]? with | some (some (.dict es)) => some (.dict es) | _ => none
theorem dctAt_some {ρ : Rho} {i : Nat} {d : D} (h : dctAt ρ i = some d) : ρ[i]? = some (some d) ∧ ∃ es, d = .dict es := by
  unfold dctAt at h
  split at h
  · rename_i e; cases h; exact ⟨e, _, rfl⟩
  · cases h
def sDSub (i : Nat) (f g : Rho → M D) : Rho → M Oc := fun ρ => bnd (f ρ) fun d => bnd (g ρ) fun j => bnd (lift (dctAt ρ i)) fun x => bnd (lift (dPut x j d)) fun y => ret (.nx (ρ.set i (some y)))
theorem s1_dsub {i : Nat} {x : Str} {e ix : Expr} {f g : Rho → M D} {p tp pos : Pos} (O : Ok J) (h : Se J ow e 0 f) (hg : Se J ow ix 0 g) (hi : ow.lookup i = some 1 := by rfl) (hN : J.X.N[i]? = some x := by rfl) (hv : Vis J.X.env.scope x := by first | exact Or.inl rfl | exact Or.inr (Or.inl rfl)) (hd : (x == ("__debug__" : Str)) = false := by decide) (hcd : (x == ("__classdict__" : Str)) = false := by decide)
    (ha : ∀ v, assign (.Subscript (.Name x p) ix tp) J.X.env v = (do
      let ov ← holding [v] (eval (.Name x p) J.X.env)
      let iv ← holding [v, ov] (eval ix J.X.env)
      standAt tp
      holding [v, ov, iv] (setItem ov iv v)
      release [v, ov, iv] []) := by intro _; rfl)
    (hs : swapsWithSole [.Subscript (.Name x p) ix tp] e pos.line J.X.env = pure false := by rfl) (hw : swappedStores [.Subscript (.Name x p) ix tp] e J.X.env = pure none := by rfl) (h1 : (assignEach [.Subscript (.Name x p) ix tp] J.X.env).map (·.2) = [assign (.Subscript (.Name x p) ix tp) J.X.env] := by rfl) :
    S1 J ow ow owl kr (.Assign [.Subscript (.Name x p) ix tp] e pos) (sDSub i f g) := by
  obtain ⟨t, pe, q⟩ := h
  obtain ⟨u, pg, qg⟩ := hg
  refine ⟨_, ps_asg pe (pg_sub (pe_var hN hv hd hcd) pg (set_dict O.u1) ha) hs hw h1, fun c σ ρ P F H E hc r w => ?_⟩
  refine q c σ ρ P F H _ hc r (w.bnd.mono (fun d P1 h1 v F1 H1 A x1 => ?_) ErrS.e)
  have h1 := Wp.bnd h1
  have hex : ∃ a, σ[i]? = some (some (.ref a)) := by
    obtain ⟨v0, d0, A0, _, e2, o0, _⟩ := x1.rl.hold hi
    cases o0 with
    | lst _ _ => exact ⟨_, e2⟩
    | dK _ _ => exact ⟨_, e2⟩
    | dT _ _ => exact ⟨_, e2⟩
  obtain ⟨a, e2⟩ := hex
  refine ⟨.ref a, e2, ?_⟩
  refine qg c σ ρ P1 F1 H1 _ hc x1.rl (h1.mono (fun j P2 h2 z F2 H2 A2 x2 => ?_) ErrS.e)
  obtain ⟨dd, el, h2⟩ := Wp.lift (Wp.bnd h2)
  obtain ⟨de, ee, h2⟩ := Wp.lift (Wp.bnd h2)
  obtain ⟨e1, es0, ed⟩ := dctAt_some el
  obtain ⟨v0, d0, A0, e0, e2', o0, nd0, fr0⟩ := x2.rl.hold hi
  rw [e1] at e0; cases e0
  rw [e2] at e2'; cases e2'
  have vr := x1.rp.mono x2.st.fs
  have stay : ∀ {o : HO}, (∃ A', Ow F2 (upd H2 a o) 1 (.ref a) de A' ∧ A' = [a]) → A0 = [a] → E.nx σ (upd H2 a o) := fun {o} ⟨A', n, e⟩ eA => by
    subst e eA
    exact (show StP J c ow owl kr F E (.nx _) P2 from h2) σ F2 _ (x2.rl.rewrite hi e2 o0 List.mem_cons_self (List.getElem?_eq_some_iff.mp e1).1 n (by simp) fun b hb => .inl hb) (x1.st.fs.trans x2.st.fs)
  cases o0 with
  | dK hH rk =>
    rw [dPut_K rk] at ee
    split at ee
    · rename_i hz
      obtain ⟨k, ek, rfl⟩ := Option.map_eq_some_iff.mp ee
      have ek := kOf_some ek
      subst ek
      refine ⟨a, _, rfl, ?_, stay ⟨_, .dK upd_same (rk.put (k := k) vr), rfl⟩ rfl⟩
      rw [x2.rp.key]
      exact DPut.k hH (line_lt (by rw [rk.length]; exact Nat.le_of_lt hz))
    · cases ee
  | dT hH rk =>
    rename_i ks es
    have ee : (if es.length < 1000000 then (kT j).map fun ks => PyData.dict ((.none, .none) :: putE kT es ks j d) else none) = some de := ee
    split at ee
    · rename_i hz
      obtain ⟨k, ek, rfl⟩ := Option.map_eq_some_iff.mp ee
      cases x2.rp with
      | tup hb rb =>
        have ek : kOfs _ = some k := ek
        have ej := kOfs_some ek
        subst ej
        refine ⟨a, _, rfl, ?_, stay ⟨_, .dT upd_same (rk.put (k := k) vr), rfl⟩ rfl⟩
        exact DPut.t hH ((x2.rl.gd.sub _ _ hb).trans (by rw [rb.keys])) (line_lt (by rw [rk.length]; exact Nat.le_of_lt hz))
      | _ => cases ek
    · cases ee
  | lst _ _ => cases ed
end
end DL

end
section
set_option Elab.async false
set_option linter.all false
set_option maxRecDepth 100000
set_option maxHeartbeats 2000000
namespace DL
open PySem PySem.Spec L2
/-! ### {k: v for x in xs if t} -/
def mkDict (acc : List (D × D)) : List D → Option (List (D × D))
  | [] => some acc
  | .tuple [k, v] :: r => if acc.length < 1000000 then (kOf k).bind fun kk => mkDict (putE kOf acc kk k v) r else none
  | _ => none
def dcStep (ρ : Rho) (vs : List Nat) (g : D → Rho → Option Rho) (tt : Rho → M Bool) (tk tv : Rho → M D) (d : D) : M (Option D) :=
  bnd (lift (g d (wipeD ρ vs))) fun ρ1 => bnd (tt ρ1) fun b => if b = true then bnd (tk ρ1) fun x => bnd (tv ρ1) fun y => ret (some (.tuple [x, y])) else ret none
def eDc (vs : List Nat) (fi : Rho → M (List D)) (g : D → Rho → Option Rho) (tt : Rho → M Bool) (tk tv : Rho → M D) : Rho → M D := fun ρ => bnd (fi ρ) fun ds =>
  bnd (noX (mapM' (dcStep ρ vs g tt tk tv) ds)) fun r => bnd (lift (mkDict [] r)) fun es => ret (.dict es)
section
variable {J : Jd} {ow owl : Owns} {kr : Nat} {sc : Scope}
theorem dc_run {iter tg kx vx : Expr} {ifs : List Expr} {ts vs : List Nat} {fi : Rho → M (List D)} {g : D → Rho → Option Rho} {tt : Rho → M Bool} {tk tv : Rho → M D} (hi : SiC J ow tg iter fi) (hg : ∀ b, Gt (J.blk sc b) ow tg ts g) (ht : Ts J ow sc ifs tt) (hk : ∀ b, Se (J.blk sc b) ow kx 0 tk) (he : ∀ b, Se (J.blk sc b) ow vx 0 tv)
    (hts : ∀ i ∈ ts, i ∈ vs) (hvs : ∀ v ∈ vs, ow.lookup v = none ∧ Fre J.ps v) :
    ∃ wi gg tg' kk ee, PI J.X tg iter wi ∧ (∀ b, PG (J.blk sc b).X tg gg) ∧ (∀ b, PTs (J.blk sc b).X ifs tg') ∧ (∀ b, PE (J.blk sc b).X kx kk) ∧ (∀ b, PE (J.blk sc b).X vx ee) ∧ ∀ (c : Ctx) (σ : St) (ρ : Rho) (P : Pool) (F H : Hp) (Q : VK), CxOk J c → Rl c J.ps ow σ ρ P F H →
    Wp (eDc vs fi g tt tk tv ρ P) (fun d P' => ∀ v F' H' A, Vp c J.ps ow σ ρ F H P' 1 d v F' H' A → Q v H') (ErrE J c ow σ ρ) → tDc wi gg tg' kk ee vs σ H Q := by
  obtain ⟨wi, pi, qi⟩ := hi
  obtain ⟨gg, pg, qg⟩ := Gt.all hg
  obtain ⟨tg', pt, qt⟩ := ht
  obtain ⟨kk, pk, qk⟩ := Se.all hk
  obtain ⟨ee, pe, qe⟩ := Se.all he
  refine ⟨wi, gg, tg', kk, ee, pi, pg, pt, pk, pe, fun c σ ρ P F H Q hc rl w => ?_⟩
  refine qi c σ ρ P F H _ hc rl (w.bnd.mono (fun ds P1 h1 I F1 H1 r1 s1 hI D hD => ?_) fun _ _ h => h)
  have h1 := (Wp.bnd h1).noX
  let Inv : Nat → Hp → Prop := fun i Hh => ∃ P2 F2 acc accD, Rl c J.ps ow (wipe σ vs) (wipeD ρ vs) P2 F2 Hh ∧ Stp c F1 H1 F2 Hh ∧ Hh D = some (.dK acc) ∧ F2 D = none ∧ RpK F2 acc accD ∧
    Wp (mapM' (dcStep ρ vs g tt tk tv) (ds.drop i) P2) (fun r P' => Wp ((bnd (lift (mkDict accD r)) fun es => ret (PyData.dict es)) P') (fun d P' => ∀ v F' H' A, Vp c J.ps ow σ ρ F H P' 1 d v F' H' A → Q v H') (ErrE J c ow σ ρ)) (fun _ _ => False)
  refine ⟨fun i m Hh => i + m = ds.length ∧ Inv i Hh, ⟨ds.length, by omega, ?_⟩, fun i m Hh ⟨hm, P2, F2, acc, accD, r2, s2, hDh, hFD, hacc, wr⟩ => ?_⟩
  · have l := (r1.wiped hvs).laid (o := .dK []) hD
    exact ⟨P1, F1, [], [], l.1, l.2, upd_same, r1.gd.sub.free hD, .nil, h1⟩
  · obtain ⟨hstop, hgo⟩ := hI F2 Hh s2.fs r2.gd.sub s2.kp i
    by_cases hi : ds.length ≤ i
    · refine .inl ⟨hstop hi, ?_⟩
      rw [List.drop_eq_nil_of_le hi] at wr
      have wr := Wp.ok (show Wp (some (.ok [], P2)) _ _ from wr)
      refine Wp.ok (show Wp (some (.ok (PyData.dict accD), P2)) _ _ from wr) _ F2 Hh [D] ⟨?_, s1.trans s2, .dK hDh hacc, by simp, fun a ha => ?_⟩
      · exact rl.grow (s1.trans s2) r2.gd.sub r2.gd.pool
      · rw [List.mem_singleton.mp ha]
        exact ⟨hFD, s1.dm _ hD⟩
    · have hi' : i < ds.length := Nat.lt_of_not_le hi
      obtain ⟨d, hd⟩ : ∃ d, ds[i]? = some d := ⟨_, List.getElem?_eq_getElem hi'⟩
      obtain ⟨go, hy⟩ := hgo d hd
      refine .inr ⟨go, fun H' => Inv (i + 1) H', fun H' h => ⟨m - 1, by omega, by omega, h⟩, fun x H3 hx => ?_⟩
      obtain ⟨F3, nw⟩ := hy x H3 hx
      have x3 := r2.nw nw
      have hD3 : F3 D = none := by
        cases z : F3 D with
        | none => rfl
        | some o => rcases nw.gr _ _ z with y | y
                    · rw [hFD] at y; cases y
                    · rw [hDh] at y; cases y
      have hdrop : ds.drop i = d :: ds.drop (i + 1) := by
        rw [List.drop_eq_getElem_cons hi', (Option.some.inj ((List.getElem?_eq_getElem hi').symm.trans hd))]
      rw [hdrop] at wr
      have wr := Wp.bnd (show Wp (bnd (dcStep ρ vs g tt tk tv d) (fun o => bnd (mapM' (dcStep ρ vs g tt tk tv) (ds.drop (i + 1))) fun r => ret (consO o r)) P2) _ _ from wr)
      obtain ⟨ρ1, e1, wr⟩ := Wp.lift (Wp.bnd wr)
      refine qg c (wipe σ vs) (wipeD ρ vs) ρ1 P2 F3 H3 x d _ x3.rl x3.rp e1 fun σ2 ho r4 => ⟨wipe_out ho hts, ?_⟩
      refine qt c σ2 ρ1 P2 F3 H3 _ hc r4 (Wp.mono (Wp.bnd wr) (fun b P5 h5 F5 H5 r5 s5 => ?_) fun _ _ h => h)
      have keepW : ∀ {P' : Pool} {F' H' : Hp}, Rl c J.ps ow σ2 ρ1 P' F' H' → Stp c F3 H3 F' H' → Rl c J.ps ow (wipe σ vs) (wipeD ρ vs) P' F' H' := fun r s => x3.rl.grow s r.gd.sub r.gd.pool
      have st3 : Stp c F1 H1 F3 H3 := s2.trans x3.st
      have npD : NP c D := np_of r1.gd hD
      have offD : ∀ {F' H' : Hp}, Stp c F3 H3 F' H' → F' D = none := fun {F' H'} s => by
        cases z : F' D with
        | none => rfl
        | some o => rcases s.gr _ _ z with y | y
                    · rw [hD3] at y; cases y
                    · rw [nw.hs _ _ hDh] at y; cases y
      cases b with
      | false =>
        show Inv (i + 1) H5
        refine ⟨P5, F5, acc, accD, keepW r5 s5, st3.trans s5, s5.kp _ _ (nw.hs _ _ hDh) npD, offD s5, hacc.mono (nw.fs.trans s5.fs), ?_⟩
        exact (Wp.bnd (Wp.ok h5)).mono (fun r P' h => h) fun _ _ h => h
      | true =>
        show kk σ2 H5 _
        refine qk c σ2 ρ1 P5 F5 H5 _ hc r5 (Wp.mono (Wp.bnd h5) (fun y P6 h6 u F6 H6 B x6 => ?_) fun _ _ h => h)
        refine qe c σ2 ρ1 P6 F6 H6 _ hc x6.rl (Wp.mono (Wp.bnd h6) (fun z P7 h7 v F7 H7 B2 x7 => ?_) fun _ _ h => h)
        have h7 := Wp.bnd (Wp.ok h7)
        have s7 : Stp c F3 H3 F7 H7 := (s5.trans x6.st).trans x7.st
        obtain ⟨key, ek, hz⟩ : ∃ key, kOf y = some key ∧ accD.length < 1000000 := by
          obtain ⟨r, p, _, h8⟩ := h7.ex
          obtain ⟨es, h9, _⟩ := Wp.lift (Wp.bnd (show Wp ((bnd (lift (mkDict accD (.tuple [y, z] :: r))) fun es => ret (PyData.dict es)) p) _ _ from h8))
          rw [mkDict] at h9
          split at h9
          · rename_i hz
            obtain ⟨key, h10, _⟩ := Option.bind_eq_some_iff.mp h9
            exact ⟨key, h10, hz⟩
          · cases h9
        have ey := kOf_some ek
        subst ey
        have hD7 : H7 D = some (.dK acc) := s7.kp _ _ (nw.hs _ _ hDh) npD
        refine ⟨acc, key, x6.rp.key, hD7, line_lt (by rw [hacc.length]; exact Nat.le_of_lt hz), ?_⟩
        have rw7 := keepW x7.rl s7
        have rm := rw7.mut (o := .dK (putK acc key v)) (offD s7) (r1.gd.dm _ hD) npD ⟨_, hD7⟩ (r1.notown_w (P' := P7) (st3.trans s7) hD (.refl [] _) (fun _ h => nomatch h) fun v h => (hvs v h).1)
        refine ⟨P7, F7, putK acc key v, putE kOf accD key (keyD key) z, rm, ?_, upd_same, offD s7, (hacc.mono (nw.fs.trans s7.fs)).put x7.rp, ?_⟩
        · have t := st3.trans s7
          refine ⟨t.fs, t.gr, fun a o h n => ?_, fun a h => ?_⟩
          · rw [upd_ne (fun z => by rw [z, hD] at h; cases h)]; exact t.kp a o h n
          · by_cases ha : a = D
            · subst ha; rw [upd_same] at h; cases h
            · rw [upd_ne ha] at h; exact t.dm a h
        · refine h7.mono (fun r P' h => ?_) fun _ _ h => h
          have h : Wp ((bnd (lift (mkDict accD (.tuple [keyD key, z] :: r))) fun es => ret (PyData.dict es)) P') _ _ := h
          rw [mkDict, if_pos hz, kOf_key, Option.bind_some] at h
          exact h
theorem se_dc {kx vx tg iter : Expr} {ifs : List Expr} {own : List (Str × Nat)} {pos : Pos} {ts : List Nat} {fi : Rho → M (List D)} {g : D → Rho → Option Rho} {tt : Rho → M Bool} {tk tv : Rho → M D} (O : Ok J) (hi : SiC J ow tg iter fi) (ok : BlkOk J.X.N J.X.env.scope sc own) (hg : ∀ b, Gt (J.blk sc b) ow tg ts g) (ht : Ts J ow sc ifs tt) (hk : ∀ b, Se (J.blk sc b) ow kx 0 tk) (he : ∀ b, Se (J.blk sc b) ow vx 0 tv)
    (hts : ∀ i ∈ ts, i ∈ own.map (·.2) := by decide) (hvs : ∀ v ∈ own.map (·.2), ow.lookup v = none ∧ Fre J.ps v := by first | (simp [Fre]; done) | (simp [setO, unO, Fre]; done)) (hs : ∀ x, foldedSetIterable iter J.X.env x = pure x := by intro _; rfl) :
    Se J ow (.DictComp kx vx [⟨tg, iter, ifs, 0⟩] sc pos) 1 (eDc (own.map (·.2)) fi g tt tk tv) := by
  obtain ⟨wi, gg, tg', kk, ee, pi, pg, pt, pk, pe, q⟩ := dc_run hi hg ht hk he hts hvs
  exact ⟨_, pe_dc O.c O.nd pi ok (fun s H C cl fp => pg ⟨s, H, C, cl, fp⟩) (fun s H C cl fp => pt ⟨s, H, C, cl, fp⟩) (fun s H C cl fp => pk ⟨s, H, C, cl, fp⟩) (fun s H C cl fp => pe ⟨s, H, C, cl, fp⟩) hs, q⟩
end
/-- a comprehension put into a cell -/
theorem sw_cell {e : Expr} {py : Pos} {y : Str} {l : Nat} {env : Env} (hy : env.scope.names.lookup y = some .cell) : swapsWith e (some (.Name y py)) l env = pure false := by
  have ky : (env.kindOf y == some .local) = false := by
    rw [show env.kindOf y = some .cell from hy]; rfl
  unfold swapsWith
  split
  · simp only [ky, Bool.and_false, Bool.false_and]
  · rfl
end DL

end
section
set_option Elab.async false
set_option linter.all false
set_option maxRecDepth 100000
set_option maxHeartbeats 2000000
/-! ### t[::-1], t a tuple -/
namespace DL
open PySem PySem.Spec L2 PyProof.Rows
section
variable {prog : Program} {w : World} {A : Around} {E : Value → Shared → Prop} {s : Shared}
theorem adjust_rev (n : Nat) : Builtin.Slice.sliceAdjust none none (-1) (n : Int) = ((n : Int) - 1, -1) := rfl
theorem places_rev (n : Nat) : Builtin.Slice.slicePlaces ((n : Int) - 1) (-1) (-1) = n := by
  unfold Builtin.Slice.slicePlaces
  rw [if_neg (by decide)]
  by_cases h : (n : Int) - 1 > -1
  · rw [if_pos h]
    have : ((n : Int) - 1 - -1 - 1) / (- -1) + 1 = n := by
      rw [show (- -1 : Int) = 1 from rfl, Int.ediv_one]; omega
    rw [this, Int.toNat_natCast]
  · rw [if_neg h]
    show (0 : Nat) = n
    omega
theorem sliceApplied_rev {sl : Addr} {vl vu vs : Value} {n : Nat} {Q : Int × Int × Nat → Shared → Prop} (hs : s.heap.IsSliceOf sl vl vu vs) (pl : IsPart vl none) (pu : IsPart vu none) (ps : IsPart vs (some (-1)))
    (h : Q ((n : Int) - 1, -1, n) s) : wpAny (model prog w) A (Builtin.Slice.sliceApplied (.ref sl) (pure (n : Int))) Q E s := by
  obtain ⟨os, hos, hcs, hds⟩ := id hs
  unfold Builtin.Slice.sliceApplied Builtin.Slice.sliceFields
  refine wpAny_bind (wpAny_bind (wpAny_field hos hds (x := vl) rfl (wpAny_bind (wpAny_field hos hds (x := vu) rfl (wpAny_bind (wpAny_field hos hds (x := vs) rfl (wpAny_pure ?_)))))))
  refine wpAny_bind (HT.slicePart_ ps ?_)
  show wpAny _ _ (if ((-1 : Int) == 0) = true then _ else _) _ _ s
  rw [if_neg (by decide)]
  refine wpAny_bind (HT.slicePart_ pl (wpAny_bind (HT.slicePart_ pu (wpAny_bind (wpAny_pure ?_)))))
  show wpAny _ _ (match Builtin.Slice.sliceAdjust none none (-1) (n : Int) with | (lo, hi) => pure (lo, (-1 : Int), Builtin.Slice.slicePlaces lo hi (-1))) _ _ s
  rw [adjust_rev n]
  show wpAny _ _ (pure ((n : Int) - 1, (-1 : Int), Builtin.Slice.slicePlaces ((n : Int) - 1) (-1) (-1))) _ _ s
  rw [places_rev]
  exact wpAny_pure h
theorem pick_rev (xs : Array Value) : ((List.range xs.size).filterMap fun (m : Nat) => xs[((xs.size : Int) - 1 + (m : Int) * (-1)).toNat]?).toArray = xs.toList.reverse.toArray := by
  have e : ((List.range xs.size).filterMap fun (m : Nat) => xs[((xs.size : Int) - 1 + (m : Int) * (-1)).toNat]?) = ((List.range xs.size).map fun m => xs.size - 1 - m).filterMap (xs[·]?) := by
    rw [List.filterMap_map]
    congr 1
    funext m
    rw [Function.comp, show ((xs.size : Int) - 1 + (m : Int) * (-1)).toNat = xs.size - 1 - m by omega]
  rw [e, PySem.W.krv_range, List.filterMap_reverse, PySem.W.krv_all]
theorem getItem_tuple_rev {t sl : Addr} {items : Array Value} {vl vu vs : Value} {Q : Value → Shared → Prop} (ht : IsTup s.heap t items) (hs : s.heap.IsSliceOf sl vl vu vs) (pl : IsPart vl none) (pu : IsPart vu none) (ps : IsPart vs (some (-1)))
    (h : Q (.ref s.heap.objs.size) { s with heap := s.heap.push { cls := .type "tuple", data := .seq items.toList.reverse.toArray } }) (hsz : items.size ≤ sizeLine) : wpAny (model prog w) A (getItem (.ref t) (.ref sl)) Q E s := by
  have htake : sizeOk (.seq items.toList.reverse.toArray) := by
    show items.toList.reverse.toArray.size ≤ sizeLine
    rw [List.size_toArray, List.length_reverse, Array.length_toList]
    exact hsz
  obtain ⟨os, hos, hcs, hds⟩ := id hs
  have hTs : s.TypeIs (.ref sl) "slice" := ⟨os, hos, hcs⟩
  unfold getItem
  try with_reducible refine wpAny_holding ?_
  first | refine wpAny_bind (wpAny_pure ?_) | skip
  refine wpAny_bind (wpAny_sequenceKey ht.typeIs (by decide) ?_)
  refine wpAny_bind (wpAny_callSpecial?_slot (name := Str.ofString "__getitem__") ht.typeIs PyProof.Rows.slot_tuple_getitem
    (wpAny_call_entry PyProof.Rows.slot_tuple_getitem ht.typeIs PyProof.Rows.entry_tuple_getitem ?_ (PyProof.Rows.args_tuple_getitem _ _)))
  show wpAny _ _ (Builtin.Tuple.tupleItemsOf (.ref t) >>= _) _ _ s
  refine wpAny_bind (tupleItemsOf_ ht ?_)
  refine wpAny_bind (wpAny_typeOf hTs ?_)
  rw [if_pos (by decide)]
  refine wpAny_bind (sliceApplied_rev hs pl pu ps ?_)
  have hno : ¬ ((((items.size : Int) - 1) == 0 && (-1 : Int) == 1 && items.size == items.size) = true) := by
    intro q
    rw [Bool.and_eq_true, Bool.and_eq_true] at q
    exact absurd (eq_of_beq q.1.2) (by decide)
  show wpAny _ _ (if ((((items.size : Int) - 1) == 0 && (-1 : Int) == 1 && items.size == items.size) = true) then _ else _) _ _ s
  rw [if_neg hno, pick_rev]
  first
    | exact wpAny_bind (m := Builtin.Tuple.tupleExact _) (wpAny_newObj_type (wpAny_pure ⟨_, rfl, wpAny_pure h⟩) htake)
    | exact wpAny_bind (m := Builtin.Tuple.tupleExact _) (wpAny_newObj_type (wpAny_bind (wpAny_pure (wpAny_pure ⟨_, rfl, wpAny_pure h⟩))) htake)
    | exact wpAny_bind (wpAny_bind (m := Builtin.Tuple.tupleExact _) (wpAny_newObj_type (wpAny_pure (wpAny_pure ⟨_, rfl, wpAny_pure h⟩)) htake))
    | exact wpAny_bind (wpAny_bind (m := Builtin.Tuple.tupleExact _) (wpAny_newObj_type (wpAny_pure ⟨_, rfl, wpAny_pure h⟩) htake))
end
section
variable {X : Cx}
def tRevT (K : PySem.W.Frag) (te : TE) : TE := fun σ H Q => te σ H fun x H1 => ∃ a xs, x = .ref a ∧ SqT K H1 a xs ∧ ∀ p, H1 p = none → Q (.ref p) (upd H1 p (.tup xs.reverse))
theorem pe_revT {e : Expr} {te : TE} {k : Nat} {p1 p2 p3 pos : Pos} (he : PE X e te) : PE X (.Subscript e (.Slice none none (some (.UnaryOp .USub (.Constant (.int 1) k p1) p2)) p3) pos) (tRevT X.K te) := by
  refine ⟨fun pins s σ H Q I h => ?_⟩
  refine Subscript_ (thn (he.run pins s σ H _ I h) fun v s1 ⟨x, H1, I1, r1, q1⟩ => ?_)
  obtain ⟨a, xs, ex, hx, q⟩ := q1
  subst ex
  cases r1
  have hst : PO X (some (.UnaryOp .USub (.Constant (.int 1) k p1) p2)) (tPart (tUn (rU fun i => .int (-i)) (tC (.int 1)))) := po_some (pe_un un_neg pe_int)
  refine wpAny_Slice (thn (po_none.run pins s1 σ H1 (fun o H2 => o = none ∧ H2 = H1) I1 ⟨rfl, rfl⟩) fun vl s2 ⟨l, H2, I2, pl, el, e2⟩ => ?_)
  subst el e2
  refine thn (po_none.run pins s2 σ H2 (fun o H3 => o = none ∧ H3 = H2) I2 ⟨rfl, rfl⟩) fun vu s3 ⟨u, H3, I3, pu, eu, e3⟩ => ?_
  subst eu e3
  refine thn (hst.run pins s3 σ H3 (fun o H4 => o = some (-1) ∧ H4 = H3) I3 ⟨1, rfl, -1, rfl, rfl, rfl⟩) fun vs s4 ⟨o, H4, I4, ps, eo, e4⟩ => ?_
  subst eo e4
  have I5 : Inv X pins σ H4 { s4 with heap := s4.heap.push { cls := .type "slice", data := .fields #[vl, vu, vs] } } := I4.kept (t' := s4.toks) fun b ob q => Heap.get?_push_of_some _ q
  obtain ⟨its, r, ht, hz⟩ := I5.tuple hx
  have hlen := r.length
  show wpAny (model X.prog X.w) X.A (subscriptTail e (.Slice none none (some (.UnaryOp .USub (.Constant (.int 1) k p1) p2)) p3) (.ref a) (.ref s4.heap.objs.size)) (EP X pins σ Q) X.xe { s4 with heap := s4.heap.push { cls := .type "slice", data := .fields #[vl, vu, vs] } }
  refine tail_any (ops := [.ref a, .ref s4.heap.objs.size]) ht.typeIs (PyProof.Rows.slot_tuple_getitem.lookup) ?_ (by with_unfolding_all rfl)
  refine getItem_tuple_rev ht (Heap.IsSliceOf.new _ vl vu vs) pl pu ps ?_ (by rw [List.size_toArray]; omega)
  refine ⟨.ref _, _, I5.laid (t' := s4.toks) (o := .tup xs.reverse) (fun b ob q => Heap.get?_push_of_some _ q) (Nat.le_refl _) ?_, rfl, q _ (I5.hok.fresh (Nat.le_refl _))⟩
  exact ⟨by rw [List.length_reverse]; exact hz, _, r.reverse, IsTup.new _ _⟩
end
section
variable {J : Jd} {ow owl : Owns} {kr : Nat}
def gRevT : D → Option D | .tuple xs => some (.tuple xs.reverse) | _ => none
theorem se_revT {e : Expr} {f : Rho → M D} {k : Nat} {p1 p2 p3 pos : Pos} (h : Se J ow e 0 f) : Se J ow (.Subscript e (.Slice none none (some (.UnaryOp .USub (.Constant (.int 1) k p1) p2)) p3) pos) 0 (eUn gRevT f) := by
  obtain ⟨t, p, q⟩ := h
  refine ⟨_, pe_revT p, op1_run (ta := t) (r := fun x H1 Q => ∃ a xs, x = .ref a ∧ SqT J.X.K H1 a xs ∧ ∀ p, H1 p = none → Q (.ref p) (upd H1 p (.tup xs.reverse))) q fun F H x a d Q s ha e k => ?_⟩
  cases ha with
  | tup h r => cases e; exact ⟨_, _, rfl, .inl (.inl (s _ _ h)), fun p hp => k _ _ _ _ (Nw.tup s hp r.reverse)⟩
  | _ => cases e
/-! ### sum of a list or tuple of ints -/
theorem sumT_raw {prog : Program} {w : World} {A : Around} {E : Value → Shared → Prop} {s : Shared} {l : Addr} {its : List Value} {ns : List Int} {Q : Value → Shared → Prop} (hh : A.handled = none) (hl : s.heap.IsTuple l its.toArray) (hi : IntsAre its ns)
    (h : ∀ h' tk t', (∀ b o, s.heap.get? b = some o → h'.get? b = some o) → Q (.int ns.sum t') { s with heap := h', toks := tk }) : wpAny (model prog w) A (call (.builtin "sum") [.ref l]) Q E s := by
  obtain ⟨xs, e⟩ := hi.allInts.items
  have hn : numsOf (intItems xs).toList = ns := by rw [← e]; exact hi.numsOf
  rw [nums_intItems] at hn
  rw [e] at hl
  refine PySem.W.ktm_sumG hh hl fun h' tk t' hk => ?_
  have := h h' tk t' hk
  rw [preSum_eq, List.take_of_length_le (by simp), hn]; exact this
end
end DL

end
section
set_option Elab.async false
set_option linter.all false
set_option maxRecDepth 100000
set_option maxHeartbeats 2000000
namespace DL
open PySem PySem.Spec L2 PyProof.Rows
section
variable {J : Jd} {ow owl : Owns} {kr : Nat}
/-! ### x[j].append(e) -/
def sApp2 (i : Nat) (g f : Rho → M D) : Rho → M Oc := fun ρ => bnd (lift (lstAt ρ i)) fun ds => bnd (g ρ) fun j => bnd (lift (innerAt ds j)) fun ne => bnd (f ρ) fun d => if ne.2.length < 1000000 then ret (.nx (ρ.set i (some (.list (ds.set ne.1 (.list (ne.2 ++ [d]))))))) else stuck
theorem s1_append2 {i : Nat} {x : Str} {e ix : Expr} {f g : Rho → M D} {p q0 apos cpos pos : Pos} (hg : Se J ow ix 0 g) (h : Se J ow e 0 f) (hi : ow.lookup i = some 2 := by rfl) (hN : J.X.N[i]? = some x := by rfl) (hv : Vis J.X.env.scope x := by first | exact Or.inl rfl | exact Or.inr (Or.inl rfl)) (hd : (x == ("__debug__" : Str)) = false := by decide) (hcd : (x == ("__classdict__" : Str)) = false := by decide)
    (hpl : PlainIx ix := by exact fun _ _ => rfl)
    (hbase : attributeBase (.Subscript (.Name x p) ix q0) "append" J.X.env (eval (.Subscript (.Name x p) ix q0) J.X.env) = eval (.Subscript (.Name x p) ix q0) J.X.env := by rfl)
    (hfew : ((backTo cpos (starEach [e] J.X.env)).all (fun x => !x.1) && (backToKw cpos (keywordEach [] J.X.env)).all (fun x => x.1.isSome) && decide ([e].length + ([] : List Keyword).length + (if ([] : List Keyword).isEmpty then 0 else 1) < 30)) = true := by rfl)
    (hline : (apos.endLine == cpos.line) = true := by rfl) (hs : starEach [e] J.X.env = (false, eval e J.X.env) :: starEach [] J.X.env := by rfl) (hplain : (backTo cpos (starEach [] J.X.env)).any (·.1) = false := by rfl)
    (hsw : swapsWith (.Call (.Attribute (.Subscript (.Name x p) ix q0) "append" apos) [e] [] cpos) none pos.line J.X.env = pure false := by rfl) : S1 J ow ow owl kr (.Expr (.Call (.Attribute (.Subscript (.Name x p) ix q0) "append" apos) [e] [] cpos) pos) (sApp2 i g f) := by
  obtain ⟨t, pe, q⟩ := h
  obtain ⟨u, pg, qg⟩ := hg
  refine ⟨_, ps_expr (pe_bm PySem.F.plainAttrs_list PySem.F.slot_list_append PySem.F.type_list_append mt_append (pe_ix ix_list (pe_var hN hv hd hcd) pg hpl) (pa_cons pe pa_nil hs) hbase hfew hline hs hplain) hsw, fun c σ ρ P F H E hc r w => ?_⟩
  obtain ⟨ds, el, w⟩ := Wp.lift (Wp.bnd w)
  have e1 := lstAt_some el
  have hex : ∃ a, σ[i]? = some (some (.ref a)) := by
    obtain ⟨v0, d0, A0, _, e2, o0, _⟩ := r.hold hi
    cases o0 with
    | lst _ _ => exact ⟨_, e2⟩
  obtain ⟨a, e2⟩ := hex
  refine ⟨.ref a, e2, ?_⟩
  refine qg c σ ρ P F H _ hc r ((Wp.bnd w).mono (fun j P2 h2 z F2 H2 A2 x2 => ?_) ErrS.e)
  obtain ⟨v0, d0, A0, f1, f2, o0, nd0, fr0⟩ := x2.rl.hold hi
  rw [e2] at f2; cases f2
  rw [e1] at f1; cases f1
  obtain ⟨a', xs, B, ea, hH, hs0, eA⟩ := o0.lst_inv
  cases ea
  obtain ⟨⟨n, es⟩, en, h4⟩ := Wp.lift (Wp.bnd h2)
  cases x2.rp with
  | int k =>
    obtain ⟨n1, n2⟩ := innerAt_some en
    obtain ⟨n', v, B1, A, B2, g1, g2, g3, g4, g5, _⟩ := Ow.inner (j := k) hs0 (by unfold atI; rw [n1]; exact n2)
    rw [n1] at g1; cases g1
    obtain ⟨p', zs, C, rfl, hp, hz, eC⟩ := g5.lst_inv
    refine ⟨a, xs, k, .ref p', rfl, rfl, .inl (.inl hH), atI_of hs0.length n1 g2, .inl ⟨rfl, zs, .inl (.inl hp)⟩, ?_⟩
    refine q c σ ρ P2 F2 H2 _ hc x2.rl ((Wp.bnd h4).mono (fun d P3 h3 y F3 H3 A3 x3 => ?_) ErrS.e)
    have h3 : Wp ((if es.length < 1000000 then ret (Oc.nx (ρ.set i (some (.list (ds.set n (.list (es ++ [d]))))))) else stuck) P3) _ _ := h3
    have hH3 : H3 a = some (.lst xs) := x3.st.kp _ _ hH (fr0 a (by rw [eA]; simp)).2.2
    have hp3 : H3 p' = some (.lst zs) := x3.st.kp _ _ hp (fr0 p' (by rw [eA, g4, eC]; simp)).2.2
    obtain ⟨v1, d1, A1, f1, f2, o1, nd1, fr1⟩ := x3.rl.hold hi
    rw [e2] at f2; cases f2
    rw [e1] at f1; cases f1
    obtain ⟨a1, xs1, B', ea, hH1, hs1, eA1⟩ := o1.lst_inv
    cases ea
    rw [hH3] at hH1; cases hH1
    obtain ⟨n', v, B1', A', B2', g1, g2', g3', g4', g5', put⟩ := Ow.inner (j := k) hs1 (by unfold atI; rw [n1]; exact n2)
    rw [n1] at g1; cases g1
    rw [g2] at g2'; cases g2'
    obtain ⟨p2, zs2, C2, ep, hp2, hz2, eC2⟩ := g5'.lst_inv
    cases ep
    rw [hp3] at hp2; cases hp2
    obtain ⟨rz, rfl⟩ := hz2.toRps
    split at h3
    · rename_i hm
      refine ⟨p', zs, y, rfl, rfl, hp3, line_lt (by rw [rz.length]; exact Nat.le_of_lt hm), ?_⟩
      subst g4' eC2
      refine (show StP J c ow owl kr F E (.nx _) P3 from h3) σ F3 _ (x3.rl.inner (B := B1' ++ ([p'] ++ B2')) hi e1 e2 hH3 hs1 g2 rfl put [] (Ows.ofRps (rz.append (.cons x3.rp .nil))) (by rw [← eA1]; exact nd1) (fun _ h => nomatch h)) (x2.st.fs.trans x3.st.fs)
    · exact h3.elim
  | _ => cases en
end
end DL

end
section
set_option Elab.async false
set_option linter.all false
set_option maxRecDepth 100000
set_option maxHeartbeats 2000000
namespace DL
open PySem PySem.Spec L2 PyProof.Rows
section
variable {X : Cx}
/-! ### sum of a list or tuple of ints, any of ints -/
def rSumA (K : PySem.W.Frag) : List V → Hp → VK → Prop := fun vs H Q => ∃ (a : Addr) (ns : List Int), vs = [V.ref a] ∧ (SqL K H a (ns.map V.int) ∨ SqT K H a (ns.map V.int)) ∧ Q (.int ns.sum) H
theorem cr_sumA (hc : X.calm = true) : CallR X (.builtin "sum") (rSumA X.K) := by
  intro pins s σ H vs us Q I r h
  obtain ⟨a, ns, rfl, hs | hs, q⟩ := h
  · exact cr_sum hc pins s σ H _ us Q I r ⟨a, ns, rfl, hs, q⟩
  · obtain ⟨its, rv, hl, _⟩ := I.tuple hs
    rw [Vals.ref1 r]
    exact sumT_raw (I.ok.hd hc) hl rv.ints fun h' tk t' hk => ⟨.int _, H, I.kept hk, ⟨_, rfl⟩, q⟩
theorem truth_ints {prog : Program} {w : World} {A : Around} {ns : List Int} {its : List Value} (r : Vals (ns.map V.int) its) :
    TruthOf prog w A (fun i v => its.toArray[i]? = some v) (fun i => ns.getD i 0 != 0) := fun i v s Q E hv hq => by
  have hv' : its[i]? = some v := by simpa using hv
  have hi : i < ns.length := by
    have := (List.getElem?_eq_some_iff.mp hv').1
    have l := r.length
    rw [List.length_map] at l
    omega
  obtain ⟨w', ew, rw'⟩ := r.get (i := i) (x := .int ns[i]) (by rw [List.getElem?_map, List.getElem?_eq_getElem hi]; rfl)
  rw [hv'] at ew
  cases ew
  obtain ⟨t, rfl⟩ := rw'
  have hg : ns.getD i 0 = ns[i] := by rw [List.getD_eq_getElem?_getD, List.getElem?_eq_getElem hi]; rfl
  have hq' : Q (ns.getD i 0 != 0) s := hq
  rw [hg] at hq'
  exact truthy_int hq'
theorem any_rangeI : ∀ ns : List Int, (List.range ns.length).any (fun i => ns.getD i 0 != 0) = ns.any (· != 0)
  | [] => rfl
  | n :: ns => by
    rw [List.length_cons, List.range_succ_eq_map, List.any_cons, List.any_map, List.any_cons]
    congr 1
    rw [← any_rangeI ns]
    rfl
def rAnyI (K : PySem.W.Frag) : List V → Hp → VK → Prop := fun vs H Q => ∃ (a : Addr) (ns : List Int), vs = [V.ref a] ∧ SqL K H a (ns.map V.int) ∧ Q (.bl (ns.any (· != 0))) H
theorem cr_anyI (hc : X.calm = true) : CallR X (.builtin "any") (rAnyI X.K) := by
  intro pins s σ H vs us Q I r h
  obtain ⟨a, ns, rfl, hs, q⟩ := h
  obtain ⟨its, rv, hl, _⟩ := I.list hs
  rw [Vals.ref1 r]
  refine call_any_walk (iter_any hl.isList fun s₂ e2 st hne => ?_)
  subst e2
  refine ⟨_, _, _, _, _, _, _, rfl, Walks.list (A := X.A.in1) (I.ok.hd hc) _ a hne its.toArray, st, truth_ints rv, fun h' tk hk => ?_⟩
  refine ⟨.bl _, H, I.kept fun b o eo => hk b o (fun hmem => ?_) (Heap.get?_push_of_some _ eo), ?_, q⟩
  · rcases List.mem_cons.mp hmem with e1 | hmem
    · exact absurd (e1 ▸ Heap.lt_size eo) (Nat.lt_irrefl _)
    · cases hmem
  · show Value.bool _ = Value.bool _
    have l := rv.length
    rw [List.length_map] at l
    rw [← any_rangeI, List.size_toArray, ← l]
/-! ### reading xs[k], 0 ≤ k, by values -/
def rGetL (K : PySem.W.Frag) : V → V → Hp → VK → Prop := fun o i H Q => ∃ p xs k v, o = .ref p ∧ i = .int k ∧ SqL K H p xs ∧ 0 ≤ k ∧ k < 2 ^ 63 ∧ xs[k.toNat]? = some v ∧ Q v H
theorem pg_list : PGet X (rGetL X.K) := by
  intro pins s σ H o i ov iv Q I ro ri h
  obtain ⟨p, xs, k, v, rfl, rfl, hq, h0, h63, hv, q⟩ := h
  cases ro
  obtain ⟨t, rfl⟩ := ri
  obtain ⟨its, r, pl, hz⟩ := I.list hq
  obtain ⟨w, ew, rw'⟩ := r.get hv
  exact wpAny_getItem_list pl.isList h0 h63 (by simpa using ew) ⟨v, H, I, rw', q⟩
end
section
variable {J : Jd} {ow owl : Owns} {kr : Nat}
def gSumA : List D → Option D
  | [.list xs] => (intsOf xs).map fun ns => .int ns.sum
  | [.tuple xs] => (intsOf xs).map fun ns => .int ns.sum
  | _ => none
theorem o_sumA {K : PySem.W.Frag} : OpL (rSumA K) 0 gSumA := fun F H xs as d Q s ha e k => by
  cases ha with
  | nil => cases e
  | cons h r => cases r with
    | cons _ _ => cases h <;> cases e
    | nil => cases h with
      | lst h r =>
        simp only [gSumA, Option.map_eq_some_iff] at e
        obtain ⟨bs, e, rfl⟩ := e
        have z := ints_rps r e
        subst z
        exact ⟨_, _, rfl, .inl (.inl (.inl (s _ _ h))), k _ _ _ _ (Nw.same s (.int _))⟩
      | tup h r =>
        simp only [gSumA, Option.map_eq_some_iff] at e
        obtain ⟨bs, e, rfl⟩ := e
        have z := ints_rps r e
        subst z
        exact ⟨_, _, rfl, .inr (.inl (.inl (s _ _ h))), k _ _ _ _ (Nw.same s (.int _))⟩
      | _ => cases e
def gAnyI : List D → Option D
  | [.list xs] => (intsOf xs).map fun ns => .bool (ns.any (· != 0))
  | _ => none
theorem o_anyI {K : PySem.W.Frag} : OpL (rAnyI K) 0 gAnyI := fun F H xs as d Q s ha e k => by
  cases ha with
  | nil => cases e
  | cons h r => cases r with
    | cons _ _ => cases h <;> cases e
    | nil => cases h with
      | lst h r =>
        simp only [gAnyI, Option.map_eq_some_iff] at e
        obtain ⟨bs, e, rfl⟩ := e
        have z := ints_rps r e
        subst z
        exact ⟨_, _, rfl, .inl (.inl (s _ _ h)), k _ _ _ _ (Nw.same s (.bl _))⟩
      | _ => cases e
def gMax2 : List D → Option D | [.int i, .int j] => some (.int (if j > i then j else i)) | _ => none
theorem o_max2 : OpL (fun xs H Q => ∃ i j, xs = [.int i, .int j] ∧ Q (.int (if j > i then j else i)) H) 0 gMax2 := fun F H xs as d Q s ha e k => by
  unfold gMax2 at e
  split at e
  · cases e
    cases ha with
    | cons h r => cases h with
      | int i => cases r with
        | cons h r => cases h with
          | int j => cases r with
            | nil => exact ⟨_, _, rfl, k _ _ _ _ (Nw.same s (.int _))⟩
  · cases e
def gMin2 : List D → Option D | [.int i, .int j] => some (.int (if j < i then j else i)) | _ => none
theorem o_min2 : OpL (fun xs H Q => ∃ i j, xs = [.int i, .int j] ∧ Q (.int (if j < i then j else i)) H) 0 gMin2 := fun F H xs as d Q s ha e k => by
  unfold gMin2 at e
  split at e
  · cases e
    cases ha with
    | cons h r => cases h with
      | int i => cases r with
        | cons h r => cases h with
          | int j => cases r with
            | nil => exact ⟨_, _, rfl, k _ _ _ _ (Nw.same s (.int _))⟩
  · cases e
/-! [..] * n, its own -/
def gRepL : D → D → Option D
  | .list xs, .int j => if j ≤ 1000000 ∧ xs.length * j.toNat ≤ 1000000 ∧ -1000000 ≤ j then some (.list (List.replicate j.toNat xs).flatten) else none
  | _, _ => none
theorem o_repL : Op2 rRep 1 gRepL := fun F H x y a b d Q s ha hb e k => by
  cases ha with
  | lst h r =>
    cases hb with
    | int j =>
      simp only [gRepL] at e
      split at e
      · rename_i c; cases e
        exact ⟨_, j, _, rfl, rfl, s _ _ h, by omega, by omega, line_of (by rw [r.length]; exact c.2.1), fun p hp => k _ _ _ _ (Nw.own s hp (r.rep _))⟩
      · cases e
    | _ => cases e
  | _ => cases hb <;> cases e
/-! ### x[j] += e, x a list of its own -/
def getN (ds : List D) (j : D) : Option (Nat × D) := match j with | .int k => if 0 ≤ k ∧ k < 1000000 then (ds[k.toNat]?).map fun d => (k.toNat, d) else none | _ => none
def sAugS (h : Int → Int → Int) (i : Nat) (g f : Rho → M D) : Rho → M Oc := fun ρ => bnd (g ρ) fun j => bnd (lift (lstAt ρ i)) fun ds => bnd (lift (getN ds j)) fun nx => bnd (f ρ) fun y => bnd (lift (gIp h nx.2 y)) fun z => ret (.nx (ρ.set i (some (.list (ds.set nx.1 z)))))
theorem s1_augS {h : Int → Int → Int} {i : Nat} {x : Str} {e ix : Expr} {f g : Rho → M D} {op : Operator} {p tp pos : Pos} (hip : PIp J.X op (ipI h)) (hg : Se J ow ix 0 g) (he : Se J ow e 0 f) (hi : ow.lookup i = some 1 := by rfl) (hN : J.X.N[i]? = some x := by rfl) (hv : Vis J.X.env.scope x := by first | exact Or.inl rfl | exact Or.inr (Or.inl rfl)) (hd : (x == ("__debug__" : Str)) = false := by decide) (hcd : (x == ("__classdict__" : Str)) = false := by decide)
    (ha : ∀ ov iv new, augStore ix ov iv new = (do holding [new, ov, iv] (setItem ov iv new); release [new, ov, iv] []; pure .next) := by intros; rfl) :
    S1 J ow ow owl kr (.AugAssign (.Subscript (.Name x p) ix tp) op e pos) (sAugS h i g f) := by
  obtain ⟨t, pe, q⟩ := he
  obtain ⟨u, pg, qg⟩ := hg
  refine ⟨_, ps_augS (pe_var hN hv hd hcd) pg pg_list pe hip set_list ha, fun c σ ρ P F H E hc r w => ?_⟩
  have hex : ∃ a, σ[i]? = some (some (.ref a)) := by
    obtain ⟨v0, d0, A0, _, e2, o0, _⟩ := r.hold hi
    cases o0 with
    | lst _ _ => exact ⟨_, e2⟩
    | dK _ _ => exact ⟨_, e2⟩
    | dT _ _ => exact ⟨_, e2⟩
  obtain ⟨a, e2⟩ := hex
  refine ⟨.ref a, e2, ?_⟩
  refine qg c σ ρ P F H _ hc r (w.bnd.mono (fun j P2 h2 z F2 H2 A2 x2 => ?_) ErrS.e)
  obtain ⟨ds, el, h2⟩ := Wp.lift (Wp.bnd h2)
  obtain ⟨⟨n, dx⟩, en, h2⟩ := Wp.lift (Wp.bnd h2)
  have e1 := lstAt_some el
  obtain ⟨a', xs, f2, hH, hs0, _⟩ := x2.rl.hold1 hi e1
  rw [e2] at f2; cases f2
  cases x2.rp with
  | int k =>
    simp only [getN] at en
    split at en
    · rename_i hk
      obtain ⟨d1, g1, g2⟩ := Option.map_eq_some_iff.mp en
      cases g2
      obtain ⟨vx, g3, g4⟩ := hs0.get' g1
      have hl := (List.getElem?_eq_some_iff.mp g1).1
      refine ⟨a, xs, k, vx, rfl, rfl, .inl (.inl hH), hk.1, by omega, g3, ?_⟩
      refine q c σ ρ P2 F2 H2 _ hc x2.rl ((Wp.bnd h2).mono (fun y P3 h3 v F3 H3 A3 x3 => ?_) ErrS.e)
      obtain ⟨z', ez, h3⟩ := Wp.lift (Wp.bnd h3)
      obtain ⟨a', xs3, f2, hH3, hs3, _⟩ := x3.rl.hold1 hi e1
      rw [e2] at f2; cases f2
      obtain ⟨i1, i2, rfl, rfl, rfl⟩ : ∃ i1 i2, dx = .int i1 ∧ y = .int i2 ∧ z' = .int (h i1 i2) := by
        have ez : gIp h dx y = some z' := ez
        unfold gIp at ez
        split at ez
        · cases ez; exact ⟨_, _, rfl, rfl, rfl⟩
        · cases ez
      cases g4
      have y3 := x3.rp
      cases y3
      refine ⟨_, i2, rfl, rfl, a, xs3, k, k.toNat, rfl, rfl, hH3, ?_, ?_⟩
      · rw [hs3.length]
        unfold ixN
        rw [if_pos hk.1, if_pos (by omega)]
      · exact (show StP J c ow owl kr F E (.nx _) P3 from h3) σ F3 _ (x3.rl.put1 hi e1 e2 hH3 hs3 (hs3.set (.int _) k.toNat)) (x2.st.fs.trans x3.st.fs)
    · cases en
  | _ => cases en
end
end DL

end
section
set_option Elab.async false
set_option linter.all false
set_option maxRecDepth 100000
set_option maxHeartbeats 2000000
namespace DL
open PySem PySem.Spec L2 PyProof.Rows
section
variable {J : Jd} {ow owl : Owns} {kr : Nat}
/-! ### len(x), x a list of its own -/
def ePLen (i : Nat) : Rho → M D := fun ρ => bnd (lift (lstAt ρ i)) fun ds => ret (.int (ds.length : Nat))
theorem se_plen {i k : Nat} {x : Str} {p q0 pos : Pos} (hm : J.X.mg "len" = none) (hi : ow.lookup i = some (k + 1) := by rfl) (hN : J.X.N[i]? = some x := by rfl) (hv : Vis J.X.env.scope x := by first | exact Or.inl rfl | exact Or.inr (Or.inl rfl) | exact Or.inr (Or.inr rfl)) (hd : (x == ("__debug__" : Str)) = false := by decide) (hcd : (x == ("__classdict__" : Str)) = false := by decide)
    (hg : Gl J.X "len" := by rfl) (hb : bootBuiltins "len" = some (.builtin "len") := by decide +kernel)
    (he : starEach [.Name x q0] J.X.env = (false, eval (.Name x q0) J.X.env) :: starEach [] J.X.env := by rfl) (hpl : (backTo pos (starEach [] J.X.env)).any (·.1) = false := by rfl) : Se J ow (.Call (.Name "len" p) [.Name x q0] [] pos) 0 (ePLen i) := by
  refine ⟨_, pe_callB call_len_seq hg hm hb (pa_cons (pe_var hN hv hd hcd) pa_nil he) (by decide) (by decide) he hpl, fun c σ ρ P F H Q hc r w => ?_⟩
  obtain ⟨ds, el, w⟩ := Wp.lift (Wp.bnd w)
  have e1 := lstAt_some el
  obtain ⟨v0, d0, A0, f1, e2, o0, _, _⟩ := r.hold hi
  rw [e1] at f1; cases f1
  obtain ⟨a, xs, B, rfl, hH, hs, _⟩ := o0.lst_inv
  refine ⟨.ref a, e2, a, xs, rfl, .inl (.inl (.inl hH)), ?_⟩
  have z := Wp.ok w (.int (xs.length : Nat)) F H [] (by rw [← hs.length]; exact r.vp (.int _))
  exact z
end
end DL

end
section
set_option Elab.async false
set_option linter.all false
set_option maxRecDepth 100000
set_option maxHeartbeats 4000000
/-! ### t * n, t a tuple that is not empty -/
namespace L2
open PySem PySem.Spec PyProof.Rows
theorem tuple_mul1 (l : Addr) (items : Array Value) (n : Nat) (dd : Option Addr) (sl : Array (Option Value)) (u : Tok) :
    Meets (Builtin.«tuple.__mul__» ⟨[.ref l, .int 1 u], []⟩) (fun _ R s => s.heap.get? l = some { cls := .type "tuple", dict := dd, data := .seq items n, slots := sl } ∧ R (.ok (.ret (Value.ref l))) s) :=
  .of_wp fun prog w A R s h => by
    obtain ⟨hp, g, d, tk, os⟩ := s
    obtain ⟨hl, h⟩ := h
    have f1 := AutoSeq1.idx_int
    wp_walk using wpAny_loadPart' hl
    repeat (first
      | (refine wpAny_ite_false (decide_eq_false (by decide)) ?_; wp_walk using wpAny_loadPart' hl)
      | (refine wpAny_ite_true (decide_eq_true (by simp)) ?_; wp_walk using wpAny_loadPart' hl))
    exact ⟨_, rfl, h⟩
theorem tuple_mul0 (l : Addr) (items : Array Value) (n : Nat) (dd : Option Addr) (sl : Array (Option Value)) (u : Tok) (hi : items.isEmpty = false) :
    Meets (Builtin.«tuple.__mul__» ⟨[.ref l, .int 0 u], []⟩) (fun _ R s => s.heap.get? l = some { cls := .type "tuple", dict := dd, data := .seq items n, slots := sl } ∧
      R (.ok (.ret (Value.ref s.heap.objs.size))) { s with heap := s.heap.push { cls := Value.type "tuple", data := Data.seq #[] }, toks := s.toks }) :=
  .of_wp fun prog w A R s h => by
    obtain ⟨hp, g, d, tk, os⟩ := s
    obtain ⟨hl, h⟩ := h
    have f1 := AutoSeq1.idx_int
    wp_walk using wpAny_loadPart' hl
    repeat (first
      | (refine wpAny_ite_false (decide_eq_false (by decide)) ?_; wp_walk using wpAny_loadPart' hl)
      | (refine wpAny_ite_false (decide_eq_false (by rw [hi]; decide)) ?_; wp_walk using wpAny_loadPart' hl)
      | (refine wpAny_ite_true (decide_eq_true (by simp)) ?_; wp_walk using wpAny_loadPart' hl))
    exact ⟨_, rfl, h⟩
section
variable {X : Cx}
def rRepTA (K : PySem.W.Frag) : R2 := fun x y H Q => ∃ l k xs, x = .ref l ∧ y = .int k ∧ SqT K H l xs ∧ xs ≠ [] ∧ 0 ≤ k ∧ k ≤ 1000 ∧ xs.length ≤ 1000 ∧ (k = 1 → Q (.ref l) H) ∧ (k ≠ 1 → ∀ p, H p = none → Q (.ref p) (upd H p (.tup (List.replicate k.toNat xs).flatten)))
theorem op_repTA : OpR X (binaryOp .Mult) (rRepTA X.K) := by
  intro pins s σ H x y v u Q I rx ry h
  obtain ⟨l, k, xs, rfl, rfl, hT, hne, h0, h2, hz, q1, q2⟩ := h
  by_cases hk : 2 ≤ k
  · exact op_repT pins s σ H _ _ v u Q I rx ry ⟨l, k, xs, rfl, rfl, hT, hne, hk, h2, hz, q2 (by omega)⟩
  · cases rx
    obtain ⟨t, rfl⟩ := ry
    obtain ⟨its, r, ⟨⟨cls, dd, data, sl⟩, ho, hc, n, hd⟩, hs⟩ := I.tuple hT
    simp only at hc hd
    subst hc hd
    have hle : its.length = xs.length := r.length.symm
    have hn : its ≠ [] := fun e => hne (by
      rw [e] at hle
      exact List.eq_nil_of_length_eq_zero hle.symm)
    have hi : its.toArray.isEmpty = false := by
      cases its with
      | nil => exact absurd rfl hn
      | cons a b => rfl
    by_cases hk1 : k = 1
    · subst hk1
      refine wpAny_binaryOp_repeat_ref (T := "tuple") (U := "int") (by decide) ⟨_, ho, rfl⟩ (fun s' => typeIs_int s' 1 t) noFill_tuple_mul F.fills_int_mul F.slot_int_rmul repeat_tuple F.slot_int_index.lookup
        (call_meets F.slot_int_rmul (typeIs_int s 1 t) F.entry_int_rmul (F.args_int_rmul_2 _ _) (int_rmul_tuple 1 t l its.toArray n dd sl)
          ⟨ho, rfl, ⟨_, ho, rfl⟩, call_meets F.slot_tuple_mul ⟨_, ho, rfl⟩ F.entry_tuple_mul (F.args_tuple_mul_2 _ _) (tuple_mul1 l its.toArray n dd sl t) ⟨ho, ?_⟩⟩)
      exact ⟨.ref l, H, I, rfl, q1 rfl⟩
    · obtain rfl : k = 0 := by omega
      refine wpAny_binaryOp_repeat_ref (T := "tuple") (U := "int") (by decide) ⟨_, ho, rfl⟩ (fun s' => typeIs_int s' 0 t) noFill_tuple_mul F.fills_int_mul F.slot_int_rmul repeat_tuple F.slot_int_index.lookup
        (call_meets F.slot_int_rmul (typeIs_int s 0 t) F.entry_int_rmul (F.args_int_rmul_2 _ _) (int_rmul_tuple 0 t l its.toArray n dd sl)
          ⟨ho, rfl, ⟨_, ho, rfl⟩, call_meets F.slot_tuple_mul ⟨_, ho, rfl⟩ F.entry_tuple_mul (F.args_tuple_mul_2 _ _) (tuple_mul0 l its.toArray n dd sl t hi) ⟨ho, ?_⟩⟩)
      refine ⟨.ref s.heap.objs.size, _, I.laid (t' := s.toks) (o := .tup []) (fun b ob q => Heap.get?_push_of_some _ q) (Nat.le_refl _) ?_, rfl, q2 (by decide) _ (I.hok.fresh (Nat.le_refl _))⟩
      exact ⟨Nat.zero_le _, [], .nil, IsTup.new _ _⟩
end
end L2
namespace DL
open PySem PySem.Spec L2
def gRepT : D → D → Option D
  | .tuple xs, .int j => if xs ≠ [] ∧ 0 ≤ j ∧ j ≤ 1000 ∧ xs.length ≤ 1000 then some (.tuple (List.replicate j.toNat xs).flatten) else none
  | _, _ => none
theorem o_repT {K : PySem.W.Frag} : Op2 (rRepTA K) 0 gRepT := fun F H x y a b d Q s ha hb e k => by
  cases ha with
  | tup h r =>
    cases hb with
    | int j =>
      simp only [gRepT] at e
      split at e
      · rename_i c; cases e
        refine ⟨_, j, _, rfl, rfl, .inl (.inl (s _ _ h)), fun z => ?_, c.2.1, c.2.2.1, by rw [r.length]; exact c.2.2.2, fun hj => ?_, fun hj p hp => k _ _ _ _ (Nw.tup s hp (r.rep _))⟩
        · have l := r.length
          rw [z] at l
          exact c.1 (List.eq_nil_of_length_eq_zero l.symm)
        · subst hj
          have := r.rep 1
          refine k _ _ _ _ (Nw.same s (.tup h ?_))
          have e1 : ∀ {α : Type} (l : List α), (List.replicate (1 : Int).toNat l).flatten = l := fun l => by
            show (List.replicate 1 l).flatten = l
            simp
          rw [e1]
          exact r
      · cases e
    | _ => cases e
  | _ => cases hb <;> cases e
end DL

end
section
set_option Elab.async false
set_option linter.all false
set_option maxRecDepth 100000
set_option maxHeartbeats 4000000
/-! ### tuple(range(a, b)) -/
namespace DL
open PySem PySem.Spec L2
def gRgT2 : D → D → Option D := fun a b => match a, b with | .int i, .int j => if okR i = true ∧ okR j = true then some (.tuple (intsD i (j - i).toNat)) else none | _, _ => none
def rRgT2 : R2 := fun x y H Q => ∃ i j, x = .int i ∧ y = .int j ∧ RgOk i j ∧ ∀ q, H q = none → Q (.ref q) (upd H q (.tup (rgV i j)))
theorem rps_rg2 {F : Hp} (i j : Int) : Rps F (rgV i j) (intsD i (j - i).toNat) := by
  unfold rgV intsD
  generalize List.range (j - i).toNat = l
  induction l with
  | nil => exact .nil
  | cons a r ih => exact .cons (.int _) ih
theorem rgOk_of2 {i j : Int} (h : okR i = true) (k : okR j = true) : RgOk i j := by
  simp only [okR, Bool.and_eq_true, decide_eq_true_eq] at h k
  exact ⟨by omega, by omega, by omega, by omega, by omega⟩
theorem o_rgT2 : Op2 rRgT2 0 gRgT2 := fun F H x y a b d Q s ha hb e k => by
  unfold gRgT2 at e
  split at e
  · cases ha
    cases hb
    split at e
    · rename_i c
      cases e
      exact ⟨_, _, rfl, rfl, rgOk_of2 c.1 c.2, fun q hq => k _ _ _ _ (Nw.tup s hq (rps_rg2 _ _))⟩
    · cases e
  · cases e
section
variable {J : Jd} {ow : Owns}
theorem se_tupRg2 {a b : Expr} {f f' : Rho → M D} {p p2 q pos : Pos} (O : Ok J) (hm : J.X.mg "tuple" = none) (hm2 : J.X.mg "range" = none) (ha : Se J ow a 0 f) (hb : Se J ow b 0 f') (hg : Gl J.X "tuple" := by rfl) (hg2 : Gl J.X "range" := by rfl) (na : starEach [a, b] J.X.env = (false, eval a J.X.env) :: starEach [b] J.X.env := by rfl)
    (nb : starEach [b] J.X.env = (false, eval b J.X.env) :: starEach [] J.X.env := by rfl) (nc : (backTo q (starEach [b] J.X.env)).any (·.1) = false := by rfl)
    (nd : starEach [.Call (.Name "range" p2) [a, b] [] q] J.X.env = (false, eval (.Call (.Name "range" p2) [a, b] [] q) J.X.env) :: starEach [] J.X.env := by rfl) : Se J ow (.Call (.Name "tuple" p) [.Call (.Name "range" p2) [a, b] [] q] [] pos) 0 (eOp gRgT2 f f') := by
  obtain ⟨ta, pa, qa⟩ := ha
  obtain ⟨tb, pb, qb⟩ := hb
  exact ⟨_, pe_tupRg O.c hg hm (prg_2 hg2 hm2 pa pb na nb nc) nd, op2_run (a := a) (b := b) (r := rRgT2) qa qb o_rgT2⟩
end
end DL

end
section
set_option Elab.async false
set_option linter.all false
set_option maxRecDepth 100000
set_option maxHeartbeats 4000000
/-! ### zip of two lists or of two tuples, as something to go through -/
namespace DL
open PySem PySem.Spec L2
def zipD (a b : List D) : List D := (List.range (min a.length b.length)).map fun (i : Nat) => .tuple [a.getD i .none, b.getD i .none]
theorem zipD_len (a b : List D) : (zipD a b).length = min a.length b.length := by simp [zipD]
theorem zipD_get {a b : List D} {i : Nat} {d : D} (h : (zipD a b)[i]? = some d) : ∃ x y, a[i]? = some x ∧ b[i]? = some y ∧ d = .tuple [x, y] := by
  have hi := (List.getElem?_eq_some_iff.mp h).1
  rw [zipD_len] at hi
  unfold zipD at h
  rw [List.getElem?_map, List.getElem?_range hi] at h
  cases h
  have ha : i < a.length := by omega
  have hb : i < b.length := by omega
  exact ⟨_, _, List.getElem?_eq_getElem ha, List.getElem?_eq_getElem hb, by simp [List.getD, List.getElem?_eq_getElem ha, List.getElem?_eq_getElem hb]⟩
def zpD : List D → Option (List D)
  | [.list a, .list b] => some (zipD a b)
  | [.tuple a, .tuple b] => some (zipD a b)
  | _ => none
def iZip (f : Rho → M (List D)) : Rho → M (List D) := fun ρ => bnd (f ρ) fun ds => lift (zpD ds)
theorem itd_of_zip {F : Hp} {I : It} {xs ys : List V} {ds es : List D} (r : Rps F xs ds) (s : Rps F ys es) (hs : ∀ F' H', Same F F' → Same F' H' → ∀ i, ((xs.length ≤ i ∨ ys.length ≤ i) → I.stop i H') ∧ ∀ x y, xs[i]? = some x → ys[i]? = some y → I.go i H' ∧ ∀ v H2, I.yld i H' v H2 → ∃ T, v = .ref T ∧ H' T = none ∧ H2 = upd H' T (.tup [x, y])) : ItD F I (zipD ds es) := fun F' H' s1 s2 i => by
  obtain ⟨h1, h2⟩ := hs F' H' s1 s2 i
  refine ⟨fun hi => h1 (by rw [zipD_len] at hi; rw [r.length, s.length]; omega), fun d hd => ?_⟩
  obtain ⟨x, y, hx, hy, rfl⟩ := zipD_get hd
  obtain ⟨v, hv, rp⟩ := r.get' hx
  obtain ⟨u, hu, sp⟩ := s.get' hy
  obtain ⟨g, h3⟩ := h2 v u hv hu
  refine ⟨g, fun z H2 hz => ?_⟩
  obtain ⟨T, rfl, hT, rfl⟩ := h3 z H2 hz
  exact ⟨_, Nw.new s2 hT fun F2 q e => .tup e (.cons ((rp.mono s1).mono q) (.cons ((sp.mono s1).mono q) .nil))⟩
section
variable {J : Jd} {ow : Owns}
theorem si_zip {a b : Expr} {p pos tpos : Pos} {elts : List Expr} {kk : Nat} {f : Rho → M (List D)} (hm : J.X.mg "zip" = none) (h : Sa J ow [a, b] f) (hg : Gl J.X "zip" := by rfl) (hs : starEach [a, b] J.X.env = (false, eval a J.X.env) :: starEach [b] J.X.env := by rfl) (hpl : (backTo pos (starEach [b] J.X.env)).any (·.1) = false := by rfl) :
    Si J ow (.Tuple elts kk tpos) (.Call (.Name "zip" p) [a, b] [] pos) (iZip f) := by
  obtain ⟨t, pa, la, q⟩ := h
  refine ⟨_, RZ.pi_zipA hg hm pa hs hpl, fun c σ ρ P F H R hc r w => ?_⟩
  refine q c σ ρ P F H _ hc r ((Wp.len (β := Unit) w.bnd fun ds P' z => la ρ P ds P' z).mono (fun ds P1 ⟨l1, h1⟩ vs F1 H1 r1 s1 rp => ?_) fun _ _ h => h)
  obtain ⟨xs, e, k⟩ := h1.lift
  cases rp with
  | nil => cases l1
  | cons hv rr =>
    cases rr with
    | nil => cases l1
    | cons hu rr =>
      cases rr with
      | cons _ _ => cases l1
      | nil =>
        cases hv with
        | lst h rs =>
          cases hu with
          | lst h' rs' =>
            cases e
            refine ⟨_, _, _, _, rfl, .inl ⟨.inl (.inl (r1.gd.sub _ _ h)), .inl (.inl (r1.gd.sub _ _ h')), k _ F1 H1 r1 s1 (itd_of_zip rs rs' fun F' H' t1 t2 i => ?_)⟩⟩
            have e : SqL J.X.K H' _ _ := .inl (.inl (t2 _ _ (t1 _ _ h)))
            have e' : SqL J.X.K H' _ _ := .inl (.inl (t2 _ _ (t1 _ _ h')))
            refine ⟨fun hi => ⟨_, _, e, e', hi⟩, fun x y hx hy => ⟨⟨_, _, x, y, e, e', hx, hy⟩, fun v H2 hz => ?_⟩⟩
            obtain ⟨T, x2, y2, e1, e2, e3, e4, e5⟩ := hz
            have z := e4 _ e
            rw [hx] at z; cases z
            have z := e5 _ e'
            rw [hy] at z; cases z
            exact ⟨T, e1, e2, e3⟩
          | _ => cases e
        | tup h rs =>
          cases hu with
          | tup h' rs' =>
            cases e
            refine ⟨_, _, _, _, rfl, .inr ⟨.inl (.inl (r1.gd.sub _ _ h)), .inl (.inl (r1.gd.sub _ _ h')), k _ F1 H1 r1 s1 (itd_of_zip rs rs' fun F' H' t1 t2 i => ?_)⟩⟩
            have e : SqT J.X.K H' _ _ := .inl (.inl (t2 _ _ (t1 _ _ h)))
            have e' : SqT J.X.K H' _ _ := .inl (.inl (t2 _ _ (t1 _ _ h')))
            refine ⟨fun hi => ⟨_, _, e, e', hi⟩, fun x y hx hy => ⟨⟨_, _, x, y, e, e', hx, hy⟩, fun v H2 hz => ?_⟩⟩
            obtain ⟨T, x2, y2, e1, e2, e3, e4, e5⟩ := hz
            have z := e4 _ e
            rw [hx] at z; cases z
            have z := e5 _ e'
            rw [hy] at z; cases z
            exact ⟨T, e1, e2, e3⟩
          | _ => cases e
        | _ => cases e
/-! reversed(a list or a tuple) -/
def rvD (d : D) : Option (List D) := (seqD d).map List.reverse
def iRevS (f : Rho → M D) : Rho → M (List D) := fun ρ => bnd (f ρ) fun d => lift (rvD d)
theorem itd_rev {F : Hp} {I : It} {xs : List V} {ds : List D} (r : Rps F xs ds) (hs : ∀ F' H', Same F F' → Same F' H' → ∀ i, (xs.length ≤ i → I.stop i H') ∧ ∀ x, i < xs.length → xs[xs.length - 1 - i]? = some x → I.go i H' ∧ ∀ v H2, I.yld i H' v H2 → v = x ∧ H2 = H') : ItD F I ds.reverse := fun F' H' s1 s2 i => by
  obtain ⟨h1, h2⟩ := hs F' H' s1 s2 i
  refine ⟨fun hi => h1 (by rw [List.length_reverse] at hi; rw [r.length]; exact hi), fun d hd => ?_⟩
  have hi : i < ds.length := by
    have := (List.getElem?_eq_some_iff.mp hd).1
    rwa [List.length_reverse] at this
  rw [List.getElem?_reverse hi] at hd
  obtain ⟨v, hv, rp⟩ := r.get' hd
  obtain ⟨g, h3⟩ := h2 v (by rw [r.length]; exact hi) (by rw [r.length]; exact hv)
  refine ⟨g, fun u H2 hy => ?_⟩
  obtain ⟨rfl, rfl⟩ := h3 u H2 hy
  exact ⟨F', Nw.same s2 (rp.mono s1)⟩
theorem si_revS {tg a : Expr} {p pos : Pos} {f : Rho → M D} (hm : J.X.mg "reversed" = none) (h : Se J ow a 0 f) (hg : Gl J.X "reversed" := by rfl) (hs : starEach [a] J.X.env = (false, eval a J.X.env) :: starEach [] J.X.env := by rfl) :
    Si J ow tg (.Call (.Name "reversed" p) [a] [] pos) (iRevS f) := by
  obtain ⟨t, pa, q⟩ := h
  refine ⟨_, RT.pi_revA hg hm pa hs, fun c σ ρ P F H R hc r w => ?_⟩
  refine q c σ ρ P F H _ hc r (w.bnd.mono (fun d P1 h1 v F1 H1 A1 x => ?_) fun _ _ h => h)
  obtain ⟨ys, e, k⟩ := h1.lift
  have hr := x.rp
  unfold rvD at e
  cases hr with
  | lst h rs =>
    cases e
    refine ⟨_, _, rfl, .inl ⟨.inl (.inl (x.rl.gd.sub _ _ h)), k _ F1 H1 x.rl x.st (itd_rev rs fun F' H' t1 t2 i => ?_)⟩⟩
    have e : SqL J.X.K H' _ _ := .inl (.inl (t2 _ _ (t1 _ _ h)))
    refine ⟨fun hi => hi, fun y hi hy => ⟨⟨hi, _, y, e, hy⟩, fun v H2 hz => ?_⟩⟩
    obtain ⟨rfl, e4⟩ := hz
    have z := e4 _ e
    rw [hy] at z; cases z
    exact ⟨rfl, rfl⟩
  | tup h rs =>
    cases e
    refine ⟨_, _, rfl, .inr ⟨.inl (.inl (x.rl.gd.sub _ _ h)), k _ F1 H1 x.rl x.st (itd_rev rs fun F' H' t1 t2 i => ?_)⟩⟩
    have e : SqT J.X.K H' _ _ := .inl (.inl (t2 _ _ (t1 _ _ h)))
    refine ⟨fun hi => hi, fun y hi hy => ⟨⟨hi, _, y, e, hy⟩, fun v H2 hz => ?_⟩⟩
    obtain ⟨rfl, e4⟩ := hz
    have z := e4 _ e
    rw [hy] at z; cases z
    exact ⟨rfl, rfl⟩
  | _ => cases e
def gDivmod : List D → Option D | [.int i, .int j] => if 0 < j ∧ j < 1073741824 then some (.tuple [.int (i / j), .int (i % j)]) else none | _ => none
theorem o_divmod : OpL (fun xs H Q => ∃ i j, xs = [.int i, .int j] ∧ CDiv i j ∧ ∀ p, H p = none → Q (.ref p) (upd H p (.tup [.int (i / j), .int (i % j)]))) 0 gDivmod := fun F H xs as d Q s ha e k => by
  unfold gDivmod at e
  split at e
  · cases ha with
    | cons h r => cases h with
      | int i => cases r with
        | cons h r => cases h with
          | int j => cases r with
            | nil =>
              split at e
              · rename_i c
                cases e
                exact ⟨_, _, rfl, c, fun p hp => k _ _ _ _ (Nw.tup s hp (.cons (.int _) (.cons (.int _) .nil)))⟩
              · cases e
  · cases e
end
end DL

end
section
set_option Elab.async false
set_option linter.all false
set_option maxRecDepth 100000
set_option maxHeartbeats 4000000
/-! ### x < y, sorted(xs) of data -/
namespace DL
open PySem PySem.Spec L2
def notN : D → Bool | .none => false | _ => true
def fltD (d : D) : Bool := PyData.canLay0 d && decide (d.depth ≤ 60)
def rLtD (K : PySem.W.Frag) : R2 := fun x y H Q => ∃ d e, Dp K H x d ∧ Dp K H y e ∧ W.alike d e = true ∧ d ≠ .none ∧ min d.depth e.depth ≤ 60 ∧ Q (.bl (W.dataLt d e)) H
section
variable {X : Cx}
theorem op_ltD (hu : X.A.units + 64 < cLine) : OpR X (compareOp .Lt) (rLtD X.K) := by
  intro pins s σ H x y v u Q I rx ry h
  obtain ⟨d, e, hd, he, al, hn, hm, q⟩ := h
  obtain ⟨as, r1⟩ := Dp.reads I d x v hd rx
  obtain ⟨bs, r2⟩ := Dp.reads I e y u he ry
  exact W.lt_data r1 r2 al hn (by omega) ⟨.bl _, H, I, rfl, q⟩
end
def gLtD : D → D → Option D := fun a b => if W.alike a b = true ∧ notN a = true ∧ fltD a = true ∧ fltD b = true then some (.bool (W.dataLt a b)) else none
theorem o_ltD {K : PySem.W.Frag} : Op2 (rLtD K) 0 gLtD := fun F H x y a b d Q s ha hb e k => by
  unfold gLtD at e
  split at e
  · rename_i c
    cases e
    obtain ⟨c1, c2, c3, c4⟩ := c
    simp only [fltD, Bool.and_eq_true, decide_eq_true_eq] at c3 c4
    refine ⟨_, _, ha.dpL s c3.1, hb.dpL s c4.1, c1, fun z => ?_, by omega, k _ _ _ _ (Nw.same s (.bl _))⟩
    rw [z] at c2; cases c2
  · cases e

/-! sorted -/
def rSortedD (K : PySem.W.Frag) : List V → Hp → VK → Prop := fun vs H Q => ∃ (a : Addr) (xs : List V) (ds : List D), vs = [V.ref a] ∧ SqL K H a xs ∧ DpAll K H xs ds ∧
  ((xs.length ≤ 1 ∧ ∀ p, H p = none → Q (.ref p) (upd H p (.lst xs))) ∨
   (W.AllAlike ds ∧ W.Sortable ds ∧ (∀ d ∈ ds, d.depth ≤ 60) ∧ ∀ (zs : List (D × V)) (p : Addr), zs.Perm (ds.zip xs) → zs.map Prod.fst = ds.mergeSort (W.dataLe false id) → H p = none → Q (.ref p) (upd H p (.lst (zs.map Prod.snd)))))
theorem dpAll_len {K : PySem.W.Frag} {H : Hp} : ∀ {xs : List V} {ds : List D}, DpAll K H xs ds → xs.length = ds.length
  | _, _, .nil => rfl
  | _, _, .cons _ r => congrArg Nat.succ (dpAll_len r)
theorem each_of_vals {xs : List V} {us : List Value} (r : Vals xs us) : ∀ (ds : List D), ds.length = xs.length → W.EachIs (fun (u : Value) (p : D × V) => RelV p.2 u) us (ds.zip xs) := by
  induction r with
  | nil => intro ds h; cases ds with
    | nil => exact .nil
    | cons _ _ => cases h
  | cons a b ih => intro ds h; cases ds with
    | nil => cases h
    | cons d ds => exact .cons a (ih ds (by simpa using h))
theorem vals_of_each : ∀ {us : List Value} {zs : List (D × V)}, W.EachIs (fun (u : Value) (p : D × V) => RelV p.2 u) us zs → Vals (zs.map Prod.snd) us
  | _, _, .nil => .nil
  | _, _, .cons a b => .cons a (vals_of_each b)
def ltNo (v u : Value) : Bool := false
theorem swo_no : SrtO.Swo ltNo := by
  refine ⟨fun x y h => ?_, fun x y z h1 h2 => ?_⟩ <;> rfl
section
variable {X : Cx}
theorem cr_sortedD (hu : X.A.units + 64 < cLine) : CallR X (.builtin "sorted") (rSortedD X.K) := by
  intro pins s σ H vs us Q I r h
  obtain ⟨a, xs, ds, rfl, hs, hd, h⟩ := h
  obtain ⟨its, rv, hl, hz⟩ := I.list hs
  rw [Vals.ref1 r]
  rcases h with ⟨h1, q⟩ | ⟨hal, hk, hdep, q⟩
  · have hlen := rv.length
    refine SrtO.sorted_ord swo_no hl.isList (by rw [← rv.length]; exact hz) (fun h2 => by omega) fun out h1' h2' => ?_
    have e : out = its := by
      have pm := h2'.perm
      have : its.length ≤ 1 := by omega
      match its, this with
      | [], _ => exact List.perm_nil.mp pm
      | [x], _ => exact List.perm_singleton.mp pm
      | _ :: _ :: _, z => exact absurd z (by simp)
    subst e
    obtain ⟨ep, he'⟩ := PyProof.Rows.sortedAll_at s.heap out out.toArray
    exact ⟨.ref _, upd H (s.heap.objs.size + 1) (.lst xs), I.laid (t' := s.toks) (fun _ _ => PyProof.Rows.sortedAll_old) (Nat.le_succ _) ⟨hz, out, ep, rv, he'⟩, rfl, q _ (I.hok.fresh (Nat.le_succ _))⟩
  · obtain ⟨as, ra⟩ := Dp.readsAll I ds xs its hd rv
    have hl' : ds.length = xs.length := (dpAll_len hd).symm
    have e1 : (ds.zip xs).map Prod.fst = ds := List.map_fst_zip (Nat.le_of_eq hl')
    have e2 : ((ds.zip xs).mergeSort (W.dataLe false Prod.fst)).map Prod.fst = ds.mergeSort (W.dataLe false id) := by
      rw [W.sort_maps (r := W.dataLe false Prod.fst) (s := W.dataLe false id) Prod.fst fun p _ q _ => rfl, e1]
    refine W.sorted_data (β := D × V) (bs := ds.zip xs) (enc := Prod.fst) (R := fun u p => RelV p.2 u) hl.isList (each_of_vals rv ds hl') (W.readsAll_each (enc := Prod.fst) (e1 ▸ ra)) (by rw [e1]; exact hal) (by rw [e1]; exact hk) ?_ (fun b hb => ?_) fun out ho he => ?_
    · rw [List.length_zip, hl', Nat.min_self]; exact hz
    · have := hdep b.1 (by rw [← e1]; exact List.mem_map.mpr ⟨b, hb, rfl⟩)
      omega
    · obtain ⟨ep, he'⟩ := PyProof.Rows.sortedAll_at s.heap its out.toArray
      have rv' := vals_of_each he
      have pm : ((ds.zip xs).mergeSort (W.dataLe false Prod.fst)).Perm (ds.zip xs) := List.mergeSort_perm _ _
      refine ⟨.ref _, upd H (s.heap.objs.size + 1) (.lst (((ds.zip xs).mergeSort (W.dataLe false Prod.fst)).map Prod.snd)), I.laid (t' := s.toks) (fun _ _ => PyProof.Rows.sortedAll_old) (Nat.le_succ _) ⟨?_, out, ep, rv', he'⟩, rfl, q _ _ pm e2 (I.hok.fresh (Nat.le_succ _))⟩
      rw [List.length_map, pm.length_eq, List.length_zip, hl', Nat.min_self]; exact hz
end
def headT : D → Bool | .tuple (_ :: _) => true | _ => false
def noT : D → Bool | .none => false | .tuple _ => false | _ => true
def alikeB (ds : List D) : Bool := ds.all fun d => ds.all fun e => W.alike d e
def sortD (ds : List D) : List D := ds.mergeSort (W.dataLe false id)
def gSortedD : List D → Option D
  | [.list ds] => if ds.all fltD = true then
      if ds.length ≤ 1 then some (.list ds) else if alikeB ds = true ∧ (ds.all headT = true ∨ ds.all noT = true) then some (.list (sortD ds)) else none
    else none
  | _ => none
theorem dps_of {K : PySem.W.Frag} {F H : Hp} (s : Same F H) : ∀ {xs : List V} {ds : List D}, Rps F xs ds → ds.all fltD = true → DpAll K H xs ds
  | _, _, .nil, _ => .nil
  | _, _, .cons h r, c => by
    simp only [List.all_cons, Bool.and_eq_true, fltD] at c
    exact .cons (h.dpL s c.1.1) (dps_of s r (by simpa [fltD] using c.2))
theorem rps_perm {F : Hp} {xs : List V} {ds : List D} (h : Rps F xs ds) : ∀ {zs : List (D × V)}, (∀ p ∈ zs, p ∈ ds.zip xs) → Rps F (zs.map Prod.snd) (zs.map Prod.fst) := by
  have m : ∀ p ∈ ds.zip xs, Rp F p.2 p.1 := by
    induction xs generalizing ds with
    | nil => cases h; intro p hp; cases hp
    | cons v vs ih => cases h with
      | cons a r =>
        intro p hp
        rcases List.mem_cons.mp hp with e | hp
        · subst e; exact a
        · exact ih r p hp
  intro zs
  induction zs with
  | nil => intro _; exact .nil
  | cons z zs ih => intro hz; exact .cons (m _ (hz _ List.mem_cons_self)) (ih fun p hp => hz p (List.mem_cons_of_mem _ hp))
theorem o_sortedD {K : PySem.W.Frag} : OpL (rSortedD K) 1 gSortedD := fun F H xs as d Q s ha e k => by
  cases ha with
  | nil => cases e
  | cons h r => cases r with
    | cons _ _ => cases h <;> cases e
    | nil => cases h with
      | lst h r =>
        simp only [gSortedD] at e
        split at e
        · rename_i c
          refine ⟨_, _, _, rfl, .inl (.inl (s _ _ h)), dps_of s r c, ?_⟩
          split at e
          · rename_i c1
            cases e
            exact .inl ⟨by rw [r.length]; exact c1, fun p hp => k _ _ _ _ (Nw.own s hp r)⟩
          · split at e
            · rename_i c2
              cases e
              refine .inr ⟨?_, ?_, ?_, fun zs p pm ez hp => ?_⟩
              · intro d hd d' hd'
                have := c2.1
                simp only [alikeB, List.all_eq_true] at this
                exact this d hd d' hd'
              · rcases c2.2 with z | z
                · refine .inl fun d hd => ?_
                  have := List.all_eq_true.mp z d hd
                  unfold headT at this
                  split at this
                  · exact ⟨_, _, rfl⟩
                  · cases this
                · refine .inr fun d hd => ?_
                  have := List.all_eq_true.mp z d hd
                  constructor
                  · rintro rfl; cases this
                  · rintro ys rfl; cases this
              · intro d hd
                have := List.all_eq_true.mp c d hd
                simp only [fltD, Bool.and_eq_true, decide_eq_true_eq] at this
                exact this.2
              · have q := rps_perm r (zs := zs) fun p hp => pm.mem_iff.mp hp
                rw [ez] at q
                exact k _ _ _ _ (Nw.own s hp q)
            · cases e
        · cases e
      | _ => cases e
end DL

end
section
set_option Elab.async false
set_option linter.all false
set_option maxRecDepth 100000
set_option maxHeartbeats 4000000
/-! ### list(reversed(range(n))) -/
namespace DL
open PySem PySem.Spec L2
open PyProof.Rows (Call_)
open AutoSeq1 (wpAny_loadPart')
section
variable {prog : Program} {w : World} {A : Around} {E : Value → Shared → Prop} {s : Shared}
theorem call_rit_hint {it : Addr} {a n c : Int} {Q : Value → Shared → Prop} (hit : IsRangeIter s.heap it a n c) (h : ∀ u, Q (.int n u) { s with toks := s.toks + 1 }) :
    wpAny (model prog w) A (call (.builtin "range_iterator.__length_hint__") [.ref it]) Q E s := by
  have hT : s.TypeIs (.ref it) "range_iterator" := ⟨_, hit, rfl⟩
  refine wpAny_call_entry F.slot_range_iterator_length_hint hT F.entry_range_iterator_length_hint ?_ (F.args_range_iterator_length_hint_1 _)
  obtain ⟨hp, g, d, tk, os⟩ := s
  wp_walk using wpAny_loadPart' hit
  exact ⟨_, rfl, h _⟩
theorem wpAny_extend_riter {R : Result → Shared → Prop} {it : Addr} {a c : Int} {n : Nat} (hh : A.handled = none) (hit : IsRangeIter s.heap it (a + ((0 : Nat) : Int) * c) ((n : Int) - ((0 : Nat) : Int)) c) (hlen : n ≤ 2 ^ 24) (S : Addr) (res : Value) (c₀ : Nat) (hS : s.heap.get? S = some { cls := .type "list", data := .seq #[] c₀ })
    (hR : ∀ h' tk acc' c', (∀ b o, b ≠ S → b ≠ it → s.heap.get? b = some o → h'.get? b = some o) → h'.get? S = some { cls := .type "list", dict := none, data := .seq acc' c', slots := #[] } →
      ItemsOf (fun i v => ∃ t, v = .int (a + i * c) t) acc' n → R (.ok (.ret res)) { s with heap := h', toks := tk }) :
    wpAny (model prog w) A.in1 (Builtin.List.listExtendWith (.ref S) (.ref it) res)
      (fun fin s' => match fin with | .done f => R (.ok f) s' | .again c' => c'.quiet = true ∧ codeAny (model prog w) A c' R s') (fun e s' => R (.error e) s') s := by
  have hSr : S ≠ it := fun e => by rw [e] at hS; have hit' := hit; unfold IsRangeIter at hit'; rw [hit'] at hS; simp at hS
  have hSf : S ∉ [it] := fun hm => hSr (List.mem_singleton.mp hm)
  have W := (Walks.range (prog := prog) (w := w) (A := A.in1) hh it a c n).toS
  have hT : s.TypeIs (.ref it) "range_iterator" := ⟨_, hit, rfl⟩
  unfold Builtin.List.listExtendWith
  refine wpAny_bind (wpAny_typeOf hT ?_)
  have h1 : Builtin.List.listSameRef (.ref S) (.ref it) = false := by simp [Builtin.List.listSameRef, hSr]
  rw [if_neg (by rw [h1]; decide)]
  refine wpAny_bind (W.self 0 _ _ _ hit ?_)
  refine wpAny_bind (wpAny_holding ?_)
  unfold Builtin.List.listLengthHint
  refine wpAny_bind (wpAny_specialOf hT F.nolen_ra ?_)
  show wpAny _ A.in1 (specialOf (Value.ref it) (Str.ofString "__length_hint__") >>= _) _ _ _
  refine wpAny_bind (wpAny_specialOf hT F.hint_ra ?_)
  (generalize hid : ("range_iterator.__length_hint__" : String) = id0; (fail_if_success (clear hid id0)); wp_delta; rw [show splitId id0 = some ("range_iterator", "__length_hint__") from by subst hid; decide +kernel]; subst hid)
  refine wpAny_bind (wpAny_isInstance (b := true) hT (by rw [isSubtype_type]; kernel_rfl) ?_)
  show wpAny _ A.in1 (call (.builtin "range_iterator.__length_hint__") [.ref it] >>= _) _ _ _
  refine wpAny_bind (call_rit_hint hit fun u => ?_)
  refine wpAny_bind (m := asInt? (.int _ u)) (wpAny_pure ?_)
  have hk : Builtin.List.listTooLong (Int.toNat ((n : Int) - ((0 : Nat) : Int))) = false := by simp [Builtin.List.listTooLong, sizeLine]; omega
  dsimp only
  rw [if_neg (by rw [hk]; decide)]
  refine wpAny_pure ?_
  rw [if_neg (by decide)]
  refine wpAny_pure ⟨plainId_quiet F.plain_extend_loop _, codeAny_extend_loopS W (by rw [sizeLine_eq]; omega) S hSf res n 0 _ #[] c₀ rfl (Nat.zero_le _) hit hS (ItemsOf.nil _) fun s' acc' c' hm hS' hacc => ?_⟩
  rw [Moved.eq_with hm]
  refine hR s'.heap s'.toks acc' c' (fun b o hb hb2 e => hm.heap b o (fun hmem => ?_) e) hS' hacc
  rcases List.mem_cons.mp hmem with e' | hmem
  · exact hb e'
  · exact hb2 (List.mem_singleton.mp hmem)
theorem wpAny_list_init_riter {R : Result → Shared → Prop} {it : Addr} {a c : Int} {n : Nat} (hh : A.handled = none) (hit : IsRangeIter s.heap it (a + ((0 : Nat) : Int) * c) ((n : Int) - ((0 : Nat) : Int)) c) (hlen : n ≤ 2 ^ 24) (S : Addr) (hS : s.heap.get? S = some { cls := .type "list", data := .seq #[] })
    (hR : ∀ h' tk acc' c', (∀ b o, b ≠ S → b ≠ it → s.heap.get? b = some o → h'.get? b = some o) → h'.get? S = some { cls := .type "list", dict := none, data := .seq acc' c', slots := #[] } →
      ItemsOf (fun i v => ∃ t, v = .int (a + i * c) t) acc' n → R (.ok (.ret .none)) { s with heap := h', toks := tk }) :
    wpAny (model prog w) A.in1 (Builtin.«list.__init__» ⟨[.ref S, .ref it], []⟩)
      (fun fin s' => match fin with | .done f => R (.ok f) s' | .again c' => c'.quiet = true ∧ codeAny (model prog w) A c' R s') (fun e s' => R (.error e) s') s := by
  have hSr : S ≠ it := fun e => by rw [e] at hS; have hit' := hit; unfold IsRangeIter at hit'; rw [hit'] at hS; simp at hS
  show wpAny _ _ (do let old ← Builtin.List.listItems (.ref S); Builtin.List.listUpdate (.ref S) (fun _ => #[]); letGo old.toList.reverse; Builtin.List.listExtendWith (.ref S) (.ref it) .none) _ _ s
  refine wpAny_bind ?_
  unfold Builtin.List.listItems
  refine wpAny_bind (wpAny_seqItems hS rfl (wpAny_pure ?_))
  show wpAny _ _ (updateSeq S (fun _ => #[]) >>= fun _ => letGo (#[] : Array Value).toList.reverse >>= fun _ => Builtin.List.listExtendWith (.ref S) (.ref it) .none) _ _ s
  refine wpAny_bind (wpAny_updateSeq hS rfl ?_)
  have hS₂ := Heap.get?_update_self (Obj.mapSeq (fun _ => (#[] : Array Value))) hS rfl
  have oth : ∀ b o, b ≠ S → s.heap.get? b = some o → (s.heap.update S (Obj.mapSeq (fun _ => (#[] : Array Value)))).get? b = some o :=
    fun b o hb e => (Heap.get?_update_other _ _ (Ne.symm hb)).trans e
  refine wpAny_bind (wpAny_letGo ?_)
  refine wpAny_extend_riter hh (oth it _ (Ne.symm hSr) hit) hlen S .none _ hS₂ fun h' tk acc' c' hk hS' hacc => ?_
  exact hR h' tk acc' c' (fun b o hb hb2 e => hk b o hb hb2 (oth b o hb e)) hS' hacc
theorem call_list_riter {Q : Value → Shared → Prop} {it : Addr} {a c : Int} {n : Nat} (hh : A.handled = none) (hit : IsRangeIter s.heap it (a + ((0 : Nat) : Int) * c) ((n : Int) - ((0 : Nat) : Int)) c) (hlen : n ≤ 2 ^ 24)
    (hQ : ∀ h' tk acc' c', (∀ b o, b ≠ it → s.heap.get? b = some o → h'.get? b = some o) →
      h'.get? s.heap.objs.size = some { cls := .type "list", dict := none, data := .seq acc' c', slots := #[] } → ItemsOf (fun i v => ∃ t, v = .int (a + i * c) t) acc' n → Q (.ref s.heap.objs.size) { s with heap := h', toks := tk }) :
    wpAny (model prog w) A (call (.type "list") [.ref it]) Q E s := by
  refine callType_codes (Q₁ := fun obj s₁ => obj = .ref s.heap.objs.size ∧ s₁ = { s with heap := s.heap.push { cls := .type "list", data := .seq #[] } }) F.called_list (F.typeCall_list_1 _) F.entry_list_init
    (code_list_new _ ⟨rfl, rfl⟩) fun obj s₁ h₁ => ?_
  obtain ⟨rfl, rfl⟩ := h₁
  have hS : (s.heap.push { cls := .type "list", data := .seq #[] }).get? s.heap.objs.size = some { cls := .type "list", data := .seq #[] } := Heap.get?_push_size _ rfl
  refine ⟨⟨_, hS, rfl⟩, F.args_list_init_2 _ _, wpAny_list_init_riter (A := A.in1) hh (Heap.get?_push_of_some _ hit) hlen _ hS fun h' tk acc' c' hk hS' hacc => ?_⟩
  exact ⟨rfl, hQ h' tk acc' c' (fun b o hb e => hk b o (Nat.ne_of_lt (Heap.lt_size e)) hb (Heap.get?_push_of_some _ e)) hS' hacc⟩
end
/-- the ints b - 1 .. a -/
def rgRV (a b : Int) : List V := (List.range (b - a).toNat).map fun i => V.int (a + ((b - a).toNat : Nat) - 1 - (i : Nat))
def tLstRev (te : L2.St → Hp → (Int → Int → Hp → Prop) → Prop) : TE := fun σ H Q => te σ H fun a b H1 => RgOk a b ∧ ∀ q, H1 q = none → Q (.ref q) (upd H1 q (.lst (rgRV a b)))
theorem vals_rgR {a b : Int} {acc : Array Value} (h : ItemsOf (fun i v => ∃ t, v = .int (a + (((b - a).toNat : Nat) : Int) - 1 + i * (-1)) t) acc (b - a).toNat) : Vals (rgRV a b) acc.toList := by
  have e : acc.toList.length = (b - a).toNat := by rw [Array.length_toList]; exact h.1
  unfold rgRV
  rw [← e]
  refine vals_of_get acc.toList _ fun j u hj => ?_
  obtain ⟨t, rfl⟩ := h.2 j u (by rw [← hj, Array.getElem?_toList])
  exact ⟨t, by rw [e]; congr 1; omega⟩
section
variable {X : Cx} {e : Expr} {te : L2.St → Hp → (Int → Int → Hp → Prop) → Prop}
theorem pe_listRevRg {p p2 pos pos2 : Pos} (hc : X.calm = true) (hg : Gl X "list") (hm : X.mg "list" = none) (hg2 : Gl X "reversed") (hm2 : X.mg "reversed" = none) (he : PRg X e te)
    (na : starEach [e] X.env = (false, eval e X.env) :: starEach [] X.env := by rfl) (nb : starEach [.Call (.Name "reversed" p2) [e] [] pos2] X.env = (false, eval (.Call (.Name "reversed" p2) [e] [] pos2) X.env) :: starEach [] X.env := by rfl) :
    PE X (.Call (.Name "list" p) [.Call (.Name "reversed" p2) [e] [] pos2] [] pos) (tLstRev te) := by
  refine ⟨fun pins s σ H Q I h => ?_⟩
  refine Call_ (ld_blt I hg hm PyProof.Rows.boot_list (PyProof.Rows.callWith_type1 (PyProof.Rows.args_cons ?_ nb) nb))
  refine Call_ (ld_blt I hg2 hm2 PyProof.Rows.boot_reversed (PyProof.Rows.callWith_type1 (PyProof.Rows.args_cons (thn (he pins s σ H _ I h) fun u s1 hx => PyProof.Rows.args_nil ?_) na) na rfl))
  obtain ⟨r, a, b, t, w1, v, H1, eu, hr, I1, ok, q⟩ := hx
  obtain ⟨b1, b2, b3, b4, b5⟩ := ok
  subst eu
  have hn : Builtin.Range.rangeSize a b 1 = (((b - a).toNat : Nat) : Int) := by first | exact PyProof.Rows.rangeSize_nat a b | exact PySem.Rows.rangeSize_nat a b
  refine call_reversed_range hr (smallRev_one b1 b2 b3 b4) (PyProof.Rows.args_nil ?_)
  have e1 : a + (((b - a).toNat : Nat) : Int) - 1 + ((0 : Nat) : Int) * (-1) = a + (Builtin.Range.rangeSize a b 1 - 1) * 1 := by rw [hn]; omega
  have e2 : (((b - a).toNat : Nat) : Int) - ((0 : Nat) : Int) = Builtin.Range.rangeSize a b 1 := by rw [hn]; omega
  have hit : IsRangeIter (s1.heap.push (rngRevObj a b 1)) s1.heap.objs.size (a + (((b - a).toNat : Nat) : Int) - 1 + ((0 : Nat) : Int) * (-1)) ((((b - a).toNat : Nat) : Int) - ((0 : Nat) : Int)) (-1) := by
    rw [e1, e2]
    exact Heap.get?_push_size _ rfl
  have I2 : Inv X pins σ H1 { s1 with heap := s1.heap.push (rngRevObj a b 1) } := I1.kept (t' := s1.toks) fun b o e => Heap.get?_push_of_some _ e
  refine call_list_riter (I1.ok.hd hc) hit b5 fun h' tk acc c' hk e' hi => ?_
  have hsz : s1.heap.objs.size ≤ (s1.heap.push (rngRevObj a b 1)).objs.size := by simp [Heap.push]
  refine ⟨.ref (s1.heap.push (rngRevObj a b 1)).objs.size, upd H1 (s1.heap.push (rngRevObj a b 1)).objs.size (.lst (rgRV a b)), I1.laid (t' := tk) (fun b o e => hk b o (Nat.ne_of_lt (Heap.lt_size e)) (Heap.get?_push_of_some _ e)) hsz (show ObjOk X.prog X.w _ _ _ (.lst (rgRV a b)) from ⟨?_, acc.toList, c', vals_rgR hi, ?_⟩), rfl, q _ (I1.hok.fresh hsz)⟩
  · unfold rgRV; rw [List.length_map, List.length_range, sizeLine_eq]; omega
  · rw [Array.toArray_toList]; exact e'
end
def gRevL : D → Option D := fun a => match a with | .int i => if okR i = true then some (.list (intsD 0 i.toNat).reverse) else none | _ => none
theorem rgRV_eq (n : Int) : Rps F (rgRV 0 n) (intsD 0 n.toNat).reverse := by
  have : rgRV 0 n = (rgV 0 n).reverse := by
    unfold rgRV rgV
    simp only [Int.sub_zero]
    apply List.ext_getElem
    · simp
    · intro i h1 h2
      simp at h1 h2 ⊢
      omega
  rw [this]
  have := (rps_rg2 (F := F) 0 n).reverse
  simpa using this
section
variable {J : Jd} {ow : Owns}
theorem se_listRev {a : Expr} {f : Rho → M D} {p p2 p3 q q2 pos : Pos} (O : Ok J) (hm : J.X.mg "list" = none) (hm2 : J.X.mg "reversed" = none) (hm3 : J.X.mg "range" = none) (h : Se J ow a 0 f) (hg : Gl J.X "list" := by rfl) (hg2 : Gl J.X "reversed" := by rfl) (hg3 : Gl J.X "range" := by rfl)
    (na : starEach [a] J.X.env = (false, eval a J.X.env) :: starEach [] J.X.env := by rfl)
    (nb : starEach [.Call (.Name "range" p3) [a] [] q] J.X.env = (false, eval (.Call (.Name "range" p3) [a] [] q) J.X.env) :: starEach [] J.X.env := by rfl)
    (nc : starEach [.Call (.Name "reversed" p2) [.Call (.Name "range" p3) [a] [] q] [] q2] J.X.env = (false, eval (.Call (.Name "reversed" p2) [.Call (.Name "range" p3) [a] [] q] [] q2) J.X.env) :: starEach [] J.X.env := by rfl) :
    Se J ow (.Call (.Name "list" p) [.Call (.Name "reversed" p2) [.Call (.Name "range" p3) [a] [] q] [] q2] [] pos) 1 (eUn gRevL f) := by
  obtain ⟨t, pa, qa⟩ := h
  refine ⟨_, pe_listRevRg O.c hg hm hg2 hm2 (prg_1 hg3 hm3 pa na) nb nc, op1_run (ta := t) qa fun F H x a d Q s ha e k => ?_⟩
  cases ha <;> simp only [gRevL] at e <;> try (cases e)
  split at e
  · rename_i c; cases e; exact ⟨_, rfl, rgOk_of c, fun q hq => k _ _ _ _ (Nw.own s hq (rgRV_eq _))⟩
  · cases e
end
end DL

end
section
set_option Elab.async false
set_option linter.all false
set_option maxRecDepth 100000
set_option maxHeartbeats 4000000
/-! ### len(set(xs)), xs a list of unlike tuples of ints -/
namespace DL
open PySem PySem.Spec L2
open PyProof.Rows (Call_)
def tLenSetT (K : PySem.W.Frag) (ta : TE) : TE := fun σ H Q => ta σ H fun x H1 => ∃ (l : Addr) (ks : List (Addr × List Int)), x = V.ref l ∧ SqL K H1 l (ks.map fun p => V.ref p.1) ∧ (∀ p ∈ ks, SqT K H1 p.1 (p.2.map V.int)) ∧ ks.length < 64 ∧ (ks.map (·.2)).Nodup ∧ Q (.int ks.length) H1
section
variable {X : Cx}
theorem pe_lenSetT {a : Expr} {ta : TE} {p p2 q pos : Pos} (hc : X.calm = true) (hu : X.A.units + 64 < cLine) (hg : Gl X "len") (hm : X.mg "len" = none) (hg2 : Gl X "set") (hm2 : X.mg "set" = none) (ha : PE X a ta)
    (na : starEach [a] X.env = (false, eval a X.env) :: starEach [] X.env := by rfl) : PE X (.Call (.Name "len" p) [.Call (.Name "set" p2) [a] [] q] [] pos) (tLenSetT X.K ta) := by
  refine ⟨fun pins s σ H Q I h => ?_⟩
  refine Call_ (ld_blt I hg hm PySem.boot_len ?_)
  refine PyProof.Rows.callWith_builtin1 (PyProof.Rows.args_cons ?_ rfl) rfl rfl
  refine Call_ (ld_blt I hg2 hm2 PyProof.Rows.boot_set ?_)
  refine PyProof.Rows.callWith_type1 (PyProof.Rows.args_cons (thn (ha.run pins s σ H _ I h) fun v s1 ⟨x, H1, I1, r1, q1⟩ => PyProof.Rows.args_nil ?_) na) na rfl
  obtain ⟨l, ks, rfl, hq, hk, h64, hnd, q1⟩ := q1
  cases r1
  obtain ⟨its, r, pl, hz⟩ := I1.list hq
  refine call_set_tups (P := X.prog) (w := X.w) ks (I1.ok.hd hc) pl.isList (by simpa using refs_of_vals r) (fun p hp => I1.isT (hk p hp)) h64 (by omega) fun h' tk L es ep t R g k => ?_
  refine PyProof.Rows.args_nil ?_
  have e : L.length = ks.length := by
    refine Nat.le_antisymm g.len ?_
    have n1 : (ks.map (·.2)) ⊆ (L.map (·.2)) := by
      intro x hx
      obtain ⟨p, hp, rfl⟩ := List.mem_map.mp hx
      exact g.all p (by rw [List.take_length]; exact hp)
    have := hnd.length_le_of_subset n1
    simpa using this
  obtain ⟨o, ho, hex, hd⟩ := R.ob
  have hes : es.size = L.length := by
    have z := congrArg List.length R.rows
    rw [Array.length_toList] at z
    rw [z]; simp [rowsOf]
  have hf : t.fits es.size = true := by
    have h1 : t.place.size = L.length := by rw [R.tab.sz, List.length_map]
    have h2 := R.room
    unfold SetTable.fits SetTable.fill
    rw [hes, h1, R.tab.dm]
    simp
    omega
  have I2 : Inv X pins σ H1 { s1 with heap := h', toks := tk } := I1.kept fun b o e => k b o e
  refine call_len_set ho hex hd hf (by rw [hes, e] <;> omega) ⟨.int ks.length, H1, I2.tok _, ⟨_, by rw [hes, e]⟩, q1⟩
end
/-- the ints of a list of tuples of ints -/
def intsT : List D → Option (List (List Int))
  | [] => some []
  | .tuple d :: r => match intsOf d, intsT r with
    | some x, some y => some (x :: y)
    | _, _ => none
  | _ :: _ => none
def gLenSetT : D → Option D := fun d => match d with
  | .list ds => match intsT ds with
    | some ks => if ks.length < 64 ∧ ks.Nodup then some (.int ks.length) else none
    | none => none
  | _ => none
theorem tups_rps {F : Hp} : ∀ {xs : List V} {ds : List D} {ks : List (List Int)}, Rps F xs ds → intsT ds = some ks → ∃ ps : List (Addr × List Int), xs = ps.map (fun p => V.ref p.1) ∧ ps.map (·.2) = ks ∧ ∀ p ∈ ps, F p.1 = some (.tup (p.2.map V.int))
  | _, _, ks, .nil, e => by cases e; exact ⟨[], rfl, rfl, fun _ h => nomatch h⟩
  | _, _, ks, .cons (d := d) h r, e => by
    cases h with
    | tup h1 r1 =>
      simp only [intsT] at e
      split at e
      · rename_i x y e1 e2
        cases e
        obtain ⟨ps, q1, q2, q3⟩ := tups_rps r e2
        have z := ints_rps r1 e1
        subst z
        refine ⟨(_, x) :: ps, by rw [q1]; rfl, by rw [← q2]; rfl, fun p hp => ?_⟩
        rcases List.mem_cons.mp hp with z | hp
        · subst z; exact h1
        · exact q3 p hp
      · cases e
    | _ => cases e
section
variable {J : Jd} {ow : Owns}
theorem se_lenSetT {a : Expr} {f : Rho → M D} {p p2 q pos : Pos} (O : Ok J) (hm : J.X.mg "len" = none) (hm2 : J.X.mg "set" = none) (h : Se J ow a 0 f) (hg : Gl J.X "len" := by rfl) (hg2 : Gl J.X "set" := by rfl)
    (na : starEach [a] J.X.env = (false, eval a J.X.env) :: starEach [] J.X.env := by rfl) : Se J ow (.Call (.Name "len" p) [.Call (.Name "set" p2) [a] [] q] [] pos) 0 (eUn gLenSetT f) := by
  obtain ⟨t, pa, qa⟩ := h
  refine ⟨_, pe_lenSetT O.c (by have := O.u; omega) hg hm hg2 hm2 pa na, op1_run (ta := t) qa fun F H x a d Q s ha e k => ?_⟩
  cases ha <;> simp only [gLenSetT] at e <;> try (cases e)
  rename_i h1 r1
  split at e
  · rename_i ks e1
    split at e
    · rename_i c
      cases e
      obtain ⟨ps, q1, q2, q3⟩ := tups_rps r1 e1
      refine ⟨_, ps, rfl, .inl (.inl (by rw [← q1]; exact s _ _ h1)), fun p hp => .inl (.inl (s _ _ (q3 p hp))), ?_, ?_, ?_⟩
      · rw [← q2] at c; simpa using c.1
      · rw [q2]; exact c.2
      · have e : ps.length = ks.length := by rw [← q2, List.length_map]
        rw [e]
        exact k _ _ _ _ (Nw.same s (.int _))
    · cases e
  · cases e
end
end DL

end
section
set_option Elab.async false
set_option linter.all false
set_option maxRecDepth 100000
set_option maxHeartbeats 4000000
/-! ### range(i, j, -1) -/
namespace DL
open PySem PySem.Spec L2
def downD (hi : Int) (n : Nat) : List D := (List.range n).map fun (i : Nat) => .int (hi - (i : Int))
theorem downD_get (hi : Int) (n i : Nat) : (downD hi n)[i]? = if i < n then some (.int (hi - (i : Int))) else none := by
  unfold downD
  rw [List.getElem?_map]
  by_cases h : i < n
  · rw [List.getElem?_range h, if_pos h]; rfl
  · rw [List.getElem?_eq_none (by simpa using h), if_neg h]; rfl
theorem downD_length (hi : Int) (n : Nat) : (downD hi n).length = n := by simp [downD]
def rngD3 : List D → Option (List D)
  | [.int i, .int j, .int c] => if okR i = true ∧ okR j = true ∧ c = -1 then some (downD i (i - j).toNat) else none
  | _ => none
def iRngD3 (f : Rho → M (List D)) : Rho → M (List D) := fun ρ => bnd (f ρ) fun ds => lift (rngD3 ds)
section
variable {J : Jd} {ow : Owns}
theorem si_range3 {tg a b c' : Expr} {p pos : Pos} {f : Rho → M (List D)} (hm : J.X.mg "range" = none) (h : Sa J ow [a, b, c'] f) (hg : Gl J.X "range" := by rfl)
    (hs : starEach [a, b, c'] J.X.env = (false, eval a J.X.env) :: starEach [b, c'] J.X.env := by rfl) (hpl : (backTo pos (starEach [b, c'] J.X.env)).any (·.1) = false := by rfl) :
    Si J ow tg (.Call (.Name "range" p) [a, b, c'] [] pos) (iRngD3 f) := by
  obtain ⟨t, pa, la, q⟩ := h
  refine ⟨_, pi_range3 hg hm pa hs hpl, fun c σ ρ P F H R hc r w => ?_⟩
  refine q c σ ρ P F H _ hc r ((Wp.len (β := Unit) w.bnd fun ds P' z => la ρ P ds P' z).mono (fun ds P1 ⟨l1, h1⟩ vs F1 H1 r1 s1 rp => ?_) fun _ _ h => h)
  obtain ⟨xs, e, k⟩ := h1.lift
  unfold rngD3 at e
  split at e
  · cases rp with
    | cons hv rr =>
      cases rr with
      | cons hu rr =>
        cases rr with
        | cons hw rr =>
          cases rr
          cases hv
          cases hu
          cases hw
          split at e
          · rename_i hj
            cases e
            have b1 := okR.b hj.1
            have b2 := okR.b hj.2.1
            have e3 := hj.2.2
            subst e3
            refine ⟨_, _, -1, _, rfl, RgC.neg b1.1 b1.2 b2.1 b2.2, k _ F1 H1 r1 s1 fun F' H' s1 s2 i => ?_⟩
            refine ⟨fun hi => by rw [downD_length] at hi; exact hi, fun d hd => ?_⟩
            rw [downD_get] at hd
            split at hd
            · rename_i hlt
              cases hd
              refine ⟨hlt, fun v H2 hy => ?_⟩
              obtain ⟨rfl, rfl⟩ := hy
              refine ⟨F', Nw.same s2 ?_⟩
              rw [show ∀ x : Int, ∀ i : Nat, x + (i : Int) * (-1) = x - (i : Int) from fun x i => by omega]
              exact .int _
            · cases hd
          · cases e
  · cases e
end
end DL

end
section
set_option Elab.async false
set_option linter.all false
set_option maxRecDepth 100000
set_option maxHeartbeats 4000000
/-! ### t += u, tuples -/
namespace DL
open PySem PySem.Spec L2
theorem noI_tuple_add : typeLookup (.type "tuple") (dunderI "add") = pure none := by rw [typeLookup_type, builtinLookup_eq_fast]; kernel_rfl
section
variable {prog : Program} {w : World} {A : Around} {E : Value → Shared → Prop} {s : Shared}
theorem icat_tup {t b : Addr} {vs ws : List Value} {Q : Value → Shared → Prop} (ht : PyProof.Rows.IsTup s.heap t vs.toArray) (hb : PyProof.Rows.IsTup s.heap b ws.toArray)
    (h0 : vs = [] → Q (.ref b) s) (h1 : vs ≠ [] → ws = [] → Q (.ref t) s)
    (h2 : vs ≠ [] → ws ≠ [] → Q (.ref s.heap.objs.size) { s with heap := s.heap.push { cls := .type "tuple", data := .seq (vs ++ ws).toArray } })
    (hsz : vs.length + ws.length ≤ sizeLine) : wpAny (model prog w) A (inplaceOp .Add (.ref t) (.ref b)) Q E s := by
  obtain ⟨⟨cls, dd, data, sl⟩, ho, hc, n, hd⟩ := id ht
  obtain ⟨⟨cls2, dd2, data2, sl2⟩, ho2, hc2, n2, hd2⟩ := id hb
  simp only at hc hd hc2 hd2
  subst hc hd hc2 hd2
  have e : vs.toArray ++ ws.toArray = (vs ++ ws).toArray := by simp
  have ha : s.TypeIs (.ref t) "tuple" := ⟨_, ho, rfl⟩
  refine wpAny_inplaceOp_concat ha ⟨_, ho2, rfl⟩ noI_tuple_add noFill_tuple_add seq_tuple_add ?_
  by_cases hv : vs = []
  · exact PySem.call_meets PySem.F.slot_tuple_add ha PySem.F.entry_tuple_add (PySem.F.args_tuple_add_2 _ _) (PyProof.Rows.tuple_addW0 t b vs.toArray ws.toArray n n2 dd dd2 sl sl2 (by simp [hv])) ⟨ho, ho2, h0 hv⟩
  · by_cases hw : ws = []
    · exact PySem.call_meets PySem.F.slot_tuple_add ha PySem.F.entry_tuple_add (PySem.F.args_tuple_add_2 _ _) (PyProof.Rows.tuple_addW1 t b vs.toArray ws.toArray n n2 dd dd2 sl sl2 (by simpa using hv) (by simp [hw])) ⟨ho, ho2, h1 hv hw⟩
    · refine PySem.call_meets PySem.F.slot_tuple_add ha PySem.F.entry_tuple_add (PySem.F.args_tuple_add_2 _ _) (PyProof.Rows.tuple_addW2 t b vs.toArray ws.toArray n n2 dd dd2 sl sl2 (by simpa using hv) (by simpa using hw) (by rw [List.size_toArray, List.size_toArray]; exact hsz)) ⟨ho, ho2, ?_⟩
      rw [e]
      exact h2 hv hw
end
section
variable {X : Cx}
theorem ip_catA : PIp X .Add (rCatA X.K) := by
  intro pins s σ H x y v u Q I rx ry h
  obtain ⟨a, b, xs, ys, rfl, rfl, ha, hb, hz, q0, q1, q2⟩ := h
  cases rx
  cases ry
  obtain ⟨its, r1, p1, _⟩ := I.tuple ha
  obtain ⟨its2, r2, p2, _⟩ := I.tuple hb
  refine icat_tup p1 p2 (fun z => ⟨.ref b, H, I, rfl, q0 (r1.nil_iff.mp z)⟩) (fun z1 z2 => ⟨.ref a, H, I, rfl, q1 (fun w => z1 (r1.nil_iff.mpr w)) (r2.nil_iff.mp z2)⟩) (fun z1 z2 => ?_) (by rw [← r1.length, ← r2.length]; exact hz)
  refine ⟨.ref s.heap.objs.size, _, I.laid (t' := s.toks) (o := .tup (xs ++ ys)) (fun b ob q => Heap.get?_push_of_some _ q) (Nat.le_refl _) ?_, rfl, q2 (fun w => z1 (r1.nil_iff.mpr w)) (fun w => z2 (r2.nil_iff.mpr w)) _ (I.hok.fresh (Nat.le_refl _))⟩
  exact ⟨by rw [List.length_append]; exact hz, _, r1.append r2, PyProof.Rows.IsTup.new _ _⟩
end
def gCatT : D → D → Option D := fun a b => match a, b with | .tuple xs, .tuple ys => if xs.length + ys.length ≤ 1000000 then some (.tuple (xs ++ ys)) else none | _, _ => none
theorem o_catT {K : PySem.W.Frag} : Op2 (rCatA K) 0 gCatT := fun F H x y a b d Q s ha hb e k => by
  unfold gCatT at e
  split at e
  · split at e
    · rename_i c
      cases e
      cases ha with
      | tup h1 r1 => cases hb with
        | tup h2 r2 =>
          refine ⟨_, _, _, _, rfl, rfl, .inl (.inl (s _ _ h1)), .inl (.inl (s _ _ h2)), by rw [r1.length, r2.length]; exact line_of c, fun z => ?_, fun z1 z2 => ?_, fun z1 z2 p hp => ?_⟩
          · subst z
            cases r1
            exact k _ _ _ _ (Nw.same s (.tup h2 r2))
          · subst z2
            cases r2
            rw [List.append_nil] at k
            exact k _ _ _ _ (Nw.same s (.tup h1 r1))
          · exact k _ _ _ _ (Nw.tup s hp (r1.append r2))
    · cases e
  · cases e
section
variable {J : Jd} {ow ow' owl : Owns} {kr : Nat}
theorem s1_augG {i : Nat} {x : Str} {e : Expr} {f : Rho → M D} {op : Operator} {g : D → D → Option D} {rr : R2} {pos pos' : Pos} (O : Ok J) (hip : PIp J.X op rr) (hr : Op2 rr 0 g) (he : Se J ow e 0 f) (hi : ow.lookup i = none := by rfl) (hps : Fre J.ps i := by exact ⟨by simp, by simp⟩) (hN : J.X.N[i]? = some x := by rfl) (hx : Loc J.X.env.scope x := by first | exact Or.inl rfl | exact Or.inr rfl)
    (hf : J.X.fn x = true ∨ J.X.env.scope.names.lookup x = some .local := by first | exact .inl rfl | exact .inr rfl) : S1 J ow ow owl kr (.AugAssign (.Name x pos') op e pos) (sAug i g f) := by
  obtain ⟨t, p, q⟩ := he
  refine ⟨_, ps_aug O.nd hN hx p hip hf, fun c σ ρ P F H E hc r w => ?_⟩
  unfold sAug at w
  have w := Wp.bnd w
  unfold eVar at w
  cases ev : ρ[i]? with
  | none => rw [ev] at w; exact w.elim
  | some o =>
    rw [ev] at w
    cases o with
    | none => exact w.elim
    | some a =>
      obtain ⟨v, hv, rp⟩ := r.fz i a ev hi
      refine ⟨v, hv, ?_⟩
      refine q c σ ρ P F H _ hc r (Wp.mono (Wp.bnd (Wp.ok w)) (fun b P1 h1 u F1 H1 A x1 => ?_) ErrS.e)
      obtain ⟨d, ed, h2⟩ := Wp.lift (Wp.bnd h1)
      refine hr F1 H1 v u a b d _ x1.rl.gd.sub (rp.mono x1.st.fs) x1.rp ed fun z F2 H2 A2 n => ?_
      have x2 := x1.rl.nw n
      exact (show StP J c ow owl kr F E (.nx _) P1 from h2) _ F2 H2 (x2.rl.set x2.rp hi hps (List.getElem?_eq_some_iff.mp ev).1) (x1.st.fs.trans x2.st.fs)
end
end DL

end
section
set_option Elab.async false
set_option linter.all false
set_option maxRecDepth 100000
set_option maxHeartbeats 4000000
/-! ### comprehensions with two fors; entries of an owned dict; list(x), x.reverse() of an owned list; a, b = a list -/
namespace DL
open PySem PySem.Spec L2
theorem Stp.off {c : Ctx} {F H F' H' : Hp} (s : Stp c F H F' H') {D : Addr} {o : HO} (hF : F D = none) (hH : H D = some o) : F' D = none := by
  cases z : F' D with
  | none => rfl
  | some u => rcases s.gr _ _ z with y | y
              · rw [hF] at y; cases y
              · rw [hH] at y; cases y
def catM (step : D → M (List D)) : List D → M (List D)
  | [] => ret []
  | d :: ds => bnd (step d) fun r1 => bnd (catM step ds) fun r => ret (r1 ++ r)
def lc2Step (ρ : Rho) (vs : List Nat) (g : D → Rho → Option Rho) (tt : Rho → M Bool) (fi1 : Rho → M (List D)) (vs1 : List Nat) (g1 : D → Rho → Option Rho) (tt1 : Rho → M Bool) (te : Rho → M D) (d : D) : M (List D) :=
  bnd (lift (g d (wipeD ρ vs))) fun ρ1 => bnd (tt ρ1) fun b => if b = true then bnd (fi1 ρ1) fun ds1 => mapM' (lcStep ρ1 vs1 g1 tt1 te) ds1 else ret []
def eLc2 (vs : List Nat) (fi : Rho → M (List D)) (g : D → Rho → Option Rho) (tt : Rho → M Bool) (fi1 : Rho → M (List D)) (vs1 : List Nat) (g1 : D → Rho → Option Rho) (tt1 : Rho → M Bool) (te : Rho → M D) : Rho → M D := fun ρ => bnd (fi ρ) fun ds =>
  bnd (noX (catM (lc2Step ρ vs g tt fi1 vs1 g1 tt1 te) ds)) fun r => if r.length ≤ 1000000 then ret (.list r) else stuck
section
variable {J : Jd} {ow owl : Owns} {kr : Nat} {sc : Scope}
theorem Si.all {tg iter : Expr} {f : Rho → M (List D)} (h : ∀ b, Si (J.blk sc b) ow tg iter f) : ∃ wi, (∀ b, PI (J.blk sc b).X tg iter wi) ∧ ∀ (c : Ctx) (σ : St) (ρ : Rho) (P : Pool) (F H : Hp) (R : It → Hp → Prop), CxOk J c → Rl c J.ps ow σ ρ P F H →
    Wp (f ρ P) (fun ds P' => ∀ I F' H', Rl c J.ps ow σ ρ P' F' H' → Stp c F H F' H' → ItD F' I ds → R I H') (fun _ _ => False) → wi σ H R :=
  ⟨fun σ H R => ∀ b, (h b).choose σ H R, fun b => ⟨fun pins s σ H R I w => (h b).choose_spec.1.run pins s σ H R I (w b)⟩, fun c σ ρ P F H R hc r w b => (h b).choose_spec.2 c σ ρ P F H R ⟨hc.eq, hc.cx⟩ r (w.mono (fun _ _ h => h) fun _ _ h => h.elim)⟩
theorem lc2_run {iter tg iter1 tg1 elt : Expr} {ifs ifs1 : List Expr} {ts ts1 vs vs1 : List Nat} {fi fi1 : Rho → M (List D)} {g g1 : D → Rho → Option Rho} {tt tt1 : Rho → M Bool} {te : Rho → M D} (hi : SiC J ow tg iter fi) (hg : ∀ b, Gt (J.blk sc b) ow tg ts g) (ht : Ts J ow sc ifs tt)
    (hi1 : ∀ b, Si (J.blk sc b) ow tg1 iter1 fi1) (hg1 : ∀ b, Gt (J.blk sc b) ow tg1 ts1 g1) (ht1 : Ts J ow sc ifs1 tt1) (he : ∀ b, Se (J.blk sc b) ow elt 0 te)
    (hts : ∀ i ∈ ts, i ∈ vs) (hts1 : ∀ i ∈ ts1, i ∈ vs1) (hvs : ∀ v ∈ vs, ow.lookup v = none ∧ Fre J.ps v) (hv1 : ∀ i ∈ vs1, i ∈ vs) :
    ∃ wi gg tg' wi1 gg1 tg1' ee, PI J.X tg iter wi ∧ (∀ b, PG (J.blk sc b).X tg gg) ∧ (∀ b, PTs (J.blk sc b).X ifs tg') ∧ (∀ b, PI (J.blk sc b).X tg1 iter1 wi1) ∧ (∀ b, PG (J.blk sc b).X tg1 gg1) ∧ (∀ b, PTs (J.blk sc b).X ifs1 tg1') ∧ (∀ b, PE (J.blk sc b).X elt ee) ∧ ∀ (c : Ctx) (σ : St) (ρ : Rho) (P : Pool) (F H : Hp) (Q : VK), CxOk J c → Rl c J.ps ow σ ρ P F H →
    Wp (eLc2 vs fi g tt fi1 vs1 g1 tt1 te ρ P) (fun d P' => ∀ v F' H' A, Vp c J.ps ow σ ρ F H P' 1 d v F' H' A → Q v H') (ErrE J c ow σ ρ) → tLc2 wi gg tg' wi1 gg1 tg1' ee vs vs1 σ H Q := by
  obtain ⟨wi, pi, qi⟩ := hi
  obtain ⟨gg, pg, qg⟩ := Gt.all hg
  obtain ⟨tg', pt, qt⟩ := ht
  obtain ⟨wi1, pi1, qi1⟩ := Si.all hi1
  obtain ⟨gg1, pg1, qg1⟩ := Gt.all hg1
  obtain ⟨tg1', pt1, qt1⟩ := ht1
  obtain ⟨ee, pe, qe⟩ := Se.all he
  refine ⟨wi, gg, tg', wi1, gg1, tg1', ee, pi, pg, pt, pi1, pg1, pt1, pe, fun c σ ρ P F H Q hc rl w => ?_⟩
  refine qi c σ ρ P F H _ hc rl (w.bnd.mono (fun ds P1 h1 I F1 H1 r1 s1 hI D hD => ?_) fun _ _ h => h)
  have h1 := (Wp.bnd h1).noX
  have npD : NP c D := np_of r1.gd hD
  let FIN : List PyData → Pool → Prop := fun L P' => Wp (if L.length ≤ 1000000 then ret (PyData.list L) P' else stuck P') (fun d P' => ∀ v F' H' A, Vp c J.ps ow σ ρ F H P' 1 d v F' H' A → Q v H') (ErrE J c ow σ ρ)
  let Inv : Nat → Hp → Prop := fun i Hh => ∃ P2 F2 acc accD, Rl c J.ps ow (wipe σ vs) (wipeD ρ vs) P2 F2 Hh ∧ Stp c F1 H1 F2 Hh ∧ Hh D = some (.lst acc) ∧ F2 D = none ∧ Rps F2 acc accD ∧
    Wp (catM (lc2Step ρ vs g tt fi1 vs1 g1 tt1 te) (ds.drop i) P2) (fun r P' => FIN (accD ++ r) P') (fun _ _ => False)
  refine ⟨fun i m Hh => i + m = ds.length ∧ Inv i Hh, ⟨ds.length, by omega, ?_⟩, fun i m Hh ⟨hm, P2, F2, acc, accD, r2, s2, hDh, hFD, hacc, wr⟩ => ?_⟩
  · have l := (r1.wiped hvs).laid (o := .lst []) hD
    exact ⟨P1, F1, [], [], l.1, l.2, upd_same, r1.gd.sub.free hD, .nil, by
      refine h1.mono (fun r P' hh => ?_) fun _ _ h => h
      show Wp (if ([] ++ r).length ≤ 1000000 then ret (PyData.list ([] ++ r)) P' else stuck P') _ _
      simp only [List.nil_append]
      split
      · rename_i hz; rw [if_pos hz] at hh; exact hh
      · rename_i hz; rw [if_neg hz] at hh; exact hh⟩
  · obtain ⟨hstop, hgo⟩ := hI F2 Hh s2.fs r2.gd.sub s2.kp i
    by_cases hi : ds.length ≤ i
    · refine .inl ⟨hstop hi, ?_⟩
      rw [List.drop_eq_nil_of_le hi] at wr
      have wr : Wp (if (accD ++ []).length ≤ 1000000 then ret (PyData.list (accD ++ [])) P2 else stuck P2) _ _ := wr
      rw [List.append_nil] at wr
      split at wr
      · refine Wp.ok wr _ F2 Hh [D] ⟨?_, s1.trans s2, .lst hDh (Ows.ofRps hacc), by simp, fun a ha => ?_⟩
        · exact rl.grow (s1.trans s2) r2.gd.sub r2.gd.pool
        · rw [List.mem_singleton.mp ha]
          exact ⟨hFD, s1.dm _ hD⟩
      · exact wr.elim
    · have hi' : i < ds.length := Nat.lt_of_not_le hi
      obtain ⟨d, hd⟩ : ∃ d, ds[i]? = some d := ⟨_, List.getElem?_eq_getElem hi'⟩
      obtain ⟨go, hy⟩ := hgo d hd
      refine .inr ⟨go, fun H' => Inv (i + 1) H', fun H' h => ⟨m - 1, by omega, by omega, h⟩, fun x H3 hx => ?_⟩
      obtain ⟨F3, nw⟩ := hy x H3 hx
      have x3 := r2.nw nw
      have hD3 : F3 D = none := x3.st.off hFD hDh
      have hdrop : ds.drop i = d :: ds.drop (i + 1) := by
        rw [List.drop_eq_getElem_cons hi', (Option.some.inj ((List.getElem?_eq_getElem hi').symm.trans hd))]
      rw [hdrop] at wr
      have wr := Wp.bnd (show Wp (bnd (lc2Step ρ vs g tt fi1 vs1 g1 tt1 te d) (fun r1 => bnd (catM (lc2Step ρ vs g tt fi1 vs1 g1 tt1 te) (ds.drop (i + 1))) fun r => ret (r1 ++ r)) P2) _ _ from wr)
      obtain ⟨ρ1, e1, wr⟩ := Wp.lift (Wp.bnd wr)
      refine qg c (wipe σ vs) (wipeD ρ vs) ρ1 P2 F3 H3 x d _ x3.rl x3.rp e1 fun σ2 ho r4 => ⟨wipe_out ho hts, ?_⟩
      refine qt c σ2 ρ1 P2 F3 H3 _ hc r4 (Wp.mono (Wp.bnd wr) (fun b P5 h5 F5 H5 r5 s5 => ?_) fun _ _ h => h)
      have hD3h : H3 D = some (.lst acc) := nw.hs _ _ hDh
      have hD5 : H5 D = some (.lst acc) := s5.kp _ _ hD3h npD
      have st3 : Stp c F1 H1 F3 H3 := s2.trans x3.st
      have rO5 : Rl c J.ps ow (wipe σ vs) (wipeD ρ vs) P5 F5 H5 := x3.rl.grow s5 r5.gd.sub r5.gd.pool
      cases b with
      | false =>
        show Inv (i + 1) H5
        refine ⟨P5, F5, acc, accD, rO5, st3.trans s5, hD5, s5.off hD3 hD3h, hacc.mono (nw.fs.trans s5.fs), ?_⟩
        exact (Wp.bnd (Wp.ok h5)).mono (fun r P' h => h) fun _ _ h => h
      | true =>
        simp only [if_true] at h5 ⊢
        refine qi1 c σ2 ρ1 P5 F5 H5 _ hc r5 (Wp.mono (Wp.bnd h5) (fun ds1 P6 h6 I1 F6 H6 r6 s6 hI1 => ?_) fun _ _ h => h)
        have st6 : Stp c F1 H1 F6 H6 := (st3.trans s5).trans s6
        let Inv1 : Nat → Hp → Prop := fun j Hh => ∃ P7 F7 acc accD, Rl c J.ps ow (wipe σ vs) (wipeD ρ vs) P7 F7 Hh ∧ Rl c J.ps ow (wipe σ2 vs1) (wipeD ρ1 vs1) P7 F7 Hh ∧ Stp c F1 H1 F7 Hh ∧ Same F6 F7 ∧ Hh D = some (.lst acc) ∧ F7 D = none ∧ Rps F7 acc accD ∧
          Wp (mapM' (lcStep ρ1 vs1 g1 tt1 te) (ds1.drop j) P7) (fun r1 P' => Wp (catM (lc2Step ρ vs g tt fi1 vs1 g1 tt1 te) (ds.drop (i + 1)) P') (fun r P'' => FIN (accD ++ (r1 ++ r)) P'') (fun _ _ => False)) (fun _ _ => False)
        have notI : ∀ {P' : Pool} {F' H' : Hp}, Stp c F1 H1 F' H' → ∀ k l v d A, ow.lookup k = some l → (wipe σ2 vs1)[k]? = some (some v) → Ow F' H' l v d A → D ∉ A := fun {P' F' H'} s k l v d A e h o => by
          have hk : k ∉ vs := fun z => by rw [(hvs k z).1] at e; cases e
          rw [wipeV, if_neg fun z => hk (hv1 k z), ho.2 k fun z => hk (hts k z), wipeV, if_neg hk] at h
          exact r1.notown (P' := P') s hD k l v d A e h o
        refine ⟨fun j m Hh => j + m = ds1.length ∧ Inv1 j Hh, ⟨ds1.length, by omega, ?_⟩, fun j m1 Hh ⟨hm1, P7, F7, acc7, accD7, rO7, rI7, s7, f67, hD7, hF7, hacc7, wr1⟩ => ?_⟩
        · refine ⟨P6, F6, acc, accD, rO5.grow s6 r6.gd.sub r6.gd.pool, r6.wiped fun v h => hvs v (hv1 v h), st6, .refl _, s6.kp _ _ hD5 npD, s6.off (s5.off hD3 hD3h) hD5, hacc.mono ((nw.fs.trans s5.fs).trans s6.fs), ?_⟩
          exact h6.mono (fun r1 P' h => (Wp.bnd h).mono (fun r P'' h => h) fun _ _ h => h) fun _ _ h => h
        · obtain ⟨hstop1, hgo1⟩ := hI1 F7 Hh f67 rO7.gd.sub j
          by_cases hj : ds1.length ≤ j
          · refine .inl ⟨hstop1 hj, ?_⟩
            rw [List.drop_eq_nil_of_le hj] at wr1
            exact ⟨P7, F7, acc7, accD7, rO7, s7, hD7, hF7, hacc7, (Wp.ok (show Wp (some (.ok [], P7)) _ _ from wr1)).mono (fun r P' h => h) fun _ _ h => h⟩
          · have hj' : j < ds1.length := Nat.lt_of_not_le hj
            obtain ⟨d1, hd1⟩ : ∃ d, ds1[j]? = some d := ⟨_, List.getElem?_eq_getElem hj'⟩
            obtain ⟨go1, hy1⟩ := hgo1 d1 hd1
            refine .inr ⟨go1, fun H' => Inv1 (j + 1) H', fun H' h => ⟨m1 - 1, by omega, by omega, h⟩, fun x H8 hx => ?_⟩
            obtain ⟨F8, nw8⟩ := hy1 x H8 hx
            have xO8 := rO7.nw nw8
            have xI8 := rI7.nw nw8
            have hD8 : H8 D = some (.lst acc7) := nw8.hs _ _ hD7
            have hF8 : F8 D = none := xO8.st.off hF7 hD7
            have hdrop1 : ds1.drop j = d1 :: ds1.drop (j + 1) := by
              rw [List.drop_eq_getElem_cons hj', (Option.some.inj ((List.getElem?_eq_getElem hj').symm.trans hd1))]
            rw [hdrop1] at wr1
            have wr1 := Wp.bnd (show Wp (bnd (lcStep ρ1 vs1 g1 tt1 te d1) (fun o => bnd (mapM' (lcStep ρ1 vs1 g1 tt1 te) (ds1.drop (j + 1))) fun r => ret (consO o r)) P7) _ _ from wr1)
            obtain ⟨ρ2, e2, wr1⟩ := Wp.lift (Wp.bnd wr1)
            refine qg1 c (wipe σ2 vs1) (wipeD ρ1 vs1) ρ2 P7 F8 H8 x d1 _ xI8.rl xI8.rp e2 fun σ3 ho3 r8 => ⟨wipe_out ho3 hts1, ?_⟩
            refine qt1 c σ3 ρ2 P7 F8 H8 _ hc r8 (Wp.mono (Wp.bnd wr1) (fun b P9 h9 F9 H9 r9 s9 => ?_) fun _ _ h => h)
            have rO9 := xO8.rl.grow s9 r9.gd.sub r9.gd.pool
            have rI9 := xI8.rl.grow s9 r9.gd.sub r9.gd.pool
            have hD9 : H9 D = some (.lst acc7) := s9.kp _ _ hD8 npD
            have hF9 : F9 D = none := s9.off hF8 hD8
            have s19 : Stp c F1 H1 F9 H9 := (s7.trans xO8.st).trans s9
            have f69 : Same F6 F9 := f67.trans (nw8.fs.trans s9.fs)
            cases b with
            | false =>
              show Inv1 (j + 1) H9
              exact ⟨P9, F9, acc7, accD7, rO9, rI9, s19, f69, hD9, hF9, hacc7.mono (nw8.fs.trans s9.fs), (Wp.bnd (Wp.ok h9)).mono (fun r P' h => h) fun _ _ h => h⟩
            | true =>
              show ee σ3 H9 _
              refine qe c σ3 ρ2 P9 F9 H9 _ hc r9 (Wp.mono (Wp.bnd h9) (fun y P10 h10 v F10 H10 B x10 => ?_) fun _ _ h => h)
              have h10 := Wp.bnd (Wp.ok h10)
              have hD10 : H10 D = some (.lst acc7) := x10.st.kp _ _ hD9 npD
              have hF10 : F10 D = none := x10.st.off hF9 hD9
              have s110 := s19.trans x10.st
              have hz : acc7.length < sizeLine := by
                obtain ⟨r, p, _, h7⟩ := h10.ex
                have h7 : Wp (catM (lc2Step ρ vs g tt fi1 vs1 g1 tt1 te) (ds.drop (i + 1)) p) (fun r' P'' => FIN (accD7 ++ (consO (some y) r ++ r')) P'') (fun _ _ => False) := h7
                obtain ⟨r', p', _, h8⟩ := h7.ex
                have h8 : Wp (if (accD7 ++ (consO (some y) r ++ r')).length ≤ 1000000 then ret (PyData.list (accD7 ++ (consO (some y) r ++ r'))) p' else stuck p') _ _ := h8
                rw [hacc7.length]
                by_cases hz : (accD7 ++ (consO (some y) r ++ r')).length ≤ 1000000
                · have e : (accD7 ++ (consO (some y) r ++ r')).length = accD7.length + ((r.length + 1) + r'.length) := by rw [List.length_append, List.length_append]; rfl
                  exact line_lt (by omega)
                · rw [if_neg hz] at h8; exact h8.elim
              refine ⟨acc7, hD10, hz, ?_⟩
              have rO10 := rO9.grow x10.st x10.rl.gd.sub x10.rl.gd.pool
              have rI10 := rI9.grow x10.st x10.rl.gd.sub x10.rl.gd.pool
              have mO := rO10.mut (o := .lst (acc7 ++ [v])) hF10 (r1.gd.dm _ hD) npD ⟨_, hD10⟩ (r1.notown_w (P' := P10) s110 hD (.refl [] _) (fun _ h => nomatch h) fun v h => (hvs v h).1)
              have mI := rI10.mut (o := .lst (acc7 ++ [v])) hF10 (r1.gd.dm _ hD) npD ⟨_, hD10⟩ (notI (P' := P10) s110)
              refine ⟨P10, F10, acc7 ++ [v], accD7 ++ [y], mO, mI, ?_, f69.trans x10.st.fs, upd_same, hF10, ?_, ?_⟩
              · refine ⟨s110.fs, s110.gr, fun a o h n => ?_, fun a h => ?_⟩
                · rw [upd_ne (fun z => by rw [z, hD] at h; cases h)]; exact s110.kp a o h n
                · by_cases ha : a = D
                  · subst ha; rw [upd_same] at h; cases h
                  · rw [upd_ne ha] at h; exact s110.dm a h
              · exact (hacc7.mono ((nw8.fs.trans s9.fs).trans x10.st.fs)).append (.cons x10.rp .nil)
              · refine h10.mono (fun r P' h => ?_) fun _ _ h => h
                have h : Wp (catM (lc2Step ρ vs g tt fi1 vs1 g1 tt1 te) (ds.drop (i + 1)) P') (fun r' P'' => FIN (accD7 ++ (consO (some y) r ++ r')) P'') (fun _ _ => False) := h
                refine h.mono (fun r' P'' h => ?_) fun _ _ h => h
                have e : accD7 ++ (consO (some y) r ++ r') = accD7 ++ [y] ++ (r ++ r') := by simp [consO]
                rw [e] at h
                exact h
theorem se_lc2 {elt tg iter tg1 iter1 : Expr} {ifs ifs1 : List Expr} {own : List (Str × Nat)} {vs1 : List Nat} {pos : Pos} {ts ts1 : List Nat} {fi fi1 : Rho → M (List D)} {g g1 : D → Rho → Option Rho} {tt tt1 : Rho → M Bool} {te : Rho → M D} (O : Ok J) (hi : SiC J ow tg iter fi) (ok : BlkOk J.X.N J.X.env.scope sc own) (hg : ∀ b, Gt (J.blk sc b) ow tg ts g) (ht : Ts J ow sc ifs tt)
    (hi1 : ∀ b, Si (J.blk sc b) ow tg1 iter1 fi1) (hg1 : ∀ b, Gt (J.blk sc b) ow tg1 ts1 g1) (ht1 : Ts J ow sc ifs1 tt1) (he : ∀ b, Se (J.blk sc b) ow elt 0 te)
    (hts : ∀ i ∈ ts, i ∈ own.map (·.2) := by decide) (hts1 : ∀ i ∈ ts1, i ∈ vs1 := by decide) (hvs : ∀ v ∈ own.map (·.2), ow.lookup v = none ∧ Fre J.ps v := by first | (simp [Fre]; done) | (simp [setO, unO, Fre]; done)) (hv1 : ∀ i ∈ vs1, i ∈ own.map (·.2) := by decide) (hs : ∀ x, foldedSetIterable iter J.X.env x = pure x := by intro _; rfl) (hs1 : ∀ env x, foldedSetIterable iter1 env x = pure x := by intro _ _; rfl) :
    Se J ow (.ListComp elt [⟨tg, iter, ifs, 0⟩, ⟨tg1, iter1, ifs1, 0⟩] sc pos) 1 (eLc2 (own.map (·.2)) fi g tt fi1 vs1 g1 tt1 te) := by
  obtain ⟨wi, gg, tg', wi1, gg1, tg1', ee, pi, pg, pt, pi1, pg1, pt1, pe, q⟩ := lc2_run (vs1 := vs1) hi hg ht hi1 hg1 ht1 he hts hts1 hvs hv1
  exact ⟨_, pe_lc2 O.c O.nd pi ok hv1 (fun s H C cl fp => pg ⟨s, H, C, cl, fp⟩) (fun s H C cl fp => pt ⟨s, H, C, cl, fp⟩) (fun s H C cl fp => pi1 ⟨s, H, C, cl, fp⟩) (fun s H C cl fp => pg1 ⟨s, H, C, cl, fp⟩) (fun s H C cl fp => pt1 ⟨s, H, C, cl, fp⟩) (fun s H C cl fp => pe ⟨s, H, C, cl, fp⟩) hs hs1, q⟩
theorem s1_setLc2 {i : Nat} {y : Str} {elt tg iter tg1 iter1 : Expr} {ifs ifs1 : List Expr} {own : List (Str × Nat)} {vs1 : List Nat} {py pos spos : Pos} {ts ts1 : List Nat} {fi fi1 : Rho → M (List D)} {g g1 : D → Rho → Option Rho} {tt tt1 : Rho → M Bool} {te : Rho → M D} (O : Ok J) (hi : SiC J ow tg iter fi) (ok : BlkOk J.X.N J.X.env.scope sc own) (hg : ∀ b, Gt (J.blk sc b) ow tg ts g) (ht : Ts J ow sc ifs tt)
    (hi1 : ∀ b, Si (J.blk sc b) ow tg1 iter1 fi1) (hg1 : ∀ b, Gt (J.blk sc b) ow tg1 ts1 g1) (ht1 : Ts J ow sc ifs1 tt1) (he : ∀ b, Se (J.blk sc b) ow elt 0 te)
    (hsw : swapsWith (.ListComp elt [⟨tg, iter, ifs, 0⟩, ⟨tg1, iter1, ifs1, 0⟩] sc pos) (some (.Name y py)) spos.line J.X.env = pure true)
    (hps : Fre J.ps i := by exact ⟨by simp, by simp⟩) (hN : J.X.N[i]? = some y := by rfl) (hyl : J.X.env.scope.names.lookup y = some .local := by rfl)
    (hts : ∀ i ∈ ts, i ∈ own.map (·.2) := by decide) (hts1 : ∀ i ∈ ts1, i ∈ vs1 := by decide) (hvs : ∀ v ∈ own.map (·.2), ow.lookup v = none ∧ Fre J.ps v := by first | (simp [Fre]; done) | (simp [setO, unO, Fre]; done)) (hv1 : ∀ i ∈ vs1, i ∈ own.map (·.2) := by decide) (hs : ∀ x, foldedSetIterable iter J.X.env x = pure x := by intro _; rfl) (hs1 : ∀ env x, foldedSetIterable iter1 env x = pure x := by intro _ _; rfl) :
    S1 J ow (setO i 1 ow) owl kr (.Assign [.Name y py] (.ListComp elt [⟨tg, iter, ifs, 0⟩, ⟨tg1, iter1, ifs1, 0⟩] sc pos) spos) (sSet i (eLc2 (own.map (·.2)) fi g tt fi1 vs1 g1 tt1 te)) := by
  obtain ⟨wi, gg, tg', wi1, gg1, tg1', ee, pi, pg, pt, pi1, pg1, pt1, pe, q⟩ := lc2_run (vs1 := vs1) hi hg ht hi1 hg1 ht1 he hts hts1 hvs hv1
  refine ⟨_, ps_setLc2 O.c O.nd hN hyl hsw pi ok hv1 (fun s H C cl fp => pg ⟨s, H, C, cl, fp⟩) (fun s H C cl fp => pt ⟨s, H, C, cl, fp⟩) (fun s H C cl fp => pi1 ⟨s, H, C, cl, fp⟩) (fun s H C cl fp => pg1 ⟨s, H, C, cl, fp⟩) (fun s H C cl fp => pt1 ⟨s, H, C, cl, fp⟩) (fun s H C cl fp => pe ⟨s, H, C, cl, fp⟩) hs hs1, fun c σ ρ P F H E hc r w => ?_⟩
  refine q c σ ρ P F H _ hc r (w.bnd.mono (fun d P1 h1 v F1 H1 A z => ?_) ErrS.e)
  by_cases hl : i < ρ.length
  · rw [if_pos hl] at h1
    exact Wp.ok h1 _ F1 H1 (r.store z hps hl) z.st.fs
  · rw [if_neg hl] at h1; exact h1.elim
/-! d[k], d a dict of its own -/
def ePeekD (i : Nat) (g : Rho → M D) : Rho → M D := fun ρ => bnd (lift (dctAt ρ i)) fun x => bnd (g ρ) fun j => lift (gDg x j)
theorem se_peekD {i : Nat} {x : Str} {ix : Expr} {g : Rho → M D} {p pos : Pos} (O : Ok J) (hg : Se J ow ix 0 g) (hi : ow.lookup i = some 1 := by rfl) (hN : J.X.N[i]? = some x := by rfl) (hv : Vis J.X.env.scope x := by first | exact Or.inl rfl | exact Or.inr (Or.inl rfl) | exact Or.inr (Or.inr rfl)) (hd : (x == ("__debug__" : Str)) = false := by decide) (hcd : (x == ("__classdict__" : Str)) = false := by decide)
    (hs : NoSl ix := by exact fun _ _ => rfl) : Se J ow (.Subscript (.Name x p) ix pos) 0 (ePeekD i g) := by
  obtain ⟨u, pg, qg⟩ := hg
  refine ⟨_, pe_dget O.u1 (pe_var hN hv hd hcd) pg hs, fun c σ ρ P F H Q hc r w => ?_⟩
  obtain ⟨dd, el, w⟩ := Wp.lift (Wp.bnd w)
  obtain ⟨e1, es0, ed⟩ := dctAt_some el
  obtain ⟨v0, d0, A0, e0, e2, o0, nd0, fr0⟩ := r.hold hi
  rw [e1] at e0; cases e0
  refine ⟨v0, e2, ?_⟩
  refine qg c σ ρ P F H _ hc r ((Wp.bnd w).mono (fun j P2 h2 z F2 H2 A2 x2 => ?_) fun _ _ h => h)
  obtain ⟨v0', d0', A0', e0', e2', o0', nd0', fr0'⟩ := x2.rl.hold hi
  rw [e1] at e0'; cases e0'
  rw [e2] at e2'; cases e2'
  obtain ⟨d, e, q⟩ := h2.lift
  obtain ⟨o, e3, e4⟩ := Option.bind_eq_some_iff.mp e
  cases o0' with
  | dK hH rk =>
    rw [dAt_K rk, Option.map_eq_some_iff] at e3
    obtain ⟨k, ek, rfl⟩ := e3
    have ek := kOf_some ek
    subst ek
    have gg := DGet.k (k := k) hH
    rcases rk.look (k := k) with ⟨z1, z2⟩ | ⟨v, d', z1, z2, z3⟩
    · rw [z2] at e4; cases e4
    · rw [z2] at e4; cases e4
      rw [z1] at gg
      refine ⟨_, v, rfl, ?_, q _ _ _ _ ((x2.rl.vp z3).after x2.st)⟩
      rw [x2.rp.key]; exact gg
  | dT hH rk =>
    rename_i ks es
    have e3 : (kT j).map (look kT es) = some o := e3
    obtain ⟨k, ek, rfl⟩ := Option.map_eq_some_iff.mp e3
    cases x2.rp with
    | tup hb rb =>
      have ek : kOfs _ = some k := ek
      rw [kOfs_some ek] at rb
      have gg := DGet.t (k := k) hH ((x2.rl.gd.sub _ _ hb).trans (by rw [rb.keys]))
      rcases rk.look (k := k) with ⟨z1, z2⟩ | ⟨v, d', z1, z2, z3⟩
      · rw [z2] at e4; cases e4
      · rw [z2] at e4; cases e4
        rw [z1] at gg
        exact ⟨_, v, rfl, gg, q _ _ _ _ ((x2.rl.vp z3).after x2.st)⟩
    | _ => cases ek
  | lst _ _ => cases ed
/-! list(x), x a list of its own -/
def eListO (i : Nat) : Rho → M D := fun ρ => bnd (lift (lstAt ρ i)) fun ds => ret (.list ds)
theorem se_listO {i : Nat} {x : Str} {p q0 pos : Pos} (hm : J.X.mg "list" = none) (hi : ow.lookup i = some 1 := by rfl) (hN : J.X.N[i]? = some x := by rfl) (hv : Vis J.X.env.scope x := by first | exact Or.inl rfl | exact Or.inr (Or.inl rfl) | exact Or.inr (Or.inr rfl)) (hd : (x == ("__debug__" : Str)) = false := by decide) (hcd : (x == ("__classdict__" : Str)) = false := by decide)
    (hg : Gl J.X "list" := by rfl) (hb : bootBuiltins "list" = some (.type "list") := by decide +kernel)
    (he : starEach [.Name x q0] J.X.env = (false, eval (.Name x q0) J.X.env) :: starEach [] J.X.env := by rfl) (hpl : (backTo pos (starEach [] J.X.env)).any (·.1) = false := by rfl) : Se J ow (.Call (.Name "list" p) [.Name x q0] [] pos) 1 (eListO i) := by
  refine ⟨_, pe_callTy call_list_of hg hm hb (pa_cons (pe_var hN hv hd hcd) pa_nil he) (by decide) (by decide) he hpl, fun c σ ρ P F H Q hc r w => ?_⟩
  obtain ⟨ds, el, w⟩ := Wp.lift (Wp.bnd w)
  have e1 := lstAt_some el
  obtain ⟨a, xs, e2, hH, hs, _⟩ := r.hold1 hi e1
  refine ⟨.ref a, e2, a, xs, rfl, .inl (.inl (.inl hH)), fun l hl => ?_⟩
  exact Wp.ok w (.ref l) F _ [l] (r.nw ⟨.refl _, r.gd.sub.trans (same_upd hl), same_upd hl, fun _ _ h => .inl h, .lst upd_same (Ows.ofRps hs), by simp, fun b hb => by
    rw [List.mem_singleton.mp hb]; exact ⟨r.gd.sub.free hl, hl⟩⟩)
/-! x.reverse() -/
def sRevO (i : Nat) : Rho → M Oc := fun ρ => bnd (lift (lstAt ρ i)) fun ds => ret (.nx (ρ.set i (some (.list ds.reverse))))
theorem Rps.rev {F : Hp} : ∀ {vs : List V} {ds : List D}, Rps F vs ds → Rps F vs.reverse ds.reverse
  | _, _, .nil => .nil
  | _, _, .cons h r => by rw [List.reverse_cons, List.reverse_cons]; exact (Rps.rev r).append (.cons h .nil)
theorem s1_reverse {i : Nat} {x : Str} {p apos cpos pos : Pos} (hi : ow.lookup i = some 1 := by rfl) (hN : J.X.N[i]? = some x := by rfl) (hv : Vis J.X.env.scope x := by first | exact Or.inl rfl | exact Or.inr (Or.inl rfl)) (hd : (x == ("__debug__" : Str)) = false := by decide) (hcd : (x == ("__classdict__" : Str)) = false := by decide)
    (hbase : attributeBase (.Name x p) "reverse" J.X.env (eval (.Name x p) J.X.env) = eval (.Name x p) J.X.env := by rfl)
    (hline : (apos.endLine == cpos.line) = true := by rfl)
    (hsw : swapsWith (.Call (.Attribute (.Name x p) "reverse" apos) [] [] cpos) none pos.line J.X.env = pure false := by rfl) : S1 J ow ow owl kr (.Expr (.Call (.Attribute (.Name x p) "reverse" apos) [] [] cpos) pos) (sRevO i) := by
  refine ⟨_, ps_expr (pe_bm0 PySem.F.plainAttrs_list PySem.F.slot_list_reverse PySem.F.type_list_reverse mt_reverse (pe_var hN hv hd hcd) hbase hline) hsw, fun c σ ρ P F H E hc r w => ?_⟩
  obtain ⟨ds, el, w⟩ := Wp.lift (Wp.bnd w)
  have e1 := lstAt_some el
  obtain ⟨a, xs, e2, hH, hs0, _⟩ := r.hold1 hi e1
  refine ⟨.ref a, e2, .inl ⟨rfl, xs, .inl (.inl hH)⟩, ?_⟩
  refine ⟨a, xs, rfl, rfl, hH, ?_⟩
  exact Wp.ok w σ F _ (r.put1 hi e1 e2 hH hs0 hs0.rev) (.refl _)
/-! a, b = a list -/
def gtLst (n : Nat) (gs : List D → Rho → Option Rho) : D → Rho → Option Rho := fun d ρ => match d with | .list ds => if ds.length = n then gs ds ρ else none | _ => none
theorem gt_lst {es : List Expr} {k n : Nat} {pos : Pos} {gs : List D → Rho → Option Rho} {ts : List Nat} (O : J.X.calm = true) (h : Gs J ow es ts gs) (hn : (assignEach es J.X.env).length = n := by rfl) (hst : (assignEach es J.X.env).findIdx? (·.1) = none := by rfl) : Gt J ow (.Tuple es k pos) ts (gtLst n gs) := by
  obtain ⟨t, pt, qt⟩ := h
  refine ⟨_, pg_lst O pt hn hst, fun c σ ρ ρ' P F H v d Q r rp e kk => ?_⟩
  cases rp with
  | lst ha rs =>
    simp only [gtLst] at e
    split at e
    · rename_i hl
      exact ⟨_, _, rfl, .inl (.inl (r.gd.sub _ _ ha)), by rw [rs.length]; exact hl, qt c σ ρ ρ' P F H _ _ Q r rs e kk⟩
    · cases e
  | _ => cases e
end
end DL

end
section
set_option Elab.async false
set_option linter.all false
set_option maxRecDepth 100000
set_option maxHeartbeats 4000000
/-! ### dicts with tuples as keys: len, clear -/
namespace DL
open PySem PySem.Spec L2 PyProof.Rows
def rClearT : V → List V → Hp → VK → Prop := fun x vs H Q => ∃ (a : Addr) (kvs : List (List Key × V)), x = .ref a ∧ vs = [] ∧ H a = some (.dT kvs) ∧ Q .non (upd H a (.dT []))
theorem mt_clearT {X : Cx} : MtR X "dict.clear" rClearT := by
  intro pins s σ H x vs v us Q I rx rv h
  obtain ⟨a, kvs, rfl, rfl, ha, q⟩ := h
  obtain rfl : v = Value.ref a := rx
  have hus := rv.zero
  subst hus
  obtain ⟨z, hd, xs, rel, dd⟩ := dt_of I.hok ha
  obtain ⟨o, es, ep, hq, h2, h3, h4, h6, h5⟩ := id dd
  have hz : es.size ≤ sizeLine := by
    rw [size_of_entries h4, ← Paired.length rel]; exact z
  refine call_meetsIn PySem.F.slot_dict_clear dd.typeIs PySem.F.entry_dict_clear (PySem.F.args_dict_clear_1 _) (meets_dict_clear_raw a) ⟨es, ep, ⟨o, hq, h2, h3⟩, hz, fun h' dd' hs => ?_⟩
  obtain ⟨o', hq', h2', h3'⟩ := dd'
  have I2 : Inv X pins σ (upd H a (.dT [])) { s with heap := h' } :=
    d_write (t' := s.toks) I (by rw [ha]; exact True.intro) hs ⟨o', hq'⟩ ⟨Nat.zero_le _, hd, [], .nil, o', #[], ep + 1, hq', h2', h3', rfl, List.nodup_nil⟩
  exact ⟨.non, _, I2, rfl, q⟩
section
variable {J : Jd} {ow owl : Owns} {kr : Nat}
def sClrD (i : Nat) : Rho → M Oc := fun ρ => match ρ[i]? with | some (some (.dict ((.none, .none) :: _))) => ret (.nx (ρ.set i (some (.dict [(.none, .none)])))) | _ => stuck
theorem s1_clearD {i : Nat} {x : Str} {p apos cpos pos : Pos} (hi : ow.lookup i = some 1 := by rfl) (hN : J.X.N[i]? = some x := by rfl) (hv : Vis J.X.env.scope x := by first | exact Or.inl rfl | exact Or.inr (Or.inl rfl)) (hd : (x == ("__debug__" : Str)) = false := by decide) (hcd : (x == ("__classdict__" : Str)) = false := by decide)
    (hbase : attributeBase (.Name x p) "clear" J.X.env (eval (.Name x p) J.X.env) = eval (.Name x p) J.X.env := by rfl)
    (hline : (apos.endLine == cpos.line) = true := by rfl)
    (hsw : swapsWith (.Call (.Attribute (.Name x p) "clear" apos) [] [] cpos) none pos.line J.X.env = pure false := by rfl) : S1 J ow ow owl kr (.Expr (.Call (.Attribute (.Name x p) "clear" apos) [] [] cpos) pos) (sClrD i) := by
  refine ⟨_, ps_expr (pe_bm0 PySem.F.plainAttrs_dict PySem.F.slot_dict_clear PySem.F.type_dict_clear mt_clearT (pe_var hN hv hd hcd) hbase hline) hsw, fun c σ ρ P F H E hc r w => ?_⟩
  obtain ⟨v0, d0, A0, e0, e2, o0, nd0, fr0⟩ := r.hold hi
  unfold sClrD at w
  rw [e0] at w
  cases o0 with
  | dT hH rk =>
    rename_i a ks es
    refine ⟨.ref a, e2, ?_, ?_⟩
    · exact .inr (.inr (.inl ⟨rfl, .inr ⟨_, hH⟩⟩))
    · refine ⟨a, ks, rfl, rfl, hH, ?_⟩
      have w : Wp (some (.ok (Oc.nx (ρ.set i (some (.dict [(.none, .none)])))), P)) _ _ := w
      exact Wp.ok w σ F _ (r.rewrite hi e2 (.dT hH rk) List.mem_cons_self (List.getElem?_eq_some_iff.mp e0).1 (.dT upd_same .nil) (by simp) fun b hb => .inl hb) (.refl _)
  | dK hH rk =>
    cases rk with
    | nil => exact w.elim
    | cons h r' => rename_i k0 _ _ _ _; cases k0 <;> exact w.elim
  | lst _ _ => exact w.elim
/-! len(d) -/
def tLen : D → Option D := fun d => match d with | .dict ((.none, .none) :: es) => some (.int (es.length : Nat)) | _ => none
def gLenT : List D → Option D | [d] => tLen d | _ => none
theorem rp_tLen {F H : Hp} (s : Same F H) {x : V} {a d : D} (ha : Rp F x a) (e : tLen a = some d) : ∃ (p : Addr) (kvs : List (List Key × V)), x = .ref p ∧ H p = some (.dT kvs) ∧ d = .int (kvs.length : Nat) := by
  cases ha with
  | dT hH rk =>
    rename_i p ks es
    have e : some (PyData.int (es.length : Nat)) = some d := e
    cases e
    exact ⟨p, ks, rfl, s _ _ hH, by rw [rk.length]⟩
  | dK hH rk =>
    cases rk with
    | nil => cases e
    | cons h r => rename_i k0 _ _ _ _; cases k0 <;> cases e
  | _ => cases e
theorem o_lenT : OpL rLenT 0 gLenT := fun F H xs as d Q s ha e k => by
  cases ha with
  | nil => cases e
  | cons h r =>
    cases r with
    | nil =>
      obtain ⟨p, kvs, rfl, hp, rfl⟩ := rp_tLen s h e
      exact ⟨p, kvs, rfl, hp, k _ _ _ _ (Nw.same s (.int _))⟩
    | cons _ _ => cases e
end
end DL

end
section
set_option Elab.async false
set_option linter.all false
set_option maxRecDepth 100000
set_option maxHeartbeats 4000000
/-! ### index, insert, len(set(tuple of ints)); an owned list gone through; lending for a flat value; a def that puts into a list passed to it -/
namespace DL
open PySem PySem.Spec L2 PyProof.Rows
section
variable {X : Cx}
def rIdxL (K : PySem.W.Frag) : V → List V → Hp → VK → Prop := fun x xs H Q => ∃ (a : Addr) (ns : List Int) (k : Int), x = .ref a ∧ xs = [.int k] ∧ SqL K H a (ns.map V.int) ∧ k ∈ ns ∧ Q (.int (ns.idxOf k : Nat)) H
def rIdxT (K : PySem.W.Frag) : V → List V → Hp → VK → Prop := fun x xs H Q => ∃ (a : Addr) (ns : List Int) (k : Int), x = .ref a ∧ xs = [.int k] ∧ SqT K H a (ns.map V.int) ∧ k ∈ ns ∧ Q (.int (ns.idxOf k : Nat)) H
theorem mt_idxL : MtR X "list.index" (rIdxL X.K) := by
  intro pins s σ H x xs v us Q I rx rs h
  obtain ⟨a, ns, k, rfl, rfl, hq, hk, q⟩ := h
  cases rx
  obtain ⟨u, rfl, t, rfl⟩ := vals1 rs
  obtain ⟨its, r, pl, hz⟩ := I.list hq
  exact PySem.SeqAt.list_index_ints pl.isList (r.ints) (by rw [List.length_map] at hz; exact hz) hk ⟨.int (ns.idxOf k : Nat), H, I.tok _, ⟨_, rfl⟩, q⟩
theorem mt_idxT : MtR X "tuple.index" (rIdxT X.K) := by
  intro pins s σ H x xs v us Q I rx rs h
  obtain ⟨a, ns, k, rfl, rfl, hq, hk, q⟩ := h
  cases rx
  obtain ⟨u, rfl, t, rfl⟩ := vals1 rs
  obtain ⟨its, r, pl, hz⟩ := I.tuple hq
  exact PySem.SeqAt.tuple_index_ints pl (r.ints) hk ⟨.int (ns.idxOf k : Nat), H, I.tok _, ⟨_, rfl⟩, q⟩
end
section
variable {J : Jd} {ow owl : Owns} {kr : Nat}
/-! x.index(e), x a list of its own -/
def ixOf (ds : List D) (d : D) : Option D := match d with
  | .int k => (intsOf ds).bind fun ns => if k ∈ ns then some (.int (ns.idxOf k : Nat)) else none
  | _ => none
def eIxO (i : Nat) (g : Rho → M D) : Rho → M D := fun ρ => bnd (lift (lstAt ρ i)) fun ds => bnd (g ρ) fun d => lift (ixOf ds d)
theorem se_ixO {i : Nat} {x : Str} {e : Expr} {g : Rho → M D} {p apos pos : Pos} (hg : Se J ow e 0 g) (hi : ow.lookup i = some 1 := by rfl) (hN : J.X.N[i]? = some x := by rfl) (hv : Vis J.X.env.scope x := by first | exact Or.inl rfl | exact Or.inr (Or.inl rfl) | exact Or.inr (Or.inr rfl)) (hd : (x == ("__debug__" : Str)) = false := by decide) (hcd : (x == ("__classdict__" : Str)) = false := by decide)
    (hbase : attributeBase (.Name x p) "index" J.X.env (eval (.Name x p) J.X.env) = eval (.Name x p) J.X.env := by rfl)
    (hfew : ((backTo pos (starEach [e] J.X.env)).all (fun x => !x.1) && (backToKw pos (keywordEach [] J.X.env)).all (fun x => x.1.isSome) && decide ([e].length + ([] : List Keyword).length + (if ([] : List Keyword).isEmpty then 0 else 1) < 30)) = true := by rfl)
    (hline : (apos.endLine == pos.line) = true := by rfl) (hs : starEach [e] J.X.env = (false, eval e J.X.env) :: starEach [] J.X.env := by rfl) (hplain : (backTo pos (starEach [] J.X.env)).any (·.1) = false := by rfl) :
    Se J ow (.Call (.Attribute (.Name x p) "index" apos) [e] [] pos) 0 (eIxO i g) := by
  obtain ⟨u, pg, qg⟩ := hg
  refine ⟨_, pe_bm PySem.F.plainAttrs_list PySem.F.slot_list_index PySem.F.type_list_index mt_idxL (pe_var hN hv hd hcd) (pa_cons pg pa_nil hs) hbase hfew hline hs hplain, fun c σ ρ P F H Q hc r w => ?_⟩
  obtain ⟨ds, el, w⟩ := Wp.lift (Wp.bnd w)
  have e1 := lstAt_some el
  obtain ⟨a, xs, e2, hH, hs0, _⟩ := r.hold1 hi e1
  refine ⟨.ref a, e2, .inl ⟨rfl, xs, .inl (.inl hH)⟩, ?_⟩
  refine qg c σ ρ P F H _ hc r ((Wp.bnd w).mono (fun j P2 h2 z F2 H2 A2 x2 => ?_) fun _ _ h => h)
  obtain ⟨a', xs1, f2, hH1, hs1, _⟩ := x2.rl.hold1 hi e1
  rw [e2] at f2; cases f2
  obtain ⟨d, ed, h3⟩ := h2.lift
  cases x2.rp with
  | int k =>
    obtain ⟨ns, en, ek⟩ := Option.bind_eq_some_iff.mp (show (intsOf ds).bind (fun ns => if k ∈ ns then some (PyData.int (ns.idxOf k : Nat)) else none) = some d from ed)
    split at ek
    · rename_i hk
      cases ek
      have ex := ints_rps hs1 en
      subst ex
      exact ⟨a, ns, k, rfl, rfl, .inl (.inl hH1), hk, h3 _ _ _ _ ((x2.rl.vp (.int _)).after x2.st)⟩
    · cases ek
  | _ => cases ed
/-! an owned list, gone through by a comprehension -/
def iOwn (i : Nat) : Rho → M (List D) := fun ρ => lift (lstAt ρ i)
theorem si_own {i : Nat} {x : Str} {tg : Expr} {p : Pos} (hi : ow.lookup i = some 1 := by rfl) (hN : J.X.N[i]? = some x := by rfl) (hv : Vis J.X.env.scope x := by first | exact Or.inl rfl | exact Or.inr (Or.inl rfl) | exact Or.inr (Or.inr rfl)) (hd : (x == ("__debug__" : Str)) = false := by decide) (hcd : (x == ("__classdict__" : Str)) = false := by decide) :
    SiC J ow tg (.Name x p) (iOwn i) := by
  refine ⟨_, pi_seqA (pe_var hN hv hd hcd), fun c σ ρ P F H R hc r w => ?_⟩
  obtain ⟨ds, el, w⟩ := w.lift
  have e1 := lstAt_some el
  obtain ⟨a, xs, e2, hH, rz, _, _, np⟩ := r.hold1 hi e1
  refine ⟨.ref a, e2, a, xs, rfl, .inl ⟨.inl (.inl hH), w _ F H r (.refl _ _ _) fun F' H' s1 s2 kp i => ?_⟩⟩
  have e : SqL J.X.K H' a xs := .inl (.inl (kp _ _ hH np))
  refine ⟨fun hi => ⟨xs, e, by rw [rz.length]; exact hi⟩, fun d hd => ?_⟩
  obtain ⟨v, hv, rp⟩ := rz.get' hd
  refine ⟨⟨xs, v, e, hv⟩, fun u H3 hy => ?_⟩
  obtain ⟨rfl, hu⟩ := hy
  have q := hu xs e
  rw [hv] at q
  cases q
  exact ⟨F', Nw.same s2 (rp.mono s1)⟩
/-! lending, for a flat value -/
def flatM (m : M D) : M D := bnd (noX m) fun d => if flatD d = true then ret d else stuck
theorem se_lend (i : Nat) {k : Nat} {e : Expr} {f : Rho → M D} (hi : ow.lookup i = some k) (h : Se J (unO i ow) e 0 f) : Se J ow e 0 fun ρ => flatM (f ρ) := by
  obtain ⟨t, p, q⟩ := h
  refine ⟨t, p, fun c σ ρ P F H Q hc r w => ?_⟩
  obtain ⟨v, d, A, e1, e2, o, nd, fr⟩ := r.hold hi
  have rl := r.lent hi e1 e2 o fr
  refine q c σ ρ P _ H Q hc rl ((Wp.bnd w).noX.mono (fun b P1 h1 v1 F1 H1 A1 x1 => ?_) fun _ _ h => h.elim)
  obtain ⟨F2, r2, s2⟩ := r.lend hi e2 o fr x1.rl x1.st
  have h1 : Wp ((if flatD b = true then ret b else stuck) P1) _ _ := h1
  split at h1
  · rename_i hf
    exact Wp.ok h1 v1 F2 H1 [] ((r2.vp (x1.rp.any hf)).after s2)
  · exact h1.elim
/-! x.insert(k, e) -/
def insD (es : List D) (i d : D) : Option (List D) := match i with
  | .int k => if 0 ≤ k ∧ k ≤ 1000000 ∧ es.length < 1000000 then some (es.take k.toNat ++ [d] ++ es.drop k.toNat) else none
  | _ => none
def sIns (i : Nat) (f g : Rho → M D) : Rho → M Oc := fun ρ => bnd (lift (lstAt ρ i)) fun _ => bnd (f ρ) fun k => bnd (g ρ) fun d => bnd (lift (lstAt ρ i)) fun es => bnd (lift (insD es k d)) fun es' => ret (.nx (ρ.set i (some (.list es'))))
theorem rps_ins {F : Hp} {xs : List V} {es : List D} {v : V} {d : D} (r : Rps F xs es) (h : Rp F v d) (n : Nat) : Rps F (xs.take n ++ [v] ++ xs.drop n) (es.take n ++ [d] ++ es.drop n) := ((r.take n).append (.cons h .nil)).append (r.drop n)
theorem s1_insert {i : Nat} {x : Str} {e1 e2 : Expr} {f g : Rho → M D} {p apos cpos pos : Pos} (h : Se J ow e1 0 f) (hg : Se J ow e2 0 g) (hi : ow.lookup i = some 1 := by rfl) (hN : J.X.N[i]? = some x := by rfl) (hv : Vis J.X.env.scope x := by first | exact Or.inl rfl | exact Or.inr (Or.inl rfl)) (hd : (x == ("__debug__" : Str)) = false := by decide) (hcd : (x == ("__classdict__" : Str)) = false := by decide)
    (hbase : attributeBase (.Name x p) "insert" J.X.env (eval (.Name x p) J.X.env) = eval (.Name x p) J.X.env := by rfl)
    (hfew : ((backTo cpos (starEach [e1, e2] J.X.env)).all (fun x => !x.1) && (backToKw cpos (keywordEach [] J.X.env)).all (fun x => x.1.isSome) && decide ([e1, e2].length + ([] : List Keyword).length + (if ([] : List Keyword).isEmpty then 0 else 1) < 30)) = true := by rfl)
    (hline : (apos.endLine == cpos.line) = true := by rfl) (hs : starEach [e1, e2] J.X.env = (false, eval e1 J.X.env) :: starEach [e2] J.X.env := by rfl) (hs2 : starEach [e2] J.X.env = (false, eval e2 J.X.env) :: starEach [] J.X.env := by rfl) (hplain : (backTo cpos (starEach [e2] J.X.env)).any (·.1) = false := by rfl)
    (hsw : swapsWith (.Call (.Attribute (.Name x p) "insert" apos) [e1, e2] [] cpos) none pos.line J.X.env = pure false := by rfl) : S1 J ow ow owl kr (.Expr (.Call (.Attribute (.Name x p) "insert" apos) [e1, e2] [] cpos) pos) (sIns i f g) := by
  obtain ⟨t, pe, q⟩ := h
  obtain ⟨u, pg, qg⟩ := hg
  refine ⟨_, ps_expr (pe_bm PySem.F.plainAttrs_list PySem.F.slot_list_insert PySem.F.type_list_insert mt_insert (pe_var hN hv hd hcd) (pa_cons pe (pa_cons pg pa_nil hs2) hs) hbase hfew hline hs hplain) hsw, fun c σ ρ P F H E hc r w => ?_⟩
  obtain ⟨es0, el, w⟩ := Wp.lift (Wp.bnd w)
  have e1 := lstAt_some el
  obtain ⟨a, xs, e2, hH, hs0, _⟩ := r.hold1 hi e1
  refine ⟨.ref a, e2, .inl ⟨rfl, xs, .inl (.inl hH)⟩, ?_⟩
  refine q c σ ρ P F H _ hc r ((Wp.bnd w).mono (fun k P1 h1 v1 F1 H1 A1 x1 => ?_) ErrS.e)
  refine qg c σ ρ P1 F1 H1 _ hc x1.rl ((Wp.bnd h1).mono (fun d P2 h2 v2 F2 H2 A2 x2 => ?_) ErrS.e)
  obtain ⟨es, el2, h2⟩ := Wp.lift (Wp.bnd h2)
  rw [el] at el2; cases el2
  obtain ⟨es', ei, h2⟩ := Wp.lift (Wp.bnd h2)
  obtain ⟨a', xs1, f2, hH1, hs1, _⟩ := x2.rl.hold1 hi e1
  rw [e2] at f2; cases f2
  have rk := x1.rp.mono x2.st.fs
  cases rk with
  | int k =>
    have ei : (if 0 ≤ k ∧ k ≤ 1000000 ∧ es0.length < 1000000 then some (es0.take k.toNat ++ [d] ++ es0.drop k.toNat) else none) = some es' := ei
    split at ei
    · rename_i hz
      cases ei
      refine ⟨a, xs1, k, v2, rfl, rfl, hH1, by rw [hs1.length]; exact line_lt (Nat.le_of_lt hz.2.2), hz.1, by omega, ?_⟩
      exact (show StP J c ow owl kr F E (.nx _) P2 from h2) σ F2 _ (x2.rl.put1 hi e1 e2 hH1 hs1 (rps_ins hs1 x2.rp k.toNat)) (x1.st.fs.trans x2.st.fs)
    · cases ei
  | _ => cases ei
/-! ### a def whose one statement puts into its first argument, a list -/
def rmH (H : Hp) (a : Addr) : Hp := fun b => if b = a then none else H b
theorem rmH_ne {H : Hp} {a b : Addr} (h : b ≠ a) : rmH H a b = H b := if_neg h
theorem rmH_self {H : Hp} {a : Addr} : rmH H a a = none := if_pos rfl
theorem rmH_some {H : Hp} {a b : Addr} {o : HO} (h : rmH H a b = some o) : b ≠ a ∧ H b = some o := by
  unfold rmH at h
  split at h
  · cases h
  · rename_i n; exact ⟨n, h⟩
def spM (cl : String → Addr) (n : Nat) (f : List D → M D) : Sp := fun vs H Q E =>
  ∃ (F : Hp) (P : Pool) (a : Addr) (xs : List V) (es ds : List D) (ws : List V), vs = .ref a :: ws ∧ ws.length = n ∧ H a = some (.lst xs) ∧ F a = none ∧ Rps F xs es ∧ Rps F ws ds ∧ Same F H ∧
    Wp (f (.list es :: ds) P) (fun d P' => ∀ H' F' ys es', d = .list es' → H' a = some (.lst ys) → Rps F' ys es' → Gd ⟨rmH H a, F, none, cl, none⟩ P' F' H' → F' a = none → Q .non H') (fun _ _ => False)
def mutF (fb : Rho → M Oc) (ρ : Rho) : M D := bnd (fb ρ) fun oc => match oc with
  | .nx ρ' => bnd (lift (lstAt ρ' 0)) fun es => ret (.list es)
  | _ => stuck
end
end DL

end
section
set_option Elab.async false
set_option linter.all false
set_option maxRecDepth 100000
set_option maxHeartbeats 4000000
/-! ### len(set(tuple of unlike ints)); in and not in an owned dict -/
namespace DL
open PySem PySem.Spec L2
open PyProof.Rows (Call_)
def tLenSetI2 (K : PySem.W.Frag) (ta : TE) : TE := fun σ H Q => ta σ H fun x H1 => ∃ (l : Addr) (ns : List Int), x = V.ref l ∧ SqT K H1 l (ns.map V.int) ∧ ns.length < 64 ∧ ns.Nodup ∧ Q (.int ns.length) H1
section
variable {X : Cx}
theorem pe_lenSetI2 {a : Expr} {ta : TE} {p p2 q pos : Pos} (hc : X.calm = true) (hg : Gl X "len") (hm : X.mg "len" = none) (hg2 : Gl X "set") (hm2 : X.mg "set" = none) (ha : PE X a ta)
    (na : starEach [a] X.env = (false, eval a X.env) :: starEach [] X.env := by rfl) : PE X (.Call (.Name "len" p) [.Call (.Name "set" p2) [a] [] q] [] pos) (tLenSetI2 X.K ta) := by
  refine ⟨fun pins s σ H Q I h => ?_⟩
  refine Call_ (ld_blt I hg hm PySem.boot_len ?_)
  refine PyProof.Rows.callWith_builtin1 (PyProof.Rows.args_cons ?_ rfl) rfl rfl
  refine Call_ (ld_blt I hg2 hm2 PyProof.Rows.boot_set ?_)
  refine PyProof.Rows.callWith_type1 (PyProof.Rows.args_cons (thn (ha.run pins s σ H _ I h) fun v s1 ⟨x, H1, I1, r1, q1⟩ => PyProof.Rows.args_nil ?_) na) na rfl
  obtain ⟨l, ns, rfl, hq, h64, hnd, q1⟩ := q1
  cases r1
  obtain ⟨its, r, pl, hz⟩ := I1.tuple hq
  refine call_set_tupI ns (I1.ok.hd hc) pl (by simpa using r.ints) (by unfold scanBound; omega) fun h' tk c R hc' k => ?_
  refine PyProof.Rows.args_nil ?_
  obtain ⟨o, es, ep, t, ho, hex, hd, hge, hnk, hS, hsb, hf, hn, hr, hfo⟩ := R
  have e : c = ns.length := by
    refine Nat.le_antisymm hc' ?_
    have sub : ns ⊆ es.toList.map keyOf := fun x hx => (hS x).mp (decide_eq_true hx)
    have := hnd.length_le_of_subset sub
    rw [List.length_map] at this
    have e2 : es.toList.length = es.size := Array.length_toList
    omega
  have I2 : Inv X pins σ H1 { s1 with heap := h', toks := tk } := I1.kept fun b o e => k b o e
  refine call_len_set ho hex hd hf (by omega) ⟨.int ns.length, H1, I2.tok _, ⟨_, by rw [hn, e]⟩, q1⟩
end
def gLenSetI : D → Option D := fun d => match d with
  | .tuple ds => (intsOf ds).bind fun ns => if ns.length < 64 ∧ ns.Nodup then some (.int ns.length) else none
  | _ => none
section
variable {J : Jd} {ow : Owns}
theorem se_lenSetI {a : Expr} {f : Rho → M D} {p p2 q pos : Pos} (O : Ok J) (hm : J.X.mg "len" = none) (hm2 : J.X.mg "set" = none) (h : Se J ow a 0 f) (hg : Gl J.X "len" := by rfl) (hg2 : Gl J.X "set" := by rfl)
    (na : starEach [a] J.X.env = (false, eval a J.X.env) :: starEach [] J.X.env := by rfl) : Se J ow (.Call (.Name "len" p) [.Call (.Name "set" p2) [a] [] q] [] pos) 0 (eUn gLenSetI f) := by
  obtain ⟨t, pa, qa⟩ := h
  refine ⟨_, pe_lenSetI2 O.c hg hm hg2 hm2 pa na, fun c σ ρ P F H Q hc r w => ?_⟩
  refine qa c σ ρ P F H _ hc r (w.bnd.mono (fun x P1 h1 v F1 H1 A1 x1 => ?_) fun _ _ h => h)
  obtain ⟨d, e, q⟩ := h1.lift
  cases x1.rp with
  | tup ha rs =>
    rename_i ds
    obtain ⟨ns, e1, e2⟩ := Option.bind_eq_some_iff.mp (show (intsOf ds).bind (fun ns => if ns.length < 64 ∧ ns.Nodup then some (PyData.int ns.length) else none) = some d from e)
    split at e2
    · rename_i hz
      cases e2
      have ex := ints_rps rs e1
      subst ex
      exact ⟨_, ns, rfl, .inl (.inl (x1.rl.gd.sub _ _ ha)), hz.1, hz.2, q _ _ _ _ ((x1.rl.vp (.int _)).after x1.st)⟩
    · cases e2
  | _ => cases e
/-! e in d, d a dict of its own -/
theorem dGetO {F H : Hp} {a : Addr} {x : V} {dd j : D} {o : Option D} {A : List Addr} (s : Same F H) (ho : Ow F H 1 (.ref a) dd A) (hj : Rp F x j) (e : dAt dd j = some o) : ∃ r : Option V, DGet H a x r ∧ r.isSome = o.isSome := by
  cases ho with
  | dK hH rk =>
    rw [dAt_K rk, Option.map_eq_some_iff] at e
    obtain ⟨k, ek, rfl⟩ := e
    have ek := kOf_some ek
    subst ek
    have gg := DGet.k (k := k) hH
    rw [hj.key]
    rcases rk.look (k := k) with ⟨z1, z2⟩ | ⟨v, d', z1, z2, z3⟩
    · exact ⟨_, gg, by rw [z1, z2]; rfl⟩
    · exact ⟨_, gg, by rw [z1, z2]; rfl⟩
  | dT hH rk =>
    rename_i ks es
    have e : (kT j).map (look kT es) = some o := e
    obtain ⟨k, ek, rfl⟩ := Option.map_eq_some_iff.mp e
    cases hj with
    | tup hb rb =>
      have ek : kOfs _ = some k := ek
      rw [kOfs_some ek] at rb
      have gg := DGet.t (k := k) hH ((s _ _ hb).trans (by rw [rb.keys]))
      rcases rk.look (k := k) with ⟨z1, z2⟩ | ⟨v, d', z1, z2, z3⟩
      · exact ⟨_, gg, by rw [z1, z2]; rfl⟩
      · exact ⟨_, gg, by rw [z1, z2]; rfl⟩
    | _ => cases ek
  | lst _ _ => cases e
def eDinO (not : Bool) (i : Nat) (g : Rho → M D) : Rho → M D := fun ρ => bnd (g ρ) fun j => bnd (lift (dctAt ρ i)) fun x => lift (gDin not j x)
theorem te_dnotinO {i : Nat} {x : Str} {a : Expr} {f : Rho → M D} {p pos : Pos} (O : Ok J) (ha : Se J ow a 0 f) (hi : ow.lookup i = some 1 := by rfl) (hN : J.X.N[i]? = some x := by rfl) (hv : Vis J.X.env.scope x := by first | exact Or.inl rfl | exact Or.inr (Or.inl rfl) | exact Or.inr (Or.inr rfl)) (hd : (x == ("__debug__" : Str)) = false := by decide) (hcd : (x == ("__classdict__" : Str)) = false := by decide)
    (hm : behindInMarks .NotIn (.Name x p) = false := by rfl) : Te J ow (.Compare a [.NotIn] [.Name x p] pos) (tBool (eDinO true i f)) := by
  obtain ⟨ta, pa, qa⟩ := ha
  refine ⟨_, pt_cmp (pc_dnotin O.u1 pa (pe_var hN hv hd hcd)) hm, fun c σ ρ P F H Q hc rl h => ?_⟩
  have h := h.bnd
  refine qa c σ ρ P F H _ hc rl (h.bnd.mono (fun y P1 h1 v F1 H1 A1 x1 => ?_) fun _ _ h => h)
  obtain ⟨dd, el, h2⟩ := Wp.lift (Wp.bnd h1)
  obtain ⟨e1, es0, ed⟩ := dctAt_some el
  obtain ⟨v0, d0, A0, e0, e2, o0, nd0, fr0⟩ := x1.rl.hold hi
  rw [e1] at e0; cases e0
  obtain ⟨d, e, q⟩ := h2.lift
  obtain ⟨o, e3, rfl⟩ := Option.map_eq_some_iff.mp e
  have ex : ∃ a, v0 = .ref a := by
    cases o0 with
    | dK _ _ => exact ⟨_, rfl⟩
    | dT _ _ => exact ⟨_, rfl⟩
    | lst _ _ => exact ⟨_, rfl⟩
  obtain ⟨a0, rfl⟩ := ex
  obtain ⟨r, g, er⟩ := dGetO x1.rl.gd.sub o0 x1.rp e3
  have y := (x1.rl.vp (.bl (o.isSome != true))).after x1.st
  have q := Wp.ok q _ _ y.rl y.st
  refine ⟨.ref a0, e2, a0, r, rfl, g, _, rfl, ?_⟩
  rw [er]
  cases o with
  | none => exact q
  | some _ => exact q
end
end DL

end
section
set_option Elab.async false
set_option linter.all false
set_option maxRecDepth 100000
set_option maxHeartbeats 4000000
/-! ### zip of a tuple and a list -/
namespace DL
open PySem PySem.Spec PyProof.Rows L2
open PyProof.Rows (Call_)
def ItzM (K : PySem.W.Frag) (a b : Addr) (n1 n2 : Nat) : It :=
  ⟨fun i H => ∃ (xs ys : List V) (x y : V), SqT K H a xs ∧ SqL K H b ys ∧ xs.length = n1 ∧ ys.length = n2 ∧ xs[i]? = some x ∧ ys[i]? = some y,
    fun i H v H' => ∃ T x y, v = .ref T ∧ H T = none ∧ H' = upd H T (.tup [x, y]) ∧ (∀ xs, SqT K H a xs → xs[i]? = some x) ∧ ∀ ys, SqL K H b ys → ys[i]? = some y,
    fun i H => ∃ xs ys : List V, SqT K H a xs ∧ SqL K H b ys ∧ xs.length = n1 ∧ ys.length = n2 ∧ (n1 ≤ i ∨ n2 ≤ i)⟩
theorem vals_at {xs : List V} {its : List Value} (r : Vals xs its) {i : Nat} {x : V} {u : Value} (hx : xs[i]? = some x) (hu : its.toArray[i]? = some u) : RelV x u := by
  obtain ⟨w, hw, rw'⟩ := r.get hx
  rw [← Array.getElem?_toList] at hu
  have hu : its[i]? = some u := hu
  rw [hw] at hu; cases hu; exact rw'
theorem turn_zipM {P : Program} {w : World} {K : PySem.W.Frag} {elts : List Expr} {kk : Nat} {tpos : Pos} {a b z TI TO i1 i2 : Addr} {n1 n2 : Nat} (S : ZipSep2 z TI TO i1 i2 [i1, a] [i2, b]) (na : a ≠ i1) (nb : b ≠ i2) :
    Turn P w K (.Tuple elts kk tpos) (ItzM K a b n1 n2) [z, TI, TO, i1, i2] z (fun i h => i ≤ n1 ∧ i ≤ n2 ∧ IsZip h z TI TO .none ∧ IsTupOf2 h TI (.ref i1) (.ref i2) ∧ (∃ x y, IsTupOf2 h TO x y) ∧ h.IsTupleIter i1 a i ∧ h.IsListIter i2 b i) where
  mem := by simp
  obj := fun i h st c hc => by
    obtain ⟨_, _, hz, hTI, ⟨x, y, hTO⟩, ⟨o1, e1, _, d1⟩, ⟨o2, e2, _, d2⟩⟩ := st
    have e' : c = z ∨ c = TI ∨ c = TO ∨ c = i1 ∨ c = i2 := by simpa using hc
    rcases e' with q | q | q | q | q
    · rw [q]; exact ⟨_, hz, fun v q => nomatch q⟩
    · rw [q]; exact ⟨_, hTI, fun v q => nomatch q⟩
    · rw [q]; exact ⟨_, hTO, fun v q => nomatch q⟩
    · rw [q]; exact ⟨o1, e1, fun v q => by rw [d1] at q; cases q⟩
    · rw [q]; exact ⟨o2, e2, fun v q => by rw [d2] at q; cases q⟩
  keep := fun i h h' st k => by
    obtain ⟨l1, l2, hz, hTI, ⟨x, y, hTO⟩, h1, h2⟩ := st
    exact ⟨l1, l2, k z (by simp) _ hz, k TI (by simp) _ hTI, ⟨x, y, k TO (by simp) _ hTO⟩, h1.at fun o q => k i1 (by simp) o q, h2.at fun o q => k i2 (by simp) o q⟩
  item := by
    intro X hP hw hK hc i pins s σ H E I hf st hg
    subst hP hw hK
    obtain ⟨l1, l2, hz, hTI, ⟨x0, y0, hTO⟩, h1, h2⟩ := st
    obtain ⟨xs, ys, x, y, hqx, hqy, e1, e2, hx, hy⟩ := hg
    obtain ⟨its, rv, p, _⟩ := I.tuple hqx
    obtain ⟨its2, rv2, p2, _⟩ := I.list hqy
    have hh : X.A.in1.handled = none := by simp [I.ok.hd hc]
    have s1 : its.toArray.size = n1 := by rw [List.size_toArray, ← rv.length, e1]
    have s2 : its2.toArray.size = n2 := by rw [List.size_toArray, ← rv2.length, e2]
    have lt1 : i < n1 := by rw [← e1]; exact (List.getElem?_eq_some_iff.mp hx).1
    have lt2 : i < n2 := by rw [← e2]; exact (List.getElem?_eq_some_iff.mp hy).1
    have D1 := Draws.tuple (prog := X.prog) (w := X.w) hh i1 a na its.toArray
    have D2 := Draws.list (prog := X.prog) (w := X.w) hh i2 b nb its2.toArray
    have hzl : z < s.heap.objs.size := Heap.lt_size hz
    refine wpAny_pyNext_zipD2_item S D1 D2 hz hTI hTO ⟨h1, p⟩ ⟨h2, p2.isList⟩ (by rw [s1]; exact lt1) (by rw [s2]; exact lt2) fun u u2 h' tk P1 P2 z' TO' st1 st2 hT hsz hk => ?_
    have ru := vals_at rv hx P1
    have ru2 := vals_at rv2 hy P2
    refine ⟨_, rfl, wpAny_letOwnedTupleGo_zip (s := { s with heap := h', toks := tk }) z' fun h'' z'' sb => ?_⟩
    have hT2 : h''.get? s.heap.objs.size = some { cls := .type "tuple", data := .seq #[u, u2] } := (sb.2 _ (Nat.ne_of_gt hzl)).trans hT
    have new : ObjOk X.prog X.w (upd H s.heap.objs.size (.tup [x, y])) h'' s.heap.objs.size (.tup [x, y]) :=
      ⟨by show 2 ≤ sizeLine; decide, [u, u2], .cons ru (.cons ru2 .nil), ⟨_, hT2, rfl, _, rfl⟩⟩
    have I1 : Inv X pins σ (upd H s.heap.objs.size (.tup [x, y])) { s with heap := h'', toks := tk } :=
      I.turnedNew (t' := tk) (ch := [z, TI, TO, i1, i2]) (fun c o hb q => (sb.2 c (fun q' => hb (by simp [q']))).trans (hk c o (fun q' => hb (by simp [q'])) (fun q' => hb (by simp [q'])) (fun q' => hb (by simp [q'])) (fun q' => hb (by simp [q'])) q)) hf (Nat.le_refl _) new
    refine ⟨.ref s.heap.objs.size, _, I1, rfl, ⟨_, x, y, rfl, I.hok.fresh (Nat.le_refl _), rfl, fun l hl => by rw [I.tuple_inj hl hqx]; exact hx, fun l hl => by rw [I.list_inj hl hqy]; exact hy⟩, ⟨lt1, lt2, z'', ?_, ⟨u, u2, ?_⟩, ?_, ?_⟩, fun c hcm => ?_⟩
    · exact (sb.2 _ S.TIz).trans (hk _ _ S.TIz S.TITO S.TIi1 S.TIi2 hTI)
    · exact (sb.2 _ S.TOz).trans TO'
    · exact st1.1.at fun o q => (sb.2 _ (Ne.symm S.zi1)).trans q
    · exact st2.1.at fun o q => (sb.2 _ (Ne.symm S.zi2)).trans q
    · have hlt : c < s.heap.objs.size := by
        have e' : c = z ∨ c = TI ∨ c = TO ∨ c = i1 ∨ c = i2 := by simpa using hcm
        rcases e' with q | q | q | q | q
        · rw [q]; exact hzl
        · rw [q]; exact Heap.lt_size hTI
        · rw [q]; exact Heap.lt_size hTO
        · rw [q]; obtain ⟨_, e1, _⟩ := h1; exact Heap.lt_size e1
        · rw [q]; obtain ⟨_, e2, _⟩ := h2; exact Heap.lt_size e2
      rw [upd_ne (Nat.ne_of_lt hlt)]
      exact (hf c hcm).1
  done := by
    intro X hP hw hK hc i pins s σ H E I hf st hg
    subst hP hw hK
    obtain ⟨l1, l2, hz, hTI, ⟨x0, y0, hTO⟩, h1, h2⟩ := st
    obtain ⟨xs, ys, hqx, hqy, e1, e2, hend⟩ := hg
    obtain ⟨its, rv, p, _⟩ := I.tuple hqx
    obtain ⟨its2, rv2, p2, _⟩ := I.list hqy
    have hh : X.A.in1.handled = none := by simp [I.ok.hd hc]
    have s1 : its.toArray.size = n1 := by rw [List.size_toArray, ← rv.length, e1]
    have s2 : its2.toArray.size = n2 := by rw [List.size_toArray, ← rv2.length, e2]
    have D1 := Draws.tuple (prog := X.prog) (w := X.w) hh i1 a na its.toArray
    have D2 := Draws.list (prog := X.prog) (w := X.w) hh i2 b nb its2.toArray
    refine wpAny_pyNext_zipD2_end S D1 D2 hz hTI hTO ⟨h1, p⟩ ⟨h2, p2.isList⟩ (by rw [s1]; exact l1) (by rw [s2]; exact l2) (by rw [s1, s2]; omega) fun h' tk hk => ?_
    exact ⟨rfl, I.turnedL (t' := tk) (ch := [z, TI, TO, i1, i2]) (fun c o hb q =>
      hk c o (fun q' => hb (by simp [q'])) (fun q' => hb (by simp [q'])) (fun q' => hb (by simp [q'])) (fun q' => hb (by simp [q'])) q) hf⟩
  self := fun A i s Q E st h => wpAny_pyIter_zip st.2.2.1 h
def iZipM (K : PySem.W.Frag) (ta : TA) : TI := fun σ H R => ta σ H fun vs H1 => ∃ a b xs ys, vs = [.ref a, .ref b] ∧ SqT K H1 a xs ∧ SqL K H1 b ys ∧ R (ItzM K a b xs.length ys.length) H1
theorem pi_zipM {X : Cx} {e e2 : Expr} {ta : TA} {p pos tpos : Pos} {elts : List Expr} {kk : Nat} (hg : Gl X "zip") (hm : X.mg "zip" = none) (ha : PA X [e, e2] ta)
    (hs : starEach [e, e2] X.env = (false, eval e X.env) :: starEach [e2] X.env := by rfl) (hpl : (backTo pos (starEach [e2] X.env)).any (·.1) = false := by rfl) :
    PI X (.Tuple elts kk tpos) (.Call (.Name "zip" p) [e, e2] [] pos) (iZipM X.K ta) := by
  refine ⟨fun pins s σ H R I h => ?_⟩
  refine Call_ (ld_blt I hg hm PyProof.Rows.boot_zip (PyProof.Rows.callWith_type1 (thn (ha.run pos pins s σ H _ I h) fun us s1 ⟨vs, H1, I1, r1, q1⟩ => ?_) hs hpl))
  obtain ⟨a, b, xs, ys, ex, hqx, hqy, q⟩ := q1
  subst ex
  cases r1 with
  | cons r rr =>
    cases rr with
    | cons r' rr =>
      cases rr
      cases r
      cases r'
      have fresh5 : ∀ c, c ∈ [s1.heap.objs.size + 4, s1.heap.objs.size + 2, s1.heap.objs.size + 3, s1.heap.objs.size, s1.heap.objs.size + 1] → FpOk X pins H1 c := fun c hcm => by
        have e' : c = s1.heap.objs.size + 4 ∨ c = s1.heap.objs.size + 2 ∨ c = s1.heap.objs.size + 3 ∨ c = s1.heap.objs.size ∨ c = s1.heap.objs.size + 1 := by simpa using hcm
        have hle : s1.heap.objs.size ≤ c := by
          rcases e' with z | z | z | z | z
          · rw [z]; exact Nat.le_add_right _ _
          · rw [z]; exact Nat.le_add_right _ _
          · rw [z]; exact Nat.le_add_right _ _
          · rw [z]; exact Nat.le_refl _
          · rw [z]; exact Nat.le_add_right _ _
        exact I1.fpOk hle (I1.hok.fresh hle)
      obtain ⟨its, rv, p1, _⟩ := I1.tuple hqx
      obtain ⟨its2, rv2, p2, _⟩ := I1.list hqy
      obtain ⟨o1, ho1, _⟩ := id p1
      have hla : a < s1.heap.objs.size := Heap.lt_size ho1
      have hlb : b < s1.heap.objs.size := p2.lt
      refine zip_begins2 (begins_tuple a its.toArray) (begins_list b its2.toArray) p1 p2.isList fun h' hz hTI hTO h1 h2 hsz hk => wpAny_pyIter_zip hz ?_
      have I2 : Inv X pins σ H1 { s1 with heap := h' } := I1.kept (t' := s1.toks) hk
      have S := zip_sep2 (N := s1.heap.objs.size) (fp1 := [a]) (fp2 := [b]) (fun c hc => by rw [List.mem_singleton.mp hc]; exact hla) (fun c hc => by rw [List.mem_singleton.mp hc]; exact hlb)
      exact ⟨s1.heap.objs.size + 4, [s1.heap.objs.size + 4, s1.heap.objs.size + 2, s1.heap.objs.size + 3, s1.heap.objs.size, s1.heap.objs.size + 1], _, _, H1, rfl, I2, turn_zipM S (Nat.ne_of_lt hla) (Nat.ne_of_lt (Nat.lt_succ_of_lt hlb)), ⟨Nat.zero_le _, Nat.zero_le _, hz, hTI, ⟨_, _, hTO⟩, ⟨_, h1, rfl, rfl⟩, ⟨_, h2, rfl, rfl⟩⟩, fresh5, q⟩
def zpM : List D → Option (List D)
  | [.tuple a, .list b] => some (zipD a b)
  | _ => none
def iZM (f : Rho → M (List D)) : Rho → M (List D) := fun ρ => bnd (f ρ) fun ds => lift (zpM ds)
section
variable {J : Jd} {ow : Owns}
theorem si_zipM {a b : Expr} {p pos tpos : Pos} {elts : List Expr} {kk : Nat} {f : Rho → M (List D)} (hm : J.X.mg "zip" = none) (h : Sa J ow [a, b] f) (hg : Gl J.X "zip" := by rfl) (hs : starEach [a, b] J.X.env = (false, eval a J.X.env) :: starEach [b] J.X.env := by rfl) (hpl : (backTo pos (starEach [b] J.X.env)).any (·.1) = false := by rfl) :
    Si J ow (.Tuple elts kk tpos) (.Call (.Name "zip" p) [a, b] [] pos) (iZM f) := by
  obtain ⟨t, pa, la, q⟩ := h
  refine ⟨_, pi_zipM hg hm pa hs hpl, fun c σ ρ P F H R hc r w => ?_⟩
  refine q c σ ρ P F H _ hc r ((Wp.len (β := Unit) w.bnd fun ds P' z => la ρ P ds P' z).mono (fun ds P1 ⟨l1, h1⟩ vs F1 H1 r1 s1 rp => ?_) fun _ _ h => h)
  obtain ⟨xs, e, k⟩ := h1.lift
  cases rp with
  | nil => cases l1
  | cons hv rr =>
    cases rr with
    | nil => cases l1
    | cons hu rr =>
      cases rr with
      | cons _ _ => cases l1
      | nil =>
        cases hv with
        | tup h rs =>
          cases hu with
          | lst h' rs' =>
            cases e
            refine ⟨_, _, _, _, rfl, .inl (.inl (r1.gd.sub _ _ h)), .inl (.inl (r1.gd.sub _ _ h')), k _ F1 H1 r1 s1 (itd_of_zip rs rs' fun F' H' t1 t2 i => ?_)⟩
            have e : SqT J.X.K H' _ _ := .inl (.inl (t2 _ _ (t1 _ _ h)))
            have e' : SqL J.X.K H' _ _ := .inl (.inl (t2 _ _ (t1 _ _ h')))
            refine ⟨fun hi => ⟨_, _, e, e', rfl, rfl, hi⟩, fun x y hx hy => ⟨⟨_, _, x, y, e, e', rfl, rfl, hx, hy⟩, fun v H2 hz => ?_⟩⟩
            obtain ⟨T, x2, y2, e1, e2, e3, e4, e5⟩ := hz
            have z := e4 _ e
            rw [hx] at z; cases z
            have z := e5 _ e'
            rw [hy] at z; cases z
            exact ⟨T, e1, e2, e3⟩
          | _ => cases e
        | _ => cases e
end
end DL

end
section
set_option Elab.async false
set_option linter.all false
set_option maxRecDepth 100000
set_option maxHeartbeats 4000000
/-! ### a def whose one statement puts into its first argument, a list; its call -/
namespace DL
open PySem PySem.Spec L2
section
variable {P : Program} {w : World} {K : PySem.W.Frag} {mg : Str → Option Value} {base : Heap}
theorem fn_mut1 {x qual : Str} {st : Stmt} {f : Addr} {fd : FuncData} {N prs : List Str} {k n : Nat} {cl : String → Addr} {fb : Rho → M Oc} {bst : Stmt} (G : Fun K x qual st f fd) (S : FnScope N prs (defScope st)) (hn : prs.length = n + 1) (hm : prs.length ≤ N.length) (hb : defBody st = [bst])
    (body : ∀ (cdv : Value) (B : Around) (up : List Env) (s : Shared) (H : Hp) (E : XK), Ok (jd P w K mg base N qual (defScope st) f cdv B up s H E cl none) → Room k (jd P w K mg base N qual (defScope st) f cdv B up s H E cl none).X.A →
      ∃ t, PS (jd P w K mg base N qual (defScope st) f cdv B up s H E cl none).X bst t ∧ ∀ (c : Ctx) (σ : St) (ρ : Rho) (P' : Pool) (F H' : Hp) (a : Addr) (D : Ends), c.cl = cl → σ[0]? = some (some (.ref a)) → Rl c (none, false) [(0, 1)] σ ρ P' F H' →
        Wp (fb ρ P') (fun oc P2 => match oc with | .nx ρ2 => ∀ F2 H2 es' ys, ρ2[0]? = some (some (.list es')) → H2 a = some (.lst ys) → Rps F2 ys es' → F2 a = none → Gd c P2 F2 H2 → D.nx σ H2 | _ => False) (fun _ _ => False) → t D σ H') :
    FnG P w K mg base (k + 1) f fd prs (spM cl n fun ds => mutF fb (rho0 false N.length ds)) := by
  refine fnG_of G S (fun vs H Q E ⟨F, P0, a, xs, es, ds, ws, hv, hw, _⟩ => by rw [hv, List.length_cons, hw, hn]) fun cdv B up s H vs Q E hg hr ⟨F, P0, a, xs, es, ds, ws, hv, hw, hH, hFa, rx, rp, sub, wp⟩ => ?_
  have O : Ok (jd P w K mg base N qual (defScope st) f cdv B up s H E cl none) := ⟨hg, rfl, by have := hr.un; show (B.deeper _).units + 200 < cLine; omega, takes_of rfl rfl rfl rfl, S.nd, hr.hd⟩
  obtain ⟨t, pt, qt⟩ := body cdv B up s H E O hr
  rw [hb]
  refine ⟨_, pss_cons pt pss_nil, ?_⟩
  let c : Ctx := ⟨rmH H a, F, none, cl, none⟩
  have gd : Gd c P0 F H := ⟨sub, .refl _, fun _ _ h => .inl h, fun b o h _ => (rmH_some h).2, fun b h => by
    show rmH H a b = none
    unfold rmH; split
    · rfl
    · exact h, fun _ _ z => by cases z⟩
  have ld : ds.length = n := rp.length.symm.trans hw
  subst hv
  have hl0 : 0 < (rho0 false N.length (.list es :: ds)).length := by unfold rho0; simp
  have r0 : (rho0 false N.length (.list es :: ds))[0]? = some (some (.list es)) := rfl
  have rl : Rl c (none, false) [(0, 1)] (L2.start N (.ref a :: ws)) (rho0 false N.length (.list es :: ds)) P0 F H := by
    refine ⟨gd, ?_, (fun i e => by cases e), (fun e => by cases e), fun i d e hi => ?_, fun _ => [a], fun i k e => ?_, fun i j k l e1 e2 hij => ?_⟩
    · simp only [L2.start, rho0, List.length_append, List.length_map, List.length_replicate, Bool.false_eq_true, if_false, List.nil_append, List.length_cons, hw, ld, Nat.add_zero]
    · cases i with
      | zero => cases hi
      | succ i =>
        unfold rho0 at e
        unfold L2.start
        simp only [Bool.false_eq_true, if_false, List.nil_append, Nat.add_zero, List.map_cons, List.cons_append, List.getElem?_cons_succ] at e ⊢
        exact slots_some _ _ rp i d e
    · have hi : i = 0 ∧ k = 1 := by
        cases i with
        | zero => cases e; exact ⟨rfl, rfl⟩
        | succ i => cases e
      obtain ⟨rfl, rfl⟩ := hi
      exact ⟨.ref a, .list es, r0, rfl, .lst hH (Ows.ofRps rx), by simp, fun b hb => by
        rw [List.mem_singleton.mp hb]
        exact ⟨hFa, rmH_self, fun _ _ z => by cases z⟩⟩
    · exfalso
      have h1 : i = 0 := by
        cases i with
        | zero => rfl
        | succ i => cases e1
      have h2 : j = 0 := by
        cases j with
        | zero => rfl
        | succ j => cases e2
      omega
  refine qt c _ _ P0 F H a _ rfl rfl rl (Wp.mono (Wp.bnd wp) (fun oc P1 h1 => ?_) fun _ _ h => h)
  cases oc with
  | nx ρ1 =>
    intro F2 H2 es' ys e1 e2 e3 e4 g
    have h1 : Wp (bnd (lift (lstAt ρ1 0)) (fun es => ret (PyData.list es)) P1) _ _ := h1
    obtain ⟨es2, el, h1⟩ := Wp.lift (Wp.bnd h1)
    have e5 := lstAt_some el
    rw [e1] at e5; cases e5
    exact (Wp.ok h1) H2 F2 ys _ rfl e2 e3 g e4
  | rt d => exact h1.elim
  | bk ρ1 => exact h1.elim
  | ct ρ1 => exact h1.elim
end
section
variable {J : Jd} {ow owl : Owns} {kr : Nat}
/-- f(x, ..), where f puts into x, a list of the caller's own -/
def sMut (i : Nat) (fn : List D → M D) (g : Rho → M (List D)) : Rho → M Oc := fun ρ => bnd (lift (lstAt ρ i)) fun _ => bnd (g ρ) fun ds => bnd (lift (lstAt ρ i)) fun es => bnd (noX (noP (fn (.list es :: ds)))) fun d => match d with
  | .list es' => ret (.nx (ρ.set i (some (.list es'))))
  | _ => stuck
theorem s1_mut {i n j m : Nat} {x y : Str} {e : Expr} {es : List Expr} {p q0 cpos pos : Pos} {prs : List Str} {fn : List D → M D} {g : Rho → M (List D)} (O : Ok J) (hr : Room m J.X.A) (G : Fn J.X.prog J.X.w J.X.K J.X.mg J.X.base j y prs (spM J.cl n fn)) (ha : Sa J ow (e :: es) g) (hi : ow.lookup i = some 1 := by rfl) (hj : j ≤ m := by decide) (hn : (e :: es).length = n := by rfl)
    (hN : J.X.N[i]? = some x := by rfl) (hv : Vis J.X.env.scope x := by first | exact Or.inl rfl | exact Or.inr (Or.inl rfl) | exact Or.inr (Or.inr rfl)) (hd : (x == ("__debug__" : Str)) = false := by decide) (hcd : (x == ("__classdict__" : Str)) = false := by decide)
    (hg : Gl J.X y := by rfl) (hdb : (y == ("__debug__" : Str)) = false := by decide)
    (he : starEach (.Name x q0 :: e :: es) J.X.env = (false, eval (.Name x q0) J.X.env) :: starEach (e :: es) J.X.env := by rfl) (hpl : (backTo cpos (starEach (e :: es) J.X.env)).any (·.1) = false := by rfl)
    (hsw : swapsWith (.Call (.Name y p) (.Name x q0 :: e :: es) [] cpos) none pos.line J.X.env = pure false := by rfl) :
    S1 J ow ow owl kr (.Expr (.Call (.Name y p) (.Name x q0 :: e :: es) [] cpos) pos) (sMut i fn g) := by
  obtain ⟨f, fd, F0, h1, h2, h3⟩ := G
  obtain ⟨ta, pa, la, qa⟩ := ha
  refine ⟨_, ps_expr (pe_callG F0 O.g (hr.mono hj) hg h1 h2 h3 O.tk (pa_cons (pe_var hN hv hd hcd) pa he) hdb he hpl) hsw, fun c σ ρ P F H E hc r w => ?_⟩
  obtain ⟨es0, el, w⟩ := Wp.lift (Wp.bnd w)
  have e1 := lstAt_some el
  obtain ⟨a, xs, e2, hH, hs0, _⟩ := r.hold1 hi e1
  refine ⟨.ref a, e2, ?_⟩
  have both := Wp.len (C := fun ds : List D => ds.length = n) (β := Unit) (Wp.bnd w) fun ds P' z => (la ρ P ds P' z).trans hn
  refine qa c σ ρ P F H _ hc r (both.mono (fun ds P1 ⟨hn1, h4⟩ vs F1 H1 r1 s1 rp => ?_) ErrS.e)
  obtain ⟨es1, el2, h4⟩ := Wp.lift (Wp.bnd h4)
  rw [el] at el2; cases el2
  obtain ⟨a', xs1, f2, hH1, hs1, hF1, hH0, np⟩ := r1.hold1 hi e1
  rw [e2] at f2; cases f2
  refine ⟨F1, P1, a, xs1, es0, ds, vs, rfl, rp.length.trans hn1, hH1, hF1, hs1, rp, r1.gd.sub, ?_⟩
  refine (Wp.bnd h4).noX.noP.mono (fun d P2 q H' F' ys es' ed hya hrp gd' hF' => ?_) fun _ _ h => h
  subst ed
  have q : StP J c ow owl kr F E (.nx (ρ.set i (some (.list es')))) P1 := Wp.ok q
  have st : Stp c F1 H1 F' (upd H' a (.lst xs1)) := by
    refine ⟨gd'.f0, fun b o hb => ?_, fun b o hb _ => ?_, fun b hb => ?_⟩
    · rcases gd'.gr b o hb with h | h
      · exact .inl h
      · by_cases e : b = a
        · rw [e, hF'] at hb; cases hb
        · have h0 : rmH H1 a b = none := h
          rw [rmH_ne e] at h0; exact .inr h0
    · by_cases e : b = a
      · subst e; rw [upd_same, ← hb, hH1]
      · rw [upd_ne e]
        exact gd'.kp b o (by show rmH H1 a b = _; rw [rmH_ne e]; exact hb) (fun _ _ z => by cases z)
    · by_cases e : b = a
      · subst e; rw [upd_same] at hb; cases hb
      · rw [upd_ne e] at hb
        have h0 : rmH H1 a b = none := gd'.dm b hb
        rw [rmH_ne e] at h0
        exact h0
  have subU : Same F' (upd H' a (.lst xs1)) := fun b o hb => by
    by_cases e : b = a
    · rw [e, hF'] at hb; cases hb
    · rw [upd_ne e]; exact gd'.sub b o hb
  have pool : PoolAt c.pa P1 F' (upd H' a (.lst xs1)) := fun p0 r0 hpr => by
    obtain ⟨x0, x1, x2, x3, x4⟩ := r1.gd.pool p0 r0 hpr
    have nn := np p0 r0 hpr
    refine ⟨x0, ?_, ?_, ?_, ?_⟩
    · rw [upd_ne (Ne.symm nn.1)]; exact gd'.kp p0 _ (by show rmH H1 a p0 = _; rw [rmH_ne (Ne.symm nn.1)]; exact x1) (fun _ _ z => by cases z)
    · rw [upd_ne (Ne.symm nn.2)]; exact gd'.kp r0 _ (by show rmH H1 a r0 = _; rw [rmH_ne (Ne.symm nn.2)]; exact x2) (fun _ _ z => by cases z)
    · cases z : F' p0 with
      | none => rfl
      | some o => rcases gd'.gr p0 o z with h | h
                  · have h0 : F1 p0 = some o := h
                    rw [x3] at h0; cases h0
                  · have h0 : rmH H1 a p0 = none := h
                    rw [rmH_ne (Ne.symm nn.1), x1] at h0; cases h0
    · cases z : F' r0 with
      | none => rfl
      | some o => rcases gd'.gr r0 o z with h | h
                  · have h0 : F1 r0 = some o := h
                    rw [x4] at h0; cases h0
                  · have h0 : rmH H1 a r0 = none := h
                    rw [rmH_ne (Ne.symm nn.2), x2] at h0; cases h0
  have r2 := r1.grow st subU pool
  have r3 := r2.put1 (ys := ys) hi e1 e2 (show (upd H' a (.lst xs1)) a = some (.lst xs1) from upd_same) (hs1.mono gd'.f0) hrp
  have eH : upd (upd H' a (.lst xs1)) a (.lst ys) = H' := by
    funext b
    by_cases e : b = a
    · subst e; rw [upd_same, hya]
    · rw [upd_ne e, upd_ne e]
  rw [eH] at r3
  exact q σ F' H' r3 (s1.fs.trans gd'.f0)
end
end DL

end
section
set_option Elab.async false
set_option linter.all false
set_option maxRecDepth 100000
set_option maxHeartbeats 2000000
namespace DL
open PySem PySem.Spec L2
/-! ### list(d) of a dict of ints and texts -/
def gListD : List D → Option D
  | [.dict es] => match es with
    | (.none, .none) :: _ => none
    | es => some (.list (es.map (·.1)))
  | _ => none
theorem RpK.fst {F : Hp} : ∀ {ks : List (Key × V)} {es : List (D × D)}, RpK F ks es → Rps F (ks.map fun kv => kV kv.1) (es.map (·.1))
  | _, _, .nil => .nil
  | _, _, .cons h r => .cons (rp_key _) (RpK.fst r)
theorem gListD_K {F : Hp} {ks : List (Key × V)} {es : List (D × D)} (r : RpK F ks es) : gListD [.dict es] = some (.list (es.map (·.1))) := by
  cases r with
  | nil => rfl
  | cons h r => rename_i k0 _ _ _ _; cases k0 <;> rfl
theorem o_listD : OpL (fun xs H Q => ∃ (a : Addr) (kvs : List (Key × V)), xs = [V.ref a] ∧ Rd H a (.dK kvs) ∧ ∀ p, H p = none → Q (.ref p) (upd H p (.lst (kvs.map fun kv => kV kv.1)))) 1 gListD := fun F H xs as d Q s ha e k => by
  cases ha with
  | nil => cases e
  | cons h r => cases r with
    | cons _ _ => cases h <;> cases e
    | nil => cases h with
      | dK h r =>
        rw [gListD_K r] at e
        cases e
        exact ⟨_, _, rfl, .inl (s _ _ h), fun l hl => k _ _ _ _ (Nw.own s hl r.fst)⟩
      | dT h r => cases e
      | _ => cases e
end DL

end
section
set_option Elab.async false
set_option linter.all false
set_option maxRecDepth 100000
set_option maxHeartbeats 2000000
namespace DL
open PySem PySem.Spec L2
/-! ### an own exception without a field: C(), its __init__ only passes -/
theorem mk_endN {X : Cx} {pins : List (Addr × Obj)} {σ : St} {H1 H2 : Hp} {Q : XK} {hp hp2 h2 : Heap} {g1 g2 : Array GenState} {d1 d2 : Drawn} {t1 t2 : Nat} {os1 os2 : OsState} {a C : Addr} (T : Raises X (.ref C)) (I1 : Inv X pins σ H1 ⟨hp, g1, d1, t1, os1⟩)
    (ha : hp.objs.size ≤ a) (k : ∀ b o, hp.get? b = some o → hp2.get? b = some o) (un : Un (frs X.stack) [] (upd H1 a (exo a C none)) H2 hp2 h2) (hok : HOk X.prog X.w H2 h2) (ho : os2 = os1) (hb : PyProof.Rows.AllBare g2)
    (ea : H2 a = some (exo a C none)) (q : Q (.ref C) none (del H2 a)) : MkP X pins σ Q (.ref a) ⟨h2, g2, d2, t2, os2⟩ := by
  obtain ⟨t0, hoe⟩ := exo_at hok ea
  have hn : H1 a = none := I1.hok.fresh ha
  obtain ⟨G, g1', g2'⟩ := restrict h2 fun b => decide (b ≠ a)
  have gk : ∀ b, b ≠ a → G.get? b = h2.get? b := fun b hb => g1' b (decide_eq_true hb)
  have ge : G.get? a = none := g2' a (by simp)
  have nha : ∀ {b : Addr} {o : Obj}, hp.get? b = some o → b ≠ a := fun {b o} z => Nat.ne_of_lt (Nat.lt_of_lt_of_le (Heap.lt_size z) ha)
  have up : ∀ {b : Addr}, b ≠ a → H1 b = none → upd H1 a (exo a C none) b = none := fun {b} hb n => by rw [upd_ne hb]; exact n
  have U : Un (frs X.stack) [] H1 (del H2 a) hp G := {
    keep := fun b o z n hf hx => by
      rw [gk b (nha z)]
      exact un.keep b o (k b o z) (up (nha z) n) hf hx
    slot := fun b o z n hf hx => by
      rw [gk b (nha z)]
      exact un.slot b o (k b o z) (up (nha z) n) hf hx
    free := fun b o z n hx => by
      rw [del_ne (nha z)]
      exact un.free b o (k b o z) (up (nha z) n) hx
    there := fun b o z hx => by
      rw [gk b (nha z)]
      exact un.there b o (k b o z) hx
    tups := fun b xs z => by
      rw [del_ne (ne_of_none z hn)]
      exact un.tups b xs (by rw [upd_ne (ne_of_none z hn)]; exact z)
    frzs := fun b o v z => by
      rw [del_ne (ne_of_none z hn)]
      exact un.frzs b o v (by rw [upd_ne (ne_of_none z hn)]; exact z)
    tbls := fun b ps z => by
      rw [del_ne (ne_of_none z hn)]
      exact un.tbls b ps (by rw [upd_ne (ne_of_none z hn)]; exact z) }
  have hok3 : HOk X.prog X.w (del H2 a) G := fun b o z => by
    have hba : b ≠ a := fun e => by
      rw [e, del_same] at z
      cases z
    rw [del_ne hba] at z
    have noa : ∀ {c : Addr}, H2 c = some (.own b) → c ≠ a := fun {c} hc => at_ne ea hc exo_own
    exact (hok b o z).stay (fun c v hc y => by
        have hca : c ≠ a := by
          rcases hc with hc | hc
          · rw [hc]
            exact hba
          · exact noa hc
        rw [gk c hca]
        exact y)
      (fun c hc => by rw [del_ne (noa hc)]; exact hc) (fun c xs hc => by rw [del_ne (at_ne ea hc exo_tup)]; exact hc)
  have J : Inv X pins σ (del H2 a) ⟨G, g2, d2, t2, os2⟩ := I1.call' (ch := []) ho U hok3 hb (fun b z => absurd z (by simp))
  refine ⟨a, _, _, ⟨G, g2, d2, t2, os2⟩, _, .ref C, none, rfl, J, fun b o z => ?_, ge, hoe, ⟨rfl, rfl⟩, rfl, rfl, del_same, rfl, hb, T, q⟩
  by_cases hba : b = a
  · rw [hba, ge] at z
    cases z
  · exact (gk b hba).symm.trans z
def tMkN (C : Addr) (sp : Sp) : St → Hp → XK → Prop := fun σ H Q => ∀ a, H a = none → sp [.ref a] (upd H a (exo a C none)) (fun v H2 => v = .non ∧ H2 a = some (exo a C none) ∧ Q (.ref C) none (del H2 a)) (fun _ _ _ => False)
theorem pmk_oexN {X : Cx} {CX : CXT} {x : Str} {p pos : Pos} {C fI : Addr} {k : Nat} {fd : FuncData} {ps : List Str} {sp : Sp} (T : OexC X.K C) (iC : PySem.W.findIn X.K (.ref C) "__init__" = some (some (.ref fI))) (tI : PySem.W.typeIn X.K (.ref fI) = some (.type "function"))
    (F1 : FnOk X.prog X.w X.K X.mg X.base CX k fI fd ps sp) (hr : Room (k + 1) X.A) (hb : Binds X.K fd ps []) (hx : Passes CX X (fun _ _ _ => False)) (hg : Gl X x) (hm : X.mg x = some (.ref C))
    (hdb : (x == ("__debug__" : Str)) = false := by decide) : PMk X (.Call (.Name x p) [] [] pos) (tMkN C sp) := by
  intro pins s σ H Q I h
  obtain ⟨nm, q, N, bs, bm, sn, sub, ab, col, dd, k0, k1, k2, k3, k5, hC, hbm⟩ := T.cls
  refine wpAny_Call_Name_kw (ld_glob I hg hm ?_ hdb)
  refine PySem.W.callWith_K0 I.kIn T.kC ?_
  show wpAny _ _ (call (.ref C) []) _ _ _
  obtain ⟨hp, g, dr, tk, os⟩ := s
  have hsz : hp.objs.size ≤ hp.objs.size + 1 := Nat.le_succ _
  have hn : H (hp.objs.size + 1) = none := I.hok.fresh hsz
  have hq := h (hp.objs.size + 1) hn
  have kk : ∀ b o, hp.get? b = some o → ((hp.push (PySem.W.kdv_tup [])).push (PySem.HandSPX.excO C hp.objs.size)).get? b = some o := fun b o e => Heap.get?_push_of_some _ (Heap.get?_push_of_some _ e)
  have hget : ((hp.push (PySem.W.kdv_tup [])).push (PySem.HandSPX.excO C hp.objs.size)).get? (hp.objs.size + 1) = some (PySem.HandSPX.excO C hp.objs.size) := by heap_get
  have I2 : Inv X pins σ (upd H (hp.objs.size + 1) (exo (hp.objs.size + 1) C none)) ⟨(hp.push (PySem.W.kdv_tup [])).push (PySem.HandSPX.excO C hp.objs.size), g, dr, tk, os⟩ :=
    I.laid (t' := tk) (a := hp.objs.size + 1) (o := exo (hp.objs.size + 1) C none) (h' := (hp.push (PySem.W.kdv_tup [])).push (PySem.HandSPX.excO C hp.objs.size)) kk hsz (exo_ok hget)
  have r2 : Vals [V.ref (hp.objs.size + 1)] [Value.ref (hp.objs.size + 1)] := .cons rfl .nil
  have hl : [Value.ref (hp.objs.size + 1)].length = ps.length := by
    have e := F1.len _ _ _ _ hq
    exact e
  refine wpAny_call (PySem.HandSPX.call_own F.excBase_ValueError (fun Y => PySem.HandSPX.refsVE_contains Y bm hbm) (I.kIn _ _ hC) (PySem.W.looks_findIn I.kIn iC) (fun self => PySem.W.bind_fn I.kIn self tI) (Nat.zero_le _)
    (codeAny_mono (F1.run _ X.stack _ _ ⟨[Value.ref (hp.objs.size + 1)], []⟩ [Value.ref (hp.objs.size + 1)] _ _ (fun _ _ _ => False) (hr.make C [] []) (I2.env0.make C [] []) (by simpa using hb _ [Value.ref (hp.objs.size + 1)] I2.kIn hl) r2 hq) fun r s' hq' => ?_))
  cases r with
  | error er => exact hx pins σ _ _ er s' I2 hq'
  | ok fl =>
    cases fl with
    | ret u =>
      obtain ⟨v, H2, os2, bare2, un2, hok2, rv, ev, ea, q2⟩ := hq'
      subst ev
      obtain ⟨h2, g2, d2, t2, os'⟩ := s'
      exact ⟨rv, mk_endN (raises_own T.exC T.tyC) I hsz kk un2 hok2 os2 bare2 ea q2⟩
    | next => exact False.elim hq'
    | brk => exact False.elim hq'
    | cont => exact False.elim hq'
def spI0 : Sp := fun vs H Q E => ∃ a : Addr, vs = [.ref a] ∧ Q .non H
section
variable {P : Program} {w : World} {K : PySem.W.Frag} {mg : Str → Option Value} {base : Heap}
theorem init0_of {qual : Str} {st : Stmt} {fI : Addr} {fd : FuncData} {prs : List Str} {pos : Pos} (F : Fun K "__init__" qual st fI fd) (S : FnScope prs prs (defScope st)) (hp : prs.length = 1) (hb : defBody st = [.Pass pos]) : FnOk P w K mg base (L2.CX P w) 1 fI fd prs spI0 := by
  refine F.okX S (fun vs H Q E ⟨a, h, _⟩ => by rw [h, hp]; rfl) fun cdv B up s H vs Q E hr ⟨a, hv, k⟩ => ?_
  subst hv
  exact ⟨_, hb ▸ pss_cons ps_pass pss_nil, k⟩
end
/-- the class x of the text, without a field -/
structure X0 (P : Program) (w : World) (K : PySem.W.Frag) (mg : Str → Option Value) (base : Heap) (C : Addr) (x : Str) : Prop where
  gC : mg x = some (.ref C)
  T : OexC K C
  ini : ∃ (fI : Addr) (fd : FuncData) (prs : List Str), PySem.W.findIn K (.ref C) "__init__" = some (some (.ref fI)) ∧ PySem.W.typeIn K (.ref fI) = some (.type "function") ∧ FnOk P w K mg base (L2.CX P w) 1 fI fd prs spI0 ∧ Binds K fd prs []
def sRaise0 (x : String) : Rho → M Oc := fun _ P => some (.error ⟨x, none⟩, P)
section
variable {J : Jd} {ow ow' owl : Owns} {kr : Nat}
theorem s1_raise0 {x : String} {m : Nat} {p pos pos2 : Pos} (O : Ok J) (hr : Room m J.X.A) (X : X0 J.X.prog J.X.w J.X.K J.X.mg J.X.base (J.cl x) (Str.ofString x)) (hj : 2 ≤ m := by decide) (hg : Gl J.X (Str.ofString x) := by rfl) (hdb : (Str.ofString x == ("__debug__" : Str)) = false := by decide) :
    S1E J ow ow' owl kr (.Raise (some (.Call (.Name (Str.ofString x) p) [] [] pos)) none pos2) (sRaise0 x) := by
  obtain ⟨fI, fd, prs, i1, i2, i3, i4⟩ := X.ini
  refine ⟨_, ps_raise O.c O.tk (pmk_oexN X.T i1 i2 i3 (hr.mono hj) i4 passL hg X.gC hdb), fun c σ ρ P F H E hc r wp => ?_⟩
  refine fun a ha => ⟨a, rfl, rfl, upd_same, ?_⟩
  have eH : del (upd H a (exo a (J.cl x) none)) a = H := by
    funext b
    by_cases hb : b = a
    · subst hb; rw [del_same, ha]
    · rw [del_ne hb, upd_ne hb]
  rw [eH]
  exact (show ErrT J c ow ρ ⟨x, none⟩ P from wp) (.ref (J.cl x)) none σ F H r ⟨rfl, rfl⟩
end
end DL

end
section
set_option Elab.async false
set_option linter.all false
set_option maxRecDepth 100000
set_option maxHeartbeats 2000000
namespace DL
open PySem PySem.Spec L2
/-! ### an except suite that sets locals: expressions over the slots, isinstance(e, C), lists of these; if -/
abbrev suJ (J : Jd) (a : Addr) (oe : Obj) (pn : List (Addr × Obj)) : Jd := { X := J.X.suite a ((a, oe) :: pn), W := fun _ _ _ _ => False, cl := J.cl, ps := J.ps, cx := J.cx, cxm := J.cxm }
def ExN (J : Jd) (ex : Exn) (cls : Value) (d : Option Addr) : Prop := cls = .ref (J.cl ex.name) ∧ (ex.fld = none → d = none)
theorem ExAt.n {J : Jd} {ex : Exn} {F : Hp} {cls : Value} {d : Option Addr} {H : Hp} (h : ExAt J.cl ex F cls d H) : ExN J ex cls d := ⟨h.1, fun e => by have := h.2; rw [e] at this; exact this⟩
def Sy (J : Jd) (i : Nat) (a : Addr) (oe : Obj) (cls : Value) (d : Option Addr) (pn : List (Addr × Obj)) (ex : Exn) (e : Expr) (k : Nat) (f : Rho → M D) : Prop :=
  ∃ t, PE (J.X.suite a ((a, oe) :: pn)) e t ∧ ∀ (c : Ctx) (σ : St) (ρ : Rho) (P : Pool) (F H : Hp) (Q : VK), CxOk J c → Rl c J.ps [] σ ρ P F H → σ[i]? = some (some (.ref a)) → ExN J ex cls d →
    Wp (f ρ P) (fun x P' => ∀ v F' H' A, Vp c J.ps [] σ ρ F H P' k x v F' H' A → Q v H') (fun _ _ => False) → t σ H Q
def SyA (J : Jd) (i : Nat) (a : Addr) (oe : Obj) (cls : Value) (d : Option Addr) (pn : List (Addr × Obj)) (ex : Exn) (es : List Expr) (f : Rho → M (List D)) : Prop :=
  ∃ t, PA (J.X.suite a ((a, oe) :: pn)) es t ∧ ∀ (c : Ctx) (σ : St) (ρ : Rho) (P : Pool) (F H : Hp) (Q : List V → Hp → Prop), CxOk J c → Rl c J.ps [] σ ρ P F H → σ[i]? = some (some (.ref a)) → ExN J ex cls d →
    Wp (f ρ P) (fun ds P' => ∀ vs F' H', Rl c J.ps [] σ ρ P' F' H' → Stp c F H F' H' → Rps F' vs ds → Q vs H') (fun _ _ => False) → t σ H Q
def Sz (J : Jd) (i : Nat) (a : Addr) (oe : Obj) (cls : Value) (d : Option Addr) (pn : List (Addr × Obj)) (ex : Exn) (st : Stmt) (f : Rho → M Rho) : Prop :=
  ∃ t, PS (J.X.suite a ((a, oe) :: pn)) st t ∧ ∀ (c : Ctx) (σ : St) (ρ : Rho) (P : Pool) (F H : Hp) (E : Ends), CxOk J c → Rl c J.ps [] σ ρ P F H → σ[i]? = some (some (.ref a)) → ExN J ex cls d →
    Wp (f ρ P) (fun ρ' P' => ∀ σ' F' H', Rl c J.ps [] σ' ρ' P' F' H' → σ'[i]? = some (some (.ref a)) → Same F F' → E.nx σ' H') (fun _ _ => False) → t E σ H
def Szs (J : Jd) (i : Nat) (a : Addr) (oe : Obj) (cls : Value) (d : Option Addr) (pn : List (Addr × Obj)) (ex : Exn) (st : List Stmt) (f : Rho → M Rho) : Prop :=
  ∃ t, PSs (J.X.suite a ((a, oe) :: pn)) st t ∧ ∀ (c : Ctx) (σ : St) (ρ : Rho) (P : Pool) (F H : Hp) (E : Ends), CxOk J c → Rl c J.ps [] σ ρ P F H → σ[i]? = some (some (.ref a)) → ExN J ex cls d →
    Wp (f ρ P) (fun ρ' P' => ∀ σ' F' H', Rl c J.ps [] σ' ρ' P' F' H' → σ'[i]? = some (some (.ref a)) → Same F F' → E.nx σ' H') (fun _ _ => False) → t E σ H
section
variable {J : Jd} {i : Nat} {a : Addr} {oe : Obj} {cls : Value} {d : Option Addr} {pn : List (Addr × Obj)} {ex : Exn} {ow' owl : Owns} {kr : Nat}
theorem sy_of {e : Expr} {k : Nat} {f : Rho → M D} (h : Se (suJ J a oe pn) [] e k f) : Sy J i a oe cls d pn ex e k f := by
  obtain ⟨t, p, q⟩ := h
  exact ⟨t, p, fun c σ ρ P F H Q hc r _ _ w => q c σ ρ P F H Q ⟨hc.eq, hc.cx⟩ r (w.mono (fun _ _ h => h) fun _ _ h => h.elim)⟩
/-- isinstance(e, C) -/
def eIsE (tab : List (String × Bool)) (ex : Exn) : Rho → M D := fun _ => lift (if ex.fld = none then (tab.lookup ex.name).map .bool else none)
theorem sy_isE {n x : Str} {p p1 p2 pos : Pos} {tab : List (String × Bool)} {cv : Value} {c2 : V} (hm : J.X.mg "isinstance" = none) (hz : Zc cls d oe) (hf : ∃ vs, oe.data = .fields vs) (XC : ∀ b, tab.lookup ex.name = some b → ExcC J.X.K (J.cl ex.name) ∧ PySem.W.kitOne J.X.K (.ref (J.cl ex.name)) cv = some b)
    (h2 : PE (J.X.suite a ((a, oe) :: pn)) (.Name x p2) (tC c2)) (hcv : ∀ u, RelV c2 u → u = cv) (hg : Gl (J.X.suite a ((a, oe) :: pn)) "isinstance" := by rfl) (hN : (J.X.suite a ((a, oe) :: pn)).N[i]? = some n := by rfl) (hv : Vis (J.X.suite a ((a, oe) :: pn)).env.scope n := by first | exact Or.inl rfl | exact Or.inr (Or.inl rfl)) (hd : (n == ("__debug__" : Str)) = false := by decide) (hcd : (n == ("__classdict__" : Str)) = false := by decide)
    (he : starEach [.Name n p1, .Name x p2] (J.X.suite a ((a, oe) :: pn)).env = (false, eval (.Name n p1) (J.X.suite a ((a, oe) :: pn)).env) :: starEach [.Name x p2] (J.X.suite a ((a, oe) :: pn)).env := by rfl) (he2 : starEach [.Name x p2] (J.X.suite a ((a, oe) :: pn)).env = (false, eval (.Name x p2) (J.X.suite a ((a, oe) :: pn)).env) :: starEach [] (J.X.suite a ((a, oe) :: pn)).env := by rfl)
    (hpl : (backTo pos (starEach [.Name x p2] (J.X.suite a ((a, oe) :: pn)).env)).any (·.1) = false := by rfl) : Sy J i a oe cls d pn ex (.Call (.Name "isinstance" p) [.Name n p1, .Name x p2] [] pos) 0 (eIsE tab ex) := by
  by_cases hx : (cls = .ref (J.cl ex.name) ∧ d = none) ∧ ∃ b, tab.lookup ex.name = some b
  · obtain ⟨⟨rfl, rfl⟩, b, hb⟩ := hx
    obtain ⟨C, kb⟩ := XC b hb
    refine ⟨_, pe_callB (call_isE C hz hf) hg hm (by decide +kernel) (pa_cons (pe_var (i := i) hN hv hd hcd) (pa_cons h2 pa_nil he2) he) (by decide) (by decide) he hpl, fun c σ ρ P F H Q hc r hσ _ w => ?_⟩
    obtain ⟨z, ez, w⟩ := Wp.lift w
    split at ez
    · rw [hb] at ez
      cases ez
      exact ⟨.ref a, hσ, c2, cv, b, rfl, hcv, kb, w _ _ _ _ (r.vp (.bl b))⟩
    · cases ez
  · refine ⟨fun _ _ _ => False, ⟨fun pins s σ H Q I h => h.elim⟩, fun c σ ρ P F H Q hc r hσ en w => hx ?_⟩
    obtain ⟨z, ez, w⟩ := Wp.lift w
    split at ez
    · rename_i hfl
      obtain ⟨b, hb, _⟩ := Option.map_eq_some_iff.mp ez
      exact ⟨⟨en.1, en.2 hfl⟩, b, hb⟩
    · cases ez
theorem sya_nil : SyA J i a oe cls d pn ex [] (fun _ => ret []) := ⟨_, pa_nil, fun c σ ρ P F H Q hc r _ _ w => w [] F H r (.refl _ _ _) .nil⟩
theorem sya_cons {e : Expr} {es : List Expr} {f : Rho → M D} {g : Rho → M (List D)} (h : Sy J i a oe cls d pn ex e 0 f) (hr : SyA J i a oe cls d pn ex es g) (hs : starEach (e :: es) (J.X.suite a ((a, oe) :: pn)).env = (false, eval e (J.X.suite a ((a, oe) :: pn)).env) :: starEach es (J.X.suite a ((a, oe) :: pn)).env := by rfl) :
    SyA J i a oe cls d pn ex (e :: es) (eCons f g) := by
  obtain ⟨t, p, q⟩ := h
  obtain ⟨u, p2, q2⟩ := hr
  refine ⟨_, pa_cons p p2 hs, fun c σ ρ P F H Q hc r hσ en w => ?_⟩
  refine q c σ ρ P F H _ hc r hσ en ((Wp.bnd w).mono (fun x P1 h1 v F1 H1 A x1 => ?_) fun _ _ h => h)
  refine q2 c σ ρ P1 F1 H1 _ hc x1.rl hσ en ((Wp.bnd h1).mono (fun xs P2 h2 vs F2 H2 r2 s2 rp => ?_) fun _ _ h => h)
  exact (show ∀ vs F' H', Rl c J.ps [] σ ρ P2 F' H' → Stp c F H F' H' → Rps F' vs (x :: xs) → Q vs H' from h2) _ F2 H2 r2 (x1.st.trans s2) (.cons (x1.rp.mono s2.fs) rp)
theorem sy_lst {es : List Expr} {g : Rho → M (List D)} {pos} (h : SyA J i a oe cls d pn ex es g) : Sy J i a oe cls d pn ex (.List es pos) 1 (eLst g) := by
  obtain ⟨ta, pa, qa⟩ := h
  refine ⟨_, pe_lst pa, fun c σ ρ P F H Q hc rl hσ en w => ?_⟩
  refine qa c σ ρ P F H _ hc rl hσ en ((Wp.bnd w).mono (fun ds P1 h1 vs F1 H1 r1 s1 rp => ?_) fun _ _ h => h)
  by_cases hz : ds.length ≤ 1000000
  · rw [if_pos hz] at h1
    exact ⟨line_of (by rw [rp.length]; exact hz), fun p hp => Wp.ok h1 _ _ _ _ ((r1.nw (Nw.own r1.gd.sub hp rp)).after s1)⟩
  · rw [if_neg hz] at h1; exact h1.elim
/-- a new list is frozen -/
theorem sy_frz {e : Expr} {k : Nat} {f : Rho → M D} (h : Sy J i a oe cls d pn ex e k f) : Sy J i a oe cls d pn ex e 0 f := by
  obtain ⟨t, p, q⟩ := h
  exact ⟨t, p, fun c σ ρ P F H Q hc r hσ en w => q c σ ρ P F H Q hc r hσ en (w.mono (fun x P1 h1 v F1 H1 A x1 => h1 v _ _ _ (r.frz x1)) fun _ _ h => h)⟩
theorem sy_op {x y : Expr} {pos : Pos} {f f' : Rho → M D} {op : Operator} {r : R2} {k : Nat} {g : D → D → Option D} (ho : OpR (J.X.suite a ((a, oe) :: pn)) (binaryOp op) r) (hr : Op2 r k g) (hx : Sy J i a oe cls d pn ex x 0 f) (hy : Sy J i a oe cls d pn ex y 0 f') : Sy J i a oe cls d pn ex (.BinOp x op y pos) k (eOp g f f') := by
  obtain ⟨ta, pa, qa⟩ := hx
  obtain ⟨tb, pb, qb⟩ := hy
  refine ⟨_, pe_op ho pa pb, fun c σ ρ P F H Q hc rl hσ en h => ?_⟩
  refine qa c σ ρ P F H _ hc rl hσ en ((Wp.bnd h).mono (fun x P1 h1 v F1 H1 A1 x1 => ?_) fun _ _ h => h)
  refine qb c σ ρ P1 F1 H1 _ hc x1.rl hσ en ((Wp.bnd h1).mono (fun y P2 h2 u F2 H2 A2 x2 => ?_) fun _ _ h => h)
  obtain ⟨d, e, q⟩ := Wp.lift h2
  exact hr F2 H2 v u x y d _ x2.rl.gd.sub (x1.rp.mono x2.st.fs) x2.rp e fun z F3 H3 A3 n => q z F3 H3 A3 (((x2.rl.nw n).after x2.st).after x1.st)
/-- x = e -/
def zSet (j : Nat) (f : Rho → M D) : Rho → M Rho := fun ρ => bnd (f ρ) fun x => if j < ρ.length then ret (ρ.set j (some x)) else stuck
theorem sz_set {j : Nat} {x : Str} {e : Expr} {f : Rho → M D} {pos pos' : Pos} (h : Sy J i a oe cls d pn ex e 0 f) (hij : j ≠ i := by decide) (hps : Fre J.ps j := by exact ⟨by simp, by simp⟩) (nd : (J.X.suite a ((a, oe) :: pn)).N.Nodup) (hN : (J.X.suite a ((a, oe) :: pn)).N[j]? = some x := by rfl) (hx : Loc (J.X.suite a ((a, oe) :: pn)).env.scope x := by first | exact Or.inl rfl | exact Or.inr rfl)
    (hs : swapsWith e (some (.Name x pos')) pos.line (J.X.suite a ((a, oe) :: pn)).env = pure false := by rfl) (hf : (J.X.suite a ((a, oe) :: pn)).fn x = true ∨ (J.X.suite a ((a, oe) :: pn)).env.scope.names.lookup x = some .local := by first | exact .inl rfl | exact .inr rfl) :
    Sz J i a oe cls d pn ex (.Assign [.Name x pos'] e pos) (zSet j f) := by
  obtain ⟨t, p, q⟩ := h
  refine ⟨_, ps_set nd hN hx p hs hf, fun c σ ρ P F H E hc r hσ en w => ?_⟩
  refine q c σ ρ P F H _ hc r hσ en ((Wp.bnd w).mono (fun x P1 h1 v F1 H1 A z => ?_) fun _ _ h => h)
  by_cases hl : j < ρ.length
  · rw [if_pos hl] at h1
    refine Wp.ok h1 _ F1 H1 (z.rl.set z.rp rfl hps hl) ?_ z.st.fs
    rw [List.getElem?_set_ne hij]; exact hσ
  · rw [if_neg hl] at h1; exact h1.elim
theorem szs_nil : Szs J i a oe cls d pn ex [] ret := ⟨_, pss_nil, fun c σ ρ P F H E hc r hσ en w => w σ F H r hσ (.refl _)⟩
def zSeq (f g : Rho → M Rho) : Rho → M Rho := fun ρ => bnd (f ρ) g
theorem szs_cons {st : Stmt} {rest : List Stmt} {f g : Rho → M Rho} (h : Sz J i a oe cls d pn ex st f) (k : Szs J i a oe cls d pn ex rest g) : Szs J i a oe cls d pn ex (st :: rest) (zSeq f g) := by
  obtain ⟨t, p, q⟩ := h
  obtain ⟨u, p2, q2⟩ := k
  refine ⟨_, pss_cons p p2, fun c σ ρ P F H E hc r hσ en w => ?_⟩
  refine q c σ ρ P F H _ hc r hσ en ((Wp.bnd w).mono (fun ρ1 P1 h1 σ1 F1 H1 r1 hσ1 s1 => ?_) fun _ _ h => h)
  exact q2 c σ1 ρ1 P1 F1 H1 E hc r1 hσ1 en (h1.mono (fun ρ2 P2 h2 σ2 F2 H2 r2 hσ2 s2 => h2 σ2 F2 H2 r2 hσ2 (s1.trans s2)) fun _ _ h => h)
/-- if e: .. -/
def zIf (f : Rho → M D) (g : Rho → M Rho) : Rho → M Rho := fun ρ => bnd (f ρ) fun x => match x with | .bool true => g ρ | .bool false => ret ρ | _ => stuck
theorem sz_if {e : Expr} {f : Rho → M D} {g : Rho → M Rho} {body : List Stmt} {pos} (h : Sy J i a oe cls d pn ex e 0 f) (hb : Szs J i a oe cls d pn ex body g) (he : ∀ whole, isTrue e (J.X.suite a ((a, oe) :: pn)).env whole = (do let v ← whole; standAt e.pos; holding [v] (truthy v)) := by intro _; rfl) : Sz J i a oe cls d pn ex (.If e body [] pos) (zIf f g) := by
  obtain ⟨t, p, q⟩ := h
  obtain ⟨u, p2, q2⟩ := hb
  refine ⟨_, ps_if (pt_val p he) p2 pss_nil, fun c σ ρ P F H E hc r hσ en w => ?_⟩
  refine q c σ ρ P F H _ hc r hσ en ((Wp.bnd w).mono (fun x P1 h1 v F1 H1 A z => ?_) fun _ _ h => h)
  cases z.rp with
  | bl b =>
    cases b with
    | true => exact ⟨true, rfl, q2 c σ ρ P1 F1 H1 E hc z.rl hσ en (Wp.mono (show Wp (g ρ P1) _ _ from h1) (fun ρ2 P2 h2 σ2 F2 H2 r2 hσ2 s2 => h2 σ2 F2 H2 r2 hσ2 (z.st.fs.trans s2)) fun _ _ h => h)⟩
    | false => exact ⟨false, rfl, (show ∀ σ' F' H', Rl c J.ps [] σ' ρ P1 F' H' → σ'[i]? = some (some (.ref a)) → Same F F' → E.nx σ' H' from h1) σ F1 H1 z.rl hσ z.st.fs⟩
  | _ => exact h1.elim
def suSet (g : Exn → Rho → M Rho) : Exn → Rho → M Oc := fun ex ρ => bnd (g ex ρ) fun ρ' => ret (.nx ρ')
theorem su_set {st : List Stmt} {g : Exn → Rho → M Rho} (h : Szs J i a oe cls d pn ex st (g ex)) : SuE J i a oe cls d pn ex [] [] owl kr st (suSet g ex) := by
  obtain ⟨t, p, q⟩ := h
  refine ⟨t, p, fun c σ ρ P F H E hc r hσ ea w => ?_⟩
  exact q c σ ρ P F H E hc r hσ ea.n ((Wp.bnd w).mono (fun ρ1 P1 h1 σ1 F1 H1 r1 _ s1 => (show StP J c [] owl kr F E (.nx ρ1) P1 from h1) σ1 F1 H1 r1 s1) fun _ _ h => h)
end
end DL

end
section
set_option Elab.async false
set_option linter.all false
set_option maxRecDepth 100000
set_option maxHeartbeats 4000000
/-! ### sorted(xs) of tuples, the first of them empty -/
namespace SE
open PySem PySem.Calls PySem.SeqAt PySem.W PyProof.Rows
section
variable {A : Around} {s : Shared}
theorem call_tuple_lt {prog : Program} {w : World} {E : Value → Shared → Prop} {Q : Value → Shared → Prop} {l b : Addr} {items items2 : Array Value} {e r : Nat → Bool} (hl : s.heap.IsTuple l items) (hb : s.heap.IsTuple b items2)
    (he : ∀ j (h1 : j < items.size) (h2 : j < items2.size), EqAt A.in1 s items[j] items2[j] (e j)) (hr : ∀ j (h1 : j < items.size) (h2 : j < items2.size), e j = false → RcLt A.in1 s items[j] items2[j] (r j))
    (h : Q (.bool (firstLt e r (decide (items.size < items2.size)) (List.range (min items.size items2.size)))) s) : wpAny (model prog w) A (call (.builtin "tuple.__lt__") [.ref l, .ref b]) Q E s := by
  obtain ⟨⟨cls, dd, data, sl⟩, ho, hc, n, hd⟩ := id hl
  obtain ⟨⟨cls2, dd2, data2, sl2⟩, ho2, hc2, n2, hd2⟩ := id hb
  simp only at hc hd hc2 hd2
  subst hc hd hc2 hd2
  exact call_meets F.slot_tuple_lt ⟨_, ho, rfl⟩ F.entry_tuple_lt (F.args_tuple_lt_2 _ _) (tuple_ltAt l b items items2 n n2 dd dd2 sl sl2 e r) ⟨ho, ho2, he, hr, h⟩
end
section
variable {prog : Program} {w : World} {A : Around} {s : Shared} {E : Value → Shared → Prop}
theorem oneLt_tup {xs ys : List PyData} {a b : Value} {as bs : List Addr} {Q : Bool → Shared → Prop} (ra : Reads s.heap a (.tuple xs) as) (rb : Reads s.heap b (.tuple ys) bs) (hal : alikeAll xs ys = true)
    (hu : A.units + min (PyData.depth (.tuple xs)) (PyData.depth (.tuple ys)) < cLine) (hq : Q (dataLt (.tuple xs) (.tuple ys)) s) : wpAny (model prog w) A (oneLt' true a b) Q E s := by
  cases ra with
  | @tuple l o vs n _ as₁ h1 h2 h3 h4 =>
    cases rb with
    | @tuple l' o' vs' n' _ bs₁ k1 k2 k3 k4 =>
      have n1 : vs.size = xs.length := by simpa using ReadsAll.length _ _ _ h4
      have n2 : vs'.size = ys.length := by simpa using ReadsAll.length _ _ _ k4
      rw [dataLt_tuple, ← firstLt_toks xs ys hal, ← n1, ← n2] at hq
      rw [oneLt'_eq]
      simp only [if_true]
      refine wpAny_bind (wpAny_cRoomFor (room_here hu) ?_)
      refine wpAny_bind (wpAny_callSpecialIfBound?_slot (T := "tuple") ⟨_, h1, h2⟩ F.slot_tuple_lt (call_tuple_lt (e := pairEq xs ys) (r := fun j => dataLt (xs.getD j .none) (ys.getD j .none)) ⟨_, h1, h2, _, h3⟩ ⟨_, k1, k2, _, k3⟩ (fun j j1 j2 => ?_) (fun j j1 j2 hj => ?_) ?_))
      · have := eqAt_alikeAll xs ys A.in1 s vs.toList vs'.toList _ _ h4 k4 hal (room_in hu) j (by simpa using j1) (by simpa using j2)
        simpa using this
      · have := rcLt_alikeAll xs ys A.in1 s vs.toList vs'.toList _ _ h4 k4 hal (room_in hu) j (by simpa using j1) (by simpa using j2) hj
        simpa using this
      · exact wpAny_truthy_bool hq
end
def KatT (h : Heap) : List Value → List (Option Value) → Prop
  | [], [] => True
  | v :: vs, f :: fs => (∃ a o xs n, v = .ref a ∧ h.get? a = some o ∧ o.cls = .type "tuple" ∧ o.data = .seq xs n ∧ xs[0]? = f) ∧ KatT h vs fs
  | _, _ => False
section
variable {M : Model} {A : Around} {E : Value → Shared → Prop} {s : Shared}
theorem firsts : ∀ (vs : List Value) (fs : List (Option Value)) {Q : List (Option Value) → Shared → Prop}, KatT s.heap vs fs → Q fs s → wpAny M A (vs.mapM firstOfTuple') Q E s
  | [], [], _, _, h => by rw [List.mapM_nil]; exact wpAny_pure h
  | [], _ :: _, _, t, _ => t.elim
  | _ :: _, [], _, t, _ => t.elim
  | v :: vs, f :: fs, Q, t, h => by
    obtain ⟨⟨a, o, xs, n, rfl, ho, hc, hd, hf⟩, t⟩ := t
    rw [List.mapM_cons]
    refine wpAny_bind ?_
    rw [kas_first_eq]
    refine wpAny_bind (Looks.here (show Looks M s.heap (typeOf (.ref a)) o.cls from (Looks.ld ho).andThen .now) ?_)
    rw [hc, if_neg (by first | decide | simp)]
    refine wpAny_bind (listItems_at ho hd (wpAny_pure ?_))
    rw [hf]
    exact wpAny_bind (firsts vs fs (Q := fun bs s' => wpAny M A (pure (f :: bs)) Q E s') t (wpAny_pure h))
theorem kindE {vs : List Value} {fs : List (Option Value)} {Q : SortKind → Shared → Prop} (t : KatT s.heap vs (none :: fs)) (hT : ∀ v ∈ vs, Looks M s.heap (typeOf v) (.type "tuple")) (h : Q oneType' s) :
    wpAny M A (keyKind' vs.toArray) Q E s := by
  rw [kat_kind_eq, List.mapM_toArray, map_eq_pure_bind]
  refine wpAny_bind (wpAny_bind (firsts vs _ t (wpAny_pure ?_)))
  rw [if_neg (by simp), if_neg (by simp)]
  rw [oneTypeOnly'_eq, List.mapM_toArray, map_eq_pure_bind]
  refine wpAny_bind (wpAny_bind (wpAny_bind (kas_mapM (r := .type "tuple") _ (fun v hv Q' hq => (hT v hv).here hq) (wpAny_pure ?_))))
  cases vs with
  | nil => exact t.elim
  | cons v₁ vs =>
    have hall : ((List.map (fun _ => Value.type "tuple") (v₁ :: vs)).toArray.all fun x => x == Value.type "tuple") = true := by
      simp only [List.all_toArray, List.all_map, List.all_eq_true]
      intro _ _
      exact beq_self_eq_true _
    have h0 : (List.map (fun _ => Value.type "tuple") (v₁ :: vs)).toArray[0]? = some (Value.type "tuple") := by simp
    rw [h0]
    simp only [hall, if_true]
    exact wpAny_pure (wpAny_pure h)
end
theorem katT_of {h : Heap} : ∀ {vs : List Value} {ds : List PyData}, EachIs (fun v d => ∃ as, Reads h v d as) vs ds → (∀ d, d ∈ ds → ∃ xs, d = .tuple xs) → ∃ fs, KatT h vs fs ∧ ∀ r, ds = .tuple [] :: r → ∃ gs, fs = none :: gs
  | _, _, .nil, _ => ⟨[], trivial, fun r e => nomatch e⟩
  | _, _, .cons (b := d) ⟨as, r⟩ t, ht => by
    obtain ⟨fs, h1, _⟩ := katT_of t fun d hd => ht d (List.mem_cons_of_mem _ hd)
    obtain ⟨xs0, rfl⟩ := ht d (List.mem_cons_self ..)
    cases r with
    | @tuple a o xs n _ _ ho hc hd hr =>
      refine ⟨xs[0]? :: fs, ⟨⟨a, o, xs, n, rfl, ho, hc, hd, rfl⟩, h1⟩, fun r e => ?_⟩
      have : xs0 = [] := by have := (List.cons.inj e).1; simpa using this
      subst this
      have : xs.toList = [] := by
        cases q : xs.toList with
        | nil => rfl
        | cons x y => rw [q] at hr; cases hr
      have : xs[0]? = none := by rw [← Array.getElem?_toList, this]; rfl
      rw [this]
      exact ⟨fs, rfl⟩
section
variable {prog : Program} {w : World} {A : Around} {s : Shared} {E : Value → Shared → Prop}
theorem sortsAt {vs : List Value} {ds : List PyData} (e : EachIs (fun v d => ∃ as, Reads s.heap v d as) vs ds) (hal : AllAlike ds) (ht : ∀ d, d ∈ ds → ∃ xs, d = .tuple xs) (h0 : ∃ r, ds = .tuple [] :: r) (hu : ∀ d, d ∈ ds → A.units + d.depth < cLine) : SortsAt prog w A s (dataKind s.heap ds) vs := by
  have room : ∀ {d d' : PyData}, d ∈ ds → A.units + min d.depth d'.depth < cLine := fun {d d'} hd => Nat.lt_of_le_of_lt (Nat.add_le_add_left (Nat.min_le_left _ _) _) (hu d hd)
  refine ⟨fun v hv => ?_, oneType', ?_, fun h2 E Q hq => ?_⟩
  · obtain ⟨d, hd, as, r⟩ := e.left v hv
    exact ⟨_, dataKind_some hal hd r⟩
  · intro E x y a b Q ha hb hq
    obtain ⟨d, as, hd, ra, rfl⟩ := dataKind_inv ha
    obtain ⟨d', as', hd', rb, rfl⟩ := dataKind_inv hb
    have hdd := hal d hd d' hd'
    have hroom := room (d' := d') hd
    obtain ⟨x1, rfl⟩ := ht d hd
    obtain ⟨x2, rfl⟩ := ht d' hd'
    rw [keyLt'_oneType]
    exact oneLt_tup ra rb (by simpa [alike] using hdd) hroom hq
  · obtain ⟨fs, t1, t2⟩ := katT_of e ht
    obtain ⟨r, hr⟩ := h0
    obtain ⟨gs, rfl⟩ := t2 r hr
    refine kindE t1 (fun v hv => ?_) hq
    obtain ⟨d, hd, as, r⟩ := e.left v hv
    obtain ⟨xs, rfl⟩ := ht d hd
    exact looks_reads r
theorem sorted_dataE {β : Type} {bs : List β} {enc : β → PyData} {R : Value → β → Prop} {vs : List Value} {l : Addr} {Q : Value → Shared → Prop} (hl : s.heap.IsList l vs.toArray) (e : EachIs R vs bs) (er : EachIs (fun v b => ∃ as, Reads s.heap v (enc b) as) vs bs) (hal : AllAlike (bs.map enc)) (ht : ∀ d, d ∈ bs.map enc → ∃ xs, d = .tuple xs) (h0 : ∃ r, bs.map enc = .tuple [] :: r) (hL : bs.length ≤ sizeLine)
    (hu : ∀ b, b ∈ bs → A.units + 2 + (enc b).depth < cLine) (h : ∀ out, out.length = bs.length → EachIs R out (bs.mergeSort (dataLe false enc)) → Q (.ref (s.heap.objs.size + 1)) { s with heap := sortedAll s.heap vs (List.toArray out) }) :
    wpAny (model prog w) A (call (.builtin "sorted") [.ref l]) Q E s := by
  have er' : EachIs (fun v b => ∃ as, Reads (sortingHeap (copyHeap s.heap vs) (s.heap.objs.size + 1) vs) v (enc b) as) vs bs := er.mono fun _ _ ⟨as, r⟩ => ⟨as, PyProof.Rows.Reads.keeps (fun _ _ => sorting_copy_old) r⟩
  exact sorted_vals hl (sortsAt (s := { s with heap := sortingHeap (copyHeap s.heap vs) (s.heap.objs.size + 1) vs }) (each_map (R := fun v d => ∃ as, Reads (sortingHeap (copyHeap s.heap vs) (s.heap.objs.size + 1) vs) v d as) enc er') hal ht h0 (bound_map hu)) (by rw [e.length]; exact hL)
    (h _ (by rw [sortVals_length false rfl]; exact e.length) (sortVals_data false e er' hal))
end
end SE
namespace DL
open PySem PySem.Spec L2
def rSortedE (K : PySem.W.Frag) : List V → Hp → VK → Prop := fun vs H Q => ∃ (a : Addr) (xs : List V) (ds : List D), vs = [V.ref a] ∧ SqL K H a xs ∧ DpAll K H xs ds ∧ W.AllAlike ds ∧ (∀ d ∈ ds, ∃ xs, d = .tuple xs) ∧ (∃ r, ds = .tuple [] :: r) ∧ (∀ d ∈ ds, d.depth ≤ 60) ∧
   ∀ (zs : List (D × V)) (p : Addr), zs.Perm (ds.zip xs) → zs.map Prod.fst = ds.mergeSort (W.dataLe false id) → H p = none → Q (.ref p) (upd H p (.lst (zs.map Prod.snd)))
section
variable {X : Cx}
theorem cr_sortedE (hu : X.A.units + 64 < cLine) : CallR X (.builtin "sorted") (rSortedE X.K) := by
  intro pins s σ H vs us Q I r h
  obtain ⟨a, xs, ds, rfl, hs, hd, hal, ht, h0, hdep, q⟩ := h
  obtain ⟨its, rv, hl, hz⟩ := I.list hs
  rw [Vals.ref1 r]
  obtain ⟨as, ra⟩ := Dp.readsAll I ds xs its hd rv
  have hl' : ds.length = xs.length := (dpAll_len hd).symm
  have e1 : (ds.zip xs).map Prod.fst = ds := List.map_fst_zip (Nat.le_of_eq hl')
  have e2 : ((ds.zip xs).mergeSort (W.dataLe false Prod.fst)).map Prod.fst = ds.mergeSort (W.dataLe false id) := by
    rw [W.sort_maps (r := W.dataLe false Prod.fst) (s := W.dataLe false id) Prod.fst fun p _ q _ => rfl, e1]
  refine SE.sorted_dataE (β := D × V) (bs := ds.zip xs) (enc := Prod.fst) (R := fun u p => RelV p.2 u) hl.isList (each_of_vals rv ds hl') (W.readsAll_each (enc := Prod.fst) (e1 ▸ ra)) (by rw [e1]; exact hal) (by rw [e1]; exact ht) (by rw [e1]; exact h0) ?_ (fun b hb => ?_) fun out ho he => ?_
  · rw [List.length_zip, hl', Nat.min_self]; exact hz
  · have := hdep b.1 (by rw [← e1]; exact List.mem_map.mpr ⟨b, hb, rfl⟩)
    omega
  · obtain ⟨ep, he'⟩ := PyProof.Rows.sortedAll_at s.heap its out.toArray
    have rv' := vals_of_each he
    have pm : ((ds.zip xs).mergeSort (W.dataLe false Prod.fst)).Perm (ds.zip xs) := List.mergeSort_perm _ _
    refine ⟨.ref _, upd H (s.heap.objs.size + 1) (.lst (((ds.zip xs).mergeSort (W.dataLe false Prod.fst)).map Prod.snd)), I.laid (t' := s.toks) (fun _ _ => PyProof.Rows.sortedAll_old) (Nat.le_succ _) ⟨?_, out, ep, rv', he'⟩, rfl, q _ _ pm e2 (I.hok.fresh (Nat.le_succ _))⟩
    rw [List.length_map, pm.length_eq, List.length_zip, hl', Nat.min_self]; exact hz
end
def isTu : D → Bool | .tuple _ => true | _ => false
def headE : List D → Bool | .tuple [] :: _ => true | _ => false
theorem headE_ex : ∀ {ds : List D}, headE ds = true → ∃ r, ds = .tuple [] :: r
  | .tuple [] :: r, _ => ⟨r, rfl⟩
def gSortedE : List D → Option D
  | [.list ds] => if ds.all fltD = true ∧ alikeB ds = true ∧ ds.all isTu = true ∧ headE ds = true then some (.list (sortD ds)) else none
  | _ => none
theorem o_sortedE {K : PySem.W.Frag} : OpL (rSortedE K) 1 gSortedE := fun F H xs as d Q s ha e k => by
  cases ha with
  | nil => cases e
  | cons h r => cases r with
    | cons _ _ => cases h <;> cases e
    | nil => cases h with
      | lst h r =>
        simp only [gSortedE] at e
        split at e
        · rename_i c
          cases e
          obtain ⟨c1, c2, c3, c4⟩ := c
          refine ⟨_, _, _, rfl, .inl (.inl (s _ _ h)), dps_of s r c1, ?_, ?_, ?_, ?_, fun zs p pm ez hp => ?_⟩
          · intro d hd d' hd'
            exact List.all_eq_true.mp (List.all_eq_true.mp c2 d hd) d' hd'
          · intro d hd
            have := List.all_eq_true.mp c3 d hd
            cases d <;> first | exact ⟨_, rfl⟩ | cases this
          · exact headE_ex c4
          · intro d hd
            have := List.all_eq_true.mp c1 d hd
            simp only [fltD, Bool.and_eq_true, decide_eq_true_eq] at this
            exact this.2
          · have rz := rps_perm r (zs := zs) fun p hp => pm.mem_iff.mp hp
            unfold sortD at k
            rw [← ez] at k
            exact k _ _ _ _ (Nw.own s hp rz)
        · cases e
      | _ => cases e
/-! x in a list, anything shaped -/
def gInD : D → D → Option D := fun a b => match b with | .list ds => if SeqAt.shaped a = true ∧ SeqAt.shaped (.list ds) = true then some (.bool (ds.any fun z => PyData.eqv z a)) else none | _ => none
theorem o_inD {K : PySem.W.Frag} : Op2 (rInD K) 0 gInD := fun F H x y a b d Q s ha hb e k => by
  unfold gInD at e
  split at e
  · split at e
    · rename_i c; cases e
      exact ⟨_, _, ha.dp s c.1, hb.dp s c.2, c.1, c.2, k _ _ _ _ (Nw.same s (.bl _))⟩
    · cases e
  · cases e
end DL

end
section
set_option Elab.async false
set_option linter.all false
set_option maxRecDepth 100000
set_option maxHeartbeats 4000000
/-! ### sorted(list(d)) != e, d a dict by tuples -/
namespace DL
open PySem PySem.Spec L2
open Classical in
noncomputable def offP (c : Ctx) (H : Hp) : Hp := fun b => if NP c b then H b else none
theorem offP_sub {c : Ctx} {H : Hp} : Same (offP c H) H := fun b o e => by
  unfold offP at e
  split at e
  · exact e
  · cases e
theorem offP_at {c : Ctx} {H : Hp} {b : Addr} {o : HO} (n : NP c b) (e : H b = some o) : offP c H b = some o := by
  unfold offP
  rw [if_pos n]; exact e
theorem offP_np {c : Ctx} {H : Hp} {b : Addr} {o : HO} (e : offP c H b = some o) : NP c b := by
  unfold offP at e
  split at e
  · rename_i n; exact n
  · cases e
theorem np_tup {c : Ctx} {P : Pool} {F H : Hp} (g : Gd c P F H) {a : Addr} {xs : List V} (h : H a = some (.tup xs)) : NP c a := fun p r e => by
  obtain ⟨_, h1, h2, _, _⟩ := g.pool p r e
  constructor
  · rintro rfl; rw [h1] at h; cases h
  · rintro rfl; rw [h2] at h; cases h
theorem rps_keys {F : Hp} : ∀ k : List Key, Rps F (k.map kV) (k.map keyD)
  | [] => .nil
  | x :: r => .cons (by cases x; exact .int _; exact .str _) (rps_keys r)
theorem rps_isKeys {F F' H : Hp} (hs : ∀ b xs, H b = some (.tup xs) → F' b = some (.tup xs)) : ∀ {ks : List (List Key × V)} {es : List (D × D)} {bs : List Addr}, RpT F ks es → IsKeys H ks bs → Rps F' (bs.map V.ref) (es.map (·.1))
  | _, _, _, .nil, i => by cases i; exact .nil
  | _, _, _, .cons h r, i => by
    unfold IsKeys at i
    cases i with
    | cons z t => exact .cons (.tup (hs _ _ z) (rps_keys _)) (rps_isKeys hs r t)
def gKeysS : D → Option D
  | .dict ((.none, .none) :: es) => gSortedD [.list (es.map (·.1))]
  | _ => none
def eKeysNe (f f' : Rho → M D) : Rho → M D := fun ρ => bnd (f ρ) fun a => bnd (lift (gKeysS a)) fun s => bnd (f' ρ) fun b => lift (gNe s b)
theorem gNe_bool {a b d : D} (h : gNe a b = some d) : ∃ x, d = .bool x := by
  unfold gNe at h
  split at h
  · exact ⟨_, (Option.some.inj h).symm⟩
  · split at h
    · exact ⟨_, (Option.some.inj h).symm⟩
    · cases h
section
variable {J : Jd} {ow : Owns}
theorem keysNe_run {K : PySem.W.Frag} {f f' : Rho → M D} {td tb : TE}
    (qd : ∀ (c : Ctx) (σ : St) (ρ : Rho) (P : Pool) (F H : Hp) (Q : VK), CxOk J c → Rl c J.ps ow σ ρ P F H → Wp (f ρ P) (fun d P' => ∀ v F' H' A, Vp c J.ps ow σ ρ F H P' 0 d v F' H' A → Q v H') (ErrE J c ow σ ρ) → td σ H Q)
    (qb : ∀ (c : Ctx) (σ : St) (ρ : Rho) (P : Pool) (F H : Hp) (Q : VK), CxOk J c → Rl c J.ps ow σ ρ P F H → Wp (f' ρ P) (fun d P' => ∀ v F' H' A, Vp c J.ps ow σ ρ F H P' 0 d v F' H' A → Q v H') (ErrE J c ow σ ρ) → tb σ H Q)
    (c : Ctx) (σ : St) (ρ : Rho) (P : Pool) (F H : Hp) (Q : VK) (hc : CxOk J c) (rl : Rl c J.ps ow σ ρ P F H)
    (h : Wp (eKeysNe f f' ρ P) (fun d P' => ∀ v F' H' A, Vp c J.ps ow σ ρ F H P' 0 d v F' H' A → Q v H') (ErrE J c ow σ ρ)) :
    tOp (fun x y H Q => rNeD K x y H Q ∨ rNe x y H Q) (tCB (rSortedD K) (tCons (tCB (fun xs H Q => ∃ d kvs, xs = [V.ref d] ∧ Rd H d (.dT kvs) ∧ ∀ p bs, H p = none → IsKeys H kvs bs → Q (.ref p) (upd H p (.lst (bs.map V.ref)))) (tCons td tNil)) tNil)) tb σ H Q := by
  refine qd c σ ρ P F H _ hc rl (h.bnd.mono (fun x P1 h1 v F1 H1 A1 x1 => ?_) fun _ _ h => h)
  obtain ⟨s, es, hk⟩ := Wp.lift (Wp.bnd h1)
  have rp1 := x1.rp
  cases rp1 with
  | dT hF rk =>
    rename_i a ks ds
    have gd1 := x1.rl.gd
    refine ⟨a, ks, rfl, .inl (gd1.sub _ _ hF), fun p bs hp ik => ?_⟩
    have np1 := np_of gd1 hp
    have tk : ∀ b xs, H1 b = some (.tup xs) → offP c (upd H1 p (.lst (bs.map V.ref))) b = some (.tup xs) := fun b xs e =>
      offP_at (np_tup gd1 e) (by rw [upd_ne (ne_of_none e hp)]; exact e)
    have rp2 : Rp (offP c (upd H1 p (.lst (bs.map V.ref)))) (.ref p) (.list (ds.map (·.1))) := .lst (offP_at np1 upd_same) (rps_isKeys tk rk ik)
    show rSortedD K [V.ref p] (upd H1 p (.lst (bs.map V.ref))) (fun x H1 => tb σ H1 fun y H2 => rNeD K x y H2 Q ∨ rNe x y H2 Q)
    refine o_sortedD (offP c (upd H1 p (.lst (bs.map V.ref)))) (upd H1 p (.lst (bs.map V.ref))) _ _ s _ offP_sub (.cons rp2 .nil) es fun u F3 H3 A3 n3 => ?_
    have sm : Same H1 H3 := (same_upd hp).trans n3.hs
    have vp3 := x1.rl.nw (Nw.mk (.refl F1) (gd1.sub.trans sm) sm (fun _ _ h => .inl h) (.fz .non) List.nodup_nil (fun _ h => nomatch h) : Nw F1 H1 0 .none .non F1 H3 [])
    have rpS : Rp (addF F3 H3 A3) u s := n3.ow.frz (addF_same fun a ha => (n3.fr a ha).1) fun a ha o h => by unfold addF; rw [if_pos ha]; exact h
    have g3 : ∀ b o, addF F3 H3 A3 b = some o → H3 b = some o ∧ NP c b := fun b o e => by
      refine ⟨addF_sub n3.sub _ _ e, ?_⟩
      have hn : ∀ b, upd H1 p (.lst (bs.map V.ref)) b = none → NP c b := fun b z => np_of gd1 (by
        cases q : H1 b with
        | none => rfl
        | some o' => rw [upd_ne (ne_of_none q hp), q] at z; cases z)
      rcases addF_new e with z | z
      · rcases n3.gr _ _ z with y | y
        · exact offP_np y
        · exact hn b y
      · exact hn b (n3.fr b z).2
    refine qb c σ ρ P1 F1 H3 _ hc vp3.rl (hk.bnd.mono (fun y P2 h2 z F4 H4 A4 x4 => ?_) fun _ _ h => h)
    obtain ⟨d, e, q⟩ := h2.lift
    have gd4 := x4.rl.gd
    have up : Same (addF F3 H3 A3) (offP c H4) := fun b o e => offP_at (g3 b o e).2 (x4.st.kp b o (g3 b o e).1 (g3 b o e).2)
    have up4 : Same F4 (offP c H4) := fun b o e => offP_at (np_some gd4 e) (gd4.sub _ _ e)
    refine o_ne (offP c H4) H4 u z s y d _ offP_sub (rpS.mono up) (x4.rp.mono up4) e fun w F5 H5 A5 n5 => ?_
    obtain ⟨t, rfl⟩ := gNe_bool e
    have hw : w = .bl t := by
      have o5 := n5.ow
      cases o5 with
      | fz h => cases h; rfl
    subst hw
    refine q _ F4 H5 [] (((x4.rl.nw (Nw.mk (.refl F4) (gd4.sub.trans n5.hs) n5.hs (fun _ _ h => .inl h) (.fz (.bl t)) List.nodup_nil (fun _ h => nomatch h) : Nw F4 H4 0 (.bool t) (.bl t) F4 H5 [])).after x4.st).after vp3.st |>.after x1.st)
  | dK hF rk =>
    cases rk with
    | nil => cases es
    | cons h r => rename_i k0 _ _ _ _; cases k0 <;> cases es
  | _ => cases es
theorem se_keysNe {d b : Expr} {pS pL cS cL pos : Pos} {f f' : Rho → M D} (O : Ok J) (hmS : J.X.mg "sorted" = none) (hmL : J.X.mg "list" = none) (hu : J.X.A.units + 64 < cLine) (hd : Se J ow d 0 f) (hb : Se J ow b 0 f')
    (hgS : Gl J.X "sorted" := by rfl) (hgL : Gl J.X "list" := by rfl) (hvS : bootBuiltins "sorted" = some (.builtin "sorted") := by decide +kernel) (hvL : bootBuiltins "list" = some (.type "list") := by decide +kernel)
    (he1 : starEach [d] J.X.env = (false, eval d J.X.env) :: starEach [] J.X.env := by rfl) (hp1 : (backTo cL (starEach [] J.X.env)).any (·.1) = false := by rfl)
    (he2 : starEach [.Call (.Name "list" pL) [d] [] cL] J.X.env = (false, eval (.Call (.Name "list" pL) [d] [] cL) J.X.env) :: starEach [] J.X.env := by rfl) (hp2 : (backTo cS (starEach [] J.X.env)).any (·.1) = false := by rfl)
    (hm : behindInMarks .NotEq b = false := by first | exact nomark _ | rfl) :
    Se J ow (.Compare (.Call (.Name "sorted" pS) [.Call (.Name "list" pL) [d] [] cL] [] cS) [.NotEq] [b] pos) 0 (eKeysNe f f') := by
  obtain ⟨td, pd, qd⟩ := hd
  obtain ⟨tb, pb, qb⟩ := hb
  exact ⟨_, pe_cmpR ((op_neD hu).or op_ne) (pe_callB (cr_sortedD hu) hgS hmS hvS (pa_cons (pe_callTy (call_list_dT O.c) hgL hmL hvL (pa_cons pd pa_nil he1) (by decide) (by decide) he1 hp1) pa_nil he2) (by decide) (by decide) he2 hp2) pb hm, keysNe_run qd qb⟩
theorem te_keysNe {d b : Expr} {pS pL cS cL pos : Pos} {f f' : Rho → M D} (O : Ok J) (hmS : J.X.mg "sorted" = none) (hmL : J.X.mg "list" = none) (hu : J.X.A.units + 64 < cLine) (hd : Se J ow d 0 f) (hb : Se J ow b 0 f')
    (hgS : Gl J.X "sorted" := by rfl) (hgL : Gl J.X "list" := by rfl) (hvS : bootBuiltins "sorted" = some (.builtin "sorted") := by decide +kernel) (hvL : bootBuiltins "list" = some (.type "list") := by decide +kernel)
    (he1 : starEach [d] J.X.env = (false, eval d J.X.env) :: starEach [] J.X.env := by rfl) (hp1 : (backTo cL (starEach [] J.X.env)).any (·.1) = false := by rfl)
    (he2 : starEach [.Call (.Name "list" pL) [d] [] cL] J.X.env = (false, eval (.Call (.Name "list" pL) [d] [] cL) J.X.env) :: starEach [] J.X.env := by rfl) (hp2 : (backTo cS (starEach [] J.X.env)).any (·.1) = false := by rfl)
    (hm : behindInMarks .NotEq b = false := by first | exact nomark _ | rfl) :
    Te J ow (.Compare (.Call (.Name "sorted" pS) [.Call (.Name "list" pL) [d] [] cL] [] cS) [.NotEq] [b] pos) (tBool (eKeysNe f f')) := by
  obtain ⟨td, pd, qd⟩ := hd
  obtain ⟨tb, pb, qb⟩ := hb
  refine ⟨_, pt_cmpR ((op_neD hu).or op_ne) (pe_callB (cr_sortedD hu) hgS hmS hvS (pa_cons (pe_callTy (call_list_dT O.c) hgL hmL hvL (pa_cons pd pa_nil he1) (by decide) (by decide) he1 hp1) pa_nil he2) (by decide) (by decide) he2 hp2) pb hm, fun c σ ρ P F H Q hc rl w => ?_⟩
  refine keysNe_run qd qb c σ ρ P F H _ hc rl (w.bnd.mono (fun d P1 h1 v F1 H1 A x => ?_) fun _ _ h => h)
  cases x.rp with
  | bl b => exact ⟨b, rfl, h1 F1 H1 x.rl x.st⟩
  | _ => exact h1.elim
end
end DL

end
section
set_option Elab.async false
set_option linter.all false
set_option maxRecDepth 100000
set_option maxHeartbeats 4000000
/-! ### d == {(i, j): k}, d a dict by tuples -/
namespace PySem.W
open PySem PySem.Calls PyProof.Rows PySem.Spec
section
variable {prog : Program} {w : World} {K : Type} [DecidableEq K] {knd : HeapKind prog w K} {A : Around} {E : Value → Shared → Prop} {s : Shared}
theorem Heap.DictOfH.typeIs' {d : Addr} {xs : List (K × Addr × Value)} (h : s.heap.DictOfH knd d xs) : s.TypeIs (.ref d) "dict" := let ⟨o, _, _, ho, hc, _⟩ := h; ⟨o, ho, hc.1⟩
theorem samePairs1 {nm : String} {a b : Addr} {k : K} {qa qb : Addr} {va vb : Value} {Q : Bool → Shared → Prop} (ha : (a == sysModules) = false) (hb : (b == sysModules) = false) (hu : knd.room A)
    (da : s.heap.DictOfH knd a [(k, qa, va)]) (db : s.heap.DictOfH knd b [(k, qb, vb)]) (he : SeqAt.EqAt A s va vb true) (h : Q true s) :
    wpAny (model prog w) A (Builtin.Dict.samePairs nm a b) Q E s := by
  obtain ⟨oa, es, ep, hoa, _, hda, hea, hisa, _⟩ := da
  obtain ⟨ob, es', ep', hob, _, hdb, heb, hisb, hnb⟩ := db
  have ia : knd.is s.heap k qa := hisa (k, qa, va) (by simp)
  obtain ⟨l⟩ := es
  obtain ⟨l'⟩ := es'
  have e1 : l = [⟨knd.hash k, .ref qa, va⟩] := hea
  have e2 : l' = [⟨knd.hash k, .ref qb, vb⟩] := heb
  subst e1
  subst e2
  unfold Builtin.Dict.samePairs Builtin.Dict.showsAll
  rw [if_neg (show ¬ (a == sysModules) = true by rw [ha]; exact Bool.false_ne_true), if_neg (show ¬ (b == sysModules) = true by rw [hb]; exact Bool.false_ne_true)]
  refine wpAny_bind (wpAny_pure (wpAny_bind (wpAny_pure ?_)))
  refine wpAny_bind (wpAny_dictEntries hoa hda ?_)
  dsimp only
  refine wpAny_bind (wpAny_dictEntries hob hdb ?_)
  rw [if_neg (by simp)]
  refine wpAny_bind (wpAny_dictEpoch hoa hda ?_)
  refine wpAny_bind ?_
  rw [Std.Legacy.Range.forIn_eq_forIn_range']
  simp only [Std.Legacy.Range.size, Nat.sub_zero, Nat.add_sub_cancel, Nat.div_one]
  refine wpAny_forIn_list _ (fun rest q s' => s' = s ∧ q = (none, ()) ∧ (rest = [0] ∨ rest = [])) _ ?_ ?_ _ _ ⟨rfl, rfl, .inl rfl⟩
  · rintro x rest q s' ⟨rfl, rfl, hr⟩
    have hr : x = 0 ∧ rest = [] := by
      rcases hr with z | z
      · injection z with z1 z2; exact ⟨z1, z2⟩
      · cases z
    obtain ⟨rfl, rfl⟩ := hr
    refine wpAny_bind (wpAny_dictEntries hoa hda ?_)
    show wpAny _ _ (holding [Value.ref qa, va] _ >>= _) _ _ _
    refine wpAny_bind (wpAny_holding (wpAny_bind (wpAny_dictFind_heap (k := k) hu ia hob hdb heb hisb hnb (fun hno => absurd rfl (hno 0 (qb, vb))) fun j p hj => ?_)))
    have hj0 : j = 0 := by
      cases j with
      | zero => rfl
      | succ j => simp at hj
    subst hj0
    refine wpAny_bind (wpAny_dictEntries hob hdb ?_)
    refine wpAny_holding (he _ _ _ _ ?_)
    show wpAny _ _ (if (!true) = true then _ else _) _ _ _
    rw [if_neg (by decide)]
    refine wpAny_bind (wpAny_dictEpoch hoa hda ?_)
    rw [if_neg (by simp)]
    exact wpAny_pure ⟨rfl, rfl, .inr rfl⟩
  · rintro q s' ⟨rfl, rfl, _⟩
    exact wpAny_pure h
theorem eq_dict1 {a b : Addr} {k : K} {qa qb : Addr} {va vb : Value} {Q : Value → Shared → Prop} (ha : (a == sysModules) = false) (hb : (b == sysModules) = false) (hr : knd.room A.in1) (hu : A.units < cLine)
    (da : s.heap.DictOfH knd a [(k, qa, va)]) (db : s.heap.DictOfH knd b [(k, qb, vb)]) (he : SeqAt.EqAt A.in1 s va vb true) (h : Q (.bool true) s) :
    wpAny (model prog w) A (compareOp .Eq (.ref a) (.ref b)) Q E s := by
  refine wpAny_richCompare_same_room (op := .Eq) (Heap.DictOfH.typeIs' da) (Heap.DictOfH.typeIs' db) PySem.F.slot_dict_eq (wpAny_call_entry PySem.F.slot_dict_eq (Heap.DictOfH.typeIs' da) PySem.F.entry_dict_eq ?_ (PySem.F.args_dict_eq_2 _ _)) hu
  show wpAny _ _ (Builtin.Dict.dictSlotArgs "__eq__" ⟨[.ref a, .ref b], []⟩ >>= _) _ _ s
  refine wpAny_bind ?_
  unfold Builtin.Dict.dictSlotArgs
  refine wpAny_bind (wpAny_notOrdered_dict (Heap.DictOfH.typeIs' da) ?_)
  show wpAny _ _ (pure (Value.ref a, Value.ref b)) _ _ s
  refine wpAny_pure ?_
  refine wpAny_bind (wpAny_isInstance (T := "dict") (Heap.DictOfH.typeIs' db) PySem.F.sub_dict_dict ?_)
  simp only [Bool.not_true, Bool.false_eq_true, if_false]
  refine wpAny_bind (wpAny_pure (wpAny_bind (wpAny_pure ?_)))
  refine wpAny_bind (samePairs1 ha hb hr da db he ?_)
  refine wpAny_pure ⟨_, rfl, ?_, ?_⟩
  · exact fun x => nomatch x
  · simpa using h
end
end PySem.W

namespace DL
open PySem PySem.Spec L2
def tDispT1 (tk tv : TE) : TE := fun σ H Q => ∀ p, H p = none → tk σ (upd H p (.dT [])) fun x H1 => tv σ H1 fun y H2 => ∃ b k, x = .ref b ∧ H2 b = some (.tup (k.map kV)) ∧ H2 p = some (.dT []) ∧ Q (.ref p) (upd H2 p (.dT [(k, y)]))
theorem pe_dispT1 {X : Cx} {k v : Expr} {pos : Pos} {tk tv : TE} (hu : X.A.units < cLine) (hk : PE X k tk) (hv : PE X v tv) : PE X (.Dict [some k] [v] pos) (tDispT1 tk tv) := by
  refine ⟨fun pins s σ H Q I q => ?_⟩
  have hn := I.hok.fresh (Nat.le_refl s.heap.objs.size)
  have I1 := I.laid (a := s.heap.objs.size) (o := .dT []) (h' := s.heap.push { cls := .type "dict", data := .dict #[] }) (t' := s.toks) (fun _ _ q => Heap.get?_push_of_some _ q) (Nat.le_refl _) (dt_empty s.heap I.big)
  have q1 := q _ hn
  rw [PySem.arm_eval_Dict, zip_pairTrees [some k] [v] X.env pos rfl rfl, dictDisplay_pairs _ (by simp [pairTrees]) (by simp [pairTrees])]
  refine wpAny_bind (wpAny_standAt (wpAny_bind (wpAny_subDictH (knd := tupleKind (mixKind X.prog X.w)) hu (by simp [pairTrees]) ?_)))
  refine pairTrees_cons_walk (thn (hk.run pins _ σ _ _ I1 q1) fun u s1 z => ?_)
  obtain ⟨x, H1, I2, rx, q2⟩ := z
  refine thn (hv.run pins s1 σ H1 _ I2 q2) fun u2 s2 z => ?_
  obtain ⟨y, H2, I3, ry, b, kk, rfl, eb, ep, q3⟩ := z
  cases (show u = Value.ref b from rx)
  refine pairTrees_nil_walk ⟨[(kk, b, u2)], ⟨rfl, rfl, key_of I3.hok eb, trivial⟩, ?_, fun h' tk dd hs => wpAny_pure ?_⟩
  · obtain ⟨_, _, xs, rel, dd⟩ := dt_of I3.hok ep
    cases rel
    exact dd
  · obtain ⟨z, hd, _, _, _⟩ := dt_of I3.hok ep
    obtain ⟨qo, es, epp, hq, h2, h3, h4, _, h5⟩ := dd
    refine ⟨.ref s.heap.objs.size, _, d_write (ob := .dT [(kk, y)]) I3 (by rw [ep]; exact True.intro) hs ⟨qo, hq⟩ ⟨by show 1 ≤ sizeLine; decide, hd, [(kk, b, u2)], .cons ⟨rfl, ?_, ry⟩ .nil, qo, es, epp, hq, h2, h3, h4, h5⟩, rfl, q3⟩
    rw [upd_ne (ne_of eb ep (fun z => nomatch z))]
    exact eb
def rEqT1 : R2 := fun x y H Q => ∃ a b k v, x = .ref a ∧ y = .ref b ∧ H a = some (.dT [(k, v)]) ∧ H b = some (.dT [(k, v)]) ∧ flatB v = true ∧ Q (.bl true) H
theorem op_eqT1 {X : Cx} (hu : X.A.units + 1 < cLine) : OpR X (compareOp .Eq) rEqT1 := by
  intro pins s σ H x y v u Q I rx ry h
  obtain ⟨a, b, k, vv, rfl, rfl, ea, eb, f, q⟩ := h
  obtain rfl : v = Value.ref a := rx
  obtain rfl : u = Value.ref b := ry
  obtain ⟨_, ya, xs, ra, da⟩ := dt_of I.hok ea
  obtain ⟨_, yb, ys, rb, db⟩ := dt_of I.hok eb
  unfold KT at ra rb
  cases ra with | @cons p q1 _ _ h1 t1 =>
  cases t1
  cases rb with | @cons p q2 _ _ h2 t2 =>
  cases t2
  obtain ⟨k1, qa, va⟩ := q1
  obtain ⟨k2, qb, vb⟩ := q2
  obtain ⟨z1, _, r1⟩ := h1
  obtain ⟨z2, _, r2⟩ := h2
  cases (show k = k1 from z1)
  cases (show k = k2 from z2)
  exact PySem.W.eq_dict1 ya yb (tupleKind_room_in1 hu) (by omega) da db (eqAt_same r1 r2 f) ⟨.bl true, H, I, rfl, q⟩
def gEqT1 (i j k : Int) : D → Option D
  | .dict ((.none, .none) :: es) => match es with
    | [(.tuple [.int a, .int b], .int c)] => if a = i ∧ b = j ∧ c = k then some (.bool true) else none
    | _ => none
  | _ => none
theorem gEqT1_some {i j k : Int} {d r : D} (h : gEqT1 i j k d = some r) : d = .dict [(.none, .none), (.tuple [.int i, .int j], .int k)] ∧ r = .bool true := by
  unfold gEqT1 at h
  split at h
  · split at h
    · split at h
      · rename_i c
        obtain ⟨rfl, rfl, rfl⟩ := c
        exact ⟨rfl, (Option.some.inj h).symm⟩
      · cases h
    · cases h
  · cases h
theorem keys2 {i j : Int} : ∀ {k : List Key}, k.map keyD = [PyData.int i, PyData.int j] → k = [.inl i, .inl j]
  | [.inl a, .inl b], h => by simpa [keyD] using h
  | [.inr a, .inl b], h => by simp [keyD] at h
  | [.inl a, .inr b], h => by simp [keyD] at h
  | [.inr a, .inr b], h => by simp [keyD] at h
  | [], h => by simp at h
  | [_], h => by simp at h
  | _ :: _ :: _ :: _, h => by simp at h
theorem rpK_no {F : Hp} {ks : List (Key × V)} {es : List (D × D)} {d : D} {r : List (D × D)} (h : RpK F ks es) (e : es = (.none, d) :: r) : False := by
  cases h with
  | nil => cases e
  | @cons k v d ks es h r =>
    injection e with e _
    injection e with e _
    cases k <;> simp [keyD] at e
theorem rpT_one {F : Hp} {i j k : Int} {ks : List (List Key × V)} {es : List (D × D)} (r : RpT F ks es) (e : es = [(.tuple [.int i, .int j], .int k)]) : ks = [([.inl i, .inl j], .int k)] := by
  cases r with
  | nil => cases e
  | @cons kk v d ks es hv rr =>
    injection e with e1 e2
    subst e2
    cases rr
    injection e1 with e1 e2
    subst e2
    cases hv
    injection e1 with e1
    rw [keys2 e1]
section
variable {J : Jd} {ow : Owns}
theorem eqT1_run {i j k : Int} {f : Rho → M D} {td : TE}
    (qd : ∀ (c : Ctx) (σ : St) (ρ : Rho) (P : Pool) (F H : Hp) (Q : VK), CxOk J c → Rl c J.ps ow σ ρ P F H → Wp (f ρ P) (fun d P' => ∀ v F' H' A, Vp c J.ps ow σ ρ F H P' 0 d v F' H' A → Q v H') (ErrE J c ow σ ρ) → td σ H Q)
    (c : Ctx) (σ : St) (ρ : Rho) (P : Pool) (F H : Hp) (Q : VK) (hc : CxOk J c) (rl : Rl c J.ps ow σ ρ P F H)
    (h : Wp (eUn (gEqT1 i j k) f ρ P) (fun d P' => ∀ v F' H' A, Vp c J.ps ow σ ρ F H P' 0 d v F' H' A → Q v H') (ErrE J c ow σ ρ)) :
    tOp rEqT1 td (tDispT1 (tTup (tCons (tC (.int i)) (tCons (tC (.int j)) tNil))) (tC (.int k))) σ H Q := by
  refine qd c σ ρ P F H _ hc rl (h.bnd.mono (fun x P1 h1 v F1 H1 A1 x1 => ?_) fun _ _ h => h)
  obtain ⟨r, e, q⟩ := h1.lift
  obtain ⟨rfl, rfl⟩ := gEqT1_some e
  have rp1 := x1.rp
  cases rp1 with
  | dT hF rk =>
    rename_i a ks
    cases rpT_one rk rfl
    have gd1 := x1.rl.gd
    have ha := gd1.sub _ _ hF
    intro p hp
    refine ⟨by show 2 ≤ sizeLine; decide, fun q0 hq0 => ?_⟩
    have npq : p ≠ q0 := fun z => by subst z; rw [upd_same] at hq0; cases hq0
    have hq1 : H1 q0 = none := by rw [upd_ne (Ne.symm npq)] at hq0; exact hq0
    have nap : a ≠ p := ne_of_none ha hp
    have naq : a ≠ q0 := ne_of_none ha hq1
    have sm : Same H1 (upd (upd (upd H1 p (.dT [])) q0 (.tup [.int i, .int j])) p (.dT [([.inl i, .inl j], .int k)])) := fun b o z => by
      rw [upd_ne (ne_of_none z hp), upd_ne (ne_of_none z hq1), upd_ne (ne_of_none z hp)]; exact z
    refine ⟨q0, [.inl i, .inl j], rfl, upd_same, by rw [upd_ne npq, upd_same], ?_⟩
    refine ⟨a, p, [.inl i, .inl j], .int k, rfl, rfl, sm _ _ ha, upd_same, rfl, ?_⟩
    exact q _ F1 _ [] ((x1.rl.nw (Nw.mk (.refl F1) (gd1.sub.trans sm) sm (fun _ _ h => .inl h) (.fz (.bl true)) List.nodup_nil (fun _ h => nomatch h) : Nw F1 H1 0 (.bool true) (.bl true) F1 _ [])).after x1.st)
  | dK hF rk => exact (rpK_no rk rfl).elim
theorem se_eqT1 {d : Expr} {i j k : Int} {i1 i2 i3 : Nat} {p1 p2 p3 pt pd pos : Pos} {t : Nat} {f : Rho → M D} (O : Ok J) (hu : J.X.A.units + 1 < cLine) (hd : Se J ow d 0 f)
    (hm : behindInMarks .Eq (.Dict [some (.Tuple [.Constant (.int i) i1 p1, .Constant (.int j) i2 p2] t pt)] [.Constant (.int k) i3 p3] pd) = false := by first | exact nomark _ | rfl) :
    Se J ow (.Compare d [.Eq] [.Dict [some (.Tuple [.Constant (.int i) i1 p1, .Constant (.int j) i2 p2] t pt)] [.Constant (.int k) i3 p3] pd] pos) 0 (eUn (gEqT1 i j k) f) := by
  obtain ⟨td, pd, qd⟩ := hd
  exact ⟨_, pe_cmpR (op_eqT1 hu) pd (pe_dispT1 (by omega) (pe_tup (pa_cons pe_int (pa_cons pe_int pa_nil rfl) rfl)) pe_int) hm, eqT1_run qd⟩
theorem te_eqT1 {d : Expr} {i j k : Int} {i1 i2 i3 : Nat} {p1 p2 p3 pt pd pos : Pos} {t : Nat} {f : Rho → M D} (O : Ok J) (hu : J.X.A.units + 1 < cLine) (hd : Se J ow d 0 f)
    (hm : behindInMarks .Eq (.Dict [some (.Tuple [.Constant (.int i) i1 p1, .Constant (.int j) i2 p2] t pt)] [.Constant (.int k) i3 p3] pd) = false := by first | exact nomark _ | rfl) :
    Te J ow (.Compare d [.Eq] [.Dict [some (.Tuple [.Constant (.int i) i1 p1, .Constant (.int j) i2 p2] t pt)] [.Constant (.int k) i3 p3] pd] pos) (tBool (eUn (gEqT1 i j k) f)) := by
  obtain ⟨td, pd, qd⟩ := hd
  refine ⟨_, pt_cmpR (op_eqT1 hu) pd (pe_dispT1 (by omega) (pe_tup (pa_cons pe_int (pa_cons pe_int pa_nil rfl) rfl)) pe_int) hm, fun c σ ρ P F H Q hc rl w => ?_⟩
  refine eqT1_run qd c σ ρ P F H _ hc rl (w.bnd.mono (fun d P1 h1 v F1 H1 A x => ?_) fun _ _ h => h)
  cases x.rp with
  | bl b => exact ⟨b, rfl, h1 F1 H1 x.rl x.st⟩
  | _ => exact h1.elim
end
end DL

end
section
set_option Elab.async false
set_option linter.all false
set_option maxRecDepth 100000
set_option maxHeartbeats 2000000
namespace DL
open PySem PySem.Spec L2
/-! ### a computation that ends well -/
def Tr {α : Type} (m : M α) (P : Pool) (Q : α → Pool → Prop) : Prop := Wp (m P) Q fun _ _ => False
section
variable {α β : Type} {m : M α} {P P' : Pool} {Q : α → Pool → Prop}
theorem Tr.ex (h : Tr m P Q) : ∃ a P', m P = some (.ok a, P') ∧ Q a P' := Wp.ex h
theorem tr_bnd {k : α → M β} {Q : β → Pool → Prop} : Tr (bnd m k) P Q ↔ Tr m P fun a P' => Tr (k a) P' Q := by
  unfold Tr bnd Wp
  cases m P with
  | none => exact Iff.rfl
  | some r => obtain ⟨r, p⟩ := r; cases r <;> exact Iff.rfl
theorem tr_ret {a : α} : Tr (ret a) P Q ↔ Q a P := Iff.rfl
theorem tr_lift {a : α} : Tr (lift (some a)) P Q ↔ Q a P := Iff.rfl
theorem tr_noX : Tr (noX m) P Q ↔ Tr m P Q := by
  unfold Tr noX Wp
  cases m P with
  | none => exact Iff.rfl
  | some r => obtain ⟨r, p⟩ := r; cases r <;> exact Iff.rfl
theorem tr_noP : Tr (noP m) P Q ↔ Tr m P fun a _ => Q a P := by
  unfold Tr noP Wp
  cases m P with
  | none => exact Iff.rfl
  | some r => obtain ⟨r, p⟩ := r; cases r <;> exact Iff.rfl
theorem Tr.mono {Q' : α → Pool → Prop} (h : Tr m P Q) (k : ∀ a p, Q a p → Q' a p) : Tr m P Q' := Wp.mono h k fun _ _ h => h
theorem tr_of {a : α} (h : m P = some (.ok a, P')) (k : Q a P') : Tr m P Q := by unfold Tr; rw [h]; exact k
theorem tr_eq {m m' : M α} (h : m = m') (k : Tr m' P Q) : Tr m P Q := h ▸ k
/-- a computation without a pool, as an equation -/
theorem eq_of {a : α} (h : ∀ P, Tr m P fun b P' => b = a ∧ P' = P) : m = ret a := by
  funext P
  obtain ⟨b, P', e, rfl, rfl⟩ := (h P).ex
  exact e
/-! loops -/
theorem tr_for {g : D → Rho → Option Rho} {fb : Rho → M Oc} {Q : Oc → Pool → Prop} {ds : List D} {ρ : Rho} (I : Nat → Rho → Pool → Prop) (h0 : I 0 ρ P)
    (step : ∀ i d ρ P, ds[i]? = some d → I i ρ P → ∃ ρ1, g d ρ = some ρ1 ∧ Tr (fb ρ1) P fun oc P' => match oc with | .nx ρ2 => I (i + 1) ρ2 P' | .ct ρ2 => I (i + 1) ρ2 P' | .rt d => Q (.rt d) P' | .bk ρ2 => Q (.nx ρ2) P')
    (fin : ∀ ρ P, I ds.length ρ P → Q (.nx ρ) P) : Tr (forF g fb ds ρ) P Q := by
  have key : ∀ (n : Nat) (i : Nat) (ρ : Rho) (P : Pool), ds.length - i = n → i ≤ ds.length → I i ρ P → Tr (forF g fb (ds.drop i) ρ) P Q := by
    intro n
    induction n with
    | zero =>
      intro i ρ P hn hi h
      have : i = ds.length := by omega
      subst this
      rw [List.drop_length]
      exact fin ρ P h
    | succ n ih =>
      intro i ρ P hn hi h
      have hlt : i < ds.length := by omega
      rw [List.drop_eq_getElem_cons hlt]
      obtain ⟨ρ1, e, t⟩ := step i _ ρ P (List.getElem?_eq_getElem hlt) h
      unfold forF
      rw [tr_bnd, e, tr_lift, tr_bnd]
      refine t.mono fun oc P' q => ?_
      cases oc with
      | nx ρ2 => exact ih (i + 1) ρ2 P' (by omega) hlt q
      | ct ρ2 => exact ih (i + 1) ρ2 P' (by omega) hlt q
      | rt d => exact q
      | bk ρ2 => exact q
  have := key _ 0 ρ P rfl (Nat.zero_le _) h0
  rwa [List.drop_zero] at this
theorem tr_map {st : D → M (Option D)} {ds : List D} {Q : List D → Pool → Prop} (I : Nat → List D → Pool → Prop) (h0 : I 0 [] P)
    (step : ∀ i d acc P, ds[i]? = some d → I i acc P → Tr (st d) P fun o P' => I (i + 1) (acc ++ o.toList) P') (fin : ∀ acc P, I ds.length acc P → Q acc P) : Tr (mapM' st ds) P Q := by
  have key : ∀ (n : Nat) (i : Nat) (acc : List D) (P : Pool), ds.length - i = n → i ≤ ds.length → I i acc P → Tr (mapM' st (ds.drop i)) P fun r P' => Q (acc ++ r) P' := by
    intro n
    induction n with
    | zero =>
      intro i acc P hn hi h
      have : i = ds.length := by omega
      subst this
      rw [List.drop_length]
      unfold mapM'
      rw [tr_ret, List.append_nil]
      exact fin acc P h
    | succ n ih =>
      intro i acc P hn hi h
      have hlt : i < ds.length := by omega
      rw [List.drop_eq_getElem_cons hlt]
      unfold mapM'
      rw [tr_bnd]
      refine (step i _ acc P (List.getElem?_eq_getElem hlt) h).mono fun o P' q => ?_
      rw [tr_bnd]
      refine (ih (i + 1) _ P' (by omega) hlt q).mono fun r P2 z => ?_
      rw [tr_ret]
      cases o with
      | none => simpa [consO] using z
      | some x => simpa [consO] using z
  have := key _ 0 [] P rfl (Nat.zero_le _) h0
  simpa using this
theorem tr_lc {vs : List Nat} {fi : Rho → M (List D)} {g : D → Rho → Option Rho} {tt : Rho → M Bool} {te : Rho → M D} {ρ : Rho} {Q : D → Pool → Prop}
    (h : Tr (fi ρ) P fun ds P' => Tr (mapM' (lcStep ρ vs g tt te) ds) P' fun r P2 => r.length ≤ 1000000 ∧ Q (.list r) P2) : Tr (eLc vs fi g tt te ρ) P Q := by
  unfold eLc
  rw [tr_bnd]
  refine h.mono fun ds P' h => ?_
  rw [tr_bnd, tr_noX]
  refine h.mono fun r P2 h => ?_
  rw [if_pos h.1]
  exact h.2
/-- a map without a pool -/
theorem map_pure {st : D → M (Option D)} {f : D → Option D} : ∀ {ds : List D}, (∀ d ∈ ds, st d = ret (f d)) → mapM' st ds = ret (ds.filterMap f)
  | [], _ => rfl
  | d :: ds, h => by
    have e := map_pure fun x hx => h x (List.mem_cons_of_mem _ hx)
    unfold mapM'
    rw [h d List.mem_cons_self, e]
    funext P
    show some (Except.ok (consO (f d) (ds.filterMap f)), P) = _
    rw [List.filterMap_cons]
    cases f d <;> rfl
end
end DL

end
section
set_option Elab.async false
set_option linter.all false
set_option maxRecDepth 100000
set_option maxHeartbeats 2000000
namespace DL
open PySem PySem.Spec L2
/-! ### rows of ints, their closure -/
abbrev il (l : List Int) : List D := l.map PyData.int
def RowD (d : D) (l : List Int) : Prop := d = .list (il l) ∨ d = .tuple (il l)
structure RowsD (ds : List D) (rs : List (List Int)) : Prop where
  len : ds.length = rs.length
  row : ∀ (i : Nat) (d : D), ds[i]? = some d → ∃ l, rs[i]? = some l ∧ RowD d l
def Wf (rs : List (List Int)) : Prop := ∀ (i : Nat) (l : List Int), rs[i]? = some l → ∀ x ∈ l, 0 ≤ x ∧ x < i
theorem RowsD.at {ds : List D} {rs : List (List Int)} (h : RowsD ds rs) {i : Nat} {l : List Int} (e : rs[i]? = some l) : ∃ d, ds[i]? = some d ∧ RowD d l := by
  have hi : i < ds.length := by rw [h.len]; exact (List.getElem?_eq_some_iff.mp e).1
  obtain ⟨l', e', r⟩ := h.row i _ (List.getElem?_eq_getElem hi)
  rw [e] at e'; cases e'
  exact ⟨_, List.getElem?_eq_getElem hi, r⟩
def tupT (rs : List (List Int)) : List D := rs.map fun r => .tuple (il r)
theorem tupT_at {rs : List (List Int)} {i : Nat} {l : List Int} (e : rs[i]? = some l) : (tupT rs)[i]? = some (.tuple (il l)) := by
  unfold tupT; rw [List.getElem?_map, e]; rfl
theorem rowsD_tup (rs : List (List Int)) : RowsD (tupT rs) rs := ⟨by simp [tupT], fun i d e => by
  unfold tupT at e
  rw [List.getElem?_map] at e
  cases h : rs[i]? with
  | none => rw [h] at e; cases e
  | some l => rw [h] at e; cases e; exact ⟨l, rfl, .inr rfl⟩⟩
theorem rowsD_lst (rs : List (List Int)) : RowsD (rs.map fun r => .list (il r)) rs := ⟨by simp, fun i d e => by
  rw [List.getElem?_map] at e
  cases h : rs[i]? with
  | none => rw [h] at e; cases e
  | some l => rw [h] at e; cases e; exact ⟨l, rfl, .inl rfl⟩⟩
/-! masks -/
def bitsN (n : Nat) : Nat := Builtin.Int.intBits (n : Int)
def itemsN (n : Nat) : List Int := ((List.range (bitsN n)).filter fun x => n.testBit x).map Int.ofNat
theorem lt_bitsN {n x : Nat} (h : n.testBit x = true) : x < bitsN n := by
  have h1 := Nat.ge_two_pow_of_testBit h
  have hn : n ≠ 0 := by
    intro z; subst z; simp at h
  unfold bitsN Builtin.Int.intBits
  rw [if_neg (by simpa using hn), Int.natAbs_natCast]
  have := (Nat.le_log2 hn).mpr h1
  omega
theorem mem_itemsN {n : Nat} {x : Int} : x ∈ itemsN n ↔ 0 ≤ x ∧ n.testBit x.toNat = true := by
  unfold itemsN
  simp only [List.mem_map, List.mem_filter, List.mem_range]
  constructor
  · rintro ⟨a, ⟨_, h⟩, rfl⟩
    exact ⟨Int.natCast_nonneg a, h⟩
  · rintro ⟨h0, h⟩
    exact ⟨x.toNat, ⟨lt_bitsN h, h⟩, by show ((x.toNat : Nat) : Int) = x; omega⟩
theorem itemsN_sorted (n : Nat) : (itemsN n).Pairwise (· < ·) := by
  unfold itemsN
  rw [List.pairwise_map]
  refine (List.Pairwise.filter _ List.pairwise_lt_range).imp fun h => ?_
  show (_ : Int) < _
  exact Int.ofNat_lt.mpr h
def maskRow (ms : List Nat) (row : List Int) : Nat := row.foldl (fun m s => m ||| ms.getD s.toNat 0 ||| 2 ^ s.toNat) 0
def masksOf (rs : List (List Int)) : List Nat := rs.foldl (fun ms row => ms ++ [maskRow ms row]) []
theorem masksOf_snoc (rs : List (List Int)) (r : List Int) : masksOf (rs ++ [r]) = masksOf rs ++ [maskRow (masksOf rs) r] := by
  unfold masksOf; rw [List.foldl_append]; rfl
theorem masksOf_succ {rs : List (List Int)} {i : Nat} {l : List Int} (e : rs[i]? = some l) : masksOf (rs.take (i + 1)) = masksOf (rs.take i) ++ [maskRow (masksOf (rs.take i)) l] := by
  rw [← masksOf_snoc]
  congr 1
  rw [List.take_add_one, e]; rfl
theorem masksOf_len : ∀ (n : Nat) (rs : List (List Int)), rs.length = n → (masksOf rs).length = n
  | 0, rs, h => by rw [List.length_eq_zero_iff.mp h]; rfl
  | n + 1, rs, h => by
    obtain ⟨r, l, rfl⟩ : ∃ r l, rs = r ++ [l] := ⟨rs.dropLast, rs.getLast (by intro z; subst z; cases h), (List.dropLast_concat_getLast _).symm⟩
    rw [masksOf_snoc, List.length_append, masksOf_len n r (by simpa using h)]; rfl
theorem masksOf_take (rs : List (List Int)) : ∀ (k i : Nat), i + k = rs.length → masksOf (rs.take i) = (masksOf rs).take i
  | 0, i, h => by
    rw [List.take_of_length_le (by omega), List.take_of_length_le]
    rw [masksOf_len _ rs rfl]; omega
  | k + 1, i, h => by
    have ih := masksOf_take rs k (i + 1) (by omega)
    have hi : i < rs.length := by omega
    rw [masksOf_succ (List.getElem?_eq_getElem hi)] at ih
    have := congrArg (List.take i) ih
    rw [List.take_take, Nat.min_eq_left (by omega)] at this
    rw [← this]
    exact (List.take_left' (masksOf_len i _ (by rw [List.length_take]; omega))).symm
theorem maskRow_bit (ms : List Nat) (x : Nat) : ∀ (row : List Int) (m : Nat), (row.foldl (fun m s => m ||| ms.getD s.toNat 0 ||| 2 ^ s.toNat) m).testBit x = true ↔ m.testBit x = true ∨ ∃ s ∈ row, x = s.toNat ∨ (ms.getD s.toNat 0).testBit x = true
  | [], m => by simp
  | s :: r, m => by
    rw [List.foldl_cons, maskRow_bit ms x r]
    simp only [Nat.testBit_or, Bool.or_eq_true, Nat.testBit_two_pow, decide_eq_true_eq, List.mem_cons]
    constructor
    · rintro (((h | h) | h) | ⟨s', h1, h2⟩)
      · exact .inl h
      · exact .inr ⟨s, .inl rfl, .inr h⟩
      · exact .inr ⟨s, .inl rfl, .inl h.symm⟩
      · exact .inr ⟨s', .inr h1, h2⟩
    · rintro (h | ⟨s', rfl | h1, h2⟩)
      · exact .inl (.inl (.inl h))
      · rcases h2 with h2 | h2
        · exact .inl (.inr h2.symm)
        · exact .inl (.inl (.inr h2))
      · exact .inr ⟨s', h1, h2⟩
def cl (rs : List (List Int)) : List (List Int) := (masksOf rs).map itemsN
theorem cl_len (rs : List (List Int)) : (cl rs).length = rs.length := by unfold cl; rw [List.length_map, masksOf_len _ rs rfl]
theorem mask_at {rs : List (List Int)} {i : Nat} {l : List Int} (e : rs[i]? = some l) : (masksOf rs)[i]? = some (maskRow ((masksOf rs).take i) l) := by
  have hi := (List.getElem?_eq_some_iff.mp e).1
  have h1 := masksOf_succ e
  rw [masksOf_take rs (rs.length - (i + 1)) (i + 1) (by omega), masksOf_take rs (rs.length - i) i (by omega)] at h1
  have h2 := congrArg (fun z : List Nat => z[i]?) h1
  simp only [List.getElem?_take] at h2
  rw [if_pos (by omega)] at h2
  rw [h2, List.getElem?_append_right (by rw [List.length_take]; omega), List.length_take, masksOf_len _ rs rfl, Nat.min_eq_left (by omega), Nat.sub_self]
  rfl
/-- what a closure is -/
structure Clo (rs ps : List (List Int)) : Prop where
  len : ps.length = rs.length
  sorted : ∀ (i : Nat) (p : List Int), ps[i]? = some p → p.Pairwise (· < ·)
  mem : ∀ (i : Nat) (l p : List Int), rs[i]? = some l → ps[i]? = some p → ∀ x, x ∈ p ↔ x ∈ l ∨ ∃ s ∈ l, ∃ q, ps[s.toNat]? = some q ∧ x ∈ q
theorem cl_clo {rs : List (List Int)} (w : Wf rs) : Clo rs (cl rs) where
  len := cl_len rs
  sorted := fun i p e => by
    unfold cl at e
    rw [List.getElem?_map] at e
    cases h : (masksOf rs)[i]? with
    | none => rw [h] at e; cases e
    | some m => rw [h] at e; cases e; exact itemsN_sorted m
  mem := fun i l p e1 e2 x => by
    have hi := (List.getElem?_eq_some_iff.mp e1).1
    unfold cl at e2 ⊢
    rw [List.getElem?_map, mask_at e1] at e2
    cases e2
    rw [mem_itemsN, maskRow, maskRow_bit]
    have bit : ∀ s ∈ l, ((List.take i (masksOf rs)).getD s.toNat 0 = (masksOf rs).getD s.toNat 0) ∧ ∃ m, (masksOf rs)[s.toNat]? = some m := fun s hs => by
      obtain ⟨a, b⟩ := w i l e1 s hs
      have hb : s.toNat < i := by omega
      constructor
      · rw [List.getD_eq_getElem?_getD, List.getD_eq_getElem?_getD, List.getElem?_take, if_pos hb]
      · exact ⟨_, List.getElem?_eq_getElem (by rw [masksOf_len _ rs rfl]; omega)⟩
    constructor
    · rintro ⟨h0, h | ⟨s, hs, h⟩⟩
      · simp at h
      · obtain ⟨b1, m, b2⟩ := bit s hs
        rcases h with h | h
        · have := (w i l e1 s hs).1
          have : x = s := by omega
          subst this; exact .inl hs
        · refine .inr ⟨s, hs, itemsN m, by rw [List.getElem?_map, b2]; rfl, mem_itemsN.mpr ⟨h0, ?_⟩⟩
          rw [b1, List.getD_eq_getElem?_getD, b2] at h; exact h
    · rintro (h | ⟨s, hs, q, hq, h⟩)
      · exact ⟨(w i l e1 x h).1, .inr ⟨x, h, .inl rfl⟩⟩
      · obtain ⟨b1, m, b2⟩ := bit s hs
        rw [List.getElem?_map, b2] at hq
        cases hq
        obtain ⟨h0, h1⟩ := mem_itemsN.mp h
        refine ⟨h0, .inr ⟨s, hs, .inr ?_⟩⟩
        rw [b1, List.getD_eq_getElem?_getD, b2]; exact h1
theorem Clo.bnd {rs ps : List (List Int)} (c : Clo rs ps) (w : Wf rs) : Wf ps := by
  intro i
  induction i using Nat.strongRecOn with
  | ind i ih =>
    intro p e x hx
    have hi : i < rs.length := by rw [← c.len]; exact (List.getElem?_eq_some_iff.mp e).1
    have e1 := List.getElem?_eq_getElem hi
    rcases (c.mem i _ p e1 e x).mp hx with h | ⟨s, hs, q, hq, h⟩
    · exact w i _ e1 x h
    · obtain ⟨a, b⟩ := w i _ e1 s hs
      have := ih s.toNat (by omega) q hq x h
      omega
/-- there is one closure only -/
theorem Clo.uniq {rs ps qs : List (List Int)} (w : Wf rs) (c : Clo rs ps) (d : Clo rs qs) : ps = qs := by
  apply List.ext_getElem?
  intro i
  induction i using Nat.strongRecOn with
  | ind i ih =>
    by_cases hi : i < rs.length
    · have e1 := List.getElem?_eq_getElem hi
      have e2 := List.getElem?_eq_getElem (show i < ps.length by rw [c.len]; exact hi)
      have e3 := List.getElem?_eq_getElem (show i < qs.length by rw [d.len]; exact hi)
      rw [e2, e3]
      congr 1
      refine lt_uniq (c.sorted i _ e2) (d.sorted i _ e3) fun x => ?_
      rw [c.mem i _ _ e1 e2 x, d.mem i _ _ e1 e3 x]
      constructor
      · rintro (h | ⟨s, hs, q, hq, h⟩)
        · exact .inl h
        · obtain ⟨a, b⟩ := w i _ e1 s hs
          exact .inr ⟨s, hs, q, by rw [← ih s.toNat (by omega)]; exact hq, h⟩
      · rintro (h | ⟨s, hs, q, hq, h⟩)
        · exact .inl h
        · obtain ⟨a, b⟩ := w i _ e1 s hs
          exact .inr ⟨s, hs, q, by rw [ih s.toNat (by omega)]; exact hq, h⟩
    · rw [List.getElem?_eq_none (by rw [c.len]; omega), List.getElem?_eq_none (by rw [d.len]; omega)]
/-- a plan: closed rows -/
theorem Clo.trans {rs ps : List (List Int)} (w : Wf rs) (c : Clo rs ps) : ∀ (i : Nat) (p : List Int), ps[i]? = some p → ∀ s ∈ p, ∃ q, ps[s.toNat]? = some q ∧ ∀ x ∈ q, x ∈ p := by
  intro i
  induction i using Nat.strongRecOn with
  | ind i ih =>
    intro p e s hs
    have hi : i < rs.length := by rw [← c.len]; exact (List.getElem?_eq_some_iff.mp e).1
    have e1 := List.getElem?_eq_getElem hi
    rcases (c.mem i _ p e1 e s).mp hs with h | ⟨t, ht, q, hq, h⟩
    · obtain ⟨a, b⟩ := w i _ e1 s h
      have hs' : s.toNat < ps.length := by rw [c.len]; omega
      exact ⟨_, List.getElem?_eq_getElem hs', fun x hx => (c.mem i _ p e1 e x).mpr (.inr ⟨s, h, _, List.getElem?_eq_getElem hs', hx⟩)⟩
    · obtain ⟨a, b⟩ := w i _ e1 t ht
      obtain ⟨q2, hq2, h2⟩ := ih t.toNat (by omega) q hq s h
      exact ⟨q2, hq2, fun x hx => (c.mem i _ p e1 e x).mpr (.inr ⟨t, ht, q, hq, h2 x hx⟩)⟩
/-- it is its own closure -/
theorem Clo.self {rs ps : List (List Int)} (w : Wf rs) (c : Clo rs ps) : Clo ps ps :=
  ⟨rfl, c.sorted, fun i l p e1 e2 x => by
    rw [e1] at e2; cases e2
    refine ⟨.inl, ?_⟩
    rintro (h | ⟨s, hs, q, hq, h⟩)
    · exact h
    · obtain ⟨q', hq', k⟩ := c.trans w i l e1 s hs
      rw [hq] at hq'; cases hq'
      exact k x h⟩
theorem sorted_len : ∀ (l : List Int) (a n : Int), l.Pairwise (· < ·) → (∀ x ∈ l, a ≤ x ∧ x < n) → (l.length : Int) ≤ max 0 (n - a)
  | [], a, n, _, _ => by simp; omega
  | x :: r, a, n, h, b => by
    obtain ⟨h1, h2⟩ := List.pairwise_cons.mp h
    have := sorted_len r (x + 1) n h2 fun y hy => ⟨by have := h1 y hy; omega, (b y (List.mem_cons_of_mem _ hy)).2⟩
    have hx := b x List.mem_cons_self
    rw [List.length_cons]
    omega
theorem Clo.short {rs ps : List (List Int)} (w : Wf rs) (c : Clo rs ps) {i : Nat} {p : List Int} (e : ps[i]? = some p) : p.length ≤ i := by
  have := sorted_len p 0 i (c.sorted i p e) fun x hx => (c.bnd w) i p e x hx
  omega
/-! the pairs that follow from no others -/
def behindAll (ps : List (List Int)) (p : List Int) : List Int := p.flatMap fun s => ps.getD s.toNat []
def need1 (ps : List (List Int)) (p : List Int) : List Int := p.filter fun x => !((behindAll ps p).contains x)
def needR (ps : List (List Int)) : List (List Int) := ps.map (need1 ps)
theorem mem_behindAll {ps : List (List Int)} {p : List Int} {x : Int} : x ∈ behindAll ps p ↔ ∃ s ∈ p, ∃ q, ps[s.toNat]? = some q ∧ x ∈ q := by
  unfold behindAll
  rw [List.mem_flatMap]
  constructor
  · rintro ⟨s, hs, h⟩
    rw [List.getD_eq_getElem?_getD] at h
    cases e : ps[s.toNat]? with
    | none => rw [e] at h; simp at h
    | some q => rw [e] at h; exact ⟨s, hs, q, e, h⟩
  · rintro ⟨s, hs, q, e, h⟩
    refine ⟨s, hs, ?_⟩
    rw [List.getD_eq_getElem?_getD, e]; exact h
theorem mem_need1 {ps : List (List Int)} {p : List Int} {x : Int} : x ∈ need1 ps p ↔ x ∈ p ∧ ¬ ∃ s ∈ p, ∃ q, ps[s.toNat]? = some q ∧ x ∈ q := by
  unfold need1
  rw [List.mem_filter, ← mem_behindAll]
  simp
theorem needR_at {ps : List (List Int)} {i : Nat} {l : List Int} (e : (needR ps)[i]? = some l) : ∃ p, ps[i]? = some p ∧ l = need1 ps p := by
  unfold needR at e
  rw [List.getElem?_map] at e
  cases h : ps[i]? with
  | none => rw [h] at e; cases e
  | some p => rw [h] at e; cases e; exact ⟨p, rfl, rfl⟩
theorem needR_wf {ps : List (List Int)} (w : Wf ps) : Wf (needR ps) := fun i l e x hx => by
  obtain ⟨p, e1, rfl⟩ := needR_at e
  exact w i p e1 x (mem_need1.mp hx).1
theorem needR_clo {rs ps : List (List Int)} (w : Wf rs) (c : Clo rs ps) : Clo (needR ps) ps where
  len := by simp [needR]
  sorted := c.sorted
  mem := fun i l p e1 e2 x => by
    obtain ⟨p', e3, rfl⟩ := needR_at e1
    rw [e2] at e3; cases e3
    have w' := c.bnd w
    constructor
    · intro hx
      by_cases h : ∃ s ∈ p, ∃ q, ps[s.toNat]? = some q ∧ x ∈ q
      · obtain ⟨s, hs, q, hq, hxq⟩ := h
        -- the greatest such s follows from none
        have key : ∀ (n : Nat) (s : Int) (q : List Int), (i : Int) - s ≤ n → s ∈ p → ps[s.toNat]? = some q → x ∈ q → ∃ s ∈ need1 ps p, ∃ q, ps[s.toNat]? = some q ∧ x ∈ q := by
          intro n
          induction n with
          | zero =>
            intro s q hn hs hq hxq
            have := (w' i p e2 s hs).2
            omega
          | succ n ih =>
            intro s q hn hs hq hxq
            by_cases h2 : ∃ t ∈ p, ∃ r, ps[t.toNat]? = some r ∧ s ∈ r
            · obtain ⟨t, ht, r, hr, hsr⟩ := h2
              obtain ⟨q', hq', sub⟩ := c.trans w t.toNat r hr s hsr
              rw [hq] at hq'; cases hq'
              have := (w' t.toNat r hr s hsr).2
              have t0 := (w' i p e2 t ht).1
              exact ih t r (by omega) ht hr (sub x hxq)
            · exact ⟨s, mem_need1.mpr ⟨hs, h2⟩, q, hq, hxq⟩
        exact .inr (key ((i : Int) - s).toNat s q (by omega) hs hq hxq)
      · exact .inl (mem_need1.mpr ⟨hx, h⟩)
    · rintro (h | ⟨s, hs, q, hq, h⟩)
      · exact (mem_need1.mp h).1
      · obtain ⟨q', hq', sub⟩ := c.trans w i p e2 s (mem_need1.mp hs).1
        rw [hq] at hq'; cases hq'
        exact sub x h
/-- fewer rows, a smaller closure -/
theorem Clo.mono {rs ps rs' ps' : List (List Int)} (w : Wf rs) (c : Clo rs ps) (d : Clo rs' ps') (hl : rs'.length = rs.length) (h : ∀ (i : Nat) (l l' : List Int), rs[i]? = some l → rs'[i]? = some l' → ∀ x ∈ l', x ∈ l) :
    ∀ (i : Nat) (p p' : List Int), ps[i]? = some p → ps'[i]? = some p' → ∀ x ∈ p', x ∈ p := by
  intro i
  induction i using Nat.strongRecOn with
  | ind i ih =>
    intro p p' e e' x hx
    have hi : i < rs.length := by rw [← c.len]; exact (List.getElem?_eq_some_iff.mp e).1
    have e1 := List.getElem?_eq_getElem hi
    have e1' := List.getElem?_eq_getElem (show i < rs'.length by omega)
    refine (c.mem i _ p e1 e x).mpr ?_
    rcases (d.mem i _ p' e1' e' x).mp hx with h1 | ⟨s, hs, q', hq', h1⟩
    · exact .inl (h i _ _ e1 e1' x h1)
    · have hs' := h i _ _ e1 e1' s hs
      obtain ⟨a, b⟩ := w i _ e1 s hs'
      have e2 := List.getElem?_eq_getElem (show s.toNat < ps.length by rw [c.len]; omega)
      exact .inr ⟨s, hs', _, e2, ih s.toNat (by omega) _ q' e2 hq' x h1⟩
/-- without a needed pair, the pair is missing -/
theorem miss {rs ps less : List (List Int)} {item : Nat} {p l' q : List Int} {other : Int} (w : Wf rs) (c : Clo rs ps) (e : ps[item]? = some p) (ho : other ∈ need1 ps p)
    (hl' : l' = (need1 ps p).erase other) (d : Clo ((needR ps).set item l') less) (eq : less[item]? = some q) : other ∉ q := by
  have w' := c.bnd w
  have hi : item < ps.length := (List.getElem?_eq_some_iff.mp e).1
  have hlen : (needR ps).length = ps.length := by simp [needR]
  have e1 : ((needR ps).set item l')[item]? = some l' := List.getElem?_set_self (by rw [hlen]; exact hi)
  have sub : ∀ x ∈ l', x ∈ need1 ps p := fun x hx => by subst hl'; exact List.mem_of_mem_erase hx
  intro h
  rcases (d.mem item l' q e1 eq other).mp h with h | ⟨s, hs, r, hr, h⟩
  · have nd : (need1 ps p).Nodup := ((c.sorted item p e).imp fun h => Int.ne_of_lt h).filter _
    subst hl'
    exact (nd.mem_erase_iff.mp h).1 rfl
  · have hsp := (mem_need1.mp (sub s hs)).1
    obtain ⟨a, b⟩ := w' item p e s hsp
    obtain ⟨r', hr', _⟩ := c.trans w item p e s hsp
    have m := (needR_clo w c).mono (needR_wf w') d (by simp) (fun i l l2 f1 f2 x hx => by
      by_cases hii : i = item
      · subst hii
        rw [e1] at f2; cases f2
        obtain ⟨p2, f3, rfl⟩ := needR_at f1
        rw [e] at f3; cases f3
        exact sub x hx
      · rw [List.getElem?_set_ne (Ne.symm hii), f1] at f2; cases f2
        exact hx) s.toNat r' r hr' hr other h
    exact (mem_need1.mp ho).2 ⟨s, hsp, r', hr', m⟩
end DL

end
section
set_option Elab.async false
set_option linter.all false
set_option maxRecDepth 100000
set_option maxHeartbeats 2000000
namespace DL
open PySem PySem.Spec L2
/-! ### data of rows -/
theorem gEq_int (i j : Int) : gEq (.int i) (.int j) = some (.bool (i == j)) := by simp [gEq, SeqAt.shaped, PyData.canLay0, PyData.depth, PyData.eqv]
theorem gNe_int (i j : Int) : gNe (.int i) (.int j) = some (.bool (!(i == j))) := by simp [gNe, SeqAt.shaped, PyData.canLay0, PyData.depth, PyData.eqv]
theorem gEq_same {d : D} (h : SeqAt.shaped d = true) : gEq d d = some (.bool true) := by
  unfold gEq
  split
  · simp
  · rw [if_pos ⟨h, h⟩, SeqAt.eqv_refl d (SeqAt.canLay_of_shaped h)]
theorem gNe_same {d : D} (h : SeqAt.shaped d = true) : gNe d d = some (.bool false) := by
  unfold gNe
  split
  · simp
  · rw [if_pos ⟨h, h⟩, SeqAt.eqv_refl d (SeqAt.canLay_of_shaped h)]; rfl
theorem gNe_str (x : Str) : gNe (.str x) (.str x) = some (.bool false) := by simp [gNe]
theorem atI_at {α : Type} {l : List α} {x : Int} {v : α} (h0 : 0 ≤ x) (e : l[x.toNat]? = some v) : atI l x = some v := by
  unfold atI ixN
  have := (List.getElem?_eq_some_iff.mp e).1
  rw [if_pos h0, if_pos (by omega), Option.bind_some, e]
theorem atI_nat' {α : Type} {l : List α} {i : Nat} {v : α} (e : l[i]? = some v) : atI l (i : Int) = some v := atI_at (Int.natCast_nonneg i) (by rwa [Int.toNat_natCast])
structure OkRow (d : D) : Prop where
  lay : PyData.canLay0 d = true
  dep : PyData.depth d ≤ 1
  shw : PyData.showable d = true
  wgt : PyData.weight d ≤ 400
  sht : PyData.intsShort 13 d = true
theorem int_ok : ∀ n : Fin 64, PyData.showable (.int (n.val : Int)) = true ∧ PyData.weight (.int (n.val : Int)) ≤ 6 ∧ PyData.intsShort 13 (.int (n.val : Int)) = true := by decide +kernel
theorem il_ok : ∀ l : List Int, (∀ x ∈ l, 0 ≤ x ∧ x < 64) → PyData.canLayAll0 (il l) = true ∧ PyData.depthAll (il l) = 0 ∧ PyData.showableAll (il l) = true ∧ PyData.weightAll (il l) ≤ 7 * l.length ∧ PyData.intsShortAll 13 (il l) = true
  | [], _ => ⟨rfl, rfl, rfl, by simp [PyData.weightAll], rfl⟩
  | x :: l, h => by
    obtain ⟨a, b, c, d, e⟩ := il_ok l fun y hy => h y (List.mem_cons_of_mem _ hy)
    obtain ⟨h0, h1⟩ := h x List.mem_cons_self
    obtain ⟨s1, s2, s3⟩ := int_ok ⟨x.toNat, by omega⟩
    have ex : ((x.toNat : Nat) : Int) = x := by omega
    rw [ex] at s1 s2 s3
    have e9 : il (x :: l) = .int x :: il l := rfl
    refine ⟨?_, ?_, ?_, ?_, ?_⟩
    · rw [e9, PyData.canLayAll0, a]; rfl
    · rw [e9, PyData.depthAll, b]; rfl
    · rw [e9, PyData.showableAll, c, s1]; rfl
    · rw [e9, PyData.weightAll, List.length_cons]; omega
    · rw [e9, PyData.intsShortAll, e, s3]; rfl
theorem row_ok {d : D} {l : List Int} (r : RowD d l) (h : ∀ x ∈ l, 0 ≤ x ∧ x < 64) (hl : l.length ≤ 50) : OkRow d := by
  obtain ⟨a, b, c, w, e⟩ := il_ok l h
  rcases r with rfl | rfl
  · exact ⟨by rw [PyData.canLay0, a], by rw [PyData.depth, b]; exact Nat.le_refl 1, by rw [PyData.showable, c], by rw [PyData.weight]; omega, by rw [PyData.intsShort, e]⟩
  · exact ⟨by rw [PyData.canLay0, a], by rw [PyData.depth, b]; exact Nat.le_refl 1, by rw [PyData.showable, c], by rw [PyData.weight]; omega, by rw [PyData.intsShort, e]⟩
theorem rows_ok : ∀ ds : List D, (∀ d ∈ ds, OkRow d) → PyData.canLayAll0 ds = true ∧ PyData.depthAll ds ≤ 1 ∧ PyData.showableAll ds = true ∧ PyData.weightAll ds ≤ 401 * ds.length ∧ PyData.intsShortAll 13 ds = true
  | [], _ => ⟨rfl, by simp [PyData.depthAll], rfl, by simp [PyData.weightAll], rfl⟩
  | d :: l, h => by
    obtain ⟨a, b, c, w, e⟩ := rows_ok l fun y hy => h y (List.mem_cons_of_mem _ hy)
    obtain ⟨s1, s2, s3, s4, s5⟩ := h d List.mem_cons_self
    refine ⟨?_, ?_, ?_, ?_, ?_⟩
    · rw [PyData.canLayAll0, a, s1]; rfl
    · rw [PyData.depthAll]; omega
    · rw [PyData.showableAll, c, s3]; rfl
    · rw [PyData.weightAll, List.length_cons]; omega
    · rw [PyData.intsShortAll, e, s5]; rfl
theorem RowsD.ok {ds : List D} {rs : List (List Int)} (R : RowsD ds rs) (hl : rs.length ≤ 40) (w : Wf rs) (hs : ∀ l ∈ rs, l.length ≤ 50) : ∀ d ∈ ds, OkRow d := fun d hd => by
  obtain ⟨k, hk⟩ := List.getElem?_of_mem hd
  obtain ⟨l, e, r⟩ := R.row k d hk
  have := (List.getElem?_eq_some_iff.mp e).1
  exact row_ok r (fun x hx => by have := w k l e x hx; omega) (hs l (List.mem_of_getElem? e))
theorem shaped_rows {d : D} {ds : List D} (hd : d = .list ds ∨ d = .tuple ds) (h : ∀ d ∈ ds, OkRow d) : SeqAt.shaped d = true := by
  obtain ⟨a, b, c, w, e⟩ := rows_ok ds h
  rcases hd with rfl | rfl
  · rw [SeqAt.shaped, PyData.canLay0, a, Bool.true_and, decide_eq_true_eq, PyData.depth]; omega
  · rw [SeqAt.shaped, PyData.canLay0, a, Bool.true_and, decide_eq_true_eq, PyData.depth]; omega
theorem shaped_row {d : D} (h : OkRow d) : SeqAt.shaped d = true := by
  unfold SeqAt.shaped
  rw [h.lay, Bool.true_and, decide_eq_true_eq]
  have := h.dep; omega
theorem repr_rows {d : D} {ds : List D} (hd : d = .list ds ∨ d = .tuple ds) (h : ∀ d ∈ ds, OkRow d) (hl : ds.length ≤ 40) : gRepr [d] = some (.str d.shown) := by
  obtain ⟨a, b, c, w, e⟩ := rows_ok ds h
  have sz : ∀ d' : D, PyData.canLay0 d' = true → PyData.depth d' ≤ 64 → PyData.weight d' ≤ 2 ^ 20 → PyData.intsShort 13 d' = true → d'.shown.length ≤ sizeLine := fun d' h1 h2 h3 h4 => by
    have := PyProof.Rows.shown_le13 (d := d') (by unfold PyData.layable0; simp [h1, h2, h3]) h4
    rw [sizeLine_eq]; omega
  have dp : PyData.depthAll ds + 1 ≤ 64 := by omega
  have wt : PyData.weightAll ds ≤ 2 ^ 20 := by omega
  rcases hd with rfl | rfl
  · have z := sz (.list ds) (by rw [PyData.canLay0, a]) (by rw [PyData.depth]; exact dp) (by rw [PyData.weight]; exact wt) (by rw [PyData.intsShort, e])
    unfold gRepr
    dsimp only
    rw [if_pos ⟨by rw [PyData.canLay0, a], by rw [PyData.depth]; exact dp, by rw [PyData.showable, c], z⟩]
  · have z := sz (.tuple ds) (by rw [PyData.canLay0, a]) (by rw [PyData.depth]; exact dp) (by rw [PyData.weight]; exact wt) (by rw [PyData.intsShort, e])
    unfold gRepr
    dsimp only
    rw [if_pos ⟨by rw [PyData.canLay0, a], by rw [PyData.depth]; exact dp, by rw [PyData.showable, c], z⟩]
/-! draws -/
def Pos' (P : Pool) : Prop := 0 < P.rest.length ∧ P.knd = 0
theorem ev_draw {many : Int} {P : Pool} {Q : D → Pool → Prop} (h0 : 0 < many) (h1 : many < 1073741824) (hp : Pos' P) (k : ∀ v P', 0 ≤ v → v < many → Pos' P' → Q (.int v) P') : Tr (drawF [.int many]) P Q := by
  unfold Tr drawF
  dsimp only
  rw [if_pos ⟨h0, h1, hp⟩]
  split
  · obtain ⟨a, b⟩ := fmod_lo (a := P.rest.getD (P.turn.fmod P.rest.length).toNat 0) h0
    exact k _ _ a b ⟨by rw [List.length_set]; exact hp.1, rfl⟩
  · obtain ⟨a, b⟩ := fmod_lo (a := mix (P.rest.getD (P.turn.fmod P.rest.length).toNat 0) P.turn) h0
    exact k _ _ a b ⟨hp.1, rfl⟩
/-! comprehensions that keep some -/
theorem lc_sub {i : Nat} {fi : Rho → M (List D)} {tt : Rho → M Bool} {ρ : Rho} {P : Pool} {Q : D → Pool → Prop} (N K : Int → Prop) (hfi : Tr (fi ρ) P fun ds P' => ∃ xs : List Int, ds = il xs ∧ xs.length ≤ 1000000 ∧ (∀ x ∈ xs, N x) ∧ Pos' P' ∧ ∀ r P2, r.Sublist xs → (∀ x ∈ r, K x) → Pos' P2 → Q (.list (il r)) P2) (hi : i < ρ.length)
    (ht : ∀ x, N x → ∀ P', Pos' P' → Tr (tt ((ρ.set i none).set i (some (.int x)))) P' fun b P2 => Pos' P2 ∧ (b = true → K x)) : Tr (eLc [i] fi (gtName i) tt (eVar i) ρ) P Q := by
  refine tr_lc (hfi.mono fun ds P' ⟨xs, e, hl, hN, hp, k⟩ => ?_)
  subst e
  refine tr_map (fun j acc P2 => Pos' P2 ∧ ∃ r, acc = il r ∧ r.Sublist (xs.take j) ∧ ∀ x ∈ r, K x) ⟨hp, [], rfl, List.nil_sublist _, fun x h => by simp at h⟩ (fun j d acc P2 hd ⟨hp2, r, hr, sub, hK⟩ => ?_) fun acc P2 ⟨hp2, r, hr, sub, hK⟩ => ?_
  · rw [List.getElem?_map, Option.map_eq_some_iff] at hd
    obtain ⟨x, hx, rfl⟩ := hd
    have hx2 := hN x (List.mem_of_getElem? hx)
    unfold lcStep
    have e0 : gtName i (.int x) (wipeD ρ [i]) = some ((ρ.set i none).set i (some (.int x))) := by
      unfold gtName
      rw [if_pos (by simpa [wipeD] using hi)]; rfl
    rw [tr_bnd, e0, tr_lift, tr_bnd]
    refine (ht x hx2 P2 hp2).mono fun b P3 ⟨hp3, hb⟩ => ?_
    have e1 : (eVar i ((ρ.set i none).set i (some (.int x)))) = ret (.int x) := by
      unfold eVar
      rw [List.getElem?_set_self (by simpa using hi)]
    have tk : xs.take (j + 1) = xs.take j ++ [x] := by rw [List.take_add_one, hx]; rfl
    cases b with
    | true =>
      rw [if_pos rfl, tr_bnd, e1, tr_ret, tr_ret]
      refine ⟨hp3, r ++ [x], ?_, ?_, fun z hz => ?_⟩
      · rw [hr]; simp [il]
      · rw [tk]; exact sub.append (List.Sublist.refl _)
      · rcases List.mem_append.mp hz with h | h
        · exact hK z h
        · rw [List.mem_singleton.mp h]; exact hb rfl
    | false =>
      rw [if_neg (by decide), tr_ret]
      refine ⟨hp3, r, by rw [hr]; simp, ?_, hK⟩
      rw [tk]; exact sub.trans (List.sublist_append_left _ _)
  · rw [List.length_map, List.take_length] at sub
    subst hr
    refine ⟨?_, k r P2 sub hK hp2⟩
    have := sub.length_le
    rw [List.length_map]; omega
def rgI (n : Nat) : List Int := (List.range n).map Int.ofNat
theorem intsD_rg (n : Nat) : intsD 0 n = il (rgI n) := by
  unfold intsD rgI il
  rw [List.map_map]
  refine List.map_congr_left fun a _ => ?_
  show PyData.int (0 + (a : Int)) = PyData.int (Int.ofNat a)
  rw [Int.zero_add]; rfl
theorem mem_rgI {n : Nat} {x : Int} : x ∈ rgI n ↔ 0 ≤ x ∧ x < n := by
  unfold rgI
  rw [List.mem_map]
  constructor
  · rintro ⟨a, h, rfl⟩
    have := List.mem_range.mp h
    show (0 : Int) ≤ (a : Int) ∧ (a : Int) < n
    omega
  · rintro ⟨h0, h1⟩
    exact ⟨x.toNat, List.mem_range.mpr (by omega), by show ((x.toNat : Nat) : Int) = x; omega⟩
theorem rgI_len (n : Nat) : (rgI n).length = n := by simp [rgI]
theorem okR_nat {n : Nat} (h : n ≤ 1000000) : okR (n : Int) = true := by unfold okR; simp; omega
theorem intsD_at {n i : Nat} {d : D} (h : (intsD 0 n)[i]? = some d) : i < n ∧ d = .int (i : Int) := by
  unfold intsD at h
  rw [List.getElem?_map, Option.map_eq_some_iff] at h
  obtain ⟨k, hk, rfl⟩ := h
  have hi : i < n := by have := (List.getElem?_eq_some_iff.mp hk).1; rwa [List.length_range] at this
  rw [List.getElem?_range hi] at hk
  cases hk
  exact ⟨hi, by rw [Int.zero_add]⟩
theorem intsD_len (lo : Int) (n : Nat) : (intsD lo n).length = n := by simp [intsD]
/-! slices of ints -/
theorem cut_from (l : List Int) (k : Nat) : cutD (il l) (some (k : Int)) none = il (l.drop k) := by
  unfold cutD
  rw [HT.sIx_nat, HT.sIx_none, il, List.length_map, ← List.map_drop, ← List.map_take]
  unfold il
  congr 1
  by_cases h : k ≤ l.length
  · rw [Nat.min_eq_left h]; exact List.take_of_length_le (by rw [List.length_drop]; omega)
  · rw [Nat.min_eq_right (by omega), List.drop_of_length_le (Nat.le_refl _), List.drop_of_length_le (by omega)]; simp
theorem cut_to (l : List Int) (k : Nat) : cutD (il l) none (some (k : Int)) = il (l.take k) := by
  unfold cutD
  rw [HT.sIx_nat, HT.sIx_none, il, List.length_map, ← List.map_drop, ← List.map_take, List.drop_zero, Nat.sub_zero]
  unfold il
  congr 1
  by_cases h : k ≤ l.length
  · rw [Nat.min_eq_left h]
  · rw [Nat.min_eq_right (by omega), List.take_of_length_le (Nat.le_refl _), List.take_of_length_le (by omega)]
theorem il_append (a b : List Int) : il a ++ il b = il (a ++ b) := by simp [il]
theorem il_reverse (a : List Int) : (il a).reverse = il a.reverse := by simp [il]
theorem il_len (a : List Int) : (il a).length = a.length := by simp [il]
theorem intsOf_il : ∀ l : List Int, intsOf (il l) = some l
  | [] => rfl
  | a :: l => by
    have := intsOf_il l
    unfold il at this ⊢
    rw [List.map_cons, intsOf, this]; rfl
theorem flat_il (l : List Int) : (il l).all flatD = true := by
  rw [List.all_eq_true]
  intro d hd
  obtain ⟨x, _, rfl⟩ := List.mem_map.mp hd
  rfl
theorem any_il (x : Int) : ∀ l : List Int, ((il l).any fun z => PyData.eqv z (.int x)) = l.contains x
  | [] => rfl
  | a :: l => by
    have := any_il x l
    unfold il at this ⊢
    rw [List.map_cons, List.any_cons, this, List.contains_cons]
    congr 1
    rw [PyData.eqv, Bool.eq_iff_iff, beq_iff_eq, beq_iff_eq]
    exact ⟨Eq.symm, Eq.symm⟩
end DL

end
section
set_option Elab.async false
set_option linter.all false
set_option maxRecDepth 100000
set_option maxHeartbeats 2000000
namespace DL
open PySem PySem.Spec L2
/-! ### rows by a relation -/
def sees (ps : List (List Int)) (i j : Nat) : Bool := match ps[i]? with | some r => r.contains (j : Int) | none => false
def relR (R : Nat → Nat → Bool) (i : Nat) : List Int := ((List.range i).filter (R i)).map Int.ofNat
def ofRel (n : Nat) (R : Nat → Nat → Bool) : List (List Int) := (List.range n).map (relR R)
theorem ofRel_len (n : Nat) (R : Nat → Nat → Bool) : (ofRel n R).length = n := by simp [ofRel]
theorem ofRel_at {n i : Nat} {R : Nat → Nat → Bool} (h : i < n) : (ofRel n R)[i]? = some (relR R i) := by
  unfold ofRel
  rw [List.getElem?_map, List.getElem?_range h]; rfl
theorem ofRel_at' {n i : Nat} {R : Nat → Nat → Bool} {p : List Int} (h : (ofRel n R)[i]? = some p) : i < n ∧ p = relR R i := by
  have hi := (List.getElem?_eq_some_iff.mp h).1
  rw [ofRel_len] at hi
  rw [ofRel_at hi] at h
  cases h
  exact ⟨hi, rfl⟩
theorem mem_relR {R : Nat → Nat → Bool} {i : Nat} {x : Int} : x ∈ relR R i ↔ ∃ j : Nat, x = (j : Int) ∧ j < i ∧ R i j = true := by
  unfold relR
  rw [List.mem_map]
  constructor
  · rintro ⟨j, h, rfl⟩
    rw [List.mem_filter, List.mem_range] at h
    exact ⟨j, rfl, h.1, h.2⟩
  · rintro ⟨j, rfl, h1, h2⟩
    exact ⟨j, List.mem_filter.mpr ⟨List.mem_range.mpr h1, h2⟩, rfl⟩
theorem relR_nat {R : Nat → Nat → Bool} {i j : Nat} : ((j : Int) ∈ relR R i) ↔ j < i ∧ R i j = true := by
  rw [mem_relR]
  constructor
  · rintro ⟨k, e, h⟩
    obtain rfl : j = k := by omega
    exact h
  · rintro h
    exact ⟨j, rfl, h⟩
theorem relR_sorted (R : Nat → Nat → Bool) (i : Nat) : (relR R i).Pairwise (· < ·) := by
  unfold relR
  rw [List.pairwise_map]
  exact (List.pairwise_lt_range.filter _).imp fun h => Int.ofNat_lt.mpr h
theorem relR_short (R : Nat → Nat → Bool) (i : Nat) : (relR R i).length ≤ i := by
  unfold relR
  rw [List.length_map]
  exact Nat.le_trans (List.length_filter_le _ _) (by rw [List.length_range]; exact Nat.le_refl _)
theorem relR_wf (n : Nat) (R : Nat → Nat → Bool) : Wf (ofRel n R) := fun i l e x hx => by
  obtain ⟨_, rfl⟩ := ofRel_at' e
  obtain ⟨j, rfl, h, _⟩ := mem_relR.mp hx
  omega
theorem sees_ofRel (n : Nat) (R : Nat → Nat → Bool) (i j : Nat) : sees (ofRel n R) i j = (decide (i < n) && decide (j < i) && R i j) := by
  unfold sees
  by_cases h : i < n
  · rw [ofRel_at h]
    dsimp only
    rw [Bool.eq_iff_iff, List.contains_iff_mem, relR_nat]
    simp [h]
  · rw [List.getElem?_eq_none (by rw [ofRel_len]; omega)]
    simp [h]
theorem relR_ext {R S : Nat → Nat → Bool} {i : Nat} (h : ∀ j, j < i → R i j = S i j) : relR R i = relR S i := by
  unfold relR
  rw [List.filter_congr fun j hj => h j (List.mem_range.mp hj)]
theorem ofRel_ext {n : Nat} {R S : Nat → Nat → Bool} (h : ∀ i j, i < n → j < i → R i j = S i j) : ofRel n R = ofRel n S := by
  unfold ofRel
  exact List.map_congr_left fun i hi => relR_ext fun j hj => h i j (List.mem_range.mp hi) hj
theorem sorted_ext : ∀ {p q : List Int}, p.Pairwise (· < ·) → q.Pairwise (· < ·) → (∀ x, x ∈ p ↔ x ∈ q) → p = q
  | [], [], _, _, _ => rfl
  | [], b :: q, _, _, h => nomatch (h b).mpr List.mem_cons_self
  | a :: p, [], _, _, h => nomatch (h a).mp List.mem_cons_self
  | a :: p, b :: q, hp, hq, h => by
    obtain ⟨p1, p2⟩ := List.pairwise_cons.mp hp
    obtain ⟨q1, q2⟩ := List.pairwise_cons.mp hq
    have e : a = b := by
      rcases List.mem_cons.mp ((h a).mp List.mem_cons_self) with e | m
      · exact e
      · rcases List.mem_cons.mp ((h b).mpr List.mem_cons_self) with e | m2
        · exact e.symm
        · have := q1 a m; have := p1 b m2; omega
    subst e
    rw [sorted_ext p2 q2 fun x => ?_]
    constructor
    · intro m
      rcases List.mem_cons.mp ((h x).mp (List.mem_cons_of_mem _ m)) with e | m'
      · have := p1 x m; omega
      · exact m'
    · intro m
      rcases List.mem_cons.mp ((h x).mpr (List.mem_cons_of_mem _ m)) with e | m'
      · have := q1 x m; omega
      · exact m'
theorem eq_ofRel {ps : List (List Int)} (w : Wf ps) (s : ∀ (i : Nat) (p : List Int), ps[i]? = some p → p.Pairwise (· < ·)) : ps = ofRel ps.length (sees ps) := by
  refine List.ext_getElem? fun i => ?_
  by_cases h : i < ps.length
  · rw [ofRel_at h]
    have e := List.getElem?_eq_getElem h
    generalize ps[i]'h = p at e
    rw [e]
    congr 1
    refine sorted_ext (s i p e) (relR_sorted _ _) fun x => ?_
    rw [mem_relR]
    constructor
    · intro hx
      have := w i p e x hx
      refine ⟨x.toNat, by omega, by omega, ?_⟩
      unfold sees
      rw [e]
      dsimp only
      rw [List.contains_iff_mem, show ((x.toNat : Nat) : Int) = x by omega]
      exact hx
    · rintro ⟨j, rfl, hj, h2⟩
      unfold sees at h2
      rw [e] at h2
      exact List.contains_iff_mem.mp h2
  · rw [List.getElem?_eq_none (by omega), List.getElem?_eq_none (by rw [ofRel_len]; omega)]
theorem sees_lt {ps : List (List Int)} (w : Wf ps) {i j : Nat} (h : sees ps i j = true) : j < i ∧ i < ps.length := by
  unfold sees at h
  split at h
  · rename_i r e
    have := w i r e _ (List.contains_iff_mem.mp h)
    exact ⟨by omega, (List.getElem?_eq_some_iff.mp e).1⟩
  · cases h
theorem sees_at {ps : List (List Int)} {i j : Nat} {r : List Int} (e : ps[i]? = some r) : sees ps i j = r.contains (j : Int) := by
  unfold sees; rw [e]
end DL

end
section
set_option Elab.async false
set_option linter.all false
set_option maxRecDepth 100000
set_option maxHeartbeats 2000000
namespace DL
open PySem PySem.Spec L2
/-! ### dicts told by what they hold -/
theorem look_put {κ : Type} [DecidableEq κ] {f : D → Option κ} {k : κ} {kd d : D} (hk : f kd = some k) (es : List (D × D)) (k' : κ) : look f (putE f es k kd d) k' = if k' = k then some d else look f es k' := by
  unfold putE
  split
  · rename_i h
    induction es with
    | nil => simp at h
    | cons e es ih =>
      rw [List.map_cons]
      by_cases e0 : f e.1 = some k
      · rw [if_pos e0]
        unfold look
        rw [List.find?_cons, List.find?_cons]
        dsimp only
        rw [e0]
        by_cases hk' : k = k'
        · rw [decide_eq_true (congrArg some hk'), if_pos hk'.symm]; rfl
        · rw [decide_eq_false fun z => hk' (Option.some.inj z), if_neg fun z => hk' z.symm]
          dsimp only
          congr 1
          -- the rest: what is written there has another key
          clear ih h
          induction es with
          | nil => rfl
          | cons a es ih2 =>
            rw [List.map_cons, List.find?_cons, List.find?_cons]
            by_cases ea : f a.1 = some k
            · rw [if_pos ea]
              dsimp only
              rw [ea, decide_eq_false fun z => hk' (Option.some.inj z)]
              exact ih2
            · rw [if_neg ea]
              cases hz : decide (f a.1 = some k') with
              | true => simp only [hz]
              | false => simp only [hz]; exact ih2
      · rw [if_neg e0]
        rw [List.any_cons, decide_eq_false e0, Bool.false_or] at h
        have ih := ih h
        unfold look at ih ⊢
        rw [List.find?_cons, List.find?_cons]
        cases hz : decide (f e.1 = some k') with
        | true =>
          dsimp only
          rw [if_neg]
          intro z
          rw [z] at hz
          exact e0 (of_decide_eq_true hz)
        | false => exact ih
  · rename_i h
    unfold look
    rw [List.find?_append]
    by_cases hk' : k' = k
    · rw [if_pos hk']
      have hn : es.find? (fun e => decide (f e.1 = some k')) = none := by
        rw [List.find?_eq_none]
        intro x hx hy
        refine h (List.any_eq_true.mpr ⟨x, hx, ?_⟩)
        rw [hk'] at hy; exact hy
      rw [hn, List.find?_cons]
      dsimp only
      rw [hk, decide_eq_true (congrArg some hk'.symm)]
      rfl
    · rw [if_neg hk', List.find?_cons]
      dsimp only
      rw [hk, decide_eq_false fun z => hk' (Option.some.inj z).symm]
      cases es.find? (fun e => decide (f e.1 = some k')) <;> rfl
theorem put_len {κ : Type} [DecidableEq κ] {f : D → Option κ} {k : κ} {kd d : D} (es : List (D × D)) : (putE f es k kd d).length ≤ es.length + 1 := by
  unfold putE
  split
  · rw [List.length_map]; omega
  · rw [List.length_append]; simp
/-- a dict of pairs of ints, n entries at most: S tells which there are -/
def PairsI (S : Int → Int → Bool) (n : Nat) (d : D) : Prop := ∃ es, d = .dict ((.none, .none) :: es) ∧ es.length ≤ n ∧ ∀ a b, (look kT es [.inl a, .inl b]).isSome = S a b
theorem pairs_nil : PairsI (fun _ _ => false) 0 (.dict [(.none, .none)]) := ⟨[], rfl, Nat.le_refl _, fun _ _ => rfl⟩
theorem pairs_put {S : Int → Int → Bool} {n : Nat} {d x : D} (h : PairsI S n d) (hn : n < 1000000) (a b : Int) : ∃ d', dPut d (.tuple [.int a, .int b]) x = some d' ∧ PairsI (fun u v => (u == a && v == b) || S u v) (n + 1) d' := by
  obtain ⟨es, rfl, hl, hs⟩ := h
  refine ⟨.dict ((.none, .none) :: putE kT es [.inl a, .inl b] (.tuple [.int a, .int b]) x), ?_, _, rfl, Nat.le_trans (put_len es) (by omega), fun u v => ?_⟩
  · show (if es.length < 1000000 then (kT (.tuple [.int a, .int b])).map fun ks => PyData.dict ((.none, .none) :: putE kT es ks (.tuple [.int a, .int b]) x) else none) = _
    rw [if_pos (by omega)]; rfl
  · rw [look_put (by rfl)]
    by_cases e : u = a ∧ v = b
    · obtain ⟨rfl, rfl⟩ := e
      rw [if_pos rfl]
      simp
    · rw [if_neg (by intro z; simp at z; exact e z), hs]
      have : (u == a && v == b) = false := by
        rw [Bool.eq_false_iff]; intro z; simp at z; exact e z
      show S u v = (u == a && v == b || S u v)
      rw [this, Bool.false_or]
theorem pairs_in {S : Int → Int → Bool} {n : Nat} {d : D} (h : PairsI S n d) (a b : Int) : gDin false (.tuple [.int a, .int b]) d = some (.bool (S a b)) := by
  obtain ⟨es, rfl, hl, hs⟩ := h
  show some (PyData.bool ((look kT es [.inl a, .inl b]).isSome != false)) = _
  rw [hs]
  cases S a b <;> rfl
theorem PairsI.ext {S T : Int → Int → Bool} {n : Nat} {d : D} (h : PairsI S n d) (e : ∀ a b, S a b = T a b) : PairsI T n d := by
  obtain ⟨es, rfl, hl, hs⟩ := h
  exact ⟨es, rfl, hl, fun a b => by rw [hs, e]⟩
/-! the place of an int in a row -/
def pos : List Int → Int → Option Nat
  | [], _ => none
  | a :: l, x => if a = x then some 0 else (pos l x).map (· + 1)
theorem pos_some : ∀ {l : List Int} {x : Int} {i : Nat}, pos l x = some i → l[i]? = some x
  | a :: l, x, i, h => by
    rw [pos] at h
    split at h
    · rename_i e; cases h; rw [e]; rfl
    · obtain ⟨j, h1, rfl⟩ := Option.map_eq_some_iff.mp h
      exact (pos_some h1 : l[j]? = some x)
theorem pos_at : ∀ {l : List Int} {x : Int} {i : Nat}, l.Nodup → l[i]? = some x → pos l x = some i
  | a :: l, x, 0, hn, h => by
    simp at h; subst h
    rw [pos, if_pos rfl]
  | a :: l, x, i + 1, hn, h => by
    have h : l[i]? = some x := h
    obtain ⟨h1, h2⟩ := List.nodup_cons.mp hn
    have ne : ¬ a = x := fun z => h1 (by rw [z]; exact List.mem_of_getElem? h)
    rw [pos, if_neg ne, pos_at h2 h]; rfl
theorem pos_none : ∀ {l : List Int} {x : Int}, pos l x = none ↔ x ∉ l
  | [], x => by simp [pos]
  | a :: l, x => by
    rw [pos, List.mem_cons]
    by_cases e : a = x
    · rw [if_pos e]; simp [e]
    · rw [if_neg e, Option.map_eq_none_iff, pos_none]
      exact ⟨fun h z => z.elim (fun z => e z.symm) h, fun h z => h (.inr z)⟩
theorem put_keys {κ : Type} [DecidableEq κ] {f : D → Option κ} {k : κ} {kd d : D} (hk : f kd = some k) {es : List (D × D)} (h : ∀ e ∈ es, f e.1 ≠ none) : ∀ e ∈ putE f es k kd d, f e.1 ≠ none := by
  unfold putE
  split
  · intro e he
    obtain ⟨a, ha, rfl⟩ := List.mem_map.mp he
    split
    · exact h a ha
    · exact h a ha
  · intro e he
    rcases List.mem_append.mp he with he | he
    · exact h e he
    · rw [List.mem_singleton.mp he]
      dsimp only
      rw [hk]; exact nofun
theorem dAt_keys {es : List (D × D)} (h : ∀ e ∈ es, kOf e.1 ≠ none) (k : D) : dAt (.dict es) k = (kOf k).map (look kOf es) := by
  unfold dAt
  dsimp only
  split
  · rename_i es'
    exact absurd rfl (h (.none, .none) List.mem_cons_self)
  · rfl
/-- {x: i for i, x in enumerate(xs)}: the dict -/
def numT (b : Nat) : List Int → List D
  | [] => []
  | x :: xs => .tuple [.int x, .int (b : Int)] :: numT (b + 1) xs
theorem mk_nums : ∀ (xs : List Int) (acc : List (D × D)) (b : Nat), acc.length + xs.length ≤ 1000000 → xs.Nodup → (∀ e ∈ acc, kOf e.1 ≠ none) → (∀ x ∈ xs, look kOf acc (.inl x) = none) →
    ∃ es, mkDict acc (numT b xs) = some es ∧ (∀ e ∈ es, kOf e.1 ≠ none) ∧ ∀ x, look kOf es (.inl x) = match pos xs x with | some i => some (.int ((b + i : Nat) : Int)) | none => look kOf acc (.inl x)
  | [], acc, b, _, _, hk, _ => ⟨acc, rfl, hk, fun x => rfl⟩
  | x :: xs, acc, b, hl, hn, hk, ha => by
    rw [List.length_cons] at hl
    obtain ⟨n1, n2⟩ := List.nodup_cons.mp hn
    have kx : kOf (PyData.int x) = some (.inl x) := rfl
    obtain ⟨es, h1, h2, h3⟩ := mk_nums xs (putE kOf acc (.inl x) (.int x) (.int (b : Int))) (b + 1) (by have := put_len (f := kOf) (k := .inl x) (kd := .int x) (d := .int (b : Int)) acc; omega) n2 (put_keys kx hk) (fun y hy => by
      rw [look_put kx, if_neg (fun z => n1 (by cases z; exact hy))]
      exact ha y (List.mem_cons_of_mem _ hy))
    refine ⟨es, ?_, h2, fun y => ?_⟩
    · rw [numT, mkDict, if_pos (by omega), kx, Option.bind_some]
      exact h1
    · rw [h3, pos]
      by_cases e : x = y
      · subst e
        rw [if_pos rfl, pos_none.mpr n1]
        dsimp only
        rw [look_put kx, if_pos rfl]; rfl
      · rw [if_neg e]
        cases hp : pos xs y with
        | none =>
          dsimp only [Option.map_none]
          rw [look_put kx, if_neg (fun z => e (by cases z; rfl))]
        | some i =>
          dsimp only [Option.map_some]
          rw [show b + 1 + i = b + (i + 1) by omega]
/-- a dict comprehension all of whose steps are plain -/
theorem dc_pure {vs : List Nat} {fi : Rho → M (List D)} {g : D → Rho → Option Rho} {tt : Rho → M Bool} {tk tv : Rho → M D} {ρ : Rho} {ds : List D} {f : D → Option D} {es : List (D × D)} (h1 : fi ρ = ret ds) (h2 : ∀ d ∈ ds, dcStep ρ vs g tt tk tv d = ret (f d)) (h3 : mkDict [] (ds.filterMap f) = some es) : eDc vs fi g tt tk tv ρ = ret (.dict es) := by
  unfold eDc
  rw [h1]
  show bnd (noX (mapM' (dcStep ρ vs g tt tk tv) ds)) _ = _
  rw [map_pure h2]
  show bnd (lift (mkDict [] (ds.filterMap f))) _ = _
  rw [h3]; rfl
end DL

end
section
set_option Elab.async false
set_option linter.all false
set_option maxRecDepth 100000
set_option maxHeartbeats 2000000
namespace DL
open PySem PySem.Spec L2
def gd (s : List Int) (x : Int) : Int := s.getD x.toNat 0
theorem gd_nat (s : List Int) (i : Nat) : gd s (i : Int) = s.getD i 0 := by unfold gd; rw [Int.toNat_natCast]
theorem il_at {p : List Int} {m : Nat} {d : D} (h : (il p)[m]? = some d) : ∃ x, p[m]? = some x ∧ d = .int x := by
  rw [List.getElem?_map, Option.map_eq_some_iff] at h
  obtain ⟨x, h, rfl⟩ := h
  exact ⟨x, h, rfl⟩
theorem tr_seqI {f g : Rho → M Oc} {ρ : Rho} {P : Pool} {Q : Oc → Pool → Prop} (I : Rho → Pool → Prop) (h1 : Tr (f ρ) P fun oc P' => ∃ ρ', oc = .nx ρ' ∧ I ρ' P') (h2 : ∀ ρ' P', I ρ' P' → Tr (g ρ') P' Q) : Tr (sSeq f g ρ) P Q := by
  unfold sSeq
  rw [tr_bnd]
  refine h1.mono fun oc P' ⟨ρ', e, h⟩ => ?_
  subst e
  exact h2 ρ' P' h
theorem sumA_il (l : List Int) : gSumA [.list (il l)] = some (.int l.sum) := by
  show (intsOf (il l)).map _ = _
  rw [intsOf_il]; rfl
theorem gLen_lst (l : List Int) : gLen [.list (il l)] = some (.int (l.length : Nat)) := by
  show some (PyData.int ((il l).length : Nat)) = _
  rw [il_len]
theorem gLen_til (l : List Int) : gLen [.tuple (il l)] = some (.int (l.length : Nat)) := by
  show some (PyData.int ((il l).length : Nat)) = _
  rw [il_len]
theorem ix_gd {s : List Int} {x : Int} (h0 : 0 ≤ x) (h : x < s.length) : gIx (.list (il s)) (.int x) = some (.int (gd s x)) := by
  show atI (il s) x = _
  refine atI_at h0 ?_
  unfold gd
  rw [List.getElem?_map, List.getD_eq_getElem?_getD, List.getElem?_eq_getElem (show x.toNat < s.length by omega)]; rfl
theorem ix_nat {s : List Int} {k : Nat} (h : k < s.length) : gIx (.list (il s)) (.int (k : Int)) = some (.int (s.getD k 0)) := by
  rw [ix_gd (by omega) (by omega), gd_nat]
theorem ixT_nat {s : List Int} {k : Nat} (h : k < s.length) : gIx (.tuple (il s)) (.int (k : Int)) = some (.int (s.getD k 0)) := by
  show atI (il s) (k : Int) = _
  refine atI_nat' ?_
  rw [List.getElem?_map, List.getD_eq_getElem?_getD, List.getElem?_eq_getElem h]; rfl
def fG (g : Int → Int) : D → Option D := fun d => match d with | .int x => some (.int (g x)) | _ => none
theorem filter_G (g : Int → Int) : ∀ l : List Int, (il l).filterMap (fG g) = il (l.map g)
  | [] => rfl
  | a :: l => by
    have e : il (a :: l) = .int a :: il l := rfl
    rw [e, List.filterMap_cons, filter_G g l]; rfl
theorem lc_map {v : Nat} {fi : Rho → M (List D)} {te : Rho → M D} {ρ : Rho} {xs : List Int} (g : Int → Int) (h1 : fi ρ = DL.ret (il xs)) (hv : v < ρ.length) (hl : xs.length ≤ 1000000) (h2 : ∀ x ∈ xs, te ((ρ.set v none).set v (some (.int x))) = DL.ret (.int (g x))) : eLc [v] fi (gtName v) (fun _ => DL.ret true) te ρ = DL.ret (.list (il (xs.map g))) := by
  refine eq_of fun P => tr_lc ?_
  rw [h1, tr_ret, map_pure (f := fG g)]
  · rw [filter_G, tr_ret]
    exact ⟨by rw [il_len, List.length_map]; exact hl, rfl, rfl⟩
  · intro d hd
    obtain ⟨x, hx, rfl⟩ := List.mem_map.mp hd
    have e0 : gtName v (.int x) (wipeD ρ [v]) = some ((ρ.set v none).set v (some (.int x))) := by
      unfold gtName
      rw [if_pos (by simpa [wipeD] using hv)]; rfl
    refine eq_of fun P => ?_
    unfold lcStep
    rw [tr_bnd, e0, tr_lift, tr_bnd, tr_ret, if_pos rfl, tr_bnd, h2 x hx, tr_ret, tr_ret]
    exact ⟨rfl, rfl⟩
def fGD (g : Int → D) : D → Option D := fun d => match d with | .int x => some (g x) | _ => none
theorem filter_GD (g : Int → D) : ∀ l : List Int, (il l).filterMap (fGD g) = l.map g
  | [] => rfl
  | a :: l => by
    have e : il (a :: l) = .int a :: il l := rfl
    rw [e, List.filterMap_cons, filter_GD g l]; rfl
theorem lc_mapD {v : Nat} {fi : Rho → M (List D)} {te : Rho → M D} {ρ : Rho} {xs : List Int} (g : Int → D) (h1 : fi ρ = DL.ret (il xs)) (hv : v < ρ.length) (hl : xs.length ≤ 1000000) (h2 : ∀ x ∈ xs, te ((ρ.set v none).set v (some (.int x))) = DL.ret (g x)) : eLc [v] fi (gtName v) (fun _ => DL.ret true) te ρ = DL.ret (.list (xs.map g)) := by
  refine eq_of fun P => tr_lc ?_
  rw [h1, tr_ret, map_pure (f := fGD g)]
  · rw [filter_GD, tr_ret]
    exact ⟨by rw [List.length_map]; exact hl, rfl, rfl⟩
  · intro d hd
    obtain ⟨x, hx, rfl⟩ := List.mem_map.mp hd
    have e0 : gtName v (.int x) (wipeD ρ [v]) = some ((ρ.set v none).set v (some (.int x))) := by
      unfold gtName
      rw [if_pos (by simpa [wipeD] using hv)]; rfl
    refine eq_of fun P => ?_
    unfold lcStep
    rw [tr_bnd, e0, tr_lift, tr_bnd, tr_ret, if_pos rfl, tr_bnd, h2 x hx, tr_ret, tr_ret]
    exact ⟨rfl, rfl⟩
theorem intsD_il (lo : Int) (n : Nat) : intsD lo n = il ((List.range n).map fun i => lo + ((i : Nat) : Int)) := by
  unfold intsD il
  rw [List.map_map]
  rfl
theorem okR_i {i : Int} (h0 : -10 ≤ i) (h1 : i ≤ 1000) : okR i = true := by unfold okR; simp; omega
theorem bnd_ret {α β : Type} {a : α} {k : α → M β} : bnd (DL.ret a) k = k a := rfl
theorem lift_some {α : Type} {a : α} : lift (some a) = DL.ret a := rfl
theorem noP_ret {α : Type} {a : α} : noP (DL.ret a) = DL.ret a := rfl
theorem tupT_len (ps : List (List Int)) : (tupT ps).length = ps.length := by simp [tupT]
theorem gLen_tup (ps : List (List Int)) : gLen [.tuple (tupT ps)] = some (.int (ps.length : Nat)) := by
  show some (PyData.int ((tupT ps).length : Nat)) = _
  rw [tupT_len]
theorem seq_skip {f r : Rho → M Oc} {ρ ρ' : Rho} (h : f ρ = DL.ret (.nx ρ')) : sSeq f r ρ = r ρ' := by unfold sSeq; rw [h]; rfl
theorem if_no {tt : Rho → M Bool} {a : Rho → M Oc} {ρ : Rho} (h : tt ρ = DL.ret false) : (sIf tt a sSkip) ρ = DL.ret (.nx ρ) := by
  unfold sIf
  rw [h]
  rfl
theorem tr_of_eq {α : Type} {m : M α} {a : α} {P : Pool} {Q : α → Pool → Prop} (h : m = DL.ret a) (q : Q a P) : Tr m P Q := by
  rw [h]
  exact q
theorem seqE {f g : Rho → M Oc} {ρ ρ' : Rho} {oc : Oc} (h : f ρ = DL.ret (.nx ρ')) (k : g ρ' = DL.ret oc) : sSeq f g ρ = DL.ret oc := by
  rw [seq_skip h]
  exact k
theorem cons_of {a : Rho → M D} {r : Rho → M (List D)} {ρ : Rho} {d : D} {ds : List D} (ha : a ρ = DL.ret d) (hr : r ρ = DL.ret ds) : eCons a r ρ = DL.ret (d :: ds) := by
  unfold eCons
  rw [ha, bnd_ret, hr, bnd_ret]
theorem call_of {F : List D → M D} {r : Rho → M (List D)} {ρ : Rho} {d : D} {ds : List D} (hr : r ρ = DL.ret ds) (hf : F ds = DL.ret d) : eCall F r ρ = DL.ret d := by
  unfold eCall
  rw [hr, bnd_ret, hf, noP_ret]
theorem op_of {g : D → D → Option D} {a b : Rho → M D} {ρ : Rho} {x y z : D} (ha : a ρ = DL.ret x) (hb : b ρ = DL.ret y) (hg : g x y = some z) : eOp g a b ρ = DL.ret z := by
  unfold eOp
  rw [ha, bnd_ret, hb, bnd_ret, hg, lift_some]
theorem bi_of {g : List D → Option D} {r : Rho → M (List D)} {ρ : Rho} {ds : List D} {z : D} (hr : r ρ = DL.ret ds) (hg : g ds = some z) : eB g r ρ = DL.ret z := by
  unfold eB
  rw [hr, bnd_ret, hg, lift_some]
theorem un_of {g : D → Option D} {a : Rho → M D} {ρ : Rho} {x z : D} (ha : a ρ = DL.ret x) (hg : g x = some z) : eUn g a ρ = DL.ret z := by
  unfold eUn
  rw [ha, bnd_ret, hg, lift_some]
theorem bool_of {e : Rho → M D} {ρ : Rho} {b : Bool} (h : e ρ = DL.ret (.bool b)) : tBool e ρ = DL.ret b := by
  unfold tBool
  rw [h, bnd_ret]
theorem tru_of {e : Rho → M D} {ρ : Rho} {b : Bool} (h : e ρ = DL.ret (.bool b)) : tTru e ρ = DL.ret b := by
  unfold tTru
  rw [h, bnd_ret]
  rfl
theorem not_no {t : Rho → M Bool} {ρ : Rho} (h : t ρ = DL.ret true) : tNot' t ρ = DL.ret false := by
  unfold tNot'
  rw [h, bnd_ret]
  rfl
theorem or_0 {s t : Rho → M Bool} {ρ : Rho} {b : Bool} (h : s ρ = DL.ret false) (k : t ρ = DL.ret b) : tOr' s t ρ = DL.ret b := by
  unfold tOr'
  rw [h, bnd_ret, if_neg (by decide)]
  exact k
theorem or_1 {s t : Rho → M Bool} {ρ : Rho} (h : s ρ = DL.ret true) : tOr' s t ρ = DL.ret true := by
  unfold tOr'
  rw [h, bnd_ret, if_pos rfl]
theorem set_of {i : Nat} {e : Rho → M D} {ρ ρ' : Rho} {d : D} (h : e ρ = DL.ret d) (hi : i < ρ.length) (hs : ρ.set i (some d) = ρ') : sSet i e ρ = DL.ret (.nx ρ') := by
  unfold sSet
  rw [h, bnd_ret, if_pos hi, hs]
theorem ret_of {e : Rho → M D} {r : Rho → M Oc} {ρ : Rho} {d : D} (h : e ρ = DL.ret d) : sSeq (sRet e) r ρ = DL.ret (.rt d) := by
  unfold sSeq sRet
  rw [h, bnd_ret, bnd_ret]
theorem yes_of {tt : Rho → M Bool} {a r : Rho → M Oc} {ρ : Rho} {d : D} (h : tt ρ = DL.ret true) (ha : a ρ = DL.ret (.rt d)) : sSeq (sIf tt a sSkip) r ρ = DL.ret (.rt d) := by
  unfold sSeq sIf
  rw [h, bnd_ret, if_pos rfl, ha, bnd_ret]

/-! comprehensions, each step told by a value -/
theorem lc_gen {vs : List Nat} {fi : Rho → M (List D)} {g : D → Rho → Option Rho} {tt : Rho → M Bool} {te : Rho → M D} {ρ : Rho} {ds : List D} (p : D → Bool) (h : D → D) (h1 : fi ρ = DL.ret ds) (hl : ds.length ≤ 1000000)
    (h2 : ∀ d ∈ ds, ∃ ρ1, g d (wipeD ρ vs) = some ρ1 ∧ tt ρ1 = DL.ret (p d) ∧ (p d = true → te ρ1 = DL.ret (h d))) : eLc vs fi g tt te ρ = DL.ret (.list ((ds.filter p).map h)) := by
  refine eq_of fun P => tr_lc ?_
  rw [h1, tr_ret, map_pure (f := fun d => if p d = true then some (h d) else none)]
  · have e : ds.filterMap (fun d => if p d = true then some (h d) else none) = (ds.filter p).map h := by
      clear h1 h2 hl
      induction ds with
      | nil => rfl
      | cons d ds ih =>
        rw [List.filterMap_cons, List.filter_cons, ih]
        cases p d <;> rfl
    rw [e, tr_ret]
    refine ⟨?_, rfl, rfl⟩
    rw [List.length_map]
    exact Nat.le_trans (List.length_filter_le _ _) hl
  · intro d hd
    obtain ⟨ρ1, e1, e2, e3⟩ := h2 d hd
    refine eq_of fun P => ?_
    unfold lcStep
    rw [tr_bnd, e1, tr_lift, tr_bnd, e2, tr_ret]
    cases hp : p d
    · rw [if_neg (by decide), tr_ret]
      exact ⟨rfl, rfl⟩
    · rw [if_pos rfl, tr_bnd, e3 hp, tr_ret, tr_ret]
      exact ⟨rfl, rfl⟩
theorem lc_all {vs : List Nat} {fi : Rho → M (List D)} {g : D → Rho → Option Rho} {te : Rho → M D} {ρ : Rho} {ds : List D} (h : D → D) (h1 : fi ρ = DL.ret ds) (hl : ds.length ≤ 1000000)
    (h2 : ∀ d ∈ ds, ∃ ρ1, g d (wipeD ρ vs) = some ρ1 ∧ te ρ1 = DL.ret (h d)) : eLc vs fi g (fun _ => DL.ret true) te ρ = DL.ret (.list (ds.map h)) := by
  have := lc_gen (tt := fun _ => DL.ret true) (fun _ => true) h h1 hl fun d hd => by
    obtain ⟨ρ1, a, b⟩ := h2 d hd
    exact ⟨ρ1, a, rfl, fun _ => b⟩
  rw [this, List.filter_eq_self.mpr (fun _ _ => rfl)]
end DL

end
section
set_option Elab.async false
set_option linter.all false
set_option maxRecDepth 100000
set_option maxHeartbeats 2000000
namespace DL
open PySem PySem.Spec L2
/-! ### a law's tape: its cells, four numbers -/
abbrev tSetI (i e : TE) : TS := tAsg e (L2.gSub (tVar 0) i rSetL)
def pickT3 (K : PySem.W.Frag) : TS :=
  tSeq (tIfS (tTest (tOp (rI0 fun i j => V.bl (decide (j ≤ i))) (tVar 3) (tPowN (tC (.int 10)) (tC (.int 18)))))
    (tSeq (tSetI (tC (.int 2)) (tDivN (tVar 3) (tVar 1))) (tSeq (tRet (tModN (tI (tVar 3)) (tVar 1))) tNext)) tNext) <|
  tSeq (tAsg (tModN (tI (tAddN (tAddN (tMulN (tOp (rIxL K) (tVar 0) (tC (.int 3))) (tC (.int 48271))) (tModN (tI (tVar 3)) (tC (.int 2147483629)))) (tMulN (tOp (rIxL K) (tVar 0) (tC (.int 4))) (tC (.int 69621))))) (tC (.int 2147483647))) (gName 4)) <|
  tSeq (tAsg (tModN (tI (tMulN (tVar 4) (tAddN (tDivN (tVar 4) (tC (.int 1009))) (tC (.int 40692))))) (tC (.int 2147483399))) (gName 4)) <|
  tSeq (tSetI (tC (.int 3)) (tVar 4)) <|
  tSeq (tRet (tModN (tI (tDivN (tVar 4) (tC (.int 16)))) (tVar 1))) tNext
def pickT2 (K : PySem.W.Frag) : TS :=
  tSeq (tSetI (tC (.int 4)) (tAddN (tOp (rIxL K) (tVar 0) (tC (.int 4))) (tC (.int 1)))) <|
  tSeq (tAsg (tC (.int 0)) (gName 3)) <|
  tSeq (tIfS (tTest (tOp (rI0 fun i j => V.bl (decide (i < j))) (tOp (rIxL K) (tVar 0) (tC (.int 1))) (tCB (fun xs H Q => ∃ p ys, xs = [.ref p] ∧ (SqL K H p ys ∨ SqT K H p ys) ∧ Q (.int ys.length) H) (tCons (tOp (rIxL K) (tVar 0) (tC (.int 0))) tNil))))
    (tSeq (tAsg (tOp (rIxL K) (tOp (rIxL K) (tVar 0) (tC (.int 0))) (tOp (rIxL K) (tVar 0) (tC (.int 1)))) (gName 3)) <|
     tSeq (tSetI (tC (.int 1)) (tAddN (tOp (rIxL K) (tVar 0) (tC (.int 1))) (tC (.int 1)))) tNext) tNext) (pickT3 K)
def pickT (K : PySem.W.Frag) : TS :=
  tSeq (tIfS (tTest (tOp (rI0 fun i j => V.bl (decide (j < i))) (tOp (rIxL K) (tVar 0) (tC (.int 2))) (tC (.int 1))))
    (tSeq (tAsg (tModN (tI (tOp (rIxL K) (tVar 0) (tC (.int 2)))) (tVar 1)) (gName 2)) <|
     tSeq (tSetI (tC (.int 2)) (tDivN (tOp (rIxL K) (tVar 0) (tC (.int 2))) (tVar 1))) <|
     tSeq (tRet (tVar 2)) tNext) tNext) (pickT2 K)
def mix3 (c a3 a4 : Int) : Int :=
  let a := (a3 * 48271 + c.fmod 2147483629 + a4 * 69621).fmod 2147483647
  (a * (a.fdiv 1009 + 40692)).fmod 2147483399
def tapeP (a1 a2 a3 a4 : Int) (cs : List Int) : Pool := ⟨a1 :: a2 :: a3 :: a4 :: cs, 0, 2⟩
/-- what a pick leaves: the number, the tape's four numbers -/
def pickN (a1 a2 a3 a4 : Int) (cs : List Int) (size : Int) : Int × Int × Int × Int × Int :=
  if 1 < a2 then (a2.fmod size, a1, a2.fdiv size, a3, a4) else
  let c := if a1 < cs.length then cs.getD a1.toNat 0 else 0
  let b1 := if a1 < cs.length then a1 + 1 else a1
  if 10 ^ 18 ≤ c then (c.fmod size, b1, c.fdiv size, a3, a4 + 1)
  else (((mix3 c a3 (a4 + 1)).fdiv 16).fmod size, b1, a2, mix3 c a3 (a4 + 1), a4 + 1)
def pickF : List D → M D := fun ds P => match ds, P with
  | [.int size], ⟨a1 :: a2 :: a3 :: a4 :: cs, _, 2⟩ => if 0 < size ∧ size < 1073741824 ∧ 0 ≤ a1 then
      let r := pickN a1 a2 a3 a4 cs size
      some (.ok (.int r.1), tapeP r.2.1 r.2.2.1 r.2.2.2.1 r.2.2.2.2 cs)
    else none
  | _, _ => none
abbrev tpO (r : Addr) (a1 a2 a3 a4 : Int) : HO := .lst [.ref r, .int a1, .int a2, .int a3, .int a4]
theorem upd_upd {H : Hp} {p : Addr} {a b : HO} : upd (upd H p a) p b = upd H p b := by
  funext x
  unfold upd
  split <;> rfl
section
variable {K : PySem.W.Frag} {H : Hp} {E : Ends} {p r : Addr} {size a1 a2 a3 a4 c : Int} {cs : List Int}
theorem pick3_run (hne : p ≠ r) (hp : H p = some (tpO r a1 a2 a3 a4)) (hr : H r = some (.lst (cs.map V.int))) (hm : 0 < size) (hm2 : size < 1073741824)
    (k1 : 10 ^ 18 ≤ c → E.rt (.int (c.fmod size)) (upd H p (tpO r a1 (c.fdiv size) a3 a4)))
    (k2 : ¬ 10 ^ 18 ≤ c → E.rt (.int (((mix3 c a3 a4).fdiv 16).fmod size)) (upd H p (tpO r a1 a2 (mix3 c a3 a4) a4))) :
    pickT3 K E [some (.ref p), some (.int size), none, some (.int c), none] H := by
  refine ⟨.int c, rfl, 10, 18, rfl, rfl, ⟨by decide, by decide, by decide⟩, c, _, rfl, rfl, decide (10 ^ 18 ≤ c), rfl, ?_⟩
  by_cases hb : 10 ^ 18 ≤ c
  · rw [decide_eq_true hb]
    dsimp only
    rw [if_pos rfl]
    refine ⟨.int c, rfl, .int size, rfl, c, size, rfl, rfl, ⟨by omega, by omega⟩, .ref p, rfl, p, _, 2, 2, rfl, rfl, hp, rfl, ?_⟩
    exact ⟨.int c, rfl, .inl ⟨c, rfl, .int size, rfl, c, size, rfl, rfl, by omega, k1 hb⟩⟩
  · rw [decide_eq_false hb]
    dsimp only
    rw [if_neg (by decide)]
    have q := k2 hb
    unfold mix3 at q
    refine ⟨.ref p, rfl, p, _, 3, .int a3, rfl, rfl, .inl (.inl hp), rfl, a3, 48271, rfl, rfl, .inr ⟨by decide, by decide⟩, .int c, rfl, .inl ⟨c, rfl, c, 2147483629, rfl, rfl, (show (2147483629 : Int) ≠ 0 by decide), _, _, rfl, rfl, .ref p, rfl, p, _, 4, .int a4, rfl, rfl, .inl (.inl hp), rfl, a4, 69621, rfl, rfl, .inr ⟨by decide, by decide⟩, _, _, rfl, rfl, .inl ⟨_, rfl, _, 2147483647, rfl, rfl, (show (2147483647 : Int) ≠ 0 by decide), ?_⟩⟩⟩
    dsimp only
    have h1 := fmod_lo (a := a3 * 48271 + c.fmod 2147483629 + a4 * 69621) (b := 2147483647) (by decide)
    generalize (a3 * 48271 + c.fmod 2147483629 + a4 * 69621).fmod 2147483647 = a at q h1 ⊢
    refine ⟨.int a, rfl, .int a, rfl, a, 1009, rfl, rfl, ⟨by decide, by decide⟩, _, 40692, rfl, rfl, a, _, rfl, rfl, .inl ⟨by omega, by omega⟩, .inl ⟨_, rfl, _, 2147483399, rfl, rfl, (show (2147483399 : Int) ≠ 0 by decide), ?_⟩⟩
    dsimp only
    dsimp only at q
    generalize (a * (a.fdiv 1009 + 40692)).fmod 2147483399 = m at q ⊢
    refine ⟨.int m, rfl, .ref p, rfl, p, _, 3, 3, rfl, rfl, hp, rfl, ?_⟩
    exact ⟨.int m, rfl, m, 16, rfl, rfl, ⟨by decide, by decide⟩, .inl ⟨_, rfl, .int size, rfl, _, size, rfl, rfl, by omega, q⟩⟩
theorem atI_lt {l : List Int} {i : Int} (h0 : 0 ≤ i) (h : i < l.length) : atI (l.map V.int) i = some (.int (l.getD i.toNat 0)) := by
  have hn : i.toNat < l.length := by omega
  unfold atI ixN
  rw [List.length_map, if_pos h0, if_pos h, Option.bind_some, List.getElem?_map, List.getElem?_eq_getElem hn, List.getD_eq_getElem?_getD, List.getElem?_eq_getElem hn]
  rfl
theorem pick2_run (hne : p ≠ r) (hp : H p = some (tpO r a1 a2 a3 a4)) (hr : H r = some (.lst (cs.map V.int))) (hm : 0 < size) (hm2 : size < 1073741824) (h0 : 0 ≤ a1) (hb : ¬ 1 < a2)
    (k : ∀ v b1 b2 b3 b4, pickN a1 a2 a3 a4 cs size = (v, b1, b2, b3, b4) → E.rt (.int v) (upd H p (tpO r b1 b2 b3 b4))) :
    pickT2 K E [some (.ref p), some (.int size), none, none, none] H := by
  unfold pickN at k
  rw [if_neg hb] at k
  have hr1 : ∀ o, upd H p o r = some (.lst (cs.map V.int)) := fun o => by rw [upd_ne (Ne.symm hne)]; exact hr
  have hp1 : ∀ o, upd H p o p = some o := fun o => upd_same
  refine ⟨.ref p, rfl, p, _, 4, .int a4, rfl, rfl, .inl (.inl hp), rfl, a4, 1, rfl, rfl, .ref p, rfl, p, _, 4, 4, rfl, rfl, hp, rfl, ?_⟩
  refine ⟨.ref p, rfl, p, _, 1, .int a1, rfl, rfl, .inl (.inl (hp1 _)), rfl, .ref p, rfl, p, _, 0, .ref r, rfl, rfl, .inl (.inl (hp1 _)), rfl, r, _, rfl, .inl (.inl (.inl (hr1 _))), a1, _, rfl, rfl, decide (a1 < cs.length), by rw [List.length_map], ?_⟩
  by_cases hc : a1 < cs.length
  · rw [decide_eq_true hc]
    dsimp only
    rw [if_pos rfl]
    refine ⟨.ref p, rfl, p, _, 0, .ref r, rfl, rfl, .inl (.inl (hp1 _)), rfl, .ref p, rfl, p, _, 1, .int a1, rfl, rfl, .inl (.inl (hp1 _)), rfl, r, _, a1, _, rfl, rfl, .inl (.inl (hr1 _)), atI_lt h0 hc, ?_⟩
    refine ⟨.ref p, rfl, p, _, 1, .int a1, rfl, rfl, .inl (.inl (hp1 _)), rfl, a1, 1, rfl, rfl, .ref p, rfl, p, _, 1, 1, rfl, rfl, hp1 _, rfl, ?_⟩
    dsimp only at k
    rw [if_pos hc, if_pos hc] at k
    refine pick3_run (cs := cs) hne upd_same ?_ hm hm2 (fun h => ?_) fun h => ?_
    · rw [upd_upd]; exact hr1 _
    · have := k _ _ _ _ _ (by rw [if_pos h])
      rw [upd_upd, upd_upd]
      exact this
    · have := k _ _ _ _ _ (by rw [if_neg h])
      rw [upd_upd, upd_upd]
      exact this
  · rw [decide_eq_false hc]
    dsimp only
    rw [if_neg (by decide)]
    dsimp only at k
    rw [if_neg hc, if_neg hc] at k
    refine pick3_run (cs := cs) hne upd_same ?_ hm hm2 (fun h => ?_) fun h => ?_
    · exact hr1 _
    · have := k _ _ _ _ _ (by rw [if_pos h])
      rw [upd_upd]
      exact this
    · have := k _ _ _ _ _ (by rw [if_neg h])
      rw [upd_upd]
      exact this
theorem pick_run (hne : p ≠ r) (hp : H p = some (tpO r a1 a2 a3 a4)) (hr : H r = some (.lst (cs.map V.int))) (hm : 0 < size) (hm2 : size < 1073741824) (h0 : 0 ≤ a1)
    (k : ∀ v b1 b2 b3 b4, pickN a1 a2 a3 a4 cs size = (v, b1, b2, b3, b4) → E.rt (.int v) (upd H p (tpO r b1 b2 b3 b4))) :
    pickT K E [some (.ref p), some (.int size), none, none, none] H := by
  refine ⟨.ref p, rfl, p, _, 2, .int a2, rfl, rfl, .inl (.inl hp), rfl, a2, 1, rfl, rfl, decide (1 < a2), rfl, ?_⟩
  by_cases hb : 1 < a2
  · rw [decide_eq_true hb]
    dsimp only
    rw [if_pos rfl]
    have kk := k _ _ _ _ _ (by unfold pickN; rw [if_pos hb])
    refine ⟨.ref p, rfl, p, _, 2, .int a2, rfl, rfl, .inl (.inl hp), rfl, .inl ⟨a2, rfl, .int size, rfl, a2, size, rfl, rfl, by omega, ?_⟩⟩
    refine ⟨.ref p, rfl, p, _, 2, .int a2, rfl, rfl, .inl (.inl hp), rfl, .int size, rfl, a2, size, rfl, rfl, ⟨by omega, by omega⟩, .ref p, rfl, p, _, 2, 2, rfl, rfl, hp, rfl, ?_⟩
    exact ⟨_, rfl, kk⟩
  · rw [decide_eq_false hb]
    dsimp only
    rw [if_neg (by decide)]
    exact pick2_run hne hp hr hm hm2 h0 hb k
end
section
variable {P : Program} {w : World} {K : PySem.W.Frag} {mg : Str → Option Value} {base : Heap}
theorem pick_def {x : Str} {st : Stmt} {f : Addr} {fd : FuncData} {N prs : List Str} {cl : String → Addr} (G : Fun K x x st f fd) (S : FnScope N prs (defScope st)) (hN : N.length = 5) (hp : prs.length = 2)
    (body : ∀ (cdv : Value) (B : Around) (up : List Env) (s : Shared) (H : Hp) (E : XK), PSs (cxOf (L2.CX P w) P w K mg base N x (defScope st) f cdv B up s H E) (defBody st) (pickT K)) : FnG P w K mg base 1 f fd prs (spD cl true 1 0 pickF) := by
  refine fnG_of G S (spD_len hp) fun cdv B up s H vs Q E hg hr ⟨F, pa, P0, ds, ws, hv, hw, rp, sub, pool, wp⟩ => ?_
  refine ⟨_, body cdv B up s H E, ?_⟩
  cases pa with
  | none => exact hv.elim
  | some pr =>
    obtain ⟨p, r⟩ := pr
    have ev : vs = .ref p :: ws := hv
    subst ev
    obtain ⟨hne0, h1, h2, h3, h4⟩ := pool p r rfl
    have e0 : L2.start N (.ref p :: ws) = some (.ref p) :: (ws.map some ++ List.replicate 3 none) := by
      unfold L2.start
      rw [hN, List.length_cons, hw]; rfl
    rw [e0]
    unfold pickF at wp
    split at wp
    · rename_i size a1 a2 a3 a4 cs tt
      cases rp with
      | cons ha rr =>
        cases rr
        cases ha
        split at wp
        · rename_i hc
          have hne : p ≠ r := hne0.2 (show (2 : Nat) ≠ 1 by decide)
          have h1' : H p = some (tpO r a1 a2 a3 a4) := h1
          have h2' : H r = some (.lst (cs.map V.int)) := h2
          refine pick_run hne h1' h2' hc.1 hc.2.1 hc.2.2 fun v b1 b2 b3 b4 e => ?_
          dsimp only at wp
          rw [e] at wp
          have sm : ∀ a o, F a = some o → upd H p (tpO r b1 b2 b3 b4) a = some o := fun a o e => by
            rw [upd_ne (fun z => by subst z; rw [h3] at e; cases e)]
            exact sub a o e
          refine wp _ _ ⟨F, [], ⟨sm, .refl _, fun _ _ h => .inl h, fun a o e n => ?_, fun a e => ?_, fun p' r' e => ?_⟩, .fz (.int _), List.nodup_nil, fun _ h => nomatch h⟩
          · rw [upd_ne (n p r rfl).1]; exact e
          · by_cases z1 : a = p
            · subst z1; rw [upd_same] at e; cases e
            · rw [upd_ne z1] at e; exact e
          · cases e
            refine ⟨⟨fun z => (by cases z), fun _ => hne⟩, upd_same, ?_, h3, h4⟩
            rw [upd_ne (Ne.symm hne)]; exact h2'
        · exact wp.elim
    · exact wp.elim
theorem pick_of {x : Str} {st : Stmt} {N prs : List Str} {cl : String → Addr} (T : Df K mg x st prs) (S : FnScope N prs (defScope st)) (hN : N.length = 5 := by rfl) (hp : prs.length = 2 := by rfl)
    (body : ∀ (f : Addr) (cdv : Value) (B : Around) (up : List Env) (s : Shared) (H : Hp) (E : XK), PSs (cxOf (L2.CX P w) P w K mg base N x (defScope st) f cdv B up s H E) (defBody st) (pickT K)) : Fn P w K mg base 1 x prs (spD cl true 1 0 pickF) := by
  obtain ⟨f, fd, F, h1, h2⟩ := T
  exact ⟨f, fd, pick_def F S hN hp (body f), h1, F.kp, h2⟩
/-! the tape is laid, the law's body -/
def tapeT (K : PySem.W.Frag) : TS := tSeq (tRet (tLst (tCons (tCB (listA K) (tCons (tVar 0) tNil)) (tCons (tC (.int 0)) (tCons (tC (.int 0)) (tCons (tC (.int 1)) (tCons (tC (.int 0)) tNil))))))) tNext
def tapeSp (K : PySem.W.Frag) : Sp := fun vs H Q E => ∃ (a : Addr) (ns : List Int), vs = [.ref a] ∧ SqL K H a (ns.map V.int) ∧ ∀ (p r : Addr) (H' : Hp), p ≠ r → H p = none → H r = none → Same H H' → H' p = some (tpO r 0 0 1 0) → H' r = some (.lst (ns.map V.int)) → Q (.ref p) H'
theorem tape_run {H : Hp} {E : Ends} {a : Addr} {ns : List Int} (h : SqL K H a (ns.map V.int)) (k : ∀ (p r : Addr) (H' : Hp), p ≠ r → H p = none → H r = none → Same H H' → H' p = some (tpO r 0 0 1 0) → H' r = some (.lst (ns.map V.int)) → E.rt (.ref p) H') : tapeT K E [some (.ref a)] H := by
  refine ⟨.ref a, rfl, a, _, rfl, .inl h, fun l hl => ?_⟩
  have h1 : upd H l (.lst (ns.map V.int)) l = some (.lst (ns.map V.int)) := upd_same
  have s1 : Same H (upd H l (.lst (ns.map V.int))) := same_upd hl
  refine ⟨line_of (by simp), fun p hp => ?_⟩
  have hpr : p ≠ l := fun z => by subst z; rw [upd_same] at hp; cases hp
  refine k p l _ hpr (s1.free hp) hl (s1.trans (same_upd hp)) upd_same ?_
  rw [upd_ne (Ne.symm hpr)]; exact h1
theorem tape_of {x : Str} {st : Stmt} {N prs : List Str} (T : Df K mg x st prs) (S : FnScope N prs (defScope st)) (hN : N.length = 1 := by rfl) (hp : prs.length = 1 := by rfl)
    (body : ∀ (f : Addr) (cdv : Value) (B : Around) (up : List Env) (s : Shared) (H : Hp) (E : XK), PSs (cxOf (L2.CX P w) P w K mg base N x (defScope st) f cdv B up s H E) (defBody st) (tapeT K)) : Fn P w K mg base 1 x prs (tapeSp K) := by
  obtain ⟨f, fd, F, h1, h2⟩ := T
  refine ⟨f, fd, fnG_of F S ?_ fun cdv B up s H vs Q E hg hr ⟨a, ns, hv, hs, k⟩ => ?_, h1, F.kp, h2⟩
  · intro vs H Q E ⟨a, ns, hv, _⟩
    rw [hv, hp]; rfl
  · subst hv
    refine ⟨_, body f cdv B up s H E, ?_⟩
    have e0 : L2.start N [.ref a] = [some (.ref a)] := by
      unfold L2.start
      rw [hN]; rfl
    rw [e0]
    exact tape_run hs k
/-- the law tells True, from any tape at its beginning -/
def KeepsT (N : List Str) (f : Rho → M Oc) : Prop := ∀ cs : List Int, ∃ P', f (List.replicate N.length none) (tapeP 0 0 1 0 cs) = some (.ok (.rt (.bool true)), P')
theorem law_defT {x : Str} {st : Stmt} {N prs : List Str} {k : Nat} {ow' : Owns} {cl : String → Addr} {fr : Rho → M Oc} {s1 : Stmt} {tail : List Stmt} (T : Df K mg x st prs) (S : FnScope N prs (defScope st)) (hN : 2 ≤ N.length) (hp : prs.length = 1) (hb : defBody st = s1 :: tail)
    (first : ∀ (f : Addr) (cdv : Value) (B : Around) (up : List Env) (s : Shared) (H : Hp) (E : XK) (J : Jd), J = jd P w K mg base N x (defScope st) f cdv B up s H E cl (some 1) → Ok J → Room k J.X.A → PS J.X s1 (tAsg (tCallS (tapeSp K) (WE J.W) (tCons (tVar 0) tNil)) (gName 1)))
    (rest : ∀ (f : Addr) (cdv : Value) (B : Around) (up : List Env) (s : Shared) (H : Hp) (E : XK), Ok (jd P w K mg base N x (defScope st) f cdv B up s H E cl (some 1)) → PassesOwn (model P w) (jd P w K mg base N x (defScope st) f cdv B up s H E cl (some 1)).X.A (jd P w K mg base N x (defScope st) f cdv B up s H E cl (some 1)).X.env (jd P w K mg base N x (defScope st) f cdv B up s H E cl (some 1)).X.xe →
      Room k (jd P w K mg base N x (defScope st) f cdv B up s H E cl (some 1)).X.A → Ss (jd P w K mg base N x (defScope st) f cdv B up s H E cl (some 1)) [] ow' [] 0 tail fr)
    (keeps : KeepsT N fr) : Fn P w K mg base (k + 1) x prs (lawSp K) := by
  obtain ⟨f, fd, F, h1, h2⟩ := T
  refine ⟨f, fd, fnG_of F S ?_ fun cdv B up s H vs Q E hg hr ⟨a, ns, hv, hs, kq⟩ => ?_, h1, F.kp, h2⟩
  · intro vs H Q E ⟨a, ns, hv, _⟩
    rw [hv, hp]; rfl
  subst hv
  have O : Ok (jd P w K mg base N x (defScope st) f cdv B up s H E cl (some 1)) := ⟨hg, rfl, by have := hr.un; show (B.deeper _).units + 200 < cLine; omega, takes_of rfl rfl rfl rfl, S.nd, hr.hd⟩
  obtain ⟨t, pt, qt⟩ := rest f cdv B up s H E O (passes_of rfl) hr
  refine ⟨_, hb ▸ pss_cons (first f cdv B up s H E _ rfl O hr) pt, ?_⟩
  have e0 : L2.start N [.ref a] = some (.ref a) :: none :: List.replicate (N.length - 2) none := by
    unfold L2.start
    obtain ⟨m, hm⟩ : ∃ m, N.length = m + 2 := ⟨N.length - 2, by omega⟩
    rw [hm]
    simp [List.replicate_succ]
  rw [e0]
  refine ⟨.ref a, rfl, a, ns, rfl, hs, fun p r H' hne hp0 hr0 sm g1 g2 => ?_⟩
  let c : Ctx := ⟨H', fun _ => none, some (p, r), cl, none⟩
  have rl : Rl c (some 1, false) [] (some (.ref a) :: some (.ref p) :: List.replicate (N.length - 2) none) (List.replicate N.length none) (tapeP 0 0 1 0 ns) (fun _ => none) H' := by
    refine ⟨⟨fun _ _ e => (nomatch e), Same.refl _, fun _ _ h => .inl h, fun _ _ h _ => h, fun _ h => h, fun p' r' e => ?_⟩, ?_, fun i e => ?_, (fun e => by cases e), fun i d e _ => ?_, fun _ => [], (fun i k e => by cases e), (fun i j k l e => by cases e)⟩
    · cases e; exact ⟨⟨fun z => (by cases z), fun _ => hne⟩, g1, g2, rfl, rfl⟩
    · simp; omega
    · cases e; exact ⟨p, r, rfl, rfl⟩
    · rw [List.getElem?_replicate] at e
      split at e
      · cases e
      · cases e
  obtain ⟨P', hk⟩ := keeps ns
  refine qt c _ _ _ _ _ _ ⟨rfl, trivial⟩ rl ?_
  rw [hk]
  intro v H2 ⟨F', A, gd, o, nd, fr⟩
  have : v = .bl true := by
    cases o with
    | fz h => cases h; rfl
  subst this
  exact kq H2
end
theorem tape_call {J : Jd} {x : Str} {p pos : Pos} {e : Expr} {es : List Expr} {t : TA} {j m : Nat} {prs : List Str} (O : Ok J) (hr : Room m J.X.A) (G : Fn J.X.prog J.X.w J.X.K J.X.mg J.X.base j x prs (tapeSp J.X.K)) (ha : PA J.X (e :: es) t) (hj : j ≤ m := by decide) (hg : Gl J.X x := by rfl) (hdb : (x == ("__debug__" : Str)) = false := by decide)
    (he : starEach (e :: es) J.X.env = (false, eval e J.X.env) :: starEach es J.X.env := by rfl) (hpl : (backTo pos (starEach es J.X.env)).any (·.1) = false := by rfl) : PE J.X (.Call (.Name x p) (e :: es) [] pos) (tCallS (tapeSp J.X.K) (WE J.W) t) := by
  obtain ⟨f, fd, F, h1, h2, h3⟩ := G
  exact pe_callG F O.g (hr.mono hj) hg h1 h2 h3 O.tk ha hdb he hpl
/-! draws of a tape -/
def PosT (P : Pool) : Prop := ∃ a1 a2 a3 a4 cs, P = tapeP a1 a2 a3 a4 cs ∧ 0 ≤ a1
theorem ev_pick {size : Int} {P : Pool} {Q : D → Pool → Prop} (h0 : 0 < size) (h1 : size < 1073741824) (hp : PosT P) (k : ∀ v P', 0 ≤ v → v < size → PosT P' → Q (.int v) P') : Tr (pickF [.int size]) P Q := by
  obtain ⟨a1, a2, a3, a4, cs, rfl, hn⟩ := hp
  unfold Tr
  rw [show pickF [.int size] (tapeP a1 a2 a3 a4 cs) = if 0 < size ∧ size < 1073741824 ∧ 0 ≤ a1 then some (.ok (.int (pickN a1 a2 a3 a4 cs size).1), tapeP (pickN a1 a2 a3 a4 cs size).2.1 (pickN a1 a2 a3 a4 cs size).2.2.1 (pickN a1 a2 a3 a4 cs size).2.2.2.1 (pickN a1 a2 a3 a4 cs size).2.2.2.2 cs) else none from rfl, if_pos ⟨h0, h1, hn⟩]
  have hb : 0 ≤ (pickN a1 a2 a3 a4 cs size).1 ∧ (pickN a1 a2 a3 a4 cs size).1 < size ∧ 0 ≤ (pickN a1 a2 a3 a4 cs size).2.1 := by
    unfold pickN
    dsimp only
    split
    · exact ⟨(fmod_lo h0).1, (fmod_lo h0).2, hn⟩
    · have z : (0 : Int) ≤ if a1 < cs.length then a1 + 1 else a1 := by split <;> omega
      generalize (if a1 < cs.length then cs.getD a1.toNat 0 else 0) = c
      generalize (if a1 < cs.length then a1 + 1 else a1) = b1 at z
      split
      · exact ⟨(fmod_lo h0).1, (fmod_lo h0).2, z⟩
      · exact ⟨(fmod_lo h0).1, (fmod_lo h0).2, z⟩
  exact k _ _ hb.1 hb.2.1 ⟨_, _, _, _, _, rfl, hb.2.2⟩
theorem posT0 (cs : List Int) : PosT (tapeP 0 0 1 0 cs) := ⟨_, _, _, _, _, rfl, Int.le_refl 0⟩
end DL

end
section
set_option Elab.async false
set_option linter.all false
set_option maxRecDepth 100000
set_option maxHeartbeats 2000000
namespace DL
open PySem PySem.Spec L2
/-! ### dicts used as sets of ints; their sorted keys -/
def addI (ks : List Int) (x : Int) : List Int := if x ∈ ks then ks else ks ++ [x]
theorem mem_addI {ks : List Int} {x y : Int} : y ∈ addI ks x ↔ y ∈ ks ∨ y = x := by
  unfold addI
  split
  · rename_i h
    constructor
    · exact .inl
    · rintro (z | rfl)
      · exact z
      · exact h
  · simp
theorem addI_nodup {ks : List Int} {x : Int} (h : ks.Nodup) : (addI ks x).Nodup := by
  unfold addI
  split
  · exact h
  · rename_i hx
    rw [List.nodup_append]
    refine ⟨h, by simp, fun a ha b hb => ?_⟩
    rw [List.mem_singleton.mp hb]
    rintro rfl; exact hx ha
theorem addI_len {ks : List Int} {x : Int} : (addI ks x).length ≤ ks.length + 1 := by
  unfold addI
  split <;> simp
def Keys (es : List (D × D)) (ks : List Int) : Prop := es.map (·.1) = il ks
theorem Keys.len {es : List (D × D)} {ks : List Int} (h : Keys es ks) : es.length = ks.length := by
  have := congrArg List.length h
  simpa using this
theorem dPut_ints {es : List (D × D)} {ks : List Int} (h : Keys es ks) (k x : D) : dPut (.dict es) k x = if es.length < 1000000 then (kOf k).map fun ks => .dict (putE kOf es ks k x) else none := by
  cases es with
  | nil => rfl
  | cons e r =>
    obtain ⟨a, b⟩ := e
    cases ks with
    | nil => cases h
    | cons k0 ks =>
      have : a = .int k0 := by have := congrArg List.head? h; simpa using this
      subst this
      rfl
theorem any_ints {x : Int} : ∀ {es : List (D × D)} {ks : List Int}, Keys es ks → (es.any fun e => decide (kOf e.1 = some (.inl x))) = decide (x ∈ ks)
  | [], [], _ => rfl
  | [], _ :: _, h => nomatch h
  | _ :: _, [], h => nomatch h
  | e :: es, k :: ks, h => by
    obtain ⟨a, b⟩ := e
    have h2 : PyData.int k = a ∧ Keys es ks := by
      unfold Keys at h ⊢
      rw [List.map_cons] at h
      exact ⟨(List.cons.inj h).1.symm, (List.cons.inj h).2⟩
    obtain ⟨rfl, h2⟩ := h2
    rw [List.any_cons, any_ints h2, ← decide_or_eq]
    refine decide_eq_decide.mpr ?_
    rw [List.mem_cons]
    refine or_congr ?_ Iff.rfl
    show some (Sum.inl k) = some (Sum.inl x) ↔ _
    constructor
    · intro z; cases z; rfl
    · rintro rfl; rfl
where decide_or_eq {p q : Prop} [Decidable p] [Decidable q] : decide (p ∨ q) = (decide p || decide q) := by by_cases p <;> by_cases q <;> simp [*]
theorem keys_put {es : List (D × D)} {ks : List Int} (h : Keys es ks) (hl : ks.length < 1000000) (x : Int) (d : D) : ∃ es', dPut (.dict es) (.int x) d = some (.dict es') ∧ Keys es' (addI ks x) := by
  rw [dPut_ints h, if_pos (by rw [h.len]; exact hl)]
  refine ⟨_, rfl, ?_⟩
  unfold putE addI
  rw [any_ints h]
  by_cases hx : x ∈ ks
  · rw [if_pos (decide_eq_true hx), if_pos hx]
    unfold Keys
    rw [List.map_map, ← h]
    refine List.map_congr_left fun e _ => ?_
    show (if _ then _ else _ : D × D).1 = _
    split <;> rfl
  · rw [if_neg (by simpa using hx), if_neg hx]
    unfold Keys
    rw [List.map_append, h]
    simp [il]
theorem gListD_ints {es : List (D × D)} {ks : List Int} (h : Keys es ks) : gListD [.dict es] = some (.list (il ks)) := by
  rw [← h]
  cases es with
  | nil => rfl
  | cons e r =>
    obtain ⟨a, b⟩ := e
    cases ks with
    | nil => cases h
    | cons k0 ks =>
      have : a = .int k0 := by have := congrArg List.head? h; simpa using this
      subst this
      rfl
theorem gSorted_il (l : List Int) : gSorted [.list (il l)] = some (.list (il (sortI l))) := by
  unfold gSorted
  dsimp only
  rw [intsOf_il]; rfl
theorem sortI_lt {l : List Int} (h : l.Nodup) : (sortI l).Pairwise (· < ·) := by
  have h1 := sortI_sorted l
  have h2 : (sortI l).Nodup := (sortI_perm l).nodup_iff.mpr h
  rw [List.Nodup] at h2
  refine (h1.and h2).imp fun ⟨a, b⟩ => ?_
  omega
theorem mem_sortI {l : List Int} {x : Int} : x ∈ sortI l ↔ x ∈ l := (sortI_perm l).mem_iff
/-- rows made so far: ascending, of lesser items, closed -/
structure Rows (rs : List (List Int)) : Prop where
  w : Wf rs
  s : ∀ (i : Nat) (p : List Int), rs[i]? = some p → p.Pairwise (· < ·)
  t : ∀ (i : Nat) (p : List Int), rs[i]? = some p → ∀ x ∈ p, ∀ q, rs[x.toNat]? = some q → ∀ y ∈ q, y ∈ p
theorem rows_nil : Rows [] := ⟨fun i l e => by simp at e, fun i p e => by simp at e, fun i p e => by simp at e⟩
theorem Rows.snoc {rs : List (List Int)} (R : Rows rs) {p : List Int} (h1 : ∀ x ∈ p, 0 ≤ x ∧ x < (rs.length : Int)) (h2 : p.Pairwise (· < ·)) (h3 : ∀ x ∈ p, ∀ q, rs[x.toNat]? = some q → ∀ y ∈ q, y ∈ p) : Rows (rs ++ [p]) := by
  have at' : ∀ (i : Nat) (l : List Int), (rs ++ [p])[i]? = some l → rs[i]? = some l ∨ (i = rs.length ∧ l = p) := fun i l e => by
    rw [List.getElem?_append] at e
    split at e
    · exact .inl e
    · rename_i hi
      have hi2 := (List.getElem?_eq_some_iff.mp e).1
      simp at hi2
      have : i - rs.length = 0 := by omega
      rw [this] at e
      simp at e
      exact .inr ⟨by omega, e.symm⟩
  refine ⟨fun i l e x hx => ?_, fun i l e => ?_, fun i l e x hx q hq y hy => ?_⟩
  · rcases at' i l e with e | ⟨rfl, rfl⟩
    · exact R.w i l e x hx
    · exact h1 x hx
  · rcases at' i l e with e | ⟨rfl, rfl⟩
    · exact R.s i l e
    · exact h2
  · rcases at' i l e with e | ⟨rfl, rfl⟩
    · have b := R.w i l e x hx
      have hi := (List.getElem?_eq_some_iff.mp e).1
      rcases at' _ q hq with hq | ⟨hq, _⟩
      · exact R.t i l e x hx q hq y hy
      · omega
    · have b := h1 x hx
      rcases at' _ q hq with hq | ⟨hq, _⟩
      · exact h3 x hx q hq y hy
      · omega
theorem Rows.len {rs : List (List Int)} (R : Rows rs) {i : Nat} {p : List Int} (e : rs[i]? = some p) : p.length ≤ i := by
  have := sorted_len p 0 i (R.s i p e) fun x hx => R.w i p e x hx
  omega
theorem wide_at {w : Int} (h0 : 0 ≤ w) (h1 : w < 3) : ∃ n : Nat, n ≤ 5 ∧ 3 ≤ n ∧ gIx (.list [.int 3, .int 4, .int 5]) (.int w) = some (.int (n : Int)) := by
  have : w = 0 ∨ w = 1 ∨ w = 2 := by omega
  rcases this with rfl | rfl | rfl
  · exact ⟨3, by decide, by decide, rfl⟩
  · exact ⟨4, by decide, by decide, rfl⟩
  · exact ⟨5, by decide, by decide, rfl⟩
theorem two_at {w : Int} {a b : D} (h0 : 0 ≤ w) (h1 : w < 2) : gIx (.list [a, b]) (.int w) = some a ∨ gIx (.list [a, b]) (.int w) = some b := by
  have : w = 0 ∨ w = 1 := by omega
  rcases this with rfl | rfl
  · exact .inl rfl
  · exact .inr rfl
end DL

end
section
set_option Elab.async false
set_option linter.all false
set_option maxRecDepth 100000
set_option maxHeartbeats 2000000
namespace DL
open PySem PySem.Spec L2
/-! ### dicts used as sets of tuples of ints -/
theorem eqv_il : ∀ a b : List Int, PyData.eqvAll (il a) (il b) = true → a = b
  | [], [], _ => rfl
  | [], y :: b, h => by
    have e : il (y :: b) = .int y :: il b := rfl
    rw [e, show il [] = [] from rfl, PyData.eqvAll] at h
    cases h
  | x :: a, [], h => by
    have e : il (x :: a) = .int x :: il a := rfl
    rw [e, show il [] = [] from rfl, PyData.eqvAll] at h
    cases h
  | x :: a, y :: b, h => by
    have e1 : il (x :: a) = .int x :: il a := rfl
    have e2 : il (y :: b) = .int y :: il b := rfl
    rw [e1, e2, PyData.eqvAll, Bool.and_eq_true] at h
    have hx : x = y := by
      have := h.1
      rw [PyData.eqv] at this
      simpa using this
    rw [hx, eqv_il a b h.2]
theorem il_inj {a b : List Int} (h : il a = il b) : a = b := by
  have := intsOf_il a
  rw [h, intsOf_il] at this
  exact (Option.some.inj this).symm
theorem gEq_til {a b : List Int} (ha : SeqAt.shaped (.tuple (il a)) = true) (hb : SeqAt.shaped (.tuple (il b)) = true) : gEq (.tuple (il a)) (.tuple (il b)) = some (.bool (decide (a = b))) := by
  by_cases h : a = b
  · subst h
    rw [gEq_same ha, decide_eq_true rfl]
  · show (if SeqAt.shaped (.tuple (il a)) = true ∧ SeqAt.shaped (.tuple (il b)) = true then some (PyData.bool (PyData.eqv (.tuple (il a)) (.tuple (il b)))) else none) = _
    rw [if_pos ⟨ha, hb⟩, decide_eq_false h, PyData.eqv]
    cases e : PyData.eqvAll (il a) (il b) with
    | false => rfl
    | true => exact absurd (eqv_il _ _ e) h
theorem gEq_noneI (x : Int) : gEq .none (.int x) = some (.bool false) := by simp [gEq, SeqAt.shaped, PyData.canLay0, PyData.depth, PyData.eqv]
theorem gEq_boolB (a b : Bool) : gEq (.bool a) (.bool b) = some (.bool (a == b)) := by cases a <;> cases b <;> simp [gEq, SeqAt.shaped, PyData.canLay0, PyData.depth, PyData.eqv]
theorem gNe_boolB (a b : Bool) : gNe (.bool a) (.bool b) = some (.bool (a != b)) := by cases a <;> cases b <;> simp [gNe, SeqAt.shaped, PyData.canLay0, PyData.depth, PyData.eqv]
def KeysT (es : List (D × D)) (ls : List (List Int)) : Prop := es.map (·.1) = tupT ls
theorem KeysT.len {es : List (D × D)} {ls : List (List Int)} (h : KeysT es ls) : es.length = ls.length := by
  have := congrArg List.length h
  simpa [tupT] using this
def addL (ls : List (List Int)) (l : List Int) : List (List Int) := if l ∈ ls then ls else ls ++ [l]
theorem mem_addL {ls : List (List Int)} {l y : List Int} : y ∈ addL ls l ↔ y ∈ ls ∨ y = l := by
  unfold addL
  split
  · rename_i h
    constructor
    · exact .inl
    · rintro (z | rfl)
      · exact z
      · exact h
  · simp
theorem addL_nodup {ls : List (List Int)} {l : List Int} (h : ls.Nodup) : (addL ls l).Nodup := by
  unfold addL
  split
  · exact h
  · rename_i hx
    rw [List.nodup_append]
    refine ⟨h, by simp, fun a ha b hb => ?_⟩
    rw [List.mem_singleton.mp hb]
    rintro rfl; exact hx ha
theorem addL_len {ls : List (List Int)} {l : List Int} : (addL ls l).length ≤ ls.length + 1 := by
  unfold addL
  split <;> simp
theorem kOfs_il : ∀ l : List Int, kOfs (il l) = some (l.map Sum.inl)
  | [] => rfl
  | x :: l => by
    show ((kOf (.int x)).bind fun k => (kOfs (il l)).map fun ks => k :: ks) = _
    rw [kOfs_il l]; rfl
theorem kT_til (l : List Int) : kT (.tuple (il l)) = some (l.map Sum.inl) := kOfs_il l
theorem inlL_inj : ∀ {a b : List Int}, (a.map Sum.inl : List Key) = b.map Sum.inl → a = b
  | [], [], _ => rfl
  | [], _ :: _, h => nomatch h
  | _ :: _, [], h => nomatch h
  | x :: a, y :: b, h => by
    rw [List.map_cons, List.map_cons] at h
    have h1 := (List.cons.inj h).1
    have h2 := (List.cons.inj h).2
    rw [inlL_inj h2]
    cases h1; rfl
theorem any_tups {l : List Int} : ∀ {es : List (D × D)} {ls : List (List Int)}, KeysT es ls → (es.any fun e => decide (kT e.1 = some (l.map Sum.inl))) = decide (l ∈ ls)
  | [], [], _ => rfl
  | [], _ :: _, h => nomatch h
  | _ :: _, [], h => nomatch h
  | e :: es, k :: ks, h => by
    obtain ⟨a, b⟩ := e
    have h2 : PyData.tuple (il k) = a ∧ KeysT es ks := by
      unfold KeysT tupT at h ⊢
      rw [List.map_cons] at h
      exact ⟨(List.cons.inj h).1.symm, (List.cons.inj h).2⟩
    obtain ⟨rfl, h2⟩ := h2
    rw [List.any_cons, any_tups h2, kT_til]
    rw [show (decide (l ∈ k :: ks)) = (decide (l = k) || decide (l ∈ ks)) by by_cases p : l = k <;> by_cases q : l ∈ ks <;> simp [p, q]]
    congr 1
    refine decide_eq_decide.mpr ?_
    constructor
    · intro z; exact (inlL_inj (Option.some.inj z)).symm
    · rintro rfl; rfl
abbrev hdT (es : List (D × D)) : D := .dict ((.none, .none) :: es)
theorem keysT_put {es : List (D × D)} {ls : List (List Int)} (h : KeysT es ls) (hl : ls.length < 1000000) (l : List Int) (d : D) : ∃ es', dPut (hdT es) (.tuple (il l)) d = some (hdT es') ∧ KeysT es' (addL ls l) := by
  have e : dPut (hdT es) (.tuple (il l)) d = if es.length < 1000000 then (kT (.tuple (il l))).map fun ks => .dict ((.none, .none) :: putE kT es ks (.tuple (il l)) d) else none := rfl
  rw [e, if_pos (by rw [h.len]; exact hl), kT_til]
  refine ⟨_, rfl, ?_⟩
  unfold putE addL
  rw [any_tups h]
  by_cases hx : l ∈ ls
  · rw [if_pos (decide_eq_true hx), if_pos hx]
    unfold KeysT
    rw [List.map_map, ← h]
    refine List.map_congr_left fun e _ => ?_
    show (if _ then _ else _ : D × D).1 = _
    split <;> rfl
  · rw [if_neg (by simpa using hx), if_neg hx]
    unfold KeysT
    rw [List.map_append, h]
    simp [tupT]
theorem gLenT_hd (es : List (D × D)) : gLenT [hdT es] = some (.int (es.length : Nat)) := rfl
end DL

end
section
set_option Elab.async false
set_option linter.all false
set_option maxRecDepth 100000
set_option maxHeartbeats 2000000
namespace DL
open PySem PySem.Spec L2
/-! ### a law's states: three numbers, drawn from -/
abbrev ixN' (K : PySem.W.Frag) (k : Int) : TE := tOp (rIxL K) (tVar 0) (tC (.int k))
def drawST2 (K : PySem.W.Frag) : TS :=
  tSeq (tSetI (tC (.int 2)) (tAddN (ixN' K 2) (tC (.int 1)))) <|
  tSeq (tAsg (tModN (tI (tMulN (tAddN (tAddN (ixN' K 1) (tMulN (tC (.int 7919)) (ixN' K 2))) (tC (.int 1))) (tC (.int 48271)))) (tC (.int 2147483647))) (gName 2)) <|
  tSeq (tAsg (tModN (tI (tMulN (tVar 2) (tAddN (tDivN (tVar 2) (tC (.int 1009))) (tC (.int 69621))))) (tC (.int 2147483647))) (gName 2)) <|
  tSeq (tAsg (tModN (tI (tMulN (tVar 2) (tAddN (tAddN (tDivN (tVar 2) (tC (.int 2003))) (tC (.int 40692))) (ixN' K 2)))) (tC (.int 2147483399))) (gName 2)) <|
  tSeq (tRet (tModN (tI (tDivN (tVar 2) (tC (.int 16)))) (tVar 1))) tNext
def drawST (K : PySem.W.Frag) : TS :=
  tSeq (tIfS (tTest (tOp (rI0 fun i j => V.bl (decide (j < i))) (ixN' K 0) (tC (.int 0))))
    (tSeq (tAsg (tModN (tI (ixN' K 0)) (tVar 1)) (gName 2)) <|
     tSeq (tSetI (tC (.int 0)) (tDivN (ixN' K 0) (tVar 1))) <|
     tSeq (tRet (tVar 2)) tNext) tNext) (drawST2 K)
def mixS (n t : Int) : Int :=
  let a := ((n + 7919 * t + 1) * 48271).fmod 2147483647
  let b := (a * (a.fdiv 1009 + 69621)).fmod 2147483647
  (b * (b.fdiv 2003 + 40692 + t)).fmod 2147483399
def stP (r n t : Int) : Pool := ⟨[r, n, t], 0, 1⟩
def drawSF : List D → M D := fun ds P => match ds, P with
  | [.int many], ⟨[r, n, t], _, 1⟩ => if 0 < many ∧ many < 1073741824 then
      if 0 < r then some (.ok (.int (r.fmod many)), stP (r.fdiv many) n t)
      else some (.ok (.int (((mixS n (t + 1)).fdiv 16).fmod many)), stP r n (t + 1))
    else none
  | _, _ => none
abbrev stO (r n t : Int) : HO := .lst [.int r, .int n, .int t]
section
variable {K : PySem.W.Frag} {H : Hp} {E : Ends} {p : Addr} {many r n t : Int}
theorem drawS2_run (hp : H p = some (stO r n t)) (hm : 0 < many) (hm2 : many < 1073741824)
    (k2 : E.rt (.int (((mixS n (t + 1)).fdiv 16).fmod many)) (upd H p (stO r n (t + 1)))) :
    drawST2 K E [some (.ref p), some (.int many), none] H := by
  have hp1 : ∀ o, upd H p o p = some o := fun o => upd_same
  refine ⟨.ref p, rfl, p, _, 2, .int t, rfl, rfl, .inl (.inl hp), rfl, t, 1, rfl, rfl, .ref p, rfl, p, _, 2, 2, rfl, rfl, hp, rfl, ?_⟩
  unfold mixS at k2
  refine ⟨.ref p, rfl, p, _, 1, .int n, rfl, rfl, .inl (.inl (hp1 _)), rfl, .ref p, rfl, p, _, 2, .int (t + 1), rfl, rfl, .inl (.inl (hp1 _)), rfl, 7919, (t + 1), rfl, rfl, .inl ⟨by decide, by decide⟩, n, _, rfl, rfl, _, 1, rfl, rfl, _, 48271, rfl, rfl, .inr ⟨by decide, by decide⟩, .inl ⟨_, rfl, _, 2147483647, rfl, rfl, (show (2147483647 : Int) ≠ 0 by decide), ?_⟩⟩
  dsimp only
  have a1 := fmod_lo (a := (n + 7919 * (t + 1) + 1) * 48271) (b := 2147483647) (by decide)
  generalize ((n + 7919 * (t + 1) + 1) * 48271).fmod 2147483647 = a at k2 a1 ⊢
  refine ⟨.int a, rfl, .int a, rfl, a, 1009, rfl, rfl, ⟨by decide, by decide⟩, _, 69621, rfl, rfl, a, _, rfl, rfl, .inl ⟨by omega, by omega⟩, .inl ⟨_, rfl, _, 2147483647, rfl, rfl, (show (2147483647 : Int) ≠ 0 by decide), ?_⟩⟩
  dsimp only
  have b1 := fmod_lo (a := a * (a.fdiv 1009 + 69621)) (b := 2147483647) (by decide)
  dsimp only at k2
  generalize (a * (a.fdiv 1009 + 69621)).fmod 2147483647 = b at k2 b1 ⊢
  refine ⟨.int b, rfl, .int b, rfl, b, 2003, rfl, rfl, ⟨by decide, by decide⟩, _, 40692, rfl, rfl, .ref p, rfl, p, _, 2, .int (t + 1), rfl, rfl, .inl (.inl (hp1 _)), rfl, _, (t + 1), rfl, rfl, b, _, rfl, rfl, .inl ⟨by omega, by omega⟩, .inl ⟨_, rfl, _, 2147483399, rfl, rfl, (show (2147483399 : Int) ≠ 0 by decide), ?_⟩⟩
  dsimp only
  generalize (b * (b.fdiv 2003 + 40692 + (t + 1))).fmod 2147483399 = cc at k2 ⊢
  exact ⟨.int cc, rfl, cc, 16, rfl, rfl, ⟨by decide, by decide⟩, .inl ⟨_, rfl, .int many, rfl, _, many, rfl, rfl, by omega, k2⟩⟩
theorem drawS_run (hp : H p = some (stO r n t)) (hm : 0 < many) (hm2 : many < 1073741824)
    (k1 : 0 < r → E.rt (.int (r.fmod many)) (upd H p (stO (r.fdiv many) n t)))
    (k2 : ¬ 0 < r → E.rt (.int (((mixS n (t + 1)).fdiv 16).fmod many)) (upd H p (stO r n (t + 1)))) :
    drawST K E [some (.ref p), some (.int many), none] H := by
  refine ⟨.ref p, rfl, p, _, 0, .int r, rfl, rfl, .inl (.inl hp), rfl, r, 0, rfl, rfl, decide (0 < r), rfl, ?_⟩
  by_cases hb : 0 < r
  · rw [decide_eq_true hb]
    dsimp only
    rw [if_pos rfl]
    refine ⟨.ref p, rfl, p, _, 0, .int r, rfl, rfl, .inl (.inl hp), rfl, .inl ⟨r, rfl, .int many, rfl, r, many, rfl, rfl, by omega, ?_⟩⟩
    refine ⟨.ref p, rfl, p, _, 0, .int r, rfl, rfl, .inl (.inl hp), rfl, .int many, rfl, r, many, rfl, rfl, ⟨by omega, by omega⟩, .ref p, rfl, p, _, 0, 0, rfl, rfl, hp, rfl, ?_⟩
    exact ⟨_, rfl, k1 hb⟩
  · rw [decide_eq_false hb]
    dsimp only
    rw [if_neg (by decide)]
    exact drawS2_run hp hm hm2 (k2 hb)
end
section
variable {P : Program} {w : World} {K : PySem.W.Frag} {mg : Str → Option Value} {base : Heap}
theorem drawS_def {x : Str} {st : Stmt} {f : Addr} {fd : FuncData} {N prs : List Str} {cl : String → Addr} (G : Fun K x x st f fd) (S : FnScope N prs (defScope st)) (hN : N.length = 3) (hp : prs.length = 2)
    (body : ∀ (cdv : Value) (B : Around) (up : List Env) (s : Shared) (H : Hp) (E : XK), PSs (cxOf (L2.CX P w) P w K mg base N x (defScope st) f cdv B up s H E) (defBody st) (drawST K)) : FnG P w K mg base 1 f fd prs (spD cl true 1 0 drawSF) := by
  refine fnG_of G S (spD_len hp) fun cdv B up s H vs Q E hg hr ⟨F, pa, P0, ds, ws, hv, hw, rp, sub, pool, wp⟩ => ?_
  refine ⟨_, body cdv B up s H E, ?_⟩
  cases pa with
  | none => exact hv.elim
  | some pr =>
    obtain ⟨p, r⟩ := pr
    have ev : vs = .ref p :: ws := hv
    subst ev
    obtain ⟨hne0, h1, h2, h3, h4⟩ := pool p r rfl
    have e0 : L2.start N (.ref p :: ws) = some (.ref p) :: (ws.map some ++ List.replicate 1 none) := by
      unfold L2.start
      rw [hN, List.length_cons, hw]; rfl
    rw [e0]
    unfold drawSF at wp
    split at wp
    · rename_i many q n t tt
      cases rp with
      | cons ha rr =>
        cases rr
        cases ha
        split at wp
        · rename_i hc
          have hpr : p = r := hne0.1 rfl
          subst hpr
          have h1' : H p = some (stO q n t) := h1
          have fin : ∀ (b1 b2 b3 : Int), Gd ⟨H, F, some (p, p), cl, none⟩ (stP b1 b2 b3) F (upd H p (stO b1 b2 b3)) := fun b1 b2 b3 => by
            have sm : ∀ a o, F a = some o → upd H p (stO b1 b2 b3) a = some o := fun a o e => by
              rw [upd_ne (fun z => by subst z; rw [h3] at e; cases e)]
              exact sub a o e
            refine ⟨sm, .refl _, fun _ _ h => .inl h, fun a o e n => ?_, fun a e => ?_, fun p' r' e => ?_⟩
            · rw [upd_ne (n p p rfl).1]; exact e
            · by_cases z1 : a = p
              · subst z1; rw [upd_same] at e; cases e
              · rw [upd_ne z1] at e; exact e
            · cases e
              exact ⟨⟨fun _ => rfl, fun z => absurd rfl z⟩, upd_same, upd_same, h3, h4⟩
          refine drawS_run h1' hc.1 hc.2 (fun hb => ?_) fun hb => ?_
          · rw [if_pos hb] at wp
            exact wp _ _ ⟨F, [], fin _ _ _, .fz (.int _), List.nodup_nil, fun _ h => nomatch h⟩
          · rw [if_neg hb] at wp
            exact wp _ _ ⟨F, [], fin _ _ _, .fz (.int _), List.nodup_nil, fun _ h => nomatch h⟩
        · exact wp.elim
    · exact wp.elim
theorem drawS_of {x : Str} {st : Stmt} {N prs : List Str} {cl : String → Addr} (T : Df K mg x st prs) (S : FnScope N prs (defScope st)) (hN : N.length = 3 := by rfl) (hp : prs.length = 2 := by rfl)
    (body : ∀ (f : Addr) (cdv : Value) (B : Around) (up : List Env) (s : Shared) (H : Hp) (E : XK), PSs (cxOf (L2.CX P w) P w K mg base N x (defScope st) f cdv B up s H E) (defBody st) (drawST K)) : Fn P w K mg base 1 x prs (spD cl true 1 0 drawSF) := by
  obtain ⟨f, fd, F, h1, h2⟩ := T
  exact ⟨f, fd, drawS_def F S hN hp (body f), h1, F.kp, h2⟩
end
/-! draws of a state -/
def PosS (P : Pool) : Prop := ∃ r n t, P = stP r n t ∧ 0 ≤ r
theorem fdiv_nn {a b : Int} (h : 0 ≤ a) (hb : 0 < b) : 0 ≤ a.fdiv b := by
  rw [Int.fdiv_eq_ediv_of_nonneg _ (by omega)]
  exact Int.ediv_nonneg h (by omega)
theorem ev_drawS {many : Int} {P : Pool} {Q : D → Pool → Prop} (h0 : 0 < many) (h1 : many < 1073741824) (hp : PosS P) (k : ∀ v P', 0 ≤ v → v < many → PosS P' → Q (.int v) P') : Tr (drawSF [.int many]) P Q := by
  obtain ⟨r, n, t, rfl, hn⟩ := hp
  unfold Tr
  rw [show drawSF [.int many] (stP r n t) = if 0 < many ∧ many < 1073741824 then (if 0 < r then some (.ok (.int (r.fmod many)), stP (r.fdiv many) n t) else some (.ok (.int (((mixS n (t + 1)).fdiv 16).fmod many)), stP r n (t + 1))) else none from rfl, if_pos ⟨h0, h1⟩]
  by_cases hb : 0 < r
  · rw [if_pos hb]
    exact k _ _ (fmod_lo h0).1 (fmod_lo h0).2 ⟨_, _, _, rfl, fdiv_nn hn h0⟩
  · rw [if_neg hb]
    exact k _ _ (fmod_lo h0).1 (fmod_lo h0).2 ⟨_, _, _, rfl, hn⟩
end DL

end
section
set_option Elab.async false
set_option linter.all false
set_option maxRecDepth 100000
set_option maxHeartbeats 2000000
namespace DL
open PySem PySem.Spec L2
/-! ### states laid from the script -/
def cellN (ns : List Int) (k : Int) : Int := if k < ns.length then ns.getD k.toNat 0 else 1009 * k + 31 * ns.length
def restN (ns : List Int) (k : Int) : Int := if 10 ^ 18 ≤ cellN ns k then cellN ns k else 0
def numN (ns : List Int) (k : Int) : Int := (cellN ns k + 104729 * k).fmod 1000000007
def stN (ns : List Int) (k : Int) : Pool := stP (restN ns k) (numN ns k) 0
theorem posS_st (ns : List Int) (k : Int) : PosS (stN ns k) := ⟨_, _, _, rfl, by unfold restN; split <;> omega⟩
def stT (K : PySem.W.Frag) : TS :=
  tSeq (tAsg (tIf (tTest (tOp (rI0 fun i j => V.bl (decide (i < j))) (tVar 1) (tCB (lenA K) (tCons (tVar 0) tNil)))) (tOp (rIxL K) (tVar 0) (tVar 1)) (tAddN (tMulN (tC (.int 1009)) (tVar 1)) (tMulN (tC (.int 31)) (tCB (lenA K) (tCons (tVar 0) tNil))))) (gName 2)) <|
  tSeq (tAsg (tIf (tTest (tOp (rI0 fun i j => V.bl (decide (j ≤ i))) (tVar 2) (tPowN (tC (.int 10)) (tC (.int 18))))) (tVar 2) (tC (.int 0))) (gName 3)) <|
  tSeq (tRet (tLst (tCons (tVar 3) (tCons (tModN (tI (tAddN (tVar 2) (tMulN (tC (.int 104729)) (tVar 1)))) (tC (.int 1000000007))) (tCons (tC (.int 0)) tNil))))) tNext
def stSp (K : PySem.W.Frag) : Sp := fun vs H Q E => ∃ (a : Addr) (ns : List Int) (k : Int), vs = [.ref a, .int k] ∧ SqL K H a (ns.map V.int) ∧ 0 ≤ k ∧ ∀ p, H p = none → Q (.ref p) (upd H p (stO (restN ns k) (numN ns k) 0))
theorem st_run {K : PySem.W.Frag} {H : Hp} {E : Ends} {a : Addr} {ns : List Int} {k : Int} (h : SqL K H a (ns.map V.int)) (h0 : 0 ≤ k) (q : ∀ p, H p = none → E.rt (.ref p) (upd H p (stO (restN ns k) (numN ns k) 0))) : stT K E [some (.ref a), some (.int k), none, none] H := by
  have fin : ∀ cell, cellN ns k = cell → (tSeq (tAsg (tIf (tTest (tOp (rI0 fun i j => V.bl (decide (j ≤ i))) (tVar 2) (tPowN (tC (.int 10)) (tC (.int 18))))) (tVar 2) (tC (.int 0))) (gName 3)) <|
      tSeq (tRet (tLst (tCons (tVar 3) (tCons (tModN (tI (tAddN (tVar 2) (tMulN (tC (.int 104729)) (tVar 1)))) (tC (.int 1000000007))) (tCons (tC (.int 0)) tNil))))) tNext) E [some (.ref a), some (.int k), some (.int cell), none] H := fun cell hc => by
    unfold restN numN at q
    rw [hc] at q
    refine ⟨.int cell, rfl, 10, 18, rfl, rfl, ⟨by decide, by decide, by decide⟩, cell, _, rfl, rfl, decide (10 ^ 18 ≤ cell), rfl, ?_⟩
    by_cases hb : 10 ^ 18 ≤ cell
    · rw [decide_eq_true hb]
      dsimp only
      rw [if_pos rfl]
      rw [if_pos hb] at q
      refine ⟨.int cell, rfl, .int cell, rfl, .int cell, rfl, .int k, rfl, 104729, k, rfl, rfl, .inl ⟨by decide, by decide⟩, cell, _, rfl, rfl, .inl ⟨_, rfl, _, 1000000007, rfl, rfl, (show (1000000007 : Int) ≠ 0 by decide), line_of (by simp), q⟩⟩
    · rw [decide_eq_false hb]
      dsimp only
      rw [if_neg (by decide)]
      rw [if_neg hb] at q
      refine ⟨.int 0, rfl, .int cell, rfl, .int k, rfl, 104729, k, rfl, rfl, .inl ⟨by decide, by decide⟩, cell, _, rfl, rfl, .inl ⟨_, rfl, _, 1000000007, rfl, rfl, (show (1000000007 : Int) ≠ 0 by decide), line_of (by simp), q⟩⟩
  refine ⟨.int k, rfl, .ref a, rfl, a, _, rfl, .inl h, k, _, rfl, rfl, decide (k < (ns.map V.int).length), rfl, ?_⟩
  by_cases hc : k < ns.length
  · have hc' : k < ((ns.map V.int).length : Int) := by rw [List.length_map]; exact hc
    rw [decide_eq_true hc']
    dsimp only
    rw [if_pos rfl]
    refine ⟨.ref a, rfl, .int k, rfl, a, _, k, _, rfl, rfl, h, atI_lt h0 hc, ?_⟩
    exact fin _ (by unfold cellN; rw [if_pos hc])
  · have hc' : ¬ k < ((ns.map V.int).length : Int) := by rw [List.length_map]; exact hc
    rw [decide_eq_false hc']
    dsimp only
    rw [if_neg (by decide)]
    refine ⟨.int k, rfl, 1009, k, rfl, rfl, .inl ⟨by decide, by decide⟩, .ref a, rfl, a, _, rfl, .inl h, 31, _, rfl, rfl, .inl ⟨by decide, by decide⟩, _, _, rfl, rfl, ?_⟩
    exact fin _ (by unfold cellN; rw [if_neg hc, List.length_map])
section
variable {P : Program} {w : World} {K : PySem.W.Frag} {mg : Str → Option Value} {base : Heap}
theorem st_of {x : Str} {st : Stmt} {N prs : List Str} (T : Df K mg x st prs) (S : FnScope N prs (defScope st)) (hN : N.length = 4 := by rfl) (hp : prs.length = 2 := by rfl)
    (body : ∀ (f : Addr) (cdv : Value) (B : Around) (up : List Env) (s : Shared) (H : Hp) (E : XK), PSs (cxOf (L2.CX P w) P w K mg base N x (defScope st) f cdv B up s H E) (defBody st) (stT K)) : Fn P w K mg base 1 x prs (stSp K) := by
  obtain ⟨f, fd, F, h1, h2⟩ := T
  refine ⟨f, fd, fnG_of F S ?_ fun cdv B up s H vs Q E hg hr ⟨a, ns, k, hv, hs, h0, q⟩ => ?_, h1, F.kp, h2⟩
  · intro vs H Q E ⟨a, ns, k, hv, _⟩
    rw [hv, hp]; rfl
  · subst hv
    refine ⟨_, body f cdv B up s H E, ?_⟩
    have e0 : L2.start N [.ref a, .int k] = [some (.ref a), some (.int k), none, none] := by
      unfold L2.start
      rw [hN]; rfl
    rw [e0]
    exact st_run hs h0 q
end
/-! the script, told by its place -/
def KList (K : PySem.W.Frag) (a : Addr) (xs : List V) : Prop := ∃ (o : Obj) (its : Array Value) (n : Nat), K.lookup a = some o ∧ o.cls = .type "list" ∧ o.dict = none ∧ o.data = .seq its n ∧ its.size ≤ sizeLine ∧ Vals xs its.toList
def ScrAt (K : PySem.W.Frag) (c : Ctx) (a : Addr) (ns : List Int) : Prop := c.scr = some a ∧ (KList K a (ns.map V.int) ∨ (NP c a ∧ Rd c.H0 a (.lst (ns.map V.int))))
theorem ScrAt.sq {K : PySem.W.Frag} {c : Ctx} {a : Addr} {ns : List Int} {P : Pool} {F H : Hp} (h : ScrAt K c a ns) (g : Gd c P F H) : SqL K H a (ns.map V.int) := by
  rcases h.2 with z | ⟨n, z⟩
  · exact .inr z
  · rcases z with z | ⟨o, z⟩
    · exact .inl (.inl (g.kp _ _ z n))
    · exact .inl (.inr ⟨o, g.kp _ _ z n⟩)
theorem ScrAt.at {K : PySem.W.Frag} {c : Ctx} {a : Addr} {ns : List Int} {P : Pool} {F H : Hp} (h : ScrAt K c a ns) (g : Gd c P F H) : ScrAt K ⟨H, F, c.pa, c.cl, c.scr⟩ a ns := by
  refine ⟨h.1, ?_⟩
  rcases h.2 with z | ⟨n, z⟩
  · exact .inl z
  · refine .inr ⟨n, ?_⟩
    rcases z with z | ⟨o, z⟩
    · exact .inl (g.kp _ _ z n)
    · exact .inr ⟨o, g.kp _ _ z n⟩
structure ScrJ (J : Jd) (a : Addr) (ns : List Int) : Prop where
  ps : J.ps.2 = true
  at' : ∀ c, J.cx c → ScrAt J.X.K c a ns
theorem ScrJ.blk {J : Jd} {a : Addr} {ns : List Int} (h : ScrJ J a ns) (sc : Scope) (b : BI) : ScrJ (J.blk sc b) a ns := ⟨h.ps, h.at'⟩
theorem ScrJ.slot {J : Jd} {a : Addr} {ns : List Int} (h : ScrJ J a ns) {c : Ctx} {ow : Owns} {σ : St} {ρ : Rho} {P : Pool} {F H : Hp} (hc : CxOk J c) (r : Rl c J.ps ow σ ρ P F H) : σ[0]? = some (some (.ref a)) ∧ SqL J.X.K H a (ns.map V.int) := by
  obtain ⟨b, h1, h2⟩ := r.scl h.ps
  have s := h.at' c hc.cx
  rw [s.1] at h1
  cases h1
  exact ⟨h2, s.sq r.gd⟩
def atP {α : Type} (P0 : Pool) (m : M α) : M α := fun P => match m P0 with
  | none => none
  | some (r, _) => some (r, P)
theorem Wp.atP {α : Type} {m : M α} {p p0 : Pool} {q : α → Pool → Prop} {e : Exn → Pool → Prop} (h : Wp (DL.atP p0 m p) q e) : Wp (m p0) (fun a _ => q a p) (fun x _ => e x p) := by
  unfold DL.atP at h
  unfold Wp at h ⊢
  cases z : m p0 with
  | none => rw [z] at h; exact h.elim
  | some r =>
    obtain ⟨r, p'⟩ := r
    rw [z] at h
    cases r <;> exact h
def asK : D → Option Int | .int k => if 0 ≤ k then some k else none | _ => none
theorem asK_some {d : D} {k : Int} (h : asK d = some k) : d = .int k ∧ 0 ≤ k := by
  unfold asK at h
  split at h
  · split at h
    · cases h; exact ⟨rfl, by assumption⟩
    · cases h
  · cases h
section
variable {J : Jd} {ow : Owns}
/-- len(script) -/
theorem se_lenS {a : Addr} {ns : List Int} {q p pos : Pos} (hS : ScrJ J a ns) (hm : J.X.mg "len" = none) (hN : J.X.N[0]? = some ("script" : Str) := by rfl) (hv : Vis J.X.env.scope "script" := by first | exact Or.inl rfl | exact Or.inr (Or.inl rfl) | exact Or.inr (Or.inr rfl)) (hg : Gl J.X "len" := by rfl) (hb : bootBuiltins "len" = some (.builtin "len") := by decide +kernel)
    (he : starEach [.Name "script" q] J.X.env = (false, eval (.Name "script" q) J.X.env) :: starEach [] J.X.env := by rfl) (hpl : (backTo pos (starEach [] J.X.env)).any (·.1) = false := by rfl) : Se J ow (.Call (.Name "len" p) [.Name "script" q] [] pos) 0 (eC (.int (ns.length : Nat))) := by
  refine ⟨_, pe_callB call_len_seq hg hm hb (pa_cons (pe_var (i := 0) hN hv) pa_nil he) (by decide) (by decide) he hpl, fun c σ ρ P F H Q hc r h => ?_⟩
  obtain ⟨h1, h2⟩ := hS.slot hc r
  refine ⟨.ref a, h1, a, _, rfl, .inl h2, ?_⟩
  rw [List.length_map]
  exact h _ _ _ _ (r.vp (.int _))
/-- _law_state(script, e) -/
theorem pe_state {x : Str} {e : Expr} {te : TE} {p q pos : Pos} {j m : Nat} {prs : List Str} (O : Ok J) (hr : Room m J.X.A) (G : Fn J.X.prog J.X.w J.X.K J.X.mg J.X.base j x prs (stSp J.X.K)) (pe : PE J.X e te) (hj : j ≤ m) (hN : J.X.N[0]? = some ("script" : Str)) (hv : Vis J.X.env.scope "script") (hg : Gl J.X x) (hdb : (x == ("__debug__" : Str)) = false)
    (h2 : starEach [e] J.X.env = (false, eval e J.X.env) :: starEach [] J.X.env) (he : starEach [.Name "script" q, e] J.X.env = (false, eval (.Name "script" q) J.X.env) :: starEach [e] J.X.env) (hpl : (backTo pos (starEach [e] J.X.env)).any (·.1) = false) : PE J.X (.Call (.Name x p) [.Name "script" q, e] [] pos) (tCallS (stSp J.X.K) (WE J.W) (tCons (tVar 0) (tCons te tNil))) := by
  obtain ⟨f, fd, F, h1, h2', h3⟩ := G
  exact pe_callG F O.g (hr.mono hj) hg h1 h2' h3 O.tk (pa_cons (pe_var (i := 0) hN hv) (pa_cons pe pa_nil h2) he) hdb he hpl
theorem Rl.calledS {c : Ctx} {ps : Pls} {σ : St} {ρ : Rho} {P P1 P3 : Pool} {F0 H0 F H F' H' : Hp} {p : Addr} {o : HO} (r0 : Rl c ps ow σ ρ P F0 H0) (hp : H0 p = none) (s : Stp c F0 (upd H0 p o) F H) (r3 : Rl c ps ow σ ρ P3 F H) (g : Gd ⟨H, F, some (p, p), c.cl, none⟩ P1 F' H') : Rl c ps ow σ ρ P3 F' H' ∧ Stp c F0 H0 F' H' := by
  have old : ∀ a u, H0 a = some u → a ≠ p := fun a u e z => by subst z; rw [hp] at e; cases e
  have n2 : ∀ a, a ≠ p → NP ⟨H, F, some (p, p), c.cl, none⟩ a := fun a h p' r' e => by cases e; exact ⟨h, h⟩
  have up : ∀ a, upd H0 p o a = none → H0 a = none := fun a e => by
    by_cases z : a = p
    · rw [z]; exact hp
    · rw [upd_ne z] at e; exact e
  have st : Stp c F0 H0 F' H' := ⟨s.fs.trans g.f0, fun a u e => by
    rcases g.gr a u e with z | z
    · rcases s.gr a u z with y | y
      · exact .inl y
      · exact .inr (up a y)
    · exact .inr (up a (s.dm a z)), fun a u e n => g.kp a u (s.kp a u (by rw [upd_ne (old a u e)]; exact e) n) (n2 a (old a u e)), fun a e => up a (s.dm a (g.dm a e))⟩
  refine ⟨r0.grow st g.sub fun q q2 e => ?_, st⟩
  obtain ⟨x0, x1, x2, x3, x4⟩ := r3.gd.pool q q2 e
  obtain ⟨y0, y1, y2, y3, y4⟩ := r0.gd.pool q q2 e
  have nq := old q _ y1
  have nq2 := old q2 _ y2
  refine ⟨x0, g.kp _ _ x1 (n2 q nq), g.kp _ _ x2 (n2 q2 nq2), ?_, ?_⟩
  · cases z : F' q with
    | none => rfl
    | some u => rcases g.gr _ _ z with y | y
                · exact absurd (y.symm.trans x3) (by simp)
                · exact absurd (y.symm.trans x1) (by simp)
  · cases z : F' q2 with
    | none => rfl
    | some u => rcases g.gr _ _ z with y | y
                · exact absurd (y.symm.trans x4) (by simp)
                · exact absurd (y.symm.trans x2) (by simp)
def eCallS (ns : List Int) (F : List D → M D) (fe : Rho → M D) (g : Rho → M (List D)) : Rho → M D := fun ρ => bnd (fe ρ) fun kd => bnd (lift (asK kd)) fun k => bnd (g ρ) fun ds => atP (stN ns k) (F ds)
/-- f(_law_state(script, e), ..) -/
theorem se_fnS {x z : Str} {p pp qq pc pos : Pos} {e : Expr} {es : List Expr} {k n j js m : Nat} {prs prss : List Str} {fn : List D → M D} {fe : Rho → M D} {g : Rho → M (List D)} {a : Addr} {ns : List Int} (O : Ok J) (hr : Room m J.X.A) (hS : ScrJ J a ns) (GS : Fn J.X.prog J.X.w J.X.K J.X.mg J.X.base js z prss (stSp J.X.K)) (G : Fn J.X.prog J.X.w J.X.K J.X.mg J.X.base j x prs (spD J.cl true n k fn)) (hk : Se J ow e 0 fe) (ha : Sa J ow es g)
    (hj : j ≤ m := by decide) (hjs : js ≤ m := by decide) (hn : es.length = n := by rfl) (hN : J.X.N[0]? = some ("script" : Str) := by rfl) (hv : Vis J.X.env.scope "script" := by first | exact Or.inl rfl | exact Or.inr (Or.inl rfl) | exact Or.inr (Or.inr rfl)) (hgS : Gl J.X z := by rfl) (hdS : (z == ("__debug__" : Str)) = false := by decide)
    (h2 : starEach [e] J.X.env = (false, eval e J.X.env) :: starEach [] J.X.env := by rfl) (h3 : starEach [.Name "script" qq, e] J.X.env = (false, eval (.Name "script" qq) J.X.env) :: starEach [e] J.X.env := by rfl) (h4 : (backTo pc (starEach [e] J.X.env)).any (·.1) = false := by rfl)
    (hg : Gl J.X x := by rfl) (hdb : (x == ("__debug__" : Str)) = false := by decide)
    (he : starEach (.Call (.Name z pp) [.Name "script" qq, e] [] pc :: es) J.X.env = (false, eval (.Call (.Name z pp) [.Name "script" qq, e] [] pc) J.X.env) :: starEach es J.X.env := by rfl) (hpl : (backTo pos (starEach es J.X.env)).any (·.1) = false := by rfl) :
    Se J ow (.Call (.Name x p) (.Call (.Name z pp) [.Name "script" qq, e] [] pc :: es) [] pos) k (eCallS ns fn fe g) := by
  obtain ⟨te, pe, qe⟩ := hk
  obtain ⟨ta, pa, la, qa⟩ := ha
  obtain ⟨f, fd, Ff, g1, g2, g3⟩ := G
  refine ⟨_, pe_callG Ff O.g (hr.mono hj) hg g1 g2 g3 O.tk (pa_cons (pe_state (p := pp) (q := qq) (pos := pc) O hr GS pe hjs hN hv hgS hdS h2 h3 h4) pa he) hdb he hpl, fun c σ ρ P F H Q hc rl w => ?_⟩
  obtain ⟨hσ, _⟩ := hS.slot hc rl
  refine ⟨.ref a, hσ, ?_⟩
  refine qe c σ ρ P F H _ hc rl (w.bnd.mono (fun kd P1 h1 v F1 H1 A1 x1 => ?_) fun _ _ h => h)
  obtain ⟨kk, ek, hk1⟩ := Wp.lift (Wp.bnd h1)
  obtain ⟨rfl, k0⟩ := asK_some ek
  have rpk := x1.rp
  cases rpk
  refine ⟨a, ns, kk, rfl, (hS.slot hc x1.rl).2, k0, fun pn hpn => ?_⟩
  obtain ⟨r2, s2⟩ := x1.rl.laid (o := stO (restN ns kk) (numN ns kk) 0) hpn
  have both := Wp.len (C := fun ds : List D => ds.length = n) (β := Unit) hk1.bnd fun ds P' z => (la ρ _ ds P' z).trans hn
  refine qa c σ ρ P1 F1 _ _ hc r2 (both.mono (fun ds P3 ⟨hn1, h3'⟩ vs F3 H3 r3 s3 rp => ?_) fun _ _ h => h)
  have npn := np_of x1.rl.gd hpn
  have hpo : H3 pn = some (stO (restN ns kk) (numN ns kk) 0) := s3.kp _ _ upd_same npn
  have fpn : F3 pn = none := by
    cases z : F3 pn with
    | none => rfl
    | some u => rcases s3.gr _ _ z with y | y
                · have := x1.rl.gd.sub _ _ y; rw [hpn] at this; cases this
                · rw [upd_same] at y; cases y
  refine ⟨F3, some (pn, pn), stN ns kk, ds, vs, rfl, rp.length.trans hn1, rp, r3.gd.sub, (fun p' r' e => by cases e; exact ⟨⟨fun _ => rfl, fun z => absurd rfl z⟩, hpo, hpo, fpn, fpn⟩), ?_⟩
  refine (Wp.atP h3').mono (fun d P4 q u H4 x => ?_) fun x P4 q cls dd F4 H4 g ea => ?_
  · obtain ⟨F4, A, g, o, nd, fr⟩ := x.ex
    rw [← hc.eq] at g
    obtain ⟨r4, s4⟩ := x1.rl.calledS hpn s3 r3 g
    exact q u F4 H4 A ⟨r4, x1.st.trans s4, o, nd, fun b hb => ⟨(fr b hb).1, x1.st.dm b (by
      have := s3.dm b (fr b hb).2.1
      by_cases z : b = pn
      · rw [z]; exact hpn
      · rw [upd_ne z] at this; exact this)⟩⟩
  · rw [← hc.eq] at g
    obtain ⟨r4, s4⟩ := x1.rl.calledS hpn s3 r3 g
    exact q cls dd F4 H4 r4 ea
end
end DL

end
section
set_option Elab.async false
set_option linter.all false
set_option maxRecDepth 100000
set_option maxHeartbeats 2000000
namespace DL
open PySem PySem.Spec L2
/-! ### a block that draws from one state; the law -/
abbrev stJ (J : Jd) (i : Nat) (a : Addr) (ns : List Int) : Jd := { X := J.X, W := J.W, cl := J.cl, ps := (some i, true), cx := fun c => ScrAt J.X.K c a ns, cxm := fun c P F H g h => h.at g }
theorem ScrJ.st {J : Jd} {i : Nat} {a : Addr} {ns : List Int} : ScrJ (stJ J i a ns) a ns := ⟨rfl, fun _ h => h⟩
theorem Ok.st {J : Jd} (O : Ok J) (i : Nat) (a : Addr) (ns : List Int) : Ok (stJ J i a ns) := ⟨O.g, O.c, O.u, O.tk, O.nd, O.h0⟩
section
variable {c : Ctx} {ow : Owns} {σ : St} {ρ : Rho} {P P' : Pool} {F H : Hp} {i : Nat} {pn : Addr} {o : HO}
theorem np_none (hpa : c.pa = none) (a : Addr) : NP c a := fun p r e => by rw [hpa] at e; cases e
theorem Rl.into (r : Rl c (none, true) ow σ ρ P F H) (hpa : c.pa = none) (hp : H pn = none) (hi0 : i ≠ 0) (hi : i < ρ.length) (how : ow.lookup i = none) (hP : PoolAt (some (pn, pn)) P' F (upd H pn o)) :
    Rl ⟨c.H0, c.F0, some (pn, pn), c.cl, c.scr⟩ (some i, true) ow (σ.set i (some (.ref pn))) (ρ.set i none) P' F (upd H pn o) where
  gd := by
    obtain ⟨r1, _⟩ := r.laid (o := o) hp
    exact ⟨r1.gd.sub, r1.gd.f0, r1.gd.gr, fun a u e n => r1.gd.kp a u e (np_none hpa a), r1.gd.dm, hP⟩
  len := by rw [List.length_set, List.length_set]; exact r.len
  psl := fun j e => by cases e; exact ⟨pn, pn, rfl, List.getElem?_set_self (by rw [r.len]; exact hi)⟩
  scl := fun e => by
    obtain ⟨a, h1, h2⟩ := r.scl rfl
    exact ⟨a, h1, by rw [List.getElem?_set_ne hi0]; exact h2⟩
  fz := fun j d h1 h2 => by
    by_cases hj : i = j
    · subst hj
      rw [List.getElem?_set_self hi] at h1
      cases h1
    · rw [List.getElem?_set_ne hj] at h1
      obtain ⟨u, a, b⟩ := r.fz j d h1 h2
      exact ⟨u, by rw [List.getElem?_set_ne hj]; exact a, b⟩
  own := by
    obtain ⟨Am, h1, h2⟩ := r.own
    refine ⟨Am, fun j k e => ?_, h2⟩
    have hj : i ≠ j := fun z => by subst z; rw [how] at e; cases e
    obtain ⟨v, d, a, b, ho, nd, fr⟩ := h1 j k e
    have nw : ∀ b ∈ Am j, b ≠ pn := fun b hb z => by
      obtain ⟨u, hu⟩ := ho.there hb
      rw [z, hp] at hu; cases hu
    refine ⟨v, d, by rw [List.getElem?_set_ne hj]; exact a, by rw [List.getElem?_set_ne hj]; exact b, ho.mono (.refl _) fun b hb u hu => by rw [upd_ne (nw b hb)]; exact hu, nd, fun b hb => ⟨(fr b hb).1, (fr b hb).2.1, fun p r e => by cases e; exact ⟨nw b hb, nw b hb⟩⟩⟩
theorem Gd.outof (g : Gd ⟨c.H0, c.F0, some (pn, pn), c.cl, c.scr⟩ P' F H) (hpa : c.pa = none) (h0 : c.H0 pn = none) : Gd c P F H :=
  ⟨g.sub, g.f0, g.gr, fun a u e _ => g.kp a u e fun p r z => by cases z; exact ⟨fun y => (by subst y; rw [h0] at e; cases e), fun y => (by subst y; rw [h0] at e; cases e)⟩, g.dm, fun p r z => by rw [hpa] at z; cases z⟩
theorem Rl.outof (r : Rl ⟨c.H0, c.F0, some (pn, pn), c.cl, c.scr⟩ (some i, true) ow σ ρ P' F H) (hpa : c.pa = none) (h0 : c.H0 pn = none) : Rl c (none, true) ow σ ρ P F H where
  gd := r.gd.outof hpa h0
  len := r.len
  psl := fun j e => by cases e
  scl := r.scl
  fz := r.fz
  own := by
    obtain ⟨Am, h1, h2⟩ := r.own
    refine ⟨Am, fun j k e => ?_, h2⟩
    obtain ⟨v, d, a, b, ho, nd, fr⟩ := h1 j k e
    exact ⟨v, d, a, b, ho, nd, fun b hb => ⟨(fr b hb).1, (fr b hb).2.1, np_none hpa b⟩⟩
end
def sState (i : Nat) (ns : List Int) (fe : Rho → M D) (fr : Rho → M Oc) : Rho → M Oc := fun ρ => bnd (fe ρ) fun kd => bnd (lift (asK kd)) fun k => if i < ρ.length then atP (stN ns k) (fr (ρ.set i none)) else stuck
section
variable {J : Jd} {ow ow' owl : Owns} {kr : Nat}
theorem ss_state {i js m : Nat} {y z : Str} {e : Expr} {py pp qq pc pos : Pos} {rest : List Stmt} {prss : List Str} {fe : Rho → M D} {fr : Rho → M Oc} {a : Addr} {ns : List Int} (O : Ok J) (hr : Room m J.X.A) (hS : ScrJ J a ns) (hps : J.ps = (none, true)) (hpa : ∀ c, J.cx c → c.pa = none) (GS : Fn J.X.prog J.X.w J.X.K J.X.mg J.X.base js z prss (stSp J.X.K)) (hk : Se J ow e 0 fe) (h : Ss (stJ J i a ns) ow ow' owl kr rest fr)
    (hjs : js ≤ m := by decide) (hi0 : i ≠ 0 := by decide) (how : ow.lookup i = none := by rfl) (hNi : J.X.N[i]? = some y := by rfl) (hx : Loc J.X.env.scope y := by first | exact Or.inl rfl | exact Or.inr rfl)
    (hN : J.X.N[0]? = some ("script" : Str) := by rfl) (hv : Vis J.X.env.scope "script" := by first | exact Or.inl rfl | exact Or.inr (Or.inl rfl) | exact Or.inr (Or.inr rfl)) (hgS : Gl J.X z := by rfl) (hdS : (z == ("__debug__" : Str)) = false := by decide)
    (h2 : starEach [e] J.X.env = (false, eval e J.X.env) :: starEach [] J.X.env := by rfl) (h3 : starEach [.Name "script" qq, e] J.X.env = (false, eval (.Name "script" qq) J.X.env) :: starEach [e] J.X.env := by rfl) (h4 : (backTo pc (starEach [e] J.X.env)).any (·.1) = false := by rfl)
    (hs : swapsWith (.Call (.Name z pp) [.Name "script" qq, e] [] pc) (some (.Name y py)) pos.line J.X.env = pure false := by rfl) (hf : J.X.fn y = true ∨ J.X.env.scope.names.lookup y = some .local := by first | exact .inl rfl | exact .inr rfl) :
    Ss J ow ow' owl kr (.Assign [.Name y py] (.Call (.Name z pp) [.Name "script" qq, e] [] pc) pos :: rest) (sState i ns fe fr) := by
  obtain ⟨te, pe, qe⟩ := hk
  obtain ⟨t, pt, qt⟩ := h
  refine ⟨_, pss_cons (ps_set O.nd hNi hx (pe_state O hr GS pe hjs hN hv hgS hdS h2 h3 h4) hs hf) pt, fun c σ ρ P F H E hc rl w => ?_⟩
  have pa0 := hpa c hc.cx
  obtain ⟨hσ, _⟩ := hS.slot hc rl
  refine ⟨.ref a, hσ, ?_⟩
  refine qe c σ ρ P F H _ hc rl (w.bnd.mono (fun kd P1 h1 v F1 H1 A1 x1 => ?_) ErrS.e)
  obtain ⟨kk, ek, hk1⟩ := Wp.lift (Wp.bnd h1)
  obtain ⟨rfl, k0⟩ := asK_some ek
  have rpk := x1.rp
  cases rpk
  refine ⟨a, ns, kk, rfl, (hS.slot hc x1.rl).2, k0, fun pn hpn => ?_⟩
  by_cases hl : i < ρ.length
  · rw [if_pos hl] at hk1
    have rl1 := x1.rl
    rw [hps] at rl1
    have fpn : F1 pn = none := rl1.gd.sub.free hpn
    have h0 : c.H0 pn = none := rl1.gd.dm pn hpn
    have hP : PoolAt (some (pn, pn)) (stN ns kk) F1 (upd H1 pn (stO (restN ns kk) (numN ns kk) 0)) := fun p' r' e => by cases e; exact ⟨⟨fun _ => rfl, fun z => absurd rfl z⟩, upd_same, upd_same, fpn, fpn⟩
    have r2 := rl1.into (i := i) pa0 hpn hi0 hl how hP
    have hc2 : CxOk (stJ J i a ns) ⟨c.H0, c.F0, some (pn, pn), c.cl, c.scr⟩ := by
      refine ⟨hc.eq, ?_⟩
      have sa := hS.at' c hc.cx
      refine ⟨sa.1, ?_⟩
      rcases sa.2 with z | ⟨n, z⟩
      · exact .inl z
      · refine .inr ⟨fun p' r' e => ?_, z⟩
        cases e
        have ne : a ≠ pn := fun y => by
          subst y
          rcases z with z | ⟨ob, z⟩
          · rw [h0] at z; cases z
          · rw [h0] at z; cases z
        exact ⟨ne, ne⟩
    refine qt _ _ _ _ F1 _ E hc2 r2 ((Wp.atP hk1).mono (fun oc P4 q => ?_) fun x P4 q => ?_)
    · cases oc with
      | nx ρ' => exact fun σ' F' H' r s => (show StP J c ow' owl kr F E (.nx ρ') P1 from q) σ' F' H' (by rw [hps]; exact r.outof pa0 h0) (x1.st.fs.trans s)
      | rt d => exact fun v H' rt => (show StP J c ow' owl kr F E (.rt d) P1 from q) v H' (by
          obtain ⟨F', A, g, ho, nd, fr⟩ := rt.ex
          exact ⟨F', A, g.outof pa0 h0, ho, nd, fun b hb => ⟨(fr b hb).1, (fr b hb).2.1, np_none pa0 b⟩⟩)
      | bk ρ' => exact fun σ' F' H' r s => (show StP J c ow' owl kr F E (.bk ρ') P1 from q) σ' F' H' (by rw [hps]; exact r.outof pa0 h0) (x1.st.fs.trans s)
      | ct ρ' => exact fun σ' F' H' r s => (show StP J c ow' owl kr F E (.ct ρ') P1 from q) σ' F' H' (by rw [hps]; exact r.outof pa0 h0) (x1.st.fs.trans s)
    · exact fun cls dd σ' F' H' g ea => (show ErrS J c x P1 from q) cls dd σ' F' H' (g.outof pa0 h0) ea
  · rw [if_neg hl] at hk1; exact hk1.elim
end
section
variable {P : Program} {w : World} {K : PySem.W.Frag} {mg : Str → Option Value} {base : Heap}
abbrev jdS (P : Program) (w : World) (K : PySem.W.Frag) (mg : Str → Option Value) (base : Heap) (N : List Str) (qual : Str) (sc : Scope) (f : Addr) (cdv : Value) (B : Around) (up : List Env) (s : Shared) (H : Hp) (E : XK) (cl : String → Addr) (a : Addr) (ns : List Int) : Jd :=
  { X := cxOf (L2.CX P w) P w K mg base N qual sc f cdv B up s H E, W := fun cls d _ H => E cls d H, cl := cl, ps := (none, true), cx := fun c => ScrAt K c a ns ∧ c.pa = none, cxm := fun c P F H g h => ⟨h.1.at g, h.2⟩ }
/-- the law tells True, of any script -/
def KeepsS (N : List Str) (f : List Int → Rho → M Oc) : Prop := ∀ ns : List Int, ∃ P', f ns (List.replicate N.length none) ⟨[], 0, 0⟩ = some (.ok (.rt (.bool true)), P')
theorem law_defS {x : Str} {st : Stmt} {N prs : List Str} {k : Nat} {ow' : Owns} {cl : String → Addr} {fr : List Int → Rho → M Oc} (T : Df K mg x st prs) (S : FnScope N prs (defScope st)) (hN : 1 ≤ N.length) (hp : prs.length = 1)
    (rest : ∀ (f : Addr) (cdv : Value) (B : Around) (up : List Env) (s : Shared) (H : Hp) (E : XK) (a : Addr) (ns : List Int), Ok (jdS P w K mg base N x (defScope st) f cdv B up s H E cl a ns) → PassesOwn (model P w) (jdS P w K mg base N x (defScope st) f cdv B up s H E cl a ns).X.A (jdS P w K mg base N x (defScope st) f cdv B up s H E cl a ns).X.env (jdS P w K mg base N x (defScope st) f cdv B up s H E cl a ns).X.xe →
      Room k (jdS P w K mg base N x (defScope st) f cdv B up s H E cl a ns).X.A → ScrJ (jdS P w K mg base N x (defScope st) f cdv B up s H E cl a ns) a ns → Ss (jdS P w K mg base N x (defScope st) f cdv B up s H E cl a ns) [] ow' [] 0 (defBody st) (fr ns))
    (keeps : KeepsS N fr) : Fn P w K mg base (k + 1) x prs (lawSp K) := by
  obtain ⟨f, fd, F, h1, h2⟩ := T
  refine ⟨f, fd, fnG_of F S ?_ fun cdv B up s H vs Q E hg hr ⟨a, ns, hv, hs, kq⟩ => ?_, h1, F.kp, h2⟩
  · intro vs H Q E ⟨a, ns, hv, _⟩
    rw [hv, hp]; rfl
  subst hv
  have O : Ok (jdS P w K mg base N x (defScope st) f cdv B up s H E cl a ns) := ⟨hg, rfl, by have := hr.un; show (B.deeper _).units + 200 < cLine; omega, takes_of rfl rfl rfl rfl, S.nd, hr.hd⟩
  have hS : ScrJ (jdS P w K mg base N x (defScope st) f cdv B up s H E cl a ns) a ns := ⟨rfl, fun _ h => h.1⟩
  obtain ⟨t, pt, qt⟩ := rest f cdv B up s H E a ns O (passes_of rfl) hr hS
  refine ⟨_, pt, ?_⟩
  have e0 : L2.start N [.ref a] = some (.ref a) :: List.replicate (N.length - 1) none := by
    unfold L2.start
    obtain ⟨m, hm⟩ : ∃ m, N.length = m + 1 := ⟨N.length - 1, by omega⟩
    rw [hm]
    simp
  rw [e0]
  let c : Ctx := ⟨H, fun _ => none, none, cl, some a⟩
  have hc : CxOk (jdS P w K mg base N x (defScope st) f cdv B up s H E cl a ns) c := by
    refine ⟨rfl, ⟨rfl, ?_⟩, rfl⟩
    rcases hs with z | z
    · exact .inr ⟨np_none rfl a, z⟩
    · exact .inl z
  have rl : Rl c (none, true) [] (some (.ref a) :: List.replicate (N.length - 1) none) (List.replicate N.length none) ⟨[], 0, 0⟩ (fun _ => none) H := by
    refine ⟨⟨fun _ _ e => (nomatch e), Same.refl _, fun _ _ h => .inl h, fun _ _ h _ => h, fun _ h => h, fun p' r' e => (nomatch e)⟩, ?_, (fun i e => by cases e), (fun _ => ⟨a, rfl, rfl⟩), fun i d e _ => ?_, fun _ => [], (fun i k e => by cases e), (fun i j k l e => by cases e)⟩
    · simp; omega
    · rw [List.getElem?_replicate] at e
      split at e
      · cases e
      · cases e
  obtain ⟨P', hk⟩ := keeps ns
  refine qt c _ _ _ _ _ _ hc rl ?_
  rw [hk]
  intro v H2 ⟨F', A, gd, o, nd, fr⟩
  have : v = .bl true := by
    cases o with
    | fz h => cases h; rfl
  subst this
  exact kq H2
end
end DL

end
section
set_option Elab.async false
set_option linter.all false
set_option maxRecDepth 100000
set_option maxHeartbeats 2000000
namespace DL
open PySem PySem.Spec L2
/-! ### a def whose one statement is x.insert(i, e), x its first argument -/
section
variable {P : Program} {w : World} {K : PySem.W.Frag} {mg : Str → Option Value} {base : Heap}
theorem mut_ins {x qual : Str} {N : List Str} {sc : Scope} {f : Addr} {cdv : Value} {B : Around} {up : List Env} {s : Shared} {H : Hp} {E : XK} {cl : String → Addr} {e1 e2 : Expr} {fe ge : Rho → M D} {p apos cpos pos : Pos}
    (h : Se (jd P w K mg base N qual sc f cdv B up s H E cl none) [(0, 1)] e1 0 fe) (hg : Se (jd P w K mg base N qual sc f cdv B up s H E cl none) [(0, 1)] e2 0 ge) (hN : (jd P w K mg base N qual sc f cdv B up s H E cl none).X.N[0]? = some x := by rfl)
    (hv : Vis (jd P w K mg base N qual sc f cdv B up s H E cl none).X.env.scope x := by first | exact Or.inl rfl | exact Or.inr (Or.inl rfl)) (hd : (x == ("__debug__" : Str)) = false := by decide) (hcd : (x == ("__classdict__" : Str)) = false := by decide)
    (hbase : attributeBase (.Name x p) "insert" (jd P w K mg base N qual sc f cdv B up s H E cl none).X.env (eval (.Name x p) (jd P w K mg base N qual sc f cdv B up s H E cl none).X.env) = eval (.Name x p) (jd P w K mg base N qual sc f cdv B up s H E cl none).X.env := by rfl)
    (hfew : ((backTo cpos (starEach [e1, e2] (jd P w K mg base N qual sc f cdv B up s H E cl none).X.env)).all (fun x => !x.1) && (backToKw cpos (keywordEach [] (jd P w K mg base N qual sc f cdv B up s H E cl none).X.env)).all (fun x => x.1.isSome) && decide ([e1, e2].length + ([] : List Keyword).length + (if ([] : List Keyword).isEmpty then 0 else 1) < 30)) = true := by rfl)
    (hline : (apos.endLine == cpos.line) = true := by rfl) (hs : starEach [e1, e2] (jd P w K mg base N qual sc f cdv B up s H E cl none).X.env = (false, eval e1 (jd P w K mg base N qual sc f cdv B up s H E cl none).X.env) :: starEach [e2] (jd P w K mg base N qual sc f cdv B up s H E cl none).X.env := by rfl)
    (hs2 : starEach [e2] (jd P w K mg base N qual sc f cdv B up s H E cl none).X.env = (false, eval e2 (jd P w K mg base N qual sc f cdv B up s H E cl none).X.env) :: starEach [] (jd P w K mg base N qual sc f cdv B up s H E cl none).X.env := by rfl) (hplain : (backTo cpos (starEach [e2] (jd P w K mg base N qual sc f cdv B up s H E cl none).X.env)).any (·.1) = false := by rfl)
    (hsw : swapsWith (.Call (.Attribute (.Name x p) "insert" apos) [e1, e2] [] cpos) none pos.line (jd P w K mg base N qual sc f cdv B up s H E cl none).X.env = pure false := by rfl) :
    ∃ t, PS (jd P w K mg base N qual sc f cdv B up s H E cl none).X (.Expr (.Call (.Attribute (.Name x p) "insert" apos) [e1, e2] [] cpos) pos) t ∧ ∀ (c : Ctx) (σ : St) (ρ : Rho) (P' : Pool) (F H' : Hp) (a : Addr) (D : Ends), c.cl = cl → σ[0]? = some (some (.ref a)) → Rl c (none, false) [(0, 1)] σ ρ P' F H' →
        Wp (sIns 0 fe ge ρ P') (fun oc P2 => match oc with | .nx ρ2 => ∀ F2 H2 es' ys, ρ2[0]? = some (some (.list es')) → H2 a = some (.lst ys) → Rps F2 ys es' → F2 a = none → Gd c P2 F2 H2 → D.nx σ H2 | _ => False) (fun _ _ => False) → t D σ H' := by
  obtain ⟨t, pe, q⟩ := h
  obtain ⟨u, pg, qg⟩ := hg
  refine ⟨_, ps_expr (pe_bm PySem.F.plainAttrs_list PySem.F.slot_list_insert PySem.F.type_list_insert mt_insert (pe_var hN hv hd hcd) (pa_cons pe (pa_cons pg pa_nil hs2) hs) hbase hfew hline hs hplain) hsw, fun c σ ρ P0 F H0 a D hcl hσ r ww => ?_⟩
  have hc : CxOk (jd P w K mg base N qual sc f cdv B up s H E cl none) c := ⟨hcl, trivial⟩
  obtain ⟨es0, el, ww⟩ := Wp.lift (Wp.bnd ww)
  have e1 := lstAt_some el
  obtain ⟨a', xs, e2, hH, hs0, _⟩ := r.hold1 rfl e1
  rw [hσ] at e2; cases e2
  refine ⟨.ref a, hσ, .inl ⟨rfl, xs, .inl (.inl hH)⟩, ?_⟩
  refine q c σ ρ P0 F H0 _ hc r ((Wp.bnd ww).mono (fun k P1 h1 v1 F1 H1 A1 x1 => ?_) fun _ _ h => h.elim)
  refine qg c σ ρ P1 F1 H1 _ hc x1.rl ((Wp.bnd h1).mono (fun d P2 h2 v2 F2 H2 A2 x2 => ?_) fun _ _ h => h.elim)
  obtain ⟨es, el2, h2⟩ := Wp.lift (Wp.bnd h2)
  rw [el] at el2; cases el2
  obtain ⟨es', ei, h2⟩ := Wp.lift (Wp.bnd h2)
  obtain ⟨a', xs1, f2, hH1, hs1, hF1, _⟩ := x2.rl.hold1 rfl e1
  rw [hσ] at f2; cases f2
  have rk := x1.rp.mono x2.st.fs
  cases rk with
  | int k =>
    have ei : (if 0 ≤ k ∧ k ≤ 1000000 ∧ es0.length < 1000000 then some (es0.take k.toNat ++ [d] ++ es0.drop k.toNat) else none) = some es' := ei
    split at ei
    · rename_i hz
      cases ei
      refine ⟨a, xs1, k, v2, rfl, rfl, hH1, by rw [hs1.length]; exact line_lt (Nat.le_of_lt hz.2.2), hz.1, by omega, ?_⟩
      have r3 := x2.rl.put1 rfl e1 hσ hH1 hs1 (rps_ins hs1 x2.rp k.toNat)
      have hl : 0 < ρ.length := (List.getElem?_eq_some_iff.mp e1).1
      exact (Wp.ok h2) F2 _ _ _ (List.getElem?_set_self hl) upd_same (rps_ins hs1 x2.rp k.toNat) hF1 r3.gd
    · cases ei
  | _ => cases ei
theorem mut_of {x : Str} {st : Stmt} {N prs : List Str} {k n : Nat} {cl : String → Addr} {fb : Rho → M Oc} {bst : Stmt} (T : Df K mg x st prs) (S : FnScope N prs (defScope st)) (hn : prs.length = n + 1) (hm : prs.length ≤ N.length) (hb : defBody st = [bst])
    (body : ∀ (f : Addr) (cdv : Value) (B : Around) (up : List Env) (s : Shared) (H : Hp) (E : XK), Ok (jd P w K mg base N x (defScope st) f cdv B up s H E cl none) → Room k (jd P w K mg base N x (defScope st) f cdv B up s H E cl none).X.A →
      ∃ t, PS (jd P w K mg base N x (defScope st) f cdv B up s H E cl none).X bst t ∧ ∀ (c : Ctx) (σ : St) (ρ : Rho) (P' : Pool) (F H' : Hp) (a : Addr) (D : Ends), c.cl = cl → σ[0]? = some (some (.ref a)) → Rl c (none, false) [(0, 1)] σ ρ P' F H' →
        Wp (fb ρ P') (fun oc P2 => match oc with | .nx ρ2 => ∀ F2 H2 es' ys, ρ2[0]? = some (some (.list es')) → H2 a = some (.lst ys) → Rps F2 ys es' → F2 a = none → Gd c P2 F2 H2 → D.nx σ H2 | _ => False) (fun _ _ => False) → t D σ H') :
    Fn P w K mg base (k + 1) x prs (spM cl n fun ds => mutF fb (rho0 false N.length ds)) := by
  obtain ⟨f, fd, F, h1, h2⟩ := T
  exact ⟨f, fd, fn_mut1 F S hn hm hb (body f), h1, F.kp, h2⟩
end
end DL

end
section
set_option Elab.async false
set_option linter.all false
set_option maxRecDepth 100000
set_option maxHeartbeats 2000000
namespace K23
open PySem PySem.Spec L2 DL
def topS (i : Nat) : Stmt := PySem.Challenge.pw_putbetween_k23_whole_names_by_own_docume.main.body.getD i (.Pass ⟨0, 0, 0, 0⟩)
abbrev s_is_integer : Stmt := topS 5
abbrev n_is_integer : List Str := ["thing"]
abbrev p_is_integer : List Str := ["thing"]
theorem sc_is_integer : FnScope n_is_integer p_is_integer (defScope s_is_integer) := ⟨rfl, rfl, rfl, by decide +kernel, rfl, by decide +kernel, by decide +kernel⟩
abbrev s_is_number : Stmt := topS 6
abbrev n_is_number : List Str := ["least", "most", "thing"]
abbrev p_is_number : List Str := ["least", "most", "thing"]
theorem sc_is_number : FnScope n_is_number p_is_number (defScope s_is_number) := ⟨rfl, rfl, rfl, by decide +kernel, rfl, by decide +kernel, by decide +kernel⟩
abbrev s_is_list_or_tuple : Stmt := topS 7
abbrev n_is_list_or_tuple : List Str := ["thing"]
abbrev p_is_list_or_tuple : List Str := ["thing"]
theorem sc_is_list_or_tuple : FnScope n_is_list_or_tuple p_is_list_or_tuple (defScope s_is_list_or_tuple) := ⟨rfl, rfl, rfl, by decide +kernel, rfl, by decide +kernel, by decide +kernel⟩
abbrev s_is_plan : Stmt := topS 10
abbrev n_is_plan : List Str := ["thing"]
abbrev p_is_plan : List Str := ["thing"]
theorem sc_is_plan : FnScope n_is_plan p_is_plan (defScope s_is_plan) := ⟨rfl, rfl, rfl, by decide +kernel, rfl, by decide +kernel, by decide +kernel⟩
abbrev s_need_plan : Stmt := topS 11
abbrev n_need_plan : List Str := ["plan"]
abbrev p_need_plan : List Str := ["plan"]
theorem sc_need_plan : FnScope n_need_plan p_need_plan (defScope s_need_plan) := ⟨rfl, rfl, rfl, by decide +kernel, rfl, by decide +kernel, by decide +kernel⟩
abbrev s_is_sights : Stmt := topS 12
abbrev n_is_sights : List Str := ["thing", "item", "row", "seen"]
abbrev p_is_sights : List Str := ["thing"]
theorem sc_is_sights : FnScope n_is_sights p_is_sights (defScope s_is_sights) := ⟨rfl, rfl, rfl, by decide +kernel, rfl, by decide +kernel, by decide +kernel⟩
abbrev s_closed : Stmt := topS 13
abbrev n_closed : List Str := ["sights", "masks", "row", "mask", "seen"]
abbrev p_closed : List Str := ["sights"]
theorem sc_closed : FnScope n_closed p_closed (defScope s_closed) := ⟨rfl, rfl, rfl, by decide +kernel, rfl, by decide +kernel, by decide +kernel⟩
abbrev s_items_of : Stmt := topS 14
abbrev n_items_of : List Str := ["mask", "item"]
abbrev p_items_of : List Str := ["mask"]
theorem sc_items_of : FnScope n_items_of p_items_of (defScope s_items_of) := ⟨rfl, rfl, rfl, by decide +kernel, rfl, by decide +kernel, by decide +kernel⟩
abbrev s_is_run : Stmt := topS 16
abbrev n_is_run : List Str := ["plan", "thing", "row", "gap"]
abbrev p_is_run : List Str := ["plan", "thing"]
theorem sc_is_run : FnScope n_is_run p_is_run (defScope s_is_run) := ⟨rfl, rfl, rfl, by decide +kernel, rfl, by decide +kernel, by decide +kernel⟩
abbrev s_need_run : Stmt := topS 17
abbrev n_need_run : List Str := ["plan", "run"]
abbrev p_need_run : List Str := ["plan", "run"]
theorem sc_need_run : FnScope n_need_run p_need_run (defScope s_need_run) := ⟨rfl, rfl, rfl, by decide +kernel, rfl, by decide +kernel, by decide +kernel⟩
abbrev s_names : Stmt := topS 19
abbrev n_names : List Str := ["plan", "run"]
abbrev p_names : List Str := ["plan", "run"]
theorem sc_names : FnScope n_names p_names (defScope s_names) := ⟨rfl, rfl, rfl, by decide +kernel, rfl, by decide +kernel, by decide +kernel⟩
abbrev s_chains_at : Stmt := topS 20
abbrev n_chains_at : List Str := ["plan", "run", "found", "item", "left"]
abbrev p_chains_at : List Str := ["plan", "run"]
theorem sc_chains_at : FnScope n_chains_at p_chains_at (defScope s_chains_at) := ⟨rfl, rfl, rfl, by decide +kernel, rfl, by decide +kernel, by decide +kernel⟩
abbrev s_standing : Stmt := topS 21
abbrev n_standing : List Str := ["plan", "run"]
abbrev p_standing : List Str := ["plan", "run"]
theorem sc_standing : FnScope n_standing p_standing (defScope s_standing) := ⟨rfl, rfl, rfl, by decide +kernel, rfl, by decide +kernel, by decide +kernel⟩
abbrev s_order_at : Stmt := topS 22
abbrev n_order_at : List Str := ["plan", "run"]
abbrev p_order_at : List Str := ["plan", "run"]
theorem sc_order_at : FnScope n_order_at p_order_at (defScope s_order_at) := ⟨rfl, rfl, rfl, by decide +kernel, rfl, by decide +kernel, by decide +kernel⟩
abbrev s_seen_of : Stmt := topS 23
abbrev n_seen_of : List Str := ["plan", "item", "order", "other"]
abbrev p_seen_of : List Str := ["plan", "item", "order"]
theorem sc_seen_of : FnScope n_seen_of p_seen_of (defScope s_seen_of) := ⟨rfl, rfl, rfl, by decide +kernel, rfl, by decide +kernel, by decide +kernel⟩
abbrev s_neighbours : Stmt := topS 24
abbrev n_neighbours : List Str := ["plan", "run", "lefts", "order", "item", "gap", "left"]
abbrev p_neighbours : List Str := ["plan", "run"]
theorem sc_neighbours : FnScope n_neighbours p_neighbours (defScope s_neighbours) := ⟨rfl, rfl, rfl, by decide +kernel, rfl, by decide +kernel, by decide +kernel⟩
abbrev s_placed : Stmt := topS 25
abbrev n_placed : List Str := ["lefts", "order", "item", "left"]
abbrev p_placed : List Str := ["lefts"]
theorem sc_placed : FnScope n_placed p_placed (defScope s_placed) := ⟨rfl, rfl, rfl, by decide +kernel, rfl, by decide +kernel, by decide +kernel⟩
abbrev s_put_behind : Stmt := topS 26
abbrev n_put_behind : List Str := ["order", "left", "item"]
abbrev p_put_behind : List Str := ["order", "left", "item"]
theorem sc_put_behind : FnScope n_put_behind p_put_behind (defScope s_put_behind) := ⟨rfl, rfl, rfl, by decide +kernel, rfl, by decide +kernel, by decide +kernel⟩
abbrev s__law_state : Stmt := topS 28
abbrev n__law_state : List Str := ["script", "k", "cell", "rest"]
abbrev p__law_state : List Str := ["script", "k"]
theorem sc__law_state : FnScope n__law_state p__law_state (defScope s__law_state) := ⟨rfl, rfl, rfl, by decide +kernel, rfl, by decide +kernel, by decide +kernel⟩
abbrev s__law_draw : Stmt := topS 29
abbrev n__law_draw : List Str := ["state", "many", "number"]
abbrev p__law_draw : List Str := ["state", "many"]
theorem sc__law_draw : FnScope n__law_draw p__law_draw (defScope s__law_draw) := ⟨rfl, rfl, rfl, by decide +kernel, rfl, by decide +kernel, by decide +kernel⟩
abbrev s__law_plan : Stmt := topS 30
abbrev n__law_plan : List Str := ["state", "size", "wide", "level", "rows", "item", "row", "other", "more"]
abbrev p__law_plan : List Str := ["state", "size"]
theorem sc__law_plan : FnScope n__law_plan p__law_plan (defScope s__law_plan) := ⟨rfl, rfl, rfl, by decide +kernel, rfl, by decide +kernel, by decide +kernel⟩
abbrev s__law_run : Stmt := topS 31
abbrev n__law_run : List Str := ["state", "plan", "seen"]
abbrev p__law_run : List Str := ["state", "plan"]
theorem sc__law_run : FnScope n__law_run p__law_run (defScope s__law_run) := ⟨rfl, rfl, rfl, by decide +kernel, rfl, by decide +kernel, by decide +kernel⟩
abbrev s__law_document : Stmt := topS 32
abbrev n__law_document : List Str := ["plan", "run", "order", "lines", "item", "seen", "left", "other"]
abbrev p__law_document : List Str := ["plan", "run"]
theorem sc__law_document : FnScope n__law_document p__law_document (defScope s__law_document) := ⟨rfl, rfl, rfl, by decide +kernel, rfl, by decide +kernel, by decide +kernel⟩
abbrev s__law_alike : Stmt := topS 33
abbrev n__law_alike : List Str := ["told", "due", "k"]
abbrev p__law_alike : List Str := ["told", "due"]
theorem sc__law_alike : FnScope n__law_alike p__law_alike (defScope s__law_alike) := ⟨rfl, rfl, rfl, by decide +kernel, rfl, by decide +kernel, by decide +kernel⟩
abbrev s__law_asked : Stmt := topS 34
abbrev n__law_asked : List Str := ["plan", "run", "order", "lines"]
abbrev p__law_asked : List Str := ["plan", "run"]
theorem sc__law_asked : FnScope n__law_asked p__law_asked (defScope s__law_asked) := ⟨rfl, rfl, rfl, by decide +kernel, rfl, by decide +kernel, by decide +kernel⟩
abbrev s_law : Stmt := topS 35
abbrev n_law : List Str := ["script", "state", "size", "plan", "many", "runs", "k"]
abbrev p_law : List Str := ["script"]
theorem sc_law : FnScope n_law p_law (defScope s_law) := ⟨rfl, rfl, rfl, by decide +kernel, rfl, by decide +kernel, by decide +kernel⟩
/-- what the top leaves -/
structure Txt (K : PySem.W.Frag) (mg : Str → Option Value) (cl : String → Addr) : Prop where
  d_is_integer : Df K mg "is_integer" s_is_integer p_is_integer
  d_is_number : Df K mg "is_number" s_is_number p_is_number
  d_is_list_or_tuple : Df K mg "is_list_or_tuple" s_is_list_or_tuple p_is_list_or_tuple
  d_is_plan : Df K mg "is_plan" s_is_plan p_is_plan
  d_need_plan : Df K mg "need_plan" s_need_plan p_need_plan
  d_is_sights : Df K mg "is_sights" s_is_sights p_is_sights
  d_closed : Df K mg "closed" s_closed p_closed
  d_items_of : Df K mg "items_of" s_items_of p_items_of
  d_is_run : Df K mg "is_run" s_is_run p_is_run
  d_need_run : Df K mg "need_run" s_need_run p_need_run
  d_names : Df K mg "names" s_names p_names
  d_chains_at : Df K mg "chains_at" s_chains_at p_chains_at
  d_standing : Df K mg "standing" s_standing p_standing
  d_order_at : Df K mg "order_at" s_order_at p_order_at
  d_seen_of : Df K mg "seen_of" s_seen_of p_seen_of
  d_neighbours : Df K mg "neighbours" s_neighbours p_neighbours
  d_placed : Df K mg "placed" s_placed p_placed
  d_put_behind : Df K mg "put_behind" s_put_behind p_put_behind
  d__law_state : Df K mg "_law_state" s__law_state p__law_state
  d__law_draw : Df K mg "_law_draw" s__law_draw p__law_draw
  d__law_plan : Df K mg "_law_plan" s__law_plan p__law_plan
  d__law_run : Df K mg "_law_run" s__law_run p__law_run
  d__law_document : Df K mg "_law_document" s__law_document p__law_document
  d__law_alike : Df K mg "_law_alike" s__law_alike p__law_alike
  d__law_asked : Df K mg "_law_asked" s__law_asked p__law_asked
  d_law : Df K mg "law" s_law p_law
  e_MOST_ITEMS : ∃ t, mg "MOST_ITEMS" = some (.int 40 t)
  n_all : mg "all" = none
  n_bool : mg "bool" = none
  n_enumerate : mg "enumerate" = none
  n_int : mg "int" = none
  n_isinstance : mg "isinstance" = none
  n_len : mg "len" = none
  n_list : mg "list" = none
  n_max : mg "max" = none
  n_min : mg "min" = none
  n_range : mg "range" = none
  n_sorted : mg "sorted" = none
  n_str : mg "str" = none
  n_tuple : mg "tuple" = none
  n_zip : mg "zip" = none
section
variable {P : Program} {w : World} {K : PySem.W.Frag} {mg : Str → Option Value} {base : Heap} {cl : String → Addr}
def f_is_integer : Rho → M Oc :=
  (sSeq (sRet (vAnd (eUn (gIs "int") (eVar 0)) (vNot (eUn (gIs "bool") (eVar 0))))) sSkip)
def F_is_integer : List D → M D := fun ds => bodyF 0 f_is_integer (rho0 false 1 ds)
theorem ok_is_integer (T : Txt K mg cl) : Fn P w K mg base 1 "is_integer" p_is_integer (spD cl false 1 0 F_is_integer) :=
  def_of (N := n_is_integer) (k := 0) (ow' := []) (fb := f_is_integer) false T.d_is_integer sc_is_integer rfl (by decide) fun f cdv B up s H E O po hr =>
  (ss_cons (s1_ret (se_and (se_isi T.n_isinstance T.n_int (se_name (i := 0))) (se_one (se_not (se_isi T.n_isinstance T.n_bool (se_name (i := 0))))))) ss_nil)
def f_is_number : Rho → M Oc :=
  (sSeq (sRet (vAnd (eCall F_is_integer (eCons (eVar 2) (fun _ => ret []))) (eChain gLe gLe (eVar 0) (eVar 2) (eVar 1)))) sSkip)
def F_is_number : List D → M D := fun ds => bodyF 0 f_is_number (rho0 false 3 ds)
theorem ok_is_number (T : Txt K mg cl) : Fn P w K mg base 2 "is_number" p_is_number (spD cl false 3 0 F_is_number) :=
  def_of (N := n_is_number) (k := 1) (ow' := []) (fb := f_is_number) false T.d_is_number sc_is_number rfl (by decide) fun f cdv B up s H E O po hr =>
  (ss_cons (s1_ret (se_and (se_fn O hr (ok_is_integer (cl := cl) T) (Sa.cons (se_name (i := 2)) Sa.nil)) (se_one (se_chain op_le op_le o_cmp o_cmp (se_name (i := 0)) (se_name (i := 2)) (se_name (i := 1)))))) ss_nil)
def f_is_list_or_tuple : Rho → M Oc :=
  (sSeq (sRet (eUn (gIs2 "list" "tuple") (eVar 0))) sSkip)
def F_is_list_or_tuple : List D → M D := fun ds => bodyF 0 f_is_list_or_tuple (rho0 false 1 ds)
theorem ok_is_list_or_tuple (T : Txt K mg cl) : Fn P w K mg base 1 "is_list_or_tuple" p_is_list_or_tuple (spD cl false 1 0 F_is_list_or_tuple) :=
  def_of (N := n_is_list_or_tuple) (k := 0) (ow' := []) (fb := f_is_list_or_tuple) false T.d_is_list_or_tuple sc_is_list_or_tuple rfl (by decide) fun f cdv B up s H E O po hr =>
  (ss_cons (s1_ret (se_isi2 T.n_isinstance T.n_list T.n_tuple (se_name (i := 0)))) ss_nil)
def f_items_of : Rho → M Oc :=
  (sSeq (sRet (eB gTuple (eCons (eLc [1] (iRng (eCons (eUn gBits (eVar 0)) (fun _ => ret []))) (gtName 1) (tTru (eOp gAnd (eOp gShr (eVar 0) (eVar 1)) (eC (.int 1)))) (eVar 1)) (fun _ => ret [])))) sSkip)
def F_items_of : List D → M D := fun ds => bodyF 0 f_items_of (rho0 false 2 ds)
theorem ok_items_of (T : Txt K mg cl) : Fn P w K mg base 1 "items_of" p_items_of (spD cl false 1 0 F_items_of) :=
  def_of (N := n_items_of) (k := 0) (ow' := []) (fb := f_items_of) false T.d_items_of sc_items_of rfl (by decide) fun f cdv B up s H E O po hr =>
  (ss_cons (s1_ret (se_ty call_tuple_of o_tuple T.n_tuple (Sa.cons (Se.frz (se_lc (own := [("item", 1)]) O (si_range1 T.n_range (Sa.cons (se_bits (se_name (i := 0))) Sa.nil)).c (blkOk_by (by first | (show blkC n_items_of (defScope s_items_of) _ _ = true; decide +kernel) | rfl)) (fun b => (gt_name (i := 1) (O.blk _ b).nd)) (ts_one fun b => (te_tru (se_op op_and o_and (se_op op_shr o_shr (se_name (i := 0)) (se_name (i := 1))) se_int))) (fun b => (se_name (i := 1))))) Sa.nil))) ss_nil)
def f_closed : Rho → M Oc :=
  (sSeq (sSet 1 (eLst (fun _ => ret []))) (sSeq (sFor (iSeq (eVar 0)) (gtName 2) (sSeq (sSet 3 (eC (.int 0))) (sSeq (sFor (iSeq (eVar 2)) (gtName 4) (sSeq (sSet 3 (eOp gOr (eOp gOr (eVar 3) (ePeek 1 (eVar 4))) (eOp gShl (eC (.int 1)) (eVar 4)))) sSkip)) (sSeq (sApp 1 (eVar 3)) sSkip)))) (sSeq (sRet (eB gTuple (eCons (eLc [3] (iSeq (eVar 1)) (gtName 3) (fun _ => ret true) (eCall F_items_of (eCons (eVar 3) (fun _ => ret [])))) (fun _ => ret [])))) sSkip)))
def F_closed : List D → M D := fun ds => bodyF 0 f_closed (rho0 false 5 ds)
theorem ok_closed (T : Txt K mg cl) : Fn P w K mg base 2 "closed" p_closed (spD cl false 1 0 F_closed) :=
  def_of (N := n_closed) (k := 1) (ow' := []) (fb := f_closed) false T.d_closed sc_closed rfl (by decide) fun f cdv B up s H E O po hr =>
  (ss_cons (s1_set (i := 1) (k := 1) O (se_lst Sa.nil)) (ss_cons (s1_for O po (si_seq (se_name (i := 0))) (gt_name (i := 2) O.nd) (ss_cons (s1_set (i := 3) (k := 0) O se_int) (ss_cons (s1_for O po (si_seq (se_name (i := 2))) (gt_name (i := 4) O.nd) (ss_cons (s1_set (i := 3) (k := 0) O (se_op op_or o_or (se_op op_or o_or (se_name (i := 3)) (se_peek (i := 1) (se_name (i := 4)))) (se_op op_shl o_shl se_int (se_name (i := 4))))) ss_nil)) (ss_cons (s1_append (i := 1) (se_name (i := 3))) ss_nil)))) (ss_frz 1 (ss_cons (s1_ret (se_ty call_tuple_of o_tuple T.n_tuple (Sa.cons (Se.frz (se_lc (own := [("mask", 3)]) O (si_seq (se_name (i := 1))).c (blkOk_by (by first | (show blkC n_closed (defScope s_closed) _ _ = true; decide +kernel) | rfl)) (fun b => (gt_name (i := 3) (O.blk _ b).nd)) ts_nil (fun b => (se_fn (O.blk _ b) hr (ok_items_of (cl := cl) T) (Sa.cons (se_name (i := 3)) Sa.nil))))) Sa.nil))) ss_nil))))
def f_is_sights : Rho → M Oc :=
  (sSeq (sIf (tOr' (tNot' (tTru (eCall F_is_list_or_tuple (eCons (eVar 0) (fun _ => ret []))))) (tBool (eOp gGt (eB gLen (eCons (eVar 0) (fun _ => ret []))) (eC (.int 40))))) (sSeq (sRet (eC (.bool false))) sSkip) sSkip) (sSeq (sFor (iEnu (eCons (eVar 0) (fun _ => ret []))) (gtTup 2 (gsCons (gtName 1) (gsCons (gtName 2) gsNil))) (sSeq (sIf (tNot' (tTru (eCall F_is_list_or_tuple (eCons (eVar 2) (fun _ => ret []))))) (sSeq (sRet (eC (.bool false))) sSkip) sSkip) (sSeq (sIf (tNot' (tTru (eB (gAll fun bs => bs.all id) (eCons (eLc [3] (iSeq (eVar 2)) (gtName 3) (fun _ => ret true) (eCall F_is_number (eCons (eC (.int 0)) (eCons (eOp gSub (eVar 1) (eC (.int 1))) (eCons (eVar 3) (fun _ => ret [])))))) (fun _ => ret []))))) (sSeq (sRet (eC (.bool false))) sSkip) sSkip) sSkip))) (sSeq (sRet (eC (.bool true))) sSkip)))
def F_is_sights : List D → M D := fun ds => bodyF 0 f_is_sights (rho0 false 4 ds)
theorem ok_is_sights (T : Txt K mg cl) : Fn P w K mg base 3 "is_sights" p_is_sights (spD cl false 1 0 F_is_sights) :=
  def_of (N := n_is_sights) (k := 2) (ow' := []) (fb := f_is_sights) false T.d_is_sights sc_is_sights rfl (by decide) fun f cdv B up s H E O po hr =>
  (ss_cons (s1_if (ow' := []) (Tw.te (tw_or (te_not (te_tru (se_fn O hr (ok_is_list_or_tuple (cl := cl) T) (Sa.cons (se_name (i := 0)) Sa.nil)))) (tw_or1 (te_cmp op_gt o_cmp (se_bi call_len_seq o_len T.n_len (Sa.cons (se_name (i := 0)) Sa.nil)) (se_globE T.e_MOST_ITEMS))))) (ss_cons (s1_ret se_bl) ss_nil) ss_nil) (ss_cons (s1_for O po (si_enum T.n_enumerate (Sa.cons (se_name (i := 0)) Sa.nil)) (gt_tup O.c (gs_cons (gt_name (i := 1) O.nd) (gs_cons (gt_name (i := 2) O.nd) gs_nil))) (ss_cons (s1_if (ow' := []) (te_not (te_tru (se_fn O hr (ok_is_list_or_tuple (cl := cl) T) (Sa.cons (se_name (i := 2)) Sa.nil)))) (ss_cons (s1_ret se_bl) ss_nil) ss_nil) (ss_cons (s1_if (ow' := []) (te_not (te_tru (se_bi (cr_all O.c) o_all T.n_all (Sa.cons (Se.frz (se_lc (own := [("seen", 3)]) O (si_seq (se_name (i := 2))).c (blkOk_by (by first | (show blkC n_is_sights (defScope s_is_sights) _ _ = true; decide +kernel) | rfl)) (fun b => (gt_name (i := 3) (O.blk _ b).nd)) ts_nil (fun b => (se_fn (O.blk _ b) hr (ok_is_number (cl := cl) T) (Sa.cons se_int (Sa.cons (se_op op_sub o_sub (se_name (i := 1)) se_int) (Sa.cons (se_name (i := 3)) Sa.nil))))))) Sa.nil)))) (ss_cons (s1_ret se_bl) ss_nil) ss_nil) ss_nil))) (ss_cons (s1_ret se_bl) ss_nil)))
def f_is_plan : Rho → M Oc :=
  (sSeq (sRet (vAnd (eCall F_is_sights (eCons (eVar 0) (fun _ => ret []))) (eOp gEq (eCall F_closed (eCons (eVar 0) (fun _ => ret []))) (eVar 0)))) sSkip)
def F_is_plan : List D → M D := fun ds => bodyF 0 f_is_plan (rho0 false 1 ds)
theorem ok_is_plan (T : Txt K mg cl) : Fn P w K mg base 4 "is_plan" p_is_plan (spD cl false 1 0 F_is_plan) :=
  def_of (N := n_is_plan) (k := 3) (ow' := []) (fb := f_is_plan) false T.d_is_plan sc_is_plan rfl (by decide) fun f cdv B up s H E O po hr =>
  (ss_cons (s1_ret (se_and (se_fn O hr (ok_is_sights (cl := cl) T) (Sa.cons (se_name (i := 0)) Sa.nil)) (se_one (se_cmp ((op_eqD (Nat.lt_of_le_of_lt (Nat.add_le_add_left (by decide) _) O.u)).or op_eq) o_eq (se_fn O hr (ok_closed (cl := cl) T) (Sa.cons (se_name (i := 0)) Sa.nil)) (se_name (i := 0)))))) ss_nil)
def f_need_plan : Rho → M Oc :=
  (sSeq (sIf (tNot' (tTru (eCall F_is_plan (eCons (eVar 0) (fun _ => ret []))))) (sSeq sNever sSkip) sSkip) sSkip)
def F_need_plan : List D → M D := fun ds => bodyF 0 f_need_plan (rho0 false 1 ds)
theorem ok_need_plan (T : Txt K mg cl) : Fn P w K mg base 5 "need_plan" p_need_plan (spD cl false 1 0 F_need_plan) :=
  def_of (N := n_need_plan) (k := 4) (ow' := []) (fb := f_need_plan) false T.d_need_plan sc_need_plan rfl (by decide) fun f cdv B up s H E O po hr =>
  (ss_cons (s1_if (ow' := []) (te_not (te_tru (se_fn O hr (ok_is_plan (cl := cl) T) (Sa.cons (se_name (i := 0)) Sa.nil)))) (ss_cons s1_never ss_nil) ss_nil) ss_nil)
def f_is_run : Rho → M Oc :=
  (sSeq (sIf (tOr' (tNot' (tTru (eUn (gIs "tuple") (eVar 1)))) (tBool (eOp gNe (eB gLen (eCons (eVar 1) (fun _ => ret []))) (eB gLen (eCons (eVar 0) (fun _ => ret [])))))) (sSeq (sRet (eC (.bool false))) sSkip) sSkip) (sSeq (sRet (eB (gAll fun bs => bs.all id) (eCons (eLc [2, 3] (iZip (eCons (eVar 0) (eCons (eVar 1) (fun _ => ret [])))) (gtTup 2 (gsCons (gtName 2) (gsCons (gtName 3) gsNil))) (fun _ => ret true) (eCall F_is_number (eCons (eC (.int 0)) (eCons (eB gLen (eCons (eVar 2) (fun _ => ret []))) (eCons (eVar 3) (fun _ => ret [])))))) (fun _ => ret [])))) sSkip))
def F_is_run : List D → M D := fun ds => bodyF 0 f_is_run (rho0 false 4 ds)
theorem ok_is_run (T : Txt K mg cl) : Fn P w K mg base 3 "is_run" p_is_run (spD cl false 2 0 F_is_run) :=
  def_of (N := n_is_run) (k := 2) (ow' := []) (fb := f_is_run) false T.d_is_run sc_is_run rfl (by decide) fun f cdv B up s H E O po hr =>
  (ss_cons (s1_if (ow' := []) (Tw.te (tw_or (te_not (te_tru (se_isi T.n_isinstance T.n_tuple (se_name (i := 1))))) (tw_or1 (te_cmp ((op_neD (Nat.lt_of_le_of_lt (Nat.add_le_add_left (by decide) _) O.u)).or op_ne) o_ne (se_bi call_len_seq o_len T.n_len (Sa.cons (se_name (i := 1)) Sa.nil)) (se_bi call_len_seq o_len T.n_len (Sa.cons (se_name (i := 0)) Sa.nil)))))) (ss_cons (s1_ret se_bl) ss_nil) ss_nil) (ss_cons (s1_ret (se_bi (cr_all O.c) o_all T.n_all (Sa.cons (Se.frz (se_lc (own := [("row", 2), ("gap", 3)]) O (si_zip T.n_zip (Sa.cons (se_name (i := 0)) (Sa.cons (se_name (i := 1)) Sa.nil))).c (blkOk_by (by first | (show blkC n_is_run (defScope s_is_run) _ _ = true; decide +kernel) | rfl)) (fun b => (gt_tup (O.blk _ b).c (gs_cons (gt_name (i := 2) (O.blk _ b).nd) (gs_cons (gt_name (i := 3) (O.blk _ b).nd) gs_nil)))) ts_nil (fun b => (se_fn (O.blk _ b) hr (ok_is_number (cl := cl) T) (Sa.cons se_int (Sa.cons (se_bi call_len_seq o_len T.n_len (Sa.cons (se_name (i := 2)) Sa.nil)) (Sa.cons (se_name (i := 3)) Sa.nil))))))) Sa.nil))) ss_nil))
def f_need_run : Rho → M Oc :=
  (sSeq (sIf (tNot' (tTru (eCall F_is_run (eCons (eVar 0) (eCons (eVar 1) (fun _ => ret [])))))) (sSeq sNever sSkip) sSkip) sSkip)
def F_need_run : List D → M D := fun ds => bodyF 0 f_need_run (rho0 false 2 ds)
theorem ok_need_run (T : Txt K mg cl) : Fn P w K mg base 4 "need_run" p_need_run (spD cl false 2 0 F_need_run) :=
  def_of (N := n_need_run) (k := 3) (ow' := []) (fb := f_need_run) false T.d_need_run sc_need_run rfl (by decide) fun f cdv B up s H E O po hr =>
  (ss_cons (s1_if (ow' := []) (te_not (te_tru (se_fn O hr (ok_is_run (cl := cl) T) (Sa.cons (se_name (i := 0)) (Sa.cons (se_name (i := 1)) Sa.nil))))) (ss_cons s1_never ss_nil) ss_nil) ss_nil)
def f_put_behind : Rho → M Oc := sIns 0 (eIf (tBool (eOp (gIsN false) (eVar 1) (eC .none))) (eC (.int 0)) (eOp gAdd (eIxO 0 (eVar 1)) (eC (.int 1)))) (eVar 2)
def F_put_behind : List D → M D := fun ds => mutF f_put_behind (rho0 false 3 ds)
theorem ok_put_behind (T : Txt K mg cl) : Fn P w K mg base 1 "put_behind" p_put_behind (spM cl 2 F_put_behind) :=
  mut_of (k := 0) T.d_put_behind sc_put_behind rfl (by decide) rfl fun f cdv B up s H E O hr =>
  mut_ins (se_if (te_cmp op_isN o_isN (se_name (i := 1)) se_non) se_int (se_op op_addA o_add (se_ixO (i := 0) (se_name (i := 1))) se_int)) (se_name (i := 2))
def f_seen_of : Rho → M Oc :=
  (sSeq (sRet (eLc [3] (iSeq (eVar 2)) (gtName 3) (tBool (eOp (gIn false) (eVar 3) (eOp gIx (eVar 0) (eVar 1)))) (eVar 3))) sSkip)
def F_seen_of : List D → M D := fun ds => bodyF 0 f_seen_of (rho0 false 4 ds)
theorem ok_seen_of (T : Txt K mg cl) : Fn P w K mg base 1 "seen_of" p_seen_of (spD cl false 3 0 F_seen_of) :=
  def_of (N := n_seen_of) (k := 0) (ow' := []) (fb := f_seen_of) false T.d_seen_of sc_seen_of rfl (by decide) fun f cdv B up s H E O po hr =>
  (ss_cons (s1_ret (Se.frz (se_lc (own := [("other", 3)]) O (si_seq (se_name (i := 2))).c (blkOk_by (by first | (show blkC n_seen_of (defScope s_seen_of) _ _ = true; decide +kernel) | rfl)) (fun b => (gt_name (i := 3) (O.blk _ b).nd)) (ts_one fun b => (te_cmp op_in_seq o_in (se_name (i := 3)) (se_ix ix_seq o_ix (se_name (i := 0)) (se_name (i := 1))))) (fun b => (se_name (i := 3)))))) ss_nil)
def f_neighbours : Rho → M Oc :=
  (sSeq (sSet 2 (eLst (fun _ => ret []))) (sSeq (sSet 3 (eLst (fun _ => ret []))) (sSeq (sFor (iEnu (eCons (eVar 1) (fun _ => ret []))) (gtTup 2 (gsCons (gtName 4) (gsCons (gtName 5) gsNil))) (sSeq (sSet 6 (fun ρ => flatM ((eIf (tBool (eOp gGt (eVar 5) (eC (.int 0)))) (eOp gIx (eCall F_seen_of (eCons (eVar 0) (eCons (eVar 4) (eCons (eVar 3) (fun _ => ret []))))) (eOp gSub (eVar 5) (eC (.int 1)))) (eC .none)) ρ))) (sSeq (sApp 2 (eVar 6)) (sSeq (sMut 3 F_put_behind (eCons (eVar 6) (eCons (eVar 4) (fun _ => ret [])))) sSkip)))) (sSeq (sRetO 2) sSkip))))
def F_neighbours : List D → M D := fun ds => bodyF 1 f_neighbours (rho0 false 7 ds)
theorem ok_neighbours (T : Txt K mg cl) : Fn P w K mg base 2 "neighbours" p_neighbours (spD cl false 2 1 F_neighbours) :=
  def_of (N := n_neighbours) (k := 1) (ow' := []) (fb := f_neighbours) false T.d_neighbours sc_neighbours rfl (by decide) fun f cdv B up s H E O po hr =>
  (ss_cons (s1_set (i := 2) (k := 1) O (se_lst Sa.nil)) (ss_cons (s1_set (i := 3) (k := 1) O (se_lst Sa.nil)) (ss_cons (s1_for O po (si_enum T.n_enumerate (Sa.cons (se_name (i := 1)) Sa.nil)) (gt_tup O.c (gs_cons (gt_name (i := 4) O.nd) (gs_cons (gt_name (i := 5) O.nd) gs_nil))) (ss_cons (s1_set (i := 6) (k := 0) O (se_lend 3 rfl (se_if (te_cmp op_gt o_cmp (se_name (i := 5)) se_int) (se_ix ix_seq o_ix (se_fn O hr (ok_seen_of (cl := cl) T) (Sa.cons (se_name (i := 0)) (Sa.cons (se_name (i := 4)) (Sa.cons (se_name (i := 3)) Sa.nil)))) (se_op op_sub o_sub (se_name (i := 5)) se_int)) se_non))) (ss_cons (s1_append (i := 2) (se_name (i := 6))) (ss_cons (s1_mut (i := 3) O hr (ok_put_behind (cl := cl) T) (Sa.cons (se_name (i := 6)) (Sa.cons (se_name (i := 4)) Sa.nil))) ss_nil)))) (ss_cons (s1_retO (i := 2)) ss_nil))))
def f_chains_at : Rho → M Oc :=
  (sSeq (sSet 2 (eLst (fun _ => ret []))) (sSeq (sFor (iEnu (eCons (eCall F_neighbours (eCons (eVar 0) (eCons (eVar 1) (fun _ => ret [])))) (fun _ => ret []))) (gtTup 2 (gsCons (gtName 3) (gsCons (gtName 4) gsNil))) (sSeq (sApp 2 (eIf (tBool (eOp (gIsN false) (eVar 4) (eC .none))) (eTup (eCons (eVar 3) (fun _ => ret []))) (eOp gAdd (ePeek 2 (eVar 4)) (eTup (eCons (eVar 3) (fun _ => ret [])))))) sSkip)) (sSeq (sRet (eB gTuple (eCons (eVar 2) (fun _ => ret [])))) sSkip)))
def F_chains_at : List D → M D := fun ds => bodyF 0 f_chains_at (rho0 false 5 ds)
theorem ok_chains_at (T : Txt K mg cl) : Fn P w K mg base 3 "chains_at" p_chains_at (spD cl false 2 0 F_chains_at) :=
  def_of (N := n_chains_at) (k := 2) (ow' := []) (fb := f_chains_at) false T.d_chains_at sc_chains_at rfl (by decide) fun f cdv B up s H E O po hr =>
  (ss_cons (s1_set (i := 2) (k := 1) O (se_lst Sa.nil)) (ss_cons (s1_for O po (si_enum T.n_enumerate (Sa.cons (Se.frz (se_fn O hr (ok_neighbours (cl := cl) T) (Sa.cons (se_name (i := 0)) (Sa.cons (se_name (i := 1)) Sa.nil)))) Sa.nil)) (gt_tup O.c (gs_cons (gt_name (i := 3) O.nd) (gs_cons (gt_name (i := 4) O.nd) gs_nil))) (ss_cons (s1_append (i := 2) (se_if (te_cmp op_isN o_isN (se_name (i := 4)) se_non) (se_tup (Sa.cons (se_name (i := 3)) Sa.nil)) (se_op op_addA o_add (se_peek (i := 2) (se_name (i := 4))) (se_tup (Sa.cons (se_name (i := 3)) Sa.nil))))) ss_nil)) (ss_frz 2 (ss_cons (s1_ret (se_ty call_tuple_of o_tuple T.n_tuple (Sa.cons (se_name (i := 2)) Sa.nil))) ss_nil))))
def f_names : Rho → M Oc :=
  (sSeq (sDrop (eCall F_need_plan (eCons (eVar 0) (fun _ => ret [])))) (sSeq (sDrop (eCall F_need_run (eCons (eVar 0) (eCons (eVar 1) (fun _ => ret []))))) (sSeq (sRet (eCall F_chains_at (eCons (eVar 0) (eCons (eVar 1) (fun _ => ret []))))) sSkip)))
def F_names : List D → M D := fun ds => bodyF 0 f_names (rho0 false 2 ds)
theorem ok_names (T : Txt K mg cl) : Fn P w K mg base 6 "names" p_names (spD cl false 2 0 F_names) :=
  def_of (N := n_names) (k := 5) (ow' := []) (fb := f_names) false T.d_names sc_names rfl (by decide) fun f cdv B up s H E O po hr =>
  (ss_cons (s1_expr (se_fn O hr (ok_need_plan (cl := cl) T) (Sa.cons (se_name (i := 0)) Sa.nil))) (ss_cons (s1_expr (se_fn O hr (ok_need_run (cl := cl) T) (Sa.cons (se_name (i := 0)) (Sa.cons (se_name (i := 1)) Sa.nil)))) (ss_cons (s1_ret (se_fn O hr (ok_chains_at (cl := cl) T) (Sa.cons (se_name (i := 0)) (Sa.cons (se_name (i := 1)) Sa.nil)))) ss_nil)))
def f_placed : Rho → M Oc :=
  (sSeq (sSet 1 (eLst (fun _ => ret []))) (sSeq (sFor (iEnu (eCons (eVar 0) (fun _ => ret []))) (gtTup 2 (gsCons (gtName 2) (gsCons (gtName 3) gsNil))) (sSeq (sMut 1 F_put_behind (eCons (eVar 3) (eCons (eVar 2) (fun _ => ret [])))) sSkip)) (sSeq (sRetO 1) sSkip)))
def F_placed : List D → M D := fun ds => bodyF 1 f_placed (rho0 false 4 ds)
theorem ok_placed (T : Txt K mg cl) : Fn P w K mg base 2 "placed" p_placed (spD cl false 1 1 F_placed) :=
  def_of (N := n_placed) (k := 1) (ow' := []) (fb := f_placed) false T.d_placed sc_placed rfl (by decide) fun f cdv B up s H E O po hr =>
  (ss_cons (s1_set (i := 1) (k := 1) O (se_lst Sa.nil)) (ss_cons (s1_for O po (si_enum T.n_enumerate (Sa.cons (se_name (i := 0)) Sa.nil)) (gt_tup O.c (gs_cons (gt_name (i := 2) O.nd) (gs_cons (gt_name (i := 3) O.nd) gs_nil))) (ss_cons (s1_mut (i := 1) O hr (ok_put_behind (cl := cl) T) (Sa.cons (se_name (i := 3)) (Sa.cons (se_name (i := 2)) Sa.nil))) ss_nil)) (ss_cons (s1_retO (i := 1)) ss_nil)))
def f_order_at : Rho → M Oc :=
  (sSeq (sRet (eB gTuple (eCons (eCall F_placed (eCons (eCall F_neighbours (eCons (eVar 0) (eCons (eVar 1) (fun _ => ret [])))) (fun _ => ret []))) (fun _ => ret [])))) sSkip)
def F_order_at : List D → M D := fun ds => bodyF 0 f_order_at (rho0 false 2 ds)
theorem ok_order_at (T : Txt K mg cl) : Fn P w K mg base 3 "order_at" p_order_at (spD cl false 2 0 F_order_at) :=
  def_of (N := n_order_at) (k := 2) (ow' := []) (fb := f_order_at) false T.d_order_at sc_order_at rfl (by decide) fun f cdv B up s H E O po hr =>
  (ss_cons (s1_ret (se_ty call_tuple_of o_tuple T.n_tuple (Sa.cons (Se.frz (se_fn O hr (ok_placed (cl := cl) T) (Sa.cons (Se.frz (se_fn O hr (ok_neighbours (cl := cl) T) (Sa.cons (se_name (i := 0)) (Sa.cons (se_name (i := 1)) Sa.nil)))) Sa.nil))) Sa.nil))) ss_nil)
def f_standing : Rho → M Oc :=
  (sSeq (sDrop (eCall F_need_plan (eCons (eVar 0) (fun _ => ret [])))) (sSeq (sDrop (eCall F_need_run (eCons (eVar 0) (eCons (eVar 1) (fun _ => ret []))))) (sSeq (sRet (eCall F_order_at (eCons (eVar 0) (eCons (eVar 1) (fun _ => ret []))))) sSkip)))
def F_standing : List D → M D := fun ds => bodyF 0 f_standing (rho0 false 2 ds)
theorem ok_standing (T : Txt K mg cl) : Fn P w K mg base 6 "standing" p_standing (spD cl false 2 0 F_standing) :=
  def_of (N := n_standing) (k := 5) (ow' := []) (fb := f_standing) false T.d_standing sc_standing rfl (by decide) fun f cdv B up s H E O po hr =>
  (ss_cons (s1_expr (se_fn O hr (ok_need_plan (cl := cl) T) (Sa.cons (se_name (i := 0)) Sa.nil))) (ss_cons (s1_expr (se_fn O hr (ok_need_run (cl := cl) T) (Sa.cons (se_name (i := 0)) (Sa.cons (se_name (i := 1)) Sa.nil)))) (ss_cons (s1_ret (se_fn O hr (ok_order_at (cl := cl) T) (Sa.cons (se_name (i := 0)) (Sa.cons (se_name (i := 1)) Sa.nil)))) ss_nil)))
theorem ok__law_state (T : Txt K mg cl) : Fn P w K mg base 1 "_law_state" p__law_state (stSp K) :=
  st_of T.d__law_state sc__law_state rfl rfl fun f cdv B up s H E => by
    have nd := sc__law_state.nd
    exact (pss_cons (ps_set (i := 2) nd rfl (.inl rfl) (pe_ifExp (pt_cmpR op_lt (pe_var (i := 1) rfl (.inl rfl)) (pe_callB call_len_seq rfl T.n_len (by decide +kernel) (pa_cons (pe_var (i := 0) rfl (.inl rfl)) pa_nil rfl) (by decide) (by decide) rfl rfl) (nomark _)) (pe_ix ix_list (pe_var (i := 0) rfl (.inl rfl)) (pe_var (i := 1) rfl (.inl rfl)) (fun _ _ => rfl)) (pe_op op_add (pe_op op_mul pe_int (pe_var (i := 1) rfl (.inl rfl))) (pe_op op_mul pe_int (pe_callB call_len_seq rfl T.n_len (by decide +kernel) (pa_cons (pe_var (i := 0) rfl (.inl rfl)) pa_nil rfl) (by decide) (by decide) rfl rfl))))) (pss_cons (ps_set (i := 3) nd rfl (.inl rfl) (pe_ifExp (pt_cmpR op_ge (pe_var (i := 2) rfl (.inl rfl)) (pe_op op_pow pe_int pe_int) (nomark _)) (pe_var (i := 2) rfl (.inl rfl)) pe_int)) (pss_cons (ps_ret (pe_lst (pa_cons (pe_var (i := 3) rfl (.inl rfl)) (pa_cons (pe_op op_modN (pe_callTy call_int1 rfl T.n_int (by decide +kernel) (pa_cons (pe_op op_add (pe_var (i := 2) rfl (.inl rfl)) (pe_op op_mul pe_int (pe_var (i := 1) rfl (.inl rfl)))) pa_nil rfl) (by decide) (by decide) rfl rfl) pe_int) (pa_cons pe_int pa_nil rfl) rfl) rfl))) pss_nil)))
def F__law_draw : List D → M D := drawSF
theorem ok__law_draw (T : Txt K mg cl) : Fn P w K mg base 1 "_law_draw" p__law_draw (spD cl true 1 0 F__law_draw) :=
  drawS_of T.d__law_draw sc__law_draw rfl rfl fun f cdv B up s H E => by
    have nd := sc__law_draw.nd
    exact (pss_cons (ps_if (pt_cmpR op_gt (pe_ix ix_list (pe_var (i := 0) rfl (.inl rfl)) pe_int (fun _ _ => rfl)) pe_int (nomark _)) (pss_cons (ps_set (i := 2) nd rfl (.inl rfl) (pe_op op_modN (pe_callTy call_int1 rfl T.n_int (by decide +kernel) (pa_cons (pe_ix ix_list (pe_var (i := 0) rfl (.inl rfl)) pe_int (fun _ _ => rfl)) pa_nil rfl) (by decide) (by decide) rfl rfl) (pe_var (i := 1) rfl (.inl rfl)))) (pss_cons (ps_asg (pe_op op_fdivN (pe_ix ix_list (pe_var (i := 0) rfl (.inl rfl)) pe_int (fun _ _ => rfl)) (pe_var (i := 1) rfl (.inl rfl))) (pg_sub (pe_var (i := 0) rfl (.inl rfl)) pe_int set_list (by intro _; rfl))) (pss_cons (ps_ret (pe_var (i := 2) rfl (.inl rfl))) pss_nil))) pss_nil) (pss_cons (ps_asg (pe_op op_add (pe_ix ix_list (pe_var (i := 0) rfl (.inl rfl)) pe_int (fun _ _ => rfl)) pe_int) (pg_sub (pe_var (i := 0) rfl (.inl rfl)) pe_int set_list (by intro _; rfl))) (pss_cons (ps_set (i := 2) nd rfl (.inl rfl) (pe_op op_modN (pe_callTy call_int1 rfl T.n_int (by decide +kernel) (pa_cons (pe_op op_mul (pe_op op_add (pe_op op_add (pe_ix ix_list (pe_var (i := 0) rfl (.inl rfl)) pe_int (fun _ _ => rfl)) (pe_op op_mul pe_int (pe_ix ix_list (pe_var (i := 0) rfl (.inl rfl)) pe_int (fun _ _ => rfl)))) pe_int) pe_int) pa_nil rfl) (by decide) (by decide) rfl rfl) pe_int)) (pss_cons (ps_set (i := 2) nd rfl (.inl rfl) (pe_op op_modN (pe_callTy call_int1 rfl T.n_int (by decide +kernel) (pa_cons (pe_op op_mul (pe_var (i := 2) rfl (.inl rfl)) (pe_op op_add (pe_op op_fdivN (pe_var (i := 2) rfl (.inl rfl)) pe_int) pe_int)) pa_nil rfl) (by decide) (by decide) rfl rfl) pe_int)) (pss_cons (ps_set (i := 2) nd rfl (.inl rfl) (pe_op op_modN (pe_callTy call_int1 rfl T.n_int (by decide +kernel) (pa_cons (pe_op op_mul (pe_var (i := 2) rfl (.inl rfl)) (pe_op op_add (pe_op op_add (pe_op op_fdivN (pe_var (i := 2) rfl (.inl rfl)) pe_int) pe_int) (pe_ix ix_list (pe_var (i := 0) rfl (.inl rfl)) pe_int (fun _ _ => rfl)))) pa_nil rfl) (by decide) (by decide) rfl rfl) pe_int)) (pss_cons (ps_ret (pe_op op_modN (pe_callTy call_int1 rfl T.n_int (by decide +kernel) (pa_cons (pe_op op_fdivN (pe_var (i := 2) rfl (.inl rfl)) pe_int) pa_nil rfl) (by decide) (by decide) rfl rfl) (pe_var (i := 1) rfl (.inl rfl)))) pss_nil))))))
def f__law_plan : Rho → M Oc :=
  (sSeq (sSet 2 (eIf (tBool (eOp gLt (eVar 1) (eC (.int 9)))) (eC (.int 4)) (eOp gIx (eLst (eCons (eC (.int 4)) (eCons (eC (.int 14)) (eCons (eC (.int 60)) (fun _ => ret []))))) (eCallP F__law_draw (eCons (eC (.int 3)) (fun _ => ret [])))))) (sSeq (sSet 3 (eOp gAdd (eC (.int 1)) (eCallP F__law_draw (eCons (eC (.int 3)) (fun _ => ret []))))) (sSeq (sSet 4 (eLst (fun _ => ret []))) (sSeq (sFor (iRng (eCons (eVar 1) (fun _ => ret []))) (gtName 5) (sSeq (sSet 6 (eLst (fun _ => ret []))) (sSeq (sFor (iRngD3 (eCons (eOp gSub (eVar 5) (eC (.int 1))) (eCons (eUn gNeg (eC (.int 1))) (eCons (eUn gNeg (eC (.int 1))) (fun _ => ret []))))) (gtName 7) (sSeq (sIf (tAnd' (tBool (eOp (gIn true) (eVar 7) (eVar 6))) (tBool (eOp gLt (eCallP F__law_draw (eCons (eVar 2) (fun _ => ret []))) (eVar 3)))) (sSeq (sSet 6 (eOp gAdd (eOp gAdd (eVar 6) (eLst (eCons (eVar 7) (fun _ => ret [])))) (eLc [8] (iSeq (ePeek 4 (eVar 7))) (gtName 8) (tBool (eOp (gIn true) (eVar 8) (eVar 6))) (eVar 8)))) sSkip) sSkip) sSkip)) (sSeq (sApp 4 (eB gTuple (eCons (eB gSorted (eCons (eVar 6) (fun _ => ret []))) (fun _ => ret [])))) sSkip)))) (sSeq (sRet (eB gTuple (eCons (eVar 4) (fun _ => ret [])))) sSkip)))))
def F__law_plan : List D → M D := fun ds => bodyF 0 f__law_plan (rho0 true 9 ds)
theorem ok__law_plan (T : Txt K mg cl) : Fn P w K mg base 2 "_law_plan" p__law_plan (spD cl true 1 0 F__law_plan) :=
  def_of (N := n__law_plan) (k := 1) (ow' := []) (fb := f__law_plan) true T.d__law_plan sc__law_plan rfl (by decide) fun f cdv B up s H E O po hr =>
  (ss_cons (s1_set (i := 2) (k := 0) O (se_if (te_cmp op_lt o_cmp (se_name (i := 1)) se_int) se_int (se_ix ix_seq o_ix (Se.frz (se_lst (Sa.cons se_int (Sa.cons se_int (Sa.cons se_int Sa.nil))))) (se_fnP O hr (ok__law_draw (cl := cl) T) (Sa.cons se_int Sa.nil))))) (ss_cons (s1_set (i := 3) (k := 0) O (se_op op_addA o_add se_int (se_fnP O hr (ok__law_draw (cl := cl) T) (Sa.cons se_int Sa.nil)))) (ss_cons (s1_set (i := 4) (k := 1) O (se_lst Sa.nil)) (ss_cons (s1_for O po (si_range1 T.n_range (Sa.cons (se_name (i := 1)) Sa.nil)) (gt_name (i := 5) O.nd) (ss_cons (s1_set (i := 6) (k := 0) O (Se.frz (se_lst Sa.nil))) (ss_cons (s1_for O po (si_range3 T.n_range (Sa.cons (se_op op_sub o_sub (se_name (i := 5)) se_int) (Sa.cons (se_un un_neg o_neg se_int) (Sa.cons (se_un un_neg o_neg se_int) Sa.nil)))) (gt_name (i := 7) O.nd) (ss_cons (s1_if (ow' := [(4, 1)]) (Tw.te (tw_and (te_cmp op_notIn_seq o_in (se_name (i := 7)) (se_name (i := 6))) (tw_and1 (te_cmp op_lt o_cmp (se_fnP O hr (ok__law_draw (cl := cl) T) (Sa.cons (se_name (i := 2)) Sa.nil)) (se_name (i := 3)))))) (ss_cons (s1_set (i := 6) (k := 0) O (se_op op_addA o_add (se_op op_addA o_add (se_name (i := 6)) (Se.frz (se_lst (Sa.cons (se_name (i := 7)) Sa.nil)))) (Se.frz (se_lc (own := [("more", 8)]) O (si_seq (se_peek (i := 4) (se_name (i := 7)))).c (blkOk_by (by first | (show blkC n__law_plan (defScope s__law_plan) _ _ = true; decide +kernel) | rfl)) (fun b => (gt_name (i := 8) (O.blk _ b).nd)) (ts_one fun b => (te_cmp op_notIn_seq o_in (se_name (i := 8)) (se_name (i := 6)))) (fun b => (se_name (i := 8))))))) ss_nil) ss_nil) ss_nil)) (ss_cons (s1_append (i := 4) (se_ty call_tuple_of o_tuple T.n_tuple (Sa.cons (Se.frz (se_bi cr_sortedI o_sorted T.n_sorted (Sa.cons (se_name (i := 6)) Sa.nil))) Sa.nil))) ss_nil)))) (ss_frz 4 (ss_cons (s1_ret (se_ty call_tuple_of o_tuple T.n_tuple (Sa.cons (se_name (i := 4)) Sa.nil))) ss_nil))))))
def f__law_run : Rho → M Oc :=
  (sSeq (sRet (eB gTuple (eCons (eLc [2] (iSeq (eVar 1)) (gtName 2) (fun _ => ret true) (eCallP F__law_draw (eCons (eOp gAdd (eB gLen (eCons (eVar 2) (fun _ => ret []))) (eC (.int 1))) (fun _ => ret [])))) (fun _ => ret [])))) sSkip)
def F__law_run : List D → M D := fun ds => bodyF 0 f__law_run (rho0 true 3 ds)
theorem ok__law_run (T : Txt K mg cl) : Fn P w K mg base 2 "_law_run" p__law_run (spD cl true 1 0 F__law_run) :=
  def_of (N := n__law_run) (k := 1) (ow' := []) (fb := f__law_run) true T.d__law_run sc__law_run rfl (by decide) fun f cdv B up s H E O po hr =>
  (ss_cons (s1_ret (se_ty call_tuple_of o_tuple T.n_tuple (Sa.cons (Se.frz (se_lc (own := [("seen", 2)]) O (si_seq (se_name (i := 1))).c (blkOk_by (by first | (show blkC n__law_run (defScope s__law_run) _ _ = true; decide +kernel) | rfl)) (fun b => (gt_name (i := 2) (O.blk _ b).nd)) ts_nil (fun b => (se_fnP (O.blk _ b) hr (ok__law_draw (cl := cl) T) (Sa.cons (se_op op_addA o_add (se_bi call_len_seq o_len T.n_len (Sa.cons (se_name (i := 2)) Sa.nil)) se_int) Sa.nil))))) Sa.nil))) ss_nil)
def f__law_document : Rho → M Oc :=
  (sSeq (sSet 2 (eLst (fun _ => ret []))) (sSeq (sSet 3 (eLst (fun _ => ret []))) (sSeq (sFor (iRng (eCons (eB gLen (eCons (eVar 0) (fun _ => ret []))) (fun _ => ret []))) (gtName 4) (sSeq (sSet 5 (eLc [7] (iOwn 2) (gtName 7) (tBool (eOp (gIn false) (eVar 7) (eOp gIx (eVar 0) (eVar 4)))) (eVar 7))) (sSeq (sIf (tBool (eOp gEq (eOp gIx (eVar 1) (eVar 4)) (eC (.int 0)))) (sSeq (sApp 3 (eTup (eCons (eVar 4) (fun _ => ret [])))) (sSeq (sIns 2 (eC (.int 0)) (eVar 4)) sSkip)) (sSeq (sSet 6 (ePeek 5 (eOp gSub (eOp gIx (eVar 1) (eVar 4)) (eC (.int 1))))) (sSeq (sApp 3 (eOp gAdd (ePeek 3 (eVar 6)) (eTup (eCons (eVar 4) (fun _ => ret []))))) (sSeq (sIns 2 (eOp gAdd (eIxO 2 (eVar 6)) (eC (.int 1))) (eVar 4)) sSkip)))) sSkip))) (sSeq (sRet (eTup (eCons (eB gTuple (eCons (eVar 2) (fun _ => ret []))) (eCons (eB gTuple (eCons (eVar 3) (fun _ => ret []))) (fun _ => ret []))))) sSkip))))
def F__law_document : List D → M D := fun ds => bodyF 0 f__law_document (rho0 false 8 ds)
theorem ok__law_document (T : Txt K mg cl) : Fn P w K mg base 1 "_law_document" p__law_document (spD cl false 2 0 F__law_document) :=
  def_of (N := n__law_document) (k := 0) (ow' := []) (fb := f__law_document) false T.d__law_document sc__law_document rfl (by decide) fun f cdv B up s H E O po hr =>
  (ss_cons (s1_set (i := 2) (k := 1) O (se_lst Sa.nil)) (ss_cons (s1_set (i := 3) (k := 1) O (se_lst Sa.nil)) (ss_cons (s1_for O po (si_range1 T.n_range (Sa.cons (se_bi call_len_seq o_len T.n_len (Sa.cons (se_name (i := 0)) Sa.nil)) Sa.nil)) (gt_name (i := 4) O.nd) (ss_cons (s1_setLc (i := 5) (own := [("other", 7)]) O (si_own (i := 2)) (blkOk_by (by first | (show blkC n__law_document (defScope s__law_document) _ _ = true; decide +kernel) | rfl)) (fun b => (gt_name (i := 7) (O.blk _ b).nd)) (ts_one fun b => (te_cmp op_in_seq o_in (se_name (i := 7)) (se_ix ix_seq o_ix (se_name (i := 0)) (se_name (i := 4))))) (fun b => (se_name (i := 7))) (sw_true rfl rfl rfl (by decide +kernel))) (ss_cons (s1_if (ow' := [(5, 1), (3, 1), (2, 1)]) (te_cmp ((op_eqD (Nat.lt_of_le_of_lt (Nat.add_le_add_left (by decide) _) O.u)).or op_eq) o_eq (se_ix ix_seq o_ix (se_name (i := 1)) (se_name (i := 4))) se_int) (ss_cons (s1_append (i := 3) (se_tup (Sa.cons (se_name (i := 4)) Sa.nil))) (ss_cons (s1_insert (i := 2) se_int (se_name (i := 4))) ss_nil)) (ss_cons (s1_set (i := 6) (k := 0) O (se_peek (i := 5) (se_op op_sub o_sub (se_ix ix_seq o_ix (se_name (i := 1)) (se_name (i := 4))) se_int))) (ss_cons (s1_append (i := 3) (se_op op_addA o_add (se_peek (i := 3) (se_name (i := 6))) (se_tup (Sa.cons (se_name (i := 4)) Sa.nil)))) (ss_cons (s1_insert (i := 2) (se_op op_addA o_add (se_ixO (i := 2) (se_name (i := 6))) se_int) (se_name (i := 4))) ss_nil)))) (ss_frz 5 ss_nil)))) (ss_frz 2 (ss_frz 3 (ss_cons (s1_ret (se_tup (Sa.cons (se_ty call_tuple_of o_tuple T.n_tuple (Sa.cons (se_name (i := 2)) Sa.nil)) (Sa.cons (se_ty call_tuple_of o_tuple T.n_tuple (Sa.cons (se_name (i := 3)) Sa.nil)) Sa.nil)))) ss_nil))))))
def f__law_alike (rc : List D → M D) : Rho → M Oc :=
  (sSeq (sIf (tBool (eOp (gIsN false) (eVar 1) (eC .none))) (sSeq (sRet (eOp (gIsN false) (eVar 0) (eC .none))) sSkip) sSkip) (sSeq (sIf (tTru (eUn (gIs "bool") (eVar 1))) (sSeq (sRet (vAnd (eUn (gIs "bool") (eVar 0)) (eOp gEq (eVar 0) (eVar 1)))) sSkip) sSkip) (sSeq (sIf (tTru (eUn (gIs "str") (eVar 1))) (sSeq (sRet (vAnd (eUn (gIs "str") (eVar 0)) (eOp gEq (eVar 0) (eVar 1)))) sSkip) sSkip) (sSeq (sIf (tTru (eUn (gIs "int") (eVar 1))) (sSeq (sRet (vAnd (eUn (gIs "int") (eVar 0)) (vAnd (vNot (eUn (gIs "bool") (eVar 0))) (eOp gEq (eVar 0) (eVar 1))))) sSkip) sSkip) (sSeq (sIf (tOr' (tBool (eOp gNe (eUn (gIs "tuple") (eVar 1)) (eUn (gIs "tuple") (eVar 0)))) (tBool (eOp gNe (eUn (gIs "list") (eVar 1)) (eUn (gIs "list") (eVar 0))))) (sSeq (sRet (eC (.bool false))) sSkip) sSkip) (sSeq (sIf (tBool (eOp gNe (eB gLen (eCons (eVar 0) (fun _ => ret []))) (eB gLen (eCons (eVar 1) (fun _ => ret []))))) (sSeq (sRet (eC (.bool false))) sSkip) sSkip) (sSeq (sRet (eB (gAll fun bs => bs.all id) (eCons (eLc [2] (iRng (eCons (eB gLen (eCons (eVar 1) (fun _ => ret []))) (fun _ => ret []))) (gtName 2) (fun _ => ret true) (eCall rc (eCons (eOp gIx (eVar 0) (eVar 2)) (eCons (eOp gIx (eVar 1) (eVar 2)) (fun _ => ret []))))) (fun _ => ret [])))) sSkip)))))))
def F__law_alike : Nat → List D → M D
  | 0 => fun ds => bodyF 0 sNever (rho0 false 3 ds)
  | i + 1 => fun ds => bodyF 0 (f__law_alike (F__law_alike i)) (rho0 false 3 ds)
theorem ok__law_alike (T : Txt K mg cl) : ∀ i, Fn P w K mg base (1 + i) "_law_alike" p__law_alike (spD cl false 2 0 (F__law_alike i))
  | 0 => def_of (N := n__law_alike) (k := 0) (ow' := []) (fb := sNever) false T.d__law_alike sc__law_alike rfl (by decide) fun f cdv B up s H E O po hr => ss_never
  | i + 1 => have ih := ok__law_alike T i
  def_of (N := n__law_alike) (k := 1 + i) (ow' := []) (fb := f__law_alike (F__law_alike i)) false T.d__law_alike sc__law_alike rfl (by decide) fun f cdv B up s H E O po hr =>
  (ss_cons (s1_if (ow' := []) (te_cmp op_isN o_isN (se_name (i := 1)) se_non) (ss_cons (s1_ret (se_cmp op_isN o_isN (se_name (i := 0)) se_non)) ss_nil) ss_nil) (ss_cons (s1_if (ow' := []) (te_tru (se_isi T.n_isinstance T.n_bool (se_name (i := 1)))) (ss_cons (s1_ret (se_and (se_isi T.n_isinstance T.n_bool (se_name (i := 0))) (se_one (se_cmp ((op_eqD (Nat.lt_of_le_of_lt (Nat.add_le_add_left (by decide) _) O.u)).or op_eq) o_eq (se_name (i := 0)) (se_name (i := 1)))))) ss_nil) ss_nil) (ss_cons (s1_if (ow' := []) (te_tru (se_isi T.n_isinstance T.n_str (se_name (i := 1)))) (ss_cons (s1_ret (se_and (se_isi T.n_isinstance T.n_str (se_name (i := 0))) (se_one (se_cmp ((op_eqD (Nat.lt_of_le_of_lt (Nat.add_le_add_left (by decide) _) O.u)).or op_eq) o_eq (se_name (i := 0)) (se_name (i := 1)))))) ss_nil) ss_nil) (ss_cons (s1_if (ow' := []) (te_tru (se_isi T.n_isinstance T.n_int (se_name (i := 1)))) (ss_cons (s1_ret (se_and (se_isi T.n_isinstance T.n_int (se_name (i := 0))) (se_and (se_not (se_isi T.n_isinstance T.n_bool (se_name (i := 0)))) (se_one (se_cmp ((op_eqD (Nat.lt_of_le_of_lt (Nat.add_le_add_left (by decide) _) O.u)).or op_eq) o_eq (se_name (i := 0)) (se_name (i := 1))))))) ss_nil) ss_nil) (ss_cons (s1_if (ow' := []) (Tw.te (tw_or (te_cmp ((op_neD (Nat.lt_of_le_of_lt (Nat.add_le_add_left (by decide) _) O.u)).or op_ne) o_ne (se_isi T.n_isinstance T.n_tuple (se_name (i := 1))) (se_isi T.n_isinstance T.n_tuple (se_name (i := 0)))) (tw_or1 (te_cmp ((op_neD (Nat.lt_of_le_of_lt (Nat.add_le_add_left (by decide) _) O.u)).or op_ne) o_ne (se_isi T.n_isinstance T.n_list (se_name (i := 1))) (se_isi T.n_isinstance T.n_list (se_name (i := 0))))))) (ss_cons (s1_ret se_bl) ss_nil) ss_nil) (ss_cons (s1_if (ow' := []) (te_cmp ((op_neD (Nat.lt_of_le_of_lt (Nat.add_le_add_left (by decide) _) O.u)).or op_ne) o_ne (se_bi call_len_seq o_len T.n_len (Sa.cons (se_name (i := 0)) Sa.nil)) (se_bi call_len_seq o_len T.n_len (Sa.cons (se_name (i := 1)) Sa.nil))) (ss_cons (s1_ret se_bl) ss_nil) ss_nil) (ss_cons (s1_ret (se_bi (cr_all O.c) o_all T.n_all (Sa.cons (Se.frz (se_lc (own := [("k", 2)]) O (si_range1 T.n_range (Sa.cons (se_bi call_len_seq o_len T.n_len (Sa.cons (se_name (i := 1)) Sa.nil)) Sa.nil)).c (blkOk_by (by first | (show blkC n__law_alike (defScope s__law_alike) _ _ = true; decide +kernel) | rfl)) (fun b => (gt_name (i := 2) (O.blk _ b).nd)) ts_nil (fun b => (se_fn (O.blk _ b) hr ih (Sa.cons (se_ix ix_seq o_ix (se_name (i := 0)) (se_name (i := 2))) (Sa.cons (se_ix ix_seq o_ix (se_name (i := 1)) (se_name (i := 2))) Sa.nil)) (hj := by omega))))) Sa.nil))) ss_nil)))))))
def f__law_asked : Rho → M Oc :=
  (sSeq (sAsg (gtTup 2 (gsCons (gtName 2) (gsCons (gtName 3) gsNil))) (eCall F__law_document (eCons (eVar 0) (eCons (eVar 1) (fun _ => ret []))))) (sSeq (sIf (tNot' (tTru (eCall (F__law_alike 12) (eCons (eCall F_names (eCons (eVar 0) (eCons (eVar 1) (fun _ => ret [])))) (eCons (eVar 3) (fun _ => ret [])))))) (sSeq (sRet (eC (.bool false))) sSkip) sSkip) (sSeq (sRet (eCall (F__law_alike 12) (eCons (eCall F_standing (eCons (eVar 0) (eCons (eVar 1) (fun _ => ret [])))) (eCons (eVar 2) (fun _ => ret []))))) sSkip)))
def F__law_asked : List D → M D := fun ds => bodyF 0 f__law_asked (rho0 false 4 ds)
theorem ok__law_asked (T : Txt K mg cl) : Fn P w K mg base 14 "_law_asked" p__law_asked (spD cl false 2 0 F__law_asked) :=
  def_of (N := n__law_asked) (k := 13) (ow' := []) (fb := f__law_asked) false T.d__law_asked sc__law_asked rfl (by decide) fun f cdv B up s H E O po hr =>
  (ss_cons (s1_asg (se_fn O hr (ok__law_document (cl := cl) T) (Sa.cons (se_name (i := 0)) (Sa.cons (se_name (i := 1)) Sa.nil))) (gt_tup O.c (gs_cons (gt_name (i := 2) O.nd) (gs_cons (gt_name (i := 3) O.nd) gs_nil)))) (ss_cons (s1_if (ow' := []) (te_not (te_tru (se_fn O hr (ok__law_alike (cl := cl) T 12) (Sa.cons (se_fn O hr (ok_names (cl := cl) T) (Sa.cons (se_name (i := 0)) (Sa.cons (se_name (i := 1)) Sa.nil))) (Sa.cons (se_name (i := 3)) Sa.nil))))) (ss_cons (s1_ret se_bl) ss_nil) ss_nil) (ss_cons (s1_ret (se_fn O hr (ok__law_alike (cl := cl) T 12) (Sa.cons (se_fn O hr (ok_standing (cl := cl) T) (Sa.cons (se_name (i := 0)) (Sa.cons (se_name (i := 1)) Sa.nil))) (Sa.cons (se_name (i := 2)) Sa.nil)))) ss_nil)))
def f_law (ns : List Int) : Rho → M Oc :=
  (sState 1 ns (eC (.int 0)) (sSeq (sSet 2 (eCallP F__law_draw (eCons (eC (.int 9)) (fun _ => ret [])))) (sSeq (sIf (tBool (eOp gEq (eCallP F__law_draw (eCons (eC (.int 6)) (fun _ => ret []))) (eC (.int 0)))) (sSeq (sSet 2 (eOp gAdd (eC (.int 9)) (eCallP F__law_draw (eCons (eC (.int 32)) (fun _ => ret []))))) sSkip) sSkip) (sSeq (sSet 3 (eCallP F__law_plan (eCons (eVar 2) (fun _ => ret [])))) (sSeq (sSet 4 (eB gMin2 (eCons (eIf (tBool (eOp gLt (eVar 2) (eC (.int 9)))) (eC (.int 62)) (eC (.int 3))) (eCons (eB gMax2 (eCons (eC (.int 2)) (eCons (eOp gSub (eC (.int (ns.length : Nat))) (eC (.int 1))) (fun _ => ret [])))) (fun _ => ret []))))) (sSeq (sSet 5 (eLst (fun _ => ret []))) (sSeq (sFor (iRng (eCons (eC (.int 1)) (eCons (eOp gAdd (eVar 4) (eC (.int 1))) (fun _ => ret [])))) (gtName 6) (sSeq (sApp 5 (eCallS ns F__law_run (eVar 6) (eCons (eVar 3) (fun _ => ret [])))) (sSeq (sIf (tNot' (tTru (eCall F__law_asked (eCons (eVar 3) (eCons (ePeek 5 (eUn gNeg (eC (.int 1)))) (fun _ => ret [])))))) (sSeq (sRet (eC (.bool false))) sSkip) sSkip) sSkip))) (sSeq (sRet (eCall F__law_asked (eCons (eVar 3) (eCons (ePeek 5 (eC (.int 0))) (fun _ => ret []))))) sSkip))))))))
theorem ok_law (T : Txt K mg cl) (keeps : KeepsS n_law f_law) : Fn P w K mg base 15 "law" p_law (lawSp K) :=
  law_defS (k := 14) (cl := cl) (ow' := []) T.d_law sc_law (by decide) rfl (fun f cdv B up s H E a ns O po hr hS =>
  (ss_state (i := 1) O hr hS rfl (fun c h => h.2) (ok__law_state T) se_int (have O := O.st 1 a ns; have hS := (ScrJ.st : ScrJ _ a ns); (ss_cons (s1_set (i := 2) (k := 0) O (se_fnP O hr (ok__law_draw (cl := cl) T) (Sa.cons se_int Sa.nil))) (ss_cons (s1_if (ow' := []) (te_cmp ((op_eqD (Nat.lt_of_le_of_lt (Nat.add_le_add_left (by decide) _) O.u)).or op_eq) o_eq (se_fnP O hr (ok__law_draw (cl := cl) T) (Sa.cons se_int Sa.nil)) se_int) (ss_cons (s1_set (i := 2) (k := 0) O (se_op op_addA o_add se_int (se_fnP O hr (ok__law_draw (cl := cl) T) (Sa.cons se_int Sa.nil)))) ss_nil) ss_nil) (ss_cons (s1_set (i := 3) (k := 0) O (se_fnP O hr (ok__law_plan (cl := cl) T) (Sa.cons (se_name (i := 2)) Sa.nil))) (ss_cons (s1_set (i := 4) (k := 0) O (se_bi (call_min2 O.c) o_min2 T.n_min (Sa.cons (se_if (te_cmp op_lt o_cmp (se_name (i := 2)) se_int) se_int se_int) (Sa.cons (se_bi (call_max2 O.c) o_max2 T.n_max (Sa.cons se_int (Sa.cons (se_op op_sub o_sub (se_lenS hS T.n_len) se_int) Sa.nil))) Sa.nil)))) (ss_cons (s1_set (i := 5) (k := 1) O (se_lst Sa.nil)) (ss_cons (s1_for O po (si_range2 T.n_range (Sa.cons se_int (Sa.cons (se_op op_addA o_add (se_name (i := 4)) se_int) Sa.nil))) (gt_name (i := 6) O.nd) (ss_cons (s1_append (i := 5) (se_fnS O hr hS (ok__law_state T) (ok__law_run (cl := cl) T) (se_name (i := 6)) (Sa.cons (se_name (i := 3)) Sa.nil))) (ss_cons (s1_if (ow' := [(5, 1)]) (te_not (te_tru (se_fn O hr (ok__law_asked (cl := cl) T) (Sa.cons (se_name (i := 3)) (Sa.cons (se_peek (i := 5) (se_un un_neg o_neg se_int)) Sa.nil))))) (ss_cons (s1_ret se_bl) ss_nil) ss_nil) ss_nil))) (ss_cons (s1_ret (se_fn O hr (ok__law_asked (cl := cl) T) (Sa.cons (se_name (i := 3)) (Sa.cons (se_peek (i := 5) se_int) Sa.nil)))) ss_nil)))))))))) keeps
end
theorem txt_mk {K : PySem.W.Frag} {h : Heap} {mg : Str → Option Value} (X : K.In h) (G : h.Ns mainGlobals mg)
    {f0 : Addr} {od0 an0 : Option Addr} {sl0 : Array (Option Value)} {oc0 kV0 dc0 pm0 cd0 ct0 : Value}
    (a0 : PySem.W.nsIn K mainGlobals "is_integer" = some (some (.ref f0))) (l0 : K.lookup f0 = some ⟨oc0, od0, .func (PySem.W.fnOf "is_integer" "is_integer" (defArgs s_is_integer) (defBody s_is_integer) (defScope s_is_integer) .none kV0 dc0 pm0 an0 cd0 ct0), sl0⟩) (c0 : PySem.W.codeIn K cd0 "is_integer" = true) (k0 : PySem.W.keepIn K (.ref f0) = true)
    {f1 : Addr} {od1 an1 : Option Addr} {sl1 : Array (Option Value)} {oc1 kV1 dc1 pm1 cd1 ct1 : Value}
    (a1 : PySem.W.nsIn K mainGlobals "is_number" = some (some (.ref f1))) (l1 : K.lookup f1 = some ⟨oc1, od1, .func (PySem.W.fnOf "is_number" "is_number" (defArgs s_is_number) (defBody s_is_number) (defScope s_is_number) .none kV1 dc1 pm1 an1 cd1 ct1), sl1⟩) (c1 : PySem.W.codeIn K cd1 "is_number" = true) (k1 : PySem.W.keepIn K (.ref f1) = true)
    {f2 : Addr} {od2 an2 : Option Addr} {sl2 : Array (Option Value)} {oc2 kV2 dc2 pm2 cd2 ct2 : Value}
    (a2 : PySem.W.nsIn K mainGlobals "is_list_or_tuple" = some (some (.ref f2))) (l2 : K.lookup f2 = some ⟨oc2, od2, .func (PySem.W.fnOf "is_list_or_tuple" "is_list_or_tuple" (defArgs s_is_list_or_tuple) (defBody s_is_list_or_tuple) (defScope s_is_list_or_tuple) .none kV2 dc2 pm2 an2 cd2 ct2), sl2⟩) (c2 : PySem.W.codeIn K cd2 "is_list_or_tuple" = true) (k2 : PySem.W.keepIn K (.ref f2) = true)
    {f3 : Addr} {od3 an3 : Option Addr} {sl3 : Array (Option Value)} {oc3 kV3 dc3 pm3 cd3 ct3 : Value}
    (a3 : PySem.W.nsIn K mainGlobals "is_plan" = some (some (.ref f3))) (l3 : K.lookup f3 = some ⟨oc3, od3, .func (PySem.W.fnOf "is_plan" "is_plan" (defArgs s_is_plan) (defBody s_is_plan) (defScope s_is_plan) .none kV3 dc3 pm3 an3 cd3 ct3), sl3⟩) (c3 : PySem.W.codeIn K cd3 "is_plan" = true) (k3 : PySem.W.keepIn K (.ref f3) = true)
    {f4 : Addr} {od4 an4 : Option Addr} {sl4 : Array (Option Value)} {oc4 kV4 dc4 pm4 cd4 ct4 : Value}
    (a4 : PySem.W.nsIn K mainGlobals "need_plan" = some (some (.ref f4))) (l4 : K.lookup f4 = some ⟨oc4, od4, .func (PySem.W.fnOf "need_plan" "need_plan" (defArgs s_need_plan) (defBody s_need_plan) (defScope s_need_plan) .none kV4 dc4 pm4 an4 cd4 ct4), sl4⟩) (c4 : PySem.W.codeIn K cd4 "need_plan" = true) (k4 : PySem.W.keepIn K (.ref f4) = true)
    {f5 : Addr} {od5 an5 : Option Addr} {sl5 : Array (Option Value)} {oc5 kV5 dc5 pm5 cd5 ct5 : Value}
    (a5 : PySem.W.nsIn K mainGlobals "is_sights" = some (some (.ref f5))) (l5 : K.lookup f5 = some ⟨oc5, od5, .func (PySem.W.fnOf "is_sights" "is_sights" (defArgs s_is_sights) (defBody s_is_sights) (defScope s_is_sights) .none kV5 dc5 pm5 an5 cd5 ct5), sl5⟩) (c5 : PySem.W.codeIn K cd5 "is_sights" = true) (k5 : PySem.W.keepIn K (.ref f5) = true)
    {f6 : Addr} {od6 an6 : Option Addr} {sl6 : Array (Option Value)} {oc6 kV6 dc6 pm6 cd6 ct6 : Value}
    (a6 : PySem.W.nsIn K mainGlobals "closed" = some (some (.ref f6))) (l6 : K.lookup f6 = some ⟨oc6, od6, .func (PySem.W.fnOf "closed" "closed" (defArgs s_closed) (defBody s_closed) (defScope s_closed) .none kV6 dc6 pm6 an6 cd6 ct6), sl6⟩) (c6 : PySem.W.codeIn K cd6 "closed" = true) (k6 : PySem.W.keepIn K (.ref f6) = true)
    {f7 : Addr} {od7 an7 : Option Addr} {sl7 : Array (Option Value)} {oc7 kV7 dc7 pm7 cd7 ct7 : Value}
    (a7 : PySem.W.nsIn K mainGlobals "items_of" = some (some (.ref f7))) (l7 : K.lookup f7 = some ⟨oc7, od7, .func (PySem.W.fnOf "items_of" "items_of" (defArgs s_items_of) (defBody s_items_of) (defScope s_items_of) .none kV7 dc7 pm7 an7 cd7 ct7), sl7⟩) (c7 : PySem.W.codeIn K cd7 "items_of" = true) (k7 : PySem.W.keepIn K (.ref f7) = true)
    {f8 : Addr} {od8 an8 : Option Addr} {sl8 : Array (Option Value)} {oc8 kV8 dc8 pm8 cd8 ct8 : Value}
    (a8 : PySem.W.nsIn K mainGlobals "is_run" = some (some (.ref f8))) (l8 : K.lookup f8 = some ⟨oc8, od8, .func (PySem.W.fnOf "is_run" "is_run" (defArgs s_is_run) (defBody s_is_run) (defScope s_is_run) .none kV8 dc8 pm8 an8 cd8 ct8), sl8⟩) (c8 : PySem.W.codeIn K cd8 "is_run" = true) (k8 : PySem.W.keepIn K (.ref f8) = true)
    {f9 : Addr} {od9 an9 : Option Addr} {sl9 : Array (Option Value)} {oc9 kV9 dc9 pm9 cd9 ct9 : Value}
    (a9 : PySem.W.nsIn K mainGlobals "need_run" = some (some (.ref f9))) (l9 : K.lookup f9 = some ⟨oc9, od9, .func (PySem.W.fnOf "need_run" "need_run" (defArgs s_need_run) (defBody s_need_run) (defScope s_need_run) .none kV9 dc9 pm9 an9 cd9 ct9), sl9⟩) (c9 : PySem.W.codeIn K cd9 "need_run" = true) (k9 : PySem.W.keepIn K (.ref f9) = true)
    {f10 : Addr} {od10 an10 : Option Addr} {sl10 : Array (Option Value)} {oc10 kV10 dc10 pm10 cd10 ct10 : Value}
    (a10 : PySem.W.nsIn K mainGlobals "names" = some (some (.ref f10))) (l10 : K.lookup f10 = some ⟨oc10, od10, .func (PySem.W.fnOf "names" "names" (defArgs s_names) (defBody s_names) (defScope s_names) .none kV10 dc10 pm10 an10 cd10 ct10), sl10⟩) (c10 : PySem.W.codeIn K cd10 "names" = true) (k10 : PySem.W.keepIn K (.ref f10) = true)
    {f11 : Addr} {od11 an11 : Option Addr} {sl11 : Array (Option Value)} {oc11 kV11 dc11 pm11 cd11 ct11 : Value}
    (a11 : PySem.W.nsIn K mainGlobals "chains_at" = some (some (.ref f11))) (l11 : K.lookup f11 = some ⟨oc11, od11, .func (PySem.W.fnOf "chains_at" "chains_at" (defArgs s_chains_at) (defBody s_chains_at) (defScope s_chains_at) .none kV11 dc11 pm11 an11 cd11 ct11), sl11⟩) (c11 : PySem.W.codeIn K cd11 "chains_at" = true) (k11 : PySem.W.keepIn K (.ref f11) = true)
    {f12 : Addr} {od12 an12 : Option Addr} {sl12 : Array (Option Value)} {oc12 kV12 dc12 pm12 cd12 ct12 : Value}
    (a12 : PySem.W.nsIn K mainGlobals "standing" = some (some (.ref f12))) (l12 : K.lookup f12 = some ⟨oc12, od12, .func (PySem.W.fnOf "standing" "standing" (defArgs s_standing) (defBody s_standing) (defScope s_standing) .none kV12 dc12 pm12 an12 cd12 ct12), sl12⟩) (c12 : PySem.W.codeIn K cd12 "standing" = true) (k12 : PySem.W.keepIn K (.ref f12) = true)
    {f13 : Addr} {od13 an13 : Option Addr} {sl13 : Array (Option Value)} {oc13 kV13 dc13 pm13 cd13 ct13 : Value}
    (a13 : PySem.W.nsIn K mainGlobals "order_at" = some (some (.ref f13))) (l13 : K.lookup f13 = some ⟨oc13, od13, .func (PySem.W.fnOf "order_at" "order_at" (defArgs s_order_at) (defBody s_order_at) (defScope s_order_at) .none kV13 dc13 pm13 an13 cd13 ct13), sl13⟩) (c13 : PySem.W.codeIn K cd13 "order_at" = true) (k13 : PySem.W.keepIn K (.ref f13) = true)
    {f14 : Addr} {od14 an14 : Option Addr} {sl14 : Array (Option Value)} {oc14 kV14 dc14 pm14 cd14 ct14 : Value}
    (a14 : PySem.W.nsIn K mainGlobals "seen_of" = some (some (.ref f14))) (l14 : K.lookup f14 = some ⟨oc14, od14, .func (PySem.W.fnOf "seen_of" "seen_of" (defArgs s_seen_of) (defBody s_seen_of) (defScope s_seen_of) .none kV14 dc14 pm14 an14 cd14 ct14), sl14⟩) (c14 : PySem.W.codeIn K cd14 "seen_of" = true) (k14 : PySem.W.keepIn K (.ref f14) = true)
    {f15 : Addr} {od15 an15 : Option Addr} {sl15 : Array (Option Value)} {oc15 kV15 dc15 pm15 cd15 ct15 : Value}
    (a15 : PySem.W.nsIn K mainGlobals "neighbours" = some (some (.ref f15))) (l15 : K.lookup f15 = some ⟨oc15, od15, .func (PySem.W.fnOf "neighbours" "neighbours" (defArgs s_neighbours) (defBody s_neighbours) (defScope s_neighbours) .none kV15 dc15 pm15 an15 cd15 ct15), sl15⟩) (c15 : PySem.W.codeIn K cd15 "neighbours" = true) (k15 : PySem.W.keepIn K (.ref f15) = true)
    {f16 : Addr} {od16 an16 : Option Addr} {sl16 : Array (Option Value)} {oc16 kV16 dc16 pm16 cd16 ct16 : Value}
    (a16 : PySem.W.nsIn K mainGlobals "placed" = some (some (.ref f16))) (l16 : K.lookup f16 = some ⟨oc16, od16, .func (PySem.W.fnOf "placed" "placed" (defArgs s_placed) (defBody s_placed) (defScope s_placed) .none kV16 dc16 pm16 an16 cd16 ct16), sl16⟩) (c16 : PySem.W.codeIn K cd16 "placed" = true) (k16 : PySem.W.keepIn K (.ref f16) = true)
    {f17 : Addr} {od17 an17 : Option Addr} {sl17 : Array (Option Value)} {oc17 kV17 dc17 pm17 cd17 ct17 : Value}
    (a17 : PySem.W.nsIn K mainGlobals "put_behind" = some (some (.ref f17))) (l17 : K.lookup f17 = some ⟨oc17, od17, .func (PySem.W.fnOf "put_behind" "put_behind" (defArgs s_put_behind) (defBody s_put_behind) (defScope s_put_behind) .none kV17 dc17 pm17 an17 cd17 ct17), sl17⟩) (c17 : PySem.W.codeIn K cd17 "put_behind" = true) (k17 : PySem.W.keepIn K (.ref f17) = true)
    {f18 : Addr} {od18 an18 : Option Addr} {sl18 : Array (Option Value)} {oc18 kV18 dc18 pm18 cd18 ct18 : Value}
    (a18 : PySem.W.nsIn K mainGlobals "_law_state" = some (some (.ref f18))) (l18 : K.lookup f18 = some ⟨oc18, od18, .func (PySem.W.fnOf "_law_state" "_law_state" (defArgs s__law_state) (defBody s__law_state) (defScope s__law_state) .none kV18 dc18 pm18 an18 cd18 ct18), sl18⟩) (c18 : PySem.W.codeIn K cd18 "_law_state" = true) (k18 : PySem.W.keepIn K (.ref f18) = true)
    {f19 : Addr} {od19 an19 : Option Addr} {sl19 : Array (Option Value)} {oc19 kV19 dc19 pm19 cd19 ct19 : Value}
    (a19 : PySem.W.nsIn K mainGlobals "_law_draw" = some (some (.ref f19))) (l19 : K.lookup f19 = some ⟨oc19, od19, .func (PySem.W.fnOf "_law_draw" "_law_draw" (defArgs s__law_draw) (defBody s__law_draw) (defScope s__law_draw) .none kV19 dc19 pm19 an19 cd19 ct19), sl19⟩) (c19 : PySem.W.codeIn K cd19 "_law_draw" = true) (k19 : PySem.W.keepIn K (.ref f19) = true)
    {f20 : Addr} {od20 an20 : Option Addr} {sl20 : Array (Option Value)} {oc20 kV20 dc20 pm20 cd20 ct20 : Value}
    (a20 : PySem.W.nsIn K mainGlobals "_law_plan" = some (some (.ref f20))) (l20 : K.lookup f20 = some ⟨oc20, od20, .func (PySem.W.fnOf "_law_plan" "_law_plan" (defArgs s__law_plan) (defBody s__law_plan) (defScope s__law_plan) .none kV20 dc20 pm20 an20 cd20 ct20), sl20⟩) (c20 : PySem.W.codeIn K cd20 "_law_plan" = true) (k20 : PySem.W.keepIn K (.ref f20) = true)
    {f21 : Addr} {od21 an21 : Option Addr} {sl21 : Array (Option Value)} {oc21 kV21 dc21 pm21 cd21 ct21 : Value}
    (a21 : PySem.W.nsIn K mainGlobals "_law_run" = some (some (.ref f21))) (l21 : K.lookup f21 = some ⟨oc21, od21, .func (PySem.W.fnOf "_law_run" "_law_run" (defArgs s__law_run) (defBody s__law_run) (defScope s__law_run) .none kV21 dc21 pm21 an21 cd21 ct21), sl21⟩) (c21 : PySem.W.codeIn K cd21 "_law_run" = true) (k21 : PySem.W.keepIn K (.ref f21) = true)
    {f22 : Addr} {od22 an22 : Option Addr} {sl22 : Array (Option Value)} {oc22 kV22 dc22 pm22 cd22 ct22 : Value}
    (a22 : PySem.W.nsIn K mainGlobals "_law_document" = some (some (.ref f22))) (l22 : K.lookup f22 = some ⟨oc22, od22, .func (PySem.W.fnOf "_law_document" "_law_document" (defArgs s__law_document) (defBody s__law_document) (defScope s__law_document) .none kV22 dc22 pm22 an22 cd22 ct22), sl22⟩) (c22 : PySem.W.codeIn K cd22 "_law_document" = true) (k22 : PySem.W.keepIn K (.ref f22) = true)
    {f23 : Addr} {od23 an23 : Option Addr} {sl23 : Array (Option Value)} {oc23 kV23 dc23 pm23 cd23 ct23 : Value}
    (a23 : PySem.W.nsIn K mainGlobals "_law_alike" = some (some (.ref f23))) (l23 : K.lookup f23 = some ⟨oc23, od23, .func (PySem.W.fnOf "_law_alike" "_law_alike" (defArgs s__law_alike) (defBody s__law_alike) (defScope s__law_alike) .none kV23 dc23 pm23 an23 cd23 ct23), sl23⟩) (c23 : PySem.W.codeIn K cd23 "_law_alike" = true) (k23 : PySem.W.keepIn K (.ref f23) = true)
    {f24 : Addr} {od24 an24 : Option Addr} {sl24 : Array (Option Value)} {oc24 kV24 dc24 pm24 cd24 ct24 : Value}
    (a24 : PySem.W.nsIn K mainGlobals "_law_asked" = some (some (.ref f24))) (l24 : K.lookup f24 = some ⟨oc24, od24, .func (PySem.W.fnOf "_law_asked" "_law_asked" (defArgs s__law_asked) (defBody s__law_asked) (defScope s__law_asked) .none kV24 dc24 pm24 an24 cd24 ct24), sl24⟩) (c24 : PySem.W.codeIn K cd24 "_law_asked" = true) (k24 : PySem.W.keepIn K (.ref f24) = true)
    {f25 : Addr} {od25 an25 : Option Addr} {sl25 : Array (Option Value)} {oc25 kV25 dc25 pm25 cd25 ct25 : Value}
    (a25 : PySem.W.nsIn K mainGlobals "law" = some (some (.ref f25))) (l25 : K.lookup f25 = some ⟨oc25, od25, .func (PySem.W.fnOf "law" "law" (defArgs s_law) (defBody s_law) (defScope s_law) .none kV25 dc25 pm25 an25 cd25 ct25), sl25⟩) (c25 : PySem.W.codeIn K cd25 "law" = true) (k25 : PySem.W.keepIn K (.ref f25) = true)
    {t_MOST_ITEMS : Tok} (e_MOST_ITEMS : PySem.W.nsIn K mainGlobals "MOST_ITEMS" = some (some (.int 40 t_MOST_ITEMS)))
    (z_all : PySem.W.nsIn K mainGlobals "all" = some none)
    (z_bool : PySem.W.nsIn K mainGlobals "bool" = some none)
    (z_enumerate : PySem.W.nsIn K mainGlobals "enumerate" = some none)
    (z_int : PySem.W.nsIn K mainGlobals "int" = some none)
    (z_isinstance : PySem.W.nsIn K mainGlobals "isinstance" = some none)
    (z_len : PySem.W.nsIn K mainGlobals "len" = some none)
    (z_list : PySem.W.nsIn K mainGlobals "list" = some none)
    (z_max : PySem.W.nsIn K mainGlobals "max" = some none)
    (z_min : PySem.W.nsIn K mainGlobals "min" = some none)
    (z_range : PySem.W.nsIn K mainGlobals "range" = some none)
    (z_sorted : PySem.W.nsIn K mainGlobals "sorted" = some none)
    (z_str : PySem.W.nsIn K mainGlobals "str" = some none)
    (z_tuple : PySem.W.nsIn K mainGlobals "tuple" = some none)
    (z_zip : PySem.W.nsIn K mainGlobals "zip" = some none)
    : Txt K mg (fun n => 0) := by
  generalize hcl : ((fun n => 0 : String → Addr)) = cl
  exact ⟨(df_mk X G a0 l0 c0 k0 fun _ _ _ _ _ _ us hl => match us, hl with | [_], _ => rfl),
    (df_mk X G a1 l1 c1 k1 fun _ _ _ _ _ _ us hl => match us, hl with | [_, _, _], _ => rfl),
    (df_mk X G a2 l2 c2 k2 fun _ _ _ _ _ _ us hl => match us, hl with | [_], _ => rfl),
    (df_mk X G a3 l3 c3 k3 fun _ _ _ _ _ _ us hl => match us, hl with | [_], _ => rfl),
    (df_mk X G a4 l4 c4 k4 fun _ _ _ _ _ _ us hl => match us, hl with | [_], _ => rfl),
    (df_mk X G a5 l5 c5 k5 fun _ _ _ _ _ _ us hl => match us, hl with | [_], _ => rfl),
    (df_mk X G a6 l6 c6 k6 fun _ _ _ _ _ _ us hl => match us, hl with | [_], _ => rfl),
    (df_mk X G a7 l7 c7 k7 fun _ _ _ _ _ _ us hl => match us, hl with | [_], _ => rfl),
    (df_mk X G a8 l8 c8 k8 fun _ _ _ _ _ _ us hl => match us, hl with | [_, _], _ => rfl),
    (df_mk X G a9 l9 c9 k9 fun _ _ _ _ _ _ us hl => match us, hl with | [_, _], _ => rfl),
    (df_mk X G a10 l10 c10 k10 fun _ _ _ _ _ _ us hl => match us, hl with | [_, _], _ => rfl),
    (df_mk X G a11 l11 c11 k11 fun _ _ _ _ _ _ us hl => match us, hl with | [_, _], _ => rfl),
    (df_mk X G a12 l12 c12 k12 fun _ _ _ _ _ _ us hl => match us, hl with | [_, _], _ => rfl),
    (df_mk X G a13 l13 c13 k13 fun _ _ _ _ _ _ us hl => match us, hl with | [_, _], _ => rfl),
    (df_mk X G a14 l14 c14 k14 fun _ _ _ _ _ _ us hl => match us, hl with | [_, _, _], _ => rfl),
    (df_mk X G a15 l15 c15 k15 fun _ _ _ _ _ _ us hl => match us, hl with | [_, _], _ => rfl),
    (df_mk X G a16 l16 c16 k16 fun _ _ _ _ _ _ us hl => match us, hl with | [_], _ => rfl),
    (df_mk X G a17 l17 c17 k17 fun _ _ _ _ _ _ us hl => match us, hl with | [_, _, _], _ => rfl),
    (df_mk X G a18 l18 c18 k18 fun _ _ _ _ _ _ us hl => match us, hl with | [_, _], _ => rfl),
    (df_mk X G a19 l19 c19 k19 fun _ _ _ _ _ _ us hl => match us, hl with | [_, _], _ => rfl),
    (df_mk X G a20 l20 c20 k20 fun _ _ _ _ _ _ us hl => match us, hl with | [_, _], _ => rfl),
    (df_mk X G a21 l21 c21 k21 fun _ _ _ _ _ _ us hl => match us, hl with | [_, _], _ => rfl),
    (df_mk X G a22 l22 c22 k22 fun _ _ _ _ _ _ us hl => match us, hl with | [_, _], _ => rfl),
    (df_mk X G a23 l23 c23 k23 fun _ _ _ _ _ _ us hl => match us, hl with | [_, _], _ => rfl),
    (df_mk X G a24 l24 c24 k24 fun _ _ _ _ _ _ us hl => match us, hl with | [_, _], _ => rfl),
    (df_mk X G a25 l25 c25 k25 fun _ _ _ _ _ _ us hl => match us, hl with | [_], _ => rfl),
    (⟨_, PySem.W.mg_of X G e_MOST_ITEMS⟩),
    (PySem.W.mg_none_of X G z_all),
    (PySem.W.mg_none_of X G z_bool),
    (PySem.W.mg_none_of X G z_enumerate),
    (PySem.W.mg_none_of X G z_int),
    (PySem.W.mg_none_of X G z_isinstance),
    (PySem.W.mg_none_of X G z_len),
    (PySem.W.mg_none_of X G z_list),
    (PySem.W.mg_none_of X G z_max),
    (PySem.W.mg_none_of X G z_min),
    (PySem.W.mg_none_of X G z_range),
    (PySem.W.mg_none_of X G z_sorted),
    (PySem.W.mg_none_of X G z_str),
    (PySem.W.mg_none_of X G z_tuple),
    (PySem.W.mg_none_of X G z_zip)⟩
end K23

end
section
set_option Elab.async false
set_option linter.all false
set_option maxRecDepth 100000
set_option maxHeartbeats 2000000
namespace K23
open PySem PySem.Spec L2 DL
theorem ev_is_integer (x : Int) : F_is_integer [.int x] = DL.ret (.bool true) := by
  funext P
  rfl
theorem ev_is_number (lo hi x : Int) : F_is_number [.int lo, .int hi, .int x] = DL.ret (.bool (decide (lo ≤ x) && decide (x ≤ hi))) := by
  refine eq_of fun P => ?_
  simp (decide := true) only [sSeq, sRet, sSkip, sSet, sIf, sAsg, sApp, sExt, sFor, eVar, eC, eOp, eUn, eB, eCons, eCall, eCallP, eTup, eLst, vAnd, vNot, tBool, tTru, tNot', tOr', tAnd', iRng, iSeq, iEnu, ePeek, bodyF, rho0, tr_bnd, tr_ret, tr_lift, tr_noP, tr_noX, gLe, gLt, gGt, gGe, gCmp, truD, enuD, rngD, gtName, gtTup, gsCons, gsNil, Option.map_some, Option.bind_some, Option.bind_eq_bind, wipeD, List.map_cons, List.map_nil, List.getElem?_cons_zero, List.getElem?_cons_succ, List.cons_append, List.nil_append, Bool.false_eq_true, if_false, if_true, List.length_cons, List.length_nil, List.set_cons_zero, List.set_cons_succ, List.replicate, Bool.not_true, Bool.not_false, reduceIte, F_is_number, f_is_number, eChain, ev_is_integer]
  cases h : decide (lo ≤ x) <;> simp [tr_bnd, tr_ret, tr_lift, h]
theorem ev_is_lt (d : D) : F_is_list_or_tuple [d] = DL.ret (.bool (isT "list" d || isT "tuple" d)) := by
  funext P
  rfl
theorem seq_is {d : D} {ds : List D} (h : d = .list ds ∨ d = .tuple ds) : (isT "list" d || isT "tuple" d) = true ∧ seqD d = some ds ∧ gLen [d] = some (.int ds.length) := by
  rcases h with rfl | rfl
  · exact ⟨rfl, rfl, rfl⟩
  · exact ⟨rfl, rfl, rfl⟩
theorem bools_true {α : Type} : ∀ l : List α, boolsOf (l.map fun _ => PyData.bool true) = some (l.map fun _ => true)
  | [] => rfl
  | a :: l => by rw [List.map_cons, boolsOf, bools_true l]; rfl
theorem filterMap_il (l : List Int) (g : Int → D) : (il l).filterMap (fun d => match d with | .int x => some (g x) | _ => none) = l.map g := by
  induction l with
  | nil => rfl
  | cons a l ih => rw [List.map_cons]; show _ :: _ = _; rw [← ih]
theorem gAll_true {α : Type} (l : List α) : gAll (fun bs => bs.all id) [.list (l.map fun _ => PyData.bool true)] = some (.bool true) := by
  simp only [gAll, bools_true, Option.map_some]
  congr 2
  simp
theorem ev_is_sights {d : D} {ds : List D} {rs : List (List Int)} (hd : d = .list ds ∨ d = .tuple ds) (R : RowsD ds rs) (hl : rs.length ≤ 40) (w : Wf rs) (hs : ∀ l ∈ rs, l.length ≤ 50) : F_is_sights [d] = DL.ret (.bool true) := by
  obtain ⟨h1, h2, h3⟩ := seq_is hd
  refine eq_of fun P => ?_
  have h40 : decide ((40 : Int) < (ds.length : Int)) = false := by rw [R.len]; exact decide_eq_false (by omega)
  simp (decide := true) only [sSeq, sRet, sSkip, sSet, sIf, sAsg, sApp, sExt, sFor, eVar, eC, eOp, eUn, eB, eCons, eCall, eCallP, eTup, eLst, vAnd, vNot, tBool, tTru, tNot', tOr', tAnd', iRng, iSeq, iEnu, ePeek, bodyF, rho0, tr_bnd, tr_ret, tr_lift, tr_noP, tr_noX, gLe, gLt, gGt, gGe, gCmp, truD, enuD, rngD, gtName, gtTup, gsCons, gsNil, Option.map_some, Option.bind_some, Option.bind_eq_bind, wipeD, List.map_cons, List.map_nil, List.getElem?_cons_zero, List.getElem?_cons_succ, List.cons_append, List.nil_append, Bool.false_eq_true, if_false, if_true, List.length_cons, List.length_nil, List.set_cons_zero, List.set_cons_succ, List.replicate, Bool.not_true, Bool.not_false, reduceIte, F_is_sights, f_is_sights, ev_is_lt, h1, h2, h3, h40]
  refine tr_for (fun i ρ P' => P' = P ∧ ∃ x y z, ρ = [some d, x, y, z]) ⟨rfl, _, _, _, rfl⟩ (fun i e ρ P' he ⟨hP, x, y, z, hρ⟩ => ?_) (fun ρ P' ⟨hP, x, y, z, hρ⟩ => ?_)
  · subst hP hρ
    rw [enumD_get, Option.map_eq_some_iff] at he
    obtain ⟨dr, hdr, rfl⟩ := he
    obtain ⟨l, hl2, rd⟩ := R.row i dr hdr
    obtain ⟨r1, r2, r3⟩ := seq_is rd
    refine ⟨[some d, some (.int i), some dr, z], rfl, ?_⟩
    simp (decide := true) only [sSeq, sRet, sSkip, sSet, sIf, sAsg, sApp, sExt, sFor, eVar, eC, eOp, eUn, eB, eCons, eCall, eCallP, eTup, eLst, vAnd, vNot, tBool, tTru, tNot', tOr', tAnd', iRng, iSeq, iEnu, ePeek, bodyF, rho0, tr_bnd, tr_ret, tr_lift, tr_noP, tr_noX, gLe, gLt, gGt, gGe, gCmp, truD, enuD, rngD, gtName, gtTup, gsCons, gsNil, Option.map_some, Option.bind_some, Option.bind_eq_bind, wipeD, List.map_cons, List.map_nil, List.getElem?_cons_zero, List.getElem?_cons_succ, List.cons_append, List.nil_append, Bool.false_eq_true, if_false, if_true, List.length_cons, List.length_nil, List.set_cons_zero, List.set_cons_succ, List.replicate, Bool.not_true, Bool.not_false, reduceIte, ev_is_lt, r1, r2, r3]
    refine tr_lc ?_
    simp (decide := true) only [sSeq, sRet, sSkip, sSet, sIf, sAsg, sApp, sExt, sFor, eVar, eC, eOp, eUn, eB, eCons, eCall, eCallP, eTup, eLst, vAnd, vNot, tBool, tTru, tNot', tOr', tAnd', iRng, iSeq, iEnu, ePeek, bodyF, rho0, tr_bnd, tr_ret, tr_lift, tr_noP, tr_noX, gLe, gLt, gGt, gGe, gCmp, truD, enuD, rngD, gtName, gtTup, gsCons, gsNil, Option.map_some, Option.bind_some, Option.bind_eq_bind, wipeD, List.map_cons, List.map_nil, List.getElem?_cons_zero, List.getElem?_cons_succ, List.cons_append, List.nil_append, Bool.false_eq_true, if_false, if_true, List.length_cons, List.length_nil, List.set_cons_zero, List.set_cons_succ, List.replicate, Bool.not_true, Bool.not_false, reduceIte, r2]
    rw [map_pure (f := fun d => match d with | .int x => some (.bool true) | _ => none)]
    · rw [filterMap_il l fun _ => .bool true]
      refine ⟨?_, ?_⟩
      · rw [List.length_map]; have := hs l (List.mem_of_getElem? hl2); omega
      · simp (decide := true) only [sSeq, sRet, sSkip, sSet, sIf, sAsg, sApp, sExt, sFor, eVar, eC, eOp, eUn, eB, eCons, eCall, eCallP, eTup, eLst, vAnd, vNot, tBool, tTru, tNot', tOr', tAnd', iRng, iSeq, iEnu, ePeek, bodyF, rho0, tr_bnd, tr_ret, tr_lift, tr_noP, tr_noX, gLe, gLt, gGt, gGe, gCmp, truD, enuD, rngD, gtName, gtTup, gsCons, gsNil, Option.map_some, Option.bind_some, Option.bind_eq_bind, wipeD, List.map_cons, List.map_nil, List.getElem?_cons_zero, List.getElem?_cons_succ, List.cons_append, List.nil_append, Bool.false_eq_true, if_false, if_true, List.length_cons, List.length_nil, List.set_cons_zero, List.set_cons_succ, List.replicate, Bool.not_true, Bool.not_false, reduceIte, gAll_true]
        exact ⟨trivial, _, _, _, rfl⟩
    · intro e he
      obtain ⟨x, hx, rfl⟩ := List.mem_map.mp he
      refine eq_of fun P => ?_
      obtain ⟨b1, b2⟩ := w i l hl2 x hx
      simp (decide := true) only [sSeq, sRet, sSkip, sSet, sIf, sAsg, sApp, sExt, sFor, eVar, eC, eOp, eUn, eB, eCons, eCall, eCallP, eTup, eLst, vAnd, vNot, tBool, tTru, tNot', tOr', tAnd', iRng, iSeq, iEnu, ePeek, bodyF, rho0, tr_bnd, tr_ret, tr_lift, tr_noP, tr_noX, gLe, gLt, gGt, gGe, gCmp, truD, enuD, rngD, gtName, gtTup, gsCons, gsNil, Option.map_some, Option.bind_some, Option.bind_eq_bind, wipeD, List.map_cons, List.map_nil, List.getElem?_cons_zero, List.getElem?_cons_succ, List.cons_append, List.nil_append, Bool.false_eq_true, if_false, if_true, List.length_cons, List.length_nil, List.set_cons_zero, List.set_cons_succ, List.replicate, Bool.not_true, Bool.not_false, reduceIte, lcStep, DL.gSub, ev_is_number, decide_eq_true b1, decide_eq_true (show x ≤ (i : Int) - 1 by omega), Bool.and_true]
  · subst hP hρ
    exact ⟨rfl, rfl⟩
theorem bitOr_nat (a b : Nat) : Builtin.bitOr (a : Int) (b : Int) = ((a ||| b : Nat) : Int) := by
  rw [PyProof.Rows.bitOr_and, PyProof.Rows.bitAnd_pp (Int.natCast_nonneg a) (Int.natCast_nonneg b), Int.toNat_natCast, Int.toNat_natCast]
  have := PyProof.Rows.nat_or_add_and a b
  omega
theorem bit_test (n k : Nat) : (Builtin.bitAnd ((n : Int) / 2 ^ k) 1 != 0) = n.testBit k := by
  rw [PyProof.Rows.bitAnd_m1, Nat.testBit_eq_decide_div_mod_eq]
  have e : ((n : Int) / 2 ^ k) % 2 = ((n / 2 ^ k % 2 : Nat) : Int) := by
    rw [Int.natCast_emod, Int.natCast_ediv, Int.natCast_pow]; rfl
  rw [e]
  have := Nat.mod_two_eq_zero_or_one (n / 2 ^ k)
  rcases this with h | h <;> rw [h] <;> rfl
def fItem (n : Nat) : D → Option D | .int x => if n.testBit x.toNat = true then some (.int x) else none | _ => none
def fMask : D → Option D | .int x => some (.tuple (il (itemsN x.toNat))) | _ => none
theorem filter_items (n : Nat) : ∀ l : List Nat, (l.map fun (i : Nat) => PyData.int (0 + (i : Int))).filterMap (fItem n) = il ((l.filter fun x => n.testBit x).map Int.ofNat)
  | [] => rfl
  | a :: l => by
    rw [List.map_cons, List.filterMap_cons, List.filter_cons, filter_items n l]
    simp only [fItem, Int.zero_add, Int.toNat_natCast]
    cases h : n.testBit a <;> simp [il]
theorem ev_items_of (n : Nat) (hn : bitsN n ≤ 1000000) : F_items_of [.int (n : Int)] = DL.ret (.tuple (il (itemsN n))) := by
  refine eq_of fun P => ?_
  have h0 : okR ((bitsN n : Nat) : Int) = true := by unfold okR; simp; omega
  simp (decide := true) only [sSeq, sRet, sSkip, sSet, sIf, sAsg, sApp, sExt, sFor, eVar, eC, eOp, eUn, eB, eCons, eCall, eCallP, eTup, eLst, vAnd, vNot, tBool, tTru, tNot', tOr', tAnd', iRng, iSeq, iEnu, ePeek, bodyF, rho0, tr_bnd, tr_ret, tr_lift, tr_noP, tr_noX, gLe, gLt, gGt, gGe, gCmp, truD, enuD, rngD, gtName, gtTup, gsCons, gsNil, Option.map_some, Option.bind_some, Option.bind_eq_bind, wipeD, List.map_cons, List.map_nil, List.getElem?_cons_zero, List.getElem?_cons_succ, List.cons_append, List.nil_append, Bool.false_eq_true, if_false, if_true, List.length_cons, List.length_nil, List.set_cons_zero, List.set_cons_succ, List.replicate, Bool.not_true, Bool.not_false, reduceIte, F_items_of, f_items_of, gBits]
  refine tr_lc ?_
  have e : Builtin.Int.intBits (n : Int) = bitsN n := rfl
  simp (decide := true) only [sSeq, sRet, sSkip, sSet, sIf, sAsg, sApp, sExt, sFor, eVar, eC, eOp, eUn, eB, eCons, eCall, eCallP, eTup, eLst, vAnd, vNot, tBool, tTru, tNot', tOr', tAnd', iRng, iSeq, iEnu, ePeek, bodyF, rho0, tr_bnd, tr_ret, tr_lift, tr_noP, tr_noX, gLe, gLt, gGt, gGe, gCmp, truD, enuD, rngD, gtName, gtTup, gsCons, gsNil, Option.map_some, Option.bind_some, Option.bind_eq_bind, wipeD, List.map_cons, List.map_nil, List.getElem?_cons_zero, List.getElem?_cons_succ, List.cons_append, List.nil_append, Bool.false_eq_true, if_false, if_true, List.length_cons, List.length_nil, List.set_cons_zero, List.set_cons_succ, List.replicate, Bool.not_true, Bool.not_false, reduceIte, gBits, e, h0, Int.toNat_natCast]
  rw [map_pure (f := fItem n)]
  · unfold intsD
    rw [filter_items]
    refine ⟨?_, rfl, rfl⟩
    have h1 := List.length_filter_le (fun x => n.testBit x) (List.range (bitsN n))
    rw [List.length_range] at h1
    simp only [List.length_map]
    omega
  · intro d hd
    unfold intsD at hd
    obtain ⟨k, hk, rfl⟩ := List.mem_map.mp hd
    refine eq_of fun P => ?_
    simp (decide := true) only [sSeq, sRet, sSkip, sSet, sIf, sAsg, sApp, sExt, sFor, eVar, eC, eOp, eUn, eB, eCons, eCall, eCallP, eTup, eLst, vAnd, vNot, tBool, tTru, tNot', tOr', tAnd', iRng, iSeq, iEnu, ePeek, bodyF, rho0, tr_bnd, tr_ret, tr_lift, tr_noP, tr_noX, gLe, gLt, gGt, gGe, gCmp, truD, enuD, rngD, gtName, gtTup, gsCons, gsNil, Option.map_some, Option.bind_some, Option.bind_eq_bind, wipeD, List.map_cons, List.map_nil, List.getElem?_cons_zero, List.getElem?_cons_succ, List.cons_append, List.nil_append, Bool.false_eq_true, if_false, if_true, List.length_cons, List.length_nil, List.set_cons_zero, List.set_cons_succ, List.replicate, Bool.not_true, Bool.not_false, reduceIte, lcStep, fItem, gShr, gAnd, Int.zero_add, Int.toNat_natCast, Int.natCast_nonneg, bit_test]
    cases h : n.testBit k <;> simp [tr_bnd, tr_ret, tr_lift]
theorem small_bits {n k : Nat} (h : ∀ x, n.testBit x = true → x < k) : bitsN n ≤ k := by
  have h1 : n < 2 ^ k := Nat.lt_pow_two_of_testBit n fun i hi => by
    cases e : n.testBit i with
    | false => rfl
    | true => have := h i e; omega
  unfold bitsN Builtin.Int.intBits
  by_cases hn : n = 0
  · subst hn; simp
  · rw [if_neg (by simpa using hn), Int.natAbs_natCast]
    have := (Nat.log2_lt hn).mpr h1
    omega
theorem mask_bits {rs : List (List Int)} (w : Wf rs) {i m : Nat} (e : (masksOf rs)[i]? = some m) : bitsN m ≤ i := by
  refine small_bits fun x hx => ?_
  have e2 : (cl rs)[i]? = some (itemsN m) := by unfold cl; rw [List.getElem?_map, e]; rfl
  have := (cl_clo w).bnd w i _ e2 x (mem_itemsN.mpr ⟨Int.natCast_nonneg x, by simpa using hx⟩)
  omega
abbrev nl (l : List Nat) : List D := l.map fun (n : Nat) => PyData.int (n : Int)
theorem nl_at {l : List Nat} {x : Int} {m : Nat} (h0 : 0 ≤ x) (e : l[x.toNat]? = some m) : atI (nl l) x = some (.int m) := by
  unfold atI ixN
  have := (List.getElem?_eq_some_iff.mp e).1
  rw [if_pos h0, List.length_map, if_pos (by omega), Option.bind_some, List.getElem?_map, e]; rfl
theorem filter_masks : ∀ l : List Nat, (nl l).filterMap fMask = l.map fun n => PyData.tuple (il (itemsN n))
  | [] => rfl
  | a :: l => by
    have := filter_masks l
    simp only [nl, fMask, List.map_cons, List.filterMap_cons, Int.toNat_natCast] at this ⊢
    rw [this]
theorem ev_closed {d : D} {ds : List D} {rs : List (List Int)} (hd : d = .list ds ∨ d = .tuple ds) (R : RowsD ds rs) (hl : rs.length ≤ 40) (w : Wf rs) : F_closed [d] = DL.ret (.tuple (tupT (cl rs))) := by
  obtain ⟨h1, h2, h3⟩ := seq_is hd
  refine eq_of fun P => ?_
  simp (decide := true) only [sSeq, sRet, sSkip, sSet, sIf, sAsg, sApp, sExt, sFor, eVar, eC, eOp, eUn, eB, eCons, eCall, eCallP, eTup, eLst, vAnd, vNot, tBool, tTru, tNot', tOr', tAnd', iRng, iSeq, iEnu, ePeek, bodyF, rho0, tr_bnd, tr_ret, tr_lift, tr_noP, tr_noX, gLe, gLt, gGt, gGe, gCmp, truD, enuD, rngD, gtName, gtTup, gsCons, gsNil, Option.map_some, Option.bind_some, Option.bind_eq_bind, wipeD, List.map_cons, List.map_nil, List.getElem?_cons_zero, List.getElem?_cons_succ, List.cons_append, List.nil_append, Bool.false_eq_true, if_false, if_true, List.length_cons, List.length_nil, List.set_cons_zero, List.set_cons_succ, List.replicate, Bool.not_true, Bool.not_false, reduceIte, F_closed, f_closed, h2]
  refine tr_for (fun i ρ P' => P' = P ∧ ∃ x y z, ρ = [some d, some (.list (nl (masksOf (rs.take i)))), x, y, z]) ⟨rfl, _, _, _, by rw [List.take_zero]; rfl⟩ (fun i e ρ P' he ⟨hP, x, y, z, hρ⟩ => ?_) (fun ρ P' ⟨hP, x, y, z, hρ⟩ => ?_)
  · subst hP hρ
    obtain ⟨l, hl2, rd⟩ := R.row i e he
    obtain ⟨r1, r2, r3⟩ := seq_is rd
    have hi : i < rs.length := (List.getElem?_eq_some_iff.mp hl2).1
    refine ⟨_, rfl, ?_⟩
    simp (decide := true) only [sSeq, sRet, sSkip, sSet, sIf, sAsg, sApp, sExt, sFor, eVar, eC, eOp, eUn, eB, eCons, eCall, eCallP, eTup, eLst, vAnd, vNot, tBool, tTru, tNot', tOr', tAnd', iRng, iSeq, iEnu, ePeek, bodyF, rho0, tr_bnd, tr_ret, tr_lift, tr_noP, tr_noX, gLe, gLt, gGt, gGe, gCmp, truD, enuD, rngD, gtName, gtTup, gsCons, gsNil, Option.map_some, Option.bind_some, Option.bind_eq_bind, wipeD, List.map_cons, List.map_nil, List.getElem?_cons_zero, List.getElem?_cons_succ, List.cons_append, List.nil_append, Bool.false_eq_true, if_false, if_true, List.length_cons, List.length_nil, List.set_cons_zero, List.set_cons_succ, List.replicate, Bool.not_true, Bool.not_false, reduceIte, r2]
    refine tr_for (fun j ρ P2 => P2 = P' ∧ ∃ z, ρ = [some d, some (.list (nl (masksOf (rs.take i)))), some e, some (.int (maskRow (masksOf (rs.take i)) (l.take j) : Nat)), z]) ⟨rfl, _, by rw [List.take_zero]; rfl⟩ (fun j s ρ P2 hs ⟨hP2, z, hρ⟩ => ?_) (fun ρ P2 ⟨hP2, z, hρ⟩ => ?_)
    · subst hP2 hρ
      rw [List.getElem?_map, Option.map_eq_some_iff] at hs
      obtain ⟨v, hv, rfl⟩ := hs
      obtain ⟨b1, b2⟩ := w i l hl2 v (List.mem_of_getElem? hv)
      refine ⟨_, rfl, ?_⟩
      obtain ⟨m, hm⟩ : ∃ m, (masksOf (rs.take i))[v.toNat]? = some m := ⟨_, List.getElem?_eq_getElem (by rw [masksOf_len i _ (by rw [List.length_take]; omega)]; omega)⟩
      simp (decide := true) only [sSeq, sRet, sSkip, sSet, sIf, sAsg, sApp, sExt, sFor, eVar, eC, eOp, eUn, eB, eCons, eCall, eCallP, eTup, eLst, vAnd, vNot, tBool, tTru, tNot', tOr', tAnd', iRng, iSeq, iEnu, ePeek, bodyF, rho0, tr_bnd, tr_ret, tr_lift, tr_noP, tr_noX, gLe, gLt, gGt, gGe, gCmp, truD, enuD, rngD, gtName, gtTup, gsCons, gsNil, Option.map_some, Option.bind_some, Option.bind_eq_bind, wipeD, List.map_cons, List.map_nil, List.getElem?_cons_zero, List.getElem?_cons_succ, List.cons_append, List.nil_append, Bool.false_eq_true, if_false, if_true, List.length_cons, List.length_nil, List.set_cons_zero, List.set_cons_succ, List.replicate, Bool.not_true, Bool.not_false, reduceIte, lstAt, gIx, nl_at b1 hm, gOr, gShl, bitOr_nat]
      have b3 : (0 ≤ v ∧ v ≤ 1000000 ∧ True) := ⟨b1, by omega, trivial⟩
      rw [if_pos b3, tr_lift]
      refine ⟨rfl, some (.int v), ?_⟩
      congr 4
      rw [List.take_add_one, hv]
      unfold maskRow
      rw [Option.toList_some, List.foldl_append, List.foldl_cons, List.foldl_nil, List.getD_eq_getElem?_getD, hm, Option.getD_some]
      have : (1 : Int) * 2 ^ v.toNat = ((2 ^ v.toNat : Nat) : Int) := by rw [Int.one_mul, Int.natCast_pow]; rfl
      rw [this, bitOr_nat]
    · subst hP2 hρ
      rw [List.length_map, List.take_length]
      have h4 : (nl (masksOf (rs.take i))).length < 1000000 := by rw [List.length_map, masksOf_len i _ (by rw [List.length_take]; omega)]; omega
      simp (decide := true) only [sSeq, sRet, sSkip, sSet, sIf, sAsg, sApp, sExt, sFor, eVar, eC, eOp, eUn, eB, eCons, eCall, eCallP, eTup, eLst, vAnd, vNot, tBool, tTru, tNot', tOr', tAnd', iRng, iSeq, iEnu, ePeek, bodyF, rho0, tr_bnd, tr_ret, tr_lift, tr_noP, tr_noX, gLe, gLt, gGt, gGe, gCmp, truD, enuD, rngD, gtName, gtTup, gsCons, gsNil, Option.map_some, Option.bind_some, Option.bind_eq_bind, wipeD, List.map_cons, List.map_nil, List.getElem?_cons_zero, List.getElem?_cons_succ, List.cons_append, List.nil_append, Bool.false_eq_true, if_false, if_true, List.length_cons, List.length_nil, List.set_cons_zero, List.set_cons_succ, List.replicate, Bool.not_true, Bool.not_false, reduceIte, lstAt, h4]
      have e5 : nl (masksOf (rs.take i)) ++ [PyData.int (maskRow (masksOf (rs.take i)) l : Nat)] = nl (masksOf (rs.take (i + 1))) := by
        rw [masksOf_succ hl2]; unfold nl; rw [List.map_append]; rfl
      rw [e5]
      exact ⟨trivial, _, _, _, rfl⟩
  · subst hP hρ
    rw [R.len, List.take_length]
    simp (decide := true) only [sSeq, sRet, sSkip, sSet, sIf, sAsg, sApp, sExt, sFor, eVar, eC, eOp, eUn, eB, eCons, eCall, eCallP, eTup, eLst, vAnd, vNot, tBool, tTru, tNot', tOr', tAnd', iRng, iSeq, iEnu, ePeek, bodyF, rho0, tr_bnd, tr_ret, tr_lift, tr_noP, tr_noX, gLe, gLt, gGt, gGe, gCmp, truD, enuD, rngD, gtName, gtTup, gsCons, gsNil, Option.map_some, Option.bind_some, Option.bind_eq_bind, wipeD, List.map_cons, List.map_nil, List.getElem?_cons_zero, List.getElem?_cons_succ, List.cons_append, List.nil_append, Bool.false_eq_true, if_false, if_true, List.length_cons, List.length_nil, List.set_cons_zero, List.set_cons_succ, List.replicate, Bool.not_true, Bool.not_false, reduceIte]
    refine tr_lc ?_
    simp (decide := true) only [sSeq, sRet, sSkip, sSet, sIf, sAsg, sApp, sExt, sFor, eVar, eC, eOp, eUn, eB, eCons, eCall, eCallP, eTup, eLst, vAnd, vNot, tBool, tTru, tNot', tOr', tAnd', iRng, iSeq, iEnu, ePeek, bodyF, rho0, tr_bnd, tr_ret, tr_lift, tr_noP, tr_noX, gLe, gLt, gGt, gGe, gCmp, truD, enuD, rngD, gtName, gtTup, gsCons, gsNil, Option.map_some, Option.bind_some, Option.bind_eq_bind, wipeD, List.map_cons, List.map_nil, List.getElem?_cons_zero, List.getElem?_cons_succ, List.cons_append, List.nil_append, Bool.false_eq_true, if_false, if_true, List.length_cons, List.length_nil, List.set_cons_zero, List.set_cons_succ, List.replicate, Bool.not_true, Bool.not_false, reduceIte, seqD]
    rw [map_pure (f := fMask)]
    · rw [filter_masks]
      refine ⟨?_, ?_⟩
      · rw [List.length_map, masksOf_len _ rs rfl]; omega
      · simp (decide := true) only [sSeq, sRet, sSkip, sSet, sIf, sAsg, sApp, sExt, sFor, eVar, eC, eOp, eUn, eB, eCons, eCall, eCallP, eTup, eLst, vAnd, vNot, tBool, tTru, tNot', tOr', tAnd', iRng, iSeq, iEnu, ePeek, bodyF, rho0, tr_bnd, tr_ret, tr_lift, tr_noP, tr_noX, gLe, gLt, gGt, gGe, gCmp, truD, enuD, rngD, gtName, gtTup, gsCons, gsNil, Option.map_some, Option.bind_some, Option.bind_eq_bind, wipeD, List.map_cons, List.map_nil, List.getElem?_cons_zero, List.getElem?_cons_succ, List.cons_append, List.nil_append, Bool.false_eq_true, if_false, if_true, List.length_cons, List.length_nil, List.set_cons_zero, List.set_cons_succ, List.replicate, Bool.not_true, Bool.not_false, reduceIte, gTuple]
        unfold tupT cl
        rw [List.map_map]
        exact ⟨rfl, trivial⟩
    · intro d2 hd2
      obtain ⟨m, hm, rfl⟩ := List.mem_map.mp hd2
      obtain ⟨k, hk⟩ := List.getElem?_of_mem hm
      have hk2 : k < rs.length := by have := (List.getElem?_eq_some_iff.mp hk).1; rwa [masksOf_len _ rs rfl] at this
      have hb := mask_bits w hk
      refine eq_of fun P => ?_
      simp (decide := true) only [sSeq, sRet, sSkip, sSet, sIf, sAsg, sApp, sExt, sFor, eVar, eC, eOp, eUn, eB, eCons, eCall, eCallP, eTup, eLst, vAnd, vNot, tBool, tTru, tNot', tOr', tAnd', iRng, iSeq, iEnu, ePeek, bodyF, rho0, tr_bnd, tr_ret, tr_lift, tr_noP, tr_noX, gLe, gLt, gGt, gGe, gCmp, truD, enuD, rngD, gtName, gtTup, gsCons, gsNil, Option.map_some, Option.bind_some, Option.bind_eq_bind, wipeD, List.map_cons, List.map_nil, List.getElem?_cons_zero, List.getElem?_cons_succ, List.cons_append, List.nil_append, Bool.false_eq_true, if_false, if_true, List.length_cons, List.length_nil, List.set_cons_zero, List.set_cons_succ, List.replicate, Bool.not_true, Bool.not_false, reduceIte, lcStep, fMask, ev_items_of m (by omega), Int.toNat_natCast]
end K23

end
section
set_option Elab.async false
set_option linter.all false
set_option maxRecDepth 100000
set_option maxHeartbeats 4000000
namespace K23
open PySem PySem.Spec L2 DL
theorem short_of {rs ps : List (List Int)} (w : Wf rs) (c : Clo rs ps) (hl : rs.length ≤ 40) : ∀ l ∈ ps, l.length ≤ 50 := fun l h => by
  obtain ⟨k, hk⟩ := List.getElem?_of_mem h
  have := c.short w hk
  have := (List.getElem?_eq_some_iff.mp hk).1
  have := c.len
  omega
theorem tup_ok {rs ps : List (List Int)} (w : Wf rs) (c : Clo rs ps) (hl : rs.length ≤ 40) : ∀ d ∈ tupT ps, OkRow d :=
  (rowsD_tup ps).ok (by rw [c.len]; exact hl) (c.bnd w) (short_of w c hl)
theorem ev_is_plan {ps : List (List Int)} (w : Wf ps) (c : Clo ps ps) (hl : ps.length ≤ 40) : F_is_plan [.tuple (tupT ps)] = DL.ret (.bool true) := by
  refine eq_of fun P => ?_
  have e : cl ps = ps := (cl_clo w).uniq w c
  have s := shaped_rows (d := .tuple (tupT ps)) (.inr rfl) (tup_ok w c hl)
  simp (decide := true) only [sSeq, sRet, sSkip, sSet, sIf, sAsg, sApp, sExt, sFor, eVar, eC, eOp, eUn, eB, eCons, eCall, eCallP, eTup, eLst, vAnd, vNot, tBool, tTru, tNot', tOr', tAnd', iRng, iSeq, iEnu, ePeek, bodyF, rho0, tr_bnd, tr_ret, tr_lift, tr_noP, tr_noX, gLe, gLt, gGt, gGe, gCmp, truD, enuD, rngD, gtName, gtTup, gsCons, gsNil, Option.map_some, Option.bind_some, Option.bind_eq_bind, wipeD, List.map_cons, List.map_nil, List.getElem?_cons_zero, List.getElem?_cons_succ, List.cons_append, List.nil_append, Bool.false_eq_true, if_false, if_true, List.length_cons, List.length_nil, List.set_cons_zero, List.set_cons_succ, List.replicate, Bool.not_true, Bool.not_false, reduceIte, F_is_plan, f_is_plan, ev_is_sights (.inr rfl) (rowsD_tup ps) hl w (short_of w c hl), ev_closed (.inr rfl) (rowsD_tup ps) hl w, e, gEq_same s]
structure Pl (ps : List (List Int)) : Prop where
  w : Wf ps
  c : Clo ps ps
  l : ps.length ≤ 40
theorem clo_self_of {ps : List (List Int)} (s : ∀ (i : Nat) (p : List Int), ps[i]? = some p → p.Pairwise (· < ·)) (t : ∀ (i : Nat) (p : List Int), ps[i]? = some p → ∀ x ∈ p, ∀ q, ps[x.toNat]? = some q → ∀ y ∈ q, y ∈ p) : Clo ps ps :=
  ⟨rfl, s, fun i l p e1 e2 x => by
    rw [e1] at e2; cases e2
    refine ⟨.inl, ?_⟩
    rintro (h | ⟨z, hz, q, hq, h⟩)
    · exact h
    · exact t i l e1 z hz q hq x h⟩
theorem Pl.tr {ps : List (List Int)} (P : Pl ps) {i : Nat} {p : List Int} (e : ps[i]? = some p) {x : Int} (hx : x ∈ p) {q : List Int} (hq : ps[x.toNat]? = some q) {y : Int} (hy : y ∈ q) : y ∈ p :=
  (P.c.mem i p p e e y).mpr (.inr ⟨x, hx, q, hq, hy⟩)
theorem Pl.short {ps : List (List Int)} (A : Pl ps) : ∀ l ∈ ps, l.length ≤ 39 := fun l h => by
  obtain ⟨k, hk⟩ := List.getElem?_of_mem h
  have := A.c.short A.w hk
  have := (List.getElem?_eq_some_iff.mp hk).1
  have := A.l
  omega
theorem ev_need_plan {ps : List (List Int)} (A : Pl ps) : F_need_plan [.tuple (tupT ps)] = DL.ret .none := by
  refine eq_of fun P => ?_
  simp (decide := true) only [sSeq, sRet, sSkip, sSet, sIf, sAsg, sApp, sExt, sFor, eVar, eC, eOp, eUn, eB, eCons, eCall, eCallP, eTup, eLst, vAnd, vNot, tBool, tTru, tNot', tOr', tAnd', iRng, iSeq, iEnu, ePeek, bodyF, rho0, tr_bnd, tr_ret, tr_lift, tr_noP, tr_noX, gLe, gLt, gGt, gGe, gCmp, truD, enuD, rngD, gtName, gtTup, gsCons, gsNil, Option.map_some, Option.bind_some, Option.bind_eq_bind, wipeD, List.map_cons, List.map_nil, List.getElem?_cons_zero, List.getElem?_cons_succ, List.cons_append, List.nil_append, Bool.false_eq_true, if_false, if_true, List.length_cons, List.length_nil, List.set_cons_zero, List.set_cons_succ, List.replicate, Bool.not_true, Bool.not_false, reduceIte, F_need_plan, f_need_plan, ev_is_plan A.w A.c A.l]
theorem bnd_bnd {α β γ : Type} {m : M α} {k : α → M β} {l : β → M γ} : bnd (bnd m k) l = bnd m fun a => bnd (k a) l := by
  funext P
  unfold bnd
  cases m P with
  | none => rfl
  | some z => obtain ⟨z, P1⟩ := z; cases z <;> rfl
theorem tupT_append (ps qs : List (List Int)) : tupT ps ++ tupT qs = tupT (ps ++ qs) := by simp [tupT]
theorem enu_get {ds : List D} {k : Nat} {d : D} (h : (enumD ds)[k]? = some d) : ∃ v, ds[k]? = some v ∧ d = .tuple [.int (k : Int), v] := by
  rw [enumD_get, Option.map_eq_some_iff] at h
  obtain ⟨v, h1, h2⟩ := h
  exact ⟨v, h1, h2.symm⟩
theorem enu_len (ds : List D) : (enumD ds).length = ds.length := by simp [enumD]
theorem gIn_row {p : List Int} {x : Int} : gIn false (.int x) (.tuple (il p)) = some (.bool (p.contains x)) := by
  show (if flatD (.int x) = true ∧ (il p).all flatD = true then some (PyData.bool ((il p).any fun z => PyData.eqv z (.int x))) else none) = _
  rw [if_pos ⟨rfl, flat_il p⟩, any_il]
theorem ixT_tup {ps : List (List Int)} {k : Nat} {p : List Int} (h : ps[k]? = some p) : gIx (.tuple (tupT ps)) (.int (k : Int)) = some (.tuple (il p)) := by
  show atI (tupT ps) (k : Int) = _
  refine DL.atI_nat' ?_
  unfold tupT
  rw [List.getElem?_map, h]; rfl
end K23

end
section
set_option Elab.async false
set_option linter.all false
set_option maxRecDepth 100000
set_option maxHeartbeats 4000000
namespace K23
open PySem PySem.Spec L2 DL
/-! runs, orders -/
structure OkG (ps : List (List Int)) (gs : List Int) : Prop where
  len : gs.length = ps.length
  ok : ∀ (i : Nat) (p : List Int) (g : Int), ps[i]? = some p → gs[i]? = some g → 0 ≤ g ∧ g ≤ p.length
def insL (o : List Int) (l : Option Int) (x : Int) : List Int := match l with
  | none => x :: o
  | some y => o.take (o.idxOf y + 1) ++ [x] ++ o.drop (o.idxOf y + 1)
def leftOf (o p : List Int) (g : Int) : Option Int := if 0 < g then (o.filter fun x => p.contains x)[(g - 1).toNat]? else none
def ordN (ps : List (List Int)) (gs : List Int) : Nat → List Int
  | 0 => []
  | k + 1 => insL (ordN ps gs k) (leftOf (ordN ps gs k) (ps.getD k []) (gs.getD k 0)) (k : Int)
def lefN (ps : List (List Int)) (gs : List Int) (k : Nat) : Option Int := leftOf (ordN ps gs k) (ps.getD k []) (gs.getD k 0)
def linN (ps : List (List Int)) (gs : List Int) : Nat → List (List Int)
  | 0 => []
  | k + 1 => linN ps gs k ++ [match lefN ps gs k with | none => [(k : Int)] | some y => (linN ps gs k).getD y.toNat [] ++ [(k : Int)]]
theorem ins_perm (o : List Int) (l : Option Int) (x : Int) : (insL o l x).Perm (x :: o) := by
  cases l with
  | none => exact .refl _
  | some y =>
    show (o.take (o.idxOf y + 1) ++ [x] ++ o.drop (o.idxOf y + 1)).Perm (x :: o)
    conv => rhs; rw [← List.take_append_drop (o.idxOf y + 1) o]
    rw [List.append_assoc]
    exact List.perm_middle
theorem ord_perm (ps : List (List Int)) (gs : List Int) : ∀ k, (ordN ps gs k).Perm ((List.range k).map Int.ofNat)
  | 0 => .refl _
  | k + 1 => by
    rw [List.range_succ, List.map_append]
    refine (ins_perm _ _ _).trans (((ord_perm ps gs k).cons _).trans ?_)
    exact (List.perm_append_singleton _ _).symm
theorem ord_len (ps : List (List Int)) (gs : List Int) (k : Nat) : (ordN ps gs k).length = k := by rw [(ord_perm ps gs k).length_eq]; simp
theorem ord_mem {ps : List (List Int)} {gs : List Int} {k : Nat} {x : Int} : x ∈ ordN ps gs k ↔ 0 ≤ x ∧ x < (k : Int) := by
  rw [(ord_perm ps gs k).mem_iff, List.mem_map]
  constructor
  · rintro ⟨n, h, rfl⟩
    have := List.mem_range.mp h
    constructor
    · exact Int.natCast_nonneg n
    · show ((n : Nat) : Int) < _; omega
  · rintro ⟨h0, h1⟩
    exact ⟨x.toNat, List.mem_range.mpr (by omega), by show ((x.toNat : Nat) : Int) = x; omega⟩
theorem ord_nodup (ps : List (List Int)) (gs : List Int) (k : Nat) : (ordN ps gs k).Nodup :=
  (ord_perm ps gs k).nodup_iff.mpr (List.pairwise_map.mpr (List.nodup_range.imp fun h e => h (Int.ofNat.inj e)))
theorem seen_len {ps : List (List Int)} (A : Pl ps) (gs : List Int) {k : Nat} {p : List Int} (e : ps[k]? = some p) : ((ordN ps gs k).filter fun x => p.contains x).length = p.length := by
  have hp := A.c.sorted k p e
  have np : p.Nodup := hp.imp fun h => by omega
  refine ((List.perm_ext_iff_of_nodup ((ord_nodup ps gs k).filter _) np).mpr fun x => ?_).length_eq
  rw [List.mem_filter, List.contains_iff_mem, ord_mem]
  constructor
  · exact fun h => h.2
  · exact fun h => ⟨A.w k p e x h, h⟩
theorem lef_none {ps : List (List Int)} {gs : List Int} {k : Nat} (h : ¬ 0 < gs.getD k 0) : lefN ps gs k = none := by unfold lefN leftOf; rw [if_neg h]
theorem lef_some {ps : List (List Int)} (A : Pl ps) {gs : List Int} (G : OkG ps gs) {k : Nat} {p : List Int} {g : Int} (e : ps[k]? = some p) (eg : gs[k]? = some g) (h : 0 < g) :
    ∃ y, lefN ps gs k = some y ∧ ((ordN ps gs k).filter fun x => p.contains x)[(g - 1).toNat]? = some y ∧ y ∈ ordN ps gs k ∧ 0 ≤ y ∧ y < (k : Int) := by
  have hg := G.ok k p g e eg
  have sl := seen_len A gs e
  have e1 : ps.getD k [] = p := by rw [List.getD_eq_getElem?_getD, e]; rfl
  have e2 : gs.getD k 0 = g := by rw [List.getD_eq_getElem?_getD, eg]; rfl
  have hl : (g - 1).toNat < ((ordN ps gs k).filter fun x => p.contains x).length := by omega
  have e3 := List.getElem?_eq_getElem hl
  have hm := List.mem_of_getElem? e3
  have ho := (List.mem_filter.mp hm).1
  refine ⟨_, ?_, e3, ho, (ord_mem.mp ho).1, (ord_mem.mp ho).2⟩
  unfold lefN leftOf
  rw [e1, e2, if_pos h, e3]
theorem lin_len (ps : List (List Int)) (gs : List Int) : ∀ k, (linN ps gs k).length = k
  | 0 => rfl
  | k + 1 => by unfold linN; rw [List.length_append, lin_len ps gs k]; rfl
theorem lin_short (ps : List (List Int)) (gs : List Int) : ∀ k, ∀ l ∈ linN ps gs k, l.length ≤ k
  | 0, l, h => by simp [linN] at h
  | k + 1, l, h => by
    unfold linN at h
    rcases List.mem_append.mp h with h | h
    · have := lin_short ps gs k l h; omega
    · rw [List.mem_singleton] at h
      subst h
      cases lefN ps gs k with
      | none => show [(k : Int)].length ≤ k + 1; simp
      | some y =>
        show ((linN ps gs k).getD y.toNat [] ++ [(k : Int)]).length ≤ k + 1
        have : ((linN ps gs k).getD y.toNat []).length ≤ k := by
          by_cases hy : y.toNat < (linN ps gs k).length
          · rw [List.getD_eq_getElem?_getD, List.getElem?_eq_getElem hy]
            exact lin_short ps gs k _ (List.getElem_mem hy)
          · rw [List.getD_eq_getElem?_getD, List.getElem?_eq_none (by omega)]; simp
        generalize (linN ps gs k).getD y.toNat [] = q at this
        rw [List.length_append, List.length_singleton]; omega
/-! the program's defs -/
def lD : Option Int → D | none => .none | some y => .int y
theorem ixOf_il {o : List Int} {y : Int} (h : y ∈ o) : ixOf (il o) (.int y) = some (.int (o.idxOf y : Nat)) := by
  show (intsOf (il o)).bind _ = _
  rw [intsOf_il, Option.bind_some, if_pos h]
theorem insD_il {o : List Int} {k : Nat} {x : Int} (hk : k ≤ 1000) (hl : o.length < 1000) : insD (il o) (.int (k : Int)) (.int x) = some (il (o.take k ++ [x] ++ o.drop k)) := by
  show (if _ then _ else _) = _
  rw [if_pos ⟨by omega, by omega, by rw [il_len]; omega⟩, Int.toNat_natCast]
  unfold il
  simp only [List.map_append, List.map_cons, List.map_nil, List.map_take, List.map_drop]
theorem ev_put {o : List Int} {l : Option Int} {x : Int} (hl : o.length < 900) (h : ∀ y, l = some y → y ∈ o) : F_put_behind [.list (il o), lD l, .int x] = DL.ret (.list (il (insL o l x))) := by
  refine eq_of fun P => ?_
  cases l with
  | none =>
    have gi : gIsN false .none .none = some (.bool true) := rfl
    have gd := insD_il (o := o) (k := 0) (x := x) (by omega) (by omega)
    simp (decide := true) only [sSeq, sRet, sSkip, sSet, sIf, sAsg, sApp, sExt, sFor, eVar, eC, eOp, eUn, eB, eCons, eCall, eCallP, eTup, eLst, vAnd, vNot, tBool, tTru, tNot', tOr', tAnd', iRng, iSeq, iEnu, ePeek, bodyF, rho0, tr_bnd, tr_ret, tr_lift, tr_noP, tr_noX, gLe, gLt, gGt, gGe, gCmp, truD, enuD, rngD, gtName, gtTup, gsCons, gsNil, Option.map_some, Option.bind_some, Option.bind_eq_bind, wipeD, List.map_cons, List.map_nil, List.getElem?_cons_zero, List.getElem?_cons_succ, List.cons_append, List.nil_append, Bool.false_eq_true, if_false, if_true, List.length_cons, List.length_nil, List.set_cons_zero, List.set_cons_succ, List.replicate, Bool.not_true, Bool.not_false, reduceIte, F_put_behind, f_put_behind, mutF, sIns, lD, eIf, lstAt, gi]
    rw [show insD (il o) (.int 0) (.int x) = some (il (o.take 0 ++ [x] ++ o.drop 0)) from gd]
    simp (decide := true) only [sSeq, sRet, sSkip, sSet, sIf, sAsg, sApp, sExt, sFor, eVar, eC, eOp, eUn, eB, eCons, eCall, eCallP, eTup, eLst, vAnd, vNot, tBool, tTru, tNot', tOr', tAnd', iRng, iSeq, iEnu, ePeek, bodyF, rho0, tr_bnd, tr_ret, tr_lift, tr_noP, tr_noX, gLe, gLt, gGt, gGe, gCmp, truD, enuD, rngD, gtName, gtTup, gsCons, gsNil, Option.map_some, Option.bind_some, Option.bind_eq_bind, wipeD, List.map_cons, List.map_nil, List.getElem?_cons_zero, List.getElem?_cons_succ, List.cons_append, List.nil_append, Bool.false_eq_true, if_false, if_true, List.length_cons, List.length_nil, List.set_cons_zero, List.set_cons_succ, List.replicate, Bool.not_true, Bool.not_false, reduceIte]
    try exact ⟨rfl, trivial⟩
  | some y =>
    have hy := h y rfl
    have gi : gIsN false (.int y) .none = some (.bool false) := rfl
    have hx : o.idxOf y < o.length := List.idxOf_lt_length_of_mem hy
    have gd := insD_il (o := o) (k := o.idxOf y + 1) (x := x) (by omega) (by omega)
    have ga : gAdd (.int (o.idxOf y : Nat)) (.int 1) = some (.int ((o.idxOf y + 1 : Nat) : Int)) := rfl
    simp (decide := true) only [sSeq, sRet, sSkip, sSet, sIf, sAsg, sApp, sExt, sFor, eVar, eC, eOp, eUn, eB, eCons, eCall, eCallP, eTup, eLst, vAnd, vNot, tBool, tTru, tNot', tOr', tAnd', iRng, iSeq, iEnu, ePeek, bodyF, rho0, tr_bnd, tr_ret, tr_lift, tr_noP, tr_noX, gLe, gLt, gGt, gGe, gCmp, truD, enuD, rngD, gtName, gtTup, gsCons, gsNil, Option.map_some, Option.bind_some, Option.bind_eq_bind, wipeD, List.map_cons, List.map_nil, List.getElem?_cons_zero, List.getElem?_cons_succ, List.cons_append, List.nil_append, Bool.false_eq_true, if_false, if_true, List.length_cons, List.length_nil, List.set_cons_zero, List.set_cons_succ, List.replicate, Bool.not_true, Bool.not_false, reduceIte, F_put_behind, f_put_behind, mutF, sIns, lD, eIf, eIxO, lstAt, gi, ixOf_il hy, ga, gd]
    try exact ⟨rfl, trivial⟩
theorem sMut_of {i : Nat} {fn : List D → M D} {g : Rho → M (List D)} {ρ : Rho} {es ds es' : List D} (h1 : lstAt ρ i = some es) (h2 : g ρ = DL.ret ds) (h3 : fn (.list es :: ds) = DL.ret (.list es')) : sMut i fn g ρ = DL.ret (.nx (ρ.set i (some (.list es')))) := by
  unfold sMut
  rw [h1, DL.lift_some, DL.bnd_ret, h2, DL.bnd_ret, DL.bnd_ret, h3]
  rfl
def inR (p : List Int) (d : D) : Bool := match d with | .int x => p.contains x | _ => false
theorem inR_il (p : List Int) : ∀ q : List Int, (il q).filter (inR p) = il (q.filter fun x => p.contains x)
  | [] => rfl
  | x :: q => by
    rw [show il (x :: q) = .int x :: il q from rfl, List.filter_cons, List.filter_cons, inR_il p q]
    show (if (p.contains x) = true then _ else _) = _
    split <;> rfl
theorem ev_seen_of {ps : List (List Int)} {k : Nat} {p o : List Int} (e : ps[k]? = some p) (ho : o.length ≤ 1000) : F_seen_of [.tuple (tupT ps), .int (k : Int), .list (il o)] = DL.ret (.list (il (o.filter fun x => p.contains x))) := by
  have c := lc_gen (vs := [3]) (fi := iSeq (eVar 2)) (g := gtName 3) (tt := tBool (eOp (gIn false) (eVar 3) (eOp gIx (eVar 0) (eVar 1)))) (te := eVar 3) (ρ := [some (.tuple (tupT ps)), some (.int (k : Int)), some (.list (il o)), none]) (ds := il o) (inR p) (fun d => d) rfl
    (by rw [il_len]; omega) (fun d hd => by
      unfold il at hd
      obtain ⟨x, _, rfl⟩ := List.mem_map.mp hd
      exact ⟨_, rfl, bool_of (op_of rfl (op_of rfl rfl (ixT_tup e)) gIn_row), fun _ => rfl⟩)
  rw [List.map_id', inR_il] at c
  refine eq_of fun P => ?_
  simp (decide := true) only [sSeq, sRet, sSkip, sSet, sIf, sAsg, sApp, sExt, sFor, eVar, eC, eOp, eUn, eB, eCons, eCall, eCallP, eTup, eLst, vAnd, vNot, tBool, tTru, tNot', tOr', tAnd', iRng, iSeq, iEnu, ePeek, bodyF, rho0, tr_bnd, tr_ret, tr_lift, tr_noP, tr_noX, gLe, gLt, gGt, gGe, gCmp, truD, enuD, rngD, gtName, gtTup, gsCons, gsNil, Option.map_some, Option.bind_some, Option.bind_eq_bind, wipeD, List.map_cons, List.map_nil, List.getElem?_cons_zero, List.getElem?_cons_succ, List.cons_append, List.nil_append, Bool.false_eq_true, if_false, if_true, List.length_cons, List.length_nil, List.set_cons_zero, List.set_cons_succ, List.replicate, Bool.not_true, Bool.not_false, reduceIte, F_seen_of, f_seen_of]
  rw [c]
  simp (decide := true) only [sSeq, sRet, sSkip, sSet, sIf, sAsg, sApp, sExt, sFor, eVar, eC, eOp, eUn, eB, eCons, eCall, eCallP, eTup, eLst, vAnd, vNot, tBool, tTru, tNot', tOr', tAnd', iRng, iSeq, iEnu, ePeek, bodyF, rho0, tr_bnd, tr_ret, tr_lift, tr_noP, tr_noX, gLe, gLt, gGt, gGe, gCmp, truD, enuD, rngD, gtName, gtTup, gsCons, gsNil, Option.map_some, Option.bind_some, Option.bind_eq_bind, wipeD, List.map_cons, List.map_nil, List.getElem?_cons_zero, List.getElem?_cons_succ, List.cons_append, List.nil_append, Bool.false_eq_true, if_false, if_true, List.length_cons, List.length_nil, List.set_cons_zero, List.set_cons_succ, List.replicate, Bool.not_true, Bool.not_false, reduceIte]
  try exact ⟨rfl, trivial⟩
theorem gs_at {gs : List Int} {k : Nat} {d : D} (h : (il gs)[k]? = some d) : ∃ g, gs[k]? = some g ∧ d = .int g := by
  unfold il at h
  rw [List.getElem?_map, Option.map_eq_some_iff] at h
  obtain ⟨g, e, rfl⟩ := h
  exact ⟨g, e, rfl⟩
theorem ord_snoc (ps : List (List Int)) (gs : List Int) (k : Nat) : ordN ps gs (k + 1) = insL (ordN ps gs k) (lefN ps gs k) (k : Int) := rfl
theorem lD_flat (l : Option Int) : flatD (lD l) = true := by cases l <;> rfl
theorem ix_seen {l : List Int} {g y : Int} (h : 0 < g) (e : l[(g - 1).toNat]? = some y) : gIx (.list (il l)) (.int (g - 1)) = some (.int y) := atI_at (by omega) (by unfold il; rw [List.getElem?_map, e]; rfl)
theorem ev_neighbours {ps : List (List Int)} (A : Pl ps) {gs : List Int} (G : OkG ps gs) : F_neighbours [.tuple (tupT ps), .tuple (il gs)] = DL.ret (.list ((List.range ps.length).map fun k => lD (lefN ps gs k))) := by
  have h40 := A.l
  refine eq_of fun P => ?_
  simp (decide := true) only [sSeq, sRet, sSkip, sSet, sIf, sAsg, sApp, sExt, sFor, eVar, eC, eOp, eUn, eB, eCons, eCall, eCallP, eTup, eLst, vAnd, vNot, tBool, tTru, tNot', tOr', tAnd', iRng, iSeq, iEnu, ePeek, bodyF, rho0, tr_bnd, tr_ret, tr_lift, tr_noP, tr_noX, gLe, gLt, gGt, gGe, gCmp, truD, enuD, rngD, gtName, gtTup, gsCons, gsNil, Option.map_some, Option.bind_some, Option.bind_eq_bind, wipeD, List.map_cons, List.map_nil, List.getElem?_cons_zero, List.getElem?_cons_succ, List.cons_append, List.nil_append, Bool.false_eq_true, if_false, if_true, List.length_cons, List.length_nil, List.set_cons_zero, List.set_cons_succ, List.replicate, Bool.not_true, Bool.not_false, reduceIte, F_neighbours, f_neighbours, iEnu, enuD]
  refine tr_for (fun k ρ P' => P' = P ∧ ∃ x y z, ρ = [some (.tuple (tupT ps)), some (.tuple (il gs)), some (.list ((List.range k).map fun k => lD (lefN ps gs k))), some (.list (il (ordN ps gs k))), x, y, z]) ⟨rfl, _, _, _, rfl⟩ (fun k d ρ P' he ⟨hP, x, y, z, hρ⟩ => ?_) (fun ρ P' ⟨hP, x, y, z, hρ⟩ => ?_)
  · subst hP hρ
    obtain ⟨v, hv, rfl⟩ := enu_get he
    obtain ⟨g, eg, rfl⟩ := gs_at hv
    have hk : k < ps.length := by rw [← G.len]; exact (List.getElem?_eq_some_iff.mp eg).1
    have e := List.getElem?_eq_getElem hk
    generalize ps[k] = p at e
    have eg2 : gs.getD k 0 = g := by rw [List.getD_eq_getElem?_getD, eg]; rfl
    have ol := ord_len ps gs k
    have hl4 : ((List.range k).map fun k => lD (lefN ps gs k)).length < 1000000 := by rw [List.length_map, List.length_range]; omega
    have e5 : ((List.range k).map fun k => lD (lefN ps gs k)) ++ [lD (lefN ps gs k)] = (List.range (k + 1)).map fun k => lD (lefN ps gs k) := by rw [List.range_succ, List.map_append]; rfl
    have hm : ∀ y, lefN ps gs k = some y → y ∈ ordN ps gs k := fun y hy => by
      by_cases hg : 0 < g
      · obtain ⟨y', h1, _, h3, _⟩ := lef_some A G e eg hg
        rw [hy] at h1; cases h1; exact h3
      · rw [lef_none (by rw [eg2]; exact hg)] at hy; cases hy
    have key : ∀ x5 : Option D, flatM (eIf (tBool (eOp (gCmp fun i j => decide (j < i)) (eVar 5) (eC (.int 0)))) (eOp gIx (eCall F_seen_of (eCons (eVar 0) (eCons (eVar 4) (eCons (eVar 3) (fun _ => DL.ret []))))) (eOp DL.gSub (eVar 5) (eC (.int 1)))) (eC .none) [some (.tuple (tupT ps)), some (.tuple (il gs)), some (.list ((List.range k).map fun k => lD (lefN ps gs k))), some (.list (il (ordN ps gs k))), some (.int (k : Int)), some (.int g), x5]) = DL.ret (lD (lefN ps gs k)) := fun x5 => by
      refine eq_of fun P => ?_
      by_cases hg : 0 < g
      · obtain ⟨y', h1, h2, h3, h4, h5⟩ := lef_some A G e eg hg
        have gs1 : DL.gSub (.int g) (.int 1) = some (.int (g - 1)) := rfl
        rw [h1]
        simp (decide := true) only [sSeq, sRet, sSkip, sSet, sIf, sAsg, sApp, sExt, sFor, eVar, eC, eOp, eUn, eB, eCons, eCall, eCallP, eTup, eLst, vAnd, vNot, tBool, tTru, tNot', tOr', tAnd', iRng, iSeq, iEnu, ePeek, bodyF, rho0, tr_bnd, tr_ret, tr_lift, tr_noP, tr_noX, gLe, gLt, gGt, gGe, gCmp, truD, enuD, rngD, gtName, gtTup, gsCons, gsNil, Option.map_some, Option.bind_some, Option.bind_eq_bind, wipeD, List.map_cons, List.map_nil, List.getElem?_cons_zero, List.getElem?_cons_succ, List.cons_append, List.nil_append, Bool.false_eq_true, if_false, if_true, List.length_cons, List.length_nil, List.set_cons_zero, List.set_cons_succ, List.replicate, Bool.not_true, Bool.not_false, reduceIte, flatM, eIf, decide_eq_true hg, ev_seen_of e (show (ordN ps gs k).length ≤ 1000 by omega), gs1, ix_seen hg h2, flatD, lD]
      · rw [lef_none (by rw [eg2]; exact hg)]
        simp (decide := true) only [sSeq, sRet, sSkip, sSet, sIf, sAsg, sApp, sExt, sFor, eVar, eC, eOp, eUn, eB, eCons, eCall, eCallP, eTup, eLst, vAnd, vNot, tBool, tTru, tNot', tOr', tAnd', iRng, iSeq, iEnu, ePeek, bodyF, rho0, tr_bnd, tr_ret, tr_lift, tr_noP, tr_noX, gLe, gLt, gGt, gGe, gCmp, truD, enuD, rngD, gtName, gtTup, gsCons, gsNil, Option.map_some, Option.bind_some, Option.bind_eq_bind, wipeD, List.map_cons, List.map_nil, List.getElem?_cons_zero, List.getElem?_cons_succ, List.cons_append, List.nil_append, Bool.false_eq_true, if_false, if_true, List.length_cons, List.length_nil, List.set_cons_zero, List.set_cons_succ, List.replicate, Bool.not_true, Bool.not_false, reduceIte, flatM, eIf, decide_eq_false hg, flatD, lD]
    refine ⟨_, rfl, ?_⟩
    simp (decide := true) only [sSeq, sRet, sSkip, sSet, sIf, sAsg, sApp, sExt, sFor, eVar, eC, eOp, eUn, eB, eCons, eCall, eCallP, eTup, eLst, vAnd, vNot, tBool, tTru, tNot', tOr', tAnd', iRng, iSeq, iEnu, ePeek, bodyF, rho0, tr_bnd, tr_ret, tr_lift, tr_noP, tr_noX, gLe, gLt, gGt, gGe, gCmp, truD, enuD, rngD, gtName, gtTup, gsCons, gsNil, Option.map_some, Option.bind_some, Option.bind_eq_bind, wipeD, List.map_cons, List.map_nil, List.getElem?_cons_zero, List.getElem?_cons_succ, List.cons_append, List.nil_append, Bool.false_eq_true, if_false, if_true, List.length_cons, List.length_nil, List.set_cons_zero, List.set_cons_succ, List.replicate, Bool.not_true, Bool.not_false, reduceIte]
    rw [key z]
    simp (decide := true) only [sSeq, sRet, sSkip, sSet, sIf, sAsg, sApp, sExt, sFor, eVar, eC, eOp, eUn, eB, eCons, eCall, eCallP, eTup, eLst, vAnd, vNot, tBool, tTru, tNot', tOr', tAnd', iRng, iSeq, iEnu, ePeek, bodyF, rho0, tr_bnd, tr_ret, tr_lift, tr_noP, tr_noX, gLe, gLt, gGt, gGe, gCmp, truD, enuD, rngD, gtName, gtTup, gsCons, gsNil, Option.map_some, Option.bind_some, Option.bind_eq_bind, wipeD, List.map_cons, List.map_nil, List.getElem?_cons_zero, List.getElem?_cons_succ, List.cons_append, List.nil_append, Bool.false_eq_true, if_false, if_true, List.length_cons, List.length_nil, List.set_cons_zero, List.set_cons_succ, List.replicate, Bool.not_true, Bool.not_false, reduceIte, lstAt, hl4, e5]
    rw [sMut_of (es := il (ordN ps gs k)) (ds := [lD (lefN ps gs k), .int (k : Int)]) (es' := il (ordN ps gs (k + 1))) rfl rfl (by rw [ord_snoc]; exact ev_put (by omega) hm)]
    simp (decide := true) only [sSeq, sRet, sSkip, sSet, sIf, sAsg, sApp, sExt, sFor, eVar, eC, eOp, eUn, eB, eCons, eCall, eCallP, eTup, eLst, vAnd, vNot, tBool, tTru, tNot', tOr', tAnd', iRng, iSeq, iEnu, ePeek, bodyF, rho0, tr_bnd, tr_ret, tr_lift, tr_noP, tr_noX, gLe, gLt, gGt, gGe, gCmp, truD, enuD, rngD, gtName, gtTup, gsCons, gsNil, Option.map_some, Option.bind_some, Option.bind_eq_bind, wipeD, List.map_cons, List.map_nil, List.getElem?_cons_zero, List.getElem?_cons_succ, List.cons_append, List.nil_append, Bool.false_eq_true, if_false, if_true, List.length_cons, List.length_nil, List.set_cons_zero, List.set_cons_succ, List.replicate, Bool.not_true, Bool.not_false, reduceIte]
    exact ⟨trivial, _, _, _, rfl⟩
  · subst hP hρ
    rw [enu_len, il_len, G.len]
    simp (decide := true) only [sSeq, sRet, sSkip, sSet, sIf, sAsg, sApp, sExt, sFor, eVar, eC, eOp, eUn, eB, eCons, eCall, eCallP, eTup, eLst, vAnd, vNot, tBool, tTru, tNot', tOr', tAnd', iRng, iSeq, iEnu, ePeek, bodyF, rho0, tr_bnd, tr_ret, tr_lift, tr_noP, tr_noX, gLe, gLt, gGt, gGe, gCmp, truD, enuD, rngD, gtName, gtTup, gsCons, gsNil, Option.map_some, Option.bind_some, Option.bind_eq_bind, wipeD, List.map_cons, List.map_nil, List.getElem?_cons_zero, List.getElem?_cons_succ, List.cons_append, List.nil_append, Bool.false_eq_true, if_false, if_true, List.length_cons, List.length_nil, List.set_cons_zero, List.set_cons_succ, List.replicate, Bool.not_true, Bool.not_false, reduceIte, sRetO]
    try exact ⟨rfl, trivial⟩
end K23

end
section
set_option Elab.async false
set_option linter.all false
set_option maxRecDepth 100000
set_option maxHeartbeats 4000000
namespace K23
open PySem PySem.Spec L2 DL
theorem lefs_at {ps : List (List Int)} {gs : List Int} {n k : Nat} {d : D} (h : ((List.range n).map fun k => lD (lefN ps gs k))[k]? = some d) : k < n ∧ d = lD (lefN ps gs k) := by
  rw [List.getElem?_map, Option.map_eq_some_iff] at h
  obtain ⟨j, e, rfl⟩ := h
  have hl := (List.getElem?_eq_some_iff.mp e).1
  rw [List.length_range] at hl
  rw [List.getElem?_range hl] at e
  cases e
  exact ⟨hl, rfl⟩
theorem lefs_len (ps : List (List Int)) (gs : List Int) (n : Nat) : ((List.range n).map fun k => lD (lefN ps gs k)).length = n := by simp
theorem hmem {ps : List (List Int)} (A : Pl ps) {gs : List Int} (G : OkG ps gs) {k : Nat} (hk : k < ps.length) : ∀ y, lefN ps gs k = some y → y ∈ ordN ps gs k ∧ 0 ≤ y ∧ y < (k : Int) := fun y hy => by
  have e := List.getElem?_eq_getElem hk
  have hk2 : k < gs.length := by rw [G.len]; exact hk
  have eg := List.getElem?_eq_getElem hk2
  by_cases hg : 0 < gs[k]
  · obtain ⟨y', h1, _, h3, h4⟩ := lef_some A G e eg hg
    rw [hy] at h1; cases h1; exact ⟨h3, h4⟩
  · rw [lef_none (by rw [List.getD_eq_getElem?_getD, eg]; exact hg)] at hy; cases hy
theorem lin_at (ps : List (List Int)) (gs : List Int) {k : Nat} {y : Int} (h0 : 0 ≤ y) (h1 : y < (k : Int)) : gIx (.list (tupT (linN ps gs k))) (.int y) = some (.tuple (il ((linN ps gs k).getD y.toNat []))) := by
  have hl : y.toNat < (linN ps gs k).length := by rw [lin_len]; omega
  refine atI_at h0 (tupT_at ?_)
  rw [List.getD_eq_getElem?_getD, List.getElem?_eq_getElem hl]; rfl
theorem lin_at' (ps : List (List Int)) (gs : List Int) {k : Nat} {y : Int} (h0 : 0 ≤ y) (h1 : y < (k : Int)) : ((linN ps gs k).getD y.toNat []).length ≤ k := by
  have hl : y.toNat < (linN ps gs k).length := by rw [lin_len]; omega
  rw [List.getD_eq_getElem?_getD, List.getElem?_eq_getElem hl]
  exact lin_short ps gs k _ (List.getElem_mem hl)
theorem gAdd_til {l : List Int} {x : Int} (h : l.length ≤ 1000) : gAdd (.tuple (il l)) (.tuple [.int x]) = some (.tuple (il (l ++ [x]))) := by
  show (if _ then _ else _) = _
  rw [if_pos (by rw [il_len]; simp; omega)]
  unfold il
  rw [List.map_append]; rfl
theorem lin_snoc (ps : List (List Int)) (gs : List Int) (k : Nat) : linN ps gs (k + 1) = linN ps gs k ++ [match lefN ps gs k with | none => [(k : Int)] | some y => (linN ps gs k).getD y.toNat [] ++ [(k : Int)]] := rfl
theorem tup_snoc (ls : List (List Int)) (l : List Int) : tupT (ls ++ [l]) = tupT ls ++ [.tuple (il l)] := by unfold tupT; rw [List.map_append]; rfl
theorem ev_chains_at {ps : List (List Int)} (A : Pl ps) {gs : List Int} (G : OkG ps gs) : F_chains_at [.tuple (tupT ps), .tuple (il gs)] = DL.ret (.tuple (tupT (linN ps gs ps.length))) := by
  have h40 := A.l
  refine eq_of fun P => ?_
  simp (decide := true) only [sSeq, sRet, sSkip, sSet, sIf, sAsg, sApp, sExt, sFor, eVar, eC, eOp, eUn, eB, eCons, eCall, eCallP, eTup, eLst, vAnd, vNot, tBool, tTru, tNot', tOr', tAnd', iRng, iSeq, iEnu, ePeek, bodyF, rho0, tr_bnd, tr_ret, tr_lift, tr_noP, tr_noX, gLe, gLt, gGt, gGe, gCmp, truD, enuD, rngD, gtName, gtTup, gsCons, gsNil, Option.map_some, Option.bind_some, Option.bind_eq_bind, wipeD, List.map_cons, List.map_nil, List.getElem?_cons_zero, List.getElem?_cons_succ, List.cons_append, List.nil_append, Bool.false_eq_true, if_false, if_true, List.length_cons, List.length_nil, List.set_cons_zero, List.set_cons_succ, List.replicate, Bool.not_true, Bool.not_false, reduceIte, F_chains_at, f_chains_at, ev_neighbours A G, enuD]
  refine tr_for (fun k ρ P' => P' = P ∧ ∃ x y, ρ = [some (.tuple (tupT ps)), some (.tuple (il gs)), some (.list (tupT (linN ps gs k))), x, y]) ⟨rfl, _, _, rfl⟩ (fun k d ρ P' he ⟨hP, x, y, hρ⟩ => ?_) (fun ρ P' ⟨hP, x, y, hρ⟩ => ?_)
  · subst hP hρ
    obtain ⟨v, hv, rfl⟩ := enu_get he
    obtain ⟨hk, rfl⟩ := lefs_at hv
    have ll := lin_len ps gs k
    have hl4 : (tupT (linN ps gs k)).length < 1000000 := by rw [DL.tupT_len]; omega
    refine ⟨_, rfl, ?_⟩
    cases hl : lefN ps gs k with
    | none =>
      have gi : gIsN false .none .none = some (.bool true) := rfl
      have e5 : tupT (linN ps gs k) ++ [.tuple [.int (k : Int)]] = tupT (linN ps gs (k + 1)) := by rw [lin_snoc, hl, tup_snoc]; rfl
      simp (decide := true) only [sSeq, sRet, sSkip, sSet, sIf, sAsg, sApp, sExt, sFor, eVar, eC, eOp, eUn, eB, eCons, eCall, eCallP, eTup, eLst, vAnd, vNot, tBool, tTru, tNot', tOr', tAnd', iRng, iSeq, iEnu, ePeek, bodyF, rho0, tr_bnd, tr_ret, tr_lift, tr_noP, tr_noX, gLe, gLt, gGt, gGe, gCmp, truD, enuD, rngD, gtName, gtTup, gsCons, gsNil, Option.map_some, Option.bind_some, Option.bind_eq_bind, wipeD, List.map_cons, List.map_nil, List.getElem?_cons_zero, List.getElem?_cons_succ, List.cons_append, List.nil_append, Bool.false_eq_true, if_false, if_true, List.length_cons, List.length_nil, List.set_cons_zero, List.set_cons_succ, List.replicate, Bool.not_true, Bool.not_false, reduceIte, eIf, lD, gi, lstAt, hl4, e5]
      exact ⟨trivial, _, _, rfl⟩
    | some y =>
      obtain ⟨_, h0, h1⟩ := hmem A G hk y hl
      have gi : gIsN false (.int y) .none = some (.bool false) := rfl
      have sh := lin_at' ps gs h0 h1
      have e5 : tupT (linN ps gs k) ++ [.tuple (il ((linN ps gs k).getD y.toNat [] ++ [(k : Int)]))] = tupT (linN ps gs (k + 1)) := by rw [lin_snoc, hl, tup_snoc]
      simp (decide := true) only [sSeq, sRet, sSkip, sSet, sIf, sAsg, sApp, sExt, sFor, eVar, eC, eOp, eUn, eB, eCons, eCall, eCallP, eTup, eLst, vAnd, vNot, tBool, tTru, tNot', tOr', tAnd', iRng, iSeq, iEnu, ePeek, bodyF, rho0, tr_bnd, tr_ret, tr_lift, tr_noP, tr_noX, gLe, gLt, gGt, gGe, gCmp, truD, enuD, rngD, gtName, gtTup, gsCons, gsNil, Option.map_some, Option.bind_some, Option.bind_eq_bind, wipeD, List.map_cons, List.map_nil, List.getElem?_cons_zero, List.getElem?_cons_succ, List.cons_append, List.nil_append, Bool.false_eq_true, if_false, if_true, List.length_cons, List.length_nil, List.set_cons_zero, List.set_cons_succ, List.replicate, Bool.not_true, Bool.not_false, reduceIte, eIf, lD, gi, lstAt, hl4, lin_at ps gs h0 h1, gAdd_til (x := (k : Int)) (show ((linN ps gs k).getD y.toNat []).length ≤ 1000 by omega), e5]
      exact ⟨trivial, _, _, rfl⟩
  · subst hP hρ
    rw [enu_len, lefs_len]
    simp (decide := true) only [sSeq, sRet, sSkip, sSet, sIf, sAsg, sApp, sExt, sFor, eVar, eC, eOp, eUn, eB, eCons, eCall, eCallP, eTup, eLst, vAnd, vNot, tBool, tTru, tNot', tOr', tAnd', iRng, iSeq, iEnu, ePeek, bodyF, rho0, tr_bnd, tr_ret, tr_lift, tr_noP, tr_noX, gLe, gLt, gGt, gGe, gCmp, truD, enuD, rngD, gtName, gtTup, gsCons, gsNil, Option.map_some, Option.bind_some, Option.bind_eq_bind, wipeD, List.map_cons, List.map_nil, List.getElem?_cons_zero, List.getElem?_cons_succ, List.cons_append, List.nil_append, Bool.false_eq_true, if_false, if_true, List.length_cons, List.length_nil, List.set_cons_zero, List.set_cons_succ, List.replicate, Bool.not_true, Bool.not_false, reduceIte, gTuple]
    try exact ⟨rfl, trivial⟩
theorem ev_placed {ps : List (List Int)} (A : Pl ps) {gs : List Int} (G : OkG ps gs) : F_placed [.list ((List.range ps.length).map fun k => lD (lefN ps gs k))] = DL.ret (.list (il (ordN ps gs ps.length))) := by
  have h40 := A.l
  refine eq_of fun P => ?_
  simp (decide := true) only [sSeq, sRet, sSkip, sSet, sIf, sAsg, sApp, sExt, sFor, eVar, eC, eOp, eUn, eB, eCons, eCall, eCallP, eTup, eLst, vAnd, vNot, tBool, tTru, tNot', tOr', tAnd', iRng, iSeq, iEnu, ePeek, bodyF, rho0, tr_bnd, tr_ret, tr_lift, tr_noP, tr_noX, gLe, gLt, gGt, gGe, gCmp, truD, enuD, rngD, gtName, gtTup, gsCons, gsNil, Option.map_some, Option.bind_some, Option.bind_eq_bind, wipeD, List.map_cons, List.map_nil, List.getElem?_cons_zero, List.getElem?_cons_succ, List.cons_append, List.nil_append, Bool.false_eq_true, if_false, if_true, List.length_cons, List.length_nil, List.set_cons_zero, List.set_cons_succ, List.replicate, Bool.not_true, Bool.not_false, reduceIte, F_placed, f_placed, enuD]
  refine tr_for (fun k ρ P' => P' = P ∧ ∃ x y, ρ = [some (.list ((List.range ps.length).map fun k => lD (lefN ps gs k))), some (.list (il (ordN ps gs k))), x, y]) ⟨rfl, _, _, rfl⟩ (fun k d ρ P' he ⟨hP, x, y, hρ⟩ => ?_) (fun ρ P' ⟨hP, x, y, hρ⟩ => ?_)
  · subst hP hρ
    obtain ⟨v, hv, rfl⟩ := enu_get he
    obtain ⟨hk, rfl⟩ := lefs_at hv
    have ol := ord_len ps gs k
    refine ⟨_, rfl, ?_⟩
    simp (decide := true) only [sSeq, sRet, sSkip, sSet, sIf, sAsg, sApp, sExt, sFor, eVar, eC, eOp, eUn, eB, eCons, eCall, eCallP, eTup, eLst, vAnd, vNot, tBool, tTru, tNot', tOr', tAnd', iRng, iSeq, iEnu, ePeek, bodyF, rho0, tr_bnd, tr_ret, tr_lift, tr_noP, tr_noX, gLe, gLt, gGt, gGe, gCmp, truD, enuD, rngD, gtName, gtTup, gsCons, gsNil, Option.map_some, Option.bind_some, Option.bind_eq_bind, wipeD, List.map_cons, List.map_nil, List.getElem?_cons_zero, List.getElem?_cons_succ, List.cons_append, List.nil_append, Bool.false_eq_true, if_false, if_true, List.length_cons, List.length_nil, List.set_cons_zero, List.set_cons_succ, List.replicate, Bool.not_true, Bool.not_false, reduceIte]
    rw [sMut_of (es := il (ordN ps gs k)) (ds := [lD (lefN ps gs k), .int (k : Int)]) (es' := il (ordN ps gs (k + 1))) rfl rfl (by rw [ord_snoc]; exact ev_put (by omega) fun y hy => (hmem A G hk y hy).1)]
    simp (decide := true) only [sSeq, sRet, sSkip, sSet, sIf, sAsg, sApp, sExt, sFor, eVar, eC, eOp, eUn, eB, eCons, eCall, eCallP, eTup, eLst, vAnd, vNot, tBool, tTru, tNot', tOr', tAnd', iRng, iSeq, iEnu, ePeek, bodyF, rho0, tr_bnd, tr_ret, tr_lift, tr_noP, tr_noX, gLe, gLt, gGt, gGe, gCmp, truD, enuD, rngD, gtName, gtTup, gsCons, gsNil, Option.map_some, Option.bind_some, Option.bind_eq_bind, wipeD, List.map_cons, List.map_nil, List.getElem?_cons_zero, List.getElem?_cons_succ, List.cons_append, List.nil_append, Bool.false_eq_true, if_false, if_true, List.length_cons, List.length_nil, List.set_cons_zero, List.set_cons_succ, List.replicate, Bool.not_true, Bool.not_false, reduceIte]
    exact ⟨trivial, _, _, rfl⟩
  · subst hP hρ
    rw [enu_len, lefs_len]
    simp (decide := true) only [sSeq, sRet, sSkip, sSet, sIf, sAsg, sApp, sExt, sFor, eVar, eC, eOp, eUn, eB, eCons, eCall, eCallP, eTup, eLst, vAnd, vNot, tBool, tTru, tNot', tOr', tAnd', iRng, iSeq, iEnu, ePeek, bodyF, rho0, tr_bnd, tr_ret, tr_lift, tr_noP, tr_noX, gLe, gLt, gGt, gGe, gCmp, truD, enuD, rngD, gtName, gtTup, gsCons, gsNil, Option.map_some, Option.bind_some, Option.bind_eq_bind, wipeD, List.map_cons, List.map_nil, List.getElem?_cons_zero, List.getElem?_cons_succ, List.cons_append, List.nil_append, Bool.false_eq_true, if_false, if_true, List.length_cons, List.length_nil, List.set_cons_zero, List.set_cons_succ, List.replicate, Bool.not_true, Bool.not_false, reduceIte, sRetO]
    try exact ⟨rfl, trivial⟩
theorem ev_order_at {ps : List (List Int)} (A : Pl ps) {gs : List Int} (G : OkG ps gs) : F_order_at [.tuple (tupT ps), .tuple (il gs)] = DL.ret (.tuple (il (ordN ps gs ps.length))) := by
  refine eq_of fun P => ?_
  simp (decide := true) only [sSeq, sRet, sSkip, sSet, sIf, sAsg, sApp, sExt, sFor, eVar, eC, eOp, eUn, eB, eCons, eCall, eCallP, eTup, eLst, vAnd, vNot, tBool, tTru, tNot', tOr', tAnd', iRng, iSeq, iEnu, ePeek, bodyF, rho0, tr_bnd, tr_ret, tr_lift, tr_noP, tr_noX, gLe, gLt, gGt, gGe, gCmp, truD, enuD, rngD, gtName, gtTup, gsCons, gsNil, Option.map_some, Option.bind_some, Option.bind_eq_bind, wipeD, List.map_cons, List.map_nil, List.getElem?_cons_zero, List.getElem?_cons_succ, List.cons_append, List.nil_append, Bool.false_eq_true, if_false, if_true, List.length_cons, List.length_nil, List.set_cons_zero, List.set_cons_succ, List.replicate, Bool.not_true, Bool.not_false, reduceIte, F_order_at, f_order_at, ev_neighbours A G, ev_placed A G, gTuple, seqD]
  try exact ⟨rfl, trivial⟩
theorem zip_at {ps : List (List Int)} {gs : List Int} {i : Nat} {d : D} (h : (zipD (tupT ps) (il gs))[i]? = some d) : ∃ (p : List Int) (g : Int), ps[i]? = some p ∧ gs[i]? = some g ∧ d = .tuple [.tuple (il p), .int g] := by
  unfold zipD at h
  rw [List.getElem?_map, Option.map_eq_some_iff] at h
  obtain ⟨j, e, rfl⟩ := h
  have hl := (List.getElem?_eq_some_iff.mp e).1
  rw [List.length_range, DL.tupT_len, il_len] at hl
  rw [List.getElem?_range (by rw [DL.tupT_len, il_len]; exact hl)] at e
  cases e
  have h1 := List.getElem?_eq_getElem (show i < ps.length by omega)
  have h2 := List.getElem?_eq_getElem (show i < gs.length by omega)
  refine ⟨_, _, h1, h2, ?_⟩
  rw [List.getD_eq_getElem?_getD, List.getD_eq_getElem?_getD, tupT_at h1]
  unfold il
  rw [List.getElem?_map, h2]; rfl
theorem zip_len {ps : List (List Int)} {gs : List Int} (h : gs.length = ps.length) : (zipD (tupT ps) (il gs)).length = ps.length := by
  rw [zipD_len, DL.tupT_len, il_len, h, Nat.min_self]
theorem ev_is_run {ps : List (List Int)} (A : Pl ps) {gs : List Int} (G : OkG ps gs) : F_is_run [.tuple (tupT ps), .tuple (il gs)] = DL.ret (.bool true) := by
  have hz := zip_len G.len
  have e := lc_all (vs := [2, 3]) (fi := DL.iZip (eCons (eVar 0) (eCons (eVar 1) (fun _ => DL.ret [])))) (g := gtTup 2 (gsCons (gtName 2) (gsCons (gtName 3) gsNil))) (te := eCall F_is_number (eCons (eC (.int 0)) (eCons (eB gLen (eCons (eVar 2) (fun _ => DL.ret []))) (eCons (eVar 3) (fun _ => DL.ret [])))))
    (ρ := [some (.tuple (tupT ps)), some (.tuple (il gs)), none, none]) (ds := zipD (tupT ps) (il gs)) (fun _ => .bool true) rfl (by rw [hz]; have := A.l; omega) (fun d hd => by
      obtain ⟨i, hi⟩ := List.getElem?_of_mem hd
      obtain ⟨p, g, e1, e2, rfl⟩ := zip_at hi
      have hv := G.ok i p g e1 e2
      refine ⟨_, rfl, ?_⟩
      refine call_of (cons_of rfl (cons_of (bi_of (cons_of rfl rfl) (gLen_til p)) (cons_of rfl rfl))) ?_
      rw [ev_is_number, decide_eq_true hv.1, decide_eq_true hv.2]
      rfl)
  refine eq_of fun P => ?_
  have h1 : gIs "tuple" (.tuple (il gs)) = some (.bool true) := rfl
  simp (decide := true) only [sSeq, sRet, sSkip, sSet, sIf, sAsg, sApp, sExt, sFor, eVar, eC, eOp, eUn, eB, eCons, eCall, eCallP, eTup, eLst, vAnd, vNot, tBool, tTru, tNot', tOr', tAnd', iRng, iSeq, iEnu, ePeek, bodyF, rho0, tr_bnd, tr_ret, tr_lift, tr_noP, tr_noX, gLe, gLt, gGt, gGe, gCmp, truD, enuD, rngD, gtName, gtTup, gsCons, gsNil, Option.map_some, Option.bind_some, Option.bind_eq_bind, wipeD, List.map_cons, List.map_nil, List.getElem?_cons_zero, List.getElem?_cons_succ, List.cons_append, List.nil_append, Bool.false_eq_true, if_false, if_true, List.length_cons, List.length_nil, List.set_cons_zero, List.set_cons_succ, List.replicate, Bool.not_true, Bool.not_false, reduceIte, F_is_run, f_is_run, h1, gLen_til, DL.gLen_tup, gNe_int, G.len, beq_self_eq_true]
  rw [e]
  simp (decide := true) only [sSeq, sRet, sSkip, sSet, sIf, sAsg, sApp, sExt, sFor, eVar, eC, eOp, eUn, eB, eCons, eCall, eCallP, eTup, eLst, vAnd, vNot, tBool, tTru, tNot', tOr', tAnd', iRng, iSeq, iEnu, ePeek, bodyF, rho0, tr_bnd, tr_ret, tr_lift, tr_noP, tr_noX, gLe, gLt, gGt, gGe, gCmp, truD, enuD, rngD, gtName, gtTup, gsCons, gsNil, Option.map_some, Option.bind_some, Option.bind_eq_bind, wipeD, List.map_cons, List.map_nil, List.getElem?_cons_zero, List.getElem?_cons_succ, List.cons_append, List.nil_append, Bool.false_eq_true, if_false, if_true, List.length_cons, List.length_nil, List.set_cons_zero, List.set_cons_succ, List.replicate, Bool.not_true, Bool.not_false, reduceIte, gAll_true]
  try exact ⟨rfl, rfl⟩
theorem ev_need_run {ps : List (List Int)} (A : Pl ps) {gs : List Int} (G : OkG ps gs) : F_need_run [.tuple (tupT ps), .tuple (il gs)] = DL.ret .none := by
  refine eq_of fun P => ?_
  simp (decide := true) only [sSeq, sRet, sSkip, sSet, sIf, sAsg, sApp, sExt, sFor, eVar, eC, eOp, eUn, eB, eCons, eCall, eCallP, eTup, eLst, vAnd, vNot, tBool, tTru, tNot', tOr', tAnd', iRng, iSeq, iEnu, ePeek, bodyF, rho0, tr_bnd, tr_ret, tr_lift, tr_noP, tr_noX, gLe, gLt, gGt, gGe, gCmp, truD, enuD, rngD, gtName, gtTup, gsCons, gsNil, Option.map_some, Option.bind_some, Option.bind_eq_bind, wipeD, List.map_cons, List.map_nil, List.getElem?_cons_zero, List.getElem?_cons_succ, List.cons_append, List.nil_append, Bool.false_eq_true, if_false, if_true, List.length_cons, List.length_nil, List.set_cons_zero, List.set_cons_succ, List.replicate, Bool.not_true, Bool.not_false, reduceIte, F_need_run, f_need_run, ev_is_run A G]
  try exact ⟨rfl, rfl⟩
theorem ev_names {ps : List (List Int)} (A : Pl ps) {gs : List Int} (G : OkG ps gs) : F_names [.tuple (tupT ps), .tuple (il gs)] = DL.ret (.tuple (tupT (linN ps gs ps.length))) := by
  refine eq_of fun P => ?_
  simp (decide := true) only [sSeq, sRet, sSkip, sSet, sIf, sAsg, sApp, sExt, sFor, eVar, eC, eOp, eUn, eB, eCons, eCall, eCallP, eTup, eLst, vAnd, vNot, tBool, tTru, tNot', tOr', tAnd', iRng, iSeq, iEnu, ePeek, bodyF, rho0, tr_bnd, tr_ret, tr_lift, tr_noP, tr_noX, gLe, gLt, gGt, gGe, gCmp, truD, enuD, rngD, gtName, gtTup, gsCons, gsNil, Option.map_some, Option.bind_some, Option.bind_eq_bind, wipeD, List.map_cons, List.map_nil, List.getElem?_cons_zero, List.getElem?_cons_succ, List.cons_append, List.nil_append, Bool.false_eq_true, if_false, if_true, List.length_cons, List.length_nil, List.set_cons_zero, List.set_cons_succ, List.replicate, Bool.not_true, Bool.not_false, reduceIte, F_names, f_names, sDrop, ev_need_plan A, ev_need_run A G, ev_chains_at A G]
  try exact ⟨rfl, rfl⟩
theorem ev_standing {ps : List (List Int)} (A : Pl ps) {gs : List Int} (G : OkG ps gs) : F_standing [.tuple (tupT ps), .tuple (il gs)] = DL.ret (.tuple (il (ordN ps gs ps.length))) := by
  refine eq_of fun P => ?_
  simp (decide := true) only [sSeq, sRet, sSkip, sSet, sIf, sAsg, sApp, sExt, sFor, eVar, eC, eOp, eUn, eB, eCons, eCall, eCallP, eTup, eLst, vAnd, vNot, tBool, tTru, tNot', tOr', tAnd', iRng, iSeq, iEnu, ePeek, bodyF, rho0, tr_bnd, tr_ret, tr_lift, tr_noP, tr_noX, gLe, gLt, gGt, gGe, gCmp, truD, enuD, rngD, gtName, gtTup, gsCons, gsNil, Option.map_some, Option.bind_some, Option.bind_eq_bind, wipeD, List.map_cons, List.map_nil, List.getElem?_cons_zero, List.getElem?_cons_succ, List.cons_append, List.nil_append, Bool.false_eq_true, if_false, if_true, List.length_cons, List.length_nil, List.set_cons_zero, List.set_cons_succ, List.replicate, Bool.not_true, Bool.not_false, reduceIte, F_standing, f_standing, sDrop, ev_need_plan A, ev_need_run A G, ev_order_at A G]
  try exact ⟨rfl, rfl⟩
end K23

end
section
set_option Elab.async false
set_option linter.all false
set_option maxRecDepth 100000
set_option maxHeartbeats 4000000
namespace K23
open PySem PySem.Spec L2 DL
theorem gs_ix {gs : List Int} {k : Nat} {g : Int} (e : gs[k]? = some g) : gIx (.tuple (il gs)) (.int (k : Int)) = some (.int g) := atI_nat' (by unfold il; rw [List.getElem?_map, e]; rfl)
theorem ev_law_document {ps : List (List Int)} (A : Pl ps) {gs : List Int} (G : OkG ps gs) : F__law_document [.tuple (tupT ps), .tuple (il gs)] = DL.ret (.tuple [.tuple (il (ordN ps gs ps.length)), .tuple (tupT (linN ps gs ps.length))]) := by
  have h40 := A.l
  have hO : okR (ps.length : Int) = true := okR_nat (by omega)
  refine eq_of fun P => ?_
  simp (decide := true) only [sSeq, sRet, sSkip, sSet, sIf, sAsg, sApp, sExt, sFor, eVar, eC, eOp, eUn, eB, eCons, eCall, eCallP, eTup, eLst, vAnd, vNot, tBool, tTru, tNot', tOr', tAnd', iRng, iSeq, iEnu, ePeek, bodyF, rho0, tr_bnd, tr_ret, tr_lift, tr_noP, tr_noX, gLe, gLt, gGt, gGe, gCmp, truD, enuD, rngD, gtName, gtTup, gsCons, gsNil, Option.map_some, Option.bind_some, Option.bind_eq_bind, wipeD, List.map_cons, List.map_nil, List.getElem?_cons_zero, List.getElem?_cons_succ, List.cons_append, List.nil_append, Bool.false_eq_true, if_false, if_true, List.length_cons, List.length_nil, List.set_cons_zero, List.set_cons_succ, List.replicate, Bool.not_true, Bool.not_false, reduceIte, F__law_document, f__law_document, DL.gLen_tup, hO, Int.toNat_natCast]
  refine tr_for (fun k ρ P' => P' = P ∧ ∃ x y z, ρ = [some (.tuple (tupT ps)), some (.tuple (il gs)), some (.list (il (ordN ps gs k))), some (.list (tupT (linN ps gs k))), x, y, z, none]) ⟨rfl, _, _, _, rfl⟩ (fun k d ρ P' he ⟨hP, x, y, z, hρ⟩ => ?_) (fun ρ P' ⟨hP, x, y, z, hρ⟩ => ?_)
  · subst hP hρ
    obtain ⟨hk, rfl⟩ := intsD_at he
    have e := List.getElem?_eq_getElem hk
    generalize ps[k] = p at e
    have hk2 : k < gs.length := by rw [G.len]; exact hk
    have eg := List.getElem?_eq_getElem hk2
    generalize gs[k] = g at eg
    have hgb := G.ok k p g e eg
    have ol := ord_len ps gs k
    have ll := lin_len ps gs k
    have hl4 : (tupT (linN ps gs k)).length < 1000000 := by rw [DL.tupT_len]; omega
    have eg2 : gs.getD k 0 = g := by rw [List.getD_eq_getElem?_getD, eg]; rfl
    have c := lc_gen (vs := [7]) (fi := iOwn 2) (g := gtName 7) (tt := tBool (eOp (gIn false) (eVar 7) (eOp gIx (eVar 0) (eVar 4)))) (te := eVar 7) (ρ := [some (.tuple (tupT ps)), some (.tuple (il gs)), some (.list (il (ordN ps gs k))), some (.list (tupT (linN ps gs k))), some (.int (k : Int)), y, z, none]) (ds := il (ordN ps gs k)) (inR p) (fun d => d) rfl
      (by rw [il_len]; omega) (fun d hd => by
        unfold il at hd
        obtain ⟨x, _, rfl⟩ := List.mem_map.mp hd
        exact ⟨_, rfl, bool_of (op_of rfl (op_of rfl rfl (ixT_tup e)) gIn_row), fun _ => rfl⟩)
    rw [List.map_id', inR_il] at c
    refine ⟨_, rfl, ?_⟩
    simp (decide := true) only [sSeq, sRet, sSkip, sSet, sIf, sAsg, sApp, sExt, sFor, eVar, eC, eOp, eUn, eB, eCons, eCall, eCallP, eTup, eLst, vAnd, vNot, tBool, tTru, tNot', tOr', tAnd', iRng, iSeq, iEnu, ePeek, bodyF, rho0, tr_bnd, tr_ret, tr_lift, tr_noP, tr_noX, gLe, gLt, gGt, gGe, gCmp, truD, enuD, rngD, gtName, gtTup, gsCons, gsNil, Option.map_some, Option.bind_some, Option.bind_eq_bind, wipeD, List.map_cons, List.map_nil, List.getElem?_cons_zero, List.getElem?_cons_succ, List.cons_append, List.nil_append, Bool.false_eq_true, if_false, if_true, List.length_cons, List.length_nil, List.set_cons_zero, List.set_cons_succ, List.replicate, Bool.not_true, Bool.not_false, reduceIte]
    rw [c]
    by_cases hg : 0 < g
    · obtain ⟨w, h1, h2, h3, h4, h5⟩ := lef_some A G e eg hg
      have g0 : (g == 0) = false := by rw [beq_eq_false_iff_ne]; omega
      have gs1 : DL.gSub (.int g) (.int 1) = some (.int (g - 1)) := rfl
      have sh := lin_at' ps gs h4 h5
      have hw : (ordN ps gs k).idxOf w < (ordN ps gs k).length := List.idxOf_lt_length_of_mem h3
      have gd := insD_il (o := ordN ps gs k) (k := (ordN ps gs k).idxOf w + 1) (x := (k : Int)) (by omega) (by omega)
      have ga : gAdd (.int ((ordN ps gs k).idxOf w : Nat)) (.int 1) = some (.int (((ordN ps gs k).idxOf w + 1 : Nat) : Int)) := rfl
      have e5 : tupT (linN ps gs k) ++ [.tuple (il ((linN ps gs k).getD w.toNat [] ++ [(k : Int)]))] = tupT (linN ps gs (k + 1)) := by rw [lin_snoc, h1, tup_snoc]
      have e6 : (ordN ps gs k).take ((ordN ps gs k).idxOf w + 1) ++ [(k : Int)] ++ (ordN ps gs k).drop ((ordN ps gs k).idxOf w + 1) = ordN ps gs (k + 1) := by rw [ord_snoc, h1]; rfl
      rw [e6] at gd
      simp (decide := true) only [sSeq, sRet, sSkip, sSet, sIf, sAsg, sApp, sExt, sFor, eVar, eC, eOp, eUn, eB, eCons, eCall, eCallP, eTup, eLst, vAnd, vNot, tBool, tTru, tNot', tOr', tAnd', iRng, iSeq, iEnu, ePeek, bodyF, rho0, tr_bnd, tr_ret, tr_lift, tr_noP, tr_noX, gLe, gLt, gGt, gGe, gCmp, truD, enuD, rngD, gtName, gtTup, gsCons, gsNil, Option.map_some, Option.bind_some, Option.bind_eq_bind, wipeD, List.map_cons, List.map_nil, List.getElem?_cons_zero, List.getElem?_cons_succ, List.cons_append, List.nil_append, Bool.false_eq_true, if_false, if_true, List.length_cons, List.length_nil, List.set_cons_zero, List.set_cons_succ, List.replicate, Bool.not_true, Bool.not_false, reduceIte, gs_ix eg, gEq_int, g0, gs1, ix_seen hg h2, lstAt, hl4, lin_at ps gs h4 h5, gAdd_til (x := (k : Int)) (show ((linN ps gs k).getD w.toNat []).length ≤ 1000 by omega), e5, sIns, eIxO, ixOf_il h3, ga, gd]
      exact ⟨trivial, _, _, _, rfl⟩
    · have g0 : (g == 0) = true := by rw [beq_iff_eq]; omega
      have h1 : lefN ps gs k = none := lef_none (by rw [eg2]; exact hg)
      have gd := insD_il (o := ordN ps gs k) (k := 0) (x := (k : Int)) (by omega) (by omega)
      have e5 : tupT (linN ps gs k) ++ [.tuple [.int (k : Int)]] = tupT (linN ps gs (k + 1)) := by rw [lin_snoc, h1, tup_snoc]; rfl
      have e6 : (ordN ps gs k).take 0 ++ [(k : Int)] ++ (ordN ps gs k).drop 0 = ordN ps gs (k + 1) := by rw [ord_snoc, h1]; rfl
      rw [e6] at gd
      have gd : insD (il (ordN ps gs k)) (.int 0) (.int (k : Int)) = some (il (ordN ps gs (k + 1))) := gd
      simp (decide := true) only [sSeq, sRet, sSkip, sSet, sIf, sAsg, sApp, sExt, sFor, eVar, eC, eOp, eUn, eB, eCons, eCall, eCallP, eTup, eLst, vAnd, vNot, tBool, tTru, tNot', tOr', tAnd', iRng, iSeq, iEnu, ePeek, bodyF, rho0, tr_bnd, tr_ret, tr_lift, tr_noP, tr_noX, gLe, gLt, gGt, gGe, gCmp, truD, enuD, rngD, gtName, gtTup, gsCons, gsNil, Option.map_some, Option.bind_some, Option.bind_eq_bind, wipeD, List.map_cons, List.map_nil, List.getElem?_cons_zero, List.getElem?_cons_succ, List.cons_append, List.nil_append, Bool.false_eq_true, if_false, if_true, List.length_cons, List.length_nil, List.set_cons_zero, List.set_cons_succ, List.replicate, Bool.not_true, Bool.not_false, reduceIte, gs_ix eg, gEq_int, g0, lstAt, hl4, e5, sIns, gd]
      exact ⟨trivial, _, _, _, rfl⟩
  · subst hP hρ
    rw [intsD_len]
    simp (decide := true) only [sSeq, sRet, sSkip, sSet, sIf, sAsg, sApp, sExt, sFor, eVar, eC, eOp, eUn, eB, eCons, eCall, eCallP, eTup, eLst, vAnd, vNot, tBool, tTru, tNot', tOr', tAnd', iRng, iSeq, iEnu, ePeek, bodyF, rho0, tr_bnd, tr_ret, tr_lift, tr_noP, tr_noX, gLe, gLt, gGt, gGe, gCmp, truD, enuD, rngD, gtName, gtTup, gsCons, gsNil, Option.map_some, Option.bind_some, Option.bind_eq_bind, wipeD, List.map_cons, List.map_nil, List.getElem?_cons_zero, List.getElem?_cons_succ, List.cons_append, List.nil_append, Bool.false_eq_true, if_false, if_true, List.length_cons, List.length_nil, List.set_cons_zero, List.set_cons_succ, List.replicate, Bool.not_true, Bool.not_false, reduceIte, gTuple, seqD]
    try exact ⟨rfl, trivial⟩
/-! alike -/
theorem is_int (x : Int) : gIs "bool" (.int x) = some (.bool false) ∧ gIs "str" (.int x) = some (.bool false) ∧ gIs "int" (.int x) = some (.bool true) := ⟨rfl, rfl, rfl⟩
theorem is_tup (l : List D) : gIs "bool" (.tuple l) = some (.bool false) ∧ gIs "str" (.tuple l) = some (.bool false) ∧ gIs "int" (.tuple l) = some (.bool false) ∧ gIs "tuple" (.tuple l) = some (.bool true) ∧ gIs "list" (.tuple l) = some (.bool false) := ⟨rfl, rfl, rfl, rfl, rfl⟩
theorem al_int (j : Nat) (x : Int) : F__law_alike (j + 1) [.int x, .int x] = DL.ret (.bool true) := by
  have gi : gIsN false (.int x) .none = some (.bool false) := rfl
  refine eq_of fun P => ?_
  simp (decide := true) only [sSeq, sRet, sSkip, sSet, sIf, sAsg, sApp, sExt, sFor, eVar, eC, eOp, eUn, eB, eCons, eCall, eCallP, eTup, eLst, vAnd, vNot, tBool, tTru, tNot', tOr', tAnd', iRng, iSeq, iEnu, ePeek, bodyF, rho0, tr_bnd, tr_ret, tr_lift, tr_noP, tr_noX, gLe, gLt, gGt, gGe, gCmp, truD, enuD, rngD, gtName, gtTup, gsCons, gsNil, Option.map_some, Option.bind_some, Option.bind_eq_bind, wipeD, List.map_cons, List.map_nil, List.getElem?_cons_zero, List.getElem?_cons_succ, List.cons_append, List.nil_append, Bool.false_eq_true, if_false, if_true, List.length_cons, List.length_nil, List.set_cons_zero, List.set_cons_succ, List.replicate, Bool.not_true, Bool.not_false, reduceIte, F__law_alike, f__law_alike, gi, (is_int x).1, (is_int x).2.1, (is_int x).2.2, gEq_int, beq_self_eq_true]
  try exact ⟨rfl, rfl⟩
theorem al_tup (j : Nat) {l : List D} (hl : l.length ≤ 1000) (h : ∀ d ∈ l, F__law_alike (j + 1) [d, d] = DL.ret (.bool true)) : F__law_alike (j + 2) [.tuple l, .tuple l] = DL.ret (.bool true) := by
  have gi : gIsN false (.tuple l) .none = some (.bool false) := rfl
  have gl : gLen [.tuple l] = some (.int (l.length : Nat)) := rfl
  have hO : okR (l.length : Int) = true := okR_nat (by omega)
  have e := lc_all (vs := [2]) (fi := iRng (eCons (eB gLen (eCons (eVar 1) (fun _ => DL.ret []))) (fun _ => DL.ret []))) (g := gtName 2) (te := eCall (F__law_alike (j + 1)) (eCons (eOp gIx (eVar 0) (eVar 2)) (eCons (eOp gIx (eVar 1) (eVar 2)) (fun _ => DL.ret []))))
    (ρ := [some (.tuple l), some (.tuple l), none]) (ds := intsD 0 l.length) (fun _ => .bool true) (by refine eq_of fun P => ?_; simp (decide := true) only [sSeq, sRet, sSkip, sSet, sIf, sAsg, sApp, sExt, sFor, eVar, eC, eOp, eUn, eB, eCons, eCall, eCallP, eTup, eLst, vAnd, vNot, tBool, tTru, tNot', tOr', tAnd', iRng, iSeq, iEnu, ePeek, bodyF, rho0, tr_bnd, tr_ret, tr_lift, tr_noP, tr_noX, gLe, gLt, gGt, gGe, gCmp, truD, enuD, rngD, gtName, gtTup, gsCons, gsNil, Option.map_some, Option.bind_some, Option.bind_eq_bind, wipeD, List.map_cons, List.map_nil, List.getElem?_cons_zero, List.getElem?_cons_succ, List.cons_append, List.nil_append, Bool.false_eq_true, if_false, if_true, List.length_cons, List.length_nil, List.set_cons_zero, List.set_cons_succ, List.replicate, Bool.not_true, Bool.not_false, reduceIte, gl, hO, Int.toNat_natCast]) (by rw [intsD_len]; omega) (fun d hd => by
      obtain ⟨i, hi⟩ := List.getElem?_of_mem hd
      obtain ⟨hi2, rfl⟩ := intsD_at hi
      have e1 := List.getElem?_eq_getElem hi2
      have e2 : gIx (.tuple l) (.int (i : Int)) = some l[i] := atI_nat' e1
      exact ⟨_, rfl, call_of (cons_of (op_of rfl rfl e2) (cons_of (op_of rfl rfl e2) rfl)) (h _ (List.getElem_mem hi2))⟩)
  refine eq_of fun P => ?_
  obtain ⟨t1, t2, t3, t4, t5⟩ := is_tup l
  show Tr (bodyF 0 (f__law_alike (F__law_alike (j + 1))) (rho0 false 3 [.tuple l, .tuple l])) P _
  generalize F__law_alike (j + 1) = rc at e ⊢
  simp (decide := true) only [sSeq, sRet, sSkip, sSet, sIf, sAsg, sApp, sExt, sFor, eVar, eC, eOp, eUn, eB, eCons, eCall, eCallP, eTup, eLst, vAnd, vNot, tBool, tTru, tNot', tOr', tAnd', iRng, iSeq, iEnu, ePeek, bodyF, rho0, tr_bnd, tr_ret, tr_lift, tr_noP, tr_noX, gLe, gLt, gGt, gGe, gCmp, truD, enuD, rngD, gtName, gtTup, gsCons, gsNil, Option.map_some, Option.bind_some, Option.bind_eq_bind, wipeD, List.map_cons, List.map_nil, List.getElem?_cons_zero, List.getElem?_cons_succ, List.cons_append, List.nil_append, Bool.false_eq_true, if_false, if_true, List.length_cons, List.length_nil, List.set_cons_zero, List.set_cons_succ, List.replicate, Bool.not_true, Bool.not_false, reduceIte, f__law_alike, gi, t1, t2, t3, t4, t5, gNe_boolB, bne_self_eq_false, gl, gNe_int, beq_self_eq_true]
  rw [e]
  simp (decide := true) only [sSeq, sRet, sSkip, sSet, sIf, sAsg, sApp, sExt, sFor, eVar, eC, eOp, eUn, eB, eCons, eCall, eCallP, eTup, eLst, vAnd, vNot, tBool, tTru, tNot', tOr', tAnd', iRng, iSeq, iEnu, ePeek, bodyF, rho0, tr_bnd, tr_ret, tr_lift, tr_noP, tr_noX, gLe, gLt, gGt, gGe, gCmp, truD, enuD, rngD, gtName, gtTup, gsCons, gsNil, Option.map_some, Option.bind_some, Option.bind_eq_bind, wipeD, List.map_cons, List.map_nil, List.getElem?_cons_zero, List.getElem?_cons_succ, List.cons_append, List.nil_append, Bool.false_eq_true, if_false, if_true, List.length_cons, List.length_nil, List.set_cons_zero, List.set_cons_succ, List.replicate, Bool.not_true, Bool.not_false, reduceIte, gAll_true]
  try exact ⟨rfl, rfl⟩
theorem al_il (j : Nat) {l : List Int} (hl : l.length ≤ 1000) : F__law_alike (j + 2) [.tuple (il l), .tuple (il l)] = DL.ret (.bool true) := al_tup j (by rw [il_len]; exact hl) fun d hd => by
  unfold il at hd
  obtain ⟨x, _, rfl⟩ := List.mem_map.mp hd
  exact al_int j x
theorem al_rows (j : Nat) {ls : List (List Int)} (hl : ls.length ≤ 1000) (h : ∀ l ∈ ls, l.length ≤ 1000) : F__law_alike (j + 3) [.tuple (tupT ls), .tuple (tupT ls)] = DL.ret (.bool true) := al_tup (j + 1) (by rw [DL.tupT_len]; exact hl) fun d hd => by
  unfold tupT at hd
  obtain ⟨l, hm, rfl⟩ := List.mem_map.mp hd
  exact al_il j (h l hm)
theorem ev_law_asked {ps : List (List Int)} (A : Pl ps) {gs : List Int} (G : OkG ps gs) : F__law_asked [.tuple (tupT ps), .tuple (il gs)] = DL.ret (.bool true) := by
  have h40 := A.l
  have ll := lin_len ps gs ps.length
  have a1 := al_rows 9 (ls := linN ps gs ps.length) (by omega) fun l hl => by have := lin_short ps gs _ l hl; omega
  have a2 := al_il 10 (l := ordN ps gs ps.length) (by rw [ord_len]; omega)
  refine eq_of fun P => ?_
  generalize hF : F__law_alike 12 = FA at a1 a2
  simp (decide := true) only [sSeq, sRet, sSkip, sSet, sIf, sAsg, sApp, sExt, sFor, eVar, eC, eOp, eUn, eB, eCons, eCall, eCallP, eTup, eLst, vAnd, vNot, tBool, tTru, tNot', tOr', tAnd', iRng, iSeq, iEnu, ePeek, bodyF, rho0, tr_bnd, tr_ret, tr_lift, tr_noP, tr_noX, gLe, gLt, gGt, gGe, gCmp, truD, enuD, rngD, gtName, gtTup, gsCons, gsNil, Option.map_some, Option.bind_some, Option.bind_eq_bind, wipeD, List.map_cons, List.map_nil, List.getElem?_cons_zero, List.getElem?_cons_succ, List.cons_append, List.nil_append, Bool.false_eq_true, if_false, if_true, List.length_cons, List.length_nil, List.set_cons_zero, List.set_cons_succ, List.replicate, Bool.not_true, Bool.not_false, reduceIte, F__law_asked, f__law_asked, hF, ev_law_document A G, ev_names A G, ev_standing A G, seqD, a1, a2]
  try exact ⟨rfl, rfl⟩
end K23

end
section
set_option Elab.async false
set_option linter.all false
set_option maxRecDepth 100000
set_option maxHeartbeats 4000000
namespace K23
open PySem PySem.Spec L2 DL
theorem tupT_get {ps : List (List Int)} {i : Nat} {d : D} (h : (tupT ps)[i]? = some d) : ∃ p, ps[i]? = some p ∧ d = .tuple (il p) := by
  unfold tupT at h
  rw [List.getElem?_map, Option.map_eq_some_iff] at h
  obtain ⟨p, h, rfl⟩ := h
  exact ⟨p, h, rfl⟩
theorem ev_law_run {ps : List (List Int)} (A : Pl ps) {P : Pool} (hp : PosS P) : Tr (F__law_run [.tuple (tupT ps)]) P fun d P' => PosS P' ∧ ∃ gs, OkG ps gs ∧ d = .tuple (il gs) := by
  have h40 := A.l
  simp (decide := true) only [sSeq, sRet, sSkip, sSet, sIf, sAsg, sApp, sExt, sFor, eVar, eC, eOp, eUn, eB, eCons, eCall, eCallP, eTup, eLst, vAnd, vNot, tBool, tTru, tNot', tOr', tAnd', iRng, iSeq, iEnu, ePeek, bodyF, rho0, tr_bnd, tr_ret, tr_lift, tr_noP, tr_noX, gLe, gLt, gGt, gGe, gCmp, truD, enuD, rngD, gtName, gtTup, gsCons, gsNil, Option.map_some, Option.bind_some, Option.bind_eq_bind, wipeD, List.map_cons, List.map_nil, List.getElem?_cons_zero, List.getElem?_cons_succ, List.cons_append, List.nil_append, Bool.false_eq_true, if_false, if_true, List.length_cons, List.length_nil, List.set_cons_zero, List.set_cons_succ, List.replicate, Bool.not_true, Bool.not_false, reduceIte, F__law_run, f__law_run]
  refine tr_lc ?_
  simp (decide := true) only [sSeq, sRet, sSkip, sSet, sIf, sAsg, sApp, sExt, sFor, eVar, eC, eOp, eUn, eB, eCons, eCall, eCallP, eTup, eLst, vAnd, vNot, tBool, tTru, tNot', tOr', tAnd', iRng, iSeq, iEnu, ePeek, bodyF, rho0, tr_bnd, tr_ret, tr_lift, tr_noP, tr_noX, gLe, gLt, gGt, gGe, gCmp, truD, enuD, rngD, gtName, gtTup, gsCons, gsNil, Option.map_some, Option.bind_some, Option.bind_eq_bind, wipeD, List.map_cons, List.map_nil, List.getElem?_cons_zero, List.getElem?_cons_succ, List.cons_append, List.nil_append, Bool.false_eq_true, if_false, if_true, List.length_cons, List.length_nil, List.set_cons_zero, List.set_cons_succ, List.replicate, Bool.not_true, Bool.not_false, reduceIte]
  refine tr_map (fun j acc P => PosS P ∧ ∃ gs : List Int, acc = il gs ∧ gs.length = j ∧ ∀ (i : Nat) (p : List Int) (g : Int), ps[i]? = some p → gs[i]? = some g → 0 ≤ g ∧ g ≤ p.length) ⟨hp, [], rfl, rfl, fun i p g _ e => by simp at e⟩ (fun j d acc P hd ⟨hp, gs, ha, hl, G⟩ => ?_) (fun acc P ⟨hp, gs, ha, hl, G⟩ => ?_)
  · subst ha
    obtain ⟨p, e, rfl⟩ := tupT_get hd
    have hp50 := A.short p (List.mem_of_getElem? e)
    unfold lcStep
    simp (decide := true) only [sSeq, sRet, sSkip, sSet, sIf, sAsg, sApp, sExt, sFor, eVar, eC, eOp, eUn, eB, eCons, eCall, eCallP, eTup, eLst, vAnd, vNot, tBool, tTru, tNot', tOr', tAnd', iRng, iSeq, iEnu, ePeek, bodyF, rho0, tr_bnd, tr_ret, tr_lift, tr_noP, tr_noX, gLe, gLt, gGt, gGe, gCmp, truD, enuD, rngD, gtName, gtTup, gsCons, gsNil, Option.map_some, Option.bind_some, Option.bind_eq_bind, wipeD, List.map_cons, List.map_nil, List.getElem?_cons_zero, List.getElem?_cons_succ, List.cons_append, List.nil_append, Bool.false_eq_true, if_false, if_true, List.length_cons, List.length_nil, List.set_cons_zero, List.set_cons_succ, List.replicate, Bool.not_true, Bool.not_false, reduceIte, gLen_til, gAdd, F__law_draw]
    refine ev_drawS (by omega) (by omega) hp fun v P4 v0 v1 hp4 => ?_
    try simp (decide := true) only [sSeq, sRet, sSkip, sSet, sIf, sAsg, sApp, sExt, sFor, eVar, eC, eOp, eUn, eB, eCons, eCall, eCallP, eTup, eLst, vAnd, vNot, tBool, tTru, tNot', tOr', tAnd', iRng, iSeq, iEnu, ePeek, bodyF, rho0, tr_bnd, tr_ret, tr_lift, tr_noP, tr_noX, gLe, gLt, gGt, gGe, gCmp, truD, enuD, rngD, gtName, gtTup, gsCons, gsNil, Option.map_some, Option.bind_some, Option.bind_eq_bind, wipeD, List.map_cons, List.map_nil, List.getElem?_cons_zero, List.getElem?_cons_succ, List.cons_append, List.nil_append, Bool.false_eq_true, if_false, if_true, List.length_cons, List.length_nil, List.set_cons_zero, List.set_cons_succ, List.replicate, Bool.not_true, Bool.not_false, reduceIte]
    refine ⟨hp4, gs ++ [v], by unfold il; rw [List.map_append]; rfl, by rw [List.length_append, hl]; rfl, fun i q g e1 e2 => ?_⟩
    by_cases hi : i < gs.length
    · rw [List.getElem?_append_left hi] at e2
      exact G i q g e1 e2
    · have : i = gs.length := by
        have := (List.getElem?_eq_some_iff.mp e2).1
        rw [List.length_append, List.length_singleton] at this; omega
      subst this
      rw [List.getElem?_append_right (Nat.le_refl _)] at e2
      simp at e2
      subst e2
      rw [hl, e] at e1
      cases e1
      omega
  · subst ha
    rw [DL.tupT_len] at hl
    refine ⟨by rw [il_len]; omega, ?_⟩
    simp (decide := true) only [sSeq, sRet, sSkip, sSet, sIf, sAsg, sApp, sExt, sFor, eVar, eC, eOp, eUn, eB, eCons, eCall, eCallP, eTup, eLst, vAnd, vNot, tBool, tTru, tNot', tOr', tAnd', iRng, iSeq, iEnu, ePeek, bodyF, rho0, tr_bnd, tr_ret, tr_lift, tr_noP, tr_noX, gLe, gLt, gGt, gGe, gCmp, truD, enuD, rngD, gtName, gtTup, gsCons, gsNil, Option.map_some, Option.bind_some, Option.bind_eq_bind, wipeD, List.map_cons, List.map_nil, List.getElem?_cons_zero, List.getElem?_cons_succ, List.cons_append, List.nil_append, Bool.false_eq_true, if_false, if_true, List.length_cons, List.length_nil, List.set_cons_zero, List.set_cons_succ, List.replicate, Bool.not_true, Bool.not_false, reduceIte, gTuple, seqD]
    exact ⟨hp, gs, ⟨hl, G⟩, rfl⟩
theorem gNin_lst {p : List Int} {x : Int} : gIn true (.int x) (.list (il p)) = some (.bool (!p.contains x)) := by
  unfold gIn
  simp only [seqD]
  rw [if_pos ⟨rfl, flat_il p⟩, any_il]; rfl
def outP (p : List Int) (d : D) : Bool := match d with | .int x => !p.contains x | _ => false
theorem outP_il (p : List Int) : ∀ q : List Int, (il q).filter (outP p) = il (q.filter fun x => !p.contains x)
  | [] => rfl
  | x :: q => by
    rw [show il (x :: q) = .int x :: il q from rfl, List.filter_cons, List.filter_cons, outP_il p q]
    show (if (!p.contains x) = true then _ else _) = _
    split <;> rfl
def Shut (rs : List (List Int)) (ks : List Int) : Prop := ∀ x ∈ ks, ∀ q, rs[x.toNat]? = some q → ∀ y ∈ q, y ∈ ks
theorem rng3_at {i : Nat} (hi : i ≤ 40) : rngD3 [.int ((i : Int) - 1), .int (-1), .int (-1)] = some (downD ((i : Int) - 1) i) := by
  show (if _ then _ else _) = _
  have o1 : okR ((i : Int) - 1) = true := by unfold okR; simp; omega
  rw [if_pos ⟨o1, by decide, rfl⟩, show ((i : Int) - 1 - -1).toNat = i by omega]
theorem wide_at3 {v : Int} (h0 : 0 ≤ v) (h1 : v < 3) : ∃ w : Int, 0 < w ∧ w ≤ 60 ∧ gIx (.list [.int 4, .int 14, .int 60]) (.int v) = some (.int w) := by
  have : v = 0 ∨ v = 1 ∨ v = 2 := by omega
  rcases this with rfl | rfl | rfl
  · exact ⟨4, by decide, by decide, rfl⟩
  · exact ⟨14, by decide, by decide, rfl⟩
  · exact ⟨60, by decide, by decide, rfl⟩
theorem ev_law_plan {size : Int} {P : Pool} (h0 : 0 ≤ size) (h1 : size ≤ 40) (hp : PosS P) : Tr (F__law_plan [.int size]) P fun d P' => PosS P' ∧ ∃ ps : List (List Int), d = .tuple (tupT ps) ∧ Pl ps := by
  have hO : okR size = true := by unfold okR; simp; omega
  have gl1 : gAdd (.int 1) = fun d => match d with | .int x => some (.int (1 + x)) | d => gAdd (.int 1) d := by
    funext d; cases d <;> rfl
  suffices h : Tr (f__law_plan (rho0 true 9 [.int size])) P fun oc P' => PosS P' ∧ ∃ ps : List (List Int), oc = .rt (.tuple (tupT ps)) ∧ Pl ps from by
    unfold F__law_plan bodyF
    refine tr_bnd.mpr (h.mono fun oc P' ⟨hp, ps, e, A⟩ => ?_)
    subst e
    simp (decide := true) only [sSeq, sRet, sSkip, sSet, sIf, sAsg, sApp, sExt, sFor, eVar, eC, eOp, eUn, eB, eCons, eCall, eCallP, eTup, eLst, vAnd, vNot, tBool, tTru, tNot', tOr', tAnd', iRng, iSeq, iEnu, ePeek, bodyF, rho0, tr_bnd, tr_ret, tr_lift, tr_noP, tr_noX, gLe, gLt, gGt, gGe, gCmp, truD, enuD, rngD, gtName, gtTup, gsCons, gsNil, Option.map_some, Option.bind_some, Option.bind_eq_bind, wipeD, List.map_cons, List.map_nil, List.getElem?_cons_zero, List.getElem?_cons_succ, List.cons_append, List.nil_append, Bool.false_eq_true, if_false, if_true, List.length_cons, List.length_nil, List.set_cons_zero, List.set_cons_succ, List.replicate, Bool.not_true, Bool.not_false, reduceIte]
    exact ⟨hp, ps, rfl, A⟩
  unfold f__law_plan
  refine tr_seqI (fun ρ P => PosS P ∧ ∃ w : Int, 0 < w ∧ w ≤ 60 ∧ ρ = [none, some (.int size), some (.int w), none, none, none, none, none, none]) ?_ fun ρ P ⟨hp, w, w0, w1, hρ⟩ => ?_
  · by_cases hs : size < 9
    · simp (decide := true) only [sSeq, sRet, sSkip, sSet, sIf, sAsg, sApp, sExt, sFor, eVar, eC, eOp, eUn, eB, eCons, eCall, eCallP, eTup, eLst, vAnd, vNot, tBool, tTru, tNot', tOr', tAnd', iRng, iSeq, iEnu, ePeek, bodyF, rho0, tr_bnd, tr_ret, tr_lift, tr_noP, tr_noX, gLe, gLt, gGt, gGe, gCmp, truD, enuD, rngD, gtName, gtTup, gsCons, gsNil, Option.map_some, Option.bind_some, Option.bind_eq_bind, wipeD, List.map_cons, List.map_nil, List.getElem?_cons_zero, List.getElem?_cons_succ, List.cons_append, List.nil_append, Bool.false_eq_true, if_false, if_true, List.length_cons, List.length_nil, List.set_cons_zero, List.set_cons_succ, List.replicate, Bool.not_true, Bool.not_false, reduceIte, eIf, decide_eq_true hs]
      exact ⟨_, rfl, hp, 4, by decide, by decide, rfl⟩
    · simp (decide := true) only [sSeq, sRet, sSkip, sSet, sIf, sAsg, sApp, sExt, sFor, eVar, eC, eOp, eUn, eB, eCons, eCall, eCallP, eTup, eLst, vAnd, vNot, tBool, tTru, tNot', tOr', tAnd', iRng, iSeq, iEnu, ePeek, bodyF, rho0, tr_bnd, tr_ret, tr_lift, tr_noP, tr_noX, gLe, gLt, gGt, gGe, gCmp, truD, enuD, rngD, gtName, gtTup, gsCons, gsNil, Option.map_some, Option.bind_some, Option.bind_eq_bind, wipeD, List.map_cons, List.map_nil, List.getElem?_cons_zero, List.getElem?_cons_succ, List.cons_append, List.nil_append, Bool.false_eq_true, if_false, if_true, List.length_cons, List.length_nil, List.set_cons_zero, List.set_cons_succ, List.replicate, Bool.not_true, Bool.not_false, reduceIte, eIf, decide_eq_false hs, F__law_draw]
      refine ev_drawS (by decide) (by decide) hp fun v P1 v0 v1 hp1 => ?_
      obtain ⟨w, w0, w1, e⟩ := wide_at3 v0 v1
      try simp (decide := true) only [sSeq, sRet, sSkip, sSet, sIf, sAsg, sApp, sExt, sFor, eVar, eC, eOp, eUn, eB, eCons, eCall, eCallP, eTup, eLst, vAnd, vNot, tBool, tTru, tNot', tOr', tAnd', iRng, iSeq, iEnu, ePeek, bodyF, rho0, tr_bnd, tr_ret, tr_lift, tr_noP, tr_noX, gLe, gLt, gGt, gGe, gCmp, truD, enuD, rngD, gtName, gtTup, gsCons, gsNil, Option.map_some, Option.bind_some, Option.bind_eq_bind, wipeD, List.map_cons, List.map_nil, List.getElem?_cons_zero, List.getElem?_cons_succ, List.cons_append, List.nil_append, Bool.false_eq_true, if_false, if_true, List.length_cons, List.length_nil, List.set_cons_zero, List.set_cons_succ, List.replicate, Bool.not_true, Bool.not_false, reduceIte, e]
      exact ⟨_, rfl, hp1, w, w0, w1, rfl⟩
  subst hρ
  refine tr_seqI (fun ρ P => PosS P ∧ ∃ l : Int, ρ = [none, some (.int size), some (.int w), some (.int l), none, none, none, none, none]) ?_ fun ρ P ⟨hp, l, hρ⟩ => ?_
  · simp (decide := true) only [sSeq, sRet, sSkip, sSet, sIf, sAsg, sApp, sExt, sFor, eVar, eC, eOp, eUn, eB, eCons, eCall, eCallP, eTup, eLst, vAnd, vNot, tBool, tTru, tNot', tOr', tAnd', iRng, iSeq, iEnu, ePeek, bodyF, rho0, tr_bnd, tr_ret, tr_lift, tr_noP, tr_noX, gLe, gLt, gGt, gGe, gCmp, truD, enuD, rngD, gtName, gtTup, gsCons, gsNil, Option.map_some, Option.bind_some, Option.bind_eq_bind, wipeD, List.map_cons, List.map_nil, List.getElem?_cons_zero, List.getElem?_cons_succ, List.cons_append, List.nil_append, Bool.false_eq_true, if_false, if_true, List.length_cons, List.length_nil, List.set_cons_zero, List.set_cons_succ, List.replicate, Bool.not_true, Bool.not_false, reduceIte, F__law_draw]
    refine ev_drawS (by decide) (by decide) hp fun v P1 v0 v1 hp1 => ?_
    have ga : gAdd (.int 1) (.int v) = some (.int (1 + v)) := rfl
    try simp (decide := true) only [sSeq, sRet, sSkip, sSet, sIf, sAsg, sApp, sExt, sFor, eVar, eC, eOp, eUn, eB, eCons, eCall, eCallP, eTup, eLst, vAnd, vNot, tBool, tTru, tNot', tOr', tAnd', iRng, iSeq, iEnu, ePeek, bodyF, rho0, tr_bnd, tr_ret, tr_lift, tr_noP, tr_noX, gLe, gLt, gGt, gGe, gCmp, truD, enuD, rngD, gtName, gtTup, gsCons, gsNil, Option.map_some, Option.bind_some, Option.bind_eq_bind, wipeD, List.map_cons, List.map_nil, List.getElem?_cons_zero, List.getElem?_cons_succ, List.cons_append, List.nil_append, Bool.false_eq_true, if_false, if_true, List.length_cons, List.length_nil, List.set_cons_zero, List.set_cons_succ, List.replicate, Bool.not_true, Bool.not_false, reduceIte, ga]
    exact ⟨_, rfl, hp1, _, rfl⟩
  subst hρ
  refine tr_seqI (fun ρ P => PosS P ∧ ρ = [none, some (.int size), some (.int w), some (.int l), some (.list []), none, none, none, none]) ?_ fun ρ P ⟨hp, hρ⟩ => ?_
  · simp (decide := true) only [sSeq, sRet, sSkip, sSet, sIf, sAsg, sApp, sExt, sFor, eVar, eC, eOp, eUn, eB, eCons, eCall, eCallP, eTup, eLst, vAnd, vNot, tBool, tTru, tNot', tOr', tAnd', iRng, iSeq, iEnu, ePeek, bodyF, rho0, tr_bnd, tr_ret, tr_lift, tr_noP, tr_noX, gLe, gLt, gGt, gGe, gCmp, truD, enuD, rngD, gtName, gtTup, gsCons, gsNil, Option.map_some, Option.bind_some, Option.bind_eq_bind, wipeD, List.map_cons, List.map_nil, List.getElem?_cons_zero, List.getElem?_cons_succ, List.cons_append, List.nil_append, Bool.false_eq_true, if_false, if_true, List.length_cons, List.length_nil, List.set_cons_zero, List.set_cons_succ, List.replicate, Bool.not_true, Bool.not_false, reduceIte]
    exact ⟨_, rfl, hp, rfl⟩
  subst hρ
  refine tr_seqI (fun ρ P => PosS P ∧ ∃ (rs : List (List Int)) (a b c : Option D), ρ = [none, some (.int size), some (.int w), some (.int l), some (.list (tupT rs)), a, b, c, none] ∧ rs.length ≤ 40 ∧ Rows rs) ?_ fun ρ P ⟨hp, rs, a, b, c, hρ, hrl, R⟩ => ?_
  · simp (decide := true) only [sSeq, sRet, sSkip, sSet, sIf, sAsg, sApp, sExt, sFor, eVar, eC, eOp, eUn, eB, eCons, eCall, eCallP, eTup, eLst, vAnd, vNot, tBool, tTru, tNot', tOr', tAnd', iRng, iSeq, iEnu, ePeek, bodyF, rho0, tr_bnd, tr_ret, tr_lift, tr_noP, tr_noX, gLe, gLt, gGt, gGe, gCmp, truD, enuD, rngD, gtName, gtTup, gsCons, gsNil, Option.map_some, Option.bind_some, Option.bind_eq_bind, wipeD, List.map_cons, List.map_nil, List.getElem?_cons_zero, List.getElem?_cons_succ, List.cons_append, List.nil_append, Bool.false_eq_true, if_false, if_true, List.length_cons, List.length_nil, List.set_cons_zero, List.set_cons_succ, List.replicate, Bool.not_true, Bool.not_false, reduceIte, hO]
    refine tr_for (fun i ρ P => PosS P ∧ ∃ (rs : List (List Int)) (a b c : Option D), ρ = [none, some (.int size), some (.int w), some (.int l), some (.list (tupT rs)), a, b, c, none] ∧ rs.length = i ∧ Rows rs) ⟨hp, [], _, _, _, rfl, rfl, rows_nil⟩ (fun i d ρ P he ⟨hp, rs, a, b, c, hρ, hrl, R⟩ => ?_) (fun ρ P ⟨hp, rs, a, b, c, hρ, hrl, R⟩ => ?_)
    · subst hρ
      obtain ⟨hi, rfl⟩ := intsD_at he
      have h4 : (tupT rs).length < 1000000 := by rw [DL.tupT_len]; omega
      have gs1 : DL.gSub (.int (i : Int)) (.int 1) = some (.int ((i : Int) - 1)) := rfl
      have gn : gNeg (.int 1) = some (.int (-1)) := rfl
      refine ⟨_, rfl, ?_⟩
      simp (decide := true) only [sSeq, sRet, sSkip, sSet, sIf, sAsg, sApp, sExt, sFor, eVar, eC, eOp, eUn, eB, eCons, eCall, eCallP, eTup, eLst, vAnd, vNot, tBool, tTru, tNot', tOr', tAnd', iRng, iSeq, iEnu, ePeek, bodyF, rho0, tr_bnd, tr_ret, tr_lift, tr_noP, tr_noX, gLe, gLt, gGt, gGe, gCmp, truD, enuD, rngD, gtName, gtTup, gsCons, gsNil, Option.map_some, Option.bind_some, Option.bind_eq_bind, wipeD, List.map_cons, List.map_nil, List.getElem?_cons_zero, List.getElem?_cons_succ, List.cons_append, List.nil_append, Bool.false_eq_true, if_false, if_true, List.length_cons, List.length_nil, List.set_cons_zero, List.set_cons_succ, List.replicate, Bool.not_true, Bool.not_false, reduceIte, iRngD3, gs1, gn, rng3_at (show i ≤ 40 by omega)]
      refine tr_for (fun k ρ P => PosS P ∧ ∃ (ks : List Int) (c : Option D), ρ = [none, some (.int size), some (.int w), some (.int l), some (.list (tupT rs)), some (.int (i : Int)), some (.list (il ks)), c, none] ∧ ks.length ≤ 41 * k ∧ ks.Nodup ∧ (∀ x ∈ ks, 0 ≤ x ∧ x < (i : Int)) ∧ Shut rs ks)
        ⟨hp, [], _, rfl, by simp, List.nodup_nil, by simp, by unfold Shut; simp⟩ (fun k d ρ P hk ⟨hp, ks, c, hρ, hkl, hnd, hb, hsh⟩ => ?_) (fun ρ P ⟨hp, ks, c, hρ, hkl, hnd, hb, hsh⟩ => ?_)
      · subst hρ
        rw [downD_get] at hk
        split at hk
        case isFalse => cases hk
        rename_i hki
        cases hk
        obtain ⟨x, hx⟩ : ∃ x : Int, x = (i : Int) - 1 - (k : Int) := ⟨_, rfl⟩
        rw [← hx]
        have x0 : 0 ≤ x := by omega
        have x1 : x < (i : Int) := by omega
        have eq := List.getElem?_eq_getElem (show x.toNat < rs.length by omega)
        generalize rs[x.toNat]'(by omega) = q at eq
        have ql := R.len eq
        have eqx : gIx (.list (tupT rs)) (.int x) = some (.tuple (il q)) := atI_at x0 (tupT_at eq)
        refine ⟨_, rfl, ?_⟩
        by_cases hin : ks.contains x = true
        · simp (decide := true) only [sSeq, sRet, sSkip, sSet, sIf, sAsg, sApp, sExt, sFor, eVar, eC, eOp, eUn, eB, eCons, eCall, eCallP, eTup, eLst, vAnd, vNot, tBool, tTru, tNot', tOr', tAnd', iRng, iSeq, iEnu, ePeek, bodyF, rho0, tr_bnd, tr_ret, tr_lift, tr_noP, tr_noX, gLe, gLt, gGt, gGe, gCmp, truD, enuD, rngD, gtName, gtTup, gsCons, gsNil, Option.map_some, Option.bind_some, Option.bind_eq_bind, wipeD, List.map_cons, List.map_nil, List.getElem?_cons_zero, List.getElem?_cons_succ, List.cons_append, List.nil_append, Bool.false_eq_true, if_false, if_true, List.length_cons, List.length_nil, List.set_cons_zero, List.set_cons_succ, List.replicate, Bool.not_true, Bool.not_false, reduceIte, gNin_lst, hin]
          exact ⟨hp, ks, _, rfl, by omega, hnd, hb, hsh⟩
        · have hin' : ks.contains x = false := by simpa using hin
          have hni : x ∉ ks := fun h => hin (List.contains_iff_mem.mpr h)
          simp (decide := true) only [sSeq, sRet, sSkip, sSet, sIf, sAsg, sApp, sExt, sFor, eVar, eC, eOp, eUn, eB, eCons, eCall, eCallP, eTup, eLst, vAnd, vNot, tBool, tTru, tNot', tOr', tAnd', iRng, iSeq, iEnu, ePeek, bodyF, rho0, tr_bnd, tr_ret, tr_lift, tr_noP, tr_noX, gLe, gLt, gGt, gGe, gCmp, truD, enuD, rngD, gtName, gtTup, gsCons, gsNil, Option.map_some, Option.bind_some, Option.bind_eq_bind, wipeD, List.map_cons, List.map_nil, List.getElem?_cons_zero, List.getElem?_cons_succ, List.cons_append, List.nil_append, Bool.false_eq_true, if_false, if_true, List.length_cons, List.length_nil, List.set_cons_zero, List.set_cons_succ, List.replicate, Bool.not_true, Bool.not_false, reduceIte, gNin_lst, hin', F__law_draw]
          refine ev_drawS w0 (by omega) hp fun v P1 v0 v1 hp1 => ?_
          by_cases hv : v < l
          · have g1 : gAdd (.list (il ks)) (.list [.int x]) = some (.list (il (ks ++ [x]))) := by
              show (if _ then _ else _) = _
              rw [if_pos (by rw [il_len]; simp; omega)]
              unfold il; rw [List.map_append]; rfl
            have cc := lc_gen (vs := [8]) (fi := iSeq (ePeek 4 (eVar 7))) (g := gtName 8) (tt := tBool (eOp (gIn true) (eVar 8) (eVar 6))) (te := eVar 8) (ρ := [none, some (.int size), some (.int w), some (.int l), some (.list (tupT rs)), some (.int (i : Int)), some (.list (il ks)), some (.int x), none]) (ds := il q) (outP ks) (fun d => d)
              (by refine eq_of fun P => ?_; simp (decide := true) only [sSeq, sRet, sSkip, sSet, sIf, sAsg, sApp, sExt, sFor, eVar, eC, eOp, eUn, eB, eCons, eCall, eCallP, eTup, eLst, vAnd, vNot, tBool, tTru, tNot', tOr', tAnd', iRng, iSeq, iEnu, ePeek, bodyF, rho0, tr_bnd, tr_ret, tr_lift, tr_noP, tr_noX, gLe, gLt, gGt, gGe, gCmp, truD, enuD, rngD, gtName, gtTup, gsCons, gsNil, Option.map_some, Option.bind_some, Option.bind_eq_bind, wipeD, List.map_cons, List.map_nil, List.getElem?_cons_zero, List.getElem?_cons_succ, List.cons_append, List.nil_append, Bool.false_eq_true, if_false, if_true, List.length_cons, List.length_nil, List.set_cons_zero, List.set_cons_succ, List.replicate, Bool.not_true, Bool.not_false, reduceIte, lstAt, eqx, seqD]) (by rw [il_len]; omega) (fun d hd => by
                unfold il at hd
                obtain ⟨y, _, rfl⟩ := List.mem_map.mp hd
                exact ⟨_, rfl, bool_of (op_of rfl rfl gNin_lst), fun _ => rfl⟩)
            rw [List.map_id', outP_il] at cc
            have fl := List.length_filter_le (fun y => !ks.contains y) q
            have g2 : gAdd (.list (il (ks ++ [x]))) (.list (il (q.filter fun y => !ks.contains y))) = some (.list (il (ks ++ [x] ++ q.filter fun y => !ks.contains y))) := by
              show (if _ then _ else _) = _
              rw [if_pos (by rw [il_len, il_len, List.length_append, List.length_singleton]; omega)]
              exact congrArg (fun z => some (PyData.list z)) (il_append _ _)
            try simp (decide := true) only [sSeq, sRet, sSkip, sSet, sIf, sAsg, sApp, sExt, sFor, eVar, eC, eOp, eUn, eB, eCons, eCall, eCallP, eTup, eLst, vAnd, vNot, tBool, tTru, tNot', tOr', tAnd', iRng, iSeq, iEnu, ePeek, bodyF, rho0, tr_bnd, tr_ret, tr_lift, tr_noP, tr_noX, gLe, gLt, gGt, gGe, gCmp, truD, enuD, rngD, gtName, gtTup, gsCons, gsNil, Option.map_some, Option.bind_some, Option.bind_eq_bind, wipeD, List.map_cons, List.map_nil, List.getElem?_cons_zero, List.getElem?_cons_succ, List.cons_append, List.nil_append, Bool.false_eq_true, if_false, if_true, List.length_cons, List.length_nil, List.set_cons_zero, List.set_cons_succ, List.replicate, Bool.not_true, Bool.not_false, reduceIte, decide_eq_true hv, g1]
            rw [cc]
            simp (decide := true) only [sSeq, sRet, sSkip, sSet, sIf, sAsg, sApp, sExt, sFor, eVar, eC, eOp, eUn, eB, eCons, eCall, eCallP, eTup, eLst, vAnd, vNot, tBool, tTru, tNot', tOr', tAnd', iRng, iSeq, iEnu, ePeek, bodyF, rho0, tr_bnd, tr_ret, tr_lift, tr_noP, tr_noX, gLe, gLt, gGt, gGe, gCmp, truD, enuD, rngD, gtName, gtTup, gsCons, gsNil, Option.map_some, Option.bind_some, Option.bind_eq_bind, wipeD, List.map_cons, List.map_nil, List.getElem?_cons_zero, List.getElem?_cons_succ, List.cons_append, List.nil_append, Bool.false_eq_true, if_false, if_true, List.length_cons, List.length_nil, List.set_cons_zero, List.set_cons_succ, List.replicate, Bool.not_true, Bool.not_false, reduceIte, g2]
            have qb : ∀ y ∈ q, 0 ≤ y ∧ y < x := fun y hy => by have := R.w _ q eq y hy; omega
            have fm : ∀ y, y ∈ (q.filter fun y => !ks.contains y) ↔ y ∈ q ∧ y ∉ ks := fun y => by
              rw [List.mem_filter]
              constructor
              · rintro ⟨h1, h2⟩
                exact ⟨h1, fun h => by rw [List.contains_iff_mem.mpr h] at h2; cases h2⟩
              · rintro ⟨h1, h2⟩
                refine ⟨h1, ?_⟩
                cases z : ks.contains y with
                | false => rfl
                | true => exact absurd (List.contains_iff_mem.mp z) h2
            have am : ∀ y, y ∈ ks ++ [x] ++ (q.filter fun y => !ks.contains y) ↔ y ∈ ks ∨ y = x ∨ y ∈ q := fun y => by
              rw [List.mem_append, List.mem_append, List.mem_singleton, fm]
              by_cases h : y ∈ ks <;> simp [h]
            refine ⟨hp1, _, _, rfl, ?_, ?_, fun y hy => ?_, fun z hz q' hq' y hy => ?_⟩
            · rw [List.length_append, List.length_append, List.length_singleton]; omega
            · refine List.nodup_append.mpr ⟨List.nodup_append.mpr ⟨hnd, by simp, fun a ha b hb e => ?_⟩, (R.s _ q eq |>.imp fun h => by omega : q.Nodup).filter _, fun a ha b hb e => ?_⟩
              · rw [List.mem_singleton] at hb; subst hb; subst e; exact hni ha
              · subst e
                obtain ⟨f1, f2⟩ := (fm a).mp hb
                rcases List.mem_append.mp ha with h | h
                · exact f2 h
                · rw [List.mem_singleton] at h; have := qb a f1; omega
            · rcases (am y).mp hy with h | rfl | h
              · exact hb y h
              · exact ⟨x0, x1⟩
              · have := qb y h; omega
            · refine (am y).mpr ?_
              rcases (am z).mp hz with h | rfl | h
              · exact .inl (hsh z h q' hq' y hy)
              · rw [eq] at hq'; cases hq'; exact .inr (.inr hy)
              · exact .inr (.inr (R.t _ q eq z h q' hq' y hy))
          · try simp (decide := true) only [sSeq, sRet, sSkip, sSet, sIf, sAsg, sApp, sExt, sFor, eVar, eC, eOp, eUn, eB, eCons, eCall, eCallP, eTup, eLst, vAnd, vNot, tBool, tTru, tNot', tOr', tAnd', iRng, iSeq, iEnu, ePeek, bodyF, rho0, tr_bnd, tr_ret, tr_lift, tr_noP, tr_noX, gLe, gLt, gGt, gGe, gCmp, truD, enuD, rngD, gtName, gtTup, gsCons, gsNil, Option.map_some, Option.bind_some, Option.bind_eq_bind, wipeD, List.map_cons, List.map_nil, List.getElem?_cons_zero, List.getElem?_cons_succ, List.cons_append, List.nil_append, Bool.false_eq_true, if_false, if_true, List.length_cons, List.length_nil, List.set_cons_zero, List.set_cons_succ, List.replicate, Bool.not_true, Bool.not_false, reduceIte, decide_eq_false hv]
            exact ⟨hp1, ks, _, rfl, by omega, hnd, hb, hsh⟩
      · subst hρ
        simp (decide := true) only [sSeq, sRet, sSkip, sSet, sIf, sAsg, sApp, sExt, sFor, eVar, eC, eOp, eUn, eB, eCons, eCall, eCallP, eTup, eLst, vAnd, vNot, tBool, tTru, tNot', tOr', tAnd', iRng, iSeq, iEnu, ePeek, bodyF, rho0, tr_bnd, tr_ret, tr_lift, tr_noP, tr_noX, gLe, gLt, gGt, gGe, gCmp, truD, enuD, rngD, gtName, gtTup, gsCons, gsNil, Option.map_some, Option.bind_some, Option.bind_eq_bind, wipeD, List.map_cons, List.map_nil, List.getElem?_cons_zero, List.getElem?_cons_succ, List.cons_append, List.nil_append, Bool.false_eq_true, if_false, if_true, List.length_cons, List.length_nil, List.set_cons_zero, List.set_cons_succ, List.replicate, Bool.not_true, Bool.not_false, reduceIte, gSorted_il, gTuple, seqD, lstAt, h4]
        rw [show tupT rs ++ [.tuple (il (sortI ks))] = tupT (rs ++ [sortI ks]) from by simp [tupT]]
        refine ⟨hp, rs ++ [sortI ks], _, _, _, rfl, by simp [hrl], R.snoc ?_ (sortI_lt hnd) ?_⟩
        · intro x hx; rw [hrl]; exact hb x (mem_sortI.mp hx)
        · intro x hx q hq y hy
          exact mem_sortI.mpr (hsh x (mem_sortI.mp hx) q hq y hy)
    · subst hρ
      rw [intsD_len] at hrl
      exact ⟨_, rfl, hp, rs, _, _, _, rfl, by omega, R⟩
  subst hρ
  simp (decide := true) only [sSeq, sRet, sSkip, sSet, sIf, sAsg, sApp, sExt, sFor, eVar, eC, eOp, eUn, eB, eCons, eCall, eCallP, eTup, eLst, vAnd, vNot, tBool, tTru, tNot', tOr', tAnd', iRng, iSeq, iEnu, ePeek, bodyF, rho0, tr_bnd, tr_ret, tr_lift, tr_noP, tr_noX, gLe, gLt, gGt, gGe, gCmp, truD, enuD, rngD, gtName, gtTup, gsCons, gsNil, Option.map_some, Option.bind_some, Option.bind_eq_bind, wipeD, List.map_cons, List.map_nil, List.getElem?_cons_zero, List.getElem?_cons_succ, List.cons_append, List.nil_append, Bool.false_eq_true, if_false, if_true, List.length_cons, List.length_nil, List.set_cons_zero, List.set_cons_succ, List.replicate, Bool.not_true, Bool.not_false, reduceIte, gTuple, seqD]
  exact ⟨hp, rs, rfl, ⟨R.w, clo_self_of R.s R.t, hrl⟩⟩
end K23

end
section
set_option Elab.async false
set_option linter.all false
set_option maxRecDepth 100000
set_option maxHeartbeats 4000000
namespace K23
open PySem PySem.Spec L2 DL
theorem tr_atP {α : Type} {m : M α} {P P0 : Pool} {Q : α → Pool → Prop} (h : Tr m P0 fun a _ => Q a P) : Tr (atP P0 m) P Q := by
  unfold Tr at h ⊢
  unfold atP
  cases z : m P0 with
  | none => rw [z] at h; exact h.elim
  | some r =>
    obtain ⟨r, p'⟩ := r
    rw [z] at h
    cases r <;> exact h
theorem asK_nat {k : Int} (h : 0 ≤ k) : asK (.int k) = some k := by
  show (if 0 ≤ k then some k else none) = _
  rw [if_pos h]
theorem ix_last {l : List D} {d : D} : gIx (.list (l ++ [d])) (.int (-1)) = some d := by
  show atI _ _ = _
  unfold atI ixN
  rw [if_neg (by decide), List.length_append, List.length_singleton, if_pos (by omega), Option.bind_some]
  have e : ((-1 : Int) + ((l.length + 1 : Nat) : Int)).toNat = l.length := by omega
  rw [e, List.getElem?_append_right (Nat.le_refl _)]
  simp
theorem tr_state {i : Nat} {ns : List Int} {k : Int} {fr : Rho → M Oc} {ρ : Rho} {P : Pool} {Q : Oc → Pool → Prop} (h0 : 0 ≤ k) (hi : i < ρ.length) (h : Tr (fr (ρ.set i none)) (stN ns k) fun a _ => Q a P) : Tr (sState i ns (eC (.int k)) fr ρ) P Q := by
  unfold sState
  refine tr_bnd.mpr ?_
  show Tr (DL.ret (PyData.int k)) P _
  refine tr_ret.mpr (tr_bnd.mpr ?_)
  rw [asK_nat h0]
  refine tr_lift.mpr ?_
  rw [if_pos hi]
  exact tr_atP h
theorem many_ex (ns : List Int) (ps : List (List Int)) (z : Int) : ∃ m : Nat, 0 < m ∧ m ≤ 62 ∧ eB gMin2 (eCons (eIf (tBool (eOp gLt (eVar 2) (eC (.int 9)))) (eC (.int 62)) (eC (.int 3))) (eCons (eB gMax2 (eCons (eC (.int 2)) (eCons (eOp DL.gSub (eC (.int (ns.length : Nat))) (eC (.int 1))) (fun _ => DL.ret [])))) (fun _ => DL.ret []))) [none, none, some (.int z), some (.tuple (tupT ps)), none, none, none] = DL.ret (.int (m : Int)) := by
  have gs1 : DL.gSub (.int (ns.length : Nat)) (.int 1) = some (.int ((ns.length : Int) - 1)) := rfl
  have key : ∀ c : Int, c = 62 ∨ c = 3 → ∃ m : Nat, 0 < m ∧ m ≤ 62 ∧ (gMax2 [.int 2, .int ((ns.length : Int) - 1)]).bind (fun b => gMin2 [.int c, b]) = some (.int (m : Int)) := fun c hc => by
    show ∃ m : Nat, 0 < m ∧ m ≤ 62 ∧ some (PyData.int (if (if (ns.length : Int) - 1 > 2 then (ns.length : Int) - 1 else 2) < c then (if (ns.length : Int) - 1 > 2 then (ns.length : Int) - 1 else 2) else c)) = some (.int (m : Int))
    obtain ⟨b, hb⟩ : ∃ b : Int, b = if (ns.length : Int) - 1 > 2 then (ns.length : Int) - 1 else 2 := ⟨_, rfl⟩
    rw [← hb]
    have b2 : 2 ≤ b := by rw [hb]; split <;> omega
    by_cases hbc : b < c
    · rw [if_pos hbc]
      exact ⟨b.toNat, by omega, by omega, by rw [show ((b.toNat : Nat) : Int) = b by omega]⟩
    · rw [if_neg hbc]
      exact ⟨c.toNat, by omega, by omega, by rw [show ((c.toNat : Nat) : Int) = c by omega]⟩
  by_cases hz : z < 9
  · obtain ⟨m, m0, m1, e⟩ := key 62 (.inl rfl)
    obtain ⟨b, e1, e2⟩ := Option.bind_eq_some_iff.mp e
    refine ⟨m, m0, m1, eq_of fun P => ?_⟩
    simp (decide := true) only [sSeq, sRet, sSkip, sSet, sIf, sAsg, sApp, sExt, sFor, eVar, eC, eOp, eUn, eB, eCons, eCall, eCallP, eTup, eLst, vAnd, vNot, tBool, tTru, tNot', tOr', tAnd', iRng, iSeq, iEnu, ePeek, bodyF, rho0, tr_bnd, tr_ret, tr_lift, tr_noP, tr_noX, gLe, gLt, gGt, gGe, gCmp, truD, enuD, rngD, gtName, gtTup, gsCons, gsNil, Option.map_some, Option.bind_some, Option.bind_eq_bind, wipeD, List.map_cons, List.map_nil, List.getElem?_cons_zero, List.getElem?_cons_succ, List.cons_append, List.nil_append, Bool.false_eq_true, if_false, if_true, List.length_cons, List.length_nil, List.set_cons_zero, List.set_cons_succ, List.replicate, Bool.not_true, Bool.not_false, reduceIte, eIf, decide_eq_true hz, gs1, e1, e2]
  · obtain ⟨m, m0, m1, e⟩ := key 3 (.inr rfl)
    obtain ⟨b, e1, e2⟩ := Option.bind_eq_some_iff.mp e
    refine ⟨m, m0, m1, eq_of fun P => ?_⟩
    simp (decide := true) only [sSeq, sRet, sSkip, sSet, sIf, sAsg, sApp, sExt, sFor, eVar, eC, eOp, eUn, eB, eCons, eCall, eCallP, eTup, eLst, vAnd, vNot, tBool, tTru, tNot', tOr', tAnd', iRng, iSeq, iEnu, ePeek, bodyF, rho0, tr_bnd, tr_ret, tr_lift, tr_noP, tr_noX, gLe, gLt, gGt, gGe, gCmp, truD, enuD, rngD, gtName, gtTup, gsCons, gsNil, Option.map_some, Option.bind_some, Option.bind_eq_bind, wipeD, List.map_cons, List.map_nil, List.getElem?_cons_zero, List.getElem?_cons_succ, List.cons_append, List.nil_append, Bool.false_eq_true, if_false, if_true, List.length_cons, List.length_nil, List.set_cons_zero, List.set_cons_succ, List.replicate, Bool.not_true, Bool.not_false, reduceIte, eIf, decide_eq_false hz, gs1, e1, e2]
theorem keeps : KeepsS n_law f_law := fun ns => by
  suffices h : Tr (f_law ns (List.replicate n_law.length none)) ⟨[], 0, 0⟩ fun oc _ => oc = .rt (.bool true) from by
    obtain ⟨a, P', e, q⟩ := h.ex
    exact ⟨P', by rw [e, q]⟩
  unfold f_law
  refine tr_state (by decide) (by decide) ?_
  have hp := posS_st ns 0
  generalize stN ns 0 = P at hp ⊢
  refine tr_seqI (fun ρ P => PosS P ∧ ∃ z : Int, 0 ≤ z ∧ z ≤ 40 ∧ ρ = [none, none, some (.int z), none, none, none, none]) ?_ fun ρ P ⟨hp, z, z0, z1, hρ⟩ => ?_
  · simp (decide := true) only [sSeq, sRet, sSkip, sSet, sIf, sAsg, sApp, sExt, sFor, eVar, eC, eOp, eUn, eB, eCons, eCall, eCallP, eTup, eLst, vAnd, vNot, tBool, tTru, tNot', tOr', tAnd', iRng, iSeq, iEnu, ePeek, bodyF, rho0, tr_bnd, tr_ret, tr_lift, tr_noP, tr_noX, gLe, gLt, gGt, gGe, gCmp, truD, enuD, rngD, gtName, gtTup, gsCons, gsNil, Option.map_some, Option.bind_some, Option.bind_eq_bind, wipeD, List.map_cons, List.map_nil, List.getElem?_cons_zero, List.getElem?_cons_succ, List.cons_append, List.nil_append, Bool.false_eq_true, if_false, if_true, List.length_cons, List.length_nil, List.set_cons_zero, List.set_cons_succ, List.replicate, Bool.not_true, Bool.not_false, reduceIte, F__law_draw]
    refine ev_drawS (by decide) (by decide) hp fun v P1 v0 v1 hp1 => ?_
    try simp (decide := true) only [sSeq, sRet, sSkip, sSet, sIf, sAsg, sApp, sExt, sFor, eVar, eC, eOp, eUn, eB, eCons, eCall, eCallP, eTup, eLst, vAnd, vNot, tBool, tTru, tNot', tOr', tAnd', iRng, iSeq, iEnu, ePeek, bodyF, rho0, tr_bnd, tr_ret, tr_lift, tr_noP, tr_noX, gLe, gLt, gGt, gGe, gCmp, truD, enuD, rngD, gtName, gtTup, gsCons, gsNil, Option.map_some, Option.bind_some, Option.bind_eq_bind, wipeD, List.map_cons, List.map_nil, List.getElem?_cons_zero, List.getElem?_cons_succ, List.cons_append, List.nil_append, Bool.false_eq_true, if_false, if_true, List.length_cons, List.length_nil, List.set_cons_zero, List.set_cons_succ, List.replicate, Bool.not_true, Bool.not_false, reduceIte]
    exact ⟨_, rfl, hp1, v, v0, by omega, rfl⟩
  subst hρ
  refine tr_seqI (fun ρ P => PosS P ∧ ∃ z : Int, 0 ≤ z ∧ z ≤ 40 ∧ ρ = [none, none, some (.int z), none, none, none, none]) ?_ fun ρ P ⟨hp, z, z0, z1, hρ⟩ => ?_
  · simp (decide := true) only [sSeq, sRet, sSkip, sSet, sIf, sAsg, sApp, sExt, sFor, eVar, eC, eOp, eUn, eB, eCons, eCall, eCallP, eTup, eLst, vAnd, vNot, tBool, tTru, tNot', tOr', tAnd', iRng, iSeq, iEnu, ePeek, bodyF, rho0, tr_bnd, tr_ret, tr_lift, tr_noP, tr_noX, gLe, gLt, gGt, gGe, gCmp, truD, enuD, rngD, gtName, gtTup, gsCons, gsNil, Option.map_some, Option.bind_some, Option.bind_eq_bind, wipeD, List.map_cons, List.map_nil, List.getElem?_cons_zero, List.getElem?_cons_succ, List.cons_append, List.nil_append, Bool.false_eq_true, if_false, if_true, List.length_cons, List.length_nil, List.set_cons_zero, List.set_cons_succ, List.replicate, Bool.not_true, Bool.not_false, reduceIte, F__law_draw]
    refine ev_drawS (by decide) (by decide) hp fun v P1 v0 v1 hp1 => ?_
    by_cases hv : v = 0
    · subst hv
      simp (decide := true) only [sSeq, sRet, sSkip, sSet, sIf, sAsg, sApp, sExt, sFor, eVar, eC, eOp, eUn, eB, eCons, eCall, eCallP, eTup, eLst, vAnd, vNot, tBool, tTru, tNot', tOr', tAnd', iRng, iSeq, iEnu, ePeek, bodyF, rho0, tr_bnd, tr_ret, tr_lift, tr_noP, tr_noX, gLe, gLt, gGt, gGe, gCmp, truD, enuD, rngD, gtName, gtTup, gsCons, gsNil, Option.map_some, Option.bind_some, Option.bind_eq_bind, wipeD, List.map_cons, List.map_nil, List.getElem?_cons_zero, List.getElem?_cons_succ, List.cons_append, List.nil_append, Bool.false_eq_true, if_false, if_true, List.length_cons, List.length_nil, List.set_cons_zero, List.set_cons_succ, List.replicate, Bool.not_true, Bool.not_false, reduceIte, gEq_int, beq_self_eq_true]
      refine ev_drawS (by decide) (by decide) hp1 fun u P2 u0 u1 hp2 => ?_
      have ga : gAdd (.int 9) (.int u) = some (.int (9 + u)) := rfl
      try simp (decide := true) only [sSeq, sRet, sSkip, sSet, sIf, sAsg, sApp, sExt, sFor, eVar, eC, eOp, eUn, eB, eCons, eCall, eCallP, eTup, eLst, vAnd, vNot, tBool, tTru, tNot', tOr', tAnd', iRng, iSeq, iEnu, ePeek, bodyF, rho0, tr_bnd, tr_ret, tr_lift, tr_noP, tr_noX, gLe, gLt, gGt, gGe, gCmp, truD, enuD, rngD, gtName, gtTup, gsCons, gsNil, Option.map_some, Option.bind_some, Option.bind_eq_bind, wipeD, List.map_cons, List.map_nil, List.getElem?_cons_zero, List.getElem?_cons_succ, List.cons_append, List.nil_append, Bool.false_eq_true, if_false, if_true, List.length_cons, List.length_nil, List.set_cons_zero, List.set_cons_succ, List.replicate, Bool.not_true, Bool.not_false, reduceIte, ga]
      exact ⟨_, rfl, hp2, _, by omega, by omega, rfl⟩
    · have e0 : (v == 0) = false := by rw [beq_eq_false_iff_ne]; exact hv
      simp (decide := true) only [sSeq, sRet, sSkip, sSet, sIf, sAsg, sApp, sExt, sFor, eVar, eC, eOp, eUn, eB, eCons, eCall, eCallP, eTup, eLst, vAnd, vNot, tBool, tTru, tNot', tOr', tAnd', iRng, iSeq, iEnu, ePeek, bodyF, rho0, tr_bnd, tr_ret, tr_lift, tr_noP, tr_noX, gLe, gLt, gGt, gGe, gCmp, truD, enuD, rngD, gtName, gtTup, gsCons, gsNil, Option.map_some, Option.bind_some, Option.bind_eq_bind, wipeD, List.map_cons, List.map_nil, List.getElem?_cons_zero, List.getElem?_cons_succ, List.cons_append, List.nil_append, Bool.false_eq_true, if_false, if_true, List.length_cons, List.length_nil, List.set_cons_zero, List.set_cons_succ, List.replicate, Bool.not_true, Bool.not_false, reduceIte, gEq_int, e0]
      exact ⟨_, rfl, hp1, z, z0, z1, rfl⟩
  subst hρ
  refine tr_seqI (fun ρ P => ∃ ps, Pl ps ∧ ρ = [none, none, some (.int z), some (.tuple (tupT ps)), none, none, none]) ?_ fun ρ P ⟨ps, A, hρ⟩ => ?_
  · simp (decide := true) only [sSeq, sRet, sSkip, sSet, sIf, sAsg, sApp, sExt, sFor, eVar, eC, eOp, eUn, eB, eCons, eCall, eCallP, eTup, eLst, vAnd, vNot, tBool, tTru, tNot', tOr', tAnd', iRng, iSeq, iEnu, ePeek, bodyF, rho0, tr_bnd, tr_ret, tr_lift, tr_noP, tr_noX, gLe, gLt, gGt, gGe, gCmp, truD, enuD, rngD, gtName, gtTup, gsCons, gsNil, Option.map_some, Option.bind_some, Option.bind_eq_bind, wipeD, List.map_cons, List.map_nil, List.getElem?_cons_zero, List.getElem?_cons_succ, List.cons_append, List.nil_append, Bool.false_eq_true, if_false, if_true, List.length_cons, List.length_nil, List.set_cons_zero, List.set_cons_succ, List.replicate, Bool.not_true, Bool.not_false, reduceIte]
    refine (ev_law_plan z0 z1 hp).mono fun d P' ⟨hp', ps, e, A⟩ => ?_
    subst e
    try simp (decide := true) only [sSeq, sRet, sSkip, sSet, sIf, sAsg, sApp, sExt, sFor, eVar, eC, eOp, eUn, eB, eCons, eCall, eCallP, eTup, eLst, vAnd, vNot, tBool, tTru, tNot', tOr', tAnd', iRng, iSeq, iEnu, ePeek, bodyF, rho0, tr_bnd, tr_ret, tr_lift, tr_noP, tr_noX, gLe, gLt, gGt, gGe, gCmp, truD, enuD, rngD, gtName, gtTup, gsCons, gsNil, Option.map_some, Option.bind_some, Option.bind_eq_bind, wipeD, List.map_cons, List.map_nil, List.getElem?_cons_zero, List.getElem?_cons_succ, List.cons_append, List.nil_append, Bool.false_eq_true, if_false, if_true, List.length_cons, List.length_nil, List.set_cons_zero, List.set_cons_succ, List.replicate, Bool.not_true, Bool.not_false, reduceIte]
    exact ⟨_, rfl, ps, A, rfl⟩
  subst hρ
  obtain ⟨m, m0, m1, em⟩ := many_ex ns ps z
  refine tr_seqI (fun ρ P => ρ = [none, none, some (.int z), some (.tuple (tupT ps)), some (.int (m : Int)), none, none]) ?_ fun ρ P hρ => ?_
  · exact tr_of_eq (set_of em (by show 4 < 7; decide) rfl) ⟨_, rfl, rfl⟩
  subst hρ
  with_reducible refine tr_seqI (fun ρ P => ρ = [none, none, some (.int z), some (.tuple (tupT ps)), some (.int (m : Int)), some (.list []), none]) ?_ fun ρ P hρ => ?_
  · simp (decide := true) only [sSeq, sRet, sSkip, sSet, sIf, sAsg, sApp, sExt, sFor, eVar, eC, eOp, eUn, eB, eCons, eCall, eCallP, eTup, eLst, vAnd, vNot, tBool, tTru, tNot', tOr', tAnd', iRng, iSeq, iEnu, ePeek, bodyF, rho0, tr_bnd, tr_ret, tr_lift, tr_noP, tr_noX, gLe, gLt, gGt, gGe, gCmp, truD, enuD, rngD, gtName, gtTup, gsCons, gsNil, Option.map_some, Option.bind_some, Option.bind_eq_bind, wipeD, List.map_cons, List.map_nil, List.getElem?_cons_zero, List.getElem?_cons_succ, List.cons_append, List.nil_append, Bool.false_eq_true, if_false, if_true, List.length_cons, List.length_nil, List.set_cons_zero, List.set_cons_succ, List.replicate, Bool.not_true, Bool.not_false, reduceIte]
    exact ⟨_, rfl, rfl⟩
  subst hρ
  with_reducible refine tr_seqI (fun ρ P => ∃ (L : List (List Int)) (x : Option D), L.length = m ∧ (∀ gs ∈ L, OkG ps gs) ∧ ρ = [none, none, some (.int z), some (.tuple (tupT ps)), some (.int (m : Int)), some (.list (tupT L)), x]) ?_ fun ρ P ⟨L, x, hL, hG, hρ⟩ => ?_
  · have ga : gAdd (.int (m : Int)) (.int 1) = some (.int ((m : Int) + 1)) := rfl
    have o1 : okR 1 = true := by decide
    have o2 : okR ((m : Int) + 1) = true := by unfold okR; simp; omega
    simp (decide := true) only [sSeq, sRet, sSkip, sSet, sIf, sAsg, sApp, sExt, sFor, eVar, eC, eOp, eUn, eB, eCons, eCall, eCallP, eTup, eLst, vAnd, vNot, tBool, tTru, tNot', tOr', tAnd', iRng, iSeq, iEnu, ePeek, bodyF, rho0, tr_bnd, tr_ret, tr_lift, tr_noP, tr_noX, gLe, gLt, gGt, gGe, gCmp, truD, enuD, rngD, gtName, gtTup, gsCons, gsNil, Option.map_some, Option.bind_some, Option.bind_eq_bind, wipeD, List.map_cons, List.map_nil, List.getElem?_cons_zero, List.getElem?_cons_succ, List.cons_append, List.nil_append, Bool.false_eq_true, if_false, if_true, List.length_cons, List.length_nil, List.set_cons_zero, List.set_cons_succ, List.replicate, Bool.not_true, Bool.not_false, reduceIte, ga, o1, o2, show ((m : Int) + 1 - 1).toNat = m by omega]
    refine tr_for (fun i ρ P => ∃ (L : List (List Int)) (x : Option D), L.length = i ∧ (∀ gs ∈ L, OkG ps gs) ∧ ρ = [none, none, some (.int z), some (.tuple (tupT ps)), some (.int (m : Int)), some (.list (tupT L)), x]) ⟨[], _, rfl, by simp, rfl⟩ (fun i d ρ P he ⟨L, x, hL, hG, hρ⟩ => ?_) (fun ρ P ⟨L, x, hL, hG, hρ⟩ => ?_)
    · subst hρ
      have hi : i < m := by
        have := (List.getElem?_eq_some_iff.mp he).1
        rw [intsD_len] at this; exact this
      have hd : d = .int (1 + (i : Int)) := by
        unfold intsD at he
        rw [List.getElem?_map, List.getElem?_range hi] at he
        exact (Option.some.inj he).symm
      subst hd
      have hl4 : (tupT L).length < 1000000 := by rw [DL.tupT_len]; omega
      have gn : gNeg (.int 1) = some (.int (-1)) := rfl
      refine ⟨_, rfl, ?_⟩
      simp (decide := true) only [sSeq, sRet, sSkip, sSet, sIf, sAsg, sApp, sExt, sFor, eVar, eC, eOp, eUn, eB, eCons, eCall, eCallP, eTup, eLst, vAnd, vNot, tBool, tTru, tNot', tOr', tAnd', iRng, iSeq, iEnu, ePeek, bodyF, rho0, tr_bnd, tr_ret, tr_lift, tr_noP, tr_noX, gLe, gLt, gGt, gGe, gCmp, truD, enuD, rngD, gtName, gtTup, gsCons, gsNil, Option.map_some, Option.bind_some, Option.bind_eq_bind, wipeD, List.map_cons, List.map_nil, List.getElem?_cons_zero, List.getElem?_cons_succ, List.cons_append, List.nil_append, Bool.false_eq_true, if_false, if_true, List.length_cons, List.length_nil, List.set_cons_zero, List.set_cons_succ, List.replicate, Bool.not_true, Bool.not_false, reduceIte, eCallS, asK_nat (show (0 : Int) ≤ 1 + (i : Int) by omega)]
      refine tr_atP ((ev_law_run A (posS_st ns _)).mono fun d P' ⟨_, gs, G, e⟩ => ?_)
      subst e
      simp (decide := true) only [sSeq, sRet, sSkip, sSet, sIf, sAsg, sApp, sExt, sFor, eVar, eC, eOp, eUn, eB, eCons, eCall, eCallP, eTup, eLst, vAnd, vNot, tBool, tTru, tNot', tOr', tAnd', iRng, iSeq, iEnu, ePeek, bodyF, rho0, tr_bnd, tr_ret, tr_lift, tr_noP, tr_noX, gLe, gLt, gGt, gGe, gCmp, truD, enuD, rngD, gtName, gtTup, gsCons, gsNil, Option.map_some, Option.bind_some, Option.bind_eq_bind, wipeD, List.map_cons, List.map_nil, List.getElem?_cons_zero, List.getElem?_cons_succ, List.cons_append, List.nil_append, Bool.false_eq_true, if_false, if_true, List.length_cons, List.length_nil, List.set_cons_zero, List.set_cons_succ, List.replicate, Bool.not_true, Bool.not_false, reduceIte, lstAt, hl4, gn, ix_last, ev_law_asked A G]
      refine ⟨L ++ [gs], _, by rw [List.length_append, hL]; rfl, fun g hg => ?_, by rw [tup_snoc]⟩
      rcases List.mem_append.mp hg with h | h
      · exact hG g h
      · rw [List.mem_singleton] at h; rw [h]; exact G
    · subst hρ
      rw [intsD_len] at hL
      exact ⟨_, rfl, L, x, hL, hG, rfl⟩
  subst hρ
  cases L with
  | nil => simp at hL; omega
  | cons g L =>
    have e0 : gIx (.list (tupT (g :: L))) (.int 0) = some (.tuple (il g)) := atI_at (by decide) rfl
    simp (decide := true) only [sSeq, sRet, sSkip, sSet, sIf, sAsg, sApp, sExt, sFor, eVar, eC, eOp, eUn, eB, eCons, eCall, eCallP, eTup, eLst, vAnd, vNot, tBool, tTru, tNot', tOr', tAnd', iRng, iSeq, iEnu, ePeek, bodyF, rho0, tr_bnd, tr_ret, tr_lift, tr_noP, tr_noX, gLe, gLt, gGt, gGe, gCmp, truD, enuD, rngD, gtName, gtTup, gsCons, gsNil, Option.map_some, Option.bind_some, Option.bind_eq_bind, wipeD, List.map_cons, List.map_nil, List.getElem?_cons_zero, List.getElem?_cons_succ, List.cons_append, List.nil_append, Bool.false_eq_true, if_false, if_true, List.length_cons, List.length_nil, List.set_cons_zero, List.set_cons_succ, List.replicate, Bool.not_true, Bool.not_false, reduceIte, lstAt, e0, ev_law_asked A (hG g List.mem_cons_self)]
    try trivial
end K23

end
set_option Elab.async false
set_option linter.all false
set_option maxRecDepth 100000
open PySem PySem.W PyProof.Rows
set_option maxHeartbeats 0 in
theorem PySem.Challenge.cw_putbetween_k23_whole_names_by_own_docume_holds : PySem.Challenge.rw_putbetween_k23_whole_names_by_own_docume.Holds := by
  w_on; o_law; k_head; (case hw => w_witness2)
  k_fill
  refine DL.walk_G (l := PySem.Challenge.rw_putbetween_k23_whole_names_by_own_docume) (n := 63) (k := 15) (prs := K23.p_law) rfl (by decide) rfl ⟨rfl, by decide, by decide⟩ rfl (fun w h Y => PySem.W.kIn_of Y) ?F
  case F =>
    intro w mg h KX G base
    refine' K23.ok_law (K23.txt_mk KX G ?a0 ?l0 ?c0 ?k0 ?a1 ?l1 ?c1 ?k1 ?a2 ?l2 ?c2 ?k2 ?a3 ?l3 ?c3 ?k3 ?a4 ?l4 ?c4 ?k4 ?a5 ?l5 ?c5 ?k5 ?a6 ?l6 ?c6 ?k6 ?a7 ?l7 ?c7 ?k7 ?a8 ?l8 ?c8 ?k8 ?a9 ?l9 ?c9 ?k9 ?a10 ?l10 ?c10 ?k10 ?a11 ?l11 ?c11 ?k11 ?a12 ?l12 ?c12 ?k12 ?a13 ?l13 ?c13 ?k13 ?a14 ?l14 ?c14 ?k14 ?a15 ?l15 ?c15 ?k15 ?a16 ?l16 ?c16 ?k16 ?a17 ?l17 ?c17 ?k17 ?a18 ?l18 ?c18 ?k18 ?a19 ?l19 ?c19 ?k19 ?a20 ?l20 ?c20 ?k20 ?a21 ?l21 ?c21 ?k21 ?a22 ?l22 ?c22 ?k22 ?a23 ?l23 ?c23 ?k23 ?a24 ?l24 ?c24 ?k24 ?a25 ?l25 ?c25 ?k25 ?e_MOST_ITEMS ?z_all ?z_bool ?z_enumerate ?z_int ?z_isinstance ?z_len ?z_list ?z_max ?z_min ?z_range ?z_sorted ?z_str ?z_tuple ?z_zip) K23.keeps
    (case a0 => k_is); (case l0 => k_is); (case c0 => k_is); (case k0 => k_is); (case a1 => k_is); (case l1 => k_is); (case c1 => k_is); (case k1 => k_is); (case a2 => k_is); (case l2 => k_is); (case c2 => k_is); (case k2 => k_is); (case a3 => k_is); (case l3 => k_is); (case c3 => k_is); (case k3 => k_is); (case a4 => k_is); (case l4 => k_is); (case c4 => k_is); (case k4 => k_is); (case a5 => k_is); (case l5 => k_is); (case c5 => k_is); (case k5 => k_is); (case a6 => k_is); (case l6 => k_is); (case c6 => k_is); (case k6 => k_is); (case a7 => k_is); (case l7 => k_is); (case c7 => k_is); (case k7 => k_is); (case a8 => k_is); (case l8 => k_is); (case c8 => k_is); (case k8 => k_is); (case a9 => k_is); (case l9 => k_is); (case c9 => k_is); (case k9 => k_is); (case a10 => k_is); (case l10 => k_is); (case c10 => k_is); (case k10 => k_is); (case a11 => k_is); (case l11 => k_is); (case c11 => k_is); (case k11 => k_is); (case a12 => k_is); (case l12 => k_is); (case c12 => k_is); (case k12 => k_is); (case a13 => k_is); (case l13 => k_is); (case c13 => k_is); (case k13 => k_is); (case a14 => k_is); (case l14 => k_is); (case c14 => k_is); (case k14 => k_is); (case a15 => k_is); (case l15 => k_is); (case c15 => k_is); (case k15 => k_is); (case a16 => k_is); (case l16 => k_is); (case c16 => k_is); (case k16 => k_is); (case a17 => k_is); (case l17 => k_is); (case c17 => k_is); (case k17 => k_is); (case a18 => k_is); (case l18 => k_is); (case c18 => k_is); (case k18 => k_is); (case a19 => k_is); (case l19 => k_is); (case c19 => k_is); (case k19 => k_is); (case a20 => k_is); (case l20 => k_is); (case c20 => k_is); (case k20 => k_is); (case a21 => k_is); (case l21 => k_is); (case c21 => k_is); (case k21 => k_is); (case a22 => k_is); (case l22 => k_is); (case c22 => k_is); (case k22 => k_is); (case a23 => k_is); (case l23 => k_is); (case c23 => k_is); (case k23 => k_is); (case a24 => k_is); (case l24 => k_is); (case c24 => k_is); (case k24 => k_is); (case a25 => k_is); (case l25 => k_is); (case c25 => k_is); (case k25 => k_is); (case e_MOST_ITEMS => k_is); (case z_all => k_is); (case z_bool => k_is); (case z_enumerate => k_is); (case z_int => k_is); (case z_isinstance => k_is); (case z_len => k_is); (case z_list => k_is); (case z_max => k_is); (case z_min => k_is); (case z_range => k_is); (case z_sorted => k_is); (case z_str => k_is); (case z_tuple => k_is); (case z_zip => k_is)
