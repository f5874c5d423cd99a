import PyProof.Rows.All
import Wide.All
import OpenK.AllK
import Wide.FinOn
import HandS.ForMost
import HandS.Deep
import HandS.DeepEq
import HandS.TryMany
import HandS.ExcInit
import HandS.IsInst
import HandS.Wide
import HandS.SortInts
import HandS.Zip
import HandS.TupAny
import HandS.Strs
import HandS.WordsExc
import HandS.CallSlots
import HandS.Gcd
import HandS.Small
import HandS.TupMul
import HandS.TupLe
import HandS.ExcOwn
import HandS.WideMore
import KE.KSortedM
import HandS.Flow
import HandS.RevRange
import KE.KDictCopyH
import HandS.Dict
import KE.SortData
import HandS.TupLen
import KE.DatumOrd
import KE.GoesEnum
import KE.GoesMore
import HandS.SortKw
import HandS.Style
import KE.KTupSum
import HandS.ForDict
import PySem.Challenge.RW_tacthouse_k17_laid_by_hand
set_option Elab.async false
set_option maxRecDepth 100000
set_option maxHeartbeats 4000000
set_option linter.all false
-- part C1
namespace TH
open PySem PySem.Spec PyProof.Rows L2

/-! ## values, objects, stores -/
inductive CV where
  | non | bl (b : Bool) | int (i : Int) | str (x : Str) | ty (n : String) | tup (l : List CV) | ref (i : Nat) | fz (l : List CV)
inductive CO where
  | lst (l : List CV)
  | dic (l : List (CV × CV))
  /-- a dict whose keys are tuples of whole numbers and truth values -/
  | dit (l : List (List CV × List Int × CV))
structure CS where
  n : Nat
  l : List CO
def CS.get (S : CS) (i : Nat) : Option CO := if i < S.n then S.l[S.n - 1 - i]? else none
def CS.push (S : CS) (o : CO) : CS := ⟨S.n + 1, o :: S.l⟩
def CS.put (S : CS) (i : Nat) (o : CO) : CS := ⟨S.n, S.l.set (S.n - 1 - i) o⟩
def CS.nil : CS := ⟨0, []⟩
theorem CS.get_lt {S : CS} {i : Nat} {o : CO} (h : S.get i = some o) : i < S.n := by
  unfold CS.get at h
  split at h
  · assumption
  · cases h
theorem CS.get_push_self {S : CS} {o : CO} : (S.push o).get S.n = some o := by
  unfold CS.get CS.push
  simp
theorem CS.get_push_old {S : CS} {o : CO} {i : Nat} (h : i < S.n) : (S.push o).get i = S.get i := by
  unfold CS.get CS.push
  simp only
  rw [if_pos (by omega), if_pos h]
  have : S.n + 1 - 1 - i = (S.n - 1 - i) + 1 := by omega
  rw [this]
  rfl
theorem CS.get_put_self {S : CS} {o u : CO} {i : Nat} (h : S.get i = some u) : (S.put i o).get i = some o := by
  have hl := CS.get_lt h
  unfold CS.get CS.put at *
  simp only at *
  rw [if_pos hl] at h ⊢
  obtain ⟨q, _⟩ := List.getElem?_eq_some_iff.mp h
  rw [List.getElem?_set_self q]
theorem CS.get_put_ne {S : CS} {o : CO} {i j : Nat} (h : j ≠ i) (hi : i < S.n) : (S.put i o).get j = S.get j := by
  unfold CS.get CS.put
  simp only
  by_cases hj : j < S.n
  · rw [if_pos hj, if_pos hj, List.getElem?_set_ne (by omega)]
  · rw [if_neg hj, if_neg hj]

/-! ## dicts whose keys are tuples of whole numbers and truth values -/
def numL : List CV → Option (List Int)
  | [] => some []
  | .int i :: l => match numL l with
    | some k => some (i :: k)
    | none => none
  | .bl b :: l => match numL l with
    | some k => some ((if b = true then 1 else 0) :: k)
    | none => none
  | _ => none
def numHash (ks : List Int) : Int := reduceHash (Builtin.Tuple.tupleHashOf (ks.map hashInt))
def dicO (a : Addr) (xs : List (List Int × Addr × Value)) : HO := .ext fun h => (a == sysModules) = false ∧ xs.length ≤ sizeLine ∧ (xs.map (·.1)).Nodup ∧
  ∃ o es ep, h.get? a = some o ∧ o.ExactDict ∧ o.data = .dict es ep ∧ es.toList = xs.map fun x => (⟨numHash x.1, .ref x.2.1, x.2.2⟩ : DictEntry)
/-- a list that is read alone -/
def FzL (K : PySem.W.Frag) (H : Hp) (a : Addr) (xs : List V) : Prop := (∃ o, H a = some (.frz o (.lst xs))) ∨
  ∃ (o : Obj) (its : Array Value) (n : Nat), K.lookup a = some o ∧ o.cls = .type "list" ∧ o.dict = none ∧ o.data = .seq its n ∧ its.size ≤ sizeLine ∧ Vals xs its.toList
theorem FzL.seq {K : PySem.W.Frag} {H : Hp} {a : Addr} {xs : List V} (h : FzL K H a xs) : SqL K H a xs := by
  rcases h with ⟨o, h⟩ | h
  · exact .inl (.inr ⟨o, h⟩)
  · exact .inr h
/-! ## what stands for what -/
section
variable (K : PySem.W.Frag) (f : List Addr) (H : Hp)
mutual
inductive RV : CV → V → Prop
  | non : RV .non .non
  | bl (b : Bool) : RV (.bl b) (.bl b)
  | int (i : Int) : RV (.int i) (.int i)
  | str (x : Str) : RV (.str x) (.str x)
  | ty (n : String) : RV (.ty n) (.ty n)
  | tup {a : Addr} {vs : List V} {l : List CV} : SqT K H a vs → RVs l vs → RV (.tup l) (.ref a)
  | ref {i : Nat} {a : Addr} : f[i]? = some a → RV (.ref i) (.ref a)
  | fz {a : Addr} {vs : List V} {l : List CV} : FzL K H a vs → RVs l vs → RV (.fz l) (.ref a)
inductive RVs : List CV → List V → Prop
  | nil : RVs [] []
  | cons {x : CV} {v : V} {xs : List CV} {vs : List V} : RV x v → RVs xs vs → RVs (x :: xs) (v :: vs)
end
def RE (c : List (Option CV)) (σ : L2.St) : Prop := c.length = σ.length ∧ ∀ (i : Nat) (x : CV), c[i]? = some (some x) → ∃ v, σ[i]? = some (some v) ∧ RV K f H x v
inductive TRs : List (List CV × List Int × CV) → List (List Int × Addr × Value) → Prop
  | nil : TRs [] []
  | cons {kl : List CV} {ks : List Int} {b : Addr} {us : List V} {vc : CV} {v : V} {u : Value} {l : List (List CV × List Int × CV)} {xs : List (List Int × Addr × Value)} : numL kl = some ks → SqT K H b us → RVs K f H kl us → RelV v u → RV K f H vc v → TRs l xs → TRs ((kl, ks, vc) :: l) ((ks, b, u) :: xs)
inductive KRs : List (CV × CV) → List (Key × V) → Prop
  | nil : KRs [] []
  | int {i : Int} {vc : CV} {v : V} {l : List (CV × CV)} {xs : List (Key × V)} : RV K f H vc v → KRs l xs → KRs ((.int i, vc) :: l) ((.inl i, v) :: xs)
  | str {i : Str} {vc : CV} {v : V} {l : List (CV × CV)} {xs : List (Key × V)} : RV K f H vc v → KRs l xs → KRs ((.str i, vc) :: l) ((.inr i, v) :: xs)
inductive OK : CO → Addr → HO → Prop
  | lst {l : List CV} {vs : List V} {a : Addr} : RVs K f H l vs → OK (.lst l) a (.lst vs)
  | dT {l : List (List CV × List Int × CV)} {xs : List (List Int × Addr × Value)} {a : Addr} : TRs K f H l xs → OK (.dit l) a (dicO a xs)
  | dK {l : List (CV × CV)} {kvs : List (Key × V)} {a : Addr} : KRs K f H l kvs → OK (.dic l) a (.dK kvs)
structure Rel (S : CS) : Prop where
  wf : S.l.length = S.n
  len : f.length = S.n
  nd : f.Nodup
  ob : ∀ (i : Nat) (o : CO), S.get i = some o → ∃ (a : Addr) (u : HO), f[i]? = some a ∧ H a = some u ∧ OK K f H o a u
end
/-- the store grows, what is not in it stays -/
structure Ext (f : List Addr) (H : Hp) (f' : List Addr) (H' : Hp) : Prop where
  pre : ∃ g, f' = f ++ g ∧ ∀ a ∈ g, H a = none
  frame : ∀ a o, H a = some o → a ∉ f → H' a = some o
  live : ∀ a ∈ f', ∃ o, H' a = some o
section
variable {K : PySem.W.Frag} {f f' f1 f2 : List Addr} {H H' H1 H2 : Hp} {S S' : CS} {c : List (Option CV)} {σ : L2.St}
/-- no tuple -/
def NT : Option HO → Prop
  | some (.tup _) => False
  | some (.frz _ _) => False
  | _ => True
theorem OK.mut {o : CO} {a : Addr} {u : HO} (h : OK K f H o a u) : NT (some u) := by
  cases h <;> trivial
theorem Rel.at_ (R : Rel K f H S) {i : Nat} {a : Addr} (h : f[i]? = some a) : ∃ o u, S.get i = some o ∧ H a = some u ∧ OK K f H o a u := by
  have hi : i < f.length := (List.getElem?_eq_some_iff.mp h).1
  have hn : i < S.n := by rw [← R.len]; exact hi
  have : ∃ o, S.get i = some o := by
    unfold CS.get
    rw [if_pos hn]
    have hl : S.n - 1 - i < S.l.length := by rw [R.wf]; omega
    exact ⟨_, List.getElem?_eq_getElem hl⟩
  obtain ⟨o, ho⟩ := this
  obtain ⟨a', u, h1, h2, h3⟩ := R.ob i o ho
  rw [h] at h1
  cases h1
  exact ⟨o, u, ho, h2, h3⟩
theorem Rel.mem (R : Rel K f H S) {a : Addr} (h : a ∈ f) : ∃ u, H a = some u ∧ NT (some u) := by
  obtain ⟨i, hi⟩ := List.getElem?_of_mem h
  obtain ⟨o, u, _, h2, h3⟩ := R.at_ hi
  exact ⟨u, h2, h3.mut⟩
theorem Rel.notup (R : Rel K f H S) {a : Addr} {vs : List V} (h : Rd H a (.tup vs)) : a ∉ f := fun hm => by
  obtain ⟨u, h1, h2⟩ := R.mem hm
  rcases h with h | ⟨o, h⟩
  · rw [h] at h1
    cases h1
    exact h2
  · rw [h] at h1
    cases h1
    exact h2
theorem Ext.refl (R : Rel K f H S) : Ext f H f H := ⟨⟨[], by simp, by simp⟩, fun _ _ h _ => h, fun a h => by
  obtain ⟨u, h1, _⟩ := R.mem h
  exact ⟨u, h1⟩⟩
theorem Ext.trans (a : Ext f H f1 H1) (b : Ext f1 H1 f2 H2) : Ext f H f2 H2 := by
  obtain ⟨g1, e1, n1⟩ := a.pre
  obtain ⟨g2, e2, n2⟩ := b.pre
  refine ⟨⟨g1 ++ g2, by rw [e2, e1, List.append_assoc], fun x hx => ?_⟩, fun x o h hn => ?_, b.live⟩
  · rcases List.mem_append.mp hx with hx | hx
    · exact n1 x hx
    · have z := n2 x hx
      cases q : H x with
      | none => rfl
      | some o =>
        by_cases hf : x ∈ f
        · obtain ⟨o', h'⟩ := a.live x (by rw [e1]; exact List.mem_append_left _ hf)
          rw [z] at h'
          cases h'
        · rw [a.frame x o q hf] at z
          cases z
  · refine b.frame x o (a.frame x o h hn) fun hm => ?_
    rw [e1] at hm
    rcases List.mem_append.mp hm with hm | hm
    · exact hn hm
    · rw [n1 x hm] at h
      cases h
theorem Ext.get (e : Ext f H f' H') {i : Nat} {a : Addr} (h : f[i]? = some a) : f'[i]? = some a := by
  obtain ⟨g, rfl, _⟩ := e.pre
  rw [List.getElem?_append_left (List.getElem?_eq_some_iff.mp h).1]
  exact h
theorem Ext.sqt (e : Ext f H f' H') (R : Rel K f H S) {a : Addr} {vs : List V} (h : SqT K H a vs) : SqT K H' a vs := by
  rcases h with h | h
  · have hn := R.notup h
    rcases h with h | ⟨o, h⟩
    · exact .inl (.inl (e.frame _ _ h hn))
    · exact .inl (.inr ⟨o, e.frame _ _ h hn⟩)
  · exact .inr h
theorem Ext.fzl (e : Ext f H f' H') (R : Rel K f H S) {a : Addr} {vs : List V} (h : FzL K H a vs) : FzL K H' a vs := by
  rcases h with ⟨o, h⟩ | h
  · refine .inl ⟨o, e.frame _ _ h fun hm => ?_⟩
    obtain ⟨u, h1, h2⟩ := R.mem hm
    rw [h] at h1
    cases h1
    exact h2
  · exact .inr h
mutual
theorem RV.mono (e : Ext f H f' H') (R : Rel K f H S) : ∀ {x : CV} {v : V}, RV K f H x v → RV K f' H' x v
  | _, _, .non => .non
  | _, _, .bl b => .bl b
  | _, _, .int i => .int i
  | _, _, .str x => .str x
  | _, _, .ty n => .ty n
  | _, _, .tup h r => .tup (e.sqt R h) (RVs.mono e R r)
  | _, _, .fz h r => .fz (e.fzl R h) (RVs.mono e R r)
  | _, _, .ref h => .ref (e.get h)
theorem RVs.mono (e : Ext f H f' H') (R : Rel K f H S) : ∀ {x : List CV} {v : List V}, RVs K f H x v → RVs K f' H' x v
  | _, _, .nil => .nil
  | _, _, .cons a b => .cons (RV.mono e R a) (RVs.mono e R b)
end
/-- what stays: numbers of objects, tuples -/
structure Grow (K : PySem.W.Frag) (f : List Addr) (H : Hp) (f' : List Addr) (H' : Hp) : Prop where
  pre : ∃ g, f' = f ++ g
  tup : ∀ a vs, SqT K H a vs → SqT K H' a vs
  fzl : ∀ a vs, FzL K H a vs → FzL K H' a vs
theorem Ext.grow (e : Ext f H f' H') (R : Rel K f H S) : Grow K f H f' H' := ⟨let ⟨g, h, _⟩ := e.pre; ⟨g, h⟩, fun _ _ h => e.sqt R h, fun _ _ h => e.fzl R h⟩
theorem Grow.refl : Grow K f H f H := ⟨⟨[], by simp⟩, fun _ _ h => h, fun _ _ h => h⟩
theorem Grow.trans (a : Grow K f H f1 H1) (b : Grow K f1 H1 f2 H2) : Grow K f H f2 H2 := by
  obtain ⟨g1, e1⟩ := a.pre
  obtain ⟨g2, e2⟩ := b.pre
  exact ⟨⟨g1 ++ g2, by rw [e2, e1, List.append_assoc]⟩, fun x vs h => b.tup x vs (a.tup x vs h), fun x vs h => b.fzl x vs (a.fzl x vs h)⟩
theorem Grow.get (e : Grow K f H f' H') {i : Nat} {a : Addr} (h : f[i]? = some a) : f'[i]? = some a := by
  obtain ⟨g, rfl⟩ := e.pre
  rw [List.getElem?_append_left (List.getElem?_eq_some_iff.mp h).1]
  exact h
mutual
theorem RV.grow (e : Grow K f H f' H') : ∀ {x : CV} {v : V}, RV K f H x v → RV K f' H' x v
  | _, _, .non => .non
  | _, _, .bl b => .bl b
  | _, _, .int i => .int i
  | _, _, .str x => .str x
  | _, _, .ty n => .ty n
  | _, _, .tup h r => .tup (e.tup _ _ h) (RVs.grow e r)
  | _, _, .fz h r => .fz (e.fzl _ _ h) (RVs.grow e r)
  | _, _, .ref h => .ref (e.get h)
theorem RVs.grow (e : Grow K f H f' H') : ∀ {x : List CV} {v : List V}, RVs K f H x v → RVs K f' H' x v
  | _, _, .nil => .nil
  | _, _, .cons a b => .cons (RV.grow e a) (RVs.grow e b)
end
theorem RE.mono (e : Ext f H f' H') (R : Rel K f H S) (h : RE K f H c σ) : RE K f' H' c σ := ⟨h.1, fun i x hx => by
  obtain ⟨v, h1, h2⟩ := h.2 i x hx
  exact ⟨v, h1, h2.mono e R⟩⟩
theorem RE.set (h : RE K f H c σ) {i : Nat} {x : CV} {v : V} (r : RV K f H x v) : RE K f H (c.set i (some x)) (σ.set i (some v)) := by
  refine ⟨by simp [h.1], fun j y hy => ?_⟩
  by_cases hj : i = j
  · subst hj
    by_cases hl : i < c.length
    · rw [List.getElem?_set_self hl] at hy
      cases hy
      exact ⟨v, by rw [List.getElem?_set_self (by rw [← h.1]; exact hl)], r⟩
    · rw [List.getElem?_eq_none (by simpa using hl)] at hy
      cases hy
  · rw [List.getElem?_set_ne hj] at hy ⊢
    exact h.2 j y hy
theorem RE.unset (h : RE K f H c σ) {i : Nat} : RE K f H (c.set i none) (σ.set i none) := by
  refine ⟨by simp [h.1], fun j y hy => ?_⟩
  by_cases hj : i = j
  · subst hj
    by_cases hl : i < c.length
    · rw [List.getElem?_set_self hl] at hy
      cases hy
    · rw [List.getElem?_eq_none (by simpa using hl)] at hy
      cases hy
  · rw [List.getElem?_set_ne hj] at hy ⊢
    exact h.2 j y hy
theorem TRs.grow (e : Grow K f H f' H') {l : List (List CV × List Int × CV)} {xs : List (List Int × Addr × Value)} (h : TRs K f H l xs) : TRs K f' H' l xs := by
  induction h with
  | nil => exact .nil
  | cons a b c d g _ ih => exact .cons a (e.tup _ _ b) (c.grow e) d (g.grow e) ih
theorem KRs.grow (e : Grow K f H f' H') {l : List (CV × CV)} {xs : List (Key × V)} (h : KRs K f H l xs) : KRs K f' H' l xs := by
  induction h with
  | nil => exact .nil
  | int a _ ih => exact .int (a.grow e) ih
  | str a _ ih => exact .str (a.grow e) ih
theorem OK.grow (e : Grow K f H f' H') {o : CO} {a : Addr} {u : HO} (h : OK K f H o a u) : OK K f' H' o a u := by
  cases h with
  | lst r => exact .lst (r.grow e)
  | dT r => exact .dT (r.grow e)
  | dK r => exact .dK (r.grow e)
theorem OK.mono (e : Ext f H f' H') (R : Rel K f H S) {o : CO} {a : Addr} {u : HO} (h : OK K f H o a u) : OK K f' H' o a u := h.grow (e.grow R)
/-- something new is laid beside the store -/
theorem Ext.beside (R : Rel K f H S) {p : Addr} {u : HO} (hp : H p = none) : Ext f H f (upd H p u) :=
  ⟨⟨[], by simp, by simp⟩, fun a o h _ => by rw [upd_ne (ne_of_none h hp)]; exact h, fun a h => by
    obtain ⟨u', h1, _⟩ := R.mem h
    exact ⟨u', by rw [upd_ne (ne_of_none h1 hp)]; exact h1⟩⟩
theorem Rel.ext_same (R : Rel K f H S) (e : Ext f H f H') (k : ∀ a ∈ f, H' a = H a) : Rel K f H' S :=
  ⟨R.wf, R.len, R.nd, fun i o h => by
    obtain ⟨a, u, h1, h2, h3⟩ := R.ob i o h
    exact ⟨a, u, h1, by rw [k a (List.mem_of_getElem? h1)]; exact h2, h3.mono e R⟩⟩
theorem Rel.beside (R : Rel K f H S) {p : Addr} {u : HO} (hp : H p = none) : Rel K f (upd H p u) S :=
  R.ext_same (Ext.beside R hp) fun a ha => by
    obtain ⟨u', h1, _⟩ := R.mem ha
    exact upd_ne (ne_of_none h1 hp)
/-- a new object of the store -/
theorem Ext.push (R : Rel K f H S) {p : Addr} {u : HO} (hp : H p = none) : Ext f H (f ++ [p]) (upd H p u) :=
  ⟨⟨[p], rfl, by simpa using hp⟩, fun a o h _ => by rw [upd_ne (ne_of_none h hp)]; exact h, fun a h => by
    rcases List.mem_append.mp h with h | h
    · obtain ⟨u', h1, _⟩ := R.mem h
      exact ⟨u', by rw [upd_ne (ne_of_none h1 hp)]; exact h1⟩
    · simp only [List.mem_singleton] at h
      subst h
      exact ⟨u, upd_same⟩⟩
theorem Rel.push (R : Rel K f H S) {p : Addr} {u : HO} {o : CO} (hp : H p = none) (h : OK K (f ++ [p]) (upd H p u) o p u) : Rel K (f ++ [p]) (upd H p u) (S.push o) := by
  have e := Ext.push (u := u) R hp
  refine ⟨by simp [CS.push, R.wf], by simp [CS.push, R.len], ?_, fun i o' ho => ?_⟩
  · refine List.nodup_append.mpr ⟨R.nd, by simp, fun a ha b hb => ?_⟩
    simp only [List.mem_singleton] at hb
    subst hb
    obtain ⟨u', h1, _⟩ := R.mem ha
    exact ne_of_none h1 hp
  · by_cases hi : i < S.n
    · rw [CS.get_push_old hi] at ho
      obtain ⟨a, u', h1, h2, h3⟩ := R.ob i o' ho
      exact ⟨a, u', e.get h1, by rw [upd_ne (ne_of_none h2 hp)]; exact h2, h3.mono e R⟩
    · have hn : i = S.n := by
        have := CS.get_lt ho
        simp only [CS.push] at this
        omega
      subst hn
      rw [CS.get_push_self] at ho
      cases ho
      exact ⟨p, u, by rw [← R.len]; simp, upd_same, h⟩
/-- an object of the store changed -/
theorem Ext.put (R : Rel K f H S) {a : Addr} {u : HO} (ha : a ∈ f) : Ext f H f (upd H a u) :=
  ⟨⟨[], by simp, by simp⟩, fun b o h hb => by
    have z : b ≠ a := fun z => hb (by rw [z]; exact ha)
    rw [upd_ne z]
    exact h, fun b h => by
    by_cases z : b = a
    · subst z
      exact ⟨u, upd_same⟩
    · obtain ⟨u', h1, _⟩ := R.mem h
      exact ⟨u', by rw [upd_ne z]; exact h1⟩⟩
theorem Rel.put (R : Rel K f H S) {i : Nat} {a : Addr} {u : HO} {o : CO} (hi : f[i]? = some a) (h : OK K f (upd H a u) o a u) : Rel K f (upd H a u) (S.put i o) := by
  have ha := List.mem_of_getElem? hi
  have e := Ext.put (u := u) R ha
  obtain ⟨o0, u0, g0, _, _⟩ := R.at_ hi
  refine ⟨by simp [CS.put, R.wf], R.len, R.nd, fun j o' ho => ?_⟩
  by_cases hj : j = i
  · subst hj
    rw [CS.get_put_self g0] at ho
    cases ho
    exact ⟨a, u, hi, upd_same, h⟩
  · rw [CS.get_put_ne hj (CS.get_lt g0)] at ho
    obtain ⟨b, u', h1, h2, h3⟩ := R.ob j o' ho
    have hb : b ≠ a := fun z => by
      subst z
      exact hj ((List.getElem?_inj (List.getElem?_eq_some_iff.mp h1).1 R.nd).mp (h1.trans hi.symm))
    exact ⟨b, u', h1, by rw [upd_ne hb]; exact h2, h3.mono e R⟩
end
end TH
-- part C2
namespace TH
open PySem PySem.Spec PyProof.Rows L2

/-! ## what a piece of text comes to -/
inductive Out (α : Type) where
  | ok (a : α) (S : CS)
  | exn (e : Nat) (x : CV) (S : CS)
  | stuck
def Out.bind {α β : Type} (o : Out α) (k : α → CS → Out β) : Out β :=
  match o with
  | .ok a S => k a S
  | .exn e x S => .exn e x S
  | .stuck => .stuck
abbrev CE := List (Option CV)
abbrev M (α : Type) := CE → CS → Out α
def M.bind {α β : Type} (m : M α) (k : α → M β) : M β := fun c S => (m c S).bind fun a S' => k a c S'
/-- the program's exceptions by number: the class, its field -/
structure ExI where
  cls : Nat → Value
  fld : Nat → Str

abbrev RL (α β : Type) := List Addr → Hp → α → β → Prop
section
variable (K : PySem.W.Frag) (Z : ExI)
def Res {α β : Type} (R : RL α β) (W : WX) (f : List Addr) (H : Hp) (σ : L2.St) (o : Out α) (Q : β → Hp → Prop) : Prop :=
  match o with
  | .ok x S' => ∀ f' H' v, Ext f H f' H' → Rel K f' H' S' → R f' H' x v → Q v H'
  | .exn e x S' => ∀ f' H' d v, Ext f H f' H' → Rel K f' H' S' → H' d = some (.xd [(Z.fld e, v)]) → RV K f' H' x v → W (Z.cls e) (some d) σ H'
  | .stuck => False
def tG {α β : Type} (R : RL α β) (W : WX) (m : M α) (σ : L2.St) (H : Hp) (Q : β → Hp → Prop) : Prop :=
  ∃ f c S, Rel K f H S ∧ RE K f H c σ ∧ Res K Z R W f H σ (m c S) Q
abbrev rV : RL CV V := fun f H => RV K f H
abbrev rVs : RL (List CV) (List V) := fun f H => RVs K f H
abbrev rB : RL Bool Bool := fun _ _ a b => a = b
end
section
variable {K : PySem.W.Frag} {Z : ExI} {W : WX} {f f1 : List Addr} {H H1 : Hp} {S : CS} {c : CE} {σ : L2.St} {α β γ δ : Type} {R1 : RL α β} {R2 : RL γ δ}
theorem Res.shift {o : Out α} {Q : β → Hp → Prop} (h : Res K Z R1 W f H σ o Q) (e : Ext f H f1 H1) : Res K Z R1 W f1 H1 σ o Q := by
  cases o with
  | ok x S' => exact fun f' H' v e' r q => h f' H' v (e.trans e') r q
  | exn k x S' => exact fun f' H' d v e' r q => h f' H' d v (e.trans e') r q
  | stuck => exact h
theorem Res.mono {o : Out α} {Q Q' : β → Hp → Prop} (h : Res K Z R1 W f H σ o Q) (hq : ∀ v H', Q v H' → Q' v H') : Res K Z R1 W f H σ o Q' := by
  cases o with
  | ok x S' => exact fun f' H' v e' r q => hq _ _ (h f' H' v e' r q)
  | exn k x S' => exact h
  | stuck => exact h
theorem Res.bind {o : Out α} {k : α → CS → Out γ} {Q : δ → Hp → Prop} (h : Res K Z R2 W f H σ (o.bind k) Q) :
    Res K Z R1 W f H σ o (fun v H1 => ∃ f1 S1 x, Ext f H f1 H1 ∧ Rel K f1 H1 S1 ∧ R1 f1 H1 x v ∧ Res K Z R2 W f1 H1 σ (k x S1) Q) := by
  cases o with
  | ok x S' => exact fun f' H' v e' r q => ⟨f', S', x, e', r, q, Res.shift (o := k x S') h e'⟩
  | exn e x S' => exact h
  | stuck => exact h
theorem tG.bind {m : M α} {k : α → M γ} {Q : δ → Hp → Prop} (h : tG K Z R2 W (m.bind k) σ H Q) :
    tG K Z R1 W m σ H (fun v H1 => ∃ f1 c S1 x, Rel K f1 H1 S1 ∧ RE K f1 H1 c σ ∧ R1 f1 H1 x v ∧ Res K Z R2 W f1 H1 σ (k x c S1) Q) := by
  obtain ⟨f, c, S, r, e, h⟩ := h
  refine ⟨f, c, S, r, e, ?_⟩
  refine Res.mono (Res.bind (R1 := R1) (o := m c S) h) ?_
  rintro v H1 ⟨f1, S1, x, x1, x2, x3, x4⟩
  exact ⟨f1, c, S1, x, x2, e.mono x1 r, x3, x4⟩
/-- at one state -/
theorem tG.at_ {m : M α} {k : α → M γ} {Q : δ → Hp → Prop} (r : Rel K f H S) (e : RE K f H c σ) (h : Res K Z R2 W f H σ (m.bind k c S) Q) :
    tG K Z R1 W m σ H (fun v H1 => ∃ f1 S1 x, Ext f H f1 H1 ∧ Rel K f1 H1 S1 ∧ RE K f1 H1 c σ ∧ R1 f1 H1 x v ∧ Res K Z R2 W f1 H1 σ (k x c S1) Q) := by
  refine ⟨f, c, S, r, e, ?_⟩
  refine Res.mono (Res.bind (R1 := R1) (o := m c S) h) ?_
  rintro v H1 ⟨f1, S1, x, x1, x2, x3, x4⟩
  exact ⟨f1, S1, x, x1, x2, e.mono x1 r, x3, x4⟩
theorem tG.mono {m : M α} {Q Q' : β → Hp → Prop} (h : tG K Z R1 W m σ H Q) (hq : ∀ v H', Q v H' → Q' v H') : tG K Z R1 W m σ H Q' := by
  obtain ⟨f, c, S, r, e, h⟩ := h
  exact ⟨f, c, S, r, e, h.mono hq⟩
/-- the answer is there, nothing has changed -/
theorem Res.now {o : Out α} {x : α} {v : β} {Q : β → Hp → Prop} (h : Res K Z R1 W f H σ o Q) (ho : o = .ok x S) (r : Rel K f H S) (q : R1 f H x v) : Q v H := by
  subst ho
  exact h f H v (Ext.refl r) r q
end

/-! ## judgements -/
theorem _root_.L2.PE.imp {X : Cx} {e : Expr} {t t' : TE} (h : PE X e t) (i : ∀ σ H Q, t' σ H Q → t σ H Q) : PE X e t' := ⟨fun pins s σ H Q I q => h.run pins s σ H Q I (i σ H Q q)⟩
theorem _root_.L2.PT.imp {X : Cx} {e : Expr} {t t' : TT} (h : PT X e t) (i : ∀ σ H Q, t' σ H Q → t σ H Q) : PT X e t' := ⟨fun pins s σ H Q I q => h.run pins s σ H Q I (i σ H Q q)⟩
theorem _root_.L2.PW.imp {X : Cx} {e : Expr} {t t' : TT} (h : PW X e t) (i : ∀ σ H Q, t' σ H Q → t σ H Q) : PW X e t' := ⟨fun wh pins s σ H Q I q => h.run wh pins s σ H Q I (i σ H Q q)⟩
theorem _root_.L2.PA.imp {X : Cx} {e : List Expr} {t t' : TA} (h : PA X e t) (i : ∀ σ H Q, t' σ H Q → t σ H Q) : PA X e t' := ⟨fun p pins s σ H Q I q => h.run p pins s σ H Q I (i σ H Q q)⟩
theorem _root_.L2.PS.imp {X : Cx} {e : Stmt} {t t' : TS} (h : PS X e t) (i : ∀ D σ H, t' D σ H → t D σ H) : PS X e t' := ⟨fun pins s σ H D I q => h.run pins s σ H D I (i D σ H q)⟩
theorem _root_.L2.PSs.imp {X : Cx} {e : List Stmt} {t t' : TS} (h : PSs X e t) (i : ∀ D σ H, t' D σ H → t D σ H) : PSs X e t' := ⟨fun pins s σ H D I q => h.run pins s σ H D I (i D σ H q)⟩
abbrev ME (X : Cx) (Z : ExI) (W : WX) (e : Expr) (m : M CV) : Prop := PE X e (tG X.K Z (rV X.K) W m)
abbrev MT (X : Cx) (Z : ExI) (W : WX) (e : Expr) (m : M Bool) : Prop := PT X e (tG X.K Z rB W m)
abbrev MW (X : Cx) (Z : ExI) (W : WX) (e : Expr) (m : M Bool) : Prop := PW X e (tG X.K Z rB W m)
abbrev MA (X : Cx) (Z : ExI) (W : WX) (es : List Expr) (m : M (List CV)) : Prop := PA X es (tG X.K Z (rVs X.K) W m)

/-! ## names, constants -/
def eV (i : Nat) : M CV := fun c S => match c[i]? with
  | some (some x) => .ok x S
  | _ => .stuck
def eC (x : CV) : M CV := fun _ S => .ok x S
section
variable {X : Cx} {Z : ExI} {W : WX} {a b d : Expr} {pos : Pos}
theorem me_v (i : Nat) {x : Str} {pos : Pos} (hN : X.N[i]? = some x := by rfl) (hv : Vis X.env.scope x := by first | exact Or.inl rfl | exact Or.inr (Or.inl rfl) | exact Or.inr (Or.inr rfl)) (hd : (x == ("__debug__" : Str)) = false := by decide)
    (hcd : (x == ("__classdict__" : Str)) = false := by decide) : ME X Z W (.Name x pos) (eV i) := (pv i hN hv hd hcd).imp fun σ H Q h => by
  obtain ⟨f, c, S, r, e, h⟩ := h
  unfold eV at h
  cases q : c[i]? with
  | none =>
    rw [q] at h
    exact h.elim
  | some o =>
    cases o with
    | none =>
      rw [q] at h
      exact h.elim
    | some x =>
      rw [q] at h
      obtain ⟨v, h1, h2⟩ := e.2 i x q
      exact ⟨v, h1, h f H v (Ext.refl r) r h2⟩
theorem me_const {e : Expr} {v : V} {x : CV} (h : PE X e (tC v)) (r : ∀ f H, RV X.K f H x v) : ME X Z W e (eC x) := h.imp fun σ H Q h => by
  obtain ⟨f, c, S, q, e, h⟩ := h
  exact h f H v (Ext.refl q) q (r f H)
theorem me_int {i : Int} {j pos} : ME X Z W (.Constant (.int i) j pos) (eC (.int i)) := me_const pe_int fun _ _ => .int i
theorem me_str {i : Str} {j pos} : ME X Z W (.Constant (.str i) j pos) (eC (.str i)) := me_const pe_str fun _ _ => .str i
theorem me_bl {i : Bool} {j pos} : ME X Z W (.Constant (.bool i) j pos) (eC (.bl i)) := me_const pe_bl fun _ _ => .bl i
theorem me_non {j pos} : ME X Z W (.Constant .none j pos) (eC .non) := me_const pe_non fun _ _ => .non
theorem me_gint {x : Str} {i : Int} {t : Tok} {pos : Pos} (hg : Gl X x) (hm : X.mg x = some (.int i t)) (hd : (x == ("__debug__" : Str)) = false := by decide) : ME X Z W (.Name x pos) (eC (.int i)) := me_const (pe_glob hg hm (v := .int i) ⟨t, rfl⟩ hd) fun _ _ => .int i

/-! ## operators -/
abbrev G2 := CV → CV → CS → Out CV
abbrev G1 := CV → CS → Out CV
/-- a value-level reading serves a mirror -/
def Ad2 (K : PySem.W.Frag) (Z : ExI) (r : R2) (g : G2) : Prop := ∀ (W : WX) (σ : L2.St) (f : List Addr) (S : CS) (H : Hp) (x y : CV) (v w : V) (Q : VK), Rel K f H S → RV K f H x v → RV K f H y w → Res K Z (rV K) W f H σ (g x y S) Q → r v w H Q
def Ad1 (K : PySem.W.Frag) (Z : ExI) (r : V → Hp → VK → Prop) (g : G1) : Prop := ∀ (W : WX) (σ : L2.St) (f : List Addr) (S : CS) (H : Hp) (x : CV) (v : V) (Q : VK), Rel K f H S → RV K f H x v → Res K Z (rV K) W f H σ (g x S) Q → r v H Q
def e2 (g : G2) (ma mb : M CV) : M CV := ma.bind fun x => mb.bind fun y => fun _ S => g x y S
def e1 (g : G1) (ma : M CV) : M CV := ma.bind fun x => fun _ S => g x S
theorem me_op {op : Operator} {r : R2} {g : G2} {ma mb : M CV} (ho : OpR X (binaryOp op) r) (ad : Ad2 X.K Z r g) (ha : ME X Z W a ma) (hb : ME X Z W b mb) : ME X Z W (.BinOp a op b pos) (e2 g ma mb) :=
  (pe_op ho ha hb).imp fun σ H Q h => by
    refine (tG.bind (R1 := rV X.K) h).mono ?_
    rintro v H1 ⟨f1, c, S1, x, r1, e1, x1, h1⟩
    refine (tG.at_ (R1 := rV X.K) r1 e1 h1).mono ?_
    rintro w H2 ⟨f2, S2, y, t2, r2, e2, y2, h2⟩
    exact ad W σ f2 S2 H2 x y v w Q r2 (x1.mono t2 r1) y2 h2
theorem me_un {op : UnaryOp} {r : V → Hp → VK → Prop} {g : G1} {ma : M CV} (ho : UnR X (unaryOp op) r) (ad : Ad1 X.K Z r g) (ha : ME X Z W a ma) : ME X Z W (.UnaryOp op a pos) (e1 g ma) :=
  (pe_un ho ha).imp fun σ H Q h => by
    refine (tG.bind (R1 := rV X.K) h).mono ?_
    rintro v H1 ⟨f1, c, S1, x, r1, e1, x1, h1⟩
    exact ad W σ f1 S1 H1 x v Q r1 x1 h1
theorem me_cmp {op : CmpOp} {r : R2} {g : G2} {ma mb : M CV} (ho : OpR X (compareOp op) r) (ad : Ad2 X.K Z r g) (ha : ME X Z W a ma) (hb : ME X Z W b mb) (hn : behindInMarks op b = false) : ME X Z W (.Compare a [op] [b] pos) (e2 g ma mb) :=
  (pe_cmpR ho ha hb hn).imp fun σ H Q h => by
    refine (tG.bind (R1 := rV X.K) h).mono ?_
    rintro v H1 ⟨f1, c, S1, x, r1, e1, x1, h1⟩
    refine (tG.at_ (R1 := rV X.K) r1 e1 h1).mono ?_
    rintro w H2 ⟨f2, S2, y, t2, r2, e2, y2, h2⟩
    exact ad W σ f2 S2 H2 x y v w Q r2 (x1.mono t2 r1) y2 h2
end
end TH
-- part C3
namespace TH
open PySem PySem.Spec PyProof.Rows L2
section
variable {K : PySem.W.Frag} {Z : ExI} {W : WX} {f f1 : List Addr} {H H1 : Hp} {S S' : CS} {σ : L2.St} {x y : CV} {v w : V} {Q : VK}
theorem RVs.len {l : List CV} {vs : List V} (h : RVs K f H l vs) : l.length = vs.length := by
  induction l generalizing vs with
  | nil => cases h; rfl
  | cons a l ih => cases h with | cons _ t => simp [ih t]
theorem RVs.app {l k : List CV} {vs ws : List V} (h : RVs K f H l vs) (h' : RVs K f H k ws) : RVs K f H (l ++ k) (vs ++ ws) := by
  induction l generalizing vs with
  | nil => cases h; exact h'
  | cons a l ih => cases h with | cons r t => exact .cons r (ih t)
theorem RVs.at_ {l : List CV} {vs : List V} (h : RVs K f H l vs) {i : Nat} {x : CV} (e : l[i]? = some x) : ∃ v, vs[i]? = some v ∧ RV K f H x v := by
  induction l generalizing vs i with
  | nil => simp at e
  | cons a l ih =>
    cases h with
    | cons r t =>
      cases i with
      | zero => simp at e; subst e; exact ⟨_, rfl, r⟩
      | succ i => simpa using ih t (by simpa using e)
theorem RVs.take {l : List CV} {vs : List V} (h : RVs K f H l vs) (n : Nat) : RVs K f H (l.take n) (vs.take n) := by
  induction n generalizing l vs with
  | zero => exact .nil
  | succ n ih => cases h with
    | nil => exact .nil
    | cons r t => exact .cons r (ih t)
theorem RVs.drop {l : List CV} {vs : List V} (h : RVs K f H l vs) (n : Nat) : RVs K f H (l.drop n) (vs.drop n) := by
  induction n generalizing l vs with
  | zero => exact h
  | succ n ih => cases h with
    | nil => exact .nil
    | cons r t => exact ih t
theorem RVs.set {l : List CV} {vs : List V} (h : RVs K f H l vs) (r : RV K f H x v) (n : Nat) : RVs K f H (l.set n x) (vs.set n v) := by
  induction n generalizing l vs with
  | zero => cases h with
    | nil => exact .nil
    | cons _ t => exact .cons r t
  | succ n ih => cases h with
    | nil => exact .nil
    | cons r' t => exact .cons r' (ih t)
theorem RVs.ints {l : List Int} : RVs K f H (l.map CV.int) (l.map V.int) := by
  induction l with
  | nil => exact .nil
  | cons a l ih => exact .cons (.int a) ih
/-- a list of the store -/
theorem Rel.lst (R : Rel K f H S) {i : Nat} {l : List CV} (hv : RV K f H (.ref i) v) (h : S.get i = some (.lst l)) : ∃ a vs, v = .ref a ∧ f[i]? = some a ∧ H a = some (.lst vs) ∧ RVs K f H l vs := by
  cases hv with
  | ref hf =>
    obtain ⟨o, u, h1, h2, h3⟩ := R.at_ hf
    rw [h] at h1
    cases h1
    cases h3 with
    | lst r => exact ⟨_, _, rfl, hf, h2, r⟩
theorem Res.val (h : Res K Z (rV K) W f H σ (.ok x S) Q) (R : Rel K f H S) (r : RV K f H x v) : Q v H := h f H v (Ext.refl R) R r
theorem Res.tup {l : List CV} {vs : List V} {p : Addr} (h : Res K Z (rV K) W f H σ (.ok (.tup l) S) Q) (R : Rel K f H S) (r : RVs K f H l vs) (hp : H p = none) : Q (.ref p) (upd H p (.tup vs)) :=
  h f _ _ (Ext.beside R hp) (R.beside hp) (.tup (SqT.of upd_same) (r.mono (Ext.beside R hp) R))
theorem Res.new {o : CO} {u : HO} {p : Addr} (h : Res K Z (rV K) W f H σ (.ok (.ref S.n) (S.push o)) Q) (R : Rel K f H S) (r : OK K f H o p u) (hp : H p = none) : Q (.ref p) (upd H p u) :=
  h _ _ _ (Ext.push R hp) (R.push hp (r.mono (Ext.push R hp) R)) (.ref (by rw [← R.len]; simp))
theorem Res.put {i : Nat} {a : Addr} {o : CO} {u : HO} {z : CV} {zv : V} (h : Res K Z (rV K) W f H σ (.ok z (S.put i o)) Q) (R : Rel K f H S) (hi : f[i]? = some a) (r : OK K f H o a u) (rz : RV K f H z zv) : Q zv (upd H a u) :=
  h _ _ _ (Ext.put R (List.mem_of_getElem? hi)) (R.put hi (r.mono (Ext.put R (List.mem_of_getElem? hi)) R)) (rz.mono (Ext.put R (List.mem_of_getElem? hi)) R)
end

/-! ## reading as data -/
def toD (S : CS) : Nat → CV → Option PyData
  | 0, _ => none
  | n + 1, x => match x with
    | .non => some .none
    | .bl b => some (.bool b)
    | .int i => some (.int i)
    | .str s => some (.str s)
    | .tup l => (l.mapM (toD S n)).map .tuple
    | .ref i => match S.get i with
      | some (.lst l) => (l.mapM (toD S n)).map .list
      | _ => none
    | .ty _ => none
    | .fz _ => none
theorem toD_all {K : PySem.W.Frag} {f : List Addr} {H : Hp} {S : CS} {n : Nat} (ih : ∀ x v d, RV K f H x v → toD S n x = some d → Dp K H v d) : ∀ {l : List CV} {vs : List V} {ds : List PyData}, RVs K f H l vs → l.mapM (toD S n) = some ds → DpAll K H vs ds
  | [], _, _, .nil, e => by simp at e; subst e; exact .nil
  | x :: l, _, ds, .cons r t, e => by
    simp only [List.mapM_cons, Option.bind_eq_bind, Option.bind_eq_some_iff] at e
    obtain ⟨d, e1, ds', e2, e3⟩ := e
    cases e3
    exact .cons (ih _ _ _ r e1) (toD_all ih t e2)
theorem toD_ok {K : PySem.W.Frag} {f : List Addr} {H : Hp} {S : CS} (R : Rel K f H S) : ∀ (n : Nat) (x : CV) (v : V) (d : PyData), RV K f H x v → toD S n x = some d → Dp K H v d
  | 0, _, _, _, _, e => by simp [toD] at e
  | n + 1, x, v, d, r, e => by
    cases x with
    | non => cases r; simp [toD] at e; subst e; exact .non
    | bl b => cases r; simp [toD] at e; subst e; exact .bl b
    | int i => cases r; simp [toD] at e; subst e; exact .int i
    | str s => cases r; simp [toD] at e; subst e; exact .str s
    | ty n => simp [toD] at e
    | fz l => simp [toD] at e
    | tup l =>
      simp only [toD, Option.map_eq_some_iff] at e
      obtain ⟨ds, e1, rfl⟩ := e
      cases r with
      | tup h t => exact .tup h (toD_all (toD_ok R n) t e1)
    | ref i =>
      simp only [toD] at e
      split at e
      · rename_i l hl
        simp only [Option.map_eq_some_iff] at e
        obtain ⟨ds, e1, rfl⟩ := e
        obtain ⟨a, vs, rfl, _, h2, h3⟩ := R.lst r hl
        exact .lst (SqL.of h2) (toD_all (toD_ok R n) h3 e1)
      · cases e

/-! ## operators -/
def gAdd : G2 := fun x y S => match x, y with
  | .int i, .int j => .ok (.int (i + j)) S
  | .tup l, .tup k => if l.length + k.length ≤ sizeLine then .ok (.tup (l ++ k)) S else .stuck
  | .ref i, .ref j => match S.get i, S.get j with
    | some (.lst l), some (.lst k) => if l.length + k.length ≤ sizeLine then .ok (.ref S.n) (S.push (.lst (l ++ k))) else .stuck
    | _, _ => .stuck
  | .str a, .str b => if a.length + b.length ≤ sizeLine then .ok (.str (a ++ b)) S else .stuck
  | _, _ => .stuck
def gSub : G2 := fun x y S => match x, y with
  | .int i, .int j => .ok (.int (i - j)) S
  | _, _ => .stuck
def smI (i : Int) : Bool := decide (-(2 ^ 64) < i) && decide (i < 2 ^ 64)
def mulOkC (i j : Int) : Bool := smI i || (smI j || decide (i.natAbs.log2 + j.natAbs.log2 < 1000000))
theorem smI_ok {i : Int} (h : smI i = true) : Builtin.Int.intBits i ≤ 64 := by
  unfold smI at h
  simp only [Bool.and_eq_true, decide_eq_true_eq] at h
  exact intBits_le_64 h.1 h.2
theorem mulOkC_ok {i j : Int} (h : mulOkC i j = true) : IntMulOk i j := by
  unfold mulOkC at h
  simp only [Bool.or_eq_true, decide_eq_true_eq] at h
  rcases h with h | h | h
  · exact IntMulOk.of_left (smI_ok h)
  · exact IntMulOk.of_right (smI_ok h)
  · exact CMulW.ok h
def CMulA (i j : Int) : Prop := mulOkC i j = true
theorem op_mulI {X : Cx} : OpR X (binaryOp .Mult) (rI CMulA fun i j => .int (i * j)) := opI fun _ _ _ _ _ _ _ hc q => PyProof.Rows.mul_int q (mulOkC_ok hc)
def gMul : G2 := fun x y S => match x, y with
  | .int i, .int j => if mulOkC i j = true then .ok (.int (i * j)) S else .stuck
  | .ref i, .int k => match S.get i with
    | some (.lst l) => if -(2 ^ 63) ≤ k ∧ k < 2 ^ 63 ∧ l.length * k.toNat ≤ sizeLine then .ok (.ref S.n) (S.push (.lst (List.replicate k.toNat l).flatten)) else .stuck
    | _ => .stuck
  | .tup l, .int k => if l ≠ [] ∧ 2 ≤ k ∧ k ≤ 1000 ∧ l.length ≤ 1000 then .ok (.tup (List.replicate k.toNat l).flatten) S else .stuck
  | _, _ => .stuck
def gFdiv : G2 := fun x y S => match x, y with
  | .int i, .int j => if 0 < j ∧ j.natAbs.log2 < 9000 then .ok (.int (i / j)) S else .stuck
  | _, _ => .stuck
def gMod : G2 := fun x y S => match x, y with
  | .int i, .int j => if 0 < j then .ok (.int (i % j)) S else .stuck
  | _, _ => .stuck
def gPow : G2 := fun x y S => match x, y with
  | .int i, .int j => if 0 ≤ j ∧ j ≤ 1000 ∧ i.natAbs < 2 ^ 64 then .ok (.int (i ^ j.toNat)) S else .stuck
  | _, _ => .stuck
def gNeg : G1 := fun x S => match x with
  | .int i => .ok (.int (-i)) S
  | _ => .stuck
def gI (p : Int → Int → Bool) : G2 := fun x y S => match x, y with
  | .int i, .int j => .ok (.bl (p i j)) S
  | _, _ => .stuck
def gEq (neg : Bool) : G2 := fun x y S => match x, y with
  | .int i, .int j => .ok (.bl (xor neg (i == j))) S
  | .str i, .str j => .ok (.bl (xor neg (i == j))) S
  | x, y => match toD S 40 x, toD S 40 y with
    | some d, some e => if SeqAt.shaped d && SeqAt.shaped e then .ok (.bl (xor neg (PyData.eqv d e))) S else .stuck
    | _, _ => .stuck
def isNonV : CV → Bool
  | .non => true
  | _ => false
def gIs (neg : Bool) : G2 := fun x y S => match x, y with
  | .bl a, .bl b => .ok (.bl (xor neg (a == b))) S
  | x, .non => .ok (.bl (xor neg (isNonV x))) S
  | _, _ => .stuck
def flatC : CV → Bool
  | .non | .bl _ | .int _ | .str _ => true
  | _ => false
def eqC : CV → CV → Bool
  | .non, .non => true
  | .bl a, .bl b => a == b
  | .bl a, .int b => (if a then 1 else 0) == b
  | .int a, .bl b => a == (if b then 1 else 0)
  | .int a, .int b => a == b
  | .str a, .str b => a == b
  | _, _ => false
def gIn (neg : Bool) : G2 := fun x y S =>
  match (match y with
    | .tup l => some l
    | .ref i => match S.get i with
      | some (.lst l) => some l
      | _ => none
    | _ => none : Option (List CV)) with
  | some l => if flatC x && l.all flatC then .ok (.bl (xor neg (l.any fun z => eqC z x))) S else .stuck
  | none => .stuck
section
variable {K : PySem.W.Frag} {Z : ExI}
abbrev rAddA (K : PySem.W.Frag) : R2 := fun x y H Q => (fun x y H Q => (fun x y H Q => rI0 (fun i j => .int (i + j)) x y H Q ∨ rCatA K x y H Q) x y H Q ∨ rCat x y H Q) x y H Q ∨ (∃ i j, x = .str i ∧ y = .str j ∧ i.length + j.length ≤ sizeLine ∧ Q (.str (i ++ j)) H)
theorem op_addA {X : Cx} : OpR X (binaryOp .Add) (rAddA X.K) := OpR.or (OpR.or (OpR.or op_add op_catA) op_cat) op_add_str
theorem ad_add : Ad2 K Z (rAddA K) gAdd := by
  intro W σ f S H x y v w Q R rx ry h
  cases x <;> cases y <;> try exact h.elim
  case int.int i j =>
    cases rx; cases ry
    exact .inl (.inl (.inl ⟨i, j, rfl, rfl, h.val R (.int _)⟩))
  case tup.tup l k =>
    cases rx with
    | tup h1 r1 =>
      cases ry with
      | tup h2 r2 =>
        simp only [gAdd] at h
        split at h
        · rename_i hl
          refine .inl (.inl (.inr ⟨_, _, _, _, rfl, rfl, h1, h2, by rw [← r1.len, ← r2.len]; exact hl, ?_, ?_, ?_⟩))
          · rintro rfl
            cases r1
            exact h.val R (.tup h2 (by simpa using r2))
          · rintro _ rfl
            cases r2
            exact h.val R (.tup h1 (by simpa using r1))
          · intro _ _ p hp
            exact h.tup R (r1.app r2) hp
        · exact h.elim
  case ref.ref i j =>
    simp only [gAdd] at h
    split at h
    · rename_i l k hi hj
      obtain ⟨a, vs, rfl, _, g1, g2⟩ := R.lst rx hi
      obtain ⟨b, ws, rfl, _, g3, g4⟩ := R.lst ry hj
      split at h
      · rename_i hl
        exact .inl (.inr ⟨a, b, vs, ws, rfl, rfl, g1, g3, by rw [← g2.len, ← g4.len]; exact hl, fun p hp => h.new R (.lst (g2.app g4)) hp⟩)
      · exact h.elim
    · exact h.elim
  case str.str a b =>
    cases rx; cases ry
    simp only [gAdd] at h
    split at h
    · rename_i hl
      exact .inr ⟨a, b, rfl, rfl, hl, h.val R (.str _)⟩
    · exact h.elim
theorem ad_sub : Ad2 K Z (rI0 fun i j => .int (i - j)) gSub := by
  intro W σ f S H x y v w Q R rx ry h
  cases x <;> cases y <;> try exact h.elim
  cases rx; cases ry
  exact ⟨_, _, rfl, rfl, h.val R (.int _)⟩
abbrev rMulA (K : PySem.W.Frag) : R2 := fun x y H Q => (fun x y H Q => rI CMulA (fun i j => .int (i * j)) x y H Q ∨ rRep x y H Q) x y H Q ∨ rRepT K x y H Q
theorem op_mulA {X : Cx} : OpR X (binaryOp .Mult) (rMulA X.K) := OpR.or (OpR.or op_mulI op_rep) op_repT
theorem RVs.rep {f : List Addr} {H : Hp} {l : List CV} {vs : List V} (h : RVs K f H l vs) (n : Nat) : RVs K f H (List.replicate n l).flatten (List.replicate n vs).flatten := by
  induction n with
  | zero => exact .nil
  | succ n ih => simp only [List.replicate_succ, List.flatten_cons]; exact h.app ih
theorem ad_mul : Ad2 K Z (rMulA K) gMul := by
  intro W σ f S H x y v w Q R rx ry h
  cases x <;> cases y <;> try exact h.elim
  case int.int i j =>
    cases rx; cases ry
    simp only [gMul] at h
    split at h
    · rename_i hb
      exact .inl (.inl ⟨i, j, rfl, rfl, hb, h.val R (.int _)⟩)
    · exact h.elim
  case ref.int i k =>
    cases ry
    simp only [gMul] at h
    split at h
    · rename_i l hl
      obtain ⟨a, vs, rfl, _, g1, g2⟩ := R.lst rx hl
      split at h
      · rename_i hb
        exact .inl (.inr ⟨a, k, vs, rfl, rfl, g1, hb.1, hb.2.1, by rw [← g2.len]; exact hb.2.2, fun p hp => h.new R (.lst (g2.rep _)) hp⟩)
      · exact h.elim
    · exact h.elim
  case tup.int l k =>
    cases ry
    cases rx with
    | tup h1 r1 =>
      simp only [gMul] at h
      split at h
      · rename_i hb
        refine .inr ⟨_, k, _, rfl, rfl, h1, ?_, hb.2.1, hb.2.2.1, by rw [← r1.len]; exact hb.2.2.2, fun p hp => h.tup R (r1.rep _) hp⟩
        rintro rfl
        cases r1
        exact hb.1 rfl
      · exact h.elim
theorem ad_fdiv : Ad2 K Z (rI CDivW fun i j => .int (i / j)) gFdiv := by
  intro W σ f S H x y v w Q R rx ry h
  cases x <;> cases y <;> try exact h.elim
  cases rx; cases ry
  simp only [gFdiv] at h
  split at h
  · rename_i hb
    exact ⟨_, _, rfl, rfl, hb, h.val R (.int _)⟩
  · exact h.elim
theorem ad_mod : Ad2 K Z (rI (fun _ j => 0 < j) fun i j => .int (i % j)) gMod := by
  intro W σ f S H x y v w Q R rx ry h
  cases x <;> cases y <;> try exact h.elim
  cases rx; cases ry
  simp only [gMod] at h
  split at h
  · rename_i hb
    exact ⟨_, _, rfl, rfl, hb, h.val R (.int _)⟩
  · exact h.elim
theorem ad_pow : Ad2 K Z (rI CPow fun i j => .int (i ^ j.toNat)) gPow := by
  intro W σ f S H x y v w Q R rx ry h
  cases x <;> cases y <;> try exact h.elim
  cases rx; cases ry
  simp only [gPow] at h
  split at h
  · rename_i hb
    exact ⟨_, _, rfl, rfl, ⟨hb.1, by omega, hb.2.2⟩, h.val R (.int _)⟩
  · exact h.elim
theorem ad_neg : Ad1 K Z (rU fun i => .int (-i)) gNeg := by
  intro W σ f S H x v Q R rx h
  cases x <;> try exact h.elim
  cases rx
  exact ⟨_, rfl, h.val R (.int _)⟩
theorem ad_I {p : Int → Int → Bool} : Ad2 K Z (rI0 fun i j => .bl (p i j)) (gI p) := by
  intro W σ f S H x y v w Q R rx ry h
  cases x <;> cases y <;> try exact h.elim
  cases rx; cases ry
  exact ⟨_, _, rfl, rfl, h.val R (.bl _)⟩
abbrev rEqA (K : PySem.W.Frag) : R2 := fun x y H Q => rEq x y H Q ∨ rEqD K x y H Q
abbrev rNeA (K : PySem.W.Frag) : R2 := fun x y H Q => rNe x y H Q ∨ rNeD K x y H Q
theorem op_eqA {X : Cx} (hu : X.A.units + 64 < cLine) : OpR X (compareOp .Eq) (rEqA X.K) := OpR.or op_eq (op_eqD hu)
theorem op_neA {X : Cx} (hu : X.A.units + 64 < cLine) : OpR X (compareOp .NotEq) (rNeA X.K) := OpR.or op_ne (op_neD hu)
theorem gEq_cases {W : WX} {σ : L2.St} {neg : Bool} {f : List Addr} {S : CS} {H : Hp} {x y : CV} {v w : V} {Q : VK} (R : Rel K f H S) (rx : RV K f H x v) (ry : RV K f H y w) (h : Res K Z (rV K) W f H σ (gEq neg x y S) Q) :
    (scal v w = true ∧ Q (.bl (xor neg (decide (v = w)))) H) ∨ ∃ d e, Dp K H v d ∧ Dp K H w e ∧ SeqAt.shaped d = true ∧ SeqAt.shaped e = true ∧ Q (.bl (xor neg (PyData.eqv d e))) H := by
  have gen : ∀ (_ : Res K Z (rV K) W f H σ (match toD S 40 x, toD S 40 y with
    | some d, some e => if SeqAt.shaped d && SeqAt.shaped e then .ok (.bl (xor neg (PyData.eqv d e))) S else .stuck
    | _, _ => .stuck) Q), ∃ d e, Dp K H v d ∧ Dp K H w e ∧ SeqAt.shaped d = true ∧ SeqAt.shaped e = true ∧ Q (.bl (xor neg (PyData.eqv d e))) H := by
    intro h
    split at h
    · rename_i d e hd he
      split at h
      · rename_i hs
        obtain ⟨s1, s2⟩ := Bool.and_eq_true_iff.mp hs
        exact ⟨d, e, toD_ok R _ _ _ _ rx hd, toD_ok R _ _ _ _ ry he, s1, s2, h.val R (.bl _)⟩
      · exact h.elim
    · exact h.elim
  unfold gEq at h
  split at h
  · cases rx; cases ry
    exact .inl ⟨rfl, by rw [dec_int]; exact h.val R (.bl _)⟩
  · cases rx; cases ry
    exact .inl ⟨rfl, by rw [dec_str]; exact h.val R (.bl _)⟩
  · exact .inr (gen h)
theorem ad_eq : Ad2 K Z (rEqA K) (gEq false) := by
  intro W σ f S H x y v w Q R rx ry h
  rcases gEq_cases R rx ry h with h | h
  · exact .inl ⟨h.1, by simpa using h.2⟩
  · obtain ⟨d, e, h1, h2, h3, h4, h5⟩ := h
    exact .inr ⟨d, e, h1, h2, h3, h4, by simpa using h5⟩
theorem ad_ne : Ad2 K Z (rNeA K) (gEq true) := by
  intro W σ f S H x y v w Q R rx ry h
  rcases gEq_cases R rx ry h with h | h
  · exact .inl ⟨h.1, by simpa using h.2⟩
  · obtain ⟨d, e, h1, h2, h3, h4, h5⟩ := h
    exact .inr ⟨d, e, h1, h2, h3, h4, by simpa using h5⟩
theorem RV.non_iff {f : List Addr} {H : Hp} {x : CV} {v : V} (r : RV K f H x v) : isNonV x = decide (v = .non) := by
  cases r <;> simp [isNonV]
abbrev rIsA : R2 := fun x y H Q => (y = .non ∧ Q (.bl (decide (x = .non))) H) ∨ ∃ a b : Bool, x = .bl a ∧ y = .bl b ∧ Q (.bl (decide (a = b))) H
abbrev rIsNA : R2 := fun x y H Q => (y = .non ∧ Q (.bl (!decide (x = .non))) H) ∨ ∃ a b : Bool, x = .bl a ∧ y = .bl b ∧ Q (.bl (!decide (a = b))) H
theorem op_isA {X : Cx} : OpR X (compareOp .Is) rIsA := OpR.or op_isN op_is_bl
theorem op_isNA {X : Cx} : OpR X (compareOp .IsNot) rIsNA := OpR.or op_notN op_isnot_bl
theorem ad_is : Ad2 K Z rIsA (gIs false) := by
  intro W σ f S H x y v w Q R rx ry h
  unfold gIs at h
  split at h
  · cases rx; cases ry
    exact .inr ⟨_, _, rfl, rfl, by simpa [Bool.beq_eq_decide_eq] using h.val R (.bl _)⟩
  · cases ry
    exact .inl ⟨rfl, by rw [← rx.non_iff]; simpa using h.val R (.bl _)⟩
  · exact h.elim
theorem ad_isnot : Ad2 K Z rIsNA (gIs true) := by
  intro W σ f S H x y v w Q R rx ry h
  unfold gIs at h
  split at h
  · cases rx; cases ry
    exact .inr ⟨_, _, rfl, rfl, by simpa [Bool.beq_eq_decide_eq] using h.val R (.bl _)⟩
  · cases ry
    exact .inl ⟨rfl, by rw [← rx.non_iff]; simpa using h.val R (.bl _)⟩
  · exact h.elim
theorem RV.flat {f : List Addr} {H : Hp} {x : CV} {v : V} (r : RV K f H x v) (h : flatC x = true) : flatV v = true := by
  cases r <;> first | rfl | cases h
theorem RV.eqf {f : List Addr} {H : Hp} {x y : CV} {v w : V} (r : RV K f H x v) (q : RV K f H y w) (h : flatC x = true) (h' : flatC y = true) : eqC x y = eqV v w := by
  cases r <;> cases q <;> first | rfl | cases h | cases h'
theorem RVs.flats {f : List Addr} {H : Hp} {x : CV} {v : V} (r : RV K f H x v) (h : flatC x = true) : ∀ {l : List CV} {vs : List V}, RVs K f H l vs → l.all flatC = true → vs.all flatV = true ∧ (l.any fun z => eqC z x) = inV v vs
  | _, _, .nil, _ => ⟨rfl, rfl⟩
  | _, _, .cons r1 t, e => by
    simp only [List.all_cons, Bool.and_eq_true] at e
    obtain ⟨a, b⟩ := RVs.flats r h t e.2
    refine ⟨by simp only [List.all_cons, Bool.and_eq_true]; exact ⟨r1.flat e.1, a⟩, ?_⟩
    unfold inV at b ⊢
    simp only [List.any_cons, b, r1.eqf r e.1 h]
theorem ad_in {neg : Bool} : Ad2 K Z (rIn K neg) (gIn neg) := by
  intro W σ f S H x y v w Q R rx ry h
  unfold gIn at h
  have key : ∃ p l vs, w = .ref p ∧ (SqL K H p vs ∨ SqT K H p vs) ∧ RVs K f H l vs ∧ Res K Z (rV K) W f H σ (if flatC x && l.all flatC then .ok (.bl (xor neg (l.any fun z => eqC z x))) S else .stuck) Q := by
    split at h
    · rename_i l hl
      cases y with
      | tup k =>
        cases hl
        cases ry with
        | tup h1 r1 => exact ⟨_, _, _, rfl, .inr h1, r1, h⟩
      | ref i =>
        dsimp only at hl
        split at hl
        · rename_i k hk
          cases hl
          obtain ⟨a, vs, rfl, _, g1, g2⟩ := R.lst ry hk
          exact ⟨a, _, _, rfl, .inl (SqL.of g1), g2, h⟩
        · cases hl
      | _ => cases hl
    · exact h.elim
  obtain ⟨p, l, vs, rfl, hq, r, h⟩ := key
  split at h
  · rename_i hf
    obtain ⟨f1, f2⟩ := Bool.and_eq_true_iff.mp hf
    obtain ⟨a, b⟩ := RVs.flats rx f1 r f2
    refine ⟨p, vs, rfl, hq, rx.flat f1, a, ?_⟩
    have q := h.val R (.bl _)
    rw [b] at q
    cases neg <;> simpa using q
  · exact h.elim
end
end TH
-- part C4
namespace TH
open PySem PySem.Spec PyProof.Rows L2
/-! ## tests -/
def truC (S : CS) : CV → Option Bool
  | .non => some false
  | .bl b => some b
  | .int i => some (i != 0)
  | .str y => if y.length ≤ sizeLine then some ((y.length : Int) != 0) else none
  | .tup l => some (!l.isEmpty)
  | .ref i => match S.get i with
    | some (.lst l) => some (!l.isEmpty)
    | _ => none
  | .ty _ => none
  | .fz _ => none
def bTru (m : M CV) : M Bool := m.bind fun x => fun _ S => match truC S x with
  | some b => .ok b S
  | none => .stuck
def bVal (m : M CV) : M Bool := m.bind fun x => fun _ S => match x with
  | .bl b => .ok b S
  | _ => .stuck
def eOf (m : M Bool) : M CV := m.bind fun b => fun _ S => .ok (.bl b) S
def bAnd (m k : M Bool) : M Bool := m.bind fun b => if b then k else fun _ S => .ok false S
def bOr (m k : M Bool) : M Bool := m.bind fun b => if b then fun _ S => .ok true S else k
def bNot (m : M Bool) : M Bool := m.bind fun b => fun _ S => .ok (!b) S
def eIf (t : M Bool) (a b : M CV) : M CV := t.bind fun c => if c then a else b
def e3 (g g' : G2) (ma mb mc : M CV) : M CV := ma.bind fun x => mb.bind fun y => M.bind (fun _ S => g x y S) fun z => match z with
  | .bl true => mc.bind fun w => fun _ S => g' y w S
  | .bl false => fun _ S => .ok (.bl false) S
  | _ => fun _ _ => .stuck
section
variable {K : PySem.W.Frag} {Z : ExI} {W : WX} {f f1 : List Addr} {H H1 : Hp} {S : CS} {σ : L2.St} {x : CV} {v : V}
theorem RVs.empty {l : List CV} {vs : List V} (h : RVs K f H l vs) : l.isEmpty = vs.isEmpty := by cases h <;> rfl
theorem truC_ok (R : Rel K f H S) (r : RV K f H x v) {b : Bool} (h : truC S x = some b) : TruV K v H b := by
  cases r with
  | non => cases h; rfl
  | bl b => cases h; rfl
  | int i => cases h; rfl
  | str y =>
    simp only [truC] at h
    split at h
    · rename_i hl
      cases h
      exact ⟨hl, rfl⟩
    · cases h
  | ty n => cases h
  | fz _ _ => cases h
  | tup h1 r1 =>
    cases h
    exact .inr (.inl ⟨_, h1, by rw [r1.empty]⟩)
  | ref hf =>
    simp only [truC] at h
    split at h
    · rename_i l hl
      cases h
      obtain ⟨a, vs, e, _, g1, g2⟩ := R.lst (.ref hf) hl
      cases e
      exact .inl ⟨vs, SqL.of g1, by rw [g2.empty]⟩
    · cases h
/-- Res of a Bool -/
theorem Res.bool {b : Bool} {Q : Bool → Hp → Prop} (h : Res K Z rB W f H σ (.ok b S) Q) (R : Rel K f H S) : Q b H := h f H b (Ext.refl R) R rfl
end
section
variable {X : Cx} {Z : ExI} {W : WX} {a b d e : Expr} {rest : List Expr} {pos : Pos} {ma mb md : M CV} {ta tb : M Bool}
theorem mt_tru (ha : ME X Z W a ma) (he : ∀ whole, isTrue a X.env whole = (do let v ← whole; standAt a.pos; holding [v] (truthy v)) := by intro _; rfl) : MT X Z W a (bTru ma) :=
  (pt_truth ha he).imp fun σ H Q h => by
    refine (tG.bind (R1 := rV X.K) h).mono ?_
    rintro v H1 ⟨f1, c, S1, x, r1, e1, x1, h1⟩
    split at h1
    · rename_i b hb
      exact ⟨b, truC_ok r1 x1 hb, h1.bool r1⟩
    · exact h1.elim
theorem mt_cmp {op : CmpOp} {r : R2} {g : G2} (ho : OpR X (compareOp op) r) (ad : Ad2 X.K Z r g) (ha : ME X Z W a ma) (hb : ME X Z W b mb) (hn : behindInMarks op b = false) : MT X Z W (.Compare a [op] [b] pos) (bVal (e2 g ma mb)) :=
  (pt_cmpR ho ha hb hn).imp fun σ H Q h => by
    have h' : tG X.K Z rB W (ma.bind fun x => mb.bind fun y => M.bind (fun _ S => g x y S) fun z => fun _ S => match z with
      | .bl b => .ok b S
      | _ => .stuck) σ H Q := by
      obtain ⟨f, c, S, r, e, h⟩ := h
      refine ⟨f, c, S, r, e, ?_⟩
      unfold bVal e2 M.bind at h
      unfold M.bind
      cases q : ma c S with
      | ok x S1 =>
        rw [q] at h
        simp only [Out.bind] at h ⊢
        cases q2 : mb c S1 with
        | ok y S2 =>
          rw [q2] at h
          exact h
        | exn e x S => rw [q2] at h; exact h
        | stuck => rw [q2] at h; exact h
      | exn e x S => rw [q] at h; exact h
      | stuck => rw [q] at h; exact h
    refine (tG.bind (R1 := rV X.K) h').mono ?_
    rintro v H1 ⟨f1, c, S1, x, r1, e1, x1, h1⟩
    refine (tG.at_ (R1 := rV X.K) r1 e1 h1).mono ?_
    rintro w H2 ⟨f2, S2, y, t2, r2, e2, y2, h2⟩
    refine ad W σ f2 S2 H2 x y v w _ r2 (x1.mono t2 r1) y2 ?_
    refine Res.mono (Res.bind (R1 := rV X.K) h2) ?_
    rintro z H3 ⟨f3, S3, zc, t3, r3, z3, h3⟩
    dsimp only at h3
    cases z3 with
    | bl b => exact ⟨b, rfl, h3.bool r3⟩
    | _ => exact h3.elim
theorem me_of (ha : MT X Z W a ta) (he : PE X a (fun σ H Q => tG X.K Z rB W ta σ H fun b H' => Q (.bl b) H')) : ME X Z W a (eOf ta) :=
  he.imp fun σ H Q h => by
    refine (tG.bind (R1 := rB) h).mono ?_
    rintro v H1 ⟨f1, c, S1, x, r1, e1, x1, h1⟩
    cases x1
    exact h1.val r1 (.bl _)
theorem bVal_split {m : M CV} {σ : L2.St} {H : Hp} {Q : Bool → Hp → Prop} (h : tG X.K Z rB W (bVal m) σ H Q) : tTest (tG X.K Z (rV X.K) W m) σ H Q := by
  refine (tG.bind (R1 := rV X.K) h).mono ?_
  rintro v H1 ⟨f1, c, S1, x, r1, e1, x1, h1⟩
  cases x1 with
  | bl b => exact ⟨b, rfl, h1.bool r1⟩
  | _ => exact h1.elim
theorem e3_split {op op' : CmpOp} {r r' : R2} {g g' : G2} (ad : Ad2 X.K Z r g) (ad' : Ad2 X.K Z r' g') {σ : L2.St} {H : Hp} {Q : VK} (h : tG X.K Z (rV X.K) W (e3 g g' ma mb md) σ H Q) :
    tChain r r' (tG X.K Z (rV X.K) W ma) (tG X.K Z (rV X.K) W mb) (tG X.K Z (rV X.K) W md) σ H Q := by
  refine (tG.bind (R1 := rV X.K) h).mono ?_
  rintro v H1 ⟨f1, c, S1, x, r1, e1, x1, h1⟩
  refine (tG.at_ (R1 := rV X.K) r1 e1 h1).mono ?_
  rintro w H2 ⟨f2, S2, y, t2, r2, e2, y2, h2⟩
  refine ad W σ f2 S2 H2 x y v w _ r2 (x1.mono t2 r1) y2 ?_
  refine Res.mono (Res.bind (R1 := rV X.K) h2) ?_
  rintro z H3 ⟨f3, S3, zc, t3, r3, z3, h3⟩
  dsimp only at h3
  cases z3 with
  | bl b =>
    refine ⟨b, rfl, ?_⟩
    cases b with
    | false =>
      rw [if_neg (by decide)]
      exact h3.val r3 (.bl _)
    | true =>
      rw [if_pos rfl]
      refine (tG.at_ (R1 := rV X.K) r3 (e2.mono t3 r2) h3).mono ?_
      rintro w4 H4 ⟨f4, S4, y4, t4, r4, e4, w4', h4⟩
      exact ad' W σ f4 S4 H4 y y4 w w4 Q r4 (y2.mono (t3.trans t4) r2) w4' h4
  | _ => exact h3.elim
theorem me_chain {op op' : CmpOp} {r r' : R2} {g g' : G2} (ho : OpR X (compareOp op) r) (ad : Ad2 X.K Z r g) (ho' : OpR X (compareOp op') r') (ad' : Ad2 X.K Z r' g') (ha : ME X Z W a ma) (hb : ME X Z W b mb) (hd : ME X Z W d md)
    (hm : lastMarks [op, op'] [b, d] = false := by with_unfolding_all rfl) : ME X Z W (.Compare a [op, op'] [b, d] pos) (e3 g g' ma mb md) :=
  (pe_chain ho ho' ha hb hd hm).imp fun _ _ _ h => e3_split (op := op) (op' := op') ad ad' h
theorem mt_chain {op op' : CmpOp} {r r' : R2} {g g' : G2} (ho : OpR X (compareOp op) r) (ad : Ad2 X.K Z r g) (ho' : OpR X (compareOp op') r') (ad' : Ad2 X.K Z r' g') (ha : ME X Z W a ma) (hb : ME X Z W b mb) (hd : ME X Z W d md)
    (hm : lastMarks [op, op'] [b, d] = false := by with_unfolding_all rfl) : MT X Z W (.Compare a [op, op'] [b, d] pos) (bVal (e3 g g' ma mb md)) :=
  (pt_chain ho ho' ha hb hd hm).imp fun σ H Q h => by
    obtain ⟨f, c, S, r, e, h⟩ := bVal_split h
    exact e3_split (op := op) (op' := op') ad ad' ⟨f, c, S, r, e, h⟩
/-! and, or, not -/
theorem mw_and1 (ha : MT X Z W a ta) : MW X Z W (.BoolOp .And [a] pos) ta := pw_and1 ha
theorem mw_or1 (ha : MT X Z W a ta) : MW X Z W (.BoolOp .Or [a] pos) ta := pw_or1 ha
theorem mw_and (ha : MT X Z W a ta) (hb : MW X Z W (.BoolOp .And (b :: rest) pos) tb) : MW X Z W (.BoolOp .And (a :: b :: rest) pos) (bAnd ta tb) :=
  (pw_and ha hb).imp fun σ H Q h => by
    refine (tG.bind (R1 := rB) h).mono ?_
    rintro v H1 ⟨f1, c, S1, x, r1, e1, rfl, h1⟩
    cases x with
    | true => rw [if_pos rfl]; exact ⟨f1, c, S1, r1, e1, h1⟩
    | false => rw [if_neg (by decide)]; exact h1.bool r1
theorem mw_or (ha : MT X Z W a ta) (hb : MW X Z W (.BoolOp .Or (b :: rest) pos) tb) : MW X Z W (.BoolOp .Or (a :: b :: rest) pos) (bOr ta tb) :=
  (pw_or ha hb).imp fun σ H Q h => by
    refine (tG.bind (R1 := rB) h).mono ?_
    rintro v H1 ⟨f1, c, S1, x, r1, e1, rfl, h1⟩
    cases x with
    | false => rw [if_neg (by decide)]; exact ⟨f1, c, S1, r1, e1, h1⟩
    | true => rw [if_pos rfl]; exact h1.bool r1
theorem mt_w (h : MW X Z W a ta) : MT X Z W a ta := h.pt
theorem mt_not (ha : MT X Z W a ta) : MT X Z W (.UnaryOp .Not a pos) (bNot ta) :=
  (pt_not ha).imp fun σ H Q h => by
    refine (tG.bind (R1 := rB) h).mono ?_
    rintro v H1 ⟨f1, c, S1, x, r1, e1, rfl, h1⟩
    exact h1.bool r1
/-- as values (bools alone) -/
def eAnd (m k : M CV) : M CV := m.bind fun x => match x with
  | .bl true => k
  | .bl false => fun _ S => .ok (.bl false) S
  | _ => fun _ _ => .stuck
def eOr (m k : M CV) : M CV := m.bind fun x => match x with
  | .bl false => k
  | .bl true => fun _ S => .ok (.bl true) S
  | _ => fun _ _ => .stuck
def eNot (m : M CV) : M CV := m.bind fun x => match x with
  | .bl b => fun _ S => .ok (.bl (!b)) S
  | _ => fun _ _ => .stuck
theorem me_one {op : BoolOp} (h : ME X Z W a ma) : ME X Z W (.BoolOp op [a] pos) ma := pe_one h
theorem me_and (ha : ME X Z W a ma) (hb : ME X Z W (.BoolOp .And (b :: rest) pos) mb) : ME X Z W (.BoolOp .And (a :: b :: rest) pos) (eAnd ma mb) :=
  (pe_and ha hb).imp fun σ H Q h => by
    refine (tG.bind (R1 := rV X.K) h).mono ?_
    rintro v H1 ⟨f1, c, S1, x, r1, e1, x1, h1⟩
    cases x1 with
    | bl b =>
      cases b with
      | true => exact ⟨true, rfl, by rw [if_pos rfl]; exact ⟨f1, c, S1, r1, e1, h1⟩⟩
      | false => exact ⟨false, rfl, by rw [if_neg (by decide)]; exact h1.val r1 (.bl _)⟩
    | _ => exact h1.elim
theorem me_or (ha : ME X Z W a ma) (hb : ME X Z W (.BoolOp .Or (b :: rest) pos) mb) : ME X Z W (.BoolOp .Or (a :: b :: rest) pos) (eOr ma mb) :=
  (pe_or ha hb).imp fun σ H Q h => by
    refine (tG.bind (R1 := rV X.K) h).mono ?_
    rintro v H1 ⟨f1, c, S1, x, r1, e1, x1, h1⟩
    cases x1 with
    | bl b =>
      cases b with
      | false => exact ⟨false, rfl, by rw [if_neg (by decide)]; exact ⟨f1, c, S1, r1, e1, h1⟩⟩
      | true => exact ⟨true, rfl, by rw [if_pos rfl]; exact h1.val r1 (.bl _)⟩
    | _ => exact h1.elim
theorem me_not (ha : ME X Z W a ma) : ME X Z W (.UnaryOp .Not a pos) (eNot ma) :=
  (pe_not ha).imp fun σ H Q h => by
    refine (tG.bind (R1 := rV X.K) h).mono ?_
    rintro v H1 ⟨f1, c, S1, x, r1, e1, x1, h1⟩
    cases x1 with
    | bl b => exact ⟨b, rfl, h1.val r1 (.bl _)⟩
    | _ => exact h1.elim
theorem me_ifExp (hc : MT X Z W d ta) (ha : ME X Z W a ma) (hb : ME X Z W b mb) : ME X Z W (.IfExp d a b pos) (eIf ta ma mb) :=
  (pe_ifExp hc ha hb).imp fun σ H Q h => by
    refine (tG.bind (R1 := rB) h).mono ?_
    rintro v H1 ⟨f1, c, S1, x, r1, e1, rfl, h1⟩
    cases x with
    | true => rw [if_pos rfl]; exact ⟨f1, c, S1, r1, e1, h1⟩
    | false => rw [if_neg (by decide)]; exact ⟨f1, c, S1, r1, e1, h1⟩
end

/-! ## arguments, displays -/
def aNil : M (List CV) := fun _ S => .ok [] S
def aCons (m : M CV) (k : M (List CV)) : M (List CV) := m.bind fun x => k.bind fun l => fun _ S => .ok (x :: l) S
def eTup (k : M (List CV)) : M CV := k.bind fun l => fun _ S => if l.length ≤ sizeLine then .ok (.tup l) S else .stuck
def eLst (k : M (List CV)) : M CV := k.bind fun l => fun _ S => if l.length ≤ sizeLine then .ok (.ref S.n) (S.push (.lst l)) else .stuck
section
variable {X : Cx} {Z : ExI} {W : WX} {a b e : Expr} {es : List Expr} {pos : Pos} {ma mb : M CV} {k : M (List CV)} {n : Nat}
theorem ma_nil : MA X Z W [] aNil := pa_nil.imp fun σ H Q h => by
  obtain ⟨f, c, S, r, e, h⟩ := h
  exact h f H [] (Ext.refl r) r .nil
theorem ma_cons (ha : ME X Z W e ma) (hr : MA X Z W es k) (hs : starEach (e :: es) X.env = (false, eval e X.env) :: starEach es X.env := by rfl) : MA X Z W (e :: es) (aCons ma k) :=
  (pa_cons ha hr hs).imp fun σ H Q h => by
    refine (tG.bind (R1 := rV X.K) h).mono ?_
    rintro v H1 ⟨f1, c, S1, x, r1, e1, x1, h1⟩
    refine (tG.at_ (R1 := rVs X.K) r1 e1 h1).mono ?_
    rintro w H2 ⟨f2, S2, y, t2, r2, e2, y2, h2⟩
    exact h2 f2 H2 _ (Ext.refl r2) r2 (.cons (x1.mono t2 r1) y2)
theorem me_tup (h : MA X Z W es k) : ME X Z W (.Tuple es n pos) (eTup k) := (pe_tup h).imp fun σ H Q h => by
  refine (tG.bind (R1 := rVs X.K) h).mono ?_
  rintro v H1 ⟨f1, c, S1, x, r1, e1, x1, h1⟩
  split at h1
  · rename_i hl
    exact ⟨by rw [← RVs.len x1]; exact hl, fun p hp => h1.tup r1 x1 hp⟩
  · exact h1.elim
theorem me_lst (h : MA X Z W es k) : ME X Z W (.List es pos) (eLst k) := (pe_lst h).imp fun σ H Q h => by
  refine (tG.bind (R1 := rVs X.K) h).mono ?_
  rintro v H1 ⟨f1, c, S1, x, r1, e1, x1, h1⟩
  split at h1
  · rename_i hl
    exact ⟨by rw [← RVs.len x1]; exact hl, fun p hp => h1.new r1 (.lst x1) hp⟩
  · exact h1.elim

/-! ## subscripts -/
def atC (l : List CV) (i : Int) : Option CV := (ixN l.length i).bind fun j => l[j]?
def gIx : G2 := fun x y S => match y with
  | .int i => match (match x with
      | .tup l => some l
      | .ref n => match S.get n with
        | some (.lst l) => some l
        | _ => none
      | _ => none : Option (List CV)) with
    | some l => match atC l i with
      | some z => .ok z S
      | none => .stuck
    | none => .stuck
  | _ => .stuck
abbrev rIxA (K : PySem.W.Frag) : R2 := fun x y H Q => rIxL K x y H Q ∨ rIxT K x y H Q
theorem ix_A : IxR X (rIxA X.K) := IxR.or ix_list ix_tup
theorem atC_ok {K : PySem.W.Frag} {f : List Addr} {H : Hp} {l : List CV} {vs : List V} {i : Int} {z : CV} (r : RVs K f H l vs) (h : atC l i = some z) : ∃ v, atI vs i = some v ∧ RV K f H z v := by
  unfold atC at h
  unfold atI
  rw [← r.len]
  cases q : ixN l.length i with
  | none => rw [q] at h; cases h
  | some j =>
    rw [q] at h
    exact r.at_ h
theorem ad_ix {K : PySem.W.Frag} : Ad2 K Z (rIxA K) gIx := by
  intro W σ f S H x y v w Q R rx ry h
  unfold gIx at h
  cases ry with
  | int i =>
    dsimp only at h
    split at h
    · rename_i l hl
      split at h
      · rename_i z hz
        cases x with
        | tup k =>
          cases hl
          cases rx with
          | tup h1 r1 =>
            obtain ⟨v, g1, g2⟩ := atC_ok r1 hz
            exact .inr ⟨_, _, i, v, rfl, rfl, h1, g1, h.val R g2⟩
        | ref n =>
          dsimp only at hl
          split at hl
          · rename_i k hk
            cases hl
            obtain ⟨a, vs, rfl, _, h2, h3⟩ := R.lst rx hk
            obtain ⟨v, g1, g2⟩ := atC_ok h3 hz
            exact .inl ⟨_, _, i, v, rfl, rfl, SqL.of h2, g1, h.val R g2⟩
          · cases hl
        | _ => cases hl
      · exact h.elim
    · exact h.elim
  | _ => exact h.elim
theorem me_ix (ha : ME X Z W a ma) (hb : ME X Z W b mb) (hs : PlainIx b := by intro _ _; rfl) : ME X Z W (.Subscript a b pos) (e2 gIx ma mb) :=
  (pe_ix ix_A ha hb hs).imp fun σ H Q h => by
    refine (tG.bind (R1 := rV X.K) h).mono ?_
    rintro v H1 ⟨f1, c, S1, x, r1, e1, x1, h1⟩
    refine (tG.at_ (R1 := rV X.K) r1 e1 h1).mono ?_
    rintro w H2 ⟨f2, S2, y, t2, r2, e2, y2, h2⟩
    exact ad_ix W σ f2 S2 H2 x y v w Q r2 (x1.mono t2 r1) y2 h2
/-! slices -/
abbrev rO (K : PySem.W.Frag) : RL (Option Int) (Option Int) := fun _ _ a b => a = b
abbrev MO (X : Cx) (Z : ExI) (W : WX) (e : Option Expr) (m : M (Option Int)) : Prop := PO X e (tG X.K Z (rO X.K) W m)
theorem _root_.L2.PO.imp {X : Cx} {e : Option Expr} {t t' : TO} (h : PO X e t) (i : ∀ σ H Q, t' σ H Q → t σ H Q) : PO X e t' := ⟨fun pins s σ H Q I q => h.run pins s σ H Q I (i σ H Q q)⟩
def oNone : M (Option Int) := fun _ S => .ok none S
def oSome (m : M CV) : M (Option Int) := m.bind fun x => match x with
  | .int i => fun _ S => .ok (some i) S
  | _ => fun _ _ => .stuck
theorem mo_none : MO X Z W none oNone := po_none.imp fun σ H Q h => by
  obtain ⟨f, c, S, r, e, h⟩ := h
  exact h f H none (Ext.refl r) r rfl
theorem mo_some (ha : ME X Z W a ma) : MO X Z W (some a) (oSome ma) := (po_some ha).imp fun σ H Q h => by
  refine (tG.bind (R1 := rV X.K) h).mono ?_
  rintro v H1 ⟨f1, c, S1, x, r1, e1, x1, h1⟩
  cases x1 with
  | int i => exact ⟨i, rfl, h1 f1 H1 _ (Ext.refl r1) r1 rfl⟩
  | _ => exact h1.elim
def cutC (l : List CV) (lo hi : Option Int) : List CV := (l.drop (HT.sIx l.length 0 lo)).take (HT.sIx l.length l.length hi - HT.sIx l.length 0 lo)
def eSl (m : M CV) (lo hi : M (Option Int)) : M CV := m.bind fun x => lo.bind fun l => hi.bind fun h => fun _ S => match x with
  | .tup k => .ok (.tup (cutC k l h)) S
  | .ref i => match S.get i with
    | some (.lst k) => .ok (.ref S.n) (S.push (.lst (cutC k l h)))
    | _ => .stuck
  | _ => .stuck
theorem cutC_ok {K : PySem.W.Frag} {f : List Addr} {H : Hp} {l : List CV} {vs : List V} {lo hi : Option Int} (r : RVs K f H l vs) : RVs K f H (cutC l lo hi) (cutV vs lo hi) := by
  unfold cutC cutV
  rw [r.len]
  exact (r.drop _).take _
theorem cutV_all {vs : List V} {lo hi : Option Int} (h : HT.sIx vs.length 0 lo = 0 ∧ HT.sIx vs.length vs.length hi = vs.length) : cutV vs lo hi = vs := by
  unfold cutV
  rw [h.1, h.2]
  simp
theorem me_sl {lo hi : Option Expr} {ml mh : M (Option Int)} {p2 : Pos} (ha : ME X Z W a ma) (hl : MO X Z W lo ml) (hh : MO X Z W hi mh) : ME X Z W (.Subscript a (.Slice lo hi none p2) pos) (eSl ma ml mh) :=
  (pe_slice (SlR.or sl_tupA sl_list) ha hl hh).imp fun σ H Q h => by
    refine (tG.bind (R1 := rV X.K) h).mono ?_
    rintro v H1 ⟨f1, c, S1, x, r1, e1, x1, h1⟩
    refine (tG.at_ (R1 := rO X.K) r1 e1 h1).mono ?_
    rintro l H2 ⟨f2, S2, l', t2, r2, e2, rfl, h2⟩
    refine (tG.at_ (R1 := rO X.K) r2 e2 h2).mono ?_
    rintro u H3 ⟨f3, S3, u', t3, r3, e3, rfl, h3⟩
    have x3 := x1.mono (t2.trans t3) r1
    split at h3
    · cases x3 with
      | tup g1 g2 =>
        refine .inl ⟨_, _, rfl, g1, fun hc => ?_, fun _ p hp => ?_⟩
        · refine h3.val r3 (.tup g1 ?_)
          have := cutC_ok (lo := l') (hi := u') g2
          rw [cutV_all hc] at this
          exact this
        · exact h3.tup r3 (cutC_ok g2) hp
    · split at h3
      · rename_i k hk
        obtain ⟨a, vs, rfl, _, g1, g2⟩ := r3.lst x3 hk
        exact .inr ⟨_, _, rfl, SqL.of g1, fun p hp => h3.new r3 (.lst (cutC_ok g2)) hp⟩
      · exact h3.elim
    · exact h3.elim
end
end TH
-- part C5
namespace TH
open PySem PySem.Spec PyProof.Rows L2
/-! ## calls -/
abbrev GC := List CV → CS → Out CV
def AdC (K : PySem.W.Frag) (Z : ExI) (r : List V → Hp → VK → Prop) (g : GC) : Prop := ∀ (W : WX) (σ : L2.St) (f : List Addr) (S : CS) (H : Hp) (xs : List CV) (vs : List V) (Q : VK), Rel K f H S → RVs K f H xs vs → Res K Z (rV K) W f H σ (g xs S) Q → r vs H Q
def eCall (g : GC) (k : M (List CV)) : M CV := k.bind fun l => fun _ S => g l S
section
variable {X : Cx} {Z : ExI} {W : WX} {x : Str} {p pos : Pos} {e : Expr} {es : List Expr} {id T : String} {r : List V → Hp → VK → Prop} {g : GC} {k : M (List CV)}
theorem eCall_split {K : PySem.W.Frag} (ad : AdC K Z r g) {σ : L2.St} {H : Hp} {Q : VK} (h : tG K Z (rV K) W (eCall g k) σ H Q) : tCB r (tG K Z (rVs K) W k) σ H Q := by
  refine (tG.bind (R1 := rVs K) h).mono ?_
  rintro v H1 ⟨f1, c, S1, x, r1, e1, x1, h1⟩
  exact ad W σ f1 S1 H1 x v Q r1 x1 h1
theorem me_callB (hc : CallR X (.builtin id) r) (ad : AdC X.K Z r g) (hg : Gl X x) (hm : X.mg x = none) (hv : bootBuiltins x = some (.builtin id)) (ha : MA X Z W (e :: es) k) (hn : x ≠ "__name__" := by decide) (hdb : (x == ("__debug__" : Str)) = false := by decide)
    (he : starEach (e :: es) X.env = (false, eval e X.env) :: starEach es X.env := by rfl) (hpl : (backTo pos (starEach es X.env)).any (·.1) = false := by rfl) : ME X Z W (.Call (.Name x p) (e :: es) [] pos) (eCall g k) :=
  (pe_callB hc hg hm hv ha hn hdb he hpl).imp fun _ _ _ h => eCall_split ad h
theorem me_callTy (hc : CallR X (.type T) r) (ad : AdC X.K Z r g) (hg : Gl X x) (hm : X.mg x = none) (hv : bootBuiltins x = some (.type T)) (ha : MA X Z W (e :: es) k) (hn : x ≠ "__name__" := by decide) (hdb : (x == ("__debug__" : Str)) = false := by decide)
    (he : starEach (e :: es) X.env = (false, eval e X.env) :: starEach es X.env := by rfl) (hpl : (backTo pos (starEach es X.env)).any (·.1) = false := by rfl) : ME X Z W (.Call (.Name x p) (e :: es) [] pos) (eCall g k) :=
  (pe_callTy hc hg hm hv ha hn hdb he hpl).imp fun _ _ _ h => eCall_split ad h
/-- a built-in under a global name (an imported one) -/
theorem me_callM (hc : CallR X (.builtin id) r) (ad : AdC X.K Z r g) (hg : Gl X x) (hm : X.mg x = some (.builtin id)) (ha : MA X Z W (e :: es) k) (hdb : (x == ("__debug__" : Str)) = false := by decide)
    (he : starEach (e :: es) X.env = (false, eval e X.env) :: starEach es X.env := by rfl) (hpl : (backTo pos (starEach es X.env)).any (·.1) = false := by rfl) : ME X Z W (.Call (.Name x p) (e :: es) [] pos) (eCall g k) := by
  have h0 : PE X (.Call (.Name x p) (e :: es) [] pos) (tCB r (tG X.K Z (rVs X.K) W k)) := by
    refine ⟨fun pins s σ H Q I h => ?_⟩
    refine wpAny_Call_Name_kw (ld_glob I hg hm ?_ hdb)
    exact PyProof.Rows.callWith_builtin1 (thn (ha.run pos pins s σ H _ I h) fun us s1 ⟨vs, H1, I1, r1, q1⟩ => hc pins s1 σ H1 vs us Q I1 r1 q1) he hpl
  exact h0.imp fun _ _ _ h => eCall_split ad h

/-! ## own defs -/
mutual
def pureC : CV → Bool
  | .ref _ => false
  | .fz _ => false
  | .tup l => pureL l
  | _ => true
def pureL : List CV → Bool
  | [] => true
  | x :: l => pureC x && pureL l
end
mutual
theorem RV.pure {K : PySem.W.Frag} {f f' : List Addr} {H : Hp} : ∀ {x : CV} {v : V}, pureC x = true → RV K f H x v → RV K f' H x v
  | _, _, _, .non => .non
  | _, _, _, .bl b => .bl b
  | _, _, _, .int i => .int i
  | _, _, _, .str x => .str x
  | _, _, _, .ty n => .ty n
  | _, _, h, .tup a r => .tup a (RVs.pure (by simpa [pureC] using h) r)
  | _, _, h, .ref _ => by simp [pureC] at h
  | _, _, h, .fz _ _ => by simp [pureC] at h
theorem RVs.pure {K : PySem.W.Frag} {f f' : List Addr} {H : Hp} : ∀ {x : List CV} {v : List V}, pureL x = true → RVs K f H x v → RVs K f' H x v
  | _, _, _, .nil => .nil
  | _, _, h, .cons a b => by
    simp only [pureL, Bool.and_eq_true] at h
    exact .cons (RV.pure h.1 a) (RVs.pure h.2 b)
end
def spM (K : PySem.W.Frag) (Z : ExI) (n : Nat) (mf : GC) : Sp := fun vs H Q E => vs.length = n ∧ ∃ f S xs, Rel K f H S ∧ RVs K f H xs vs ∧ Res K Z (rV K) (fun cls d _ H' => E cls d H') f H [] (mf xs S) Q
/-- a call upon the whole store -/
def gG (n : Nat) (mf : GC) : GC := fun l S => if l.length = n then mf l S else .stuck
/-- a call by pure data: a store of its own -/
def gP (n : Nat) (mf : GC) : GC := fun l S => if (l.length == n && pureL l) = true then match mf l CS.nil with
    | .ok v _ => if pureC v = true then .ok v S else .stuck
    | .exn e x _ => if pureC x = true then .exn e x S else .stuck
    | .stuck => .stuck
  else .stuck
theorem Rel.nil {K : PySem.W.Frag} {H : Hp} : Rel K [] H CS.nil := ⟨rfl, rfl, List.nodup_nil, fun i o h => by simp [CS.get, CS.nil] at h⟩
theorem Res.sigma {K : PySem.W.Frag} {α β : Type} {R1 : RL α β} {f : List Addr} {H : Hp} {E : XK} {σ σ' : L2.St} {o : Out α} {Q : β → Hp → Prop} (h : Res K Z R1 (fun cls d _ H' => E cls d H') f H σ o Q) : Res K Z R1 (fun cls d _ H' => E cls d H') f H σ' o Q := by
  cases o with
  | ok x S' => exact h
  | exn e x S => exact h
  | stuck => exact h
theorem Res.wish {K : PySem.W.Frag} {α β : Type} {R1 : RL α β} {f : List Addr} {H : Hp} {σ : L2.St} {o : Out α} {Q : β → Hp → Prop} (h : Res K Z R1 W f H σ o Q) : Res K Z R1 (fun cls d _ H' => WE W σ cls d H') f H [] o Q := by
  cases o with
  | ok x S' => exact h
  | exn e x S => exact h
  | stuck => exact h
theorem ad_gG {K : PySem.W.Frag} {n : Nat} {mf : GC} {W : WX} {σ : L2.St} {f : List Addr} {S : CS} {H : Hp} {xs : List CV} {vs : List V} {Q : VK} (R : Rel K f H S) (r : RVs K f H xs vs) (h : Res K Z (rV K) W f H σ (gG n mf xs S) Q) : spM K Z n mf vs H Q (WE W σ) := by
  unfold gG at h
  split at h
  · rename_i hl
    exact ⟨by rw [← r.len]; exact hl, f, S, xs, R, r, h.wish⟩
  · exact h.elim
theorem Ext.empty {K : PySem.W.Frag} {f f' : List Addr} {H H' : Hp} {S : CS} (R : Rel K f H S) (e : Ext [] H f' H') : Ext f H f H' ∧ Rel K f H' S := by
  have fr : ∀ a o, H a = some o → H' a = some o := fun a o h => e.frame a o h (by simp)
  have x : Ext f H f H' := ⟨⟨[], by simp, by simp⟩, fun a o h _ => fr a o h, fun a h => by
    obtain ⟨u, h1, _⟩ := R.mem h
    exact ⟨u, fr a u h1⟩⟩
  refine ⟨x, R.ext_same x fun a ha => ?_⟩
  obtain ⟨u, h1, _⟩ := R.mem ha
  rw [h1, fr a u h1]
theorem ad_gP {K : PySem.W.Frag} {n : Nat} {mf : GC} {W : WX} {σ : L2.St} {f : List Addr} {S : CS} {H : Hp} {xs : List CV} {vs : List V} {Q : VK} (R : Rel K f H S) (r : RVs K f H xs vs) (h : Res K Z (rV K) W f H σ (gP n mf xs S) Q) : spM K Z n mf vs H Q (WE W σ) := by
  unfold gP at h
  split at h
  · rename_i hl
    simp only [Bool.and_eq_true, beq_iff_eq] at hl
    refine ⟨by rw [← r.len]; exact hl.1, [], CS.nil, xs, Rel.nil, r.pure hl.2, ?_⟩
    cases q : mf xs CS.nil with
    | ok v S1 =>
      rw [q] at h
      dsimp only at h
      split at h
      · rename_i hp
        intro f' H' w e' R' rw'
        obtain ⟨x1, x2⟩ := Ext.empty R e'
        exact h f H' w x1 x2 (RV.pure hp rw')
      · exact h.elim
    | exn e x S1 =>
      rw [q] at h
      dsimp only at h
      split at h
      · rename_i hp
        intro f' H' d w e' R' hd rw'
        obtain ⟨x1, x2⟩ := Ext.empty R e'
        exact h f H' d w x1 x2 hd (RV.pure hp rw')
      · exact h.elim
    | stuck => rw [q] at h; exact h.elim
  · exact h.elim
theorem me_fn {lv n : Nat} {f : Addr} {fd : FuncData} {ps : List Str} {mf : GC} {g : GC → GC} (F : FnOk X.prog X.w X.K X.mg X.base (L2.CX X.prog X.w) lv f fd ps (spM X.K Z n mf)) (hr : Room lv X.A) (hg : Gl X x) (hm : X.mg x = some (.ref f)) (hk : PySem.W.keepIn X.K (.ref f) = true) (hb : Binds X.K fd ps [])
    (tk : Takes X W) (ha : MA X Z W (e :: es) k)
    (gg : ∀ {W : WX} {σ : L2.St} {f : List Addr} {S : CS} {H : Hp} {xs : List CV} {vs : List V} {Q : VK}, Rel X.K f H S → RVs X.K f H xs vs → Res X.K Z (rV X.K) W f H σ (g mf xs S) Q → spM X.K Z n mf vs H Q (WE W σ))
    (hdb : (x == ("__debug__" : Str)) = false := by decide)
    (he : starEach (e :: es) X.env = (false, eval e X.env) :: starEach es X.env := by rfl) (hpl : (backTo pos (starEach es X.env)).any (·.1) = false := by rfl) : ME X Z W (.Call (.Name x p) (e :: es) [] pos) (eCall (g mf) k) :=
  (pe_callSD (E := WE W) F hr hg hm hk hb .nil (fun σ => passAt tk σ) ha hdb he hpl).imp fun σ H Q h => by
    refine (tG.bind (R1 := rVs X.K) h).mono ?_
    rintro v H1 ⟨f1, c, S1, x, r1, e1, x1, h1⟩
    rw [List.append_nil]
    exact gg r1 x1 h1
end

/-! ## statements -/
inductive OutS where
  | nx (c : CE) (S : CS)
  | rt (x : CV) (S : CS)
  | bk (c : CE) (S : CS)
  | ct (c : CE) (S : CS)
  | exn (e : Nat) (x : CV) (c : CE) (S : CS)
  | stuck
abbrev MS := CE → CS → OutS
section
variable (K : PySem.W.Frag) (Z : ExI)
def ResS (W : WX) (f : List Addr) (H : Hp) (o : OutS) (D : Ends) : Prop :=
  match o with
  | .nx c S' => ∀ f' H' σ', Ext f H f' H' → Rel K f' H' S' → RE K f' H' c σ' → D.nx σ' H'
  | .rt x S' => ∀ f' H' v, Ext f H f' H' → Rel K f' H' S' → RV K f' H' x v → D.rt v H'
  | .bk c S' => ∀ f' H' σ', Ext f H f' H' → Rel K f' H' S' → RE K f' H' c σ' → D.bk σ' H'
  | .ct c S' => ∀ f' H' σ', Ext f H f' H' → Rel K f' H' S' → RE K f' H' c σ' → D.ct σ' H'
  | .exn e x c S' => ∀ f' H' d v σ', Ext f H f' H' → Rel K f' H' S' → RE K f' H' c σ' → H' d = some (.xd [(Z.fld e, v)]) → RV K f' H' x v → W (Z.cls e) (some d) σ' H'
  | .stuck => False
def tS (W : WX) (m : MS) : TS := fun D σ H => ∃ f c S, Rel K f H S ∧ RE K f H c σ ∧ ResS K Z W f H (m c S) D
end
abbrev MSt (X : Cx) (Z : ExI) (W : WX) (st : Stmt) (m : MS) : Prop := PS X st (tS X.K Z W m)
abbrev MSs (X : Cx) (Z : ExI) (W : WX) (st : List Stmt) (m : MS) : Prop := PSs X st (tS X.K Z W m)
def lift {α : Type} (m : M α) (k : α → MS) : MS := fun c S => match m c S with
  | .ok a S' => k a c S'
  | .exn e x S' => .exn e x c S'
  | .stuck => .stuck
def sNil : MS := fun c S => .nx c S
def sSeq (m k : MS) : MS := fun c S => match m c S with
  | .nx c' S' => k c' S'
  | o => o
def sRet (m : M CV) : MS := lift m fun x _ S => .rt x S
def sRetN : MS := fun _ S => .rt .non S
def sExpr (m : M CV) : MS := lift m fun _ c S => .nx c S
def sIf (t : M Bool) (a b : MS) : MS := lift t fun v => if v then a else b
def sBk : MS := fun c S => .bk c S
def sCt : MS := fun c S => .ct c S
def sNever : MS := fun _ _ => .stuck
section
variable {K : PySem.W.Frag} {Z : ExI} {W : WX} {f f1 : List Addr} {H H1 : Hp} {S : CS} {c : CE} {σ : L2.St} {D : Ends}
theorem ResS.shift {o : OutS} (h : ResS K Z W f H o D) (e : Ext f H f1 H1) : ResS K Z W f1 H1 o D := by
  cases o with
  | nx c S' => exact fun f' H' v e' r q => h f' H' v (e.trans e') r q
  | rt c S' => exact fun f' H' v e' r q => h f' H' v (e.trans e') r q
  | bk c S' => exact fun f' H' v e' r q => h f' H' v (e.trans e') r q
  | ct c S' => exact fun f' H' v e' r q => h f' H' v (e.trans e') r q
  | exn k x c S' => exact fun f' H' d v σ e' r q => h f' H' d v σ (e.trans e') r q
  | stuck => exact h
theorem lift_at {α β : Type} {R1 : RL α β} {m : M α} {k : α → MS} (r : Rel K f H S) (e : RE K f H c σ) (h : ResS K Z W f H (lift m k c S) D) :
    tG K Z R1 W m σ H (fun v H1 => ∃ f1 S1 x, Ext f H f1 H1 ∧ Rel K f1 H1 S1 ∧ RE K f1 H1 c σ ∧ R1 f1 H1 x v ∧ ResS K Z W f1 H1 (k x c S1) D) := by
  refine ⟨f, c, S, r, e, ?_⟩
  unfold lift at h
  cases q : m c S with
  | ok x S' =>
    rw [q] at h
    exact fun f' H' v e' r' q' => ⟨f', S', x, e', r', e.mono e' r, q', ResS.shift (o := k x c S') h e'⟩
  | exn k x S' =>
    rw [q] at h
    exact fun f' H' d v e' r' hd q' => h f' H' d v σ e' r' (e.mono e' r) hd q'
  | stuck => rw [q] at h; exact h
theorem ResS.nx (h : ResS K Z W f H (.nx c S) D) (r : Rel K f H S) (e : RE K f H c σ) : D.nx σ H := h f H σ (Ext.refl r) r e
end
section
variable {X : Cx} {Z : ExI} {W : WX} {st : Stmt} {rest : List Stmt} {a e : Expr} {pos : Pos} {m k : MS} {ma : M CV} {ta : M Bool}
theorem ms_nil : MSs X Z W [] sNil := pss_nil.imp fun D σ H h => by
  obtain ⟨f, c, S, r, e, h⟩ := h
  exact h.nx r e
theorem seq_split {D : Ends} {σ : L2.St} {H : Hp} (h : tS X.K Z W (sSeq m k) D σ H) : tSeq (tS X.K Z W m) (tS X.K Z W k) D σ H := by
  obtain ⟨f, c, S, r, e, h⟩ := h
  refine ⟨f, c, S, r, e, ?_⟩
  unfold sSeq at h
  cases q : m c S with
  | nx c' S' =>
    rw [q] at h
    exact fun f' H' σ' e' r' q' => ⟨f', c', S', r', q', ResS.shift (o := k c' S') h e'⟩
  | rt c' S' => rw [q] at h; exact h
  | bk c' S' => rw [q] at h; exact h
  | ct c' S' => rw [q] at h; exact h
  | exn e x c' S' => rw [q] at h; exact h
  | stuck => rw [q] at h; exact h
theorem ms_cons (h1 : MSt X Z W st m) (h2 : MSs X Z W rest k) : MSs X Z W (st :: rest) (sSeq m k) := (pss_cons h1 h2).imp fun _ _ _ h => seq_split h
theorem ms_one (h1 : MSt X Z W st m) : MSs X Z W [st] m := pss_one h1
theorem ms_ret (ha : ME X Z W a ma) : MSt X Z W (.Return (some a) pos) (sRet ma) := (ps_ret ha).imp fun D σ H h => by
  obtain ⟨f, c, S, r, e, h⟩ := h
  refine (lift_at (R1 := rV X.K) r e h).mono ?_
  rintro v H1 ⟨f1, S1, x, t1, r1, e1, x1, h1⟩
  exact h1 f1 H1 v (Ext.refl r1) r1 x1
theorem ms_retN : MSt X Z W (.Return none pos) sRetN := ps_retN.imp fun D σ H h => by
  obtain ⟨f, c, S, r, e, h⟩ := h
  exact h f H .non (Ext.refl r) r .non
theorem ms_expr (ha : ME X Z W a ma) (hs : swapsWith a none pos.line X.env = pure false := by rfl) : MSt X Z W (.Expr a pos) (sExpr ma) := (ps_expr ha hs).imp fun D σ H h => by
  obtain ⟨f, c, S, r, e, h⟩ := h
  refine (lift_at (R1 := rV X.K) r e h).mono ?_
  rintro v H1 ⟨f1, S1, x, t1, r1, e1, x1, h1⟩
  exact h1.nx r1 e1
theorem ms_if {x y : List Stmt} {mx my : MS} (hc : MT X Z W a ta) (hx : MSs X Z W x mx) (hy : MSs X Z W y my) : MSt X Z W (.If a x y pos) (sIf ta mx my) := (ps_if hc hx hy).imp fun D σ H h => by
  obtain ⟨f, c, S, r, e, h⟩ := h
  refine (lift_at (R1 := rB) r e h).mono ?_
  rintro v H1 ⟨f1, S1, x, t1, r1, e1, rfl, h1⟩
  cases x with
  | true => rw [if_pos rfl]; exact ⟨f1, c, S1, r1, e1, h1⟩
  | false => rw [if_neg (by decide)]; exact ⟨f1, c, S1, r1, e1, h1⟩
theorem ms_bk : MSt X Z W (.Break pos) sBk := ps_break.imp fun D σ H h => by
  obtain ⟨f, c, S, r, e, h⟩ := h
  exact h f H σ (Ext.refl r) r e
theorem ms_ct : MSt X Z W (.Continue pos) sCt := ps_continue.imp fun D σ H h => by
  obtain ⟨f, c, S, r, e, h⟩ := h
  exact h f H σ (Ext.refl r) r e
theorem ms_never : MSt X Z W st sNever := ps_never.imp fun D σ H h => by
  obtain ⟨f, c, S, r, e, h⟩ := h
  exact h
theorem mss_never : MSs X Z W rest sNever := pss_never.imp fun D σ H h => by
  obtain ⟨f, c, S, r, e, h⟩ := h
  exact h

/-! ## targets -/
abbrev MGt := CV → CE → CS → Out CE
abbrev rEn (K : PySem.W.Frag) : RL CE L2.St := fun f H => RE K f H
def tGt (K : PySem.W.Frag) (Z : ExI) (W : WX) (m : MGt) : TG := fun v σ H Q => ∃ f c S x, Rel K f H S ∧ RE K f H c σ ∧ RV K f H x v ∧ Res K Z (rEn K) W f H σ (m x c S) Q
abbrev MG (X : Cx) (Z : ExI) (W : WX) (tg : Expr) (m : MGt) : Prop := PG X tg (tGt X.K Z W m)
theorem _root_.L2.PG.imp {X : Cx} {e : Expr} {t t' : TG} (h : PG X e t) (i : ∀ v σ H Q, t' v σ H Q → t v σ H Q) : PG X e t' := ⟨fun pins s σ H v u Q I r q => h.run pins s σ H v u Q I r (i v σ H Q q)⟩
theorem _root_.L2.PGs.imp {X : Cx} {e : List Expr} {t t' : TGs} (h : PGs X e t) (i : ∀ v σ H Q, t' v σ H Q → t v σ H Q) : PGs X e t' := ⟨fun pins s σ H v u Q I r q => h.run pins s σ H v u Q I r (i v σ H Q q)⟩
def gN (i : Nat) : MGt := fun x c S => .ok (c.set i (some x)) S
theorem mg_name {i : Nat} {x : Str} (hN : X.N.Nodup) (hi : X.N[i]? = some x) (hx : Loc X.env.scope x) (hf : X.fn x = true ∨ X.env.scope.names.lookup x = some .local := by first | exact .inl rfl | exact .inr rfl | assumption) : MG X Z W (.Name x pos) (gN i) :=
  (pg_name hN hi hx hf).imp fun v σ H Q h => by
    obtain ⟨f, c, S, x, r, e, rx, h⟩ := h
    exact h f H _ (Ext.refl r) r (e.set rx)
abbrev MGts := List CV → CE → CS → Out CE
def tGts (K : PySem.W.Frag) (Z : ExI) (W : WX) (m : MGts) : TGs := fun v σ H Q => ∃ f c S x, Rel K f H S ∧ RE K f H c σ ∧ RVs K f H x v ∧ Res K Z (rEn K) W f H σ (m x c S) Q
abbrev MGl (X : Cx) (Z : ExI) (W : WX) (tg : List Expr) (m : MGts) : Prop := PGs X tg (tGts X.K Z W m)
def gNil : MGts := fun l c S => match l with
  | [] => .ok c S
  | _ => .stuck
def gCons (m : MGt) (k : MGts) : MGts := fun l c S => match l with
  | [] => .stuck
  | x :: l => (m x c S).bind fun c' S' => k l c' S'
theorem mg_nil : MGl X Z W [] gNil := pgs_nil.imp fun v σ H Q h => by
  obtain ⟨f, c, S, x, r, e, rx, h⟩ := h
  cases rx with
  | nil => exact ⟨rfl, h f H _ (Ext.refl r) r e⟩
  | cons _ _ => exact h.elim
theorem mg_cons {es : List Expr} {mt : MGt} {mk : MGts} (h1 : MG X Z (fun _ _ _ _ => False) e mt) (h2 : MGl X Z (fun _ _ _ _ => False) es mk) (hs : (assignEach (e :: es) X.env).map (·.2) = assign e X.env :: (assignEach es X.env).map (·.2) := by rfl) : MGl X Z (fun _ _ _ _ => False) (e :: es) (gCons mt mk) :=
  (pgs_cons h1 h2 hs).imp fun v σ H Q h => by
    obtain ⟨f, c, S, x, r, e, rx, h⟩ := h
    cases rx with
    | nil => exact h.elim
    | cons r1 r2 =>
      refine ⟨_, _, rfl, f, c, S, _, r, e, r1, ?_⟩
      unfold gCons at h
      dsimp only at h
      refine Res.mono (Res.bind (R1 := rEn X.K) h) ?_
      rintro σ' H' ⟨f1, S1, c1, t1, r1', e1, h1⟩
      refine ⟨f1, c1, S1, _, r1', e1, r2.mono t1 r, ?_⟩
      cases q : mk _ c1 S1 with
      | ok c2 S2 => rw [q] at h1; exact h1
      | exn e x S2 => rw [q] at h1; exact fun f' H' d v e' r' hd q' => h1 f' H' d v e' r' hd q'
      | stuck => rw [q] at h1; exact h1
def gT (n : Nat) (k : MGts) : MGt := fun x c S => match x with
  | .tup l => if l.length = n then k l c S else .stuck
  | _ => .stuck
theorem mg_tup {es : List Expr} {n j : Nat} {mk : MGts} (hc : X.calm = true) (h : MGl X Z W es mk) (hn : (assignEach es X.env).length = n := by rfl) (hst : (assignEach es X.env).findIdx? (·.1) = none := by rfl) : MG X Z W (.Tuple es j pos) (gT n mk) :=
  (pg_tup hc h hn hst).imp fun v σ H Q h => by
    obtain ⟨f, c, S, x, r, e, rx, h⟩ := h
    cases rx with
    | tup h1 r1 =>
      unfold gT at h
      dsimp only at h
      split at h
      · rename_i hl
        exact ⟨_, _, rfl, h1, by rw [← r1.len]; exact hl, f, c, S, _, r, e, r1, h⟩
      · exact h.elim
    | _ => exact h.elim
def sAsg (m : M CV) (g : MGt) : MS := lift m fun x => lift (fun c S => g x c S) fun c' => fun _ S => .nx c' S
theorem asg_split {g : MGt} {D : Ends} {σ : L2.St} {H : Hp} (h : tS X.K Z W (sAsg ma g) D σ H) : tAsg (tG X.K Z (rV X.K) W ma) (tGt X.K Z W g) D σ H := by
  obtain ⟨f, c, S, r, e, h⟩ := h
  refine (lift_at (R1 := rV X.K) r e h).mono ?_
  rintro v H1 ⟨f1, S1, x, t1, r1, e1, x1, h1⟩
  refine ⟨f1, c, S1, x, r1, e1, x1, ?_⟩
  unfold lift at h1
  dsimp only at h1
  cases q : g x c S1 with
  | ok c' S' => rw [q] at h1; exact h1
  | exn k x S' =>
    rw [q] at h1
    exact fun f' H' d v e' r' hd q' => h1 f' H' d v σ e' r' (e1.mono e' r1) hd q'
  | stuck => rw [q] at h1; exact h1
theorem ms_asg {tg : Expr} {g : MGt} (ha : ME X Z W a ma) (hg : MG X Z W tg g) (hs : swapsWithSole [tg] a pos.line X.env = pure false := by rfl) (hw : swappedStores [tg] a X.env = pure none := by rfl)
    (h1 : (assignEach [tg] X.env).map (·.2) = [assign tg X.env] := by rfl) : MSt X Z W (.Assign [tg] a pos) (sAsg ma g) := (ps_asg ha hg hs hw h1).imp fun _ _ _ h => asg_split h
theorem ms_set {i : Nat} {x : Str} {pos' : Pos} (hN : X.N.Nodup) (hi : X.N[i]? = some x) (hx : Loc X.env.scope x) (ha : ME X Z W a ma) (hs : swapsWith a (some (.Name x pos')) pos.line X.env = pure false := by rfl) (hf : X.fn x = true ∨ X.env.scope.names.lookup x = some .local := by first | exact .inl rfl | exact .inr rfl | assumption) :
    MSt X Z W (.Assign [.Name x pos'] a pos) (sAsg ma (gN i)) := (ps_set hN hi hx ha hs hf).imp fun D σ H h => by
  refine TH.tG.mono (asg_split h) ?_
  rintro v H1 ⟨f, c, S, x, r, e, rx, h⟩
  exact h f H1 _ (Ext.refl r) r (e.set rx)
/-! a def -/
def runB (N : Nat) (m : MS) : GC := fun xs S => match m (xs.map some ++ List.replicate (N - xs.length) none) S with
  | .nx _ S' => .ok .non S'
  | .rt v S' => .ok v S'
  | .exn e x _ S' => .exn e x S'
  | _ => .stuck
theorem start_ok {K : PySem.W.Frag} {f : List Addr} {H : Hp} {N : List Str} {xs : List CV} {vs : List V} (r : RVs K f H xs vs) : RE K f H (xs.map some ++ List.replicate (N.length - xs.length) none) (L2.start N vs) := by
  unfold L2.start
  refine ⟨by simp [r.len], fun i x hx => ?_⟩
  by_cases hi : i < xs.length
  · rw [List.getElem?_append_left (by simpa using hi), List.getElem?_map] at hx
    obtain ⟨y, hy, e⟩ := Option.map_eq_some_iff.mp hx
    cases e
    obtain ⟨v, h1, h2⟩ := r.at_ hy
    exact ⟨v, by rw [List.getElem?_append_left (by rw [List.length_map, ← r.len]; exact hi), List.getElem?_map, h1]; rfl, h2⟩
  · rw [List.getElem?_append_right (by simpa using hi), List.getElem?_replicate] at hx
    split at hx <;> cases hx
theorem fn_ok {P : Program} {w : World} {K : PySem.W.Frag} {mg : Str → Option Value} {base : Heap} {x qual : Str} {st : Stmt} {f : Addr} {fd : FuncData} {N ps : List Str} {lv : Nat} {m : MS} (F : Fun K x qual st f fd) (SC : FnScope N ps (defScope st))
    (hb : ∀ (cdv : Value) (A : Around) (outer : List Env) (s : Shared) (H : Hp) (E : XK), Room lv (A.deeper (envOfC qual (defScope st) s.heap.objs.size f cdv)) →
      MSs (cxOf (L2.CX P w) P w K mg base N qual (defScope st) f cdv A outer s H E) Z (fun cls d _ H => E cls d H) (defBody st) m) :
    FnOk P w K mg base (L2.CX P w) (lv + 1) f fd ps (spM K Z ps.length (runB N.length m)) := by
  refine F.okX SC (fun vs H Q E h => h.1) fun cdv A outer s H vs Q E hr h => ?_
  obtain ⟨hl, fs, S, xs, R, r, h⟩ := h
  refine ⟨_, hb cdv A outer s H E hr, fs, _, S, R, start_ok r, ?_⟩
  unfold runB at h
  cases q : m (xs.map some ++ List.replicate (N.length - xs.length) none) S with
  | nx c' S' => rw [q] at h; exact fun f' H' σ' e' r' _ => h f' H' _ e' r' .non
  | rt v S' => rw [q] at h; exact h
  | exn e x c' S' => rw [q] at h; exact fun f' H' d v σ' e' r' _ hd q' => h f' H' d v e' r' hd q'
  | bk c' S' => rw [q] at h; exact h.elim
  | ct c' S' => rw [q] at h; exact h.elim
  | stuck => rw [q] at h; exact h.elim
end
end TH
-- part C6
namespace TH
open PySem PySem.Spec PyProof.Rows L2
/-! ## names that a loop stores -/
inductive Tg where
  | nm (i : Nat)
  | tp (l : List Tg)
mutual
def gOf (K : PySem.W.Frag) : Tg → TG
  | .nm i => gName i
  | .tp l => gTup K l.length (gOfs K l)
def gOfs (K : PySem.W.Frag) : List Tg → TGs
  | [] => L2.gNil
  | t :: l => L2.gCons (gOf K t) (gOfs K l)
end
mutual
def bT : Tg → CV → CE → Option CE
  | .nm i, x, c => some (c.set i (some x))
  | .tp l, .tup xs, c => if xs.length = l.length then bTs l xs c else none
  | .tp _, _, _ => none
def bTs : List Tg → List CV → CE → Option CE
  | [], [], c => some c
  | t :: l, x :: xs, c => match bT t x c with
    | some c' => bTs l xs c'
    | none => none
  | _, _, _ => none
end
mutual
def slots : Tg → List Nat
  | .nm i => [i]
  | .tp l => slotsL l
def slotsL : List Tg → List Nat
  | [] => []
  | t :: l => slots t ++ slotsL l
end
theorem wipe_set {σ : L2.St} {i : Nat} {v : V} : ∀ {vs : List Nat}, i ∈ vs → wipe (σ.set i (some v)) vs = wipe σ vs
  | [], h => by simp at h
  | j :: vs, h => by
    unfold wipe
    by_cases e : j = i
    · subst e
      by_cases hm : j ∈ vs
      · rw [wipe_set hm]
      · have : ∀ {us : List Nat}, j ∉ us → wipe (σ.set j (some v)) us = (wipe σ us).set j (some v) := by
          intro us
          induction us with
          | nil => intro _; rfl
          | cons k us ih =>
            intro hk
            simp only [List.mem_cons, not_or] at hk
            unfold wipe
            rw [ih hk.2, List.set_comm _ _ (Ne.symm (Ne.symm hk.1))]
        rw [this hm, List.set_set]
    · have hm : i ∈ vs := by
        rcases List.mem_cons.mp h with z | z
        · exact absurd z.symm e
        · exact z
      rw [wipe_set hm]
section
variable {K : PySem.W.Frag} {Z : ExI} {W : WX} {f f1 : List Addr} {H H1 : Hp} {S : CS} {c c' : CE} {σ : L2.St} {D : Ends}
mutual
theorem gOf_ok : ∀ {t : Tg} {x : CV} {v : V} {c c' : CE} {σ : L2.St} {Q : L2.St → Hp → Prop}, RE K f H c σ → RV K f H x v → bT t x c = some c' → (∀ σ', RE K f H c' σ' → (∀ vs, (∀ i ∈ slots t, i ∈ vs) → wipe σ' vs = wipe σ vs) → Q σ' H) → gOf K t v σ H Q
  | .nm i, x, v, c, c', σ, Q, e, r, h, q => by
    unfold bT at h
    cases h
    unfold gOf
    exact q _ (e.set r) fun vs hv => wipe_set (hv i (by unfold slots; simp))
  | .tp l, x, v, c, c', σ, Q, e, r, h, q => by
    cases r with
    | tup h1 r1 =>
      unfold bT at h
      split at h
      · rename_i hl
        unfold gOf
        refine ⟨_, _, rfl, h1, by rw [← r1.len]; exact hl, ?_⟩
        exact gOfs_ok e r1 h fun σ' e' w => q σ' e' fun vs hv => w vs (by unfold slots at hv; exact hv)
      · cases h
    | _ => simp [bT] at h
theorem gOfs_ok : ∀ {t : List Tg} {x : List CV} {v : List V} {c c' : CE} {σ : L2.St} {Q : L2.St → Hp → Prop}, RE K f H c σ → RVs K f H x v → bTs t x c = some c' → (∀ σ', RE K f H c' σ' → (∀ vs, (∀ i ∈ slotsL t, i ∈ vs) → wipe σ' vs = wipe σ vs) → Q σ' H) → gOfs K t v σ H Q
  | [], x, v, c, c', σ, Q, e, r, h, q => by
    cases r with
    | nil =>
      simp [bTs] at h
      subst h
      exact ⟨rfl, q σ e fun _ _ => rfl⟩
    | cons _ _ => simp [bTs] at h
  | t :: l, x, v, c, c', σ, Q, e, r, h, q => by
    cases r with
    | nil => simp [bTs] at h
    | cons r1 r2 =>
      simp only [bTs] at h
      split at h
      · rename_i c1 hc
        unfold gOfs
        refine ⟨_, _, rfl, ?_⟩
        refine gOf_ok e r1 hc fun σ1 e1 w1 => ?_
        refine gOfs_ok e1 r2 h fun σ2 e2 w2 => q σ2 e2 fun vs hv => ?_
        unfold slotsL at hv
        rw [w2 vs fun i hi => hv i (List.mem_append_right _ hi), w1 vs fun i hi => hv i (List.mem_append_left _ hi)]
      · cases h
end
end
abbrev MTg (X : Cx) (tg : Expr) (t : Tg) : Prop := PG X tg (gOf X.K t)
abbrev MTgs (X : Cx) (tg : List Expr) (t : List Tg) : Prop := PGs X tg (gOfs X.K t)
section
variable {X : Cx} {Z : ExI} {W : WX} {pos : Pos} {e : Expr} {es : List Expr} {t : Tg} {l : List Tg}
theorem mt_nm {i : Nat} {x : Str} (hN : X.N.Nodup) (hi : X.N[i]? = some x) (hx : Loc X.env.scope x) (hf : X.fn x = true ∨ X.env.scope.names.lookup x = some .local := by first | exact .inl rfl | exact .inr rfl | assumption) : MTg X (.Name x pos) (.nm i) := by
  have := pg_name (pos := pos) hN hi hx hf
  show PG X _ (gOf X.K (.nm i))
  unfold gOf
  exact this
theorem mts_nil : MTgs X [] [] := by
  show PGs X _ (gOfs X.K [])
  unfold gOfs
  exact pgs_nil
theorem mts_cons (h1 : MTg X e t) (h2 : MTgs X es l) (hs : (assignEach (e :: es) X.env).map (·.2) = assign e X.env :: (assignEach es X.env).map (·.2) := by rfl) : MTgs X (e :: es) (t :: l) := by
  show PGs X _ (gOfs X.K (t :: l))
  unfold gOfs
  exact pgs_cons h1 h2 hs
theorem mt_tp {k : Nat} (hc : X.calm = true) (h : MTgs X es l) (hn : (assignEach es X.env).length = l.length := by rfl) (hst : (assignEach es X.env).findIdx? (·.1) = none := by rfl) : MTg X (.Tuple es k pos) (.tp l) := by
  show PG X _ (gOf X.K (.tp l))
  unfold gOf
  exact pg_tup hc h hn hst
def gTg (t : Tg) : MGt := fun x c S => match bT t x c with
  | some c' => .ok c' S
  | none => .stuck
theorem mg_tg {tg : Expr} (h : MTg X tg t) : MG X Z W tg (gTg t) := h.imp fun v σ H Q h => by
  obtain ⟨f, c, S, x, r, e, rx, h⟩ := h
  unfold gTg at h
  split at h
  · rename_i c' hc
    exact gOf_ok e rx hc fun σ' e' _ => h f H σ' (Ext.refl r) r e'
  · exact h.elim
end

/-! ## what a loop walks -/
structure It0 where
  nxt : Nat → CS → Option (Option CV)
  cnt : Nat
def Walks (K : PySem.W.Frag) : RL It0 It := fun f1 H1 it J => ∀ f2 S2 H2 i, Grow K f1 H1 f2 H2 → Rel K f2 H2 S2 → match it.nxt i S2 with
  | some (some x) => J.go i H2 ∧ ∀ v H3, J.yld i H2 v H3 → Ext f2 H2 f2 H3 ∧ Rel K f2 H3 S2 ∧ RV K f2 H3 x v
  | some none => J.stop i H2
  | none => True
def tIt (K : PySem.W.Frag) (Z : ExI) (W : WX) (m : M It0) : TI := fun σ H R => tG K Z (Walks K) W m σ H R
abbrev MI (X : Cx) (Z : ExI) (W : WX) (tg iter : Expr) (m : M It0) : Prop := PI X tg iter (tIt X.K Z W m)
theorem _root_.L2.PI.imp {X : Cx} {tg e : Expr} {t t' : TI} (h : PI X tg e t) (i : ∀ σ H Q, t' σ H Q → t σ H Q) : PI X tg e t' := ⟨fun pins s σ H Q I q => h.run pins s σ H Q I (i σ H Q q)⟩
def itT (l : List CV) : It0 := ⟨fun i _ => some l[i]?, l.length⟩
def itL (n : Nat) (l : List CV) : It0 := ⟨fun i S => match S.get n with
  | some (.lst k) => some k[i]?
  | _ => none, l.length⟩
def itR (lo : Int) (n : Nat) : It0 := ⟨fun i _ => some (if i < n then some (.int (lo + i)) else none), n⟩
def iSeq (m : M CV) : M It0 := m.bind fun x => fun _ S => match x with
  | .tup l => .ok (itT l) S
  | .ref n => match S.get n with
    | some (.lst l) => .ok (itL n l) S
    | _ => .stuck
  | _ => .stuck
def inR (i : Int) : Bool := -(2 ^ 62) ≤ i && i < 2 ^ 62
def iR1 (k : M (List CV)) : M It0 := k.bind fun l => fun _ S => match l with
  | [.int j] => if inR j then .ok (itR 0 j.toNat) S else .stuck
  | _ => .stuck
def iR2 (k : M (List CV)) : M It0 := k.bind fun l => fun _ S => match l with
  | [.int i, .int j] => if inR i && inR j then .ok (itR i (j - i).toNat) S else .stuck
  | _ => .stuck
section
variable {K : PySem.W.Frag} {Z : ExI} {W : WX} {f f1 : List Addr} {H H1 : Hp} {S : CS} {c c' : CE} {σ : L2.St} {D : Ends}
theorem walks_T {a : Addr} {l : List CV} {vs : List V} (R : Rel K f H S) (h : SqT K H a vs) (r : RVs K f H l vs) : Walks K f H (itT l) (Itt K a) := by
  intro f2 S2 H2 i e R2
  have h2 := e.tup _ _ h
  have r2 := r.grow e
  show match some l[i]? with
    | some (some x) => _
    | some none => _
    | none => True
  cases q : l[i]? with
  | none =>
    refine ⟨vs, h2, ?_⟩
    rw [← r.len]
    exact List.getElem?_eq_none_iff.mp q
  | some x =>
    obtain ⟨v, g1, g2⟩ := r2.at_ q
    refine ⟨⟨vs, v, h2, g1⟩, fun w H3 y => ?_⟩
    obtain ⟨rfl, y⟩ := y
    refine ⟨Ext.refl R2, R2, ?_⟩
    have := y vs h2
    rw [g1] at this
    cases this
    exact g2
theorem walks_L {a : Addr} {n : Nat} {l : List CV} (R : Rel K f H S) (h : f[n]? = some a) : Walks K f H (itL n l) (Itl K a) := by
  intro f2 S2 H2 i e R2
  have h2 := e.get h
  unfold itL
  dsimp only
  cases q : S2.get n with
  | none => trivial
  | some o =>
    cases o with
    | dic _ => trivial
    | dit _ => trivial
    | lst k =>
      obtain ⟨a', vs, e1, e2, g1, g2⟩ := R2.lst (.ref h2) q
      cases e1
      dsimp only
      cases q2 : k[i]? with
      | none =>
        refine ⟨vs, SqL.of g1, ?_⟩
        rw [← g2.len]
        exact List.getElem?_eq_none_iff.mp q2
      | some x =>
        obtain ⟨v, g3, g4⟩ := g2.at_ q2
        refine ⟨⟨vs, v, SqL.of g1, g3⟩, fun w H3 y => ?_⟩
        obtain ⟨rfl, y⟩ := y
        refine ⟨Ext.refl R2, R2, ?_⟩
        have := y vs (SqL.of g1)
        rw [g3] at this
        cases this
        exact g4
theorem walks_R {lo : Int} {n : Nat} : Walks K f H (itR lo n) (Itr lo n) := by
  intro f2 S2 H2 i e R2
  unfold itR
  dsimp only
  by_cases hi : i < n
  · rw [if_pos hi]
    refine ⟨hi, fun w H3 y => ?_⟩
    obtain ⟨rfl, rfl⟩ := y
    exact ⟨Ext.refl R2, R2, .int _⟩
  · rw [if_neg hi]
    exact Nat.le_of_not_lt hi
end
section
variable {X : Cx} {Z : ExI} {W : WX} {tg a b e : Expr} {pos p : Pos} {ma : M CV} {k : M (List CV)}
theorem pi_seq {t : TE} (hl : PE X a t) : PI X tg a (fun σ H R => t σ H fun x H1 => (∃ q xs, x = .ref q ∧ SqL X.K H1 q xs ∧ R (Itl X.K q) H1) ∨ ∃ q xs, x = .ref q ∧ SqT X.K H1 q xs ∧ R (Itt X.K q) H1) := by
  refine ⟨fun pins s σ H R I h => ?_⟩
  refine thn (hl.run pins s σ H _ I h) fun v s1 ⟨x, H1, I1, r1, q1⟩ => ?_
  rcases q1 with ⟨q, xs, rfl, hq, q1⟩ | ⟨q, xs, rfl, hq, q1⟩
  · cases r1
    obtain ⟨its, rv, pl, hz⟩ := I1.list hq
    refine wpAny_pyIter_list pl.isList ?_
    have new : ∀ b ∈ [s1.heap.objs.size], FpOk X pins H1 b := fun b hb => by
      obtain rfl : b = s1.heap.objs.size := by simpa using hb
      exact I1.fpOk (Nat.le_refl _) (I1.hok.fresh (Nat.le_refl _))
    exact ⟨_, _, _, _, H1, rfl, I1.kept (t' := s1.toks) fun b o z => Heap.get?_push_of_some _ z, turn_list q _, ⟨_, Heap.get?_push_size _ rfl, rfl, rfl⟩, new, q1⟩
  · cases r1
    obtain ⟨its, rv, pl, hz⟩ := I1.tuple hq
    refine wpAny_pyIter_tuple (show s1.heap.IsTuple q its.toArray from pl) ?_
    have new : ∀ b ∈ [s1.heap.objs.size], FpOk X pins H1 b := fun b hb => by
      obtain rfl : b = s1.heap.objs.size := by simpa using hb
      exact I1.fpOk (Nat.le_refl _) (I1.hok.fresh (Nat.le_refl _))
    exact ⟨_, _, _, _, H1, rfl, I1.kept (t' := s1.toks) fun b o z => Heap.get?_push_of_some _ z, turn_tuple q _, ⟨_, Heap.get?_push_size _ rfl, rfl, rfl⟩, new, q1⟩
theorem mi_seq (ha : ME X Z W a ma) : MI X Z W tg a (iSeq ma) := (pi_seq ha).imp fun σ H R h => by
  refine (tG.bind (R1 := rV X.K) h).mono ?_
  rintro v H1 ⟨f1, c, S1, x, r1, e1, x1, h1⟩
  cases x1 with
  | tup g1 g2 => exact .inr ⟨_, _, rfl, g1, h1 f1 H1 _ (Ext.refl r1) r1 (walks_T r1 g1 g2)⟩
  | ref g =>
    dsimp only at h1
    split at h1
    · rename_i l hl
      obtain ⟨q, vs, e1, e2, g1, g2⟩ := r1.lst (.ref g) hl
      cases e1
      exact .inl ⟨_, vs, rfl, SqL.of g1, h1 f1 H1 _ (Ext.refl r1) r1 (walks_L r1 g)⟩
    · exact h1.elim
  | _ => exact h1.elim
theorem inR_ok {i : Int} (h : inR i = true) : -(2 ^ 62) ≤ i ∧ i < 2 ^ 62 := by
  unfold inR at h
  simp only [Bool.and_eq_true, decide_eq_true_eq] at h
  exact h
theorem mi_r1 (hg : Gl X "range") (hm : X.mg "range" = none) (ha : MA X Z W [a] k) (hs : starEach [a] X.env = [(false, eval a X.env)] := by rfl) : MI X Z W tg (.Call (.Name "range" p) [a] [] pos) (iR1 k) :=
  (pi_range1 hg hm ha hs).imp fun σ H R h => by
    refine (tG.bind (R1 := rVs X.K) h).mono ?_
    rintro v H1 ⟨f1, c, S1, x, r1, e1, x1, h1⟩
    split at h1
    · rename_i j
      split at h1
      · rename_i hj
        cases x1 with
        | cons a b =>
          cases a; cases b
          obtain ⟨g1, g2⟩ := inR_ok hj
          exact ⟨j, rfl, g1, g2, h1 f1 H1 _ (Ext.refl r1) r1 walks_R⟩
      · exact h1.elim
    · exact h1.elim
theorem mi_r2 (hg : Gl X "range") (hm : X.mg "range" = none) (ha : MA X Z W [a, b] k) (hs : starEach [a, b] X.env = [(false, eval a X.env), (false, eval b X.env)] := by rfl) (hs2 : starEach [b] X.env = [(false, eval b X.env)] := by rfl) : MI X Z W tg (.Call (.Name "range" p) [a, b] [] pos) (iR2 k) :=
  (pi_range2 hg hm ha hs hs2).imp fun σ H R h => by
    refine (tG.bind (R1 := rVs X.K) h).mono ?_
    rintro v H1 ⟨f1, c, S1, x, r1, e1, x1, h1⟩
    split at h1
    · rename_i i j
      split at h1
      · rename_i hj
        cases x1 with
        | cons a b =>
          cases b with
          | cons b d =>
            cases a; cases b; cases d
            simp only [Bool.and_eq_true] at hj
            obtain ⟨g1, g2⟩ := inR_ok hj.1
            obtain ⟨g3, g4⟩ := inR_ok hj.2
            exact ⟨i, j, rfl, ⟨g1, g2, g3, g4⟩, h1 f1 H1 _ (Ext.refl r1) r1 walks_R⟩
      · exact h1.elim
    · exact h1.elim

/-! ## loops -/
def forL (it : It0) (t : Tg) (b : MS) : Nat → Nat → MS
  | 0, i => fun c S => match it.nxt i S with
    | some none => .nx c S
    | _ => .stuck
  | n + 1, i => fun c S => match it.nxt i S with
    | some none => .nx c S
    | some (some x) => match bT t x c with
      | some c1 => match b c1 S with
        | .nx c2 S2 => forL it t b n (i + 1) c2 S2
        | .ct c2 S2 => forL it t b n (i + 1) c2 S2
        | .bk c2 S2 => .nx c2 S2
        | o => o
      | none => .stuck
    | none => .stuck
def sFor (m : M It0) (t : Tg) (b : MS) : MS := lift m fun it => forL it t b it.cnt 0
def whL (t : M Bool) (b : MS) : Nat → MS
  | 0 => fun _ _ => .stuck
  | n + 1 => lift t fun v => if v then (fun c S => match b c S with
      | .nx c2 S2 => whL t b n c2 S2
      | .ct c2 S2 => whL t b n c2 S2
      | .bk c2 S2 => .nx c2 S2
      | o => o) else sNil
theorem ms_for {body : List Stmt} {mi : M It0} {t : Tg} {mb : MS} (hp : PassesOwn (model X.prog X.w) X.A X.env X.xe) (hc : X.calm = true) (hi : MI X Z W tg a mi) (hg : MTg X tg t) (hb : MSs X Z W body mb)
    (hs : ∀ x, foldedSetIterable a X.env x = pure x := by intro _; rfl) : MSt X Z W (.For tg a body [] pos) (sFor mi t mb) := (ps_for hp hc hi hg hb hs).imp fun D σ H h => by
  obtain ⟨f, c, S, r, e, h⟩ := h
  refine (lift_at (R1 := Walks X.K) r e h).mono ?_
  rintro J H1 ⟨f1, S1, it, t1, r1, e1, w1, h1⟩
  refine ⟨fun i m σ H => ∃ f c S, Rel X.K f H S ∧ RE X.K f H c σ ∧ Ext f1 H1 f H ∧ ResS X.K Z W f H (forL it t mb m i c S) D, ⟨it.cnt, f1, c, S1, r1, e1, Ext.refl r1, h1⟩, ?_⟩
  rintro i m σ2 H2 ⟨f2, c2, S2, r2, e2, x2, h2⟩
  have w2 := w1 f2 S2 H2 i (x2.grow r1) r2
  cases m with
  | zero =>
    unfold forL at h2
    cases q : it.nxt i S2 with
    | none => rw [q] at h2; exact h2.elim
    | some o =>
      cases o with
      | none => rw [q] at h2 w2; exact .inl ⟨w2, h2.nx r2 e2⟩
      | some x => rw [q] at h2; exact h2.elim
  | succ m =>
    unfold forL at h2
    cases q : it.nxt i S2 with
    | none => rw [q] at h2; exact h2.elim
    | some o =>
      cases o with
      | none => rw [q] at h2 w2; exact .inl ⟨w2, h2.nx r2 e2⟩
      | some x =>
        rw [q] at h2 w2
        dsimp only at h2
        obtain ⟨go, w2⟩ := w2
        refine .inr ⟨go, fun σ H => ∃ f c S, Rel X.K f H S ∧ RE X.K f H c σ ∧ Ext f1 H1 f H ∧ ResS X.K Z W f H (forL it t mb m (i + 1) c S) D, fun σ' H' z => ⟨m, Nat.lt_succ_self m, z⟩, fun v H3 y => ?_⟩
        obtain ⟨x3, r3, v3⟩ := w2 v H3 y
        cases q2 : bT t x c2 with
        | none => rw [q2] at h2; exact h2.elim
        | some c3 =>
          rw [q2] at h2
          dsimp only at h2
          refine gOf_ok (e2.mono x3 r2) v3 q2 fun σ3 e3 _ => ?_
          refine ⟨f2, c3, S2, r3, e3, ?_⟩
          cases q3 : mb c3 S2 with
          | nx c4 S4 =>
            rw [q3] at h2
            exact fun f' H' σ' e' r' q' => ⟨f', c4, S4, r', q', x2.trans (x3.trans e'), h2.shift (x3.trans e')⟩
          | ct c4 S4 =>
            rw [q3] at h2
            exact fun f' H' σ' e' r' q' => ⟨f', c4, S4, r', q', x2.trans (x3.trans e'), h2.shift (x3.trans e')⟩
          | bk c4 S4 =>
            rw [q3] at h2
            exact fun f' H' σ' e' r' q' => h2 f' H' σ' (x3.trans e') r' q'
          | rt v4 S4 =>
            rw [q3] at h2
            exact fun f' H' σ' e' r' q' => h2 f' H' σ' (x3.trans e') r' q'
          | exn k z c4 S4 =>
            rw [q3] at h2
            exact fun f' H' d v σ' e' r' q' => h2 f' H' d v σ' (x3.trans e') r' q'
          | stuck => rw [q3] at h2; exact h2
theorem ms_while {body : List Stmt} {n : Nat} {mt : M Bool} {mb : MS} (hp : PassesOwn (model X.prog X.w) X.A X.env X.xe) (hc : MT X Z W a mt) (hb : MSs X Z W body mb) : MSt X Z W (.While a body [] pos) (whL mt mb n) := (ps_while hp hc hb).imp fun D σ H h => by
  refine ⟨fun m σ H => ∃ f c S, Rel X.K f H S ∧ RE X.K f H c σ ∧ ResS X.K Z W f H (whL mt mb m c S) D, ⟨n, h⟩, ?_⟩
  rintro m σ2 H2 ⟨f2, c2, S2, r2, e2, h2⟩
  cases m with
  | zero => exact h2.elim
  | succ m =>
    unfold whL at h2
    refine (lift_at (R1 := rB) r2 e2 h2).mono ?_
    rintro v H3 ⟨f3, S3, x, t3, r3, e3, rfl, h3⟩
    cases x with
    | false =>
      rw [if_neg (by decide)] at h3 ⊢
      exact h3.nx r3 e3
    | true =>
      rw [if_pos rfl] at h3 ⊢
      refine ⟨fun σ H => ∃ f c S, Rel X.K f H S ∧ RE X.K f H c σ ∧ ResS X.K Z W f H (whL mt mb m c S) D, fun σ' H' z => ⟨m, Nat.lt_succ_self m, z⟩, f3, c2, S3, r3, e3, ?_⟩
      cases q3 : mb c2 S3 with
      | nx c4 S4 =>
        rw [q3] at h3
        exact fun f' H' σ' e' r' q' => ⟨f', c4, S4, r', q', h3.shift e'⟩
      | ct c4 S4 =>
        rw [q3] at h3
        exact fun f' H' σ' e' r' q' => ⟨f', c4, S4, r', q', h3.shift e'⟩
      | bk c4 S4 => rw [q3] at h3; exact h3
      | rt v4 S4 => rw [q3] at h3; exact h3
      | exn k z c4 S4 => rw [q3] at h3; exact h3
      | stuck => rw [q3] at h3; exact h3
end
end TH
-- part C7
namespace TH
open PySem PySem.Spec PyProof.Rows L2
/-! ## list comprehensions -/
def wipeC (c : CE) : List Nat → CE
  | [] => c
  | v :: vs => (wipeC c vs).set v none
section
variable {K : PySem.W.Frag} {Z : ExI} {W : WX} {f f1 f' : List Addr} {H H1 H' : Hp} {S : CS} {c c' : CE} {σ : L2.St} {D : Addr} {u : HO} {o : CO}
theorem wipe_ok (e : RE K f H c σ) : ∀ (vs : List Nat), RE K f H (wipeC c vs) (wipe σ vs)
  | [] => e
  | v :: vs => by
    unfold wipeC wipe
    exact (wipe_ok e vs).unset
/-- a list beside the store has changed -/
theorem SqT.off {a : Addr} {xs vs : List V} (h : SqT K H a xs) (hD : H D = some (.lst vs)) : SqT K (upd H D u) a xs := by
  rcases h with (h | ⟨o, h⟩) | h
  · exact .inl (.inl (by rw [upd_ne (fun z => by rw [z, hD] at h; cases h)]; exact h))
  · exact .inl (.inr ⟨o, by rw [upd_ne (fun z => by rw [z, hD] at h; cases h)]; exact h⟩)
  · exact .inr h
theorem FzL.off {a : Addr} {xs vs : List V} (h : FzL K H a xs) (hD : H D = some (.lst vs)) : FzL K (upd H D u) a xs := by
  rcases h with ⟨o, h⟩ | h
  · exact .inl ⟨o, by rw [upd_ne (fun z => by rw [z, hD] at h; cases h)]; exact h⟩
  · exact .inr h
theorem grow_off' {vs : List V} (hD : H D = some (.lst vs)) : Grow K f H f (upd H D u) := ⟨⟨[], by simp⟩, fun _ _ h => SqT.off h hD, fun _ _ h => FzL.off h hD⟩
theorem RV.off {vs : List V} (hD : H D = some (.lst vs)) {x : CV} {v : V} (h : RV K f H x v) : RV K f (upd H D u) x v := h.grow (grow_off' hD)
theorem RVs.off {vs : List V} (hD : H D = some (.lst vs)) {x : List CV} {v : List V} (h : RVs K f H x v) : RVs K f (upd H D u) x v := h.grow (grow_off' hD)
theorem OK.off {vs : List V} (hD : H D = some (.lst vs)) {o : CO} {a : Addr} {w : HO} (h : OK K f H o a w) : OK K f (upd H D u) o a w := h.grow (grow_off' hD)
theorem RE.off {vs : List V} (hD : H D = some (.lst vs)) (h : RE K f H c σ) : RE K f (upd H D u) c σ := ⟨h.1, fun i x hx => by
  obtain ⟨v, h1, h2⟩ := h.2 i x hx
  exact ⟨v, h1, RV.off hD h2⟩⟩
theorem Rel.off {vs : List V} (R : Rel K f H S) (hf : D ∉ f) (hD : H D = some (.lst vs)) : Rel K f (upd H D u) S :=
  ⟨R.wf, R.len, R.nd, fun i o h => by
    obtain ⟨a, w, h1, h2, h3⟩ := R.ob i o h
    exact ⟨a, w, h1, by rw [upd_ne (fun z => hf (by rw [← z]; exact List.mem_of_getElem? h1))]; exact h2, OK.off hD h3⟩⟩
theorem Ext.off (e : Ext f1 H1 f H) (hf : D ∉ f) (hn : H1 D = none) : Ext f1 H1 f (upd H D u) :=
  ⟨e.pre, fun a o h ha => by
    rw [upd_ne (fun z => by rw [z, hn] at h; cases h)]
    exact e.frame a o h ha, fun a ha => by
    rw [upd_ne (fun z => hf (by rw [← z]; exact ha))]
    exact e.live a ha⟩
theorem grow_more {g : List Addr} : Grow K f H (f ++ g) H := ⟨⟨g, rfl⟩, fun _ _ h => h, fun _ _ h => h⟩
theorem OK.more {g : List Addr} {o : CO} {a : Addr} {w : HO} (h : OK K f H o a w) : OK K (f ++ g) H o a w := h.grow grow_more
theorem Rel.adopt (R : Rel K f H S) (hf : D ∉ f) (hD : H D = some u) (h : OK K f H o D u) : Rel K (f ++ [D]) H (S.push o) := by
  refine ⟨by simp [CS.push, R.wf], by simp [CS.push, R.len], ?_, fun i o' ho => ?_⟩
  · refine List.nodup_append.mpr ⟨R.nd, by simp, fun a ha b hb => ?_⟩
    simp only [List.mem_singleton] at hb
    subst hb
    intro z
    subst z
    exact hf ha
  · by_cases hi : i < S.n
    · rw [CS.get_push_old hi] at ho
      obtain ⟨a, w, h1, h2, h3⟩ := R.ob i o' ho
      exact ⟨a, w, by rw [List.getElem?_append_left (List.getElem?_eq_some_iff.mp h1).1]; exact h1, h2, h3.more⟩
    · have hn : i = S.n := by
        have := CS.get_lt ho
        simp only [CS.push] at this
        omega
      subst hn
      rw [CS.get_push_self] at ho
      cases ho
      exact ⟨D, u, by rw [← R.len]; simp, hD, h.more⟩
theorem Ext.adopt (e : Ext f1 H1 f H) (hn : H1 D = none) (hD : H D = some u) : Ext f1 H1 (f ++ [D]) H := by
  obtain ⟨g, e1, n1⟩ := e.pre
  refine ⟨⟨g ++ [D], by rw [e1, List.append_assoc], fun a ha => ?_⟩, e.frame, fun a ha => ?_⟩
  · rcases List.mem_append.mp ha with ha | ha
    · exact n1 a ha
    · simp only [List.mem_singleton] at ha
      subst ha
      exact hn
  · rcases List.mem_append.mp ha with ha | ha
    · exact e.live a ha
    · simp only [List.mem_singleton] at ha
      subst ha
      exact ⟨u, hD⟩
theorem Ext.notin (e : Ext f H f' H') {o : HO} (hD : H D = some o) (hf : D ∉ f) : D ∉ f' ∧ H' D = some o := by
  obtain ⟨g, e1, n1⟩ := e.pre
  refine ⟨fun h => ?_, e.frame D o hD hf⟩
  rw [e1] at h
  rcases List.mem_append.mp h with h | h
  · exact hf h
  · rw [n1 D h] at hD
    cases hD
theorem RVs.snoc {l : List CV} {vs : List V} {x : CV} {v : V} (h : RVs K f H l vs) (r : RV K f H x v) : RVs K f H (l ++ [x]) (vs ++ [v]) := h.app (.cons r .nil)
end
abbrev W0 : WX := fun _ _ _ _ => False
def lcL (it : It0) (t : Tg) (tt : M Bool) (el : M CV) (c : CE) : Nat → Nat → List CV → CS → Out (List CV)
  | 0, i, acc, S => match it.nxt i S with
    | some none => .ok acc S
    | _ => .stuck
  | n + 1, i, acc, S => match it.nxt i S with
    | some none => .ok acc S
    | some (some x) => match bT t x c with
      | some c1 => match tt c1 S with
        | .ok true S1 => match el c1 S1 with
          | .ok y S2 => lcL it t tt el c n (i + 1) (y :: acc) S2
          | _ => .stuck
        | .ok false S1 => lcL it t tt el c n (i + 1) acc S1
        | _ => .stuck
      | none => .stuck
    | none => .stuck
def eLc (m : M It0) (t : Tg) (own : List Nat) (tt : M Bool) (el : M CV) : M CV := m.bind fun it => fun c S => if it.cnt < sizeLine then match lcL it t tt el (wipeC c own) it.cnt 0 [] S with
    | .ok acc S' => .ok (.ref S'.n) (S'.push (.lst acc.reverse))
    | _ => .stuck
  else .stuck
abbrev MTt (X : Cx) (Z : ExI) (W : WX) (ifs : List Expr) (m : M Bool) : Prop := PTs X ifs (tG X.K Z rB W m)
theorem _root_.L2.PTs.imp {X : Cx} {e : List Expr} {t t' : TT} (h : PTs X e t) (i : ∀ σ H Q, t' σ H Q → t σ H Q) : PTs X e t' := ⟨fun pins s σ H Q I q => h.run pins s σ H Q I (i σ H Q q)⟩
def bYes : M Bool := fun _ S => .ok true S
section
variable {X : Cx} {Z : ExI} {W : WX} {e tg iter elt : Expr} {ifs : List Expr} {pos : Pos}
theorem mtt_nil : MTt X Z W [] bYes := pts_nil.imp fun σ H Q h => by
  obtain ⟨f, c, S, r, e, h⟩ := h
  exact h f H true (Ext.refl r) r rfl
theorem mtt_one {m : M Bool} (h : MT X Z W e m) : MTt X Z W [e] m := pts_one h
theorem lc_turns {K : PySem.W.Frag} {f1 : List Addr} {H1 : Hp} {S1 : CS} {c : CE} {σ : L2.St} {it : It0} {J : It} {t : Tg} {own : List Nat} {tt : M Bool} {el : M CV} {Q : Hp → Prop} {D : Addr} {accF : List CV} {SF : CS} (r1 : Rel K f1 H1 S1) (e1 : RE K f1 H1 c σ) (w1 : Walks K f1 H1 it J)
    (ht : ∀ i ∈ slots t, i ∈ own) (hl : it.cnt < sizeLine) (hD : H1 D = none) (h0 : lcL it t tt el (wipeC c own) it.cnt 0 [] S1 = .ok accF SF)
    (hQ : ∀ f' H', Ext f1 H1 f' H' → Rel K f' H' (SF.push (.lst accF.reverse)) → f'[SF.n]? = some D → Q H') :
    ∃ W : Nat → Nat → Hp → Prop, (∃ m, W 0 m (upd H1 D (.lst []))) ∧ ∀ i m H, W i m H →
      (J.stop i H ∧ Q H) ∨ (J.go i H ∧ ∃ Nx : Hp → Prop, (∀ H', Nx H' → ∃ m', m' < m ∧ W (i + 1) m' H') ∧ ∀ x H', J.yld i H x H' → gOf K t x (wipe σ own) H' fun σ2 H2 => wipe σ2 own = wipe σ own ∧ tG K Z rB W0 tt σ2 H2 fun b H3 =>
        if b = true then tG K Z (rV K) W0 el σ2 H3 fun y H4 => ∃ acc, H4 D = some (.lst acc) ∧ acc.length < sizeLine ∧ Nx (upd H4 D (.lst (acc ++ [y]))) else Nx H3) := by
  refine ⟨fun i m H => ∃ f S acc vs, Rel K f H S ∧ RE K f H (wipeC c own) (wipe σ own) ∧ Ext f1 H1 f H ∧ D ∉ f ∧ H D = some (.lst vs) ∧ RVs K f H acc.reverse vs ∧ acc.length ≤ i ∧ i + m = it.cnt ∧ lcL it t tt el (wipeC c own) m i acc S = .ok accF SF, ?_, ?_⟩
  · refine ⟨it.cnt, f1, S1, [], [], r1.beside hD, (wipe_ok e1 own).mono (Ext.beside r1 hD) r1, Ext.beside r1 hD, fun h => ?_, upd_same, .nil, Nat.le_refl _, by simp, h0⟩
    obtain ⟨u, h1, _⟩ := r1.mem h
    rw [hD] at h1
    cases h1
  · rintro i m H ⟨f, S, acc, vs, r, e, x, nf, hd, ra, ha, hm, hL⟩
    have w2 := w1 f S H i (x.grow r1) r
    have stop : it.nxt i S = some none → lcL it t tt el (wipeC c own) m i acc S = .ok acc S := fun q => by
      cases m <;> (unfold lcL; rw [q])
    cases q : it.nxt i S with
    | none =>
      cases m <;> (unfold lcL at hL; rw [q] at hL; cases hL)
    | some oo =>
      cases oo with
      | none =>
        rw [stop q] at hL
        cases hL
        rw [q] at w2
        refine .inl ⟨w2, hQ (f ++ [D]) H (x.adopt hD hd) (r.adopt nf hd (.lst ra)) ?_⟩
        rw [← r.len]
        simp
      | some y =>
        rw [q] at w2
        dsimp only at w2
        cases m with
        | zero => unfold lcL at hL; rw [q] at hL; cases hL
        | succ m =>
          unfold lcL at hL
          rw [q] at hL
          dsimp only at hL
          refine .inr ⟨w2.1, fun H => ∃ f S acc vs, Rel K f H S ∧ RE K f H (wipeC c own) (wipe σ own) ∧ Ext f1 H1 f H ∧ D ∉ f ∧ H D = some (.lst vs) ∧ RVs K f H acc.reverse vs ∧ acc.length ≤ i + 1 ∧ (i + 1) + m = it.cnt ∧ lcL it t tt el (wipeC c own) m (i + 1) acc S = .ok accF SF,
            fun H' z => ⟨m, Nat.lt_succ_self m, z⟩, fun v H3 yl => ?_⟩
          obtain ⟨x3, r3, v3⟩ := w2.2 v H3 yl
          cases q2 : bT t y (wipeC c own) with
          | none => rw [q2] at hL; cases hL
          | some c3 =>
            rw [q2] at hL
            dsimp only at hL
            refine gOf_ok (e.mono x3 r) v3 q2 fun σ3 e3 w3 => ⟨?_, ?_⟩
            · rw [w3 own ht]
              have : ∀ (us : List Nat), (∀ i ∈ us, i ∈ own) → wipe (wipe σ own) us = wipe σ own := by
                intro us
                induction us with
                | nil => intro _; rfl
                | cons j us ih =>
                  intro hu
                  show (wipe (wipe σ own) us).set j none = _
                  rw [ih fun i hi => hu i (List.mem_cons_of_mem _ hi)]
                  have hj := hu j List.mem_cons_self
                  have : ∀ (ws : List Nat), j ∈ ws → (wipe σ ws).set j none = wipe σ ws := by
                    intro ws
                    induction ws with
                    | nil => intro h; simp at h
                    | cons k ws ih2 =>
                      intro hk
                      show ((wipe σ ws).set k none).set j none = (wipe σ ws).set k none
                      by_cases z : k = j
                      · subst z
                        rw [List.set_set]
                      · have : j ∈ ws := by
                          rcases List.mem_cons.mp hk with h | h
                          · exact absurd h.symm z
                          · exact h
                        rw [List.set_comm _ _ z, ih2 this]
                  exact this own hj
              exact this own fun _ h => h
            · have ei := e.mono x3 r
              obtain ⟨n3, d3⟩ := x3.notin hd nf
              have ra3 := ra.mono x3 r
              refine ⟨f, c3, S, r3, e3, ?_⟩
              cases q3 : tt c3 S with
              | stuck => rw [q3] at hL; cases hL
              | exn k z S => rw [q3] at hL; cases hL
              | ok b S4 =>
                rw [q3] at hL
                rintro f4 H4 b' x4 r4 rfl
                obtain ⟨n4, d4⟩ := x4.notin d3 n3
                cases b with
                | false =>
                  rw [if_neg (by decide)]
                  exact ⟨f4, S4, acc, vs, r4, ei.mono x4 r3, x.trans (x3.trans x4), n4, d4, ra3.mono x4 r3, by omega, by omega, hL⟩
                | true =>
                  rw [if_pos rfl]
                  dsimp only at hL
                  refine ⟨f4, c3, S4, r4, e3.mono x4 r3, ?_⟩
                  cases q4 : el c3 S4 with
                  | stuck => rw [q4] at hL; cases hL
                  | exn k z S => rw [q4] at hL; cases hL
                  | ok y5 S5 =>
                    rw [q4] at hL
                    intro f5 H5 v5 x5 r5 rv5
                    obtain ⟨n5, d5⟩ := x5.notin d4 n4
                    have ra5 := (ra3.mono x4 r3).mono x5 r4
                    refine ⟨vs, d5, ?_, f5, S5, y5 :: acc, vs ++ [v5], r5.off n5 d5, RE.off d5 ((ei.mono x4 r3).mono x5 r4), (x.trans (x3.trans (x4.trans x5))).off n5 hD, n5, upd_same, ?_, by simp; omega, by omega, hL⟩
                    · have := ra5.len
                      rw [List.length_reverse] at this
                      omega
                    · rw [List.reverse_cons]
                      exact RVs.off d5 (ra5.snoc rv5)
theorem eLc_split {K : PySem.W.Frag} {mi : M It0} {t : Tg} {own : List Nat} {tt : M Bool} {el : M CV} {σ : L2.St} {H : Hp} {Q : VK} (ht : ∀ i ∈ slots t, i ∈ own) (h : tG K Z (rV K) W (eLc mi t own tt el) σ H Q) :
    tLc (tIt K Z W mi) (gOf K t) (tG K Z rB W0 tt) (tG K Z (rV K) W0 el) own σ H Q := by
  refine (tG.bind (R1 := Walks K) h).mono ?_
  rintro J H1 ⟨f1, c, S1, it, r1, e1, w1, h1⟩
  intro D hD
  split at h1
  · rename_i hl
    cases q : lcL it t tt el (wipeC c own) it.cnt 0 [] S1 with
    | ok accF SF =>
      rw [q] at h1
      exact lc_turns r1 e1 w1 ht hl hD q fun f' H' x r g => h1 f' H' (.ref D) x r (.ref g)
    | exn k z S => rw [q] at h1; exact h1.elim
    | stuck => rw [q] at h1; exact h1.elim
  · exact h1.elim
theorem me_lc {scope : Scope} {own : List (Str × Nat)} {ow : List Nat} {mi : M It0} {t : Tg} {tt : M Bool} {el : M CV} (hc : X.calm = true) (hN : X.N.Nodup) (hi : MI X Z W tg iter mi) (ok : BlkOk X.N X.env.scope scope own) (how : own.map (·.2) = ow) (ht : ∀ i ∈ slots t, i ∈ ow)
    (hg : ∀ (s : Shared) (H : Hp) (C : Addr) (cl : List (Str × Addr)) (fp : List Addr), MTg (X.blk s H scope (compEnvC scope cl C X.env) fp) tg t) (hts : ∀ (s : Shared) (H : Hp) (C : Addr) (cl : List (Str × Addr)) (fp : List Addr), MTt (X.blk s H scope (compEnvC scope cl C X.env) fp) Z W0 ifs tt)
    (he : ∀ (s : Shared) (H : Hp) (C : Addr) (cl : List (Str × Addr)) (fp : List Addr), ME (X.blk s H scope (compEnvC scope cl C X.env) fp) Z W0 elt el) (hs : ∀ x, foldedSetIterable iter X.env x = pure x := by intro _; rfl) :
    ME X Z W (.ListComp elt [⟨tg, iter, ifs, 0⟩] scope pos) (eLc mi t ow tt el) := by
  subst how
  exact (pe_lc hc hN hi ok hg hts he hs).imp fun σ H Q h => eLc_split ht h
theorem ms_setLc {i : Nat} {y : Str} {py spos : Pos} {scope : Scope} {own : List (Str × Nat)} {ow : List Nat} {mi : M It0} {t : Tg} {tt : M Bool} {el : M CV} (hc : X.calm = true) (hN : X.N.Nodup) (hy : X.N[i]? = some y) (hyl : X.env.scope.names.lookup y = some .local)
    (hsw : swapsWith (.ListComp elt [⟨tg, iter, ifs, 0⟩] scope pos) (some (.Name y py)) spos.line X.env = pure true) (hi : MI X Z W tg iter mi) (ok : BlkOk X.N X.env.scope scope own) (how : own.map (·.2) = ow) (ht : ∀ i ∈ slots t, i ∈ ow)
    (hg : ∀ (s : Shared) (H : Hp) (C : Addr) (cl : List (Str × Addr)) (fp : List Addr), MTg (X.blk s H scope (compEnvC scope cl C X.env) fp) tg t) (hts : ∀ (s : Shared) (H : Hp) (C : Addr) (cl : List (Str × Addr)) (fp : List Addr), MTt (X.blk s H scope (compEnvC scope cl C X.env) fp) Z W0 ifs tt)
    (he : ∀ (s : Shared) (H : Hp) (C : Addr) (cl : List (Str × Addr)) (fp : List Addr), ME (X.blk s H scope (compEnvC scope cl C X.env) fp) Z W0 elt el) (hs : ∀ x, foldedSetIterable iter X.env x = pure x := by intro _; rfl) :
    MSt X Z W (.Assign [.Name y py] (.ListComp elt [⟨tg, iter, ifs, 0⟩] scope pos) spos) (sAsg (eLc mi t ow tt el) (gN i)) := by
 subst how
 exact (ps_setLc hc hN hy hyl hsw hi ok hg hts he hs).imp fun D σ H h => by
  refine eLc_split (Q := fun x H1 => gName i x σ H1 D.nx) ht (TH.tG.mono (asg_split h) ?_)
  rintro v H1 ⟨f, c, S, x, r, e, rx, h⟩
  exact h f H1 _ (Ext.refl r) r (e.set rx)
end
end TH
-- part C8
namespace TH
open PySem PySem.Spec PyProof.Rows L2
/-! ## name op= e, o[i] = e, o[i] op= e -/
theorem iop_mulW {X : Cx} : OpR X (inplaceOp .Mult) (rI CMulA fun i j => .int (i * j)) := opI fun _ _ _ _ _ _ _ hc q => PyProof.Rows.imul_int q (mulOkC_ok hc)
def ipAdd : G2 := fun x y S => match x, y with
  | .int i, .int j => .ok (.int (i + j)) S
  | .str a, .str b => if a.length + b.length ≤ sizeLine then .ok (.str (a ++ b)) S else .stuck
  | _, _ => .stuck
def ipMul : G2 := fun x y S => match x, y with
  | .int i, .int j => if mulOkC i j = true then .ok (.int (i * j)) S else .stuck
  | _, _ => .stuck
def sAug (i : Nat) (m : M CV) (g : G2) : MS := lift (eV i) fun x => lift m fun y => lift (fun _ S => g x y S) fun z => fun c S => .nx (c.set i (some z)) S
section
variable {K : PySem.W.Frag} {Z : ExI}
abbrev rIpA : R2 := fun x y H Q => rI0 (fun i j => .int (i + j)) x y H Q ∨ ∃ i j, x = .str i ∧ y = .str j ∧ i.length + j.length ≤ sizeLine ∧ Q (.str (i ++ j)) H
theorem iop_addA {X : Cx} : OpR X (inplaceOp .Add) rIpA := OpR.or iop_add iop_add_str
theorem ad_ipAdd : Ad2 K Z rIpA ipAdd := by
  intro W σ f S H x y v w Q R rx ry h
  cases x <;> cases y <;> try exact h.elim
  · cases rx; cases ry
    exact .inl ⟨_, _, rfl, rfl, h.val R (.int _)⟩
  · cases rx; cases ry
    simp only [ipAdd] at h
    split at h
    · rename_i hl
      exact .inr ⟨_, _, rfl, rfl, hl, h.val R (.str _)⟩
    · exact h.elim
theorem ad_ipMul : Ad2 K Z (rI CMulA fun i j => .int (i * j)) ipMul := by
  intro W σ f S H x y v w Q R rx ry h
  cases x <;> cases y <;> try exact h.elim
  cases rx; cases ry
  simp only [ipMul] at h
  split at h
  · rename_i hb
    exact ⟨_, _, rfl, rfl, hb, h.val R (.int _)⟩
  · exact h.elim
end
section
variable {X : Cx} {Z : ExI} {W : WX} {a b o e : Expr} {pos : Pos} {ma mo mi me : M CV}
theorem ms_aug {i : Nat} {x : Str} {op : Operator} {r : R2} {g : G2} {pos' : Pos} (hN : X.N.Nodup) (hi : X.N[i]? = some x) (hx : Loc X.env.scope x) (ho : OpR X (inplaceOp op) r) (ad : Ad2 X.K Z r g) (ha : ME X Z W a ma) (hf : X.fn x = true ∨ X.env.scope.names.lookup x = some .local := by first | exact .inl rfl | exact .inr rfl | assumption) :
    MSt X Z W (.AugAssign (.Name x pos') op a pos) (sAug i ma g) := (ps_aug hN hi hx ha (show PIp X op r from ho) hf).imp fun D σ H h => by
  obtain ⟨f, c, S, r, e, h⟩ := h
  unfold sAug lift at h
  dsimp only at h
  cases q : eV i c S with
  | stuck => rw [q] at h; exact h.elim
  | exn k z S' =>
    unfold eV at q
    split at q <;> cases q
  | ok x S' =>
    rw [q] at h
    have q' : c[i]? = some (some x) ∧ S' = S := by
      unfold eV at q
      split at q
      · rename_i y hy
        cases q
        exact ⟨hy, rfl⟩
      · cases q
    obtain ⟨q1, rfl⟩ := q'
    obtain ⟨v, h1, h2⟩ := e.2 i x q1
    refine ⟨v, h1, ?_⟩
    dsimp only at h
    refine (lift_at (R1 := rV X.K) r e (m := ma) (k := fun y => lift (fun _ S => g x y S) fun z => fun c S => .nx (c.set i (some z)) S) h).mono ?_
    rintro w H1 ⟨f1, S1, y, t1, r1, e1, y1, h1⟩
    refine ad W σ f1 S1 H1 x y v w _ r1 (h2.mono t1 r) y1 ?_
    obtain ⟨f', c', S', r', e', h'⟩ : tG X.K Z (rV X.K) W (fun _ S => g x y S) σ H1 _ := lift_at (R1 := rV X.K) r1 e1 h1
    unfold lift at h1
    dsimp only at h1
    cases q3 : g x y S1 with
    | stuck => rw [q3] at h1; exact h1.elim
    | exn k z S3 => rw [q3] at h1; exact fun f' H' d v e' r' hd q' => h1 f' H' d v σ e' r' (e1.mono e' r1) hd q'
    | ok z S3 => rw [q3] at h1; exact fun f' H' u e' r' q' => h1 f' H' _ e' r' ((e1.mono e' r1).set q')
theorem pget_list : PGet X (fun x y H Q => ∃ p xs i v, x = .ref p ∧ y = .int i ∧ 0 ≤ i ∧ SqL X.K H p xs ∧ xs[i.toNat]? = some v ∧ Q v H) := by
  intro pins s σ H o i ov iv Q I ro ri h
  obtain ⟨p, xs, k, v, rfl, rfl, h0, hq, hv, q⟩ := h
  cases ro
  obtain ⟨t, rfl⟩ := ri
  obtain ⟨its, r, pl, hz⟩ := I.list hq
  obtain ⟨u, hu, ru⟩ := r.get hv
  have hk : k.toNat < xs.length := (List.getElem?_eq_some_iff.mp hv).1
  have hn := line63
  exact wpAny_getItem_list pl.isList h0 (by omega) (by simpa using hu) ⟨v, H, I, ru, q⟩
abbrev G3 := CV → CV → CV → CS → Out CV
/-- o[i] = v: the store behind it -/
def pSet : G3 := fun o i v S => match o, i with
  | .ref n, .int k => match S.get n with
    | some (.lst l) => match ixN l.length k with
      | some j => .ok .non (S.put n (.lst (l.set j v)))
      | none => .stuck
    | _ => .stuck
  | _, _ => .stuck
def gIdx (mo mi : M CV) : MGt := fun v => M.bind mo fun o => M.bind mi fun i => fun c S => match pSet o i v S with
  | .ok _ S' => .ok c S'
  | .exn e x S => .exn e x S
  | .stuck => .stuck
theorem pSet_ok {K : PySem.W.Frag} {f : List Addr} {H : Hp} {S : CS} {x y z : CV} {o i v : V} {Q : Hp → Prop} {α β : Type} {R1 : RL α β} {W : WX} {σ : L2.St} {k : CS → Out α} {Q' : β → Hp → Prop} (R : Rel K f H S) (rx : RV K f H x o) (ry : RV K f H y i) (rz : RV K f H z v)
    (h : Res K Z R1 W f H σ (match pSet x y z S with
      | .ok _ S' => k S'
      | .exn e x S => .exn e x S
      | .stuck => .stuck) Q')
    (q : ∀ H' S', Ext f H f H' → Rel K f H' S' → Res K Z R1 W f H σ (k S') Q' → Q H') : rSetL o i v H Q := by
  unfold pSet at h
  cases x <;> try exact h.elim
  cases y <;> try exact h.elim
  dsimp only at h
  rename_i n j
  cases ry
  split at h
  · rename_i S' hs
    split at hs
    · rename_i l hl
      obtain ⟨a, vs, rfl, hf, g1, g2⟩ := R.lst rx hl
      split at hs
      · rename_i m hm
        cases hs
        refine ⟨a, vs, j, m, rfl, rfl, g1, by rw [← g2.len]; exact hm, ?_⟩
        have ha := List.mem_of_getElem? hf
        exact q _ _ (Ext.put R ha) (R.put hf (.lst ((g2.set rz m).mono (Ext.put R ha) R))) h
      · cases hs
    · cases hs
  · rename_i e x S hs
    split at hs
    · split at hs <;> cases hs
    · cases hs
  · exact h.elim
theorem mg_sub (ho : ME X Z W o mo) (hi : ME X Z W a mi)
    (ha : ∀ v, assign (.Subscript o a pos) X.env v = (do
      let ov ← holding [v] (eval o X.env)
      let iv ← holding [v, ov] (eval a X.env)
      standAt pos
      holding [v, ov, iv] (setItem ov iv v)
      release [v, ov, iv] []) := by intro _; rfl) : MG X Z W (.Subscript o a pos) (gIdx mo mi) := (pg_sub ho hi set_list ha).imp fun v σ H Q h => by
  obtain ⟨f, c, S, x, r, e, rx, h⟩ := h
  refine (TH.tG.at_ (R1 := rV X.K) (R2 := rEn X.K) r e h).mono ?_
  rintro ov H1 ⟨f1, S1, y, t1, r1, e1, y1, h1⟩
  refine (TH.tG.at_ (R1 := rV X.K) (R2 := rEn X.K) r1 e1 h1).mono ?_
  rintro iv H2 ⟨f2, S2, z, t2, r2, e2, z2, h2⟩
  refine pSet_ok (k := fun S' => .ok c S') r2 (y1.mono t2 r1) z2 ((rx.mono t1 r).mono t2 r1) h2 fun H' S' x' r' q => ?_
  exact q f2 H' σ x' r' (e2.mono x' r2)
def sAugS (mo mi me : M CV) (g : G2) : MS := lift mo fun o => lift mi fun i => lift (fun _ S => match o, i with
    | .ref n, .int k => match S.get n with
      | some (.lst l) => if 0 ≤ k then match l[k.toNat]? with
          | some x => .ok x S
          | none => .stuck
        else .stuck
      | _ => .stuck
    | _, _ => .stuck) fun x => lift me fun y => lift (fun _ S => g x y S) fun z => lift (fun _ S => pSet o i z S) fun _ => sNil
theorem ms_augS {op : Operator} {r : R2} {g : G2} {tpos : Pos} (ho : ME X Z W o mo) (hi : ME X Z W a mi) (he : ME X Z W e me) (hop : OpR X (inplaceOp op) r) (ad : Ad2 X.K Z r g)
    (ha : ∀ ov iv new, augStore a ov iv new = (do holding [new, ov, iv] (setItem ov iv new); release [new, ov, iv] []; pure .next) := by intros; rfl) : MSt X Z W (.AugAssign (.Subscript o a tpos) op e pos) (sAugS mo mi me g) :=
  (ps_augS ho hi pget_list he (show PIp X op r from hop) set_list ha).imp fun D σ H h => by
    obtain ⟨f, c, S, r, e, h⟩ := h
    refine (lift_at (R1 := rV X.K) r e h).mono ?_
    rintro ov H1 ⟨f1, S1, y1, t1, r1, e1, z1, h1⟩
    refine (lift_at (R1 := rV X.K) r1 e1 h1).mono ?_
    rintro iv H2 ⟨f2, S2, y2, t2, r2, e2, z2, h2⟩
    have z1' := z1.mono t2 r1
    unfold lift at h2
    dsimp only at h2
    cases y1 <;> try exact h2.elim
    cases y2 <;> try exact h2.elim
    dsimp only at h2
    rename_i n k
    have z2' := z2
    cases z2
    cases q : S2.get n with
    | none => rw [q] at h2; exact h2.elim
    | some oo =>
      cases oo with
      | dic _ => rw [q] at h2; exact h2.elim
      | dit _ => rw [q] at h2; exact h2.elim
      | lst l =>
        rw [q] at h2
        dsimp only at h2
        obtain ⟨p, vs, rfl, hf, g1, g2⟩ := r2.lst z1' q
        by_cases hk : 0 ≤ k
        · rw [if_pos hk] at h2
          cases q2 : l[k.toNat]? with
          | none => rw [q2] at h2; exact h2.elim
          | some x =>
            rw [q2] at h2
            dsimp only at h2
            obtain ⟨v, hv, rv⟩ := g2.at_ q2
            refine ⟨p, vs, k, v, rfl, rfl, hk, SqL.of g1, hv, ?_⟩
            refine (lift_at (R1 := rV X.K) r2 e2 (m := me) (k := fun y => lift (fun _ S => g x y S) fun z => lift (fun _ S => pSet (.ref n) (.int k) z S) fun _ => sNil) h2).mono ?_
            rintro w H3 ⟨f3, S3, y3, t3, r3, e3, z3, h3⟩
            refine ad W σ f3 S3 H3 x y3 v w _ r3 (rv.mono t3 r2) z3 ?_
            unfold lift at h3
            dsimp only at h3
            cases q3 : g x y3 S3 with
            | stuck => rw [q3] at h3; exact h3.elim
            | exn k z S3 => rw [q3] at h3; exact fun f' H' d v e' r' hd q' => h3 f' H' d v σ e' r' (e3.mono e' r3) hd q'
            | ok z S4 =>
              rw [q3] at h3
              dsimp only at h3
              intro f4 H4 zv x4 r4 rz
              have h4 := h3.shift x4
              unfold pSet at h4
              dsimp only at h4
              cases q4 : S4.get n with
              | none => rw [q4] at h4; exact h4.elim
              | some o4 =>
                cases o4 with
                | dic _ => rw [q4] at h4; exact h4.elim
                | dit _ => rw [q4] at h4; exact h4.elim
                | lst l4 =>
                  rw [q4] at h4
                  dsimp only at h4
                  have zr : RV X.K f4 H4 (.ref n) (.ref p) := (z1'.mono t3 r2).mono x4 r3
                  obtain ⟨p', vs4, e', hf4, g5, g6⟩ := r4.lst zr q4
                  cases e'
                  cases q5 : ixN l4.length k with
                  | none => rw [q5] at h4; exact h4.elim
                  | some j =>
                    rw [q5] at h4
                    dsimp only at h4
                    have ha := List.mem_of_getElem? hf4
                    refine ⟨p, vs4, k, j, rfl, rfl, g5, by rw [← g6.len]; exact q5, ?_⟩
                    exact h4 f4 _ σ (Ext.put r4 ha) (r4.put hf4 (.lst ((g6.set rz j).mono (Ext.put r4 ha) r4))) (((e3.mono x4 r3)).mono (Ext.put r4 ha) r4)
        · rw [if_neg hk] at h2
          exact h2.elim
end

/-! ## built-ins -/
def intsC : List CV → Option (List Int)
  | [] => some []
  | .int i :: l => (intsC l).map (i :: ·)
  | _ => none
def blsC : List CV → Option (List Bool)
  | [] => some []
  | .bl i :: l => (blsC l).map (i :: ·)
  | _ => none
section
variable {K : PySem.W.Frag} {Z : ExI}
theorem intsC_ok {f : List Addr} {H : Hp} : ∀ {l : List CV} {vs : List V} {ns : List Int}, RVs K f H l vs → intsC l = some ns → vs = ns.map V.int
  | [], _, _, .nil, e => by simp [intsC] at e; subst e; rfl
  | x :: l, _, ns, .cons r t, e => by
    cases x with
    | int i =>
      simp only [intsC, Option.map_eq_some_iff] at e
      obtain ⟨m, e1, rfl⟩ := e
      cases r
      rw [intsC_ok t e1]
      rfl
    | _ => simp [intsC] at e
theorem blsC_ok {f : List Addr} {H : Hp} : ∀ {l : List CV} {vs : List V} {ns : List Bool}, RVs K f H l vs → blsC l = some ns → vs = ns.map V.bl
  | [], _, _, .nil, e => by simp [blsC] at e; subst e; rfl
  | x :: l, _, ns, .cons r t, e => by
    cases x with
    | bl i =>
      simp only [blsC, Option.map_eq_some_iff] at e
      obtain ⟨m, e1, rfl⟩ := e
      cases r
      rw [blsC_ok t e1]
      rfl
    | _ => simp [blsC] at e
def gLen : GC := fun xs S => match xs with
  | [.tup l] => .ok (.int l.length) S
  | [.ref i] => match S.get i with
    | some (.lst l) => .ok (.int l.length) S
    | _ => .stuck
  | [.str y] => if y.length ≤ sizeLine then .ok (.int y.length) S else .stuck
  | _ => .stuck
theorem ad_len : AdC K Z (fun xs H Q => ∃ x n, xs = [x] ∧ LenV K x H n ∧ Q (.int n) H) gLen := by
  intro W σ f S H xs vs Q R r h
  unfold gLen at h
  split at h
  · cases r with
    | cons a b =>
      cases b
      cases a with
      | tup g1 g2 => exact ⟨_, _, rfl, .inr ⟨_, g1, rfl⟩, by rw [← g2.len]; exact h.val R (.int _)⟩
  · cases r with
    | cons a b =>
      cases b
      split at h
      · rename_i l hl
        obtain ⟨p, vs, rfl, _, g1, g2⟩ := R.lst a hl
        exact ⟨_, _, rfl, .inl ⟨_, SqL.of g1, rfl⟩, by rw [← g2.len]; exact h.val R (.int _)⟩
      · exact h.elim
  · cases r with
    | cons a b =>
      cases b
      cases a
      split at h
      · rename_i hl
        exact ⟨_, _, rfl, ⟨hl, rfl⟩, h.val R (.int _)⟩
      · exact h.elim
  · exact h.elim
/-- a list of the store, of ints; of bools -/
def theInts (S : CS) : CV → Option (List Int)
  | .ref i => match S.get i with
    | some (.lst l) => intsC l
    | _ => none
  | _ => none
def theBls (S : CS) : CV → Option (List Bool)
  | .ref i => match S.get i with
    | some (.lst l) => blsC l
    | _ => none
  | _ => none
theorem theInts_ok {f : List Addr} {H : Hp} {S : CS} {x : CV} {v : V} {ns : List Int} (R : Rel K f H S) (r : RV K f H x v) (h : theInts S x = some ns) : ∃ a, v = .ref a ∧ H a = some (.lst (ns.map V.int)) := by
  cases x with
  | ref i =>
    simp only [theInts] at h
    split at h
    · rename_i l hl
      obtain ⟨p, vs, rfl, _, g1, g2⟩ := R.lst r hl
      exact ⟨p, rfl, by rw [g1, intsC_ok g2 h]⟩
    · cases h
  | _ => cases h
theorem theBls_ok {f : List Addr} {H : Hp} {S : CS} {x : CV} {v : V} {ns : List Bool} (R : Rel K f H S) (r : RV K f H x v) (h : theBls S x = some ns) : ∃ a, v = .ref a ∧ H a = some (.lst (ns.map V.bl)) := by
  cases x with
  | ref i =>
    simp only [theBls] at h
    split at h
    · rename_i l hl
      obtain ⟨p, vs, rfl, _, g1, g2⟩ := R.lst r hl
      exact ⟨p, rfl, by rw [g1, blsC_ok g2 h]⟩
    · cases h
  | _ => cases h
def gSum : GC := fun xs S => match xs with
  | [x] => match theInts S x with
    | some ns => .ok (.int ns.sum) S
    | none => .stuck
  | _ => .stuck
theorem ad_sum : AdC K Z (rSum K) gSum := by
  intro W σ f S H xs vs Q R r h
  unfold gSum at h
  split at h
  · split at h
    · rename_i ns hn
      cases r with
      | cons a b =>
        cases b
        obtain ⟨p, rfl, g⟩ := theInts_ok R a hn
        exact ⟨p, ns, rfl, SqL.of g, h.val R (.int _)⟩
    · exact h.elim
  · exact h.elim
def gAll : GC := fun xs S => match xs with
  | [x] => match theBls S x with
    | some ns => .ok (.bl (ns.all id)) S
    | none => .stuck
  | _ => .stuck
def gAny : GC := fun xs S => match xs with
  | [x] => match theBls S x with
    | some ns => .ok (.bl (ns.any id)) S
    | none => .stuck
  | _ => .stuck
theorem ad_all : AdC K Z (rAll K) gAll := by
  intro W σ f S H xs vs Q R r h
  unfold gAll at h
  split at h
  · split at h
    · rename_i ns hn
      cases r with
      | cons a b =>
        cases b
        obtain ⟨p, rfl, g⟩ := theBls_ok R a hn
        exact ⟨p, ns, rfl, SqL.of g, h.val R (.bl _)⟩
    · exact h.elim
  · exact h.elim
theorem ad_any : AdC K Z (rAny K) gAny := by
  intro W σ f S H xs vs Q R r h
  unfold gAny at h
  split at h
  · split at h
    · rename_i ns hn
      cases r with
      | cons a b =>
        cases b
        obtain ⟨p, rfl, g⟩ := theBls_ok R a hn
        exact ⟨p, ns, rfl, SqL.of g, h.val R (.bl _)⟩
    · exact h.elim
  · exact h.elim
def maxI : Int → List Int → Int
  | m, [] => m
  | m, x :: l => maxI (if m < x then x else m) l
def minI : Int → List Int → Int
  | m, [] => m
  | m, x :: l => minI (if x < m then x else m) l
theorem maxI_ok : ∀ (l : List Int) (m : Int), (maxI m l = m ∨ maxI m l ∈ l) ∧ m ≤ maxI m l ∧ ∀ y ∈ l, y ≤ maxI m l
  | [], m => ⟨.inl rfl, Int.le_refl _, by simp⟩
  | x :: l, m => by
    obtain ⟨a, b, c⟩ := maxI_ok l (if m < x then x else m)
    simp only [maxI]
    generalize maxI (if m < x then x else m) l = z at a b c ⊢
    refine ⟨?_, ?_, fun y hy => ?_⟩
    · rcases a with a | a
      · rw [a]
        split
        · exact .inr List.mem_cons_self
        · exact .inl rfl
      · exact .inr (List.mem_cons_of_mem _ a)
    · split at b <;> omega
    · rcases List.mem_cons.mp hy with e | hy
      · rw [e]
        split at b <;> omega
      · exact c y hy
theorem minI_ok : ∀ (l : List Int) (m : Int), (minI m l = m ∨ minI m l ∈ l) ∧ minI m l ≤ m ∧ ∀ y ∈ l, minI m l ≤ y
  | [], m => ⟨.inl rfl, Int.le_refl _, by simp⟩
  | x :: l, m => by
    obtain ⟨a, b, c⟩ := minI_ok l (if x < m then x else m)
    simp only [minI]
    generalize minI (if x < m then x else m) l = z at a b c ⊢
    refine ⟨?_, ?_, fun y hy => ?_⟩
    · rcases a with a | a
      · rw [a]
        split
        · exact .inr List.mem_cons_self
        · exact .inl rfl
      · exact .inr (List.mem_cons_of_mem _ a)
    · split at b <;> omega
    · rcases List.mem_cons.mp hy with e | hy
      · rw [e]
        split at b <;> omega
      · exact c y hy
def gMax : GC := fun xs S => match xs with
  | [.int i, .int j] => .ok (.int (if j > i then j else i)) S
  | [x] => match theInts S x with
    | some (n :: ns) => .ok (.int (maxI n ns)) S
    | _ => .stuck
  | _ => .stuck
def gMin : GC := fun xs S => match xs with
  | [.int i, .int j] => .ok (.int (if j < i then j else i)) S
  | [x] => match theInts S x with
    | some (n :: ns) => .ok (.int (minI n ns)) S
    | _ => .stuck
  | _ => .stuck
abbrev rMaxA (K : PySem.W.Frag) : List V → Hp → VK → Prop := fun xs H Q => (∃ i j, xs = [.int i, .int j] ∧ Q (.int (if j > i then j else i)) H) ∨ rMax K xs H Q
abbrev rMinA (K : PySem.W.Frag) : List V → Hp → VK → Prop := fun xs H Q => (∃ i j, xs = [.int i, .int j] ∧ Q (.int (if j < i then j else i)) H) ∨ rMin K xs H Q
theorem cr_maxA {X : Cx} (hc : X.calm = true) : CallR X (.builtin "max") (rMaxA X.K) := CallR.or (call_max2 hc) (cr_max hc)
theorem cr_minA {X : Cx} (hc : X.calm = true) : CallR X (.builtin "min") (rMinA X.K) := CallR.or (call_min2 hc) (cr_min hc)
theorem ad_max : AdC K Z (rMaxA K) gMax := by
  intro W σ f S H xs vs Q R r h
  unfold gMax at h
  split at h
  · cases r with
    | cons a b =>
      cases b with
      | cons b d =>
        cases a; cases b; cases d
        exact .inl ⟨_, _, rfl, h.val R (.int _)⟩
  · split at h
    · rename_i n ns hn
      cases r with
      | cons a b =>
        cases b
        obtain ⟨p, rfl, g⟩ := theInts_ok R a hn
        refine .inr ⟨p, n :: ns, rfl, SqL.of g, by simp, fun m hm hy => ?_⟩
        obtain ⟨q1, q2, q3⟩ := maxI_ok ns n
        have e : m = maxI n ns := by
          have h1 : maxI n ns ≤ m := by
            rcases q1 with q | q
            · rw [q]; exact hy n List.mem_cons_self
            · exact hy _ (List.mem_cons_of_mem _ q)
          have h2 : m ≤ maxI n ns := by
            rcases List.mem_cons.mp hm with rfl | hm
            · exact q2
            · exact q3 m hm
          omega
        rw [e]
        exact h.val R (.int _)
    · exact h.elim
  · exact h.elim
theorem ad_min : AdC K Z (rMinA K) gMin := by
  intro W σ f S H xs vs Q R r h
  unfold gMin at h
  split at h
  · cases r with
    | cons a b =>
      cases b with
      | cons b d =>
        cases a; cases b; cases d
        exact .inl ⟨_, _, rfl, h.val R (.int _)⟩
  · split at h
    · rename_i n ns hn
      cases r with
      | cons a b =>
        cases b
        obtain ⟨p, rfl, g⟩ := theInts_ok R a hn
        refine .inr ⟨p, n :: ns, rfl, SqL.of g, by simp, fun m hm hy => ?_⟩
        obtain ⟨q1, q2, q3⟩ := minI_ok ns n
        have e : m = minI n ns := by
          have h1 : m ≤ minI n ns := by
            rcases q1 with q | q
            · rw [q]; exact hy n List.mem_cons_self
            · exact hy _ (List.mem_cons_of_mem _ q)
          have h2 : minI n ns ≤ m := by
            rcases List.mem_cons.mp hm with rfl | hm
            · exact q2
            · exact q3 m hm
          omega
        rw [e]
        exact h.val R (.int _)
    · exact h.elim
  · exact h.elim
def gTuple : GC := fun xs S => match xs with
  | [.tup l] => .ok (.tup l) S
  | [.ref i] => match S.get i with
    | some (.lst l) => .ok (.tup l) S
    | _ => .stuck
  | _ => .stuck
def gList : GC := fun xs S => match xs with
  | [.tup l] => .ok (.ref S.n) (S.push (.lst l))
  | [.ref i] => match S.get i with
    | some (.lst l) => .ok (.ref S.n) (S.push (.lst l))
    | _ => .stuck
  | _ => .stuck
theorem ad_tuple : AdC K Z (fun xs H Q => ∃ p ys, xs = [.ref p] ∧ ((SqL K H p ys ∧ ∀ l, H l = none → Q (.ref l) (upd H l (.tup ys))) ∨ (SqT K H p ys ∧ Q (.ref p) H))) gTuple := by
  intro W σ f S H xs vs Q R r h
  unfold gTuple at h
  split at h
  · cases r with
    | cons a b =>
      cases b
      cases a with
      | tup g1 g2 => exact ⟨_, _, rfl, .inr ⟨g1, h.val R (.tup g1 g2)⟩⟩
  · cases r with
    | cons a b =>
      cases b
      split at h
      · rename_i l hl
        obtain ⟨p, vs, rfl, _, g1, g2⟩ := R.lst a hl
        exact ⟨_, _, rfl, .inl ⟨SqL.of g1, fun q hq => h.tup R g2 hq⟩⟩
      · exact h.elim
  · exact h.elim
theorem ad_list : AdC K Z (fun xs H Q => ∃ p ys, xs = [.ref p] ∧ (SqL K H p ys ∨ SqT K H p ys) ∧ ∀ l, H l = none → Q (.ref l) (upd H l (.lst ys))) gList := by
  intro W σ f S H xs vs Q R r h
  unfold gList at h
  split at h
  · cases r with
    | cons a b =>
      cases b
      cases a with
      | tup g1 g2 => exact ⟨_, _, rfl, .inr g1, fun q hq => h.new R (.lst g2) hq⟩
  · cases r with
    | cons a b =>
      cases b
      split at h
      · rename_i l hl
        obtain ⟨p, vs, rfl, _, g1, g2⟩ := R.lst a hl
        exact ⟨_, _, rfl, .inl (SqL.of g1), fun q hq => h.new R (.lst g2) hq⟩
      · exact h.elim
  · exact h.elim
def insI (x : Int) : List Int → List Int
  | [] => [x]
  | y :: l => if x ≤ y then x :: y :: l else y :: insI x l
def srtI : List Int → List Int
  | [] => []
  | x :: l => insI x (srtI l)
theorem insI_perm (x : Int) : ∀ l, (insI x l).Perm (x :: l)
  | [] => .refl _
  | y :: l => by
    unfold insI
    split
    · exact .refl _
    · exact ((insI_perm x l).cons y).trans (.swap x y l)
theorem srtI_perm : ∀ l, (srtI l).Perm l
  | [] => .refl _
  | x :: l => (insI_perm x _).trans ((srtI_perm l).cons x)
theorem insI_sorted (x : Int) : ∀ l : List Int, l.Pairwise (· ≤ ·) → (insI x l).Pairwise (· ≤ ·)
  | [], _ => by simp [insI]
  | y :: l, h => by
    obtain ⟨h1, h2⟩ := List.pairwise_cons.mp h
    unfold insI
    split
    · rename_i hx
      refine List.pairwise_cons.mpr ⟨fun z hz => ?_, h⟩
      rcases List.mem_cons.mp hz with rfl | hz
      · exact hx
      · exact Int.le_trans hx (h1 z hz)
    · rename_i hx
      refine List.pairwise_cons.mpr ⟨fun z hz => ?_, insI_sorted x l h2⟩
      rcases List.mem_cons.mp ((insI_perm x l).mem_iff.mp hz) with rfl | hz
      · omega
      · exact h1 z hz
theorem srtI_sorted : ∀ l : List Int, (srtI l).Pairwise (· ≤ ·)
  | [] => by simp [srtI]
  | x :: l => insI_sorted x _ (srtI_sorted l)
def gSorted : GC := fun xs S => match xs with
  | [x] => match theInts S x with
    | some ns => .ok (.ref S.n) (S.push (.lst ((srtI ns).map .int)))
    | none => .stuck
  | _ => .stuck
theorem ad_sorted : AdC K Z (rSortedI K) gSorted := by
  intro W σ f S H xs vs Q R r h
  unfold gSorted at h
  split at h
  · split at h
    · rename_i ns hn
      cases r with
      | cons a b =>
        cases b
        obtain ⟨p, rfl, g⟩ := theInts_ok R a hn
        refine ⟨p, ns, rfl, SqL.of g, fun ns' q hp hs hq => ?_⟩
        have e : ns' = srtI ns := List.Perm.eq_of_pairwise (fun x y _ _ h1 h2 => Int.le_antisymm h1 h2) hs (srtI_sorted ns) (hp.trans (srtI_perm ns).symm)
        rw [e]
        exact h.new R (.lst RVs.ints) hq
    · exact h.elim
  · exact h.elim
def gGcd : GC := fun xs S => match xs with
  | [.int a, .int b] => .ok (.int ((Nat.gcd a.natAbs b.natAbs : Nat) : Int)) S
  | _ => .stuck
theorem ad_gcd : AdC K Z rGcd gGcd := by
  intro W σ f S H xs vs Q R r h
  unfold gGcd at h
  split at h
  · cases r with
    | cons a b =>
      cases b with
      | cons b d =>
        cases a; cases b; cases d
        exact ⟨_, _, rfl, h.val R (.int _)⟩
  · exact h.elim
def gInt : GC := fun xs S => match xs with
  | [.int a] => .ok (.int a) S
  | [.bl k] => .ok (.int (if k then 1 else 0)) S
  | _ => .stuck
theorem ad_int : AdC K Z (fun xs H Q => (∃ i, xs = [.int i] ∧ Q (.int i) H) ∨ ∃ k, xs = [.bl k] ∧ Q (.int (if k then 1 else 0)) H) gInt := by
  intro W σ f S H xs vs Q R r h
  unfold gInt at h
  split at h
  · cases r with
    | cons a b =>
      cases a; cases b
      exact .inl ⟨_, rfl, h.val R (.int _)⟩
  · cases r with
    | cons a b =>
      cases a; cases b
      exact .inr ⟨_, rfl, h.val R (.int _)⟩
  · exact h.elim
def gAbs : GC := fun xs S => match xs with
  | [.int i] => .ok (.int (if i < 0 then -i else i)) S
  | _ => .stuck
theorem ad_abs : AdC K Z (fun xs H Q => ∃ i, xs = [.int i] ∧ Q (.int (if i < 0 then -i else i)) H) gAbs := by
  intro W σ f S H xs vs Q R r h
  unfold gAbs at h
  split at h
  · cases r with
    | cons a b =>
      cases a; cases b
      exact ⟨_, rfl, h.val R (.int _)⟩
  · exact h.elim
/-! isinstance of one built-in class -/
def tyC (S : CS) : CV → Option String
  | .non => some "NoneType"
  | .bl _ => some "bool"
  | .int _ => some "int"
  | .str _ => some "str"
  | .tup _ => some "tuple"
  | .ref i => match S.get i with
    | some (.lst _) => some "list"
    | _ => none
  | .ty _ => none
  | .fz _ => none
theorem tyC_ok {f : List Addr} {H : Hp} {S : CS} {x : CV} {v : V} {t : String} (R : Rel K f H S) (r : RV K f H x v) (h : tyC S x = some t) : TyX K H v (.type t) := by
  cases r with
  | non => cases h; exact .base .non
  | bl b => cases h; exact .base (.bl b)
  | int b => cases h; exact .base (.int b)
  | str b => cases h; exact .base (.str b)
  | ty n => cases h
  | fz _ _ => cases h
  | tup g1 g2 =>
    cases h
    rcases g1 with (g | ⟨o, g⟩) | ⟨o, its, n, g, c, _⟩
    · exact .base (.tup g)
    · exact .fTuple g
    · exact .kTuple g c
  | ref g =>
    simp only [tyC] at h
    split at h
    · rename_i l hl
      cases h
      obtain ⟨p, vs, e, _, g1, g2⟩ := R.lst (.ref g) hl
      cases e
      exact .base (.lst g1)
    · cases h
def kitT (t n : String) : Option Bool :=
  if n = "int" then (if t = "int" then some true else if t = "bool" then some true else if t = "str" then some false else if t = "tuple" then some false else if t = "list" then some false else if t = "NoneType" then some false else none)
  else if n = "bool" then (if t = "int" then some false else if t = "bool" then some true else if t = "str" then some false else if t = "tuple" then some false else if t = "list" then some false else if t = "NoneType" then some false else none)
  else if n = "str" then (if t = "int" then some false else if t = "bool" then some false else if t = "str" then some true else if t = "tuple" then some false else if t = "list" then some false else if t = "NoneType" then some false else none)
  else if n = "tuple" then (if t = "int" then some false else if t = "bool" then some false else if t = "str" then some false else if t = "tuple" then some true else if t = "list" then some false else if t = "NoneType" then some false else none)
  else if n = "list" then (if t = "int" then some false else if t = "bool" then some false else if t = "str" then some false else if t = "tuple" then some false else if t = "list" then some true else if t = "NoneType" then some false else none)
  else none
theorem kitT_ok {t n : String} {b : Bool} (h : kitT t n = some b) : kitB t n = some b := by
  unfold kitT at h
  repeat' split at h
  all_goals first
    | cases h
    | skip
  all_goals (subst_vars; decide +kernel)
def gIsi : GC := fun xs S => match xs with
  | [x, .ty n] => match tyC S x with
    | some t => match kitT t n with
      | some b => .ok (.bl b) S
      | none => .stuck
    | none => .stuck
  | _ => .stuck
theorem ad_isi : AdC K Z (rIsi K) gIsi := by
  intro W σ f S H xs vs Q R r h
  unfold gIsi at h
  split at h
  · cases r with
    | cons a b =>
      cases b with
      | cons b d =>
        cases b; cases d
        split at h
        · rename_i t ht
          split at h
          · rename_i b hb
            exact ⟨_, _, _, _, b, rfl, .ty _, tyC_ok R a ht, kit_ty (kitT_ok hb), h.val R (.bl _)⟩
          · exact h.elim
        · exact h.elim
  · exact h.elim
end
end TH
-- part C9
namespace TH
open PySem PySem.Spec PyProof.Rows L2 RZ
/-! ## by truth -/
def eNotT (m : M CV) : M CV := m.bind fun x => fun _ S => match truC S x with
  | some b => .ok (.bl (!b)) S
  | none => .stuck
def eAndT (m k : M CV) : M CV := m.bind fun x => fun c S => match truC S x with
  | some true => k c S
  | some false => .ok x S
  | none => .stuck
def eOrT (m k : M CV) : M CV := m.bind fun x => fun c S => match truC S x with
  | some true => .ok x S
  | some false => k c S
  | none => .stuck
section
variable {X : Cx} {Z : ExI} {W : WX} {a b d e : Expr} {es rest : List Expr} {pos p : Pos} {ma mb md : M CV} {k : M (List CV)}
theorem me_notT (ha : ME X Z W a ma) : ME X Z W (.UnaryOp .Not a pos) (eNotT ma) := (pe_notT ha).imp fun σ H Q h => by
  refine (tG.bind (R1 := rV X.K) h).mono ?_
  rintro v H1 ⟨f1, c, S1, x, r1, e1, x1, h1⟩
  split at h1
  · rename_i b hb
    exact ⟨b, truC_ok r1 x1 hb, h1.val r1 (.bl _)⟩
  · exact h1.elim
theorem me_andT (ha : ME X Z W a ma) (hb : ME X Z W (.BoolOp .And (b :: rest) pos) mb) : ME X Z W (.BoolOp .And (a :: b :: rest) pos) (eAndT ma mb) := (pe_andT ha hb).imp fun σ H Q h => by
  refine (tG.bind (R1 := rV X.K) h).mono ?_
  rintro v H1 ⟨f1, c, S1, x, r1, e1, x1, h1⟩
  split at h1
  · rename_i hb
    exact ⟨true, truC_ok r1 x1 hb, by rw [if_pos rfl]; exact ⟨f1, c, S1, r1, e1, h1⟩⟩
  · rename_i hb
    exact ⟨false, truC_ok r1 x1 hb, by rw [if_neg (by decide)]; exact h1.val r1 x1⟩
  · exact h1.elim
theorem me_orT (ha : ME X Z W a ma) (hb : ME X Z W (.BoolOp .Or (b :: rest) pos) mb) : ME X Z W (.BoolOp .Or (a :: b :: rest) pos) (eOrT ma mb) := (pe_orT ha hb).imp fun σ H Q h => by
  refine (tG.bind (R1 := rV X.K) h).mono ?_
  rintro v H1 ⟨f1, c, S1, x, r1, e1, x1, h1⟩
  split at h1
  · rename_i hb
    exact ⟨true, truC_ok r1 x1 hb, by rw [if_pos rfl]; exact h1.val r1 x1⟩
  · rename_i hb
    exact ⟨false, truC_ok r1 x1 hb, by rw [if_neg (by decide)]; exact ⟨f1, c, S1, r1, e1, h1⟩⟩
  · exact h1.elim
/-! ## a, b = x, y -/
def sPar (i j : Nat) (k : M (List CV)) : MS := lift k fun l => match l with
  | [x, y] => fun c S => .nx ((c.set i (some x)).set j (some y)) S
  | _ => fun _ _ => .stuck
theorem ms_par {i j : Nat} {x y : Str} {px py pt : Pos} {kt k2 pt2} (hc : X.calm = true) (hN : X.N.Nodup) (hi : X.N[i]? = some x) (hj : X.N[j]? = some y) (hij : i ≠ j)
    (hx : X.env.scope.names.lookup x = some .local) (hy : X.env.scope.names.lookup y = some .local) (ha : MA X Z W [a, b] k)
    (hw : swappedStores [.Tuple [.Name x px, .Name y py] kt pt] (.Tuple [a, b] k2 pt2) X.env = pure (some [x, y]))
    (hs : swapsWithSole [.Tuple [.Name x px, .Name y py] kt pt] (.Tuple [a, b] k2 pt2) pos.line X.env = pure false := by rfl) :
    MSt X Z W (.Assign [.Tuple [.Name x px, .Name y py] kt pt] (.Tuple [a, b] k2 pt2) pos) (sPar i j k) := (ps_par hc hN hi hj hij hx hy ha hw hs).imp fun D σ H h => by
  obtain ⟨f, c, S, r, e, h⟩ := h
  refine (lift_at (R1 := rVs X.K) r e h).mono ?_
  rintro vs H1 ⟨f1, S1, l, t1, r1, e1, x1, h1⟩
  split at h1
  · cases x1 with
    | cons a b =>
      cases b with
      | cons b d =>
        cases d
        exact ⟨_, _, rfl, h1.nx r1 ((e1.set a).set b)⟩
  · exact h1.elim
/-! ## own defs, as the text has them -/
def Def (P : Program) (w : World) (K : PySem.W.Frag) (mg : Str → Option Value) (base : Heap) (Z : ExI) (x : Str) (lv : Nat) (ps : List Str) (mf : GC) : Prop :=
  ∃ f fd, mg x = some (.ref f) ∧ PySem.W.keepIn K (.ref f) = true ∧ Binds K fd ps [] ∧ FnOk P w K mg base (L2.CX P w) lv f fd ps (spM K Z ps.length mf) ∧ ∃ o, K.lookup f = some o ∧ o.data = .func fd
theorem me_g {x : Str} {lv : Nat} {ps : List Str} {mf : GC} (D : Def X.prog X.w X.K X.mg X.base Z x lv ps mf) (hr : Room lv X.A) (hg : Gl X x) (tk : Takes X W) (ha : MA X Z W (e :: es) k) (hdb : (x == ("__debug__" : Str)) = false := by decide)
    (he : starEach (e :: es) X.env = (false, eval e X.env) :: starEach es X.env := by rfl) (hpl : (backTo pos (starEach es X.env)).any (·.1) = false := by rfl) : ME X Z W (.Call (.Name x p) (e :: es) [] pos) (eCall (gG ps.length mf) k) := by
  obtain ⟨f, fd, hm, hk, hb, F, _⟩ := D
  exact me_fn (g := gG ps.length) F hr hg hm hk hb tk ha (fun R r h => ad_gG R r h) hdb he hpl
theorem me_p {x : Str} {lv : Nat} {ps : List Str} {mf : GC} (D : Def X.prog X.w X.K X.mg X.base Z x lv ps mf) (hr : Room lv X.A) (hg : Gl X x) (tk : Takes X W) (ha : MA X Z W (e :: es) k) (hdb : (x == ("__debug__" : Str)) = false := by decide)
    (he : starEach (e :: es) X.env = (false, eval e X.env) :: starEach es X.env := by rfl) (hpl : (backTo pos (starEach es X.env)).any (·.1) = false := by rfl) : ME X Z W (.Call (.Name x p) (e :: es) [] pos) (eCall (gP ps.length mf) k) := by
  obtain ⟨f, fd, hm, hk, hb, F, _⟩ := D
  exact me_fn (g := gP ps.length) F hr hg hm hk hb tk ha (fun R r h => ad_gP R r h) hdb he hpl
/-- what the top has of a def -/
structure Src (K : PySem.W.Frag) (mg : Str → Option Value) (x : Str) (st : Stmt) (ps : List Str) : Prop where
  ex : ∃ f fd, Fun K x x st f fd ∧ mg x = some (.ref f) ∧ Binds K fd ps []
theorem me_ty {x : Str} {n : String} (hg : Gl X x) (hm : X.mg x = none) (hv : bootBuiltins x = some (.type n)) (hn : x ≠ "__name__" := by decide) (hd : (x == ("__debug__" : Str)) = false := by decide) : ME X Z W (.Name x pos) (eC (.ty n)) :=
  me_const (pe_bltn hg hm hv (v := .ty n) rfl hn hd) fun _ _ => .ty n
abbrev WE1 (E : XK) : WX := fun cls d _ H => E cls d H
theorem def_okX {P : Program} {w : World} {K : PySem.W.Frag} {mg : Str → Option Value} {base : Heap} {x : Str} {st : Stmt} {N ps : List Str} {lv : Nat} {m : MS} (T : Src K mg x st ps) (SC : FnScope N ps (defScope st))
    (hb : ∀ (f : Addr) (cdv : Value) (A : Around) (outer : List Env) (s : Shared) (H : Hp) (E : XK), Room lv (A.deeper (envOfC x (defScope st) s.heap.objs.size f cdv)) →
      Takes (cxOf (L2.CX P w) P w K mg base N x (defScope st) f cdv A outer s H E) (WE1 E) →
      PassesOwn (model P w) (cxOf (L2.CX P w) P w K mg base N x (defScope st) f cdv A outer s H E).A (cxOf (L2.CX P w) P w K mg base N x (defScope st) f cdv A outer s H E).env (cxOf (L2.CX P w) P w K mg base N x (defScope st) f cdv A outer s H E).xe →
      MSs (cxOf (L2.CX P w) P w K mg base N x (defScope st) f cdv A outer s H E) Z (WE1 E) (defBody st) m) :
    Def P w K mg base Z x (lv + 1) ps (runB N.length m) := by
  obtain ⟨f, fd, F, hm, hbd⟩ := T.ex
  exact ⟨f, fd, hm, F.kp, hbd, fn_ok F SC fun cdv A outer s H E hr => hb f cdv A outer s H E hr (takes_of rfl rfl rfl rfl) (passes_of rfl), by
    obtain ⟨oc, od, kV, doc, pm, an, cdv, ct, osl, _, lk, hcd⟩ := F.ex
    exact ⟨_, lk, rfl⟩⟩
/-! ## zip, enumerate -/
def itZ (x y : It0) : It0 := ⟨fun i S => match x.nxt i S, y.nxt i S with
  | some (some a), some (some b) => some (some (.tup [a, b]))
  | some none, some _ => some none
  | some _, some none => some none
  | _, _ => none, min x.cnt y.cnt⟩
def itOf (S : CS) : CV → Option It0
  | .tup l => some (itT l)
  | .ref n => match S.get n with
    | some (.lst l) => some (itL n l)
    | _ => none
  | _ => none
def sameK : CV → CV → Bool
  | .tup _, .tup _ => true
  | .ref _, .ref _ => true
  | _, _ => false
def iZip (k : M (List CV)) : M It0 := k.bind fun l => fun _ S => match l with
  | [x, y] => if sameK x y then match itOf S x, itOf S y with
      | some a, some b => .ok (itZ a b) S
      | _, _ => .stuck
    else .stuck
  | _ => .stuck
theorem walks_Z {K : PySem.W.Frag} {f : List Addr} {H : Hp} {p q : Addr} {s t : It0} (w1 : Walks K f H s (Itl K p)) (w2 : Walks K f H t (Itl K q)) : Walks K f H (itZ s t) (Itz K p q) := by
  intro f2 S2 H2 i e R2
  have a := w1 f2 S2 H2 i e R2
  have b := w2 f2 S2 H2 i e R2
  unfold itZ
  dsimp only
  cases q1 : s.nxt i S2 with
  | none =>
    cases q2 : t.nxt i S2 with
    | none => trivial
    | some oo => cases oo <;> trivial
  | some o1 =>
    rw [q1] at a
    cases o1 with
    | none =>
      cases q2 : t.nxt i S2 with
      | none => trivial
      | some o2 =>
        rw [q2] at b
        dsimp only at a ⊢
        obtain ⟨xs, h1, h2⟩ := a
        cases o2 with
        | none =>
          obtain ⟨ys, g1, g2⟩ := b
          exact ⟨xs, ys, h1, g1, .inl h2⟩
        | some y =>
          obtain ⟨⟨ys, yv, g1, g2⟩, _⟩ := b
          exact ⟨xs, ys, h1, g1, .inl h2⟩
    | some x =>
      cases q2 : t.nxt i S2 with
      | none => trivial
      | some o2 =>
        rw [q2] at b
        obtain ⟨⟨xs, xv, h1, h2⟩, h3⟩ := a
        cases o2 with
        | none =>
          obtain ⟨ys, g1, g2⟩ := b
          exact ⟨xs, ys, h1, g1, .inr g2⟩
        | some y =>
          obtain ⟨⟨ys, yv, g1, g2⟩, g3⟩ := b
          refine ⟨⟨xs, ys, xv, yv, h1, g1, h2, g2⟩, fun v H3 y' => ?_⟩
          obtain ⟨T, x', y', rfl, hT, rfl, hx, hy⟩ := y'
          have ex : x' = xv := by have := hx xs h1; rw [h2] at this; exact (Option.some.inj this).symm
          have ey : y' = yv := by have := hy ys g1; rw [g2] at this; exact (Option.some.inj this).symm
          subst ex ey
          obtain ⟨_, _, rx⟩ := h3 x' H2 ⟨rfl, fun zs hz => hx zs hz⟩
          obtain ⟨_, _, ry⟩ := g3 y' H2 ⟨rfl, fun zs hz => hy zs hz⟩
          have eb := Ext.beside (u := .tup [x', y']) R2 hT
          exact ⟨eb, R2.beside hT, .tup (SqT.of upd_same) (.cons (rx.mono eb R2) (.cons (ry.mono eb R2) .nil))⟩
theorem walks_ZT {K : PySem.W.Frag} {f : List Addr} {H : Hp} {p q : Addr} {s t : It0} (w1 : Walks K f H s (Itt K p)) (w2 : Walks K f H t (Itt K q)) : Walks K f H (itZ s t) (ItzT K p q) := by
  intro f2 S2 H2 i e R2
  have a := w1 f2 S2 H2 i e R2
  have b := w2 f2 S2 H2 i e R2
  unfold itZ
  dsimp only
  cases q1 : s.nxt i S2 with
  | none =>
    cases q2 : t.nxt i S2 with
    | none => trivial
    | some oo => cases oo <;> trivial
  | some o1 =>
    rw [q1] at a
    cases o1 with
    | none =>
      cases q2 : t.nxt i S2 with
      | none => trivial
      | some o2 =>
        rw [q2] at b
        dsimp only at a ⊢
        obtain ⟨xs, h1, h2⟩ := a
        cases o2 with
        | none =>
          obtain ⟨ys, g1, g2⟩ := b
          exact ⟨xs, ys, h1, g1, .inl h2⟩
        | some y =>
          obtain ⟨⟨ys, yv, g1, g2⟩, _⟩ := b
          exact ⟨xs, ys, h1, g1, .inl h2⟩
    | some x =>
      cases q2 : t.nxt i S2 with
      | none => trivial
      | some o2 =>
        rw [q2] at b
        obtain ⟨⟨xs, xv, h1, h2⟩, h3⟩ := a
        cases o2 with
        | none =>
          obtain ⟨ys, g1, g2⟩ := b
          exact ⟨xs, ys, h1, g1, .inr g2⟩
        | some y =>
          obtain ⟨⟨ys, yv, g1, g2⟩, g3⟩ := b
          refine ⟨⟨xs, ys, xv, yv, h1, g1, h2, g2⟩, fun v H3 y' => ?_⟩
          obtain ⟨T, x', y', rfl, hT, rfl, hx, hy⟩ := y'
          have ex : x' = xv := by have := hx xs h1; rw [h2] at this; exact (Option.some.inj this).symm
          have ey : y' = yv := by have := hy ys g1; rw [g2] at this; exact (Option.some.inj this).symm
          subst ex ey
          obtain ⟨_, _, rx⟩ := h3 x' H2 ⟨rfl, fun zs hz => hx zs hz⟩
          obtain ⟨_, _, ry⟩ := g3 y' H2 ⟨rfl, fun zs hz => hy zs hz⟩
          have eb := Ext.beside (u := .tup [x', y']) R2 hT
          exact ⟨eb, R2.beside hT, .tup (SqT.of upd_same) (.cons (rx.mono eb R2) (.cons (ry.mono eb R2) .nil))⟩
theorem mi_zip {elts : List Expr} {kk : Nat} {tpos : Pos} (hg : Gl X "zip") (hm : X.mg "zip" = none) (ha : MA X Z W [a, b] k)
    (hs : starEach [a, b] X.env = (false, eval a X.env) :: starEach [b] X.env := by rfl) (hpl : (backTo pos (starEach [b] X.env)).any (·.1) = false := by rfl) :
    MI X Z W (.Tuple elts kk tpos) (.Call (.Name "zip" p) [a, b] [] pos) (iZip k) := (pi_zipA hg hm ha hs hpl).imp fun σ H R h => by
  refine (tG.bind (R1 := rVs X.K) h).mono ?_
  rintro vs H1 ⟨f1, c, S1, l, r1, e1, x1, h1⟩
  split at h1
  · rename_i x y
    split at h1
    · rename_i hk
      split at h1
      · rename_i s t hs ht
        cases x1 with
        | cons x1 x2 =>
          cases x2 with
          | cons x2 x3 =>
            cases x3
            cases x <;> cases y <;> try cases hk
            · cases hs; cases ht
              cases x1 with
              | tup g1 g2 =>
                cases x2 with
                | tup g3 g4 => exact ⟨_, _, _, _, rfl, .inr ⟨g1, g3, h1 f1 H1 _ (Ext.refl r1) r1 (walks_ZT (walks_T r1 g1 g2) (walks_T r1 g3 g4))⟩⟩
            · simp only [itOf] at hs ht
              split at hs
              · rename_i l hl
                cases hs
                split at ht
                · rename_i m hm
                  cases ht
                  obtain ⟨p, vs, rfl, p1, p2, p3⟩ := r1.lst x1 hl
                  obtain ⟨q, ws, rfl, q1, q2, q3⟩ := r1.lst x2 hm
                  exact ⟨_, _, _, _, rfl, .inl ⟨SqL.of p2, SqL.of q2, h1 f1 H1 _ (Ext.refl r1) r1 (walks_Z (walks_L r1 p1) (walks_L r1 q1))⟩⟩
                · cases ht
              · cases hs
      · exact h1.elim
    · exact h1.elim
  · exact h1.elim
/-! ## methods of lists -/
def eAppend (m : M CV) (k : M (List CV)) : M CV := m.bind fun x => match x with
  | .ref n => fun c S => match S.get n with
    | some (.lst _) => M.bind k (fun l => fun _ S' => match l with
      | [y] => match S'.get n with
        | some (.lst l) => if l.length < sizeLine then .ok .non (S'.put n (.lst (l ++ [y]))) else .stuck
        | _ => .stuck
      | _ => .stuck) c S
    | _ => .stuck
  | _ => fun _ _ => .stuck
theorem me_append {apos : Pos} (ha : ME X Z W a ma) (hk : MA X Z W [e] k)
    (hbase : attributeBase a "append" X.env (eval a X.env) = eval a X.env := by rfl)
    (hfew : ((backTo pos (starEach [e] X.env)).all (fun x => !x.1) && (backToKw pos (keywordEach [] X.env)).all (fun x => x.1.isSome)
      && decide ([e].length + ([] : List Keyword).length + (if ([] : List Keyword).isEmpty then 0 else 1) < 30)) = true := by rfl)
    (hline : (apos.endLine == pos.line) = true := by rfl) (hs : starEach [e] X.env = (false, eval e X.env) :: starEach [] X.env := by rfl) (hplain : (backTo pos (starEach [] X.env)).any (·.1) = false := by rfl) :
    ME X Z W (.Call (.Attribute a "append" apos) [e] [] pos) (eAppend ma k) :=
  (pe_bm PySem.F.plainAttrs_list PySem.F.slot_list_append PySem.F.type_list_append mt_append ha hk hbase hfew hline hs hplain).imp fun σ H Q h => by
    refine (tG.bind (R1 := rV X.K) h).mono ?_
    rintro v H1 ⟨f1, c, S1, x, r1, e1, x1, h1⟩
    cases x <;> try exact h1.elim
    rename_i n
    dsimp only at h1
    split at h1
    · rename_i l0 hl0
      obtain ⟨p, vs0, rfl, hf, g1, g2⟩ := r1.lst x1 hl0
      refine ⟨.inl ⟨rfl, _, SqL.of g1⟩, ?_⟩
      refine (tG.at_ (R1 := rVs X.K) r1 e1 h1).mono ?_
      rintro ws H2 ⟨f2, S2, l, t2, r2, e2, l2, h2⟩
      split at h2
      · split at h2
        · rename_i l' hl'
          split at h2
          · rename_i hz
            cases l2 with
            | cons ry t =>
              cases t
              obtain ⟨p', vs, e', hf', g3, g4⟩ := r2.lst (x1.mono t2 r1) hl'
              cases e'
              exact ⟨_, vs, _, rfl, rfl, g3, by rw [← g4.len]; exact hz, h2.put r2 hf' (.lst (g4.snoc ry)) .non⟩
          · exact h2.elim
        · exact h2.elim
      · exact h2.elim
    · exact h1.elim
end
end TH
-- part C10
namespace TH
open PySem PySem.Spec PyProof.Rows L2
/-! ## comprehensions with two for -/
def lc2I (it1 : It0) (t1 : Tg) (tt1 : M Bool) (el : M CV) (c : CE) : Nat → Nat → List CV → CS → Out (List CV)
  | 0, i, acc, S => match it1.nxt i S with
    | some none => .ok acc S
    | _ => .stuck
  | n + 1, i, acc, S => match it1.nxt i S with
    | some none => .ok acc S
    | some (some x) => match bT t1 x c with
      | some c1 => match tt1 c1 S with
        | .ok true S1 => match el c1 S1 with
          | .ok y S2 => if acc.length < sizeLine then lc2I it1 t1 tt1 el c n (i + 1) (y :: acc) S2 else .stuck
          | _ => .stuck
        | .ok false S1 => lc2I it1 t1 tt1 el c n (i + 1) acc S1
        | _ => .stuck
      | none => .stuck
    | none => .stuck
def lc2O (it : It0) (t : Tg) (tt : M Bool) (mi1 : M It0) (t1 : Tg) (ow1 : List Nat) (tt1 : M Bool) (el : M CV) (c : CE) : Nat → Nat → List CV → CS → Out (List CV)
  | 0, i, acc, S => match it.nxt i S with
    | some none => .ok acc S
    | _ => .stuck
  | n + 1, i, acc, S => match it.nxt i S with
    | some none => .ok acc S
    | some (some x) => match bT t x c with
      | some c1 => match tt c1 S with
        | .ok true S1 => match mi1 c1 S1 with
          | .ok it1 S2 => match lc2I it1 t1 tt1 el (wipeC c1 ow1) it1.cnt 0 acc S2 with
            | .ok acc' S3 => lc2O it t tt mi1 t1 ow1 tt1 el c n (i + 1) acc' S3
            | _ => .stuck
          | _ => .stuck
        | .ok false S1 => lc2O it t tt mi1 t1 ow1 tt1 el c n (i + 1) acc S1
        | _ => .stuck
      | none => .stuck
    | none => .stuck
def eLc2 (m : M It0) (t : Tg) (own : List Nat) (tt : M Bool) (mi1 : M It0) (t1 : Tg) (ow1 : List Nat) (tt1 : M Bool) (el : M CV) : M CV := m.bind fun it => fun c S => match lc2O it t tt mi1 t1 ow1 tt1 el (wipeC c own) it.cnt 0 [] S with
    | .ok acc S' => .ok (.ref S'.n) (S'.push (.lst acc.reverse))
    | _ => .stuck
theorem wipe_idem {σ : L2.St} {own : List Nat} : ∀ (us : List Nat), (∀ i ∈ us, i ∈ own) → wipe (wipe σ own) us = wipe σ own := by
  intro us
  induction us with
  | nil => intro _; rfl
  | cons j us ih =>
    intro hu
    show (wipe (wipe σ own) us).set j none = _
    rw [ih fun i hi => hu i (List.mem_cons_of_mem _ hi)]
    have hj := hu j List.mem_cons_self
    have : ∀ (ws : List Nat), j ∈ ws → (wipe σ ws).set j none = wipe σ ws := by
      intro ws
      induction ws with
      | nil => intro h; simp at h
      | cons k ws ih2 =>
        intro hk
        show ((wipe σ ws).set k none).set j none = (wipe σ ws).set k none
        by_cases z : k = j
        · subst z
          rw [List.set_set]
        · have : j ∈ ws := by
            rcases List.mem_cons.mp hk with h | h
            · exact absurd h.symm z
            · exact h
          rw [List.set_comm _ _ z, ih2 this]
    exact this own hj
section
variable {K : PySem.W.Frag} {Z : ExI} {D : Addr} {f1 : List Addr} {H1 : Hp}
/-- where a comprehension stands: the list at D beside the store -/
structure At (K : PySem.W.Frag) (f1 : List Addr) (H1 : Hp) (D : Addr) (c : CE) (σ : L2.St) (f : List Addr) (S : CS) (acc : List CV) (H : Hp) : Prop where
  r : Rel K f H S
  e : RE K f H c σ
  x : Ext f1 H1 f H
  nf : D ∉ f
  d : ∃ vs, H D = some (.lst vs) ∧ RVs K f H acc.reverse vs
theorem At.go {c : CE} {σ : L2.St} {f f' : List Addr} {S S' : CS} {acc : List CV} {H H' : Hp} (a : At K f1 H1 D c σ f S acc H) (x : Ext f H f' H') (r : Rel K f' H' S') : At K f1 H1 D c σ f' S' acc H' := by
  obtain ⟨vs, d, ra⟩ := a.d
  obtain ⟨n, d'⟩ := x.notin d a.nf
  exact ⟨r, a.e.mono x a.r, a.x.trans x, n, vs, d', ra.mono x a.r⟩
theorem At.env {c c' : CE} {σ σ' : L2.St} {f : List Addr} {S : CS} {acc : List CV} {H : Hp} (a : At K f1 H1 D c σ f S acc H) (e : RE K f H c' σ') : At K f1 H1 D c' σ' f S acc H := ⟨a.r, e, a.x, a.nf, a.d⟩
theorem At.snoc {c : CE} {σ : L2.St} {f : List Addr} {S : CS} {acc : List CV} {H : Hp} {y : CV} {v : V} (a : At K f1 H1 D c σ f S acc H) (hD : H1 D = none) (ry : RV K f H y v) : ∃ vs, H D = some (.lst vs) ∧ vs.length = acc.length ∧ At K f1 H1 D c σ f S (y :: acc) (upd H D (.lst (vs ++ [v]))) := by
  obtain ⟨vs, d, ra⟩ := a.d
  refine ⟨vs, d, by rw [← ra.len, List.length_reverse], a.r.off a.nf d, RE.off d a.e, a.x.off a.nf hD, a.nf, _, upd_same, ?_⟩
  rw [List.reverse_cons]
  exact RVs.off d (ra.snoc ry)
theorem grow_off {f : List Addr} {H : Hp} {u : HO} {vs : List V} (hD : H D = some (.lst vs)) : Grow K f H f (upd H D u) := ⟨⟨[], by simp⟩, fun _ _ h => SqT.off h hD, fun _ _ h => FzL.off h hD⟩
theorem lc2_inner {it1 : It0} {J1 : It} {t1 : Tg} {ow1 : List Nat} {tt1 : M Bool} {el : M CV} {c2 : CE} {σ2 : L2.St} {f2 : List Addr} {H4 : Hp} {S2 : CS} {acc accF : List CV} {SF : CS} {Nx : Hp → Prop} (hD : H1 D = none)
    (a : At K f1 H1 D c2 σ2 f2 S2 acc H4) (w1 : Walks K f2 H4 it1 J1) (ht1 : ∀ i ∈ slots t1, i ∈ ow1) (h0 : lc2I it1 t1 tt1 el (wipeC c2 ow1) it1.cnt 0 acc S2 = .ok accF SF)
    (hN : ∀ f H, At K f1 H1 D c2 σ2 f SF accF H → Grow K f2 H4 f H → Nx H) :
    ∃ W1 : Nat → Nat → Hp → Prop, (∃ m, W1 0 m H4) ∧ ∀ j k H, W1 j k H →
      (J1.stop j H ∧ Nx H) ∨ (J1.go j H ∧ ∃ Nx1 : Hp → Prop, (∀ H', Nx1 H' → ∃ k', k' < k ∧ W1 (j + 1) k' H') ∧ ∀ x H', J1.yld j H x H' → gOf K t1 x (wipe σ2 ow1) H' fun σ3 H5 => wipe σ3 ow1 = wipe σ2 ow1 ∧ tG K Z rB W0 tt1 σ3 H5 fun b H6 =>
        if b = true then tG K Z (rV K) W0 el σ3 H6 fun y H7 => ∃ acc, H7 D = some (.lst acc) ∧ acc.length < sizeLine ∧ Nx1 (upd H7 D (.lst (acc ++ [y]))) else Nx1 H6) := by
  refine ⟨fun j k H => ∃ f S acc', At K f1 H1 D c2 σ2 f S acc' H ∧ Grow K f2 H4 f H ∧ lc2I it1 t1 tt1 el (wipeC c2 ow1) k j acc' S = .ok accF SF, ⟨it1.cnt, f2, S2, acc, a, Grow.refl, h0⟩, ?_⟩
  rintro j k H ⟨f, S, acc', A, G, hL⟩
  have w2 := w1 f S H j G A.r
  cases q : it1.nxt j S with
  | none =>
    cases k <;> (unfold lc2I at hL; rw [q] at hL; cases hL)
  | some oo =>
    cases oo with
    | none =>
      have : accF = acc' ∧ SF = S := by
        cases k <;> (unfold lc2I at hL; rw [q] at hL; cases hL; exact ⟨rfl, rfl⟩)
      obtain ⟨rfl, rfl⟩ := this
      rw [q] at w2
      exact .inl ⟨w2, hN f H A G⟩
    | some y =>
      rw [q] at w2
      dsimp only at w2
      cases k with
      | zero => unfold lc2I at hL; rw [q] at hL; cases hL
      | succ k =>
        unfold lc2I at hL
        rw [q] at hL
        dsimp only at hL
        refine .inr ⟨w2.1, fun H => ∃ f S acc', At K f1 H1 D c2 σ2 f S acc' H ∧ Grow K f2 H4 f H ∧ lc2I it1 t1 tt1 el (wipeC c2 ow1) k (j + 1) acc' S = .ok accF SF, fun H' z => ⟨k, Nat.lt_succ_self k, z⟩, fun v H3 yl => ?_⟩
        obtain ⟨x3, r3, v3⟩ := w2.2 v H3 yl
        have A3 := A.go x3 r3
        have G3 := G.trans (x3.grow A.r)
        cases q2 : bT t1 y (wipeC c2 ow1) with
        | none => rw [q2] at hL; cases hL
        | some c3 =>
          rw [q2] at hL
          dsimp only at hL
          refine gOf_ok (wipe_ok A3.e ow1) v3 q2 fun σ3 e3 w3 => ⟨by rw [w3 ow1 ht1]; exact wipe_idem ow1 fun _ h => h, ?_⟩
          refine ⟨f, c3, S, r3, e3, ?_⟩
          cases q3 : tt1 c3 S with
          | stuck => rw [q3] at hL; cases hL
          | exn k z S => rw [q3] at hL; cases hL
          | ok b S4 =>
            rw [q3] at hL
            rintro f4 H5 b' x4 r4 rfl
            have A4 := A3.go x4 r4
            have G4 := G3.trans (x4.grow r3)
            cases b with
            | false =>
              rw [if_neg (by decide)]
              exact ⟨f4, S4, acc', A4, G4, hL⟩
            | true =>
              rw [if_pos rfl]
              dsimp only at hL
              refine ⟨f4, c3, S4, r4, e3.mono x4 r3, ?_⟩
              cases q4 : el c3 S4 with
              | stuck => rw [q4] at hL; cases hL
              | exn k z S => rw [q4] at hL; cases hL
              | ok y5 S5 =>
                rw [q4] at hL
                dsimp only at hL
                split at hL
                · rename_i hl
                  intro f5 H6 v5 x5 r5 rv5
                  have A5 := A4.go x5 r5
                  obtain ⟨vs, d5, l5, A6⟩ := A5.snoc hD rv5
                  exact ⟨vs, d5, by rw [l5]; exact hl, f5, S5, _, A6, (G4.trans (x5.grow r4)).trans (grow_off d5), hL⟩
                · cases hL
theorem lc2_outer {c : CE} {σ : L2.St} {S1 : CS} {it : It0} {J : It} {t : Tg} {own : List Nat} {tt : M Bool} {mi1 : M It0} {t1 : Tg} {ow1 : List Nat} {tt1 : M Bool} {el : M CV} {Q : Hp → Prop} {accF : List CV} {SF : CS} (r1 : Rel K f1 H1 S1) (e1 : RE K f1 H1 c σ) (w1 : Walks K f1 H1 it J)
    (ht : ∀ i ∈ slots t, i ∈ own) (ht1 : ∀ i ∈ slots t1, i ∈ ow1) (hD : H1 D = none) (h0 : lc2O it t tt mi1 t1 ow1 tt1 el (wipeC c own) it.cnt 0 [] S1 = .ok accF SF)
    (hQ : ∀ f' H', Ext f1 H1 f' H' → Rel K f' H' (SF.push (.lst accF.reverse)) → f'[SF.n]? = some D → Q H') :
    ∃ W : Nat → Nat → Hp → Prop, (∃ m, W 0 m (upd H1 D (.lst []))) ∧ ∀ i m H, W i m H →
      (J.stop i H ∧ Q H) ∨ (J.go i H ∧ ∃ Nx : Hp → Prop, (∀ H', Nx H' → ∃ m', m' < m ∧ W (i + 1) m' H') ∧ ∀ x H', J.yld i H x H' → gOf K t x (wipe σ own) H' fun σ2 H2 => wipe σ2 own = wipe σ own ∧ tG K Z rB W0 tt σ2 H2 fun b H3 =>
        if b = true then tIt K Z W0 mi1 σ2 H3 fun J1 H4 => ∃ W1 : Nat → Nat → Hp → Prop, (∃ m, W1 0 m H4) ∧ ∀ j k H, W1 j k H →
          (J1.stop j H ∧ Nx H) ∨ (J1.go j H ∧ ∃ Nx1 : Hp → Prop, (∀ H', Nx1 H' → ∃ k', k' < k ∧ W1 (j + 1) k' H') ∧ ∀ x H', J1.yld j H x H' → gOf K t1 x (wipe σ2 ow1) H' fun σ3 H5 => wipe σ3 ow1 = wipe σ2 ow1 ∧ tG K Z rB W0 tt1 σ3 H5 fun b H6 =>
            if b = true then tG K Z (rV K) W0 el σ3 H6 fun y H7 => ∃ acc, H7 D = some (.lst acc) ∧ acc.length < sizeLine ∧ Nx1 (upd H7 D (.lst (acc ++ [y]))) else Nx1 H6)
        else Nx H3) := by
  refine ⟨fun i m H => ∃ f S acc, At K f1 H1 D (wipeC c own) (wipe σ own) f S acc H ∧ lc2O it t tt mi1 t1 ow1 tt1 el (wipeC c own) m i acc S = .ok accF SF, ⟨it.cnt, f1, S1, [], ⟨r1.beside hD, (wipe_ok e1 own).mono (Ext.beside r1 hD) r1, Ext.beside r1 hD, fun h => ?_, [], upd_same, .nil⟩, h0⟩, ?_⟩
  · obtain ⟨u, h1, _⟩ := r1.mem h
    rw [hD] at h1
    cases h1
  · rintro i m H ⟨f, S, acc, A, hL⟩
    have w2 := w1 f S H i (A.x.grow r1) A.r
    cases q : it.nxt i S with
    | none =>
      cases m <;> (unfold lc2O at hL; rw [q] at hL; cases hL)
    | some oo =>
      cases oo with
      | none =>
        have : accF = acc ∧ SF = S := by
          cases m <;> (unfold lc2O at hL; rw [q] at hL; cases hL; exact ⟨rfl, rfl⟩)
        obtain ⟨rfl, rfl⟩ := this
        rw [q] at w2
        obtain ⟨vs, d, ra⟩ := A.d
        refine .inl ⟨w2, hQ (f ++ [D]) H (A.x.adopt hD d) (A.r.adopt A.nf d (.lst ra)) ?_⟩
        rw [← A.r.len]
        simp
      | some y =>
        rw [q] at w2
        dsimp only at w2
        cases m with
        | zero => unfold lc2O at hL; rw [q] at hL; cases hL
        | succ m =>
          unfold lc2O at hL
          rw [q] at hL
          dsimp only at hL
          refine .inr ⟨w2.1, fun H => ∃ f S acc, At K f1 H1 D (wipeC c own) (wipe σ own) f S acc H ∧ lc2O it t tt mi1 t1 ow1 tt1 el (wipeC c own) m (i + 1) acc S = .ok accF SF, fun H' z => ⟨m, Nat.lt_succ_self m, z⟩, fun v H3 yl => ?_⟩
          obtain ⟨x3, r3, v3⟩ := w2.2 v H3 yl
          have A3 := A.go x3 r3
          cases q2 : bT t y (wipeC c own) with
          | none => rw [q2] at hL; cases hL
          | some c3 =>
            rw [q2] at hL
            dsimp only at hL
            refine gOf_ok A3.e v3 q2 fun σ3 e3 w3 => ⟨by rw [w3 own ht]; exact wipe_idem own fun _ h => h, ?_⟩
            refine ⟨f, c3, S, r3, e3, ?_⟩
            cases q3 : tt c3 S with
            | stuck => rw [q3] at hL; cases hL
            | exn k z S => rw [q3] at hL; cases hL
            | ok b S4 =>
              rw [q3] at hL
              rintro f4 H4 b' x4 r4 rfl
              have A4 := A3.go x4 r4
              cases b with
              | false =>
                rw [if_neg (by decide)]
                exact ⟨f4, S4, acc, A4, hL⟩
              | true =>
                rw [if_pos rfl]
                dsimp only at hL
                refine ⟨f4, c3, S4, r4, e3.mono x4 r3, ?_⟩
                cases q4 : mi1 c3 S4 with
                | stuck => rw [q4] at hL; cases hL
                | exn k z S => rw [q4] at hL; cases hL
                | ok it1 S5 =>
                  rw [q4] at hL
                  dsimp only at hL
                  intro f5 H5 J1 x5 r5 w5
                  have A5 := (A4.go x5 r5).env (c' := c3) (σ' := σ3) ((e3.mono x4 r3).mono x5 r4)
                  cases q5 : lc2I it1 t1 tt1 el (wipeC c3 ow1) it1.cnt 0 acc S5 with
                  | stuck => rw [q5] at hL; cases hL
                  | exn k z S => rw [q5] at hL; cases hL
                  | ok acc' S6 =>
                    rw [q5] at hL
                    dsimp only at hL
                    refine lc2_inner hD A5 w5 ht1 q5 fun f6 H6 A6 G6 => ⟨f6, S6, acc', A6.env ?_, hL⟩
                    obtain ⟨l, h⟩ := A4.e
                    refine ⟨l, fun i x hx => ?_⟩
                    obtain ⟨v', g1, g2⟩ := h i x hx
                    exact ⟨v', g1, (g2.mono x5 r4).grow G6⟩
theorem eLc2_split {W : WX} {mi mi1 : M It0} {t t1 : Tg} {own ow1 : List Nat} {tt tt1 : M Bool} {el : M CV} {σ : L2.St} {H : Hp} {Q : VK} (ht : ∀ i ∈ slots t, i ∈ own) (ht1 : ∀ i ∈ slots t1, i ∈ ow1) (h : tG K Z (rV K) W (eLc2 mi t own tt mi1 t1 ow1 tt1 el) σ H Q) :
    tLc2 (tIt K Z W mi) (gOf K t) (tG K Z rB W0 tt) (tIt K Z W0 mi1) (gOf K t1) (tG K Z rB W0 tt1) (tG K Z (rV K) W0 el) own ow1 σ H Q := by
  refine (tG.bind (R1 := Walks K) h).mono ?_
  rintro J H1 ⟨f1, c, S1, it, r1, e1, w1, h1⟩
  intro D hD
  cases q : lc2O it t tt mi1 t1 ow1 tt1 el (wipeC c own) it.cnt 0 [] S1 with
  | ok accF SF =>
    rw [q] at h1
    exact lc2_outer r1 e1 w1 ht ht1 hD q fun f' H' x r g => h1 f' H' (.ref D) x r (.ref g)
  | exn k z S => rw [q] at h1; exact h1.elim
  | stuck => rw [q] at h1; exact h1.elim
end
section
variable {X : Cx} {Z : ExI} {W : WX} {tg iter tg1 iter1 elt : Expr} {ifs ifs1 : List Expr} {pos : Pos}
theorem me_lc2 {scope : Scope} {own : List (Str × Nat)} {ow vs1 : List Nat} {mi mi1 : M It0} {t t1 : Tg} {tt tt1 : M Bool} {el : M CV} (hc : X.calm = true) (hN : X.N.Nodup) (hi : MI X Z W tg iter mi) (ok : BlkOk X.N X.env.scope scope own) (how : own.map (·.2) = ow) (hv : ∀ i ∈ vs1, i ∈ ow) (ht : ∀ i ∈ slots t, i ∈ ow) (ht1 : ∀ i ∈ slots t1, i ∈ vs1)
    (hg : ∀ (s : Shared) (H : Hp) (C : Addr) (cl : List (Str × Addr)) (fp : List Addr), MTg (X.blk s H scope (compEnvC scope cl C X.env) fp) tg t) (hts : ∀ (s : Shared) (H : Hp) (C : Addr) (cl : List (Str × Addr)) (fp : List Addr), MTt (X.blk s H scope (compEnvC scope cl C X.env) fp) Z W0 ifs tt)
    (hi1 : ∀ (s : Shared) (H : Hp) (C : Addr) (cl : List (Str × Addr)) (fp : List Addr), MI (X.blk s H scope (compEnvC scope cl C X.env) fp) Z W0 tg1 iter1 mi1)
    (hg1 : ∀ (s : Shared) (H : Hp) (C : Addr) (cl : List (Str × Addr)) (fp : List Addr), MTg (X.blk s H scope (compEnvC scope cl C X.env) fp) tg1 t1) (hts1 : ∀ (s : Shared) (H : Hp) (C : Addr) (cl : List (Str × Addr)) (fp : List Addr), MTt (X.blk s H scope (compEnvC scope cl C X.env) fp) Z W0 ifs1 tt1)
    (he : ∀ (s : Shared) (H : Hp) (C : Addr) (cl : List (Str × Addr)) (fp : List Addr), ME (X.blk s H scope (compEnvC scope cl C X.env) fp) Z W0 elt el) (hs : ∀ x, foldedSetIterable iter X.env x = pure x := by intro _; rfl) (hs1 : ∀ env x, foldedSetIterable iter1 env x = pure x := by intro _ _; rfl) :
    ME X Z W (.ListComp elt [⟨tg, iter, ifs, 0⟩, ⟨tg1, iter1, ifs1, 0⟩] scope pos) (eLc2 mi t ow tt mi1 t1 vs1 tt1 el) := by
  subst how
  exact (pe_lc2 hc hN hi ok hv hg hts hi1 hg1 hts1 he hs hs1).imp fun σ H Q h => eLc2_split ht ht1 h
theorem ms_setLc2 {i : Nat} {y : Str} {py spos : Pos} {scope : Scope} {own : List (Str × Nat)} {ow vs1 : List Nat} {mi mi1 : M It0} {t t1 : Tg} {tt tt1 : M Bool} {el : M CV} (hc : X.calm = true) (hN : X.N.Nodup) (hy : X.N[i]? = some y) (hyl : X.env.scope.names.lookup y = some .local)
    (hsw : swapsWith (.ListComp elt [⟨tg, iter, ifs, 0⟩, ⟨tg1, iter1, ifs1, 0⟩] scope pos) (some (.Name y py)) spos.line X.env = pure true) (hi : MI X Z W tg iter mi) (ok : BlkOk X.N X.env.scope scope own) (how : own.map (·.2) = ow) (hv : ∀ i ∈ vs1, i ∈ ow) (ht : ∀ i ∈ slots t, i ∈ ow) (ht1 : ∀ i ∈ slots t1, i ∈ vs1)
    (hg : ∀ (s : Shared) (H : Hp) (C : Addr) (cl : List (Str × Addr)) (fp : List Addr), MTg (X.blk s H scope (compEnvC scope cl C X.env) fp) tg t) (hts : ∀ (s : Shared) (H : Hp) (C : Addr) (cl : List (Str × Addr)) (fp : List Addr), MTt (X.blk s H scope (compEnvC scope cl C X.env) fp) Z W0 ifs tt)
    (hi1 : ∀ (s : Shared) (H : Hp) (C : Addr) (cl : List (Str × Addr)) (fp : List Addr), MI (X.blk s H scope (compEnvC scope cl C X.env) fp) Z W0 tg1 iter1 mi1)
    (hg1 : ∀ (s : Shared) (H : Hp) (C : Addr) (cl : List (Str × Addr)) (fp : List Addr), MTg (X.blk s H scope (compEnvC scope cl C X.env) fp) tg1 t1) (hts1 : ∀ (s : Shared) (H : Hp) (C : Addr) (cl : List (Str × Addr)) (fp : List Addr), MTt (X.blk s H scope (compEnvC scope cl C X.env) fp) Z W0 ifs1 tt1)
    (he : ∀ (s : Shared) (H : Hp) (C : Addr) (cl : List (Str × Addr)) (fp : List Addr), ME (X.blk s H scope (compEnvC scope cl C X.env) fp) Z W0 elt el) (hs : ∀ x, foldedSetIterable iter X.env x = pure x := by intro _; rfl) (hs1 : ∀ env x, foldedSetIterable iter1 env x = pure x := by intro _ _; rfl) :
    MSt X Z W (.Assign [.Name y py] (.ListComp elt [⟨tg, iter, ifs, 0⟩, ⟨tg1, iter1, ifs1, 0⟩] scope pos) spos) (sAsg (eLc2 mi t ow tt mi1 t1 vs1 tt1 el) (gN i)) := by
  subst how
  exact (ps_setLc2 hc hN hy hyl hsw hi ok hv hg hts hi1 hg1 hts1 he hs hs1).imp fun D σ H h => by
    refine eLc2_split (Q := fun x H1 => gName i x σ H1 D.nx) ht ht1 (TH.tG.mono (asg_split h) ?_)
    rintro v H1 ⟨f, c, S, x, r, e, rx, h⟩
    exact h f H1 _ (Ext.refl r) r (e.set rx)
end
end TH
-- part C11
namespace TH
open PySem PySem.Spec PyProof.Rows L2

/-! ## dicts whose keys are tuples of whole numbers and truth values: by values -/
def numV : List V → Option (List Int)
  | [] => some []
  | .int i :: l => match numV l with
    | some k => some (i :: k)
    | none => none
  | .bl b :: l => match numV l with
    | some k => some ((if b = true then 1 else 0) :: k)
    | none => none
  | _ => none
theorem RVs.num {K : PySem.W.Frag} {f : List Addr} {H : Hp} : ∀ {kl : List CV} {us : List V} {ks : List Int}, RVs K f H kl us → numL kl = some ks → numV us = some ks
  | [], _, _, .nil, e => by simpa [numL, numV] using e
  | x :: kl, _, ks, .cons r t, e => by
    cases r with
    | int i =>
      simp only [numL] at e
      cases q : numL kl with
      | none => rw [q] at e; cases e
      | some k =>
        rw [q] at e
        cases e
        simp only [numV, RVs.num t q]
    | bl b =>
      simp only [numL] at e
      cases q : numL kl with
      | none => rw [q] at e; cases e
      | some k =>
        rw [q] at e
        cases e
        simp only [numV, RVs.num t q]
    | _ => simp [numL] at e
def lf (x : List Int × Addr × Value) : List Leaf × Addr × Value := (x.1.map Leaf.num, x.2)
abbrev TV (K : PySem.W.Frag) (H : Hp) : List (List Int × V) → List (List Int × Addr × Value) → Prop := Paired fun p q => p.1 = q.1 ∧ (∃ us, SqT K H q.2.1 us ∧ numV us = some q.1) ∧ RelV p.2 q.2.2
theorem leaf_hash {P : Program} {w : World} (i : Int) : (leafKind P w).hash (.num i) = hashInt i := rfl
theorem lf_hash {P : Program} {w : World} (ks : List Int) : (tupleKind (leafKind P w)).hash (ks.map Leaf.num) = numHash ks := by
  show reduceHash (Builtin.Tuple.tupleHashOf ((ks.map Leaf.num).map (leafKind P w).hash)) = _
  rw [List.map_map]
  rfl
theorem key_items {P : Program} {w : World} : ∀ {us : List V} {ks : List Int} {its : List Value}, numV us = some ks → Vals us its → ItemsAre (leafKind P w) (ks.map Leaf.num) its
  | [], _, _, e, r => by
    cases r
    cases e
    exact .nil
  | x :: us, ks, _, e, r => by
    cases r with
    | cons h t =>
      cases x with
      | int i =>
        simp only [numV] at e
        cases q : numV us with
        | none => rw [q] at e; cases e
        | some k =>
          rw [q] at e
          cases e
          obtain ⟨u, rfl⟩ := (show ∃ u, _ = Value.int i u from h)
          exact .cons (decide_eq_true rfl) (key_items q t)
      | bl b =>
        simp only [numV] at e
        cases q : numV us with
        | none => rw [q] at e; cases e
        | some k =>
          rw [q] at e
          cases e
          cases (show _ = Value.bool b from h)
          exact .cons (by cases b <;> rfl) (key_items q t)
      | _ => simp [numV] at e
section
variable {X : Cx} {pins : List (Addr × Obj)} {σ : L2.St} {H H' : Hp} {s : Shared} {a b : Addr} {us : List V} {ks : List Int} {l : List (List Int × V)} {xs : List (List Int × Addr × Value)} {v : V} {u : Value}
theorem key_tup (I : Inv X pins σ H s) (h : SqT X.K H b us) (n : numV us = some ks) : (tupleKind (leafKind X.prog X.w)).is s.heap (ks.map Leaf.num) b := by
  obtain ⟨its, r, ⟨o, e, hc, m, hd⟩, _⟩ := I.tuple h
  exact ⟨o, its.toArray, m, e, hc, hd, by simpa using key_items n r⟩
theorem num_inj {x y : List Int} (h : x.map Leaf.num = y.map Leaf.num) : x = y := by
  induction x generalizing y with
  | nil => cases y with
    | nil => rfl
    | cons _ _ => cases h
  | cons a x ih => cases y with
    | nil => cases h
    | cons b y =>
      simp only [List.map_cons, List.cons.injEq, Leaf.num.injEq] at h
      rw [h.1, ih h.2]
theorem lf_nodup {xs : List (List Int × Addr × Value)} (h : (xs.map (·.1)).Nodup) : ((xs.map lf).map (·.1)).Nodup := by
  rw [List.map_map]
  have : (xs.map ((·.1) ∘ lf)) = (xs.map (·.1)).map (List.map Leaf.num) := by rw [List.map_map]; rfl
  rw [this]
  exact List.Pairwise.map _ (fun x y n e => n (num_inj e)) h
theorem lf_nodup' {xs : List (List Int × Addr × Value)} (h : ((xs.map lf).map (·.1)).Nodup) : (xs.map (·.1)).Nodup := by
  rw [List.map_map] at h
  have e : (xs.map ((·.1) ∘ lf)) = (xs.map (·.1)).map (List.map Leaf.num) := by rw [List.map_map]; rfl
  rw [e] at h
  exact (List.pairwise_map.mp h).imp fun n e => n (by rw [e])
theorem lf_entry {P : Program} {w : World} (xs : List (List Int × Addr × Value)) : (xs.map lf).map (entryOfKey (tupleKind (leafKind P w))) = xs.map fun x => (⟨numHash x.1, .ref x.2.1, x.2.2⟩ : DictEntry) := by
  rw [List.map_map]
  refine List.map_congr_left fun x _ => ?_
  show (⟨(tupleKind (leafKind P w)).hash (x.1.map Leaf.num), _, _⟩ : DictEntry) = _
  rw [lf_hash]
  rfl
theorem dit_rd (I : Inv X pins σ H s) (e : H a = some (dicO a xs)) (t : TV X.K H l xs) : xs.length ≤ sizeLine ∧ (a == sysModules) = false ∧ (xs.map (·.1)).Nodup ∧ s.heap.DictOfH (tupleKind (leafKind X.prog X.w)) a (xs.map lf) := by
  obtain ⟨⟨hd, hz, hn, o, es, ep, h1, h2, h3, h4⟩, _⟩ := (show ObjOk X.prog X.w H s.heap a (dicO a xs) from I.hok a _ e)
  refine ⟨hz, hd, hn, o, es, ep, h1, h2, h3, by rw [lf_entry]; exact h4, fun x hx => ?_, lf_nodup hn⟩
  obtain ⟨y, hy, rfl⟩ := List.mem_map.mp hx
  have all : ∀ {l : List (List Int × V)} {m : List (List Int × Addr × Value)}, TV X.K H l m → ∀ y ∈ m, ∃ us, SqT X.K H y.2.1 us ∧ numV us = some y.1 := by
    intro l m q
    induction q with
    | nil => intro x hx; exact nomatch hx
    | @cons p q ps qs hq t ih =>
      intro x hx
      rcases List.mem_cons.mp hx with e | hx
      · subst e
        exact hq.2.1
      · exact ih x hx
  obtain ⟨us, h, n⟩ := all t y hy
  exact key_tup I h n
theorem dit_ok {P : Program} {w : World} {H' : Hp} {h' : Heap} (hd : (a == sysModules) = false) (hz : xs.length ≤ sizeLine) (dd : h'.DictOfH (tupleKind (leafKind P w)) a (xs.map lf)) : ObjOk P w H' h' a (dicO a xs) := by
  obtain ⟨o, es, ep, h1, h2, h3, h4, _, h5⟩ := dd
  refine ⟨⟨hd, hz, lf_nodup' h5, o, es, ep, h1, h2, h3, by rw [← lf_entry (P := P) (w := w)]; exact h4⟩, ⟨o, h1⟩, ?_⟩
  rintro g1 g2 ⟨hd, hz, hn, o, es, ep, h1, h2, h3, h4⟩ k
  exact ⟨hd, hz, hn, o, es, ep, k o h1, h2, h3, h4⟩
theorem lf_at (ks : List Int) : ∀ (xs : List (List Int × Addr × Value)), atKey (xs.map lf) (ks.map Leaf.num) = atKey xs ks
  | [] => rfl
  | x :: xs => by
    have ih := lf_at ks xs
    unfold atKey at ih ⊢
    rw [List.map_cons, List.find?_cons, List.find?_cons]
    by_cases h : x.1 = ks
    · have a : (decide ((lf x).1 = ks.map Leaf.num)) = true := decide_eq_true (by unfold lf; rw [h])
      have b : (decide (x.1 = ks)) = true := decide_eq_true h
      rw [a, b]
      rfl
    · have a : (decide ((lf x).1 = ks.map Leaf.num)) = false := decide_eq_false fun z => h (num_inj z)
      have b : (decide (x.1 = ks)) = false := decide_eq_false h
      rw [a, b]
      exact ih
theorem lf_put (ks : List Int) (b : Addr) (u : Value) (xs : List (List Int × Addr × Value)) : storedH (xs.map lf) (ks.map Leaf.num) b u = (storedH xs ks b u).map lf := by
  unfold storedH
  rw [lf_at]
  by_cases h : (atKey xs ks).isSome = true
  · rw [if_pos h, if_pos h, List.map_map, List.map_map]
    refine List.map_congr_left fun x _ => ?_
    show putAt _ _ (lf x) = lf (putAt _ _ x)
    unfold putAt
    by_cases e : x.1 = ks
    · rw [if_pos e, if_pos (show (lf x).1 = _ by unfold lf; rw [e])]
      rfl
    · rw [if_neg e, if_neg (show ¬ (lf x).1 = _ from fun z => e (num_inj z))]
  · rw [if_neg h, if_neg h, List.map_append]
    rfl
theorem TV.val {K : PySem.W.Frag} (r : TV K H l xs) (k : List Int) : RelO (valV l k) ((atKey xs k).map (·.2)) := by
  induction r with
  | nil => exact True.intro
  | @cons p q ps qs h t ih =>
    obtain ⟨h1, _, h2⟩ := h
    by_cases e : p.1 = k
    · have e' : q.1 = k := h1.symm.trans e
      have b : atKey (q :: qs) k = some q.2 := by simp [atKey, List.find?_cons, e']
      rw [valV_pos e, b]; exact h2
    · have e' : ¬ q.1 = k := fun z => e (h1.trans z)
      have b : atKey (q :: qs) k = atKey qs k := by simp [atKey, List.find?_cons, e']
      rw [valV_neg e, b]; exact ih
theorem TV.len {K : PySem.W.Frag} (r : TV K H l xs) : l.length = xs.length := Paired.length r
/-! the readings -/
/-- what the dict at a holds at the key y -/
def TGet (K : PySem.W.Frag) (H : Hp) (a : Addr) (y : V) (r : Option V) : Prop := ∃ l xs us ks b, H a = some (dicO a xs) ∧ TV K H l xs ∧ y = .ref b ∧ SqT K H b us ∧ numV us = some ks ∧ r = valV l ks
def rIxDT (K : PySem.W.Frag) : R2 := fun x y H Q => ∃ a v, x = .ref a ∧ TGet K H a y (some v) ∧ Q v H
def rInDT (K : PySem.W.Frag) (neg : Bool) : R2 := fun y x H Q => ∃ a o, x = .ref a ∧ TGet K H a y o ∧ Q (.bl (xor neg o.isSome)) H
def rSetDT (K : PySem.W.Frag) : TSet := fun x y z H Q => ∃ a xs l us ks b, x = .ref a ∧ H a = some (dicO a xs) ∧ TV K H l xs ∧ y = .ref b ∧ SqT K H b us ∧ numV us = some ks ∧ xs.length < sizeLine ∧ ∀ u, RelV z u → Q (upd H a (dicO a (storedH xs ks b u)))
end
section
variable {X : Cx}
theorem ix_dT (hu : X.A.units + 1 < cLine) : IxR X (rIxDT X.K) := by
  intro value slice pins s σ H x y v u Q I rx ry h hs
  obtain ⟨a, r, rfl, ⟨l, xs, us, ks, b, e, t, rfl, hq, hn, hv⟩, q⟩ := h
  obtain rfl : v = Value.ref a := rx
  obtain rfl : u = Value.ref b := ry
  obtain ⟨z, hd, _, dd⟩ := dit_rd I e t
  obtain ⟨w', hw, rw'⟩ := RelO.some_of (v := r) (o := (atKey xs ks).map (·.2)) (by rw [hv]; exact t.val ks)
  obtain ⟨p, hp, hp2⟩ := Option.map_eq_some_iff.mp hw
  refine tail_any dd.typeIs PySem.F.slot_dict_getitem.lookup (wpAny_getItem_heap (tupleKind_room_in1 hu) (key_tup I hq hn) dd (p := p) (by rw [lf_at]; exact hp) ⟨r, H, I.tok _, by rw [hp2]; exact rw', q⟩) hs
theorem op_inDT (hu : X.A.units + 1 < cLine) : OpR X (compareOp .In) (rInDT X.K false) := by
  intro pins s σ H x y v u Q I rx ry h
  obtain ⟨a, o, rfl, ⟨l, xs, us, ks, b, e, t, rfl, hq, hn, rfl⟩, q⟩ := h
  obtain rfl : u = Value.ref a := ry
  obtain rfl : v = Value.ref b := rx
  obtain ⟨z, hd, _, dd⟩ := dit_rd I e t
  refine wpAny_in_heap (tupleKind_room_in1 hu) (key_tup I hq hn) hd dd ?_
  have k := (t.val ks).isSome_eq
  rw [Option.isSome_map] at k
  rw [lf_at, ← k]
  exact ⟨.bl (valV l ks).isSome, H, I.tok _, rfl, by simpa using q⟩
theorem op_notinDT (hu : X.A.units + 1 < cLine) : OpR X (compareOp .NotIn) (rInDT X.K true) := by
  intro pins s σ H x y v u Q I rx ry h
  obtain ⟨a, o, rfl, ⟨l, xs, us, ks, b, e, t, rfl, hq, hn, rfl⟩, q⟩ := h
  obtain rfl : u = Value.ref a := ry
  obtain rfl : v = Value.ref b := rx
  obtain ⟨z, hd, _, dd⟩ := dit_rd I e t
  refine wpAny_notIn_heap (tupleKind_room_in1 hu) (key_tup I hq hn) hd dd ?_
  have k := (t.val ks).isSome_eq
  rw [Option.isSome_map] at k
  rw [lf_at, ← k]
  exact ⟨.bl (!(valV l ks).isSome), H, I.tok _, rfl, by simpa using q⟩
theorem set_dT (hu : X.A.units + 1 < cLine) : PSet X (rSetDT X.K) := by
  intro pins s σ H o i v ov iv u Q I ro ri rv h
  obtain ⟨a, xs, l, us, ks, b, rfl, e, t, rfl, hq, hn, hl, q⟩ := h
  obtain rfl : ov = Value.ref a := ro
  obtain rfl : iv = Value.ref b := ri
  obtain ⟨z, hd, _, dd⟩ := dit_rd I e t
  refine wpAny_setItem_heap (hsz := by rw [List.length_map]; exact z) (tupleKind_room_in1 hu) (key_tup I hq hn) dd fun h' dd' hs => ⟨_, ?_, q u rv⟩
  rw [lf_put] at dd'
  have hlen : (storedH xs ks b u).length ≤ sizeLine := by
    unfold storedH
    split
    · rw [List.length_map]; exact z
    · rw [List.length_append]; simp only [List.length_cons, List.length_nil]; omega
  have he : ∃ q, h'.get? a = some q := let ⟨q, _, _, hq, _⟩ := dd'; ⟨q, hq⟩
  exact d_write I (by rw [e]; exact True.intro) hs he (dit_ok hd hlen dd')
theorem pe_dnewDT {pos : Pos} : PE X (.Dict [] [] pos) (fun _ H Q => ∀ p, H p = none → Q (.ref p) (upd H p (dicO p []))) := ⟨fun pins s σ H Q I h =>
  wpAny_Dict_empty ⟨.ref s.heap.objs.size, _, I.laid (a := s.heap.objs.size) (o := dicO _ []) (t' := s.toks) (fun _ _ q => Heap.get?_push_of_some _ q) (Nat.le_refl _)
    (dit_ok (beq_eq_false_iff_ne.mpr (Ne.symm (Nat.ne_of_lt I.big))) (Nat.zero_le _) (Heap.DictOfH.new s.heap)), rfl, h _ (I.hok.fresh (Nat.le_refl _))⟩⟩
end
end TH
-- part C12
namespace TH
open PySem PySem.Spec PyProof.Rows L2
/-! ## sorting -/
section
variable {α : Type}
def insS (le : α → α → Bool) (x : α) : List α → List α
  | [] => [x]
  | y :: l => if le x y then x :: y :: l else y :: insS le x l
def srt (le : α → α → Bool) : List α → List α
  | [] => []
  | x :: l => insS le x (srt le l)
variable {le : α → α → Bool}
theorem insS_mem (x z : α) : ∀ l : List α, z ∈ insS le x l ↔ z = x ∨ z ∈ l
  | [] => by simp [insS]
  | y :: l => by
    unfold insS
    split
    · simp
    · simp only [List.mem_cons, insS_mem x z l]
      constructor
      · rintro (h | h | h) <;> simp [h]
      · rintro (h | h | h) <;> simp [h]
theorem insS_pw (h : PySem.W.TotalLe le) (x : α) : ∀ l : List α, l.Pairwise (fun a b => le a b = true) → (insS le x l).Pairwise (fun a b => le a b = true)
  | [], _ => by simp [insS]
  | y :: l, hp => by
    unfold insS
    obtain ⟨h1, h2⟩ := List.pairwise_cons.mp hp
    split
    · rename_i hxy
      refine List.pairwise_cons.mpr ⟨fun z hz => ?_, hp⟩
      rcases List.mem_cons.mp hz with rfl | hz
      · exact hxy
      · exact h.trans _ _ _ hxy (h1 z hz)
    · rename_i hxy
      refine List.pairwise_cons.mpr ⟨fun z hz => ?_, insS_pw h x l h2⟩
      rcases (insS_mem x z l).mp hz with rfl | hz
      · exact (h.total z y).resolve_left hxy
      · exact h1 z hz
theorem srt_pw (h : PySem.W.TotalLe le) : ∀ l : List α, (srt le l).Pairwise (fun a b => le a b = true)
  | [] => .nil
  | x :: l => insS_pw h x _ (srt_pw h l)
theorem insS_rank (h : PySem.W.TotalLe le) (c x : α) : ∀ l : List α, (insS le x l).filter (PySem.W.sameRank le c) = (x :: l).filter (PySem.W.sameRank le c)
  | [] => rfl
  | y :: l => by
    unfold insS
    split
    · rfl
    · rename_i hxy
      rw [List.filter_cons, insS_rank h c x l]
      by_cases hx : PySem.W.sameRank le c x = true
      · have hy : ¬ PySem.W.sameRank le c y = true := fun hy => by
          unfold PySem.W.sameRank at hx hy
          simp only [Bool.and_eq_true] at hx hy
          exact hxy (h.trans _ _ _ hx.2 hy.1)
        simp [List.filter_cons, hx, hy]
      · simp [List.filter_cons, hx]
theorem srt_rank (h : PySem.W.TotalLe le) (c : α) : ∀ l : List α, (srt le l).filter (PySem.W.sameRank le c) = l.filter (PySem.W.sameRank le c)
  | [] => rfl
  | x :: l => by
    unfold srt
    rw [insS_rank h, List.filter_cons, List.filter_cons, srt_rank h c l]
theorem srt_eq (h : PySem.W.TotalLe le) (l : List α) : srt le l = l.mergeSort le := PySem.W.sort_unique h (srt_pw h l) (srt_rank h · l)
end
theorem dataLe_total {β : Type} (b : Bool) (k : β → PyData) : PySem.W.TotalLe (PySem.W.dataLe b k) := PySem.W.sortLe_total _ _ _
/-! ## by values -/
abbrev dLe {β : Type} : β × PyData → β × PyData → Bool := PySem.W.dataLe false Prod.snd
def sortV (vs : List V) (ds : List PyData) : List V := (srt dLe (vs.zip ds)).map Prod.fst
def okSort (ds : List PyData) : Bool := (ds.all fun d => ds.all fun d' => PySem.W.alike d d') && ((ds.all fun d => match d with | .tuple (_ :: _) => true | _ => false) || ds.all fun d => match d with | .none => false | .tuple _ => false | _ => true) && (ds.all fun d => decide (d.depth ≤ 40))
theorem okSort_ok {ds : List PyData} (h : okSort ds = true) : PySem.W.AllAlike ds ∧ PySem.W.Sortable ds ∧ ∀ d ∈ ds, d.depth ≤ 40 := by
  unfold okSort at h
  simp only [Bool.and_eq_true, Bool.or_eq_true, List.all_eq_true, decide_eq_true_eq] at h
  obtain ⟨⟨h1, h2⟩, h3⟩ := h
  refine ⟨fun d hd d' hd' => h1 d hd d' hd', ?_, h3⟩
  rcases h2 with h2 | h2
  · left
    intro d hd
    have := h2 d hd
    split at this
    · exact ⟨_, _, rfl⟩
    · cases this
  · right
    intro d hd
    have := h2 d hd
    split at this
    · cases this
    · cases this
    · rename_i n1 n2
      exact ⟨n1, fun xs e => n2 xs e⟩
def rSortedV (K : PySem.W.Frag) : List V → Hp → VK → Prop := fun vs H Q => ∃ (a : Addr) (xs : List V) (ds : List PyData), vs = [V.ref a] ∧ SqL K H a xs ∧ DpAll K H xs ds ∧ okSort ds = true ∧
  ∀ p, H p = none → Q (.ref p) (upd H p (.lst (sortV xs ds)))
def rSortedDT (K : PySem.W.Frag) : List V → Hp → VK → Prop := fun vs H Q => ∃ (a : Addr) (l : List (List Int × V)) (xs : List (List Int × Addr × Value)) (ds : List PyData), vs = [V.ref a] ∧ H a = some (dicO a xs) ∧ TV K H l xs ∧
  DpAll K H (xs.map fun x => V.ref x.2.1) ds ∧ okSort ds = true ∧ ∀ p, H p = none → Q (.ref p) (upd H p (.lst (sortV (xs.map fun x => V.ref x.2.1) ds)))
def rListDT (K : PySem.W.Frag) : List V → Hp → VK → Prop := fun vs H Q => ∃ (a : Addr) (l : List (List Int × V)) (xs : List (List Int × Addr × Value)), vs = [V.ref a] ∧ H a = some (dicO a xs) ∧ TV K H l xs ∧
  ∀ p, H p = none → Q (.ref p) (upd H p (.lst (xs.map fun x => V.ref x.2.1)))
def rLenDT (K : PySem.W.Frag) : List V → Hp → VK → Prop := fun vs H Q => ∃ (a : Addr) (l : List (List Int × V)) (xs : List (List Int × Addr × Value)), vs = [V.ref a] ∧ H a = some (dicO a xs) ∧ TV K H l xs ∧ Q (.int ((xs.length : Nat) : Int)) H
theorem DpAll.len {K : PySem.W.Frag} {H : Hp} : ∀ {vs : List V} {ds : List PyData}, DpAll K H vs ds → vs.length = ds.length
  | _, _, .nil => rfl
  | _, _, .cons _ t => by rw [List.length_cons, List.length_cons, DpAll.len t]
theorem each_RelV : ∀ {vs : List V} {ds : List PyData} {us : List Value}, vs.length = ds.length → Vals vs us → PySem.W.EachIs (fun (u : Value) (b : V × PyData) => RelV b.1 u) us (vs.zip ds)
  | [], _, _, _, r => by
    cases r
    exact .nil
  | v :: vs, [], _, h, _ => by cases h
  | v :: vs, d :: ds, _, h, r => by
    cases r with
    | cons a b => exact .cons a (each_RelV (by simpa using h) b)
theorem each_vals : ∀ {bs : List (V × PyData)} {us : List Value}, PySem.W.EachIs (fun (u : Value) (b : V × PyData) => RelV b.1 u) us bs → Vals (bs.map Prod.fst) us
  | _, _, .nil => .nil
  | _, _, .cons a t => .cons a (each_vals t)
theorem zip_snd {α β : Type} : ∀ {l : List α} {k : List β}, l.length = k.length → (l.zip k).map Prod.snd = k
  | [], [], _ => rfl
  | [], _ :: _, h => by cases h
  | _ :: _, [], h => by cases h
  | a :: l, b :: k, h => by
    simp only [List.zip_cons_cons, List.map_cons]
    rw [zip_snd (by simpa using h)]
theorem sortV_len (vs : List V) (ds : List PyData) (h : vs.length = ds.length) : (sortV vs ds).length = vs.length := by
  unfold sortV
  rw [List.length_map, srt_eq (dataLe_total _ _), List.length_mergeSort, List.length_zip, h, Nat.min_self]
section
variable {X : Cx} {pins : List (Addr × Obj)} {σ : L2.St} {H : Hp} {s : Shared}
theorem each_reads (I : Inv X pins σ H s) : ∀ {vs : List V} {ds : List PyData} {us : List Value}, DpAll X.K H vs ds → Vals vs us → PySem.W.EachIs (fun (u : Value) (b : V × PyData) => ∃ as, Reads s.heap u b.2 as) us (vs.zip ds)
  | _, _, _, .nil, .nil => .nil
  | _, _, _, .cons h t, .cons r rt => .cons (Dp.reads I _ _ _ h r) (each_reads I t rt)
theorem cr_sortedV (hu : X.A.units + 64 < cLine) : CallR X (.builtin "sorted") (rSortedV X.K) := by
  intro pins s σ H vs us Q I r h
  obtain ⟨a, xs, ds, rfl, hs, hd, hk, q⟩ := h
  obtain ⟨its, rv, hl, hz⟩ := I.list hs
  rw [Vals.ref1 r]
  obtain ⟨k1, k2, k3⟩ := okSort_ok hk
  have hlen := DpAll.len hd
  have hm : (xs.zip ds).map Prod.snd = ds := zip_snd hlen
  refine PySem.W.sorted_data (enc := Prod.snd) (bs := xs.zip ds) (R := fun (u : Value) (b : V × PyData) => RelV b.1 u) hl.isList (each_RelV hlen rv) (each_reads I hd rv) (by rw [hm]; exact k1) (by rw [hm]; exact k2) (by rw [List.length_zip]; omega) (fun b hb => ?_) fun out ho he => ?_
  · have : b.2 ∈ ds := by
      rw [← hm]
      exact List.mem_map_of_mem hb
    have := k3 _ this
    omega
  · obtain ⟨ep, he'⟩ := PyProof.Rows.sortedAll_at s.heap its out.toArray
    have hv : Vals (sortV xs ds) out := by
      unfold sortV
      rw [srt_eq (dataLe_total _ _)]
      exact each_vals he
    exact ⟨.ref _, upd H (s.heap.objs.size + 1) (.lst (sortV xs ds)), I.laid (t' := s.toks) (fun _ _ => PyProof.Rows.sortedAll_old) (Nat.le_succ _) ⟨by rw [sortV_len _ _ hlen]; exact hz, out, ep, hv, he'⟩, rfl, q _ (I.hok.fresh (Nat.le_succ _))⟩
theorem raw_at (I : Inv X pins σ H s) {a : Addr} {xs : List (List Int × Addr × Value)} (e : H a = some (dicO a xs)) : xs.length ≤ sizeLine ∧ (a == sysModules) = false ∧ ∃ es ep, s.heap.DictRaw a es ep ∧ es.size = xs.length ∧ ∀ (j : Nat) (x : List Int × Addr × Value), xs[j]? = some x → ∃ hj : j < es.size, es[j].key = .ref x.2.1 := by
  obtain ⟨⟨hd, hz, hn, o, es, ep, h1, h2, h3, h4⟩, _⟩ := (show ObjOk X.prog X.w H s.heap a (dicO a xs) from I.hok a _ e)
  have hl : es.size = xs.length := by rw [← Array.length_toList, h4, List.length_map]
  refine ⟨hz, hd, es, ep, ⟨o, h1, h2, h3⟩, hl, fun j x hx => ?_⟩
  have hj : j < es.size := by rw [hl]; exact (List.getElem?_eq_some_iff.mp hx).1
  refine ⟨hj, ?_⟩
  have : es.toList[j]? = some (⟨numHash x.1, .ref x.2.1, x.2.2⟩ : DictEntry) := by rw [h4, List.getElem?_map, hx]; rfl
  rw [Array.getElem?_toList, Array.getElem?_eq_getElem hj] at this
  rw [Option.some.inj this]
theorem keys_vals {xs : List (List Int × Addr × Value)} {us : List Value} {es : Array DictEntry} (hl : us.length = xs.length) (hes : es.size = xs.length) (h : ∀ (j : Nat) (v : Value), us[j]? = some v → ∃ hj : j < es.size, v = es[j].key)
    (hk : ∀ (j : Nat) (x : List Int × Addr × Value), xs[j]? = some x → ∃ hj : j < es.size, es[j].key = .ref x.2.1) : us = xs.map fun x => Value.ref x.2.1 := by
  refine List.ext_getElem? fun j => ?_
  rw [List.getElem?_map]
  cases q : xs[j]? with
  | none =>
    rw [List.getElem?_eq_none_iff] at q
    rw [List.getElem?_eq_none (by omega)]
    rfl
  | some x =>
    obtain ⟨hj, e⟩ := hk j x q
    have hu : j < us.length := by omega
    obtain ⟨_, e'⟩ := h j us[j] (List.getElem?_eq_getElem hu)
    rw [List.getElem?_eq_getElem hu, e', e]
    rfl
theorem ref_vals (l : List Addr) : Vals (l.map V.ref) (l.map Value.ref) := by
  induction l with
  | nil => exact .nil
  | cons a l ih => exact .cons rfl ih
theorem cr_listDT (hc : X.calm = true) : CallR X (.type "list") (rListDT X.K) := by
  intro pins s σ H vs us Q I r h
  obtain ⟨a, l, xs, rfl, e, t, q⟩ := h
  rw [Vals.ref1 r]
  obtain ⟨hz, hd, es, ep, hr, hes, hk⟩ := raw_at I e
  refine PySem.W.kdl_call (KdlSrc.rawDict (es := es) (ep := ep) hd) (I.ok.hd hc) hr (by omega) fun h' tk acc c' hkp hD hacc => ?_
  have hv : acc.toList = xs.map fun x => Value.ref x.2.1 := keys_vals (by rw [Array.length_toList]; exact hacc.1.trans hes) hes (fun j v e => hacc.2 j v (by rw [← Array.getElem?_toList]; exact e)) hk
  refine ⟨.ref s.heap.objs.size, upd H s.heap.objs.size (.lst (xs.map fun x => V.ref x.2.1)), I.laid (t' := tk) hkp (Nat.le_refl _) ⟨by rw [List.length_map]; exact hz, acc.toList, c', ?_, by rw [Array.toArray_toList]; exact hD⟩, rfl, q _ (I.hok.fresh (Nat.le_refl _))⟩
  rw [hv]
  have := ref_vals (xs.map fun x => x.2.1)
  rw [List.map_map, List.map_map] at this
  exact this
theorem cr_lenDT : CallR X (.builtin "len") (rLenDT X.K) := by
  intro pins s σ H vs us Q I r h
  obtain ⟨a, l, xs, rfl, e, t, q⟩ := h
  rw [Vals.ref1 r]
  obtain ⟨z, hd, _, dd⟩ := dit_rd I e t
  have hl : (xs.map lf).length = xs.length := List.length_map ..
  refine call_len_dictH hd dd (by rw [hl]; rw [sizeLine_eq] at z; omega) ?_
  rw [hl]
  exact ⟨.int ((xs.length : Nat) : Int), H, I.tok _, ⟨_, rfl⟩, q⟩
theorem cr_sortedDT (hc : X.calm = true) (hu : X.A.units + 64 < cLine) : CallR X (.builtin "sorted") (rSortedDT X.K) := by
  intro pins s σ H vs us Q I r h
  obtain ⟨a, l, xs, ds, rfl, e, t, hdp, hok, q⟩ := h
  rw [Vals.ref1 r]
  obtain ⟨hz, hd, es, ep, hr, hes, hk⟩ := raw_at I e
  refine Calls.call_function_entry PyProof.Rows.kind_sorted PyProof.Rows.plain_sorted PyProof.Rows.entry_sorted (PyProof.Rows.args_sorted1 _) ?_
  unfold Builtin.«sorted»
  refine wpAny_bind (m := checkCount "sorted" 1 1 _) (wpAny_pure ?_)
  refine wpAny_bind (PySem.W.kdu_collect (A := X.A.in1) (KdlSrc.rawDict (es := es) (ep := ep) hd) (I.ok.hd hc) hr (by omega) fun h' tk acc hkp hacc => ?_)
  have hv : acc.toList = xs.map fun x => Value.ref x.2.1 := keys_vals (by rw [Array.length_toList]; exact hacc.1.trans hes) hes (fun j v e => hacc.2 j v (by rw [← Array.getElem?_toList]; exact e)) hk
  rw [hv]
  have I1 : Inv X pins σ H { s with heap := h', toks := tk } := I.kept hkp
  have rv : Vals (xs.map fun x => V.ref x.2.1) (xs.map fun x => Value.ref x.2.1) := by
    have := ref_vals (xs.map fun x => x.2.1)
    rw [List.map_map, List.map_map] at this
    exact this
  generalize (xs.map fun x => Value.ref x.2.1) = vs at rv
  have hlv : vs.length = xs.length := by rw [← rv.length, List.length_map]
  refine wpAny_bind (wpAny_newList ?_ (by omega))
  have hoL : (h'.push (seqObj "list" vs.toArray 0)).get? h'.objs.size = some (seqObj "list" vs.toArray 0) := Heap.get?_push_size _ rfl
  show wpAny _ _ _ _ _ { s with heap := h'.push (seqObj "list" vs.toArray 0), toks := tk }
  obtain ⟨k1, k2, k3⟩ := okSort_ok hok
  have hlen := DpAll.len hdp
  have hm : ((xs.map fun x => V.ref x.2.1).zip ds).map Prod.snd = ds := zip_snd hlen
  have old : ∀ b o, h'.get? b = some o → (PySem.W.sortingHeap (h'.push (seqObj "list" vs.toArray 0)) h'.objs.size vs).get? b = some o := fun b o e => PySem.W.sortingHeap_old (Nat.ne_of_lt (Heap.lt_size e)) (Heap.get?_push_of_some _ e)
  have er : PySem.W.EachIs (fun (u : Value) (b : V × PyData) => ∃ as, Reads (PySem.W.sortingHeap (h'.push (seqObj "list" vs.toArray 0)) h'.objs.size vs) u b.2 as) vs ((xs.map fun x => V.ref x.2.1).zip ds) :=
    (each_reads I1 hdp rv).mono fun _ _ ⟨as, r⟩ => ⟨as, PyProof.Rows.Reads.keeps old r⟩
  have S : PySem.W.SortsAt X.prog X.w X.A.in1.in1 { s with heap := PySem.W.sortingHeap (h'.push (seqObj "list" vs.toArray 0)) h'.objs.size vs, toks := tk } (PySem.W.dataKind (PySem.W.sortingHeap (h'.push (seqObj "list" vs.toArray 0)) h'.objs.size vs) (((xs.map fun x => V.ref x.2.1).zip ds).map Prod.snd)) vs :=
    PySem.W.SortsAt.data (s := { s with heap := PySem.W.sortingHeap (h'.push (seqObj "list" vs.toArray 0)) h'.objs.size vs, toks := tk }) (PySem.W.each_map (R := fun v d => ∃ as, Reads (PySem.W.sortingHeap (h'.push (seqObj "list" vs.toArray 0)) h'.objs.size vs) v d as) Prod.snd er) (by rw [hm]; exact k1) (by rw [hm]; exact k2) (fun d hd => by
      rw [hm] at hd
      have := k3 d hd
      show X.A.units + 2 + d.depth < cLine
      omega)
  refine wpAny_bind (wpAny_holding (wpAny_call_entry PyProof.Rows.slot_list_sort ⟨_, hoL, rfl⟩ PyProof.Rows.entry_list_sort
    (PySem.W.list_sort_vals (s := { s with heap := h'.push (seqObj "list" vs.toArray 0), toks := tk }) hoL S (by omega) ⟨_, rfl, ?_⟩)
    (PyProof.Rows.args_list_sort _)))
  obtain ⟨e', he'⟩ := PyProof.Rows.sortedHeap_at (vs := vs) (out := (PySem.W.sortVals (PySem.W.dataKind (PySem.W.sortingHeap (h'.push (seqObj "list" vs.toArray 0)) h'.objs.size vs) (((xs.map fun x => V.ref x.2.1).zip ds).map Prod.snd)) false vs vs).toArray) hoL
  have hv2 := PySem.W.sortVals_data (R := fun (u : Value) (b : V × PyData) => RelV b.1 u) (enc := Prod.snd) false (each_RelV hlen rv) er (by rw [hm]; exact k1)
  have hv3 : Vals (sortV (xs.map fun x => V.ref x.2.1) ds) (PySem.W.sortVals (PySem.W.dataKind (PySem.W.sortingHeap (h'.push (seqObj "list" vs.toArray 0)) h'.objs.size vs) (((xs.map fun x => V.ref x.2.1).zip ds).map Prod.snd)) false vs vs) := by
    unfold sortV
    rw [srt_eq (dataLe_total _ _)]
    exact each_vals hv2
  refine wpAny_pure ⟨_, rfl, .ref h'.objs.size, upd H h'.objs.size (.lst (sortV (xs.map fun x => V.ref x.2.1) ds)), I1.laid (t' := tk) (fun b u e => ?_) (Nat.le_refl _)
    (show ObjOk X.prog X.w _ _ _ (.lst (sortV (xs.map fun x => V.ref x.2.1) ds)) from ⟨by rw [sortV_len _ _ hlen, List.length_map]; exact hz, _, e', hv3, he'⟩), rfl, q _ (I1.hok.fresh (Nat.le_refl _))⟩
  have hb : b < h'.objs.size := Heap.lt_size e
  rw [PyProof.Rows.sortedHeap_old (Nat.ne_of_lt hb) (by rw [size_push']; exact Nat.lt_succ_of_lt hb)]
  exact Heap.get?_push_of_some _ e
end
end TH
-- part C13
namespace TH
open PySem PySem.Spec PyProof.Rows L2
/-! ## dicts whose keys are tuples of whole numbers and truth values: mirrors -/
abbrev DL := List (List CV × List Int × CV)
def dFind (l : DL) (ks : List Int) : Option CV := match l with
  | [] => none
  | p :: r => if p.2.1 = ks then some p.2.2 else dFind r ks
def dRepl (ks : List Int) (v : CV) (p : List CV × List Int × CV) : List CV × List Int × CV := if p.2.1 = ks then (p.1, p.2.1, v) else p
def dPutC (l : DL) (kl : List CV) (ks : List Int) (v : CV) : DL := if (dFind l ks).isSome = true then l.map (dRepl ks v) else l ++ [(kl, ks, v)]
def keyC : CV → Option (List CV × List Int)
  | .tup l => match numL l with
    | some k => some (l, k)
    | none => none
  | _ => none
def theDit (S : CS) : CV → Option DL
  | .ref n => match S.get n with
    | some (.dit l) => some l
    | _ => none
  | _ => none
section
variable {K : PySem.W.Frag} {Z : ExI} {f : List Addr} {H : Hp} {S : CS}
theorem TRs.tv {lc : DL} {xs : List (List Int × Addr × Value)} (h : TRs K f H lc xs) : ∃ l, TV K H l xs ∧ ∀ ks, match dFind lc ks with
    | some x => ∃ v, valV l ks = some v ∧ RV K f H x v
    | none => valV l ks = none := by
  induction h with
  | nil => exact ⟨[], .nil, fun ks => rfl⟩
  | @cons kl ks b us vc v u lc xs hn hq hr ru rv t ih =>
    obtain ⟨l, h1, h2⟩ := ih
    refine ⟨(ks, v) :: l, .cons ⟨rfl, ⟨us, hq, hr.num hn⟩, ru⟩ h1, fun ks' => ?_⟩
    unfold dFind
    by_cases e : ks = ks'
    · rw [if_pos e]
      exact ⟨v, valV_pos e, rv⟩
    · rw [if_neg e, valV_neg (p := (ks, v)) e]
      exact h2 ks'
theorem TRs.has {lc : DL} {xs : List (List Int × Addr × Value)} (h : TRs K f H lc xs) (k : List Int) : (dFind lc k).isSome = (atKey xs k).isSome := by
  obtain ⟨l, t, q⟩ := h.tv
  have e := (t.val k).isSome_eq
  rw [Option.isSome_map] at e
  rw [← e]
  have := q k
  split at this
  · rename_i x hx
    obtain ⟨v, hv, _⟩ := this
    rw [hx, hv]
    rfl
  · rename_i hx
    rw [hx, this]
    rfl
theorem TRs.len {lc : DL} {xs : List (List Int × Addr × Value)} (h : TRs K f H lc xs) : lc.length = xs.length := by
  induction h with
  | nil => rfl
  | cons _ _ _ _ _ _ ih => simp [ih]
theorem TRs.repl {lc : DL} {xs : List (List Int × Addr × Value)} (h : TRs K f H lc xs) (k : List Int) {v : V} {u : Value} {x : CV} (ru : RelV v u) (rv : RV K f H x v) : TRs K f H (lc.map (dRepl k x)) (xs.map (putAt k u)) := by
  induction h with
  | nil => exact .nil
  | @cons kl ks b us vc v' u' lc xs hn hq hr ru' rv' t ih =>
    rw [List.map_cons, List.map_cons]
    unfold dRepl putAt
    by_cases e : ks = k
    · rw [if_pos e, if_pos e]
      exact .cons hn hq hr ru rv ih
    · rw [if_neg e, if_neg e]
      exact .cons hn hq hr ru' rv' ih
theorem TRs.snoc {lc : DL} {xs : List (List Int × Addr × Value)} (h : TRs K f H lc xs) {kl : List CV} {ks : List Int} {b : Addr} {us : List V} {v : V} {u : Value} {x : CV} (hn : numL kl = some ks) (hq : SqT K H b us) (hr : RVs K f H kl us) (ru : RelV v u) (rv : RV K f H x v) :
    TRs K f H (lc ++ [(kl, ks, x)]) (xs ++ [(ks, b, u)]) := by
  induction h with
  | nil => exact .cons hn hq hr ru rv .nil
  | cons a b c d e _ ih => exact .cons a b c d e ih
theorem TRs.put {lc : DL} {xs : List (List Int × Addr × Value)} (h : TRs K f H lc xs) {kl : List CV} {ks : List Int} {b : Addr} {us : List V} {v : V} {u : Value} {x : CV} (hn : numL kl = some ks) (hq : SqT K H b us) (hr : RVs K f H kl us) (ru : RelV v u) (rv : RV K f H x v) :
    TRs K f H (dPutC lc kl ks x) (storedH xs ks b u) := by
  unfold dPutC storedH
  rw [h.has]
  by_cases e : (atKey xs ks).isSome = true
  · rw [if_pos e, if_pos e]
    exact h.repl ks ru rv
  · rw [if_neg e, if_neg e]
    exact h.snoc hn hq hr ru rv
theorem TRs.keys {lc : DL} {xs : List (List Int × Addr × Value)} (h : TRs K f H lc xs) : RVs K f H (lc.map fun p => CV.tup p.1) (xs.map fun x => V.ref x.2.1) := by
  induction h with
  | nil => exact .nil
  | cons a b c d e _ ih => exact .cons (.tup b c) ih
theorem Rel.dit (R : Rel K f H S) {x : CV} {v : V} {l : DL} (rx : RV K f H x v) (h : theDit S x = some l) : ∃ n a xs, x = .ref n ∧ v = .ref a ∧ f[n]? = some a ∧ H a = some (dicO a xs) ∧ TRs K f H l xs := by
  unfold theDit at h
  split at h
  · rename_i n
    split at h
    · rename_i k hk
      cases h
      cases rx with
      | ref hf =>
        obtain ⟨o, u, h1, h2, h3⟩ := R.at_ hf
        rw [hk] at h1
        cases h1
        cases h3 with
        | dT t => exact ⟨n, _, _, rfl, rfl, hf, h2, t⟩
    · cases h
  · cases h
theorem keyC_ok {y : CV} {w : V} {kl : List CV} {ks : List Int} (ry : RV K f H y w) (h : keyC y = some (kl, ks)) : ∃ b us, w = .ref b ∧ SqT K H b us ∧ RVs K f H kl us ∧ numL kl = some ks := by
  unfold keyC at h
  split at h
  · split at h
    · rename_i k hk
      cases h
      cases ry with
      | tup h1 r1 => exact ⟨_, _, rfl, h1, r1, hk⟩
    · cases h
  · cases h
theorem TRs.get {lc : DL} {xs : List (List Int × Addr × Value)} {a b : Addr} {us : List V} {kl : List CV} {ks : List Int} (h : TRs K f H lc xs) (ha : H a = some (dicO a xs)) (hq : SqT K H b us) (hr : RVs K f H kl us) (hn : numL kl = some ks) :
    ∃ o, TGet K H a (.ref b) o ∧ match dFind lc ks with
      | some x => ∃ v, o = some v ∧ RV K f H x v
      | none => o = none := by
  obtain ⟨l, t, q⟩ := h.tv
  exact ⟨valV l ks, ⟨l, xs, us, ks, b, ha, t, rfl, hq, hr.num hn, rfl⟩, q ks⟩
end
/-! ### d[k] -/
def gIxA : G2 := fun x y S => match theDit S x with
  | some l => match keyC y with
    | some (_, ks) => match dFind l ks with
      | some z => .ok z S
      | none => .stuck
    | none => .stuck
  | none => gIx x y S
abbrev rIxB (K : PySem.W.Frag) : R2 := fun x y H Q => rIxA K x y H Q ∨ rIxDT K x y H Q
theorem ix_B {X : Cx} (hu : X.A.units + 1 < cLine) : IxR X (rIxB X.K) := IxR.or ix_A (ix_dT hu)
theorem ad_ixA {K : PySem.W.Frag} {Z : ExI} : Ad2 K Z (rIxB K) gIxA := by
  intro W σ f S H x y v w Q R rx ry h
  unfold gIxA at h
  split at h
  · rename_i l hl
    obtain ⟨n, a, xs, rfl, rfl, hf, ha, t⟩ := R.dit rx hl
    split at h
    · rename_i kl ks hk
      obtain ⟨b, us, rfl, hq, hr, hn⟩ := keyC_ok ry hk
      obtain ⟨o, g, q⟩ := t.get ha hq hr hn
      split at h
      · rename_i z hz
        rw [hz] at q
        obtain ⟨v, rfl, rv⟩ := q
        exact .inr ⟨a, v, rfl, g, h.val R rv⟩
      · exact h.elim
    · exact h.elim
  · exact .inl (ad_ix W σ f S H x y v w Q R rx ry h)
section
variable {X : Cx} {Z : ExI} {W : WX} {a b d e o : Expr} {pos apos : Pos} {ma mb md mo mi : M CV}
theorem hu_1 (h : X.A.units + 64 < cLine) : X.A.units + 1 < cLine := by omega
theorem me_ixA (hu : X.A.units + 64 < cLine) (ha : ME X Z W a ma) (hb : ME X Z W b mb) (hs : PlainIx b := by intro _ _; rfl) : ME X Z W (.Subscript a b pos) (e2 gIxA ma mb) :=
  (pe_ix (ix_B (hu_1 hu)) ha hb hs).imp fun σ H Q h => by
    refine (tG.bind (R1 := rV X.K) h).mono ?_
    rintro v H1 ⟨f1, c, S1, x, r1, e1, x1, h1⟩
    refine (tG.at_ (R1 := rV X.K) r1 e1 h1).mono ?_
    rintro w H2 ⟨f2, S2, y, t2, r2, e2, y2, h2⟩
    exact ad_ixA W σ f2 S2 H2 x y v w Q r2 (x1.mono t2 r1) y2 h2
end
/-! ### k in d -/
def gInA (neg : Bool) : G2 := fun x y S => match theDit S y with
  | some l => match keyC x with
    | some (_, ks) => .ok (.bl (xor neg (dFind l ks).isSome)) S
    | none => .stuck
  | none => gIn neg x y S
abbrev rInB (K : PySem.W.Frag) (neg : Bool) : R2 := fun x y H Q => rIn K neg x y H Q ∨ rInDT K neg x y H Q
theorem op_inB {X : Cx} (hu : X.A.units + 64 < cLine) : OpR X (compareOp .In) (rInB X.K false) := OpR.or op_in_seq (op_inDT (hu_1 hu))
theorem op_notInB {X : Cx} (hu : X.A.units + 64 < cLine) : OpR X (compareOp .NotIn) (rInB X.K true) := OpR.or op_notIn_seq (op_notinDT (hu_1 hu))
theorem ad_inA {K : PySem.W.Frag} {Z : ExI} {neg : Bool} : Ad2 K Z (rInB K neg) (gInA neg) := by
  intro W σ f S H x y v w Q R rx ry h
  unfold gInA at h
  split at h
  · rename_i l hl
    obtain ⟨n, a, xs, rfl, rfl, hf, ha, t⟩ := R.dit ry hl
    split at h
    · rename_i kl ks hk
      obtain ⟨b, us, rfl, hq, hr, hn⟩ := keyC_ok rx hk
      obtain ⟨o, g, q⟩ := t.get ha hq hr hn
      refine .inr ⟨a, o, rfl, g, ?_⟩
      have e : o.isSome = (dFind l ks).isSome := by
        split at q
        · rename_i z hz
          obtain ⟨v, rfl, _⟩ := q
          rw [hz]
          rfl
        · rename_i hz
          rw [q, hz]
          rfl
      rw [e]
      exact h.val R (.bl _)
    · exact h.elim
  · exact .inl (ad_in W σ f S H x y v w Q R rx ry h)
/-! ### o[i] = v -/
def pSetA : G3 := fun o i v S => match theDit S o with
  | some l => match o with
    | .ref n => match keyC i with
      | some (kl, ks) => if l.length < sizeLine then .ok .non (S.put n (.dit (dPutC l kl ks v))) else .stuck
      | none => .stuck
    | _ => .stuck
  | none => pSet o i v S
def gIdxA (mo mi : M CV) : MGt := fun v => M.bind mo fun o => M.bind mi fun i => fun c S => match pSetA o i v S with
  | .ok _ S' => .ok c S'
  | .exn e x S => .exn e x S
  | .stuck => .stuck
abbrev rSetB (K : PySem.W.Frag) : TSet := fun o i v H Q => rSetL o i v H Q ∨ rSetDT K o i v H Q
theorem set_B {X : Cx} (hu : X.A.units + 64 < cLine) : PSet X (rSetB X.K) := by
  intro pins s σ H o i v ov iv u Q I ro ri rv h
  rcases h with h | h
  · exact set_list pins s σ H o i v ov iv u Q I ro ri rv h
  · exact set_dT (hu_1 hu) pins s σ H o i v ov iv u Q I ro ri rv h
theorem pSetA_ok {K : PySem.W.Frag} {Z : ExI} {f : List Addr} {H : Hp} {S : CS} {x y z : CV} {o i v : V} {Q : Hp → Prop} {α β : Type} {R1 : RL α β} {W : WX} {σ : L2.St} {k : CS → Out α} {Q' : β → Hp → Prop} (R : Rel K f H S) (rx : RV K f H x o) (ry : RV K f H y i) (rz : RV K f H z v)
    (h : Res K Z R1 W f H σ (match pSetA x y z S with
      | .ok _ S' => k S'
      | .exn e x S => .exn e x S
      | .stuck => .stuck) Q')
    (q : ∀ H' S', Ext f H f H' → Rel K f H' S' → Res K Z R1 W f H σ (k S') Q' → Q H') : rSetB K o i v H Q := by
  unfold pSetA at h
  cases hd : theDit S x with
  | none =>
    rw [hd] at h
    exact .inl (pSet_ok (k := k) R rx ry rz h q)
  | some l =>
    rw [hd] at h
    obtain ⟨n, a, xs, rfl, rfl, hf, ha, t⟩ := R.dit rx hd
    dsimp only at h
    cases hk : keyC y with
    | none => rw [hk] at h; exact h.elim
    | some p =>
      obtain ⟨kl, ks⟩ := p
      rw [hk] at h
      obtain ⟨b, us, rfl, hq, hr, hn⟩ := keyC_ok ry hk
      dsimp only at h
      by_cases hl : l.length < sizeLine
      · rw [if_pos hl] at h
        obtain ⟨lv, tv, _⟩ := t.tv
        refine .inr ⟨a, xs, lv, us, ks, b, rfl, ha, tv, rfl, hq, hr.num hn, by rw [← t.len]; exact hl, fun u ru => ?_⟩
        have hm := List.mem_of_getElem? hf
        exact q _ _ (Ext.put R hm) (R.put hf (.dT ((t.put hn hq hr ru rz).grow ((Ext.put R hm).grow R)))) h
      · rw [if_neg hl] at h
        exact h.elim
section
variable {X : Cx} {Z : ExI} {W : WX} {a b d e g o : Expr} {pos apos : Pos} {ma mb md mo mi mx : M CV}
theorem mg_subA (hu : X.A.units + 64 < cLine) (ho : ME X Z W o mo) (hi : ME X Z W a mi)
    (ha : ∀ v, assign (.Subscript o a pos) X.env v = (do
      let ov ← holding [v] (eval o X.env)
      let iv ← holding [v, ov] (eval a X.env)
      standAt pos
      holding [v, ov, iv] (setItem ov iv v)
      release [v, ov, iv] []) := by intro _; rfl) : MG X Z W (.Subscript o a pos) (gIdxA mo mi) := (pg_sub ho hi (set_B hu) ha).imp fun v σ H Q h => by
  obtain ⟨f, c, S, x, r, e, rx, h⟩ := h
  refine (TH.tG.at_ (R1 := rV X.K) (R2 := rEn X.K) r e h).mono ?_
  rintro ov H1 ⟨f1, S1, y, t1, r1, e1, y1, h1⟩
  refine (TH.tG.at_ (R1 := rV X.K) (R2 := rEn X.K) r1 e1 h1).mono ?_
  rintro iv H2 ⟨f2, S2, z, t2, r2, e2, z2, h2⟩
  refine pSetA_ok (k := fun S' => .ok c S') r2 (y1.mono t2 r1) z2 ((rx.mono t1 r).mono t2 r1) h2 fun H' S' x' r' q => ?_
  exact q f2 H' σ x' r' (e2.mono x' r2)
/-! ### {} -/
def eDictT : M CV := fun _ S => .ok (.ref S.n) (S.push (.dit []))
theorem me_dictT : ME X Z W (.Dict [] [] pos) eDictT := pe_dnewDT.imp fun σ H Q h => by
  obtain ⟨f, c, S, r, e, h⟩ := h
  exact fun p hp => h.new r (.dT .nil) hp
/-! ### d.get(k, x) -/
def gGetA (d k x : CV) : CS → Out CV := fun S => match theDit S d with
  | some l => match keyC k with
    | some (_, ks) => match dFind l ks with
      | some z => .ok z S
      | none => .ok x S
    | none => .stuck
  | none => .stuck
def eGetA (md mk mx : M CV) : M CV := md.bind fun d => fun c S => if (theDit S d).isSome = true then (mk.bind fun k => mx.bind fun x => fun _ S => gGetA d k x S) c S else .stuck
def tTGet2 (K : PySem.W.Frag) (td ty tx : TE) : TE := fun σ H Q => td σ H fun x H1 => ∃ a xs, x = .ref a ∧ H1 a = some (dicO a xs) ∧ ty σ H1 fun y H2 => tx σ H2 fun z H3 => ∃ o, TGet K H3 a y o ∧ Q (o.getD z) H3
theorem pe_tget2 {td ty tx : TE} (hu : X.A.units + 1 < cLine) (ho : PE X o td) (he : PE X e ty) (hf : PE X g tx) (m : M2 X o "get" apos e g pos) : PE X (.Call (.Attribute o "get" apos) [e, g] [] pos) (tTGet2 X.K td ty tx) := by
  refine ⟨fun pins s σ H Q I h => ?_⟩
  refine wpAny_Call_method m.base m.few m.line PySem.F.plainAttrs_dict PySem.F.slot_dict_get PySem.F.type_dict_get (thn (ho.run pins s σ H _ I h) fun u s1 ⟨x, H1, I1, rx, a, xs, ex, d, q1⟩ => ?_)
  subst ex
  obtain rfl : u = Value.ref a := rx
  obtain ⟨hz, hd, es, ep, ⟨ob, h1, h2, h3⟩, _⟩ := raw_at I1 d
  refine ⟨⟨ob, h1, h2.1⟩, fun b q => ?_, ?_⟩
  · cases q
    exact ⟨ob, h1, h2.2.1⟩
  rw [m.trees]
  refine Calls.callWith_builtin rfl (Calls.evalArgs_plain (Calls.spliced_cons (thn (he.run pins s1 σ H1 _ I1 q1) fun iv s2 ⟨y, H2, I2, ry, q2⟩ =>
    Calls.spliced_cons (thn (hf.run pins s2 σ H2 _ I2 q2) fun fv s3 ⟨z, H3, I3, rz, ov, g3, q3⟩ => Calls.spliced_nil ?_))))
  obtain ⟨l, xs3, us, ks, b, e3, t3, rfl, hq, hn, hv⟩ := g3
  obtain rfl : iv = Value.ref b := ry
  obtain ⟨_, _, _, dd⟩ := dit_rd I3 e3 t3
  refine call_meetsIn PySem.F.slot_dict_get dd.typeIs PySem.F.entry_dict_get (PySem.F.args_dict_get_3 _ _ _) (meetsH_dict_get_default (tupleKind (leafKind X.prog X.w)) a b hd fv) ⟨tupleKind_room_in1 hu, _, _, key_tup I3 hq hn, dd, ?_⟩
  refine ⟨_, H3, I3.tok _, ?_, q3⟩
  rw [hv, lf_at]
  exact (t3.val ks).getD rz
theorem me_getA (hu : X.A.units + 64 < cLine) (ho : ME X Z W o mo) (he : ME X Z W e mi) (hf : ME X Z W g mx) (m : M2 X o "get" apos e g pos := by exact ⟨rfl, rfl, rfl, rfl⟩) : ME X Z W (.Call (.Attribute o "get" apos) [e, g] [] pos) (eGetA mo mi mx) :=
  (pe_tget2 (hu_1 hu) ho he hf m).imp fun σ H Q h => by
    refine (tG.bind (R1 := rV X.K) h).mono ?_
    rintro v H1 ⟨f1, c, S1, x, r1, e1, x1, h1⟩
    split at h1
    · rename_i hs
      obtain ⟨l, hl⟩ := Option.isSome_iff_exists.mp hs
      obtain ⟨n, a, xs, rfl, rfl, hf, ha, t⟩ := r1.dit x1 hl
      refine ⟨a, xs, rfl, ha, ?_⟩
      refine (tG.at_ (R1 := rV X.K) r1 e1 h1).mono ?_
      rintro w H2 ⟨f2, S2, y, t2, r2, e2, y2, h2⟩
      refine (tG.at_ (R1 := rV X.K) r2 e2 h2).mono ?_
      rintro w3 H3 ⟨f3, S3, z, t3, r3, e3, z3, h3⟩
      have xr := (x1.mono t2 r1).mono t3 r2
      unfold gGetA at h3
      split at h3
      · rename_i l3 hl3
        obtain ⟨n3, a3, xs3, e3', rfl3, hf3, ha3, t3'⟩ := r3.dit xr hl3
        cases rfl3
        split at h3
        · rename_i kl ks hk
          obtain ⟨b, us, rfl, hq, hr, hn⟩ := keyC_ok (y2.mono t3 r2) hk
          obtain ⟨ov, g, q⟩ := t3'.get ha3 hq hr hn
          refine ⟨ov, g, ?_⟩
          split at h3
          · rename_i z' hz
            rw [hz] at q
            obtain ⟨v, rfl, rv⟩ := q
            exact h3.val r3 rv
          · rename_i hz
            rw [hz] at q
            subst q
            exact h3.val r3 z3
        · exact h3.elim
      · exact h3.elim
    · exact h1.elim
end
/-! ### len(d), list(d), sorted(d) -/
def oneDit (S : CS) : List CV → Option DL
  | [x] => theDit S x
  | _ => none
def gLenA : GC := fun xs S => match oneDit S xs with
  | some l => .ok (.int l.length) S
  | none => gLen xs S
def gListA : GC := fun xs S => match oneDit S xs with
  | some l => .ok (.ref S.n) (S.push (.lst (l.map fun p => CV.tup p.1)))
  | none => gList xs S
def sortC (l : List CV) (ds : List PyData) : List CV := (srt dLe (l.zip ds)).map Prod.fst
def gSortedA : GC := fun xs S => match oneDit S xs with
  | some l => match (l.map fun p => CV.tup p.1).mapM (toD S 40) with
    | some ds => if okSort ds = true then .ok (.ref S.n) (S.push (.lst (sortC (l.map fun p => CV.tup p.1) ds))) else .stuck
    | none => .stuck
  | none => match xs with
    | [.ref i] => match S.get i with
      | some (.lst l) => match intsC l with
        | some ns => .ok (.ref S.n) (S.push (.lst ((srtI ns).map .int)))
        | none => match l.mapM (toD S 40) with
          | some ds => if okSort ds = true then .ok (.ref S.n) (S.push (.lst (sortC l ds))) else .stuck
          | none => .stuck
      | _ => .stuck
    | _ => .stuck
section
variable {K : PySem.W.Frag} {Z : ExI} {f : List Addr} {H : Hp} {S : CS}
theorem oneDit_ok (R : Rel K f H S) {xs : List CV} {vs : List V} {l : DL} (r : RVs K f H xs vs) (h : oneDit S xs = some l) : ∃ a ys, vs = [.ref a] ∧ H a = some (dicO a ys) ∧ TRs K f H l ys := by
  unfold oneDit at h
  split at h
  · cases r with
    | cons a b =>
      cases b
      obtain ⟨n, p, ys, rfl, rfl, hf, ha, t⟩ := R.dit a h
      exact ⟨p, ys, rfl, ha, t⟩
  · cases h
theorem RVs.each : ∀ {l : List CV} {vs : List V} {ds : List PyData}, RVs K f H l vs → l.length = ds.length → PySem.W.EachIs (fun (a : CV × PyData) (b : V × PyData) => RV K f H a.1 b.1 ∧ a.2 = b.2) (l.zip ds) (vs.zip ds)
  | [], _, ds, .nil, _ => by
    cases ds with
    | nil => exact .nil
    | cons _ _ => exact .nil
  | x :: l, _, [], .cons _ _, h => by cases h
  | x :: l, _, d :: ds, .cons a t, h => .cons ⟨a, rfl⟩ (RVs.each t (by simpa using h))
theorem sortC_ok {l : List CV} {vs : List V} (r : RVs K f H l vs) {ds : List PyData} (h : l.length = ds.length) : RVs K f H (sortC l ds) (sortV vs ds) := by
  unfold sortC sortV
  rw [srt_eq (dataLe_total _ _), srt_eq (dataLe_total _ _)]
  have e := PySem.W.sort_each (r := (dLe : CV × PyData → CV × PyData → Bool)) (s := (dLe : V × PyData → V × PyData → Bool)) (r.each h) fun p hp q hq => by
    have a1 := ((r.each h).zip p hp).2
    have a2 := ((r.each h).zip q hq).2
    show PySem.W.dataLe false Prod.snd p.1 q.1 = PySem.W.dataLe false Prod.snd p.2 q.2
    unfold PySem.W.dataLe PySem.W.sortLe
    dsimp only
    rw [a1, a2]
  have fin : ∀ {as : List (CV × PyData)} {bs : List (V × PyData)}, PySem.W.EachIs (fun (a : CV × PyData) (b : V × PyData) => RV K f H a.1 b.1 ∧ a.2 = b.2) as bs → RVs K f H (as.map Prod.fst) (bs.map Prod.fst) := by
    intro as bs q
    induction q with
    | nil => exact .nil
    | cons a _ ih => exact .cons a.1 ih
  exact fin e
theorem mapM_len {α β : Type} {g : α → Option β} : ∀ {l : List α} {k : List β}, l.mapM g = some k → l.length = k.length
  | [], _, h => by simp at h; subst h; rfl
  | a :: l, _, h => by
    simp only [List.mapM_cons, Option.bind_eq_bind, Option.bind_eq_some_iff] at h
    obtain ⟨b, _, k, e, h⟩ := h
    cases h
    rw [List.length_cons, List.length_cons, mapM_len e]
abbrev rLenB (K : PySem.W.Frag) : List V → Hp → VK → Prop := fun xs H Q => (∃ x n, xs = [x] ∧ LenV K x H n ∧ Q (.int n) H) ∨ rLenDT K xs H Q
theorem cr_lenB {X : Cx} : CallR X (.builtin "len") (rLenB X.K) := CallR.or call_len cr_lenDT
theorem ad_lenA : AdC K Z (rLenB K) gLenA := by
  intro W σ f S H xs vs Q R r h
  unfold gLenA at h
  split at h
  · rename_i l hl
    obtain ⟨a, ys, rfl, ha, t⟩ := oneDit_ok R r hl
    obtain ⟨lv, tv, _⟩ := t.tv
    exact .inr ⟨a, lv, ys, rfl, ha, tv, by rw [← t.len]; exact h.val R (.int _)⟩
  · exact .inl (ad_len W σ f S H xs vs Q R r h)
abbrev rListB (K : PySem.W.Frag) : List V → Hp → VK → Prop := fun xs H Q => (∃ p ys, xs = [.ref p] ∧ (SqL K H p ys ∨ SqT K H p ys) ∧ ∀ l, H l = none → Q (.ref l) (upd H l (.lst ys))) ∨ rListDT K xs H Q
theorem cr_listB {X : Cx} (hc : X.calm = true) : CallR X (.type "list") (rListB X.K) := CallR.or call_list_of (cr_listDT hc)
theorem ad_listA : AdC K Z (rListB K) gListA := by
  intro W σ f S H xs vs Q R r h
  unfold gListA at h
  split at h
  · rename_i l hl
    obtain ⟨a, ys, rfl, ha, t⟩ := oneDit_ok R r hl
    obtain ⟨lv, tv, _⟩ := t.tv
    exact .inr ⟨a, lv, ys, rfl, ha, tv, fun p hp => h.new R (.lst t.keys) hp⟩
  · exact .inl (ad_list W σ f S H xs vs Q R r h)
abbrev rSortedB (K : PySem.W.Frag) : List V → Hp → VK → Prop := fun xs H Q => (fun xs H Q => rSortedI K xs H Q ∨ rSortedV K xs H Q) xs H Q ∨ rSortedDT K xs H Q
theorem cr_sortedB {X : Cx} (hc : X.calm = true) (hu : X.A.units + 64 < cLine) : CallR X (.builtin "sorted") (rSortedB X.K) := CallR.or (CallR.or cr_sortedI (cr_sortedV hu)) (cr_sortedDT hc hu)
theorem ad_sortedA : AdC K Z (rSortedB K) gSortedA := by
  intro W σ f S H xs vs Q R r h
  unfold gSortedA at h
  split at h
  · rename_i l hl
    obtain ⟨a, ys, rfl, ha, t⟩ := oneDit_ok R r hl
    obtain ⟨lv, tv, _⟩ := t.tv
    split at h
    · rename_i ds hds
      split at h
      · rename_i hok
        refine .inr ⟨a, lv, ys, ds, rfl, ha, tv, toD_all (toD_ok R 40) t.keys hds, hok, fun p hp => ?_⟩
        exact h.new R (.lst (sortC_ok t.keys (mapM_len hds))) hp
      · exact h.elim
    · exact h.elim
  · split at h
    · rename_i i
      cases r with
      | cons a b =>
        cases b
        split at h
        · rename_i l hl
          obtain ⟨p, us, rfl, hf, g1, g2⟩ := R.lst a hl
          split at h
          · rename_i ns hn
            have e := intsC_ok g2 hn
            subst e
            refine .inl (.inl ⟨p, ns, rfl, SqL.of g1, fun ns' q hp hs hq => ?_⟩)
            have e : ns' = srtI ns := List.Perm.eq_of_pairwise (fun x y _ _ h1 h2 => Int.le_antisymm h1 h2) hs (srtI_sorted ns) (hp.trans (srtI_perm ns).symm)
            rw [e]
            exact h.new R (.lst RVs.ints) hq
          · split at h
            · rename_i ds hds
              split at h
              · rename_i hok
                refine .inl (.inr ⟨p, us, ds, rfl, SqL.of g1, toD_all (toD_ok R 40) g2 hds, hok, fun q hq => ?_⟩)
                exact h.new R (.lst (sortC_ok g2 (mapM_len hds))) hq
              · exact h.elim
            · exact h.elim
        · exact h.elim
    · exact h.elim
end
end TH
-- part C14
namespace TH
open PySem PySem.Spec PyProof.Rows L2
/-! ## bool(list) -/
def gBool : GC := fun xs S => match xs with
  | [.ref i] => match S.get i with
    | some (.lst l) => .ok (.bl (!l.isEmpty)) S
    | _ => .stuck
  | _ => .stuck
theorem ad_boolL {K : PySem.W.Frag} {Z : ExI} : AdC K Z (fun xs H Q => ∃ (a : Addr) (zs : List V), xs = [.ref a] ∧ SqL K H a zs ∧ Q (.bl (!zs.isEmpty)) H) gBool := by
  intro W σ f S H xs vs Q R r h
  unfold gBool at h
  split at h
  · cases r with
    | cons a b =>
      cases b
      split at h
      · rename_i l hl
        obtain ⟨p, vs, rfl, _, g1, g2⟩ := R.lst a hl
        exact ⟨p, vs, rfl, SqL.of g1, by rw [← g2.empty]; exact h.val R (.bl _)⟩
      · exact h.elim
  · exact h.elim
/-! ## min, max of ints with default= -/
def minO : Int → List Int → Int
  | x, [] => x
  | x, y :: l => minO (if y < x then y else x) l
def maxO : Int → List Int → Int
  | x, [] => x
  | x, y :: l => maxO (if x < y then y else x) l
theorem minO_eq : ∀ (l : List Int) (x : Int), minO x l = PySem.W.minOf x l
  | [], _ => rfl
  | y :: l, x => by
    unfold minO PySem.W.minOf
    rw [minO_eq l, List.foldl_cons]
    show List.foldl _ (if y < x then y else x) l = List.foldl _ (if decide (y < x) = true then y else x) l
    by_cases h : y < x
    · rw [if_pos h, if_pos (decide_eq_true h)]
    · rw [if_neg h, if_neg (by simp [h])]
theorem maxO_eq : ∀ (l : List Int) (x : Int), maxO x l = PySem.W.maxOf x l
  | [], _ => rfl
  | y :: l, x => by
    unfold maxO PySem.W.maxOf
    rw [maxO_eq l, List.foldl_cons]
    show List.foldl _ (if x < y then y else x) l = List.foldl _ (if decide (x < y) = true then y else x) l
    by_cases h : x < y
    · rw [if_pos h, if_pos (decide_eq_true h)]
    · rw [if_neg h, if_neg (by simp [h])]
def rDef (K : PySem.W.Frag) (best : Int → List Int → Int) : List V → List V → Hp → VK → Prop := fun xs zs H Q => ∃ a ns d, xs = [.ref a] ∧ zs = [d] ∧ SqL K H a (ns.map V.int) ∧ Q (match ns with
  | [] => d
  | y :: ys => .int (best y ys)) H
theorem dp_ints {K : PySem.W.Frag} {H : Hp} : ∀ ns : List Int, DpAll K H (ns.map V.int) (ns.map PyData.int)
  | [] => .nil
  | n :: ns => .cons (.int n) (dp_ints ns)
section
variable {X : Cx}
theorem cr_minD (hc : X.calm = true) (hu : X.A.units + 64 < cLine) : CallRK X (.builtin "min") [Str.ofString "default"] (rDef X.K minO) := by
  intro pins s σ H xs zs us ws Q I r rz h
  obtain ⟨a, ns, d, rfl, rfl, hs, q⟩ := h
  rw [Vals.ref1 r]
  obtain ⟨dv, rfl, rd⟩ := vals1 rz
  obtain ⟨its, rv, hl, hz⟩ := I.list hs
  have hH : PySem.W.HoldAll s.heap its.toArray.toList ns := Dp.readsAll I _ _ _ (dp_ints ns) rv
  refine PySem.W.min_list_datum_default (I.ok.hd hc) hl.isList hH (by show X.A.units + 1 + 0 < cLine; omega) (fun e h' tk hk => ?_) (fun y ys i v h' tk e hi hv hk => ?_)
  · subst e
    exact ⟨d, H, I.kept hk, rd, q⟩
  · subst e
    obtain ⟨as, hr⟩ := hv
    cases (show Reads h' v (.int (PySem.W.minOf y ys)) as from hr)
    refine ⟨.int (PySem.W.minOf y ys), H, I.kept hk, ⟨_, rfl⟩, ?_⟩
    rw [← minO_eq]
    exact q
theorem cr_maxD (hc : X.calm = true) (hu : X.A.units + 64 < cLine) : CallRK X (.builtin "max") [Str.ofString "default"] (rDef X.K maxO) := by
  intro pins s σ H xs zs us ws Q I r rz h
  obtain ⟨a, ns, d, rfl, rfl, hs, q⟩ := h
  rw [Vals.ref1 r]
  obtain ⟨dv, rfl, rd⟩ := vals1 rz
  obtain ⟨its, rv, hl, hz⟩ := I.list hs
  have hH : PySem.W.HoldAll s.heap its.toArray.toList ns := Dp.readsAll I _ _ _ (dp_ints ns) rv
  refine PySem.W.max_list_datum_default (I.ok.hd hc) hl.isList hH (by show X.A.units + 1 + 0 < cLine; omega) (fun e h' tk hk => ?_) (fun y ys i v h' tk e hi hv hk => ?_)
  · subst e
    exact ⟨d, H, I.kept hk, rd, q⟩
  · subst e
    obtain ⟨as, hr⟩ := hv
    cases (show Reads h' v (.int (PySem.W.maxOf y ys)) as from hr)
    refine ⟨.int (PySem.W.maxOf y ys), H, I.kept hk, ⟨_, rfl⟩, ?_⟩
    rw [← maxO_eq]
    exact q
end
def gDef (best : Int → List Int → Int) (xs zs : List CV) : CS → Out CV := fun S => match xs with
  | [x] => match zs with
    | [d] => match theInts S x with
      | some [] => .ok d S
      | some (n :: ns) => .ok (.int (best n ns)) S
      | none => .stuck
    | _ => .stuck
  | _ => .stuck
def eCallK (g : List CV → List CV → CS → Out CV) (k : M (List CV)) (k' : M (List CV)) : M CV := k.bind fun l => k'.bind fun l' => fun _ S => g l l' S
abbrev MK (X : Cx) (Z : ExI) (W : WX) (kws : List Keyword) (m : M (List CV)) : Prop := PK X kws (tG X.K Z (rVs X.K) W m)
theorem _root_.L2.PK.imp {X : Cx} {e : List Keyword} {t t' : TA} (h : PK X e t) (i : ∀ σ H Q, t' σ H Q → t σ H Q) : PK X e t' := ⟨fun p pins s σ H Q I q => h.run p pins s σ H Q I (i σ H Q q)⟩
def AdK (K : PySem.W.Frag) (Z : ExI) (r : List V → List V → Hp → VK → Prop) (g : List CV → List CV → CS → Out CV) : Prop := ∀ (W : WX) (σ : L2.St) (f : List Addr) (S : CS) (H : Hp) (xs zs : List CV) (vs ws : List V) (Q : VK), Rel K f H S → RVs K f H xs vs → RVs K f H zs ws → Res K Z (rV K) W f H σ (g xs zs S) Q → r vs ws H Q
theorem ad_def {K : PySem.W.Frag} {Z : ExI} {best : Int → List Int → Int} : AdK K Z (rDef K best) (gDef best) := by
  intro W σ f S H xs zs vs ws Q R r rz h
  unfold gDef at h
  split at h
  · split at h
    · cases r with
      | cons a b =>
        cases b
        cases rz with
        | cons c d =>
          cases d
          split at h
          · rename_i hn
            obtain ⟨p, rfl, g⟩ := theInts_ok R a hn
            exact ⟨p, [], _, rfl, rfl, SqL.of g, h.val R c⟩
          · rename_i n ns hn
            obtain ⟨p, rfl, g⟩ := theInts_ok R a hn
            exact ⟨p, n :: ns, _, rfl, rfl, SqL.of g, h.val R (.int _)⟩
          · exact h.elim
    · exact h.elim
  · exact h.elim
section
variable {X : Cx} {Z : ExI} {W : WX} {x : Str} {p pos kpos : Pos} {e : Expr} {es : List Expr} {kws : List Keyword} {nm : Option Str} {id : String} {ks : List Str} {r : List V → List V → Hp → VK → Prop} {g : List CV → List CV → CS → Out CV} {k k' : M (List CV)} {m : M CV}
theorem mk_nil : MK X Z W [] aNil := pk_nil.imp fun σ H Q h => by
  obtain ⟨f, c, S, r, e, h⟩ := h
  exact h f H [] (Ext.refl r) r .nil
theorem mk_cons (ha : ME X Z W e m) (hr : MK X Z W kws k) : MK X Z W (⟨nm, e, kpos⟩ :: kws) (aCons m k) :=
  (pk_cons ha hr).imp fun σ H Q h => by
    refine (tG.bind (R1 := rV X.K) h).mono ?_
    rintro v H1 ⟨f1, c, S1, x, r1, e1, x1, h1⟩
    refine (tG.at_ (R1 := rVs X.K) r1 e1 h1).mono ?_
    rintro w H2 ⟨f2, S2, y, t2, r2, e2, y2, h2⟩
    exact h2 f2 H2 _ (Ext.refl r2) r2 (.cons (x1.mono t2 r1) y2)
theorem me_callBK (hc : CallRK X (.builtin id) ks r) (ad : AdK X.K Z r g) (hg : Gl X x) (hm : X.mg x = none) (hv : bootBuiltins x = some (.builtin id)) (ha : MA X Z W (e :: es) k) (hk : MK X Z W kws k') (hn : x ≠ "__name__" := by decide) (hdb : (x == ("__debug__" : Str)) = false := by decide)
    (he : backTo pos (starEach (e :: es) X.env) = (false, eval e X.env) :: backTo pos (starEach es X.env) := by rfl) (hpl : (backTo pos (starEach (e :: es) X.env)).any (·.1) = false := by rfl)
    (hall : (backToKw pos (keywordEach kws X.env)).all (·.1.isSome) = true := by rfl) (hnone : (backToKw pos (keywordEach kws X.env)).any (·.1.isNone) = false := by rfl) (hks : (backToKw pos (keywordEach kws X.env)).filterMap (·.1) = ks := by rfl) :
    ME X Z W (.Call (.Name x p) (e :: es) kws pos) (eCallK g k k') :=
  (pe_callBK hc hg hm hv ha hk hn hdb he hpl hall hnone hks).imp fun σ H Q h => by
    refine (tG.bind (R1 := rVs X.K) h).mono ?_
    rintro v H1 ⟨f1, c, S1, l, r1, e1, l1, h1⟩
    refine (tG.at_ (R1 := rVs X.K) r1 e1 h1).mono ?_
    rintro w H2 ⟨f2, S2, l', t2, r2, e2, l2, h2⟩
    exact ad W σ f2 S2 H2 l l' v w Q r2 (l1.mono t2 r1) l2 h2
end
/-! ## reversed(range(..)) -/
def itRev (lo : Int) (n : Nat) : It0 := ⟨fun i _ => some (if i < n then some (.int (lo - i)) else none), n⟩
theorem walks_Rev {K : PySem.W.Frag} {f : List Addr} {H : Hp} {lo : Int} {n : Nat} : Walks K f H (itRev lo n) (Itc lo (-1) n) := by
  intro f2 S2 H2 i e R2
  unfold itRev
  dsimp only
  by_cases hi : i < n
  · rw [if_pos hi]
    refine ⟨hi, fun w H3 y => ?_⟩
    obtain ⟨rfl, rfl⟩ := y
    refine ⟨Ext.refl R2, R2, ?_⟩
    have : lo - (i : Int) = lo + (i : Int) * (-1) := by omega
    rw [this]
    exact .int _
  · rw [if_neg hi]
    exact Nat.le_of_not_lt hi
def iRev1 (m : M CV) : M It0 := m.bind fun x => fun _ S => match x with
  | .int j => if inR j then .ok (itRev ((j.toNat : Nat) - 1) j.toNat) S else .stuck
  | _ => .stuck
section
variable {X : Cx} {Z : ExI} {W : WX} {tg a : Expr} {p p' pos pos' : Pos} {m : M CV}
theorem mi_rev1 (hg : Gl X "reversed") (hm : X.mg "reversed" = none) (hg' : Gl X "range") (hm' : X.mg "range" = none) (ha : ME X Z W a m) (na : starEach [a] X.env = (false, eval a X.env) :: starEach [] X.env := by rfl)
    (hs : starEach [.Call (.Name "range" p') [a] [] pos'] X.env = (false, eval (.Call (.Name "range" p') [a] [] pos') X.env) :: starEach [] X.env := by rfl) : MI X Z W tg (.Call (.Name "reversed" p) [.Call (.Name "range" p') [a] [] pos'] [] pos) (iRev1 m) :=
  (pi_revR hg hm (prg_1 hg' hm' ha na) hs).imp fun σ H R h => by
    refine (tG.bind (R1 := rV X.K) h).mono ?_
    rintro v H1 ⟨f1, c, S1, x, r1, e1, x1, h1⟩
    split at h1
    · rename_i j
      split at h1
      · rename_i hj
        cases x1
        obtain ⟨g1, g2⟩ := inR_ok hj
        refine ⟨j, rfl, by decide, by decide, g1, g2, ?_⟩
        have e : (0 : Int) + (((j - 0).toNat : Nat) : Int) - 1 = ((j.toNat : Nat) : Int) - 1 := by rw [Int.sub_zero, Int.zero_add]
        rw [e, Int.sub_zero]
        exact h1 f1 H1 _ (Ext.refl r1) r1 walks_Rev
      · exact h1.elim
    · exact h1.elim
end
/-! ## enumerate(list), enumerate(tuple) -/
def IteT (K : PySem.W.Frag) (a : Addr) : It :=
  ⟨fun i H => ∃ (xs : List V) (x : V), SqT K H a xs ∧ xs[i]? = some x, fun i H v H' => ∃ T x, v = .ref T ∧ H T = none ∧ H' = upd H T (.tup [.int (i : Nat), x]) ∧ ∀ xs, SqT K H a xs → xs[i]? = some x, fun i H => ∃ xs : List V, SqT K H a xs ∧ xs.length ≤ i⟩
theorem isTuple_of {h : Heap} {a : Addr} {its : List Value} (t : IsTup h a its.toArray) : h.IsTuple a its.toArray := by
  obtain ⟨o, ho, hc, n, hd⟩ := t
  exact ⟨o, ho, hc, n, hd⟩
theorem turn_enumT {P : Program} {w : World} {K : PySem.W.Frag} {elts : List Expr} {kk : Nat} {tpos : Pos} (a e it : Addr) :
    Turn P w K (.Tuple elts kk tpos) (IteT K a) [e, it] e (fun i h => (∃ old, IsEnum h e it ((i : Nat) : Int) old) ∧ h.IsTupleIter it a i ∧ e ≠ it ∧ a ≠ it ∧ a ≠ e) where
  mem := by simp
  obj := fun i h st b hb => by
    obtain ⟨⟨old, he⟩, ⟨o, ho, hc, hd⟩, _⟩ := st
    have e' : b = e ∨ b = it := by simpa using hb
    rcases e' with z | z
    · rw [z]; exact ⟨_, he, fun v q => nomatch q⟩
    · rw [z]; exact ⟨o, ho, fun v q => by rw [hd] at q; cases q⟩
  keep := fun i h h' st k => let ⟨⟨old, he⟩, hi, hne, h1, h2⟩ := st; ⟨⟨old, k e (by simp) _ he⟩, hi.at fun o q => k it (by simp) o q, hne, h1, h2⟩
  item := by
    intro X hP hw hK hc i pins s σ H E I hf st hg
    subst hP hw hK
    obtain ⟨⟨old, he⟩, hit, hne, hai, hae⟩ := st
    obtain ⟨xs, x, hq, hx⟩ := hg
    obtain ⟨its, rv, p, hz⟩ := I.tuple hq
    obtain ⟨u, hu, ru⟩ := rv.get hx
    have hel : e < s.heap.objs.size := Heap.lt_size he
    have hil : it < s.heap.objs.size := by obtain ⟨_, q, _⟩ := hit; exact Heap.lt_size q
    have hlt : i < its.toArray.size := by
      rw [List.size_toArray]
      exact (List.getElem?_eq_some_iff.mp hu).1
    refine wpAny_pyNext_enum_itemD (Draws.tuple (A := X.A.in1) (I.ok.hd hc) it a hai its.toArray) he ⟨hit, isTuple_of p⟩ hlt hne (by simp [hne, Ne.symm hae]) fun x' h' tk hPx ho hst hT hsz hk => ?_
    obtain ⟨hit', _⟩ := hst
    have ex : x' = u := by
      have : its.toArray[i]? = some x' := hPx
      rw [List.getElem?_toArray, hu] at this
      exact (Option.some.inj this).symm
    subst ex
    refine ⟨_, rfl, wpAny_letOwnedTupleGo_enum (s := { s with heap := h', toks := tk + 1 }) ho fun h'' he' sb => ?_⟩
    have hT2 : h''.get? s.heap.objs.size = some { cls := .type "tuple", data := .seq #[.int i tk, x'] } := (sb.2 _ (Nat.ne_of_gt hel)).trans hT
    have new : ObjOk X.prog X.w (upd H s.heap.objs.size (.tup [.int (i : Nat), x])) h'' s.heap.objs.size (.tup [.int (i : Nat), x]) :=
      ⟨by show 2 ≤ sizeLine; decide, [.int i tk, x'], .cons ⟨_, rfl⟩ (.cons ru .nil), ⟨_, hT2, rfl, _, rfl⟩⟩
    have I1 : Inv X pins σ (upd H s.heap.objs.size (.tup [.int (i : Nat), x])) { s with heap := h'', toks := tk + 1 } :=
      I.turnedNew (ch := [e, it]) (fun b ob hb q => (sb.2 b (fun z => hb (by simp [z]))).trans (hk b ob (fun z => hb (by simp [z])) (fun z => hb (by simp [z])) q)) hf (Nat.le_refl _) new
    refine ⟨.ref s.heap.objs.size, _, I1, rfl, ⟨_, x, rfl, I.hok.fresh (Nat.le_refl _), rfl, fun ys hy => by rw [I.tuple_inj hy hq]; exact hx⟩, ⟨⟨x', ?_⟩, hit'.at fun o q => (sb.2 it (Ne.symm hne)).trans q, hne, hai, hae⟩, fun b hb => ?_⟩
    · have e1 : ((i + 1 : Nat) : Int) = (i : Int) + 1 := by omega
      rw [e1]; exact he'
    · have hb' : b < s.heap.objs.size := by
        have e' : b = e ∨ b = it := by simpa using hb
        rcases e' with z | z
        · rw [z]; exact hel
        · rw [z]; exact hil
      rw [upd_ne (Nat.ne_of_lt hb')]
      exact (hf b hb).1
  done := by
    intro X hP hw hK hc i pins s σ H E I hf st hg
    subst hP hw hK
    obtain ⟨⟨old, he⟩, hit, hne, hai, hae⟩ := st
    obtain ⟨xs, hq, hx⟩ := hg
    obtain ⟨its, rv, p, hz⟩ := I.tuple hq
    obtain ⟨f0, f1, f2, f3, f4, f5⟩ := hf it (by simp)
    have hl := rv.length
    have hT : s.TypeIs (.ref e) "enumerate" := ⟨_, he, rfl⟩
    unfold pyNext
    refine wpAny_bind (wpAny_attempt (wpAny_callSpecial?_slot (name := Str.ofString "__next__") hT F.slot_enumerate_next
      (wpAny_call_entry F.slot_enumerate_next hT F.entry_enumerate_next ?_ (F.args_enumerate_next_1 _))))
    show wpAny _ _ (field (.ref e) 2 >>= _) _ _ _
    refine wpAny_bind (wpAny_field he rfl (x := .ref it) rfl ?_)
    refine wpAny_bind (wpAny_nextOf_tuple_end (I.ok.hd hc) hit (isTuple_of p) (by simp; omega) fun h' x eb hx' => ?_)
    obtain ⟨o, ho, hc'⟩ := hx'
    refine wpAny_bind (wpAny_isInstance (T := "StopIteration") (b := true) ⟨o, ho, hc'⟩ isSubtype_stop ?_)
    exact wpAny_pure ⟨rfl, I.turned (t' := s.toks) (fun b o hb q => eb b o hb q) f0 f1 f3 f4 f5⟩
  self := fun A i s Q E st h => let ⟨⟨_, he⟩, _⟩ := st; wpAny_pyIter_enum he h
end TH
-- part C15
namespace PySem
theorem th_meets_enum {v : Value} {o : Obj} {H : Heap → Prop} (B : Begins v o H) :
    Meets (Builtin.«enumerate.__new__» ⟨[.type "enumerate", v], []⟩) (fun _ R s => H s.heap ∧
      R (.ok (.ret (.ref (s.heap.push o).objs.size))) { s with heap := (s.heap.push o).push { cls := .type "enumerate", data := .fields #[.none, .bool false, .ref s.heap.objs.size, rawInt 0, .none, .none] } }) :=
  .of_wp fun prog w A R s h => by
    obtain ⟨hp, g, d, tk, os⟩ := s; obtain ⟨h1, h⟩ := h
    have hsub := sub_enumerate
    have q1 : ∀ {A' : Around} {E : Value → Shared → Prop} {Q : Value → Shared → Prop}, Q (.ref hp.objs.size) ⟨hp.push o, g, d, tk, os⟩ → wpAny (model prog w) A' (pyIter v) Q E ⟨hp, g, d, tk, os⟩ :=
      fun q => B.iter prog w _ _ ⟨hp, g, d, tk, os⟩ _ h1 q
    wp_walk using q1
    refine wpAny_stack_any fun st => wpAny_pure ?_
    split
    · rename_i c _ _ _ _ _
      cases (c == Value.type "enumerate")
      · wp_walk using q1
        exact ⟨_, rfl, h⟩
      · wp_walk using q1
        exact ⟨_, rfl, h⟩
    · wp_walk using q1
      exact ⟨_, rfl, h⟩
theorem th_call_enum {prog : Program} {w : World} {A : Around} {E : Value → Shared → Prop} {s : Shared} {v : Value} {o : Obj} {H : Heap → Prop} {Q : Value → Shared → Prop} (B : Begins v o H) (h1 : H s.heap)
    (h : ∀ h', IsEnum h' (s.heap.objs.size + 1) s.heap.objs.size 0 .none → h'.get? s.heap.objs.size = some o → h'.objs.size = s.heap.objs.size + 2 →
      (∀ b o, s.heap.get? b = some o → h'.get? b = some o) → Q (.ref (s.heap.objs.size + 1)) { s with heap := h' }) :
    wpAny (model prog w) A (call (.type "enumerate") [v]) Q E s := by
  refine callType_new F.called_enumerate (by decide) (F.typeCall_enumerate_1 _) (F.newCall_enumerate_1 _) (fun obj => F.args_object_init_2 obj _) F.entry_enumerate_new
    (th_meets_enum B) ⟨h1, ?_⟩
  have hz : (s.heap.push o).objs.size = s.heap.objs.size + 1 := Heap.size_push ..
  show _ ∧ _
  rw [hz]
  have he : IsEnum ((s.heap.push o).push { cls := .type "enumerate", data := .fields #[.none, .bool false, .ref s.heap.objs.size, rawInt 0, .none, .none] }) (s.heap.objs.size + 1) s.heap.objs.size 0 .none := by
    have := Heap.get?_push_size (s.heap.push o) (o := { cls := .type "enumerate", data := .fields #[.none, .bool false, .ref s.heap.objs.size, rawInt 0, .none, .none] }) rfl
    rw [hz] at this; exact this
  refine ⟨⟨_, he, rfl⟩, h _ he (Heap.get?_push_of_some _ (Heap.get?_push_size _ B.free)) (by rw [Heap.size_push, hz]) fun b o x => Heap.get?_push_of_some _ (Heap.get?_push_of_some _ x)⟩
end PySem
namespace TH
open PySem PySem.Spec PyProof.Rows L2
/-! ## enumerate -/
def iEnumA (K : PySem.W.Frag) (ta : TA) : TI := fun σ H R => ta σ H fun vs H1 => ∃ a xs, vs = [.ref a] ∧ ((SqL K H1 a xs ∧ R (Ite K a) H1) ∨ (SqT K H1 a xs ∧ R (IteT K a) H1))
theorem pi_enumA {X : Cx} {e : Expr} {ta : TA} {p pos tpos : Pos} {elts : List Expr} {kk : Nat} (hg : Gl X "enumerate") (hm : X.mg "enumerate" = none) (ha : PA X [e] ta) (hs : starEach [e] X.env = [(false, eval e X.env)] := by rfl) :
    PI X (.Tuple elts kk tpos) (.Call (.Name "enumerate" p) [e] [] pos) (iEnumA X.K ta) := by
  refine ⟨fun pins s σ H R I h => ?_⟩
  refine Call_ (ld_blt I hg hm boot_enumerate (PyProof.Rows.callWith_type1 (thn (ha.run pos pins s σ H _ I h) fun us s1 ⟨vs, H1, I1, r1, q1⟩ => ?_) hs rfl))
  obtain ⟨a, xs, ex, q⟩ := q1
  subst ex
  rw [Vals.ref1 r1]
  have hle : ∀ b, b = s1.heap.objs.size + 1 ∨ b = s1.heap.objs.size → s1.heap.objs.size ≤ b := by
    rintro b (z | z)
    · rw [z]; exact Nat.le_add_right _ _
    · rw [z]; exact Nat.le_refl _
  rcases q with ⟨hq, q⟩ | ⟨hq, q⟩
  · obtain ⟨its, rv, p', hz⟩ := I1.list hq
    refine call_enumerate_list p'.isList fun h' he hit hsz hk => wpAny_pyIter_enum he ?_
    have I2 : Inv X pins σ H1 { s1 with heap := h' } := I1.kept (t' := s1.toks) hk
    refine ⟨s1.heap.objs.size + 1, [s1.heap.objs.size + 1, s1.heap.objs.size], _, _, H1, rfl, I2, turn_enum a (s1.heap.objs.size + 1) s1.heap.objs.size, ⟨⟨.none, he⟩, hit, Nat.succ_ne_self _⟩, fun b hb => ?_, q⟩
    have l := hle b (by simpa using hb)
    exact I1.fpOk l (I1.hok.fresh l)
  · obtain ⟨its, rv, p', hz⟩ := I1.tuple hq
    refine th_call_enum (begins_tuple a its.toArray) (isTuple_of p') fun h' he hit hsz hk => wpAny_pyIter_enum he ?_
    have I2 : Inv X pins σ H1 { s1 with heap := h' } := I1.kept (t' := s1.toks) hk
    have ha' : a < s1.heap.objs.size := p'.lt
    refine ⟨s1.heap.objs.size + 1, [s1.heap.objs.size + 1, s1.heap.objs.size], _, _, H1, rfl, I2, turn_enumT a (s1.heap.objs.size + 1) s1.heap.objs.size, ⟨⟨.none, he⟩, ⟨_, hit, rfl, rfl⟩, Nat.succ_ne_self _, Nat.ne_of_lt ha', Nat.ne_of_lt (Nat.lt_succ_of_lt ha')⟩, fun b hb => ?_, q⟩
    have l := hle b (by simpa using hb)
    exact I1.fpOk l (I1.hok.fresh l)
def itEnum (s : It0) : It0 := ⟨fun i S => match s.nxt i S with
  | some (some x) => some (some (.tup [.int (i : Nat), x]))
  | some none => some none
  | none => none, s.cnt⟩
theorem walks_EL {K : PySem.W.Frag} {f : List Addr} {H : Hp} {p : Addr} {s : It0} (w : Walks K f H s (Itl K p)) : Walks K f H (itEnum s) (Ite K p) := by
  intro f2 S2 H2 i e R2
  have a := w f2 S2 H2 i e R2
  unfold itEnum
  dsimp only
  cases q1 : s.nxt i S2 with
  | none => trivial
  | some o1 =>
    rw [q1] at a
    cases o1 with
    | none => exact a
    | some x =>
      obtain ⟨⟨xs, xv, h1, h2⟩, h3⟩ := a
      refine ⟨⟨xs, xv, h1, h2⟩, fun v H3 y' => ?_⟩
      obtain ⟨T, x', rfl, hT, rfl, hx⟩ := y'
      obtain ⟨_, _, rx⟩ := h3 x' H2 ⟨rfl, fun zs hz => hx zs hz⟩
      have eb := Ext.beside (u := .tup [.int (i : Nat), x']) R2 hT
      exact ⟨eb, R2.beside hT, .tup (SqT.of upd_same) (.cons (.int _) (.cons (rx.mono eb R2) .nil))⟩
theorem walks_ET {K : PySem.W.Frag} {f : List Addr} {H : Hp} {p : Addr} {s : It0} (w : Walks K f H s (Itt K p)) : Walks K f H (itEnum s) (IteT K p) := by
  intro f2 S2 H2 i e R2
  have a := w f2 S2 H2 i e R2
  unfold itEnum
  dsimp only
  cases q1 : s.nxt i S2 with
  | none => trivial
  | some o1 =>
    rw [q1] at a
    cases o1 with
    | none => exact a
    | some x =>
      obtain ⟨⟨xs, xv, h1, h2⟩, h3⟩ := a
      refine ⟨⟨xs, xv, h1, h2⟩, fun v H3 y' => ?_⟩
      obtain ⟨T, x', rfl, hT, rfl, hx⟩ := y'
      obtain ⟨_, _, rx⟩ := h3 x' H2 ⟨rfl, fun zs hz => hx zs hz⟩
      have eb := Ext.beside (u := .tup [.int (i : Nat), x']) R2 hT
      exact ⟨eb, R2.beside hT, .tup (SqT.of upd_same) (.cons (.int _) (.cons (rx.mono eb R2) .nil))⟩
def iEnumM (k : M (List CV)) : M It0 := k.bind fun l => fun _ S => match l with
  | [.tup l] => .ok (itEnum (itT l)) S
  | [.ref n] => match S.get n with
    | some (.lst l) => .ok (itEnum (itL n l)) S
    | _ => .stuck
  | _ => .stuck
section
variable {X : Cx} {Z : ExI} {W : WX} {a b e g o : Expr} {p pos apos : Pos} {k : M (List CV)} {mo mi mx ma mb : M CV}
theorem mi_enum {elts : List Expr} {kk : Nat} {tpos : Pos} (hg : Gl X "enumerate") (hm : X.mg "enumerate" = none) (ha : MA X Z W [a] k) (hs : starEach [a] X.env = [(false, eval a X.env)] := by rfl) :
    MI X Z W (.Tuple elts kk tpos) (.Call (.Name "enumerate" p) [a] [] pos) (iEnumM k) := (pi_enumA hg hm ha hs).imp fun σ H R h => by
  refine (tG.bind (R1 := rVs X.K) h).mono ?_
  rintro vs H1 ⟨f1, c, S1, l, r1, e1, x1, h1⟩
  split at h1
  · cases x1 with
    | cons x1 x2 =>
      cases x2
      cases x1 with
      | tup g1 g2 => exact ⟨_, _, rfl, .inr ⟨g1, h1 f1 H1 _ (Ext.refl r1) r1 (walks_ET (walks_T r1 g1 g2))⟩⟩
  · rename_i n
    cases x1 with
    | cons x1 x2 =>
      cases x2
      split at h1
      · rename_i l hl
        obtain ⟨q, vs, rfl, p1, p2, p3⟩ := r1.lst x1 hl
        exact ⟨q, vs, rfl, .inl ⟨SqL.of p2, h1 f1 H1 _ (Ext.refl r1) r1 (walks_EL (walks_L r1 p1))⟩⟩
      · exact h1.elim
  · exact h1.elim
end
/-! ## dicts whose keys are texts and whole numbers -/
def keyK : CV → Option Key
  | .int i => some (.inl i)
  | .str x => some (.inr x)
  | _ => none
def theDic (S : CS) : CV → Option (List (CV × CV))
  | .ref n => match S.get n with
    | some (.dic l) => some l
    | _ => none
  | _ => none
def kFind (l : List (CV × CV)) (k : Key) : Option CV := match l with
  | [] => none
  | p :: r => if keyK p.1 = some k then some p.2 else kFind r k
def kRepl (k : Key) (v : CV) (p : CV × CV) : CV × CV := if keyK p.1 = some k then (p.1, v) else p
def kPut (l : List (CV × CV)) (kc : CV) (k : Key) (v : CV) : List (CV × CV) := if (kFind l k).isSome = true then l.map (kRepl k v) else l ++ [(kc, v)]
section
variable {K : PySem.W.Frag} {Z : ExI} {f : List Addr} {H : Hp} {S : CS}
theorem KRs.get {l : List (CV × CV)} {kvs : List (Key × V)} (h : KRs K f H l kvs) (k : Key) : match kFind l k with
    | some x => ∃ v, valV kvs k = some v ∧ RV K f H x v
    | none => valV kvs k = none := by
  induction h with
  | nil => exact rfl
  | @int i vc v l xs r t ih =>
    unfold kFind
    by_cases e : (Sum.inl i : Key) = k
    · rw [if_pos (show keyK (.int i) = some k by rw [← e]; rfl)]
      exact ⟨v, valV_pos e, r⟩
    · rw [if_neg (show ¬ keyK (.int i) = some k from fun z => e (Option.some.inj z)), valV_neg (p := (Sum.inl i, v)) e]
      exact ih
  | @str i vc v l xs r t ih =>
    unfold kFind
    by_cases e : (Sum.inr i : Key) = k
    · rw [if_pos (show keyK (.str i) = some k by rw [← e]; rfl)]
      exact ⟨v, valV_pos e, r⟩
    · rw [if_neg (show ¬ keyK (.str i) = some k from fun z => e (Option.some.inj z)), valV_neg (p := (Sum.inr i, v)) e]
      exact ih
theorem KRs.has {l : List (CV × CV)} {kvs : List (Key × V)} (h : KRs K f H l kvs) (k : Key) : (kFind l k).isSome = kvs.any fun kv => decide (kv.1 = k) := by
  rw [valV_any]
  have := h.get k
  split at this
  · rename_i x hx
    obtain ⟨v, hv, _⟩ := this
    rw [hx, hv]
    rfl
  · rename_i hx
    rw [hx, this]
    rfl
theorem KRs.len {l : List (CV × CV)} {kvs : List (Key × V)} (h : KRs K f H l kvs) : l.length = kvs.length := by
  induction h with
  | nil => rfl
  | int _ _ ih => simp [ih]
  | str _ _ ih => simp [ih]
theorem KRs.repl {l : List (CV × CV)} {kvs : List (Key × V)} (h : KRs K f H l kvs) (k : Key) {x : CV} {v : V} (r : RV K f H x v) : KRs K f H (l.map (kRepl k x)) (kvs.map fun kv => if kv.1 = k then (kv.1, v) else kv) := by
  induction h with
  | nil => exact .nil
  | @int i vc w l xs r' t ih =>
    rw [List.map_cons, List.map_cons]
    unfold kRepl
    by_cases e : (Sum.inl i : Key) = k
    · rw [if_pos (show keyK (.int i) = some k by rw [← e]; rfl), if_pos e]
      exact .int r ih
    · rw [if_neg (show ¬ keyK (.int i) = some k from fun z => e (Option.some.inj z)), if_neg e]
      exact .int r' ih
  | @str i vc w l xs r' t ih =>
    rw [List.map_cons, List.map_cons]
    unfold kRepl
    by_cases e : (Sum.inr i : Key) = k
    · rw [if_pos (show keyK (.str i) = some k by rw [← e]; rfl), if_pos e]
      exact .str r ih
    · rw [if_neg (show ¬ keyK (.str i) = some k from fun z => e (Option.some.inj z)), if_neg e]
      exact .str r' ih
theorem KRs.snoc {l : List (CV × CV)} {kvs : List (Key × V)} (h : KRs K f H l kvs) {kc : CV} {k : Key} (hk : keyK kc = some k) {x : CV} {v : V} (r : RV K f H x v) : KRs K f H (l ++ [(kc, x)]) (kvs ++ [(k, v)]) := by
  induction h with
  | nil =>
    unfold keyK at hk
    split at hk
    · cases hk; exact .int r .nil
    · cases hk; exact .str r .nil
    · cases hk
  | int a _ ih => exact .int a ih
  | str a _ ih => exact .str a ih
theorem KRs.put {l : List (CV × CV)} {kvs : List (Key × V)} (h : KRs K f H l kvs) {kc : CV} {k : Key} (hk : keyK kc = some k) {x : CV} {v : V} (r : RV K f H x v) : KRs K f H (kPut l kc k x) (putK kvs k v) := by
  unfold kPut putK
  rw [h.has]
  split
  · exact h.repl k r
  · exact h.snoc hk r
theorem Rel.dic (R : Rel K f H S) {x : CV} {v : V} {l : List (CV × CV)} (rx : RV K f H x v) (h : theDic S x = some l) : ∃ n a kvs, x = .ref n ∧ v = .ref a ∧ f[n]? = some a ∧ H a = some (.dK kvs) ∧ KRs K f H l kvs := by
  unfold theDic at h
  split at h
  · rename_i n
    split at h
    · rename_i k hk
      cases h
      cases rx with
      | ref hf =>
        obtain ⟨o, u, h1, h2, h3⟩ := R.at_ hf
        rw [hk] at h1
        cases h1
        cases h3 with
        | dK t => exact ⟨n, _, _, rfl, rfl, hf, h2, t⟩
    · cases h
  · cases h
theorem keyK_ok {y : CV} {w : V} {k : Key} (ry : RV K f H y w) (h : keyK y = some k) : w = kV k := by
  unfold keyK at h
  split at h
  · cases h; cases ry; rfl
  · cases h; cases ry; rfl
  · cases h
end
def rIxDK : R2 := fun x y H Q => ∃ a v, x = .ref a ∧ DGet H a y (some v) ∧ Q v H
theorem ix_dK {X : Cx} (hu : X.A.units + 1 < cLine) : IxR X rIxDK := by
  intro value slice pins s σ H x y v u Q I rx ry h hs
  obtain ⟨a, r, rfl, g, q⟩ := h
  obtain rfl : v = Value.ref a := rx
  exact tail_any (dict_typeIs I g) PySem.F.slot_dict_getitem.lookup (d_getItem hu I g ry fun w' s' I' rw' => ⟨r, H, I', rw', q⟩) hs
def gIxK : G2 := fun x y S => match theDic S x with
  | some l => match keyK y with
    | some k => match kFind l k with
      | some z => .ok z S
      | none => .stuck
    | none => .stuck
  | none => gIxA x y S
abbrev rIxC (K : PySem.W.Frag) : R2 := fun x y H Q => rIxB K x y H Q ∨ rIxDK x y H Q
theorem ad_ixK {K : PySem.W.Frag} {Z : ExI} : Ad2 K Z (rIxC K) gIxK := by
  intro W σ f S H x y v w Q R rx ry h
  unfold gIxK at h
  split at h
  · rename_i l hl
    obtain ⟨n, a, kvs, rfl, rfl, hf, ha, t⟩ := R.dic rx hl
    split at h
    · rename_i k hk
      have q := t.get k
      split at h
      · rename_i z hz
        rw [hz] at q
        obtain ⟨v, hv, rv⟩ := q
        refine .inr ⟨a, v, rfl, ?_, h.val R rv⟩
        rw [keyK_ok ry hk, ← hv]
        exact DGet.k ha
      · exact h.elim
    · exact h.elim
  · exact .inl (ad_ixA W σ f S H x y v w Q R rx ry h)
def pSetK : G3 := fun o i v S => match theDic S o with
  | some l => match o with
    | .ref n => match keyK i with
      | some k => if l.length < sizeLine then .ok .non (S.put n (.dic (kPut l i k v))) else .stuck
      | none => .stuck
    | _ => .stuck
  | none => pSetA o i v S
def gIdxK (mo mi : M CV) : MGt := fun v => M.bind mo fun o => M.bind mi fun i => fun c S => match pSetK o i v S with
  | .ok _ S' => .ok c S'
  | .exn e x S => .exn e x S
  | .stuck => .stuck
abbrev rSetC (K : PySem.W.Frag) : TSet := fun o i v H Q => rSetB K o i v H Q ∨ rSetD o i v H Q
theorem set_C {X : Cx} (hu : X.A.units + 64 < cLine) : PSet X (rSetC X.K) := by
  intro pins s σ H o i v ov iv u Q I ro ri rv h
  rcases h with h | h
  · exact set_B hu pins s σ H o i v ov iv u Q I ro ri rv h
  · exact set_dict (hu_1 hu) pins s σ H o i v ov iv u Q I ro ri rv h
theorem pSetK_ok {K : PySem.W.Frag} {Z : ExI} {f : List Addr} {H : Hp} {S : CS} {x y z : CV} {o i v : V} {Q : Hp → Prop} {α β : Type} {R1 : RL α β} {W : WX} {σ : L2.St} {k : CS → Out α} {Q' : β → Hp → Prop} (R : Rel K f H S) (rx : RV K f H x o) (ry : RV K f H y i) (rz : RV K f H z v)
    (h : Res K Z R1 W f H σ (match pSetK x y z S with
      | .ok _ S' => k S'
      | .exn e x S => .exn e x S
      | .stuck => .stuck) Q')
    (q : ∀ H' S', Ext f H f H' → Rel K f H' S' → Res K Z R1 W f H σ (k S') Q' → Q H') : rSetC K o i v H Q := by
  unfold pSetK at h
  cases hd : theDic S x with
  | none =>
    rw [hd] at h
    exact .inl (pSetA_ok (k := k) R rx ry rz h q)
  | some l =>
    rw [hd] at h
    obtain ⟨n, a, kvs, rfl, rfl, hf, ha, t⟩ := R.dic rx hd
    dsimp only at h
    cases hk : keyK y with
    | none => rw [hk] at h; exact h.elim
    | some p =>
      rw [hk] at h
      dsimp only at h
      by_cases hl : l.length < sizeLine
      · rw [if_pos hl] at h
        have hm := List.mem_of_getElem? hf
        refine .inr ⟨a, upd H a (.dK (putK kvs p v)), rfl, ?_, ?_⟩
        · rw [keyK_ok ry hk]
          exact DPut.k ha (by rw [← t.len]; exact hl)
        · exact q _ _ (Ext.put R hm) (R.put hf (.dK ((t.put hk rz).grow ((Ext.put R hm).grow R)))) h
      · rw [if_neg hl] at h
        exact h.elim
section
variable {X : Cx} {Z : ExI} {W : WX} {a b d e g o : Expr} {pos apos : Pos} {ma mb md mo mi mx : M CV}
theorem me_ixK (hu : X.A.units + 64 < cLine) (ha : ME X Z W a ma) (hb : ME X Z W b mb) (hs : PlainIx b := by intro _ _; rfl) : ME X Z W (.Subscript a b pos) (e2 gIxK ma mb) :=
  (pe_ix (IxR.or (ix_B (hu_1 hu)) (ix_dK (hu_1 hu))) ha hb hs).imp fun σ H Q h => by
    refine (tG.bind (R1 := rV X.K) h).mono ?_
    rintro v H1 ⟨f1, c, S1, x, r1, e1, x1, h1⟩
    refine (tG.at_ (R1 := rV X.K) r1 e1 h1).mono ?_
    rintro w H2 ⟨f2, S2, y, t2, r2, e2, y2, h2⟩
    exact ad_ixK W σ f2 S2 H2 x y v w Q r2 (x1.mono t2 r1) y2 h2
theorem mg_subK (hu : X.A.units + 64 < cLine) (ho : ME X Z W o mo) (hi : ME X Z W a mi)
    (ha : ∀ v, assign (.Subscript o a pos) X.env v = (do
      let ov ← holding [v] (eval o X.env)
      let iv ← holding [v, ov] (eval a X.env)
      standAt pos
      holding [v, ov, iv] (setItem ov iv v)
      release [v, ov, iv] []) := by intro _; rfl) : MG X Z W (.Subscript o a pos) (gIdxK mo mi) := (pg_sub ho hi (set_C hu) ha).imp fun v σ H Q h => by
  obtain ⟨f, c, S, x, r, e, rx, h⟩ := h
  refine (TH.tG.at_ (R1 := rV X.K) (R2 := rEn X.K) r e h).mono ?_
  rintro ov H1 ⟨f1, S1, y, t1, r1, e1, y1, h1⟩
  refine (TH.tG.at_ (R1 := rV X.K) (R2 := rEn X.K) r1 e1 h1).mono ?_
  rintro iv H2 ⟨f2, S2, z, t2, r2, e2, z2, h2⟩
  refine pSetK_ok (k := fun S' => .ok c S') r2 (y1.mono t2 r1) z2 ((rx.mono t1 r).mono t2 r1) h2 fun H' S' x' r' q => ?_
  exact q f2 H' σ x' r' (e2.mono x' r2)
end
end TH
-- part C16
namespace TH
open PySem PySem.Spec PyProof.Rows L2
/-! ## a list that is read alone -/
def oneFz : List CV → Option (List CV)
  | [.fz l] => some l
  | _ => none
section
variable {K : PySem.W.Frag} {Z : ExI} {f : List Addr} {H : Hp} {S : CS}
theorem oneFz_ok {xs : List CV} {vs : List V} {l : List CV} (r : RVs K f H xs vs) (h : oneFz xs = some l) : ∃ a ys, vs = [.ref a] ∧ FzL K H a ys ∧ RVs K f H l ys := by
  unfold oneFz at h
  split at h
  · cases h
    cases r with
    | cons a b =>
      cases b
      cases a with
      | fz h1 r1 => exact ⟨_, _, rfl, h1, r1⟩
  · cases h
end
def gLenB : GC := fun xs S => match oneFz xs with
  | some l => .ok (.int l.length) S
  | none => gLenA xs S
def gListB : GC := fun xs S => match oneFz xs with
  | some l => .ok (.ref S.n) (S.push (.lst l))
  | none => gListA xs S
theorem ad_lenB {K : PySem.W.Frag} {Z : ExI} : AdC K Z (rLenB K) gLenB := by
  intro W σ f S H xs vs Q R r h
  unfold gLenB at h
  split at h
  · rename_i l hl
    obtain ⟨a, ys, rfl, hs, hr⟩ := oneFz_ok r hl
    exact .inl ⟨_, _, rfl, .inl ⟨_, hs.seq, rfl⟩, by rw [← hr.len]; exact h.val R (.int _)⟩
  · exact ad_lenA W σ f S H xs vs Q R r h
theorem ad_listB {K : PySem.W.Frag} {Z : ExI} : AdC K Z (rListB K) gListB := by
  intro W σ f S H xs vs Q R r h
  unfold gListB at h
  split at h
  · rename_i l hl
    obtain ⟨a, ys, rfl, hs, hr⟩ := oneFz_ok r hl
    exact .inl ⟨a, ys, rfl, .inl hs.seq, fun p hp => h.new R (.lst hr) hp⟩
  · exact ad_listA W σ f S H xs vs Q R r h
theorem walks_F {K : PySem.W.Frag} {f : List Addr} {H : Hp} {a : Addr} {l : List CV} {vs : List V} (h : FzL K H a vs) (r : RVs K f H l vs) : Walks K f H (itT l) (Itl K a) := by
  intro f2 S2 H2 i e R2
  have h2 := (e.fzl _ _ h).seq
  have r2 := r.grow e
  show match some l[i]? with
    | some (some x) => _
    | some none => _
    | none => True
  cases q : l[i]? with
  | none =>
    refine ⟨vs, h2, ?_⟩
    rw [← r.len]
    exact List.getElem?_eq_none_iff.mp q
  | some x =>
    obtain ⟨v, g3, g4⟩ := r2.at_ q
    refine ⟨⟨vs, v, h2, g3⟩, fun w H3 y => ?_⟩
    obtain ⟨rfl, y⟩ := y
    refine ⟨Ext.refl R2, R2, ?_⟩
    have := y vs h2
    rw [g3] at this
    cases this
    exact g4
def iSeqB (m : M CV) : M It0 := m.bind fun x => fun _ S => match oneFz [x] with
  | some l => .ok (itT l) S
  | none => match x with
    | .tup l => .ok (itT l) S
    | .ref n => match S.get n with
      | some (.lst l) => .ok (itL n l) S
      | _ => .stuck
    | _ => .stuck
section
variable {X : Cx} {Z : ExI} {W : WX} {tg a b e g o : Expr} {es : List Expr} {p p2 p3 pos apos : Pos} {mo mi mx ma mb : M CV} {k : M (List CV)}
theorem mi_seqB (ha : ME X Z W a ma) : MI X Z W tg a (iSeqB ma) :=
  (pi_seq ha).imp fun σ H R h => by
    refine (tG.bind (R1 := rV X.K) h).mono ?_
    rintro v H1 ⟨f1, c, S1, x, r1, e1, x1, h1⟩
    split at h1
    · rename_i l hl
      obtain ⟨a, ys, e, hs, hr⟩ := oneFz_ok (.cons x1 .nil) hl
      cases e
      exact .inl ⟨a, ys, rfl, hs.seq, h1 f1 H1 _ (Ext.refl r1) r1 (walks_F hs hr)⟩
    · split at h1
      · cases x1 with
        | tup g1 g2 => exact .inr ⟨_, _, rfl, g1, h1 f1 H1 _ (Ext.refl r1) r1 (walks_T r1 g1 g2)⟩
      · split at h1
        · rename_i l hl
          obtain ⟨q, vs, rfl, p1, p2, p3⟩ := r1.lst x1 hl
          exact .inl ⟨q, vs, rfl, SqL.of p2, h1 f1 H1 _ (Ext.refl r1) r1 (walks_L r1 p1)⟩
        · exact h1.elim
      · exact h1.elim
/-! ## xs[::-1] -/
def eRev (m : M CV) : M CV := m.bind fun x => fun _ S => match x with
  | .ref n => match S.get n with
    | some (.lst l) => .ok (.ref S.n) (S.push (.lst l.reverse))
    | _ => .stuck
  | _ => .stuck
theorem RVs.rev {K : PySem.W.Frag} {f : List Addr} {H : Hp} : ∀ {l : List CV} {vs : List V}, RVs K f H l vs → RVs K f H l.reverse vs.reverse
  | [], _, .nil => .nil
  | x :: l, _, .cons a t => by
    rw [List.reverse_cons, List.reverse_cons]
    exact (RVs.rev t).app (.cons a .nil)
theorem me_rev {kk : Nat} {p1 : Pos} (he : ME X Z W e ma) : ME X Z W (.Subscript e (.Slice none none (some (.UnaryOp .USub (.Constant (.int 1) kk p1) p2)) p3) pos) (eRev ma) :=
  (pe_revL he).imp fun σ H Q h => by
    refine (tG.bind (R1 := rV X.K) h).mono ?_
    rintro v H1 ⟨f1, c, S1, x, r1, e1, x1, h1⟩
    split at h1
    · split at h1
      · rename_i l hl
        obtain ⟨q, vs, rfl, p1, p2, p3⟩ := r1.lst x1 hl
        exact ⟨q, vs, rfl, SqL.of p2, fun p hp => h1.new r1 (.lst p3.rev) hp⟩
      · exact h1.elim
    · exact h1.elim
end
/-! ## sum of a tuple -/
def rSumT (K : PySem.W.Frag) : List V → Hp → VK → Prop := fun vs H Q => ∃ (a : Addr) (ns : List Int), vs = [V.ref a] ∧ SqT K H a (ns.map V.int) ∧ Q (.int ns.sum) H
theorem cr_sumT {X : Cx} (hc : X.calm = true) : CallR X (.builtin "sum") (rSumT X.K) := by
  intro pins s σ H vs us Q I r h
  obtain ⟨a, ns, rfl, hs, q⟩ := h
  obtain ⟨its, rv, ht, _⟩ := I.tuple hs
  rw [Vals.ref1 r]
  have hi := rv.ints
  have hl := isTuple_of ht
  obtain ⟨xs, hx⟩ := hi.allInts.items
  have hn : numsOf its.toArray.toList = ns := by rw [show its.toArray.toList = its from rfl, hi.numsOf]
  rw [hx] at hl hn
  rw [nums_intItems] at hn
  refine PySem.W.ktm_sumG (I.ok.hd hc) hl fun h' tk t' hk => ?_
  rw [preSum_eq, List.take_of_length_le (by simp), hn]
  exact ⟨.int _, H, I.kept hk, ⟨_, rfl⟩, q⟩
def gSumA : GC := fun xs S => match xs with
  | [.tup l] => match intsC l with
    | some ns => .ok (.int ns.sum) S
    | none => .stuck
  | xs => gSum xs S
abbrev rSumB (K : PySem.W.Frag) : List V → Hp → VK → Prop := fun xs H Q => rSum K xs H Q ∨ rSumT K xs H Q
theorem cr_sumB {X : Cx} (hc : X.calm = true) : CallR X (.builtin "sum") (rSumB X.K) := CallR.or (cr_sum hc) (cr_sumT hc)
theorem ad_sumA {K : PySem.W.Frag} {Z : ExI} : AdC K Z (rSumB K) gSumA := by
  intro W σ f S H xs vs Q R r h
  unfold gSumA at h
  split at h
  · split at h
    · rename_i ns hn
      cases r with
      | cons a b =>
        cases b
        cases a with
        | tup g1 g2 =>
          have e := intsC_ok g2 hn
          subst e
          exact .inr ⟨_, ns, rfl, g1, h.val R (.int _)⟩
    · exact h.elim
  · exact .inl (ad_sum W σ f S H _ vs Q R r h)
/-! ## d.get(k, x) of a written dict of whole numbers, the key there -/
def eKGet (tab : List (Str × Int)) (mi mx : M CV) : M CV := mi.bind fun y => mx.bind fun _ => fun _ S => match y with
  | .str w => match tab.lookup w with
    | some i => .ok (.int i) S
    | none => .stuck
  | _ => .stuck
def tKGet (K : PySem.W.Frag) (w : World) (a : Addr) (ty tx : TE) : TE := fun σ H Q => ty σ H fun y H1 => tx σ H1 fun _ H2 => ∃ z v, y = .str z ∧ KDct K w a z v ∧ Q v H2
section
variable {X : Cx} {Z : ExI} {W : WX} {e g : Expr} {p pos apos : Pos} {mi mx : M CV} {x : Str} {a : Addr}
theorem pe_kget {ty tx : TE} (hg : Gl X x) (hm : X.mg x = some (.ref a)) (hd : (a == sysModules) = false) (hD : ∃ z v, KDct X.K X.w a z v) (he : PE X e ty) (hf : PE X g tx) (m : M2 X (.Name x p) "get" apos e g pos) (hdb : (x == ("__debug__" : Str)) = false := by decide) :
    PE X (.Call (.Attribute (.Name x p) "get" apos) [e, g] [] pos) (tKGet X.K X.w a ty tx) := by
  refine ⟨fun pins s σ H Q I h => ?_⟩
  have ho : PE X (.Name x p) (tC (.ref a)) := pe_glob hg hm rfl hdb
  refine wpAny_Call_method m.base m.few m.line PySem.F.plainAttrs_dict PySem.F.slot_dict_get PySem.F.type_dict_get (thn (ho.run pins s σ H (fun v H1 => v = .ref a ∧ H1 = H) I ⟨rfl, rfl⟩) fun u s1 ⟨v, H1, I1, rx, ev, eH⟩ => ?_)
  subst ev eH
  obtain rfl : u = Value.ref a := rx
  obtain ⟨z0, v0, es, n, u0, hl, hk', e0, ru0⟩ := hD
  have hm' := PySem.W.mapOf_K (prog := X.prog) (w := X.w) I1.kIn hl hk'
  refine ⟨hm'.typeIs, hm'.noDict, ?_⟩
  rw [m.trees]
  refine Calls.callWith_builtin rfl (Calls.evalArgs_plain (Calls.spliced_cons (thn (he.run pins s1 σ H1 _ I1 h) fun iv s2 ⟨y, H2, I2, ry, q2⟩ =>
    Calls.spliced_cons (thn (hf.run pins s2 σ H2 _ I2 q2) fun fv s3 ⟨z, H3, I3, rz, w, r, ey, hK, q3⟩ => Calls.spliced_nil ?_))))
  subst ey
  obtain ⟨t, rfl⟩ := (show ∃ t, iv = Value.str w t from ry)
  obtain ⟨es2, n2, u2, hl2, hk2, e2, ru2⟩ := hK
  have hm3 := PySem.W.mapOf_K (prog := X.prog) (w := X.w) I3.kIn hl2 hk2
  refine call_meetsIn PySem.F.slot_dict_get hm3.typeIs PySem.F.entry_dict_get (PySem.F.args_dict_get_3 _ _ _) (meets_dict_get_default (strKind X.prog X.w) a (strKind_is X.prog X.w w t) hd fv) ⟨_, hm3, ?_⟩
  refine ⟨r, H3, I3.tok _, ?_, q3⟩
  have e3 := PySem.W.find_K hl2 e2
  rw [e3]
  exact ru2
theorem me_kget {tab : List (Str × Int)} {z0 : Str} {i0 : Int} (hg : Gl X x) (hm : ∃ a, X.mg x = some (.ref a) ∧ (a == sysModules) = false ∧ ∀ z i, tab.lookup z = some i → KDct X.K X.w a z (.int i)) (h0 : tab.lookup z0 = some i0) (he : ME X Z W e mi) (hf : ME X Z W g mx)
    (m : M2 X (.Name x p) "get" apos e g pos := by exact ⟨rfl, rfl, rfl, rfl⟩) (hdb : (x == ("__debug__" : Str)) = false := by decide) : ME X Z W (.Call (.Attribute (.Name x p) "get" apos) [e, g] [] pos) (eKGet tab mi mx) := by
  obtain ⟨a, hm, hd, ht⟩ := hm
  refine (pe_kget hg hm hd ⟨z0, _, ht z0 i0 h0⟩ he hf m hdb).imp fun σ H Q h => ?_
  refine (tG.bind (R1 := rV X.K) h).mono ?_
  rintro v H1 ⟨f1, c, S1, y, r1, e1, y1, h1⟩
  refine (tG.at_ (R1 := rV X.K) r1 e1 h1).mono ?_
  rintro w H2 ⟨f2, S2, z, t2, r2, e2, z2, h2⟩
  split at h2
  · rename_i w
    split at h2
    · rename_i i hi
      cases y1
      exact ⟨w, _, rfl, ht w i hi, h2.val r2 (.int _)⟩
    · exact h2.elim
  · exact h2.elim
end
end TH
-- part C17
namespace TH
open PySem PySem.Spec PyProof.Rows L2
/-! ## {'a': x, ..} -/
def eDispP : List (Str × M CV) → M (List (Str × CV))
  | [] => fun _ S => .ok [] S
  | p :: l => M.bind p.2 fun x => M.bind (eDispP l) fun r => fun _ S => .ok ((p.1, x) :: r) S
def kMerge (acc : List (CV × CV)) : List (Str × CV) → List (CV × CV)
  | [] => acc
  | p :: l => kMerge (kPut acc (.str p.1) (.inr p.1) p.2) l
def eDisp (l : List (Str × M CV)) : M CV := fun c S => (eDispP l c (S.push (.dic []))).bind fun ps S' => match S'.get S.n with
  | some (.dic []) => if ps.length ≤ 15 then .ok (.ref S.n) (S'.put S.n (.dic (kMerge [] ps))) else .stuck
  | _ => .stuck
section
variable {K : PySem.W.Frag} {Z : ExI} {W : WX} {f : List Addr} {H : Hp} {S : CS} {c : CE} {σ : L2.St}
inductive PRs (K : PySem.W.Frag) (f : List Addr) (H : Hp) : List (Str × CV) → List (Key × V) → Prop
  | nil : PRs K f H [] []
  | cons {x : Str} {y : CV} {v : V} {l : List (Str × CV)} {kvs : List (Key × V)} : RV K f H y v → PRs K f H l kvs → PRs K f H ((x, y) :: l) ((.inr x, v) :: kvs)
abbrev rPs (K : PySem.W.Frag) : RL (List (Str × CV)) (List (V × V)) := fun f H l vs => ∃ kvs, PRs K f H l kvs ∧ vs = kvs.map fun kv => (kV kv.1, kv.2)
theorem PRs.len {l : List (Str × CV)} {kvs : List (Key × V)} (h : PRs K f H l kvs) : l.length = kvs.length := by
  induction h with
  | nil => rfl
  | cons _ _ ih => simp [ih]
theorem PRs.merge {l : List (Str × CV)} {kvs : List (Key × V)} (h : PRs K f H l kvs) : ∀ {acc : List (CV × CV)} {k0 : List (Key × V)}, KRs K f H acc k0 → KRs K f H (kMerge acc l) (mergeK k0 kvs) := by
  induction h with
  | nil => intro acc k0 r; exact r
  | cons a _ ih =>
    intro acc k0 r
    exact ih (r.put (kc := .str _) rfl a)
theorem disp_ok : ∀ (l : List (Str × M CV)) {f : List Addr} {H : Hp} {S : CS} {c : CE} {Q : List (V × V) → Hp → Prop}, Rel K f H S → RE K f H c σ → Res K Z (rPs K) W f H σ (eDispP l c S) Q →
    tPairs (l.map fun p => (tC (.str p.1), tG K Z (rV K) W p.2)) σ H Q
  | [], f, H, S, c, Q, R, e, h => h f H [] (Ext.refl R) R ⟨[], .nil, rfl⟩
  | (x, m) :: l, f, H, S, c, Q, R, e, h => by
    refine (TH.tG.at_ (R1 := rV K) (R2 := rPs K) (m := m) (k := fun x' => M.bind (eDispP l) fun r => fun _ S => .ok ((x, x') :: r) S) R e h).mono ?_
    rintro v H1 ⟨f1, S1, y, t1, r1, e1, y1, h1⟩
    refine disp_ok l r1 e1 ?_
    have h2 := Res.bind (R1 := rPs K) (R2 := rPs K) (o := eDispP l c S1) (k := fun r S => .ok ((x, y) :: r) S) h1
    refine h2.mono ?_
    rintro vs H2 ⟨f2, S2, r, t2, r2, ⟨kvs, hp, ev⟩, h3⟩
    subst ev
    exact h3 f2 H2 ((V.str x, v) :: kvs.map fun kv => (kV kv.1, kv.2)) (Ext.refl r2) r2 ⟨(.inr x, v) :: kvs, .cons (y1.mono t2 r1) hp, rfl⟩
end
section
variable {X : Cx} {Z : ExI} {W : WX} {pos : Pos} {l : List (Str × M CV)} {keys : List (Option Expr)} {values : List Expr}
theorem me_disp (h : PPs X pos keys values (l.map fun p => (tC (.str p.1), tG X.K Z (rV X.K) W p.2))) (hall : keys.all (·.isSome) = true) (hl : keys.length = values.length) (h0 : keys ≠ []) (h15 : keys.length ≤ 15) :
    ME X Z W (.Dict keys values pos) (eDisp l) := (pe_disp h hall hl h0 h15).imp fun σ H Q h => by
  obtain ⟨f, c, S, R, e, h⟩ := h
  intro p hp
  have x0 := Ext.push (u := .dK []) R hp
  have R1 : Rel X.K (f ++ [p]) (upd H p (.dK [])) (S.push (.dic [])) := R.push hp (.dK .nil)
  refine disp_ok (K := X.K) (Z := Z) (W := W) l R1 (e.mono x0 R) ?_
  have h' := h.shift x0
  have h2 := Res.bind (R1 := rPs X.K) (R2 := rV X.K) (o := eDispP l c (S.push (.dic []))) (k := fun ps S' => match S'.get S.n with
    | some (.dic []) => if ps.length ≤ 15 then .ok (.ref S.n) (S'.put S.n (.dic (kMerge [] ps))) else .stuck
    | _ => .stuck) h'
  refine h2.mono ?_
  rintro vs H2 ⟨f2, S2, ps, t2, r2, ⟨kvs, hp2, ev⟩, h3⟩
  have hf : f2[S.n]? = some p := t2.get (by rw [← R.len]; simp)
  split at h3
  · rename_i hg
    obtain ⟨n, a, k0, e1, e2, hf2, ha, t⟩ := r2.dic (x := .ref S.n) (v := .ref p) (.ref hf) (l := []) (by simp only [theDic, hg])
    cases e2
    cases t
    split at h3
    · rename_i hps
      exact ⟨ha, kvs, ev, by rw [← hp2.len]; exact hps, h3.put r2 hf (.dK (hp2.merge .nil)) (.ref hf)⟩
    · exact h3.elim
  · exact h3.elim
theorem pps_c {k : Str} {kk : Nat} {kp : Pos} {v : Expr} {ks : List (Option Expr)} {vs : List Expr} {m : M CV} {trs : List (TE × TE)} (hv : ME X Z W v m) (hr : PPs X pos ks vs trs) :
    PPs X pos (some (.Constant (.str k) kk kp) :: ks) (v :: vs) ((tC (.str k), tG X.K Z (rV X.K) W m) :: trs) := pps_cons pe_str hv hr
end
end TH
-- part C18
namespace TH
open PySem PySem.Spec PyProof.Rows L2
section
variable {X : Cx} {Z : ExI} {W : WX} {x : Str} {p pos : Pos} {e : Expr} {es : List Expr} {k : M (List CV)}
theorem me_gn {lv n : Nat} {ps : List Str} {mf : GC} (D : Def X.prog X.w X.K X.mg X.base Z x lv ps mf) (hn : ps.length = n) (hr : Room lv X.A) (hg : Gl X x) (tk : Takes X W) (ha : MA X Z W (e :: es) k) (hdb : (x == ("__debug__" : Str)) = false := by decide)
    (he : starEach (e :: es) X.env = (false, eval e X.env) :: starEach es X.env := by rfl) (hpl : (backTo pos (starEach es X.env)).any (·.1) = false := by rfl) : ME X Z W (.Call (.Name x p) (e :: es) [] pos) (eCall (gG n mf) k) := by
  subst hn
  exact me_g D hr hg tk ha hdb he hpl
theorem me_pn {lv n : Nat} {ps : List Str} {mf : GC} (D : Def X.prog X.w X.K X.mg X.base Z x lv ps mf) (hn : ps.length = n) (hr : Room lv X.A) (hg : Gl X x) (tk : Takes X W) (ha : MA X Z W (e :: es) k) (hdb : (x == ("__debug__" : Str)) = false := by decide)
    (he : starEach (e :: es) X.env = (false, eval e X.env) :: starEach es X.env := by rfl) (hpl : (backTo pos (starEach es X.env)).any (·.1) = false := by rfl) : ME X Z W (.Call (.Name x p) (e :: es) [] pos) (eCall (gP n mf) k) := by
  subst hn
  exact me_p D hr hg tk ha hdb he hpl
end
end TH
-- part t1
namespace TT
open PySem PySem.Spec PyProof.Rows L2 TH
def topS (i : Nat) : Stmt := PySem.Challenge.pw_tacthouse_k17_laid_by_hand.main.body.getD i (.Pass ⟨0, 0, 0, 0⟩)
theorem hu_64 {k : Nat} {A : Around} (r : Room k A) : A.units + 64 < cLine := r.units
def k_SIZES : List (Str × Int) := [("then", 3), ("again", 3), ("up", 3), ("turned", 2), ("back", 2), ("slow", 3), ("ends", 3)]
structure Tx (w : World) (K : PySem.W.Frag) (mg : Str → Option Value) : Prop where
  z_all : mg "all" = none
  z_bool : mg "bool" = none
  z_enumerate : mg "enumerate" = none
  z_gcd : mg "gcd" = some (.builtin "math.gcd")
  z_int : mg "int" = none
  z_isinstance : mg "isinstance" = none
  z_len : mg "len" = none
  z_list : mg "list" = none
  z_max : mg "max" = none
  z_min : mg "min" = none
  z_range : mg "range" = none
  z_reversed : mg "reversed" = none
  z_sorted : mg "sorted" = none
  z_str : mg "str" = none
  z_sum : mg "sum" = none
  z_tuple : mg "tuple" = none
  z_zip : mg "zip" = none
  k_SIZES : ∃ a, mg "SIZES" = some (.ref a) ∧ (a == sysModules) = false ∧ ∀ z i, k_SIZES.lookup z = some i → KDct K w a z (.int i)
  c_HIGHEST : ∃ t, mg "HIGHEST" = some (.int 60 t)
  c_LONGEST : ∃ t, mg "LONGEST" = some (.int 96 t)
  c_MOST_ASKED : ∃ t, mg "MOST_ASKED" = some (.int 200 t)
  c_MOST_BEATS : ∃ t, mg "MOST_BEATS" = some (.int 96 t)
  c_MOST_LENGTH : ∃ t, mg "MOST_LENGTH" = some (.int 10000000000000000000000000000000000000000 t)
  c_MOST_PRIME : ∃ t, mg "MOST_PRIME" = some (.int 95 t)
  c_MOST_PRIMES : ∃ t, mg "MOST_PRIMES" = some (.int 2 t)
  c_MOST_SIGNS : ∃ t, mg "MOST_SIGNS" = some (.int 40 t)
  s_is_integer : Src K mg "is_integer" (topS 9) ["thing"]
  s_is_from_to : Src K mg "is_from_to" (topS 10) ["thing", "low", "high"]
  s_is_row : Src K mg "is_row" (topS 11) ["thing", "least", "most"]
  s_is_ascending : Src K mg "is_ascending" (topS 12) ["thing", "low"]
  s_is_ascending_to : Src K mg "is_ascending_to" (topS 13) ["thing", "low", "high"]
  s_is_rhythm : Src K mg "is_rhythm" (topS 16) ["thing"]
  s_need_rhythm : Src K mg "need_rhythm" (topS 17) ["rhythm"]
  s_is_event : Src K mg "is_event" (topS 24) ["thing"]
  s_is_event_row : Src K mg "is_event_row" (topS 25) ["thing"]
  s_row_length : Src K mg "row_length" (topS 26) ["row"]
  s_is_block : Src K mg "is_block" (topS 27) ["thing"]
  s_is_third : Src K mg "is_third" (topS 28) ["word", "thing", "many"]
  s_is_sign : Src K mg "is_sign" (topS 29) ["thing", "many"]
  s_named_parts : Src K mg "named_parts" (topS 30) ["sign"]
  s_slowing : Src K mg "slowing" (topS 31) ["sign"]
  s_block_measure : Src K mg "block_measure" (topS 32) ["block"]
  s_part_measure : Src K mg "part_measure" (topS 33) ["sign", "ahead"]
  s_measure_of : Src K mg "measure_of" (topS 34) ["sign", "ahead"]
  s_first_bad : Src K mg "first_bad" (topS 35) ["signs"]
  s_check_signs : Src K mg "check_signs" (topS 36) ["thing"]
  s_lengths_of : Src K mg "lengths_of" (topS 37) ["score"]
  s_top_of : Src K mg "top_of" (topS 40) ["score"]
  s_parts_of : Src K mg "parts_of" (topS 41) ["score", "varied"]
  s_block_events : Src K mg "block_events" (topS 42) ["score", "varied", "voice"]
  s_asked_of : Src K mg "asked_of" (topS 43) ["score"]
  s_rising : Src K mg "rising" (topS 44) ["asked"]
  s_need_score : Src K mg "need_score" (topS 46) ["thing"]
  s_voice_count : Src K mg "voice_count" (topS 49) ["score"]
  s_need_voice : Src K mg "need_voice" (topS 47) ["score", "voice"]
  s_need_both : Src K mg "need_both" (topS 48) ["score", "voice"]
  s_block_row : Src K mg "block_row" (topS 52) ["events", "beats"]
  s_put_copies : Src K mg "put_copies" (topS 53) ["row", "part", "begin", "span", "many"]
  s_laid : Src K mg "laid" (topS 51) ["score", "voice", "beats"]
  s_strikes_once : Src K mg "strikes_once" (topS 54) ["score", "voice", "beats"]
  s_is_prime : Src K mg "is_prime" (topS 57) ["thing"]
  s_primes_of : Src K mg "primes_of" (topS 58) ["number"]
  s_times_in : Src K mg "times_in" (topS 59) ["prime", "number"]
  s_power_of : Src K mg "power_of" (topS 60) ["prime", "many"]
  s_rest_counts : Src K mg "rest_counts" (topS 61) ["strokes", "divisor"]
  s_is_fair_floor : Src K mg "is_fair_floor" (topS 62) ["rhythm", "prime", "floor"]
  s_floors_of : Src K mg "floors_of" (topS 63) ["rhythm", "prime"]
  s_is_pair_fair : Src K mg "is_pair_fair" (topS 64) ["rhythm", "prime", "floor", "other", "far"]
  s_unfair_pair : Src K mg "unfair_pair" (topS 65) ["rhythm"]
  s_need_few_primes : Src K mg "need_few_primes" (topS 68) ["rhythm"]
  s_entries_by_floors : Src K mg "entries_by_floors" (topS 71) ["rhythm"]
  s_reason_against : Src K mg "reason_against" (topS 70) ["rhythm"]
  s_entries_of : Src K mg "entries_of" (topS 69) ["rhythm"]
  s__law_begun : Src K mg "_law_begun" (topS 73) ["script"]
  s__law_next : Src K mg "_law_next" (topS 74) ["m", "many"]
  s__law_entered : Src K mg "_law_entered" (topS 75) ["beats", "strokes", "entries"]
  s_law : Src K mg "law" (topS 76) ["script"]
section
variable {P : Program} {w : World} {K : PySem.W.Frag} {mg : Str → Option Value} {base : Heap} {Z : ExI}
abbrev st_is_integer : Stmt := topS 9
abbrev N_is_integer : List Str := ["thing"]
theorem sc_is_integer : FnScope N_is_integer ["thing"] (defScope st_is_integer) := ⟨rfl, rfl, rfl, by decide +kernel, rfl, by decide +kernel, by decide +kernel⟩
def b_is_integer : MS := (sRet (eAndT (eCall gIsi (aCons (eV 0) (aCons (eC (.ty "int")) aNil))) (eNotT (eCall gIsi (aCons (eV 0) (aCons (eC (.ty "bool")) aNil))))))
abbrev m_is_integer : GC := runB 1 b_is_integer
theorem d_is_integer (T : Tx w K mg)  : Def P w K mg base Z "is_integer" 1 ["thing"] m_is_integer := def_okX T.s_is_integer sc_is_integer fun f cdv A outer s H E hr tk hp =>
  have nd := sc_is_integer.nd
  ((ms_one (ms_ret (me_andT (me_callB call_isi ad_isi (by rfl) T.z_isinstance (by decide +kernel) (ma_cons (me_v 0) (ma_cons (me_ty (by rfl) T.z_int (by decide +kernel)) ma_nil))) (me_one (me_notT (me_callB call_isi ad_isi (by rfl) T.z_isinstance (by decide +kernel) (ma_cons (me_v 0) (ma_cons (me_ty (by rfl) T.z_bool (by decide +kernel)) ma_nil)))))))))
abbrev st_is_from_to : Stmt := topS 10
abbrev N_is_from_to : List Str := ["thing", "low", "high"]
theorem sc_is_from_to : FnScope N_is_from_to ["thing", "low", "high"] (defScope st_is_from_to) := ⟨rfl, rfl, rfl, by decide +kernel, rfl, by decide +kernel, by decide +kernel⟩
def b_is_from_to : MS := (sRet (eAndT (eCall (gP 1 m_is_integer) (aCons (eV 0) aNil)) (e3 (gI fun i j => decide (i ≤ j)) (gI fun i j => decide (i ≤ j)) (eV 1) (eV 0) (eV 2))))
abbrev m_is_from_to : GC := runB 3 b_is_from_to
theorem d_is_from_to (T : Tx w K mg) (h_is_integer : Def P w K mg base Z "is_integer" 1 ["thing"] m_is_integer) : Def P w K mg base Z "is_from_to" 2 ["thing", "low", "high"] m_is_from_to := def_okX T.s_is_from_to sc_is_from_to fun f cdv A outer s H E hr tk hp =>
  have nd := sc_is_from_to.nd
  ((ms_one (ms_ret (me_andT (me_pn h_is_integer rfl (hr.mono (by decide)) (by rfl) tk (ma_cons (me_v 0) ma_nil)) (me_one (me_chain op_le ad_I op_le ad_I (me_v 1) (me_v 0) (me_v 2)))))))
abbrev st_is_row : Stmt := topS 11
abbrev N_is_row : List Str := ["thing", "least", "most"]
theorem sc_is_row : FnScope N_is_row ["thing", "least", "most"] (defScope st_is_row) := ⟨rfl, rfl, rfl, by decide +kernel, rfl, by decide +kernel, by decide +kernel⟩
def b_is_row : MS := (sRet (eAndT (eCall gIsi (aCons (eV 0) (aCons (eC (.ty "tuple")) aNil))) (e3 (gI fun i j => decide (i ≤ j)) (gI fun i j => decide (i ≤ j)) (eV 1) (eCall gLenB (aCons (eV 0) aNil)) (eV 2))))
abbrev m_is_row : GC := runB 3 b_is_row
theorem d_is_row (T : Tx w K mg)  : Def P w K mg base Z "is_row" 1 ["thing", "least", "most"] m_is_row := def_okX T.s_is_row sc_is_row fun f cdv A outer s H E hr tk hp =>
  have nd := sc_is_row.nd
  ((ms_one (ms_ret (me_andT (me_callB call_isi ad_isi (by rfl) T.z_isinstance (by decide +kernel) (ma_cons (me_v 0) (ma_cons (me_ty (by rfl) T.z_tuple (by decide +kernel)) ma_nil))) (me_one (me_chain op_le ad_I op_le ad_I (me_v 1) (me_callB cr_lenB ad_lenB (by rfl) T.z_len (by decide +kernel) (ma_cons (me_v 0) ma_nil)) (me_v 2)))))))
abbrev st_is_ascending : Stmt := topS 12
abbrev N_is_ascending : List Str := ["thing", "low", "least", "number"]
theorem sc_is_ascending : FnScope N_is_ascending ["thing", "low"] (defScope st_is_ascending) := ⟨rfl, rfl, rfl, by decide +kernel, rfl, by decide +kernel, by decide +kernel⟩
def b_is_ascending : MS := (sSeq (sIf (bNot (bTru (eCall gIsi (aCons (eV 0) (aCons (eC (.ty "tuple")) aNil))))) (sRet (eC (.bl false))) sNil)
  (sSeq (sAsg (eV 1) (gN 2))
  (sSeq (sFor (iSeqB (eV 0)) (.nm 3) (sSeq (sIf (bOr (bNot (bTru (eCall (gP 1 m_is_integer) (aCons (eV 3) aNil)))) (bVal (e2 (gI fun i j => decide (i < j)) (eV 3) (eV 2)))) (sRet (eC (.bl false))) sNil)
  (sAsg (e2 gAdd (eV 3) (eC (.int 1))) (gN 2))))
  (sRet (eC (.bl true))))))
abbrev m_is_ascending : GC := runB 4 b_is_ascending
theorem d_is_ascending (T : Tx w K mg) (h_is_integer : Def P w K mg base Z "is_integer" 1 ["thing"] m_is_integer) : Def P w K mg base Z "is_ascending" 2 ["thing", "low"] m_is_ascending := def_okX T.s_is_ascending sc_is_ascending fun f cdv A outer s H E hr tk hp =>
  have nd := sc_is_ascending.nd
  ((ms_cons (ms_if (mt_not (mt_tru (me_callB call_isi ad_isi (by rfl) T.z_isinstance (by decide +kernel) (ma_cons (me_v 0) (ma_cons (me_ty (by rfl) T.z_tuple (by decide +kernel)) ma_nil))))) (ms_one (ms_ret me_bl)) ms_nil)
  (ms_cons (ms_set (i := 2) nd rfl (by first | exact Or.inl rfl | exact Or.inr rfl) (me_v 1))
  (ms_cons (ms_for hp rfl (mi_seqB (me_v 0)) (mt_nm (i := 3) nd rfl (by first | exact Or.inl rfl | exact Or.inr rfl)) (ms_cons (ms_if (mt_w (mw_or (mt_not (mt_tru (me_pn h_is_integer rfl (hr.mono (by decide)) (by rfl) tk (ma_cons (me_v 3) ma_nil)))) (mw_or1 (mt_cmp op_lt ad_I (me_v 3) (me_v 2) (nomark _))))) (ms_one (ms_ret me_bl)) ms_nil)
  (ms_one (ms_set (i := 2) nd rfl (by first | exact Or.inl rfl | exact Or.inr rfl) (me_op op_addA ad_add (me_v 3) me_int)))))
  (ms_one (ms_ret me_bl))))))
abbrev st_is_ascending_to : Stmt := topS 13
abbrev N_is_ascending_to : List Str := ["thing", "low", "high"]
theorem sc_is_ascending_to : FnScope N_is_ascending_to ["thing", "low", "high"] (defScope st_is_ascending_to) := ⟨rfl, rfl, rfl, by decide +kernel, rfl, by decide +kernel, by decide +kernel⟩
def b_is_ascending_to : MS := (sRet (eAndT (eCall (gP 2 m_is_ascending) (aCons (eV 0) (aCons (eV 1) aNil))) (eOrT (eNotT (eV 0)) (e2 (gI fun i j => decide (i ≤ j)) (e2 gIxK (eV 0) (e1 gNeg (eC (.int 1)))) (eV 2)))))
abbrev m_is_ascending_to : GC := runB 3 b_is_ascending_to
theorem d_is_ascending_to (T : Tx w K mg) (h_is_ascending : Def P w K mg base Z "is_ascending" 2 ["thing", "low"] m_is_ascending) : Def P w K mg base Z "is_ascending_to" 3 ["thing", "low", "high"] m_is_ascending_to := def_okX T.s_is_ascending_to sc_is_ascending_to fun f cdv A outer s H E hr tk hp =>
  have nd := sc_is_ascending_to.nd
  ((ms_one (ms_ret (me_andT (me_pn h_is_ascending rfl (hr.mono (by decide)) (by rfl) tk (ma_cons (me_v 0) (ma_cons (me_v 1) ma_nil))) (me_one (me_orT (me_notT (me_v 0)) (me_one (me_cmp op_le ad_I (me_ixK (hu_64 hr) (me_v 0) (me_un un_neg ad_neg me_int)) (me_v 2) (nomark _)))))))))
abbrev st_is_rhythm : Stmt := topS 16
abbrev N_is_rhythm : List Str := ["thing"]
theorem sc_is_rhythm : FnScope N_is_rhythm ["thing"] (defScope st_is_rhythm) := ⟨rfl, rfl, rfl, by decide +kernel, rfl, by decide +kernel, by decide +kernel⟩
def b_is_rhythm : MS := (sSeq (sIf (bOr (bNot (bTru (eCall (gP 3 m_is_row) (aCons (eV 0) (aCons (eC (.int 2)) (aCons (eC (.int 2)) aNil)))))) (bNot (bTru (eCall (gP 3 m_is_from_to) (aCons (e2 gIxK (eV 0) (eC (.int 0))) (aCons (eC (.int 1)) (aCons (eC (.int 96)) aNil))))))) (sRet (eC (.bl false))) sNil)
  (sRet (eAndT (eCall (gP 3 m_is_ascending_to) (aCons (e2 gIxK (eV 0) (eC (.int 1))) (aCons (eC (.int 0)) (aCons (e2 gSub (e2 gIxK (eV 0) (eC (.int 0))) (eC (.int 1))) aNil)))) (e2 (gEq true) (e2 gIxK (eV 0) (eC (.int 1))) (eTup aNil)))))
abbrev m_is_rhythm : GC := runB 1 b_is_rhythm
theorem d_is_rhythm (T : Tx w K mg) (h_is_row : Def P w K mg base Z "is_row" 1 ["thing", "least", "most"] m_is_row) (h_is_from_to : Def P w K mg base Z "is_from_to" 2 ["thing", "low", "high"] m_is_from_to) (h_is_ascending_to : Def P w K mg base Z "is_ascending_to" 3 ["thing", "low", "high"] m_is_ascending_to) : Def P w K mg base Z "is_rhythm" 4 ["thing"] m_is_rhythm := def_okX T.s_is_rhythm sc_is_rhythm fun f cdv A outer s H E hr tk hp =>
  have nd := sc_is_rhythm.nd
  ((ms_cons (ms_if (mt_w (mw_or (mt_not (mt_tru (me_pn h_is_row rfl (hr.mono (by decide)) (by rfl) tk (ma_cons (me_v 0) (ma_cons me_int (ma_cons me_int ma_nil)))))) (mw_or1 (mt_not (mt_tru (me_pn h_is_from_to rfl (hr.mono (by decide)) (by rfl) tk (ma_cons (me_ixK (hu_64 hr) (me_v 0) me_int) (ma_cons me_int (ma_cons (me_gint (by rfl) T.c_MOST_BEATS.choose_spec) ma_nil))))))))) (ms_one (ms_ret me_bl)) ms_nil)
  (ms_one (ms_ret (me_andT (me_pn h_is_ascending_to rfl (hr.mono (by decide)) (by rfl) tk (ma_cons (me_ixK (hu_64 hr) (me_v 0) me_int) (ma_cons me_int (ma_cons (me_op op_sub ad_sub (me_ixK (hu_64 hr) (me_v 0) me_int) me_int) ma_nil)))) (me_one (me_cmp (op_neA (hu_64 hr)) ad_ne (me_ixK (hu_64 hr) (me_v 0) me_int) (me_tup ma_nil) (nomark _))))))))
abbrev st_need_rhythm : Stmt := topS 17
abbrev N_need_rhythm : List Str := ["rhythm"]
theorem sc_need_rhythm : FnScope N_need_rhythm ["rhythm"] (defScope st_need_rhythm) := ⟨rfl, rfl, rfl, by decide +kernel, rfl, by decide +kernel, by decide +kernel⟩
def b_need_rhythm : MS := (sIf (bNot (bTru (eCall (gP 1 m_is_rhythm) (aCons (eV 0) aNil)))) sNever sNil)
abbrev m_need_rhythm : GC := runB 1 b_need_rhythm
theorem d_need_rhythm (T : Tx w K mg) (h_is_rhythm : Def P w K mg base Z "is_rhythm" 4 ["thing"] m_is_rhythm) : Def P w K mg base Z "need_rhythm" 5 ["rhythm"] m_need_rhythm := def_okX T.s_need_rhythm sc_need_rhythm fun f cdv A outer s H E hr tk hp =>
  have nd := sc_need_rhythm.nd
  ((ms_one (ms_if (mt_not (mt_tru (me_pn h_is_rhythm rfl (hr.mono (by decide)) (by rfl) tk (ma_cons (me_v 0) ma_nil)))) (ms_one ms_never) ms_nil)))
abbrev st_is_event : Stmt := topS 24
abbrev N_is_event : List Str := ["thing"]
theorem sc_is_event : FnScope N_is_event ["thing"] (defScope st_is_event) := ⟨rfl, rfl, rfl, by decide +kernel, rfl, by decide +kernel, by decide +kernel⟩
def b_is_event : MS := (sSeq (sIf (bOr (bNot (bTru (eCall (gP 3 m_is_row) (aCons (eV 0) (aCons (eC (.int 2)) (aCons (eC (.int 2)) aNil)))))) (bNot (bTru (eCall (gP 3 m_is_from_to) (aCons (e2 gIxK (eV 0) (eC (.int 1))) (aCons (eC (.int 1)) (aCons (eC (.int 96)) aNil))))))) (sRet (eC (.bl false))) sNil)
  (sRet (eOrT (e2 (gIs false) (e2 gIxK (eV 0) (eC (.int 0))) (eC .non)) (eCall (gP 3 m_is_from_to) (aCons (e2 gIxK (eV 0) (eC (.int 0))) (aCons (e1 gNeg (eC (.int 60))) (aCons (eC (.int 60)) aNil)))))))
abbrev m_is_event : GC := runB 1 b_is_event
theorem d_is_event (T : Tx w K mg) (h_is_row : Def P w K mg base Z "is_row" 1 ["thing", "least", "most"] m_is_row) (h_is_from_to : Def P w K mg base Z "is_from_to" 2 ["thing", "low", "high"] m_is_from_to) : Def P w K mg base Z "is_event" 3 ["thing"] m_is_event := def_okX T.s_is_event sc_is_event fun f cdv A outer s H E hr tk hp =>
  have nd := sc_is_event.nd
  ((ms_cons (ms_if (mt_w (mw_or (mt_not (mt_tru (me_pn h_is_row rfl (hr.mono (by decide)) (by rfl) tk (ma_cons (me_v 0) (ma_cons me_int (ma_cons me_int ma_nil)))))) (mw_or1 (mt_not (mt_tru (me_pn h_is_from_to rfl (hr.mono (by decide)) (by rfl) tk (ma_cons (me_ixK (hu_64 hr) (me_v 0) me_int) (ma_cons me_int (ma_cons (me_gint (by rfl) T.c_LONGEST.choose_spec) ma_nil))))))))) (ms_one (ms_ret me_bl)) ms_nil)
  (ms_one (ms_ret (me_orT (me_cmp op_isA ad_is (me_ixK (hu_64 hr) (me_v 0) me_int) me_non (nomark _)) (me_one (me_pn h_is_from_to rfl (hr.mono (by decide)) (by rfl) tk (ma_cons (me_ixK (hu_64 hr) (me_v 0) me_int) (ma_cons (me_un un_neg ad_neg (me_gint (by rfl) T.c_HIGHEST.choose_spec)) (ma_cons (me_gint (by rfl) T.c_HIGHEST.choose_spec) ma_nil))))))))))
abbrev st_is_event_row : Stmt := topS 25
abbrev N_is_event_row : List Str := ["thing", "event"]
theorem sc_is_event_row : FnScope N_is_event_row ["thing"] (defScope st_is_event_row) := ⟨rfl, rfl, rfl, by decide +kernel, rfl, by decide +kernel, by decide +kernel⟩
def b_is_event_row : MS := (sRet (eAndT (eCall (gP 3 m_is_row) (aCons (eV 0) (aCons (eC (.int 1)) (aCons (eC (.int 12)) aNil)))) (eCall gAll (aCons (eLc (iSeqB (eV 0)) (.nm 1) [1] bYes (eCall (gP 1 m_is_event) (aCons (eV 1) aNil))) aNil))))
abbrev m_is_event_row : GC := runB 2 b_is_event_row
theorem d_is_event_row (T : Tx w K mg) (h_is_row : Def P w K mg base Z "is_row" 1 ["thing", "least", "most"] m_is_row) (h_is_event : Def P w K mg base Z "is_event" 3 ["thing"] m_is_event) : Def P w K mg base Z "is_event_row" 4 ["thing"] m_is_event_row := def_okX T.s_is_event_row sc_is_event_row fun f cdv A outer s H E hr tk hp =>
  have nd := sc_is_event_row.nd
  ((ms_one (ms_ret (me_andT (me_pn h_is_row rfl (hr.mono (by decide)) (by rfl) tk (ma_cons (me_v 0) (ma_cons me_int (ma_cons me_int ma_nil)))) (me_one (me_callB (cr_all rfl) ad_all (by rfl) T.z_all (by decide +kernel) (ma_cons (me_lc rfl nd (mi_seqB (me_v 0)) (blkOk_by (own := [("event", 1)]) (N := N_is_event_row) (sc := defScope st_is_event_row) (by decide +kernel)) rfl (by decide) (fun _ _ _ _ _ => (mt_nm (i := 1) nd rfl (by first | exact Or.inl rfl | exact Or.inr rfl))) (fun _ _ _ _ _ => mtt_nil) (fun _ _ _ _ _ => (me_pn h_is_event rfl (hr.mono (by decide)) (by rfl) takes0 (ma_cons (me_v 1) ma_nil)))) ma_nil)))))))
abbrev st_row_length : Stmt := topS 26
abbrev N_row_length : List Str := ["row", "_", "long"]
theorem sc_row_length : FnScope N_row_length ["row"] (defScope st_row_length) := ⟨rfl, rfl, rfl, by decide +kernel, rfl, by decide +kernel, by decide +kernel⟩
def b_row_length : MS := (sRet (eCall gSumA (aCons (eLc (iSeqB (eV 0)) (.tp ((.nm 1) :: ((.nm 2) :: []))) [1, 2] bYes (eV 2)) aNil)))
abbrev m_row_length : GC := runB 3 b_row_length
theorem d_row_length (T : Tx w K mg)  : Def P w K mg base Z "row_length" 1 ["row"] m_row_length := def_okX T.s_row_length sc_row_length fun f cdv A outer s H E hr tk hp =>
  have nd := sc_row_length.nd
  ((ms_one (ms_ret (me_callB (cr_sumB rfl) ad_sumA (by rfl) T.z_sum (by decide +kernel) (ma_cons (me_lc rfl nd (mi_seqB (me_v 0)) (blkOk_by (own := [("_", 1), ("long", 2)]) (N := N_row_length) (sc := defScope st_row_length) (by decide +kernel)) rfl (by decide) (fun _ _ _ _ _ => (mt_tp rfl (mts_cons (mt_nm (i := 1) nd rfl (by first | exact Or.inl rfl | exact Or.inr rfl)) (mts_cons (mt_nm (i := 2) nd rfl (by first | exact Or.inl rfl | exact Or.inr rfl)) mts_nil)))) (fun _ _ _ _ _ => mtt_nil) (fun _ _ _ _ _ => (me_v 2))) ma_nil)))))
abbrev st_is_block : Stmt := topS 27
abbrev N_is_block : List Str := ["thing", "length", "row"]
theorem sc_is_block : FnScope N_is_block ["thing"] (defScope st_is_block) := ⟨rfl, rfl, rfl, by decide +kernel, rfl, by decide +kernel, by decide +kernel⟩
def b_is_block : MS := (sSeq (sIf (bOr (bNot (bTru (eCall (gP 3 m_is_row) (aCons (eV 0) (aCons (eC (.int 1)) (aCons (eC (.int 4)) aNil)))))) (bNot (bTru (eCall gAll (aCons (eLc (iSeqB (eV 0)) (.nm 2) [2] bYes (eCall (gP 1 m_is_event_row) (aCons (eV 2) aNil))) aNil))))) (sRet (eC (.bl false))) sNil)
  (sSeq (sAsg (eCall (gP 1 m_row_length) (aCons (e2 gIxK (eV 0) (eC (.int 0))) aNil)) (gN 1))
  (sRet (eAndT (e2 (gI fun i j => decide (i ≤ j)) (eV 1) (eC (.int 192))) (eCall gAll (aCons (eLc (iSeqB (eV 0)) (.nm 2) [2] bYes (e2 (gEq false) (eCall (gP 1 m_row_length) (aCons (eV 2) aNil)) (eV 1))) aNil))))))
abbrev m_is_block : GC := runB 3 b_is_block
theorem d_is_block (T : Tx w K mg) (h_is_row : Def P w K mg base Z "is_row" 1 ["thing", "least", "most"] m_is_row) (h_is_event_row : Def P w K mg base Z "is_event_row" 4 ["thing"] m_is_event_row) (h_row_length : Def P w K mg base Z "row_length" 1 ["row"] m_row_length) : Def P w K mg base Z "is_block" 5 ["thing"] m_is_block := def_okX T.s_is_block sc_is_block fun f cdv A outer s H E hr tk hp =>
  have nd := sc_is_block.nd
  ((ms_cons (ms_if (mt_w (mw_or (mt_not (mt_tru (me_pn h_is_row rfl (hr.mono (by decide)) (by rfl) tk (ma_cons (me_v 0) (ma_cons me_int (ma_cons me_int ma_nil)))))) (mw_or1 (mt_not (mt_tru (me_callB (cr_all rfl) ad_all (by rfl) T.z_all (by decide +kernel) (ma_cons (me_lc rfl nd (mi_seqB (me_v 0)) (blkOk_by (own := [("row", 2)]) (N := N_is_block) (sc := defScope st_is_block) (by decide +kernel)) rfl (by decide) (fun _ _ _ _ _ => (mt_nm (i := 2) nd rfl (by first | exact Or.inl rfl | exact Or.inr rfl))) (fun _ _ _ _ _ => mtt_nil) (fun _ _ _ _ _ => (me_pn h_is_event_row rfl (hr.mono (by decide)) (by rfl) takes0 (ma_cons (me_v 2) ma_nil)))) ma_nil))))))) (ms_one (ms_ret me_bl)) ms_nil)
  (ms_cons (ms_set (i := 1) nd rfl (by first | exact Or.inl rfl | exact Or.inr rfl) (me_pn h_row_length rfl (hr.mono (by decide)) (by rfl) tk (ma_cons (me_ixK (hu_64 hr) (me_v 0) me_int) ma_nil)))
  (ms_one (ms_ret (me_andT (me_cmp op_le ad_I (me_v 1) me_int (nomark _)) (me_one (me_callB (cr_all rfl) ad_all (by rfl) T.z_all (by decide +kernel) (ma_cons (me_lc rfl nd (mi_seqB (me_v 0)) (blkOk_by (own := [("row", 2)]) (N := N_is_block) (sc := defScope st_is_block) (by decide +kernel)) rfl (by decide) (fun _ _ _ _ _ => (mt_nm (i := 2) nd rfl (by first | exact Or.inl rfl | exact Or.inr rfl))) (fun _ _ _ _ _ => mtt_nil) (fun _ _ _ _ _ => (me_cmp (op_eqA (hu_64 hr)) ad_eq (me_pn h_row_length rfl (hr.mono (by decide)) (by rfl) takes0 (ma_cons (me_v 2) ma_nil)) (me_v 1) (nomark _)))) ma_nil)))))))))
abbrev st_is_third : Stmt := topS 28
abbrev N_is_third : List Str := ["word", "thing", "many", "end"]
theorem sc_is_third : FnScope N_is_third ["word", "thing", "many"] (defScope st_is_third) := ⟨rfl, rfl, rfl, by decide +kernel, rfl, by decide +kernel, by decide +kernel⟩
def b_is_third : MS := (sSeq (sIf (bVal (e2 (gEq false) (eV 0) (eC (.str ("then" : Str))))) (sRet (eCall (gP 3 m_is_from_to) (aCons (eV 1) (aCons (eC (.int 0)) (aCons (e2 gSub (eV 2) (eC (.int 1))) aNil))))) sNil)
  (sSeq (sIf (bVal (e2 (gEq false) (eV 0) (eC (.str ("again" : Str))))) (sRet (eCall (gP 3 m_is_from_to) (aCons (eV 1) (aCons (eC (.int 1)) (aCons (e2 gPow (eC (.int 10)) (eC (.int 12))) aNil))))) sNil)
  (sSeq (sIf (bVal (e2 (gEq false) (eV 0) (eC (.str ("up" : Str))))) (sRet (eCall (gP 3 m_is_from_to) (aCons (eV 1) (aCons (e1 gNeg (eC (.int 24))) (aCons (eC (.int 24)) aNil))))) sNil)
  (sSeq (sIf (bVal (e2 (gEq false) (eV 0) (eC (.str ("slow" : Str))))) (sRet (eCall (gP 3 m_is_from_to) (aCons (eV 1) (aCons (eC (.int 2)) (aCons (eC (.int 3)) aNil))))) sNil)
  (sRet (eAndT (eCall (gP 3 m_is_row) (aCons (eV 1) (aCons (eC (.int 1)) (aCons (eC (.int 4)) aNil)))) (eCall gAll (aCons (eLc (iSeqB (eV 1)) (.nm 3) [3] bYes (eCall (gP 3 m_is_from_to) (aCons (eV 3) (aCons (eC (.int 0)) (aCons (e2 gSub (eV 2) (eC (.int 1))) aNil))))) aNil))))))))
abbrev m_is_third : GC := runB 4 b_is_third
theorem d_is_third (T : Tx w K mg) (h_is_from_to : Def P w K mg base Z "is_from_to" 2 ["thing", "low", "high"] m_is_from_to) (h_is_row : Def P w K mg base Z "is_row" 1 ["thing", "least", "most"] m_is_row) : Def P w K mg base Z "is_third" 3 ["word", "thing", "many"] m_is_third := def_okX T.s_is_third sc_is_third fun f cdv A outer s H E hr tk hp =>
  have nd := sc_is_third.nd
  ((ms_cons (ms_if (mt_cmp (op_eqA (hu_64 hr)) ad_eq (me_v 0) me_str (nomark _)) (ms_one (ms_ret (me_pn h_is_from_to rfl (hr.mono (by decide)) (by rfl) tk (ma_cons (me_v 1) (ma_cons me_int (ma_cons (me_op op_sub ad_sub (me_v 2) me_int) ma_nil)))))) ms_nil)
  (ms_cons (ms_if (mt_cmp (op_eqA (hu_64 hr)) ad_eq (me_v 0) me_str (nomark _)) (ms_one (ms_ret (me_pn h_is_from_to rfl (hr.mono (by decide)) (by rfl) tk (ma_cons (me_v 1) (ma_cons me_int (ma_cons (me_op op_pow ad_pow me_int me_int) ma_nil)))))) ms_nil)
  (ms_cons (ms_if (mt_cmp (op_eqA (hu_64 hr)) ad_eq (me_v 0) me_str (nomark _)) (ms_one (ms_ret (me_pn h_is_from_to rfl (hr.mono (by decide)) (by rfl) tk (ma_cons (me_v 1) (ma_cons (me_un un_neg ad_neg me_int) (ma_cons me_int ma_nil)))))) ms_nil)
  (ms_cons (ms_if (mt_cmp (op_eqA (hu_64 hr)) ad_eq (me_v 0) me_str (nomark _)) (ms_one (ms_ret (me_pn h_is_from_to rfl (hr.mono (by decide)) (by rfl) tk (ma_cons (me_v 1) (ma_cons me_int (ma_cons me_int ma_nil)))))) ms_nil)
  (ms_one (ms_ret (me_andT (me_pn h_is_row rfl (hr.mono (by decide)) (by rfl) tk (ma_cons (me_v 1) (ma_cons me_int (ma_cons me_int ma_nil)))) (me_one (me_callB (cr_all rfl) ad_all (by rfl) T.z_all (by decide +kernel) (ma_cons (me_lc rfl nd (mi_seqB (me_v 1)) (blkOk_by (own := [("end", 3)]) (N := N_is_third) (sc := defScope st_is_third) (by decide +kernel)) rfl (by decide) (fun _ _ _ _ _ => (mt_nm (i := 3) nd rfl (by first | exact Or.inl rfl | exact Or.inr rfl))) (fun _ _ _ _ _ => mtt_nil) (fun _ _ _ _ _ => (me_pn h_is_from_to rfl (hr.mono (by decide)) (by rfl) takes0 (ma_cons (me_v 3) (ma_cons me_int (ma_cons (me_op op_sub ad_sub (me_v 2) me_int) ma_nil)))))) ma_nil)))))))))))
abbrev st_is_sign : Stmt := topS 29
abbrev N_is_sign : List Str := ["thing", "many", "word"]
theorem sc_is_sign : FnScope N_is_sign ["thing", "many"] (defScope st_is_sign) := ⟨rfl, rfl, rfl, by decide +kernel, rfl, by decide +kernel, by decide +kernel⟩
def b_is_sign : MS := (sSeq (sIf (bOr (bNot (bTru (eCall gIsi (aCons (eV 0) (aCons (eC (.ty "tuple")) aNil))))) (bOr (bVal (e2 (gI fun i j => decide (i < j)) (eCall gLenB (aCons (eV 0) aNil)) (eC (.int 2)))) (bNot (bTru (eCall gIsi (aCons (e2 gIxK (eV 0) (eC (.int 0))) (aCons (eC (.ty "str")) aNil))))))) (sRet (eC (.bl false))) sNil)
  (sSeq (sAsg (e2 gIxK (eV 0) (eC (.int 0))) (gN 2))
  (sSeq (sIf (bVal (e2 (gEq false) (eV 2) (eC (.str ("block" : Str))))) (sRet (eAndT (e2 (gEq false) (eCall gLenB (aCons (eV 0) aNil)) (eC (.int 2))) (eCall (gP 1 m_is_block) (aCons (e2 gIxK (eV 0) (eC (.int 1))) aNil)))) sNil)
  (sSeq (sIf (bOr (bVal (e2 (gEq true) (eCall gLenB (aCons (eV 0) aNil)) (eKGet k_SIZES (eV 2) (eC (.int 0))))) (bNot (bTru (eCall (gP 3 m_is_from_to) (aCons (e2 gIxK (eV 0) (eC (.int 1))) (aCons (eC (.int 0)) (aCons (e2 gSub (eV 1) (eC (.int 1))) aNil))))))) (sRet (eC (.bl false))) sNil)
  (sRet (eOrT (e2 (gEq false) (eCall gLenB (aCons (eV 0) aNil)) (eC (.int 2))) (eCall (gP 3 m_is_third) (aCons (eV 2) (aCons (e2 gIxK (eV 0) (eC (.int 2))) (aCons (eV 1) aNil))))))))))
abbrev m_is_sign : GC := runB 3 b_is_sign
theorem d_is_sign (T : Tx w K mg) (h_is_block : Def P w K mg base Z "is_block" 5 ["thing"] m_is_block) (h_is_from_to : Def P w K mg base Z "is_from_to" 2 ["thing", "low", "high"] m_is_from_to) (h_is_third : Def P w K mg base Z "is_third" 3 ["word", "thing", "many"] m_is_third) : Def P w K mg base Z "is_sign" 6 ["thing", "many"] m_is_sign := def_okX T.s_is_sign sc_is_sign fun f cdv A outer s H E hr tk hp =>
  have nd := sc_is_sign.nd
  ((ms_cons (ms_if (mt_w (mw_or (mt_not (mt_tru (me_callB call_isi ad_isi (by rfl) T.z_isinstance (by decide +kernel) (ma_cons (me_v 0) (ma_cons (me_ty (by rfl) T.z_tuple (by decide +kernel)) ma_nil))))) (mw_or (mt_cmp op_lt ad_I (me_callB cr_lenB ad_lenB (by rfl) T.z_len (by decide +kernel) (ma_cons (me_v 0) ma_nil)) me_int (nomark _)) (mw_or1 (mt_not (mt_tru (me_callB call_isi ad_isi (by rfl) T.z_isinstance (by decide +kernel) (ma_cons (me_ixK (hu_64 hr) (me_v 0) me_int) (ma_cons (me_ty (by rfl) T.z_str (by decide +kernel)) ma_nil))))))))) (ms_one (ms_ret me_bl)) ms_nil)
  (ms_cons (ms_set (i := 2) nd rfl (by first | exact Or.inl rfl | exact Or.inr rfl) (me_ixK (hu_64 hr) (me_v 0) me_int))
  (ms_cons (ms_if (mt_cmp (op_eqA (hu_64 hr)) ad_eq (me_v 2) me_str (nomark _)) (ms_one (ms_ret (me_andT (me_cmp (op_eqA (hu_64 hr)) ad_eq (me_callB cr_lenB ad_lenB (by rfl) T.z_len (by decide +kernel) (ma_cons (me_v 0) ma_nil)) me_int (nomark _)) (me_one (me_pn h_is_block rfl (hr.mono (by decide)) (by rfl) tk (ma_cons (me_ixK (hu_64 hr) (me_v 0) me_int) ma_nil)))))) ms_nil)
  (ms_cons (ms_if (mt_w (mw_or (mt_cmp (op_neA (hu_64 hr)) ad_ne (me_callB cr_lenB ad_lenB (by rfl) T.z_len (by decide +kernel) (ma_cons (me_v 0) ma_nil)) (me_kget (by rfl) T.k_SIZES (z0 := ("then" : Str)) (i0 := 3) (by decide) (me_v 2) me_int) (nomark _)) (mw_or1 (mt_not (mt_tru (me_pn h_is_from_to rfl (hr.mono (by decide)) (by rfl) tk (ma_cons (me_ixK (hu_64 hr) (me_v 0) me_int) (ma_cons me_int (ma_cons (me_op op_sub ad_sub (me_v 1) me_int) ma_nil))))))))) (ms_one (ms_ret me_bl)) ms_nil)
  (ms_one (ms_ret (me_orT (me_cmp (op_eqA (hu_64 hr)) ad_eq (me_callB cr_lenB ad_lenB (by rfl) T.z_len (by decide +kernel) (ma_cons (me_v 0) ma_nil)) me_int (nomark _)) (me_one (me_pn h_is_third rfl (hr.mono (by decide)) (by rfl) tk (ma_cons (me_v 2) (ma_cons (me_ixK (hu_64 hr) (me_v 0) me_int) (ma_cons (me_v 1) ma_nil)))))))))))))
abbrev st_named_parts : Stmt := topS 30
abbrev N_named_parts : List Str := ["sign", "word", "part", "end", "pair"]
theorem sc_named_parts : FnScope N_named_parts ["sign"] (defScope st_named_parts) := ⟨rfl, rfl, rfl, by decide +kernel, rfl, by decide +kernel, by decide +kernel⟩
def b_named_parts : MS := (sSeq (sAsg (eTup (aCons (e2 gIxK (eV 0) (eC (.int 0))) (aCons (e2 gIxK (eV 0) (eC (.int 1))) aNil))) (gTg (.tp ((.nm 1) :: ((.nm 2) :: [])))))
  (sSeq (sIf (bVal (e2 (gEq false) (eV 1) (eC (.str ("then" : Str))))) (sRet (eLst (aCons (eTup (aCons (eV 2) (aCons (eC (.int 1)) aNil))) (aCons (eTup (aCons (e2 gIxK (eV 0) (eC (.int 2))) (aCons (eC (.int 1)) aNil))) aNil)))) sNil)
  (sSeq (sIf (bVal (e2 (gEq false) (eV 1) (eC (.str ("again" : Str))))) (sRet (eLst (aCons (eTup (aCons (eV 2) (aCons (e2 gIxK (eV 0) (eC (.int 2))) aNil))) aNil))) sNil)
  (sSeq (sIf (bVal (e2 (gEq false) (eV 1) (eC (.str ("ends" : Str))))) (sRet (eLc2 (iSeqB (e2 gIxK (eV 0) (eC (.int 2)))) (.nm 3) [3, 4] bYes (iSeqB (eTup (aCons (eTup (aCons (eV 2) (aCons (eC (.int 1)) aNil))) (aCons (eTup (aCons (eV 3) (aCons (eC (.int 1)) aNil))) aNil)))) (.nm 4) [4] bYes (eV 4))) sNil)
  (sRet (eLst (aCons (eTup (aCons (eV 2) (aCons (eC (.int 1)) aNil))) aNil)))))))
abbrev m_named_parts : GC := runB 5 b_named_parts
theorem d_named_parts (T : Tx w K mg)  : Def P w K mg base Z "named_parts" 1 ["sign"] m_named_parts := def_okX T.s_named_parts sc_named_parts fun f cdv A outer s H E hr tk hp =>
  have nd := sc_named_parts.nd
  ((ms_cons (ms_asg (me_tup (ma_cons (me_ixK (hu_64 hr) (me_v 0) me_int) (ma_cons (me_ixK (hu_64 hr) (me_v 0) me_int) ma_nil))) (mg_tg (mt_tp rfl (mts_cons (mt_nm (i := 1) nd rfl (by first | exact Or.inl rfl | exact Or.inr rfl)) (mts_cons (mt_nm (i := 2) nd rfl (by first | exact Or.inl rfl | exact Or.inr rfl)) mts_nil)))))
  (ms_cons (ms_if (mt_cmp (op_eqA (hu_64 hr)) ad_eq (me_v 1) me_str (nomark _)) (ms_one (ms_ret (me_lst (ma_cons (me_tup (ma_cons (me_v 2) (ma_cons me_int ma_nil))) (ma_cons (me_tup (ma_cons (me_ixK (hu_64 hr) (me_v 0) me_int) (ma_cons me_int ma_nil))) ma_nil))))) ms_nil)
  (ms_cons (ms_if (mt_cmp (op_eqA (hu_64 hr)) ad_eq (me_v 1) me_str (nomark _)) (ms_one (ms_ret (me_lst (ma_cons (me_tup (ma_cons (me_v 2) (ma_cons (me_ixK (hu_64 hr) (me_v 0) me_int) ma_nil))) ma_nil)))) ms_nil)
  (ms_cons (ms_if (mt_cmp (op_eqA (hu_64 hr)) ad_eq (me_v 1) me_str (nomark _)) (ms_one (ms_ret (me_lc2 rfl nd (mi_seqB (me_ixK (hu_64 hr) (me_v 0) me_int)) (blkOk_by (own := [("end", 3), ("pair", 4)]) (N := N_named_parts) (sc := defScope st_named_parts) (by decide +kernel)) (vs1 := [4]) rfl (by decide) (by decide) (by decide) (fun _ _ _ _ _ => (mt_nm (i := 3) nd rfl (by first | exact Or.inl rfl | exact Or.inr rfl))) (fun _ _ _ _ _ => mtt_nil) (fun _ _ _ _ _ => (mi_seqB (me_tup (ma_cons (me_tup (ma_cons (me_v 2) (ma_cons me_int ma_nil))) (ma_cons (me_tup (ma_cons (me_v 3) (ma_cons me_int ma_nil))) ma_nil))))) (fun _ _ _ _ _ => (mt_nm (i := 4) nd rfl (by first | exact Or.inl rfl | exact Or.inr rfl))) (fun _ _ _ _ _ => mtt_nil) (fun _ _ _ _ _ => (me_v 4))))) ms_nil)
  (ms_one (ms_ret (me_lst (ma_cons (me_tup (ma_cons (me_v 2) (ma_cons me_int ma_nil))) ma_nil)))))))))
abbrev st_slowing : Stmt := topS 31
abbrev N_slowing : List Str := ["sign"]
theorem sc_slowing : FnScope N_slowing ["sign"] (defScope st_slowing) := ⟨rfl, rfl, rfl, by decide +kernel, rfl, by decide +kernel, by decide +kernel⟩
def b_slowing : MS := (sRet (eIf (bVal (e2 (gEq false) (e2 gIxK (eV 0) (eC (.int 0))) (eC (.str ("slow" : Str))))) (e2 gIxK (eV 0) (eC (.int 2))) (eC (.int 1))))
abbrev m_slowing : GC := runB 1 b_slowing
theorem d_slowing (T : Tx w K mg)  : Def P w K mg base Z "slowing" 1 ["sign"] m_slowing := def_okX T.s_slowing sc_slowing fun f cdv A outer s H E hr tk hp =>
  have nd := sc_slowing.nd
  ((ms_one (ms_ret (me_ifExp (mt_cmp (op_eqA (hu_64 hr)) ad_eq (me_ixK (hu_64 hr) (me_v 0) me_int) me_str (nomark _)) (me_ixK (hu_64 hr) (me_v 0) me_int) me_int))))
abbrev st_block_measure : Stmt := topS 32
abbrev N_block_measure : List Str := ["block", "pitches", "longest", "row", "pitch", "_", "long"]
theorem sc_block_measure : FnScope N_block_measure ["block"] (defScope st_block_measure) := ⟨rfl, rfl, rfl, by decide +kernel, rfl, by decide +kernel, by decide +kernel⟩
def b_block_measure : MS := (sSeq (sAsg (eLc2 (iSeqB (eV 0)) (.nm 3) [3, 4, 5] bYes (iSeqB (eV 3)) (.tp ((.nm 4) :: ((.nm 5) :: []))) [4, 5] (bVal (e2 (gIs true) (eV 4) (eC .non))) (eV 4)) (gN 1))
  (sSeq (sAsg (eCall gMax (aCons (eLc2 (iSeqB (eV 0)) (.nm 3) [3, 5, 6] bYes (iSeqB (eV 3)) (.tp ((.nm 5) :: ((.nm 6) :: []))) [5, 6] bYes (eV 6)) aNil)) (gN 2))
  (sRet (eTup (aCons (eCall gLenB (aCons (eV 0) aNil)) (aCons (eCall (gP 1 m_row_length) (aCons (e2 gIxK (eV 0) (eC (.int 0))) aNil)) (aCons (eCallK (gDef minO) (aCons (eV 1) aNil) (aCons (eC (.int 0)) aNil)) (aCons (eCallK (gDef maxO) (aCons (eV 1) aNil) (aCons (eC (.int 0)) aNil)) (aCons (eV 2) (aCons (eCall gBool (aCons (eV 1) aNil)) aNil))))))))))
abbrev m_block_measure : GC := runB 7 b_block_measure
theorem d_block_measure (T : Tx w K mg) (h_row_length : Def P w K mg base Z "row_length" 1 ["row"] m_row_length) : Def P w K mg base Z "block_measure" 2 ["block"] m_block_measure := def_okX T.s_block_measure sc_block_measure fun f cdv A outer s H E hr tk hp =>
  have nd := sc_block_measure.nd
  ((ms_cons (ms_setLc2 (i := 1) rfl nd rfl rfl (sw_true rfl rfl rfl (by decide +kernel)) (mi_seqB (me_v 0)) (blkOk_by (own := [("row", 3), ("pitch", 4), ("_", 5)]) (N := N_block_measure) (sc := defScope st_block_measure) (by decide +kernel)) (vs1 := [4, 5]) rfl (by decide) (by decide) (by decide) (fun _ _ _ _ _ => (mt_nm (i := 3) nd rfl (by first | exact Or.inl rfl | exact Or.inr rfl))) (fun _ _ _ _ _ => mtt_nil) (fun _ _ _ _ _ => (mi_seqB (me_v 3))) (fun _ _ _ _ _ => (mt_tp rfl (mts_cons (mt_nm (i := 4) nd rfl (by first | exact Or.inl rfl | exact Or.inr rfl)) (mts_cons (mt_nm (i := 5) nd rfl (by first | exact Or.inl rfl | exact Or.inr rfl)) mts_nil)))) (fun _ _ _ _ _ => (mtt_one (mt_cmp op_isNA ad_isnot (me_v 4) me_non (nomark _)))) (fun _ _ _ _ _ => (me_v 4)))
  (ms_cons (ms_set (i := 2) nd rfl (by first | exact Or.inl rfl | exact Or.inr rfl) (me_callB (cr_maxA rfl) ad_max (by rfl) T.z_max (by decide +kernel) (ma_cons (me_lc2 rfl nd (mi_seqB (me_v 0)) (blkOk_by (own := [("row", 3), ("_", 5), ("long", 6)]) (N := N_block_measure) (sc := defScope st_block_measure) (by decide +kernel)) (vs1 := [5, 6]) rfl (by decide) (by decide) (by decide) (fun _ _ _ _ _ => (mt_nm (i := 3) nd rfl (by first | exact Or.inl rfl | exact Or.inr rfl))) (fun _ _ _ _ _ => mtt_nil) (fun _ _ _ _ _ => (mi_seqB (me_v 3))) (fun _ _ _ _ _ => (mt_tp rfl (mts_cons (mt_nm (i := 5) nd rfl (by first | exact Or.inl rfl | exact Or.inr rfl)) (mts_cons (mt_nm (i := 6) nd rfl (by first | exact Or.inl rfl | exact Or.inr rfl)) mts_nil)))) (fun _ _ _ _ _ => mtt_nil) (fun _ _ _ _ _ => (me_v 6))) ma_nil)))
  (ms_one (ms_ret (me_tup (ma_cons (me_callB cr_lenB ad_lenB (by rfl) T.z_len (by decide +kernel) (ma_cons (me_v 0) ma_nil)) (ma_cons (me_pn h_row_length rfl (hr.mono (by decide)) (by rfl) tk (ma_cons (me_ixK (hu_64 hr) (me_v 0) me_int) ma_nil)) (ma_cons (me_callBK (cr_minD rfl (hu_64 hr)) ad_def (by rfl) T.z_min (by decide +kernel) (ma_cons (me_v 1) ma_nil) (mk_cons me_int mk_nil)) (ma_cons (me_callBK (cr_maxD rfl (hu_64 hr)) ad_def (by rfl) T.z_max (by decide +kernel) (ma_cons (me_v 1) ma_nil) (mk_cons me_int mk_nil)) (ma_cons (me_v 2) (ma_cons (me_callTy call_boolL ad_boolL (by rfl) T.z_bool (by decide +kernel) (ma_cons (me_v 1) ma_nil)) ma_nil))))))))))))
abbrev st_part_measure : Stmt := topS 33
abbrev N_part_measure : List Str := ["sign", "ahead", "parts", "factor", "length", "longest", "sounding", "low", "high", "part", "many", "_", "measure"]
theorem sc_part_measure : FnScope N_part_measure ["sign", "ahead"] (defScope st_part_measure) := ⟨rfl, rfl, rfl, by decide +kernel, rfl, by decide +kernel, by decide +kernel⟩
def b_part_measure : MS := (sSeq (sAsg (eCall (gG 1 m_named_parts) (aCons (eV 0) aNil)) (gN 2))
  (sSeq (sAsg (eCall (gP 1 m_slowing) (aCons (eV 0) aNil)) (gN 3))
  (sSeq (sAsg (e2 gMul (eV 3) (eCall gSumA (aCons (eLc (iSeqB (eV 2)) (.tp ((.nm 9) :: ((.nm 10) :: []))) [9, 10] bYes (e2 gMul (e2 gIxK (e2 gIxK (eV 1) (eV 9)) (eC (.int 1))) (eV 10))) aNil))) (gN 4))
  (sSeq (sAsg (e2 gMul (eV 3) (eCall gMax (aCons (eLc (iSeqB (eV 2)) (.tp ((.nm 9) :: ((.nm 11) :: []))) [9, 11] bYes (e2 gIxK (e2 gIxK (eV 1) (eV 9)) (eC (.int 4)))) aNil))) (gN 5))
  (sSeq (sAsg (eLc (iSeqB (eV 2)) (.tp ((.nm 9) :: ((.nm 11) :: []))) [9, 11] (bTru (e2 gIxK (e2 gIxK (eV 1) (eV 9)) (eC (.int 5)))) (e2 gIxK (eV 1) (eV 9))) (gN 6))
  (sSeq (sAsg (eCallK (gDef minO) (aCons (eLc (iSeqB (eV 6)) (.nm 12) [12] bYes (e2 gIxK (eV 12) (eC (.int 2)))) aNil) (aCons (eC (.int 0)) aNil)) (gN 7))
  (sSeq (sAsg (eCallK (gDef maxO) (aCons (eLc (iSeqB (eV 6)) (.nm 12) [12] bYes (e2 gIxK (eV 12) (eC (.int 3)))) aNil) (aCons (eC (.int 0)) aNil)) (gN 8))
  (sSeq (sIf (bVal (e2 (gEq false) (e2 gIxK (eV 0) (eC (.int 0))) (eC (.str ("turned" : Str))))) (sPar 7 8 (aCons (e1 gNeg (eV 8)) (aCons (e1 gNeg (eV 7)) aNil))) sNil)
  (sSeq (sIf (bAnd (bVal (e2 (gEq false) (e2 gIxK (eV 0) (eC (.int 0))) (eC (.str ("up" : Str))))) (bTru (eV 6))) (sPar 7 8 (aCons (e2 gAdd (eV 7) (e2 gIxK (eV 0) (eC (.int 2)))) (aCons (e2 gAdd (eV 8) (e2 gIxK (eV 0) (eC (.int 2)))) aNil))) sNil)
  (sRet (eTup (aCons (e2 gIxK (e2 gIxK (eV 1) (eC (.int 0))) (eC (.int 0))) (aCons (eV 4) (aCons (eV 7) (aCons (eV 8) (aCons (eV 5) (aCons (eCall gBool (aCons (eV 6) aNil)) aNil)))))))))))))))))
abbrev m_part_measure : GC := runB 13 b_part_measure
theorem d_part_measure (T : Tx w K mg) (h_named_parts : Def P w K mg base Z "named_parts" 1 ["sign"] m_named_parts) (h_slowing : Def P w K mg base Z "slowing" 1 ["sign"] m_slowing) : Def P w K mg base Z "part_measure" 2 ["sign", "ahead"] m_part_measure := def_okX T.s_part_measure sc_part_measure fun f cdv A outer s H E hr tk hp =>
  have nd := sc_part_measure.nd
  ((ms_cons (ms_set (i := 2) nd rfl (by first | exact Or.inl rfl | exact Or.inr rfl) (me_gn h_named_parts rfl (hr.mono (by decide)) (by rfl) tk (ma_cons (me_v 0) ma_nil)))
  (ms_cons (ms_set (i := 3) nd rfl (by first | exact Or.inl rfl | exact Or.inr rfl) (me_pn h_slowing rfl (hr.mono (by decide)) (by rfl) tk (ma_cons (me_v 0) ma_nil)))
  (ms_cons (ms_set (i := 4) nd rfl (by first | exact Or.inl rfl | exact Or.inr rfl) (me_op op_mulA ad_mul (me_v 3) (me_callB (cr_sumB rfl) ad_sumA (by rfl) T.z_sum (by decide +kernel) (ma_cons (me_lc rfl nd (mi_seqB (me_v 2)) (blkOk_by (own := [("part", 9), ("many", 10)]) (N := N_part_measure) (sc := defScope st_part_measure) (by decide +kernel)) rfl (by decide) (fun _ _ _ _ _ => (mt_tp rfl (mts_cons (mt_nm (i := 9) nd rfl (by first | exact Or.inl rfl | exact Or.inr rfl)) (mts_cons (mt_nm (i := 10) nd rfl (by first | exact Or.inl rfl | exact Or.inr rfl)) mts_nil)))) (fun _ _ _ _ _ => mtt_nil) (fun _ _ _ _ _ => (me_op op_mulA ad_mul (me_ixK (hu_64 hr) (me_ixK (hu_64 hr) (me_v 1) (me_v 9)) me_int) (me_v 10)))) ma_nil))))
  (ms_cons (ms_set (i := 5) nd rfl (by first | exact Or.inl rfl | exact Or.inr rfl) (me_op op_mulA ad_mul (me_v 3) (me_callB (cr_maxA rfl) ad_max (by rfl) T.z_max (by decide +kernel) (ma_cons (me_lc rfl nd (mi_seqB (me_v 2)) (blkOk_by (own := [("part", 9), ("_", 11)]) (N := N_part_measure) (sc := defScope st_part_measure) (by decide +kernel)) rfl (by decide) (fun _ _ _ _ _ => (mt_tp rfl (mts_cons (mt_nm (i := 9) nd rfl (by first | exact Or.inl rfl | exact Or.inr rfl)) (mts_cons (mt_nm (i := 11) nd rfl (by first | exact Or.inl rfl | exact Or.inr rfl)) mts_nil)))) (fun _ _ _ _ _ => mtt_nil) (fun _ _ _ _ _ => (me_ixK (hu_64 hr) (me_ixK (hu_64 hr) (me_v 1) (me_v 9)) me_int))) ma_nil))))
  (ms_cons (ms_setLc (i := 6) rfl nd rfl rfl (sw_true rfl rfl rfl (by decide +kernel)) (mi_seqB (me_v 2)) (blkOk_by (own := [("part", 9), ("_", 11)]) (N := N_part_measure) (sc := defScope st_part_measure) (by decide +kernel)) rfl (by decide) (fun _ _ _ _ _ => (mt_tp rfl (mts_cons (mt_nm (i := 9) nd rfl (by first | exact Or.inl rfl | exact Or.inr rfl)) (mts_cons (mt_nm (i := 11) nd rfl (by first | exact Or.inl rfl | exact Or.inr rfl)) mts_nil)))) (fun _ _ _ _ _ => (mtt_one (mt_tru (me_ixK (hu_64 hr) (me_ixK (hu_64 hr) (me_v 1) (me_v 9)) me_int)))) (fun _ _ _ _ _ => (me_ixK (hu_64 hr) (me_v 1) (me_v 9))))
  (ms_cons (ms_set (i := 7) nd rfl (by first | exact Or.inl rfl | exact Or.inr rfl) (me_callBK (cr_minD rfl (hu_64 hr)) ad_def (by rfl) T.z_min (by decide +kernel) (ma_cons (me_lc rfl nd (mi_seqB (me_v 6)) (blkOk_by (own := [("measure", 12)]) (N := N_part_measure) (sc := defScope st_part_measure) (by decide +kernel)) rfl (by decide) (fun _ _ _ _ _ => (mt_nm (i := 12) nd rfl (by first | exact Or.inl rfl | exact Or.inr rfl))) (fun _ _ _ _ _ => mtt_nil) (fun _ _ _ _ _ => (me_ixK (hu_64 hr) (me_v 12) me_int))) ma_nil) (mk_cons me_int mk_nil)))
  (ms_cons (ms_set (i := 8) nd rfl (by first | exact Or.inl rfl | exact Or.inr rfl) (me_callBK (cr_maxD rfl (hu_64 hr)) ad_def (by rfl) T.z_max (by decide +kernel) (ma_cons (me_lc rfl nd (mi_seqB (me_v 6)) (blkOk_by (own := [("measure", 12)]) (N := N_part_measure) (sc := defScope st_part_measure) (by decide +kernel)) rfl (by decide) (fun _ _ _ _ _ => (mt_nm (i := 12) nd rfl (by first | exact Or.inl rfl | exact Or.inr rfl))) (fun _ _ _ _ _ => mtt_nil) (fun _ _ _ _ _ => (me_ixK (hu_64 hr) (me_v 12) me_int))) ma_nil) (mk_cons me_int mk_nil)))
  (ms_cons (ms_if (mt_cmp (op_eqA (hu_64 hr)) ad_eq (me_ixK (hu_64 hr) (me_v 0) me_int) me_str (nomark _)) (ms_one (ms_par (i := 7) (j := 8) rfl nd rfl rfl (by decide) rfl rfl (ma_cons (me_un un_neg ad_neg (me_v 8)) (ma_cons (me_un un_neg ad_neg (me_v 7)) ma_nil)) rfl)) ms_nil)
  (ms_cons (ms_if (mt_w (mw_and (mt_cmp (op_eqA (hu_64 hr)) ad_eq (me_ixK (hu_64 hr) (me_v 0) me_int) me_str (nomark _)) (mw_and1 (mt_tru (me_v 6))))) (ms_one (ms_par (i := 7) (j := 8) rfl nd rfl rfl (by decide) rfl rfl (ma_cons (me_op op_addA ad_add (me_v 7) (me_ixK (hu_64 hr) (me_v 0) me_int)) (ma_cons (me_op op_addA ad_add (me_v 8) (me_ixK (hu_64 hr) (me_v 0) me_int)) ma_nil)) rfl)) ms_nil)
  (ms_one (ms_ret (me_tup (ma_cons (me_ixK (hu_64 hr) (me_ixK (hu_64 hr) (me_v 1) me_int) me_int) (ma_cons (me_v 4) (ma_cons (me_v 7) (ma_cons (me_v 8) (ma_cons (me_v 5) (ma_cons (me_callTy call_boolL ad_boolL (by rfl) T.z_bool (by decide +kernel) (ma_cons (me_v 6) ma_nil)) ma_nil)))))))))))))))))))
abbrev st_measure_of : Stmt := topS 34
abbrev N_measure_of : List Str := ["sign", "ahead", "measure", "voices", "length", "low", "high", "longest", "_"]
theorem sc_measure_of : FnScope N_measure_of ["sign", "ahead"] (defScope st_measure_of) := ⟨rfl, rfl, rfl, by decide +kernel, rfl, by decide +kernel, by decide +kernel⟩
def b_measure_of : MS := (sSeq (sIf (bNot (bTru (eCall (gP 2 m_is_sign) (aCons (eV 0) (aCons (eCall gLenB (aCons (eV 1) aNil)) aNil))))) (sRet (eC .non)) sNil)
  (sSeq (sAsg (eIf (bVal (e2 (gEq false) (e2 gIxK (eV 0) (eC (.int 0))) (eC (.str ("block" : Str))))) (eCall (gP 1 m_block_measure) (aCons (e2 gIxK (eV 0) (eC (.int 1))) aNil)) (eCall (gG 2 m_part_measure) (aCons (eV 0) (aCons (eV 1) aNil)))) (gN 2))
  (sSeq (sAsg (eV 2) (gTg (.tp ((.nm 3) :: ((.nm 4) :: ((.nm 5) :: ((.nm 6) :: ((.nm 7) :: ((.nm 8) :: [])))))))))
  (sSeq (sIf (bAnd (bTru (eV 1)) (bVal (e2 (gEq true) (eV 3) (e2 gIxK (e2 gIxK (eV 1) (eC (.int 0))) (eC (.int 0)))))) (sRet (eC .non)) sNil)
  (sSeq (sIf (bOr (bVal (e2 (gI fun i j => decide (j < i)) (eV 4) (eC (.int 10000000000000000000000000000000000000000)))) (bOr (bVal (e2 (gI fun i j => decide (i < j)) (eV 5) (e1 gNeg (eC (.int 60))))) (bOr (bVal (e2 (gI fun i j => decide (j < i)) (eV 6) (eC (.int 60)))) (bVal (e2 (gI fun i j => decide (j < i)) (eV 7) (eC (.int 96))))))) (sRet (eC .non)) sNil)
  (sRet (eV 2)))))))
abbrev m_measure_of : GC := runB 9 b_measure_of
theorem d_measure_of (T : Tx w K mg) (h_is_sign : Def P w K mg base Z "is_sign" 6 ["thing", "many"] m_is_sign) (h_block_measure : Def P w K mg base Z "block_measure" 2 ["block"] m_block_measure) (h_part_measure : Def P w K mg base Z "part_measure" 2 ["sign", "ahead"] m_part_measure) : Def P w K mg base Z "measure_of" 7 ["sign", "ahead"] m_measure_of := def_okX T.s_measure_of sc_measure_of fun f cdv A outer s H E hr tk hp =>
  have nd := sc_measure_of.nd
  ((ms_cons (ms_if (mt_not (mt_tru (me_pn h_is_sign rfl (hr.mono (by decide)) (by rfl) tk (ma_cons (me_v 0) (ma_cons (me_callB cr_lenB ad_lenB (by rfl) T.z_len (by decide +kernel) (ma_cons (me_v 1) ma_nil)) ma_nil))))) (ms_one (ms_ret me_non)) ms_nil)
  (ms_cons (ms_set (i := 2) nd rfl (by first | exact Or.inl rfl | exact Or.inr rfl) (me_ifExp (mt_cmp (op_eqA (hu_64 hr)) ad_eq (me_ixK (hu_64 hr) (me_v 0) me_int) me_str (nomark _)) (me_pn h_block_measure rfl (hr.mono (by decide)) (by rfl) tk (ma_cons (me_ixK (hu_64 hr) (me_v 0) me_int) ma_nil)) (me_gn h_part_measure rfl (hr.mono (by decide)) (by rfl) tk (ma_cons (me_v 0) (ma_cons (me_v 1) ma_nil)))))
  (ms_cons (ms_asg (me_v 2) (mg_tg (mt_tp rfl (mts_cons (mt_nm (i := 3) nd rfl (by first | exact Or.inl rfl | exact Or.inr rfl)) (mts_cons (mt_nm (i := 4) nd rfl (by first | exact Or.inl rfl | exact Or.inr rfl)) (mts_cons (mt_nm (i := 5) nd rfl (by first | exact Or.inl rfl | exact Or.inr rfl)) (mts_cons (mt_nm (i := 6) nd rfl (by first | exact Or.inl rfl | exact Or.inr rfl)) (mts_cons (mt_nm (i := 7) nd rfl (by first | exact Or.inl rfl | exact Or.inr rfl)) (mts_cons (mt_nm (i := 8) nd rfl (by first | exact Or.inl rfl | exact Or.inr rfl)) mts_nil)))))))))
  (ms_cons (ms_if (mt_w (mw_and (mt_tru (me_v 1)) (mw_and1 (mt_cmp (op_neA (hu_64 hr)) ad_ne (me_v 3) (me_ixK (hu_64 hr) (me_ixK (hu_64 hr) (me_v 1) me_int) me_int) (nomark _))))) (ms_one (ms_ret me_non)) ms_nil)
  (ms_cons (ms_if (mt_w (mw_or (mt_cmp op_gt ad_I (me_v 4) (me_gint (by rfl) T.c_MOST_LENGTH.choose_spec) (nomark _)) (mw_or (mt_cmp op_lt ad_I (me_v 5) (me_un un_neg ad_neg (me_gint (by rfl) T.c_HIGHEST.choose_spec)) (nomark _)) (mw_or (mt_cmp op_gt ad_I (me_v 6) (me_gint (by rfl) T.c_HIGHEST.choose_spec) (nomark _)) (mw_or1 (mt_cmp op_gt ad_I (me_v 7) (me_gint (by rfl) T.c_LONGEST.choose_spec) (nomark _))))))) (ms_one (ms_ret me_non)) ms_nil)
  (ms_one (ms_ret (me_v 2)))))))))
abbrev st_first_bad : Stmt := topS 35
abbrev N_first_bad : List Str := ["signs", "ahead", "number", "sign", "measure"]
theorem sc_first_bad : FnScope N_first_bad ["signs"] (defScope st_first_bad) := ⟨rfl, rfl, rfl, by decide +kernel, rfl, by decide +kernel, by decide +kernel⟩
def b_first_bad : MS := (sSeq (sAsg (eLst aNil) (gN 1))
  (sSeq (sFor (iEnumM (aCons (eV 0) aNil)) (.tp ((.nm 2) :: ((.nm 3) :: []))) (sSeq (sAsg (eCall (gG 2 m_measure_of) (aCons (eV 3) (aCons (eV 1) aNil))) (gN 4))
  (sSeq (sIf (bVal (e2 (gIs false) (eV 4) (eC .non))) (sRet (eV 2)) sNil)
  (sExpr (eAppend (eV 1) (aCons (eV 4) aNil))))))
  (sRet (eC .non))))
abbrev m_first_bad : GC := runB 5 b_first_bad
theorem d_first_bad (T : Tx w K mg) (h_measure_of : Def P w K mg base Z "measure_of" 7 ["sign", "ahead"] m_measure_of) : Def P w K mg base Z "first_bad" 8 ["signs"] m_first_bad := def_okX T.s_first_bad sc_first_bad fun f cdv A outer s H E hr tk hp =>
  have nd := sc_first_bad.nd
  ((ms_cons (ms_set (i := 1) nd rfl (by first | exact Or.inl rfl | exact Or.inr rfl) (me_lst ma_nil))
  (ms_cons (ms_for hp rfl (mi_enum (by rfl) T.z_enumerate (ma_cons (me_v 0) ma_nil)) (mt_tp rfl (mts_cons (mt_nm (i := 2) nd rfl (by first | exact Or.inl rfl | exact Or.inr rfl)) (mts_cons (mt_nm (i := 3) nd rfl (by first | exact Or.inl rfl | exact Or.inr rfl)) mts_nil))) (ms_cons (ms_set (i := 4) nd rfl (by first | exact Or.inl rfl | exact Or.inr rfl) (me_gn h_measure_of rfl (hr.mono (by decide)) (by rfl) tk (ma_cons (me_v 3) (ma_cons (me_v 1) ma_nil))))
  (ms_cons (ms_if (mt_cmp op_isA ad_is (me_v 4) me_non (nomark _)) (ms_one (ms_ret (me_v 2))) ms_nil)
  (ms_one (ms_expr (me_append (me_v 1) (ma_cons (me_v 4) ma_nil)))))))
  (ms_one (ms_ret me_non)))))
abbrev st_check_signs : Stmt := topS 36
abbrev N_check_signs : List Str := ["thing", "number"]
theorem sc_check_signs : FnScope N_check_signs ["thing"] (defScope st_check_signs) := ⟨rfl, rfl, rfl, by decide +kernel, rfl, by decide +kernel, by decide +kernel⟩
def b_check_signs : MS := (sSeq (sIf (bNot (bTru (eCall (gP 3 m_is_row) (aCons (eV 0) (aCons (eC (.int 1)) (aCons (eC (.int 40)) aNil)))))) sNever sNil)
  (sSeq (sAsg (eCall (gP 1 m_first_bad) (aCons (eV 0) aNil)) (gN 1))
  (sIf (bVal (e2 (gIs true) (eV 1) (eC .non))) sNever sNil)))
abbrev m_check_signs : GC := runB 2 b_check_signs
theorem d_check_signs (T : Tx w K mg) (h_is_row : Def P w K mg base Z "is_row" 1 ["thing", "least", "most"] m_is_row) (h_first_bad : Def P w K mg base Z "first_bad" 8 ["signs"] m_first_bad) : Def P w K mg base Z "check_signs" 9 ["thing"] m_check_signs := def_okX T.s_check_signs sc_check_signs fun f cdv A outer s H E hr tk hp =>
  have nd := sc_check_signs.nd
  ((ms_cons (ms_if (mt_not (mt_tru (me_pn h_is_row rfl (hr.mono (by decide)) (by rfl) tk (ma_cons (me_v 0) (ma_cons me_int (ma_cons (me_gint (by rfl) T.c_MOST_SIGNS.choose_spec) ma_nil)))))) (ms_one ms_never) ms_nil)
  (ms_cons (ms_set (i := 1) nd rfl (by first | exact Or.inl rfl | exact Or.inr rfl) (me_pn h_first_bad rfl (hr.mono (by decide)) (by rfl) tk (ma_cons (me_v 0) ma_nil)))
  (ms_one (ms_if (mt_cmp op_isNA ad_isnot (me_v 1) me_non (nomark _)) (ms_one ms_never) ms_nil)))))
abbrev st_lengths_of : Stmt := topS 37
abbrev N_lengths_of : List Str := ["score", "lengths", "sign", "part", "many"]
theorem sc_lengths_of : FnScope N_lengths_of ["score"] (defScope st_lengths_of) := ⟨rfl, rfl, rfl, by decide +kernel, rfl, by decide +kernel, by decide +kernel⟩
def b_lengths_of : MS := (sSeq (sAsg (eLst aNil) (gN 1))
  (sSeq (sFor (iSeqB (eV 0)) (.nm 2) (sIf (bVal (e2 (gEq false) (e2 gIxK (eV 2) (eC (.int 0))) (eC (.str ("block" : Str))))) (sExpr (eAppend (eV 1) (aCons (eCall (gP 1 m_row_length) (aCons (e2 gIxK (e2 gIxK (eV 2) (eC (.int 1))) (eC (.int 0))) aNil)) aNil))) (sExpr (eAppend (eV 1) (aCons (e2 gMul (eCall (gP 1 m_slowing) (aCons (eV 2) aNil)) (eCall gSumA (aCons (eLc (iSeqB (eCall (gG 1 m_named_parts) (aCons (eV 2) aNil))) (.tp ((.nm 3) :: ((.nm 4) :: []))) [3, 4] bYes (e2 gMul (e2 gIxK (eV 1) (eV 3)) (eV 4))) aNil))) aNil)))))
  (sRet (eV 1))))
abbrev m_lengths_of : GC := runB 5 b_lengths_of
theorem d_lengths_of (T : Tx w K mg) (h_row_length : Def P w K mg base Z "row_length" 1 ["row"] m_row_length) (h_slowing : Def P w K mg base Z "slowing" 1 ["sign"] m_slowing) (h_named_parts : Def P w K mg base Z "named_parts" 1 ["sign"] m_named_parts) : Def P w K mg base Z "lengths_of" 2 ["score"] m_lengths_of := def_okX T.s_lengths_of sc_lengths_of fun f cdv A outer s H E hr tk hp =>
  have nd := sc_lengths_of.nd
  ((ms_cons (ms_set (i := 1) nd rfl (by first | exact Or.inl rfl | exact Or.inr rfl) (me_lst ma_nil))
  (ms_cons (ms_for hp rfl (mi_seqB (me_v 0)) (mt_nm (i := 2) nd rfl (by first | exact Or.inl rfl | exact Or.inr rfl)) (ms_one (ms_if (mt_cmp (op_eqA (hu_64 hr)) ad_eq (me_ixK (hu_64 hr) (me_v 2) me_int) me_str (nomark _)) (ms_one (ms_expr (me_append (me_v 1) (ma_cons (me_pn h_row_length rfl (hr.mono (by decide)) (by rfl) tk (ma_cons (me_ixK (hu_64 hr) (me_ixK (hu_64 hr) (me_v 2) me_int) me_int) ma_nil)) ma_nil)))) (ms_one (ms_expr (me_append (me_v 1) (ma_cons (me_op op_mulA ad_mul (me_pn h_slowing rfl (hr.mono (by decide)) (by rfl) tk (ma_cons (me_v 2) ma_nil)) (me_callB (cr_sumB rfl) ad_sumA (by rfl) T.z_sum (by decide +kernel) (ma_cons (me_lc rfl nd (mi_seqB (me_gn h_named_parts rfl (hr.mono (by decide)) (by rfl) tk (ma_cons (me_v 2) ma_nil))) (blkOk_by (own := [("part", 3), ("many", 4)]) (N := N_lengths_of) (sc := defScope st_lengths_of) (by decide +kernel)) rfl (by decide) (fun _ _ _ _ _ => (mt_tp rfl (mts_cons (mt_nm (i := 3) nd rfl (by first | exact Or.inl rfl | exact Or.inr rfl)) (mts_cons (mt_nm (i := 4) nd rfl (by first | exact Or.inl rfl | exact Or.inr rfl)) mts_nil)))) (fun _ _ _ _ _ => mtt_nil) (fun _ _ _ _ _ => (me_op op_mulA ad_mul (me_ixK (hu_64 hr) (me_v 1) (me_v 3)) (me_v 4)))) ma_nil))) ma_nil)))))))
  (ms_one (ms_ret (me_v 1))))))
abbrev st_top_of : Stmt := topS 40
abbrev N_top_of : List Str := ["score"]
theorem sc_top_of : FnScope N_top_of ["score"] (defScope st_top_of) := ⟨rfl, rfl, rfl, by decide +kernel, rfl, by decide +kernel, by decide +kernel⟩
def b_top_of : MS := (sRet (eTup (aCons (e2 gSub (eCall gLenB (aCons (eV 0) aNil)) (eC (.int 1))) (aCons (eC (.int 0)) (aCons (eC (.bl false)) (aCons (eC (.bl false)) (aCons (eC (.int 1)) aNil)))))))
abbrev m_top_of : GC := runB 1 b_top_of
theorem d_top_of (T : Tx w K mg)  : Def P w K mg base Z "top_of" 1 ["score"] m_top_of := def_okX T.s_top_of sc_top_of fun f cdv A outer s H E hr tk hp =>
  have nd := sc_top_of.nd
  ((ms_one (ms_ret (me_tup (ma_cons (me_op op_sub ad_sub (me_callB cr_lenB ad_lenB (by rfl) T.z_len (by decide +kernel) (ma_cons (me_v 0) ma_nil)) me_int) (ma_cons me_int (ma_cons me_bl (ma_cons me_bl (ma_cons me_int ma_nil)))))))))
abbrev st_parts_of : Stmt := topS 41
abbrev N_parts_of : List Str := ["score", "varied", "number", "up", "is_turned", "is_back", "slow", "sign", "word", "parts", "part", "many"]
theorem sc_parts_of : FnScope N_parts_of ["score", "varied"] (defScope st_parts_of) := ⟨rfl, rfl, rfl, by decide +kernel, rfl, by decide +kernel, by decide +kernel⟩
def b_parts_of : MS := (sSeq (sAsg (eV 1) (gTg (.tp ((.nm 2) :: ((.nm 3) :: ((.nm 4) :: ((.nm 5) :: ((.nm 6) :: []))))))))
  (sSeq (sAsg (e2 gIxK (eV 0) (eV 2)) (gN 7))
  (sSeq (sAsg (e2 gIxK (eV 7) (eC (.int 0))) (gN 8))
  (sSeq (sIf (bVal (e2 (gEq false) (eV 8) (eC (.str ("block" : Str))))) (sRet (eLst aNil)) sNil)
  (sSeq (sIf (bVal (e2 (gEq false) (eV 8) (eC (.str ("up" : Str))))) (sAsg (eIf (bTru (eV 4)) (e2 gSub (eV 3) (e2 gIxK (eV 7) (eC (.int 2)))) (e2 gAdd (eV 3) (e2 gIxK (eV 7) (eC (.int 2))))) (gN 3)) (sIf (bVal (e2 (gEq false) (eV 8) (eC (.str ("turned" : Str))))) (sAsg (eNotT (eV 4)) (gN 4)) (sIf (bVal (e2 (gEq false) (eV 8) (eC (.str ("back" : Str))))) (sAsg (eNotT (eV 5)) (gN 5)) (sIf (bVal (e2 (gEq false) (eV 8) (eC (.str ("slow" : Str))))) (sAsg (e2 gMul (eV 6) (e2 gIxK (eV 7) (eC (.int 2)))) (gN 6)) sNil))))
  (sSeq (sAsg (eLc (iSeqB (eCall (gG 1 m_named_parts) (aCons (eV 7) aNil))) (.tp ((.nm 10) :: ((.nm 11) :: []))) [10, 11] bYes (eTup (aCons (eTup (aCons (eV 10) (aCons (eV 3) (aCons (eV 4) (aCons (eV 5) (aCons (eV 6) aNil)))))) (aCons (eV 11) aNil)))) (gN 9))
  (sRet (eIf (bTru (eV 5)) (eRev (eV 9)) (eV 9)))))))))
abbrev m_parts_of : GC := runB 12 b_parts_of
theorem d_parts_of (T : Tx w K mg) (h_named_parts : Def P w K mg base Z "named_parts" 1 ["sign"] m_named_parts) : Def P w K mg base Z "parts_of" 2 ["score", "varied"] m_parts_of := def_okX T.s_parts_of sc_parts_of fun f cdv A outer s H E hr tk hp =>
  have nd := sc_parts_of.nd
  ((ms_cons (ms_asg (me_v 1) (mg_tg (mt_tp rfl (mts_cons (mt_nm (i := 2) nd rfl (by first | exact Or.inl rfl | exact Or.inr rfl)) (mts_cons (mt_nm (i := 3) nd rfl (by first | exact Or.inl rfl | exact Or.inr rfl)) (mts_cons (mt_nm (i := 4) nd rfl (by first | exact Or.inl rfl | exact Or.inr rfl)) (mts_cons (mt_nm (i := 5) nd rfl (by first | exact Or.inl rfl | exact Or.inr rfl)) (mts_cons (mt_nm (i := 6) nd rfl (by first | exact Or.inl rfl | exact Or.inr rfl)) mts_nil))))))))
  (ms_cons (ms_set (i := 7) nd rfl (by first | exact Or.inl rfl | exact Or.inr rfl) (me_ixK (hu_64 hr) (me_v 0) (me_v 2)))
  (ms_cons (ms_set (i := 8) nd rfl (by first | exact Or.inl rfl | exact Or.inr rfl) (me_ixK (hu_64 hr) (me_v 7) me_int))
  (ms_cons (ms_if (mt_cmp (op_eqA (hu_64 hr)) ad_eq (me_v 8) me_str (nomark _)) (ms_one (ms_ret (me_lst ma_nil))) ms_nil)
  (ms_cons (ms_if (mt_cmp (op_eqA (hu_64 hr)) ad_eq (me_v 8) me_str (nomark _)) (ms_one (ms_set (i := 3) nd rfl (by first | exact Or.inl rfl | exact Or.inr rfl) (me_ifExp (mt_tru (me_v 4)) (me_op op_sub ad_sub (me_v 3) (me_ixK (hu_64 hr) (me_v 7) me_int)) (me_op op_addA ad_add (me_v 3) (me_ixK (hu_64 hr) (me_v 7) me_int))))) (ms_one (ms_if (mt_cmp (op_eqA (hu_64 hr)) ad_eq (me_v 8) me_str (nomark _)) (ms_one (ms_set (i := 4) nd rfl (by first | exact Or.inl rfl | exact Or.inr rfl) (me_notT (me_v 4)))) (ms_one (ms_if (mt_cmp (op_eqA (hu_64 hr)) ad_eq (me_v 8) me_str (nomark _)) (ms_one (ms_set (i := 5) nd rfl (by first | exact Or.inl rfl | exact Or.inr rfl) (me_notT (me_v 5)))) (ms_one (ms_if (mt_cmp (op_eqA (hu_64 hr)) ad_eq (me_v 8) me_str (nomark _)) (ms_one (ms_set (i := 6) nd rfl (by first | exact Or.inl rfl | exact Or.inr rfl) (me_op op_mulA ad_mul (me_v 6) (me_ixK (hu_64 hr) (me_v 7) me_int)))) ms_nil)))))))
  (ms_cons (ms_setLc (i := 9) rfl nd rfl rfl (sw_true rfl rfl rfl (by decide +kernel)) (mi_seqB (me_gn h_named_parts rfl (hr.mono (by decide)) (by rfl) tk (ma_cons (me_v 7) ma_nil))) (blkOk_by (own := [("part", 10), ("many", 11)]) (N := N_parts_of) (sc := defScope st_parts_of) (by decide +kernel)) rfl (by decide) (fun _ _ _ _ _ => (mt_tp rfl (mts_cons (mt_nm (i := 10) nd rfl (by first | exact Or.inl rfl | exact Or.inr rfl)) (mts_cons (mt_nm (i := 11) nd rfl (by first | exact Or.inl rfl | exact Or.inr rfl)) mts_nil)))) (fun _ _ _ _ _ => mtt_nil) (fun _ _ _ _ _ => (me_tup (ma_cons (me_tup (ma_cons (me_v 10) (ma_cons (me_v 3) (ma_cons (me_v 4) (ma_cons (me_v 5) (ma_cons (me_v 6) ma_nil)))))) (ma_cons (me_v 11) ma_nil)))))
  (ms_one (ms_ret (me_ifExp (mt_tru (me_v 5)) (me_rev (me_v 9)) (me_v 9)))))))))))
abbrev st_block_events : Stmt := topS 42
abbrev N_block_events : List Str := ["score", "varied", "voice", "number", "up", "is_turned", "is_back", "slow", "row", "sign", "events", "pitch", "long"]
theorem sc_block_events : FnScope N_block_events ["score", "varied", "voice"] (defScope st_block_events) := ⟨rfl, rfl, rfl, by decide +kernel, rfl, by decide +kernel, by decide +kernel⟩
def b_block_events : MS := (sSeq (sAsg (eV 1) (gTg (.tp ((.nm 3) :: ((.nm 4) :: ((.nm 5) :: ((.nm 6) :: ((.nm 7) :: []))))))))
  (sSeq (sAsg (e2 gIxK (e2 gIxK (e2 gIxK (eV 0) (eV 3)) (eC (.int 1))) (eV 2)) (gN 8))
  (sSeq (sAsg (eIf (bTru (eV 5)) (e1 gNeg (eC (.int 1))) (eC (.int 1))) (gN 9))
  (sSeq (sAsg (eLc (iSeqB (eV 8)) (.tp ((.nm 11) :: ((.nm 12) :: []))) [11, 12] bYes (eTup (aCons (eIf (bVal (e2 (gIs false) (eV 11) (eC .non))) (eC .non) (e2 gAdd (eV 4) (e2 gMul (eV 9) (eV 11)))) (aCons (e2 gMul (eV 12) (eV 7)) aNil)))) (gN 10))
  (sRet (eIf (bTru (eV 6)) (eRev (eV 10)) (eV 10)))))))
abbrev m_block_events : GC := runB 13 b_block_events
theorem d_block_events (T : Tx w K mg)  : Def P w K mg base Z "block_events" 1 ["score", "varied", "voice"] m_block_events := def_okX T.s_block_events sc_block_events fun f cdv A outer s H E hr tk hp =>
  have nd := sc_block_events.nd
  ((ms_cons (ms_asg (me_v 1) (mg_tg (mt_tp rfl (mts_cons (mt_nm (i := 3) nd rfl (by first | exact Or.inl rfl | exact Or.inr rfl)) (mts_cons (mt_nm (i := 4) nd rfl (by first | exact Or.inl rfl | exact Or.inr rfl)) (mts_cons (mt_nm (i := 5) nd rfl (by first | exact Or.inl rfl | exact Or.inr rfl)) (mts_cons (mt_nm (i := 6) nd rfl (by first | exact Or.inl rfl | exact Or.inr rfl)) (mts_cons (mt_nm (i := 7) nd rfl (by first | exact Or.inl rfl | exact Or.inr rfl)) mts_nil))))))))
  (ms_cons (ms_set (i := 8) nd rfl (by first | exact Or.inl rfl | exact Or.inr rfl) (me_ixK (hu_64 hr) (me_ixK (hu_64 hr) (me_ixK (hu_64 hr) (me_v 0) (me_v 3)) me_int) (me_v 2)))
  (ms_cons (ms_set (i := 9) nd rfl (by first | exact Or.inl rfl | exact Or.inr rfl) (me_ifExp (mt_tru (me_v 5)) (me_un un_neg ad_neg me_int) me_int))
  (ms_cons (ms_setLc (i := 10) rfl nd rfl rfl (sw_true rfl rfl rfl (by decide +kernel)) (mi_seqB (me_v 8)) (blkOk_by (own := [("pitch", 11), ("long", 12)]) (N := N_block_events) (sc := defScope st_block_events) (by decide +kernel)) rfl (by decide) (fun _ _ _ _ _ => (mt_tp rfl (mts_cons (mt_nm (i := 11) nd rfl (by first | exact Or.inl rfl | exact Or.inr rfl)) (mts_cons (mt_nm (i := 12) nd rfl (by first | exact Or.inl rfl | exact Or.inr rfl)) mts_nil)))) (fun _ _ _ _ _ => mtt_nil) (fun _ _ _ _ _ => (me_tup (ma_cons (me_ifExp (mt_cmp op_isA ad_is (me_v 11) me_non (nomark _)) me_non (me_op op_addA ad_add (me_v 4) (me_op op_mulA ad_mul (me_v 9) (me_v 11)))) (ma_cons (me_op op_mulA ad_mul (me_v 12) (me_v 7)) ma_nil)))))
  (ms_one (ms_ret (me_ifExp (mt_tru (me_v 6)) (me_rev (me_v 10)) (me_v 10)))))))))
abbrev st_asked_of : Stmt := topS 43
abbrev N_asked_of : List Str := ["score", "levels", "asked", "number", "varied", "often", "part", "many", "below", "_"]
theorem sc_asked_of : FnScope N_asked_of ["score"] (defScope st_asked_of) := ⟨rfl, rfl, rfl, by decide +kernel, rfl, by decide +kernel, by decide +kernel⟩
def b_asked_of : MS := (sSeq (sAsg (eLc (iSeqB (eV 0)) (.nm 9) [9] bYes eDictT) (gN 1))
  (sSeq (sAsg (eC (.int 1)) (gIdxK (e2 gIxK (eV 1) (e1 gNeg (eC (.int 1)))) (eCall (gP 1 m_top_of) (aCons (eV 0) aNil))))
  (sSeq (sAsg eDictT (gN 2))
  (sSeq (sFor (iRev1 (eCall gLenB (aCons (eV 0) aNil))) (.nm 3) (sSeq (sFor (iSeqB (eCall gSortedA (aCons (e2 gIxK (eV 1) (eV 3)) aNil))) (.nm 4) (sSeq (sAsg (e2 gIxK (e2 gIxK (eV 1) (eV 3)) (eV 4)) (gN 5))
  (sSeq (sAsg (eV 5) (gIdxK (eV 2) (eV 4)))
  (sFor (iSeqB (eCall (gG 2 m_parts_of) (aCons (eV 0) (aCons (eV 4) aNil)))) (.tp ((.nm 6) :: ((.nm 7) :: []))) (sSeq (sAsg (e2 gIxK (eV 1) (e2 gIxK (eV 6) (eC (.int 0)))) (gN 8))
  (sAsg (e2 gAdd (eGetA (eV 8) (eV 6) (eC (.int 0))) (e2 gMul (eV 5) (eV 7))) (gIdxK (eV 8) (eV 6))))))))
  (sIf (bVal (e2 (gI fun i j => decide (j < i)) (eCall gLenB (aCons (eV 2) aNil)) (eC (.int 200)))) (sRet (eC .non)) sNil)))
  (sRet (eV 2))))))
abbrev m_asked_of : GC := runB 10 b_asked_of
theorem d_asked_of (T : Tx w K mg) (h_top_of : Def P w K mg base Z "top_of" 1 ["score"] m_top_of) (h_parts_of : Def P w K mg base Z "parts_of" 2 ["score", "varied"] m_parts_of) : Def P w K mg base Z "asked_of" 3 ["score"] m_asked_of := def_okX T.s_asked_of sc_asked_of fun f cdv A outer s H E hr tk hp =>
  have nd := sc_asked_of.nd
  ((ms_cons (ms_setLc (i := 1) rfl nd rfl rfl (sw_true rfl rfl rfl (by decide +kernel)) (mi_seqB (me_v 0)) (blkOk_by (own := [("_", 9)]) (N := N_asked_of) (sc := defScope st_asked_of) (by decide +kernel)) rfl (by decide) (fun _ _ _ _ _ => (mt_nm (i := 9) nd rfl (by first | exact Or.inl rfl | exact Or.inr rfl))) (fun _ _ _ _ _ => mtt_nil) (fun _ _ _ _ _ => me_dictT))
  (ms_cons (ms_asg me_int (mg_subK (hu_64 hr) (me_ixK (hu_64 hr) (me_v 1) (me_un un_neg ad_neg me_int)) (me_pn h_top_of rfl (hr.mono (by decide)) (by rfl) tk (ma_cons (me_v 0) ma_nil))))
  (ms_cons (ms_set (i := 2) nd rfl (by first | exact Or.inl rfl | exact Or.inr rfl) me_dictT)
  (ms_cons (ms_for hp rfl (mi_rev1 (by rfl) T.z_reversed (by rfl) T.z_range (me_callB cr_lenB ad_lenB (by rfl) T.z_len (by decide +kernel) (ma_cons (me_v 0) ma_nil))) (mt_nm (i := 3) nd rfl (by first | exact Or.inl rfl | exact Or.inr rfl)) (ms_cons (ms_for hp rfl (mi_seqB (me_callB (cr_sortedB rfl (hu_64 hr)) ad_sortedA (by rfl) T.z_sorted (by decide +kernel) (ma_cons (me_ixK (hu_64 hr) (me_v 1) (me_v 3)) ma_nil))) (mt_nm (i := 4) nd rfl (by first | exact Or.inl rfl | exact Or.inr rfl)) (ms_cons (ms_set (i := 5) nd rfl (by first | exact Or.inl rfl | exact Or.inr rfl) (me_ixK (hu_64 hr) (me_ixK (hu_64 hr) (me_v 1) (me_v 3)) (me_v 4)))
  (ms_cons (ms_asg (me_v 5) (mg_subK (hu_64 hr) (me_v 2) (me_v 4)))
  (ms_one (ms_for hp rfl (mi_seqB (me_gn h_parts_of rfl (hr.mono (by decide)) (by rfl) tk (ma_cons (me_v 0) (ma_cons (me_v 4) ma_nil)))) (mt_tp rfl (mts_cons (mt_nm (i := 6) nd rfl (by first | exact Or.inl rfl | exact Or.inr rfl)) (mts_cons (mt_nm (i := 7) nd rfl (by first | exact Or.inl rfl | exact Or.inr rfl)) mts_nil))) (ms_cons (ms_set (i := 8) nd rfl (by first | exact Or.inl rfl | exact Or.inr rfl) (me_ixK (hu_64 hr) (me_v 1) (me_ixK (hu_64 hr) (me_v 6) me_int)))
  (ms_one (ms_asg (me_op op_addA ad_add (me_getA (hu_64 hr) (me_v 8) (me_v 6) me_int) (me_op op_mulA ad_mul (me_v 5) (me_v 7))) (mg_subK (hu_64 hr) (me_v 8) (me_v 6))))))))))
  (ms_one (ms_if (mt_cmp op_gt ad_I (me_callB cr_lenB ad_lenB (by rfl) T.z_len (by decide +kernel) (ma_cons (me_v 2) ma_nil)) (me_gint (by rfl) T.c_MOST_ASKED.choose_spec) (nomark _)) (ms_one (ms_ret me_non)) ms_nil))))
  (ms_one (ms_ret (me_v 2))))))))
abbrev st_rising : Stmt := topS 44
abbrev N_rising : List Str := ["asked"]
theorem sc_rising : FnScope N_rising ["asked"] (defScope st_rising) := ⟨rfl, rfl, rfl, by decide +kernel, rfl, by decide +kernel, by decide +kernel⟩
def b_rising : MS := (sRet (eCall gSortedA (aCons (eCall gListB (aCons (eV 0) aNil)) aNil)))
abbrev m_rising : GC := runB 1 b_rising
theorem d_rising (T : Tx w K mg)  : Def P w K mg base Z "rising" 1 ["asked"] m_rising := def_okX T.s_rising sc_rising fun f cdv A outer s H E hr tk hp =>
  have nd := sc_rising.nd
  ((ms_one (ms_ret (me_callB (cr_sortedB rfl (hu_64 hr)) ad_sortedA (by rfl) T.z_sorted (by decide +kernel) (ma_cons (me_callTy (cr_listB rfl) ad_listB (by rfl) T.z_list (by decide +kernel) (ma_cons (me_v 0) ma_nil)) ma_nil)))))
abbrev st_need_score : Stmt := topS 46
abbrev N_need_score : List Str := ["thing"]
theorem sc_need_score : FnScope N_need_score ["thing"] (defScope st_need_score) := ⟨rfl, rfl, rfl, by decide +kernel, rfl, by decide +kernel, by decide +kernel⟩
def b_need_score : MS := (sSeq (sExpr (eCall (gP 1 m_check_signs) (aCons (eV 0) aNil)))
  (sSeq (sIf (bVal (e2 (gIs false) (eCall (gG 1 m_asked_of) (aCons (eV 0) aNil)) (eC .non))) sNever sNil)
  (sRet (eV 0))))
abbrev m_need_score : GC := runB 1 b_need_score
theorem d_need_score (T : Tx w K mg) (h_check_signs : Def P w K mg base Z "check_signs" 9 ["thing"] m_check_signs) (h_asked_of : Def P w K mg base Z "asked_of" 3 ["score"] m_asked_of) : Def P w K mg base Z "need_score" 10 ["thing"] m_need_score := def_okX T.s_need_score sc_need_score fun f cdv A outer s H E hr tk hp =>
  have nd := sc_need_score.nd
  ((ms_cons (ms_expr (me_pn h_check_signs rfl (hr.mono (by decide)) (by rfl) tk (ma_cons (me_v 0) ma_nil)))
  (ms_cons (ms_if (mt_cmp op_isA ad_is (me_gn h_asked_of rfl (hr.mono (by decide)) (by rfl) tk (ma_cons (me_v 0) ma_nil)) me_non (nomark _)) (ms_one ms_never) ms_nil)
  (ms_one (ms_ret (me_v 0))))))
abbrev st_voice_count : Stmt := topS 49
abbrev N_voice_count : List Str := ["score"]
theorem sc_voice_count : FnScope N_voice_count ["score"] (defScope st_voice_count) := ⟨rfl, rfl, rfl, by decide +kernel, rfl, by decide +kernel, by decide +kernel⟩
def b_voice_count : MS := (sRet (eCall gLenB (aCons (e2 gIxK (e2 gIxK (eV 0) (eC (.int 0))) (eC (.int 1))) aNil)))
abbrev m_voice_count : GC := runB 1 b_voice_count
theorem d_voice_count (T : Tx w K mg)  : Def P w K mg base Z "voice_count" 1 ["score"] m_voice_count := def_okX T.s_voice_count sc_voice_count fun f cdv A outer s H E hr tk hp =>
  have nd := sc_voice_count.nd
  ((ms_one (ms_ret (me_callB cr_lenB ad_lenB (by rfl) T.z_len (by decide +kernel) (ma_cons (me_ixK (hu_64 hr) (me_ixK (hu_64 hr) (me_v 0) me_int) me_int) ma_nil)))))
abbrev st_need_voice : Stmt := topS 47
abbrev N_need_voice : List Str := ["score", "voice"]
theorem sc_need_voice : FnScope N_need_voice ["score", "voice"] (defScope st_need_voice) := ⟨rfl, rfl, rfl, by decide +kernel, rfl, by decide +kernel, by decide +kernel⟩
def b_need_voice : MS := (sIf (bNot (bTru (eCall (gP 3 m_is_from_to) (aCons (eV 1) (aCons (eC (.int 0)) (aCons (e2 gSub (eCall (gP 1 m_voice_count) (aCons (eV 0) aNil)) (eC (.int 1))) aNil)))))) sNever sNil)
abbrev m_need_voice : GC := runB 2 b_need_voice
theorem d_need_voice (T : Tx w K mg) (h_voice_count : Def P w K mg base Z "voice_count" 1 ["score"] m_voice_count) (h_is_from_to : Def P w K mg base Z "is_from_to" 2 ["thing", "low", "high"] m_is_from_to) : Def P w K mg base Z "need_voice" 3 ["score", "voice"] m_need_voice := def_okX T.s_need_voice sc_need_voice fun f cdv A outer s H E hr tk hp =>
  have nd := sc_need_voice.nd
  ((ms_one (ms_if (mt_not (mt_tru (me_pn h_is_from_to rfl (hr.mono (by decide)) (by rfl) tk (ma_cons (me_v 1) (ma_cons me_int (ma_cons (me_op op_sub ad_sub (me_pn h_voice_count rfl (hr.mono (by decide)) (by rfl) tk (ma_cons (me_v 0) ma_nil)) me_int) ma_nil)))))) (ms_one ms_never) ms_nil)))
abbrev st_need_both : Stmt := topS 48
abbrev N_need_both : List Str := ["score", "voice"]
theorem sc_need_both : FnScope N_need_both ["score", "voice"] (defScope st_need_both) := ⟨rfl, rfl, rfl, by decide +kernel, rfl, by decide +kernel, by decide +kernel⟩
def b_need_both : MS := (sSeq (sExpr (eCall (gP 1 m_need_score) (aCons (eV 0) aNil)))
  (sExpr (eCall (gP 2 m_need_voice) (aCons (eV 0) (aCons (eV 1) aNil)))))
abbrev m_need_both : GC := runB 2 b_need_both
theorem d_need_both (T : Tx w K mg) (h_need_score : Def P w K mg base Z "need_score" 10 ["thing"] m_need_score) (h_need_voice : Def P w K mg base Z "need_voice" 3 ["score", "voice"] m_need_voice) : Def P w K mg base Z "need_both" 11 ["score", "voice"] m_need_both := def_okX T.s_need_both sc_need_both fun f cdv A outer s H E hr tk hp =>
  have nd := sc_need_both.nd
  ((ms_cons (ms_expr (me_pn h_need_score rfl (hr.mono (by decide)) (by rfl) tk (ma_cons (me_v 0) ma_nil)))
  (ms_one (ms_expr (me_pn h_need_voice rfl (hr.mono (by decide)) (by rfl) tk (ma_cons (me_v 0) (ma_cons (me_v 1) ma_nil)))))))
abbrev st_block_row : Stmt := topS 52
abbrev N_block_row : List Str := ["events", "beats", "row", "begin", "pitch", "long"]
theorem sc_block_row : FnScope N_block_row ["events", "beats"] (defScope st_block_row) := ⟨rfl, rfl, rfl, by decide +kernel, rfl, by decide +kernel, by decide +kernel⟩
def b_block_row : MS := (sSeq (sPar 2 3 (aCons (e2 gMul (eLst (aCons (eC (.int 0)) aNil)) (eV 1)) (aCons (eC (.int 0)) aNil)))
  (sSeq (sFor (iSeqB (eV 0)) (.tp ((.nm 4) :: ((.nm 5) :: []))) (sSeq (sIf (bVal (e2 (gIs true) (eV 4) (eC .non))) (sAugS (eV 2) (e2 gMod (eV 3) (eV 1)) (eC (.int 1)) ipAdd) sNil)
  (sAug 3 (eV 5) ipAdd)))
  (sRet (eV 2))))
abbrev m_block_row : GC := runB 6 b_block_row
theorem d_block_row (T : Tx w K mg)  : Def P w K mg base Z "block_row" 1 ["events", "beats"] m_block_row := def_okX T.s_block_row sc_block_row fun f cdv A outer s H E hr tk hp =>
  have nd := sc_block_row.nd
  ((ms_cons (ms_par (i := 2) (j := 3) rfl nd rfl rfl (by decide) rfl rfl (ma_cons (me_op op_mulA ad_mul (me_lst (ma_cons me_int ma_nil)) (me_v 1)) (ma_cons me_int ma_nil)) rfl)
  (ms_cons (ms_for hp rfl (mi_seqB (me_v 0)) (mt_tp rfl (mts_cons (mt_nm (i := 4) nd rfl (by first | exact Or.inl rfl | exact Or.inr rfl)) (mts_cons (mt_nm (i := 5) nd rfl (by first | exact Or.inl rfl | exact Or.inr rfl)) mts_nil))) (ms_cons (ms_if (mt_cmp op_isNA ad_isnot (me_v 4) me_non (nomark _)) (ms_one (ms_augS (me_v 2) (me_op op_mod ad_mod (me_v 3) (me_v 1)) me_int iop_addA ad_ipAdd)) ms_nil)
  (ms_one (ms_aug (i := 3) nd rfl (by first | exact Or.inl rfl | exact Or.inr rfl) iop_addA ad_ipAdd (me_v 5)))))
  (ms_one (ms_ret (me_v 2))))))
abbrev st_put_copies : Stmt := topS 53
abbrev N_put_copies : List Str := ["row", "part", "begin", "span", "many", "beats", "lap", "copy", "often", "beat", "count"]
theorem sc_put_copies : FnScope N_put_copies ["row", "part", "begin", "span", "many"] (defScope st_put_copies) := ⟨rfl, rfl, rfl, by decide +kernel, rfl, by decide +kernel, by decide +kernel⟩
def b_put_copies : MS := (sSeq (sAsg (eCall gLenB (aCons (eV 0) aNil)) (gN 5))
  (sSeq (sAsg (e2 gFdiv (eV 5) (eCall gGcd (aCons (eV 5) (aCons (eV 3) aNil)))) (gN 6))
  (sFor (iR1 (aCons (eCall gMin (aCons (eV 6) (aCons (eV 4) aNil))) aNil)) (.nm 7) (sSeq (sAsg (e2 gFdiv (e2 gSub (e2 gAdd (e2 gSub (eV 4) (eV 7)) (eV 6)) (eC (.int 1))) (eV 6)) (gN 8))
  (sFor (iEnumM (aCons (eV 1) aNil)) (.tp ((.nm 9) :: ((.nm 10) :: []))) (sAugS (eV 0) (e2 gMod (e2 gAdd (e2 gAdd (eV 2) (e2 gMul (eV 7) (eV 3))) (eV 9)) (eV 5)) (e2 gMul (eV 10) (eV 8)) ipAdd))))))
abbrev m_put_copies : GC := runB 11 b_put_copies
theorem d_put_copies (T : Tx w K mg)  : Def P w K mg base Z "put_copies" 1 ["row", "part", "begin", "span", "many"] m_put_copies := def_okX T.s_put_copies sc_put_copies fun f cdv A outer s H E hr tk hp =>
  have nd := sc_put_copies.nd
  ((ms_cons (ms_set (i := 5) nd rfl (by first | exact Or.inl rfl | exact Or.inr rfl) (me_callB cr_lenB ad_lenB (by rfl) T.z_len (by decide +kernel) (ma_cons (me_v 0) ma_nil)))
  (ms_cons (ms_set (i := 6) nd rfl (by first | exact Or.inl rfl | exact Or.inr rfl) (me_op op_fdivW ad_fdiv (me_v 5) (me_callM cr_gcd ad_gcd (by rfl) T.z_gcd (ma_cons (me_v 5) (ma_cons (me_v 3) ma_nil)))))
  (ms_one (ms_for hp rfl (mi_r1 (by rfl) T.z_range (ma_cons (me_callB (cr_minA rfl) ad_min (by rfl) T.z_min (by decide +kernel) (ma_cons (me_v 6) (ma_cons (me_v 4) ma_nil))) ma_nil)) (mt_nm (i := 7) nd rfl (by first | exact Or.inl rfl | exact Or.inr rfl)) (ms_cons (ms_set (i := 8) nd rfl (by first | exact Or.inl rfl | exact Or.inr rfl) (me_op op_fdivW ad_fdiv (me_op op_sub ad_sub (me_op op_addA ad_add (me_op op_sub ad_sub (me_v 4) (me_v 7)) (me_v 6)) me_int) (me_v 6)))
  (ms_one (ms_for hp rfl (mi_enum (by rfl) T.z_enumerate (ma_cons (me_v 1) ma_nil)) (mt_tp rfl (mts_cons (mt_nm (i := 9) nd rfl (by first | exact Or.inl rfl | exact Or.inr rfl)) (mts_cons (mt_nm (i := 10) nd rfl (by first | exact Or.inl rfl | exact Or.inr rfl)) mts_nil))) (ms_one (ms_augS (me_v 0) (me_op op_mod ad_mod (me_op op_addA ad_add (me_op op_addA ad_add (me_v 2) (me_op op_mulA ad_mul (me_v 7) (me_v 3))) (me_v 9)) (me_v 5)) (me_op op_mulA ad_mul (me_v 10) (me_v 8)) iop_addA ad_ipAdd))))))))))
abbrev st_laid : Stmt := topS 51
abbrev N_laid : List Str := ["score", "voice", "beats", "lengths", "rows", "varied", "row", "begin", "part", "many", "span"]
theorem sc_laid : FnScope N_laid ["score", "voice", "beats"] (defScope st_laid) := ⟨rfl, rfl, rfl, by decide +kernel, rfl, by decide +kernel, by decide +kernel⟩
def b_laid : MS := (sSeq (sExpr (eCall (gP 2 m_need_both) (aCons (eV 0) (aCons (eV 1) aNil))))
  (sSeq (sIf (bNot (bTru (eCall (gP 3 m_is_from_to) (aCons (eV 2) (aCons (eC (.int 1)) (aCons (eC (.int 96)) aNil)))))) sNever sNil)
  (sSeq (sPar 3 4 (aCons (eCall (gG 1 m_lengths_of) (aCons (eV 0) aNil)) (aCons eDictT aNil)))
  (sSeq (sFor (iSeqB (eCall (gG 1 m_rising) (aCons (eCall (gG 1 m_asked_of) (aCons (eV 0) aNil)) aNil))) (.nm 5) (sSeq (sPar 6 7 (aCons (e2 gMul (eLst (aCons (eC (.int 0)) aNil)) (eV 2)) (aCons (eC (.int 0)) aNil)))
  (sSeq (sIf (bVal (e2 (gEq false) (e2 gIxK (e2 gIxK (eV 0) (e2 gIxK (eV 5) (eC (.int 0)))) (eC (.int 0))) (eC (.str ("block" : Str))))) (sAsg (eCall (gG 2 m_block_row) (aCons (eCall (gG 3 m_block_events) (aCons (eV 0) (aCons (eV 5) (aCons (eV 1) aNil)))) (aCons (eV 2) aNil))) (gN 6)) sNil)
  (sSeq (sFor (iSeqB (eCall (gG 2 m_parts_of) (aCons (eV 0) (aCons (eV 5) aNil)))) (.tp ((.nm 8) :: ((.nm 9) :: []))) (sSeq (sAsg (e2 gMul (e2 gIxK (eV 3) (e2 gIxK (eV 8) (eC (.int 0)))) (e2 gIxK (eV 8) (eC (.int 4)))) (gN 10))
  (sSeq (sExpr (eCall (gG 5 m_put_copies) (aCons (eV 6) (aCons (e2 gIxK (eV 4) (eV 8)) (aCons (eV 7) (aCons (eV 10) (aCons (eV 9) aNil)))))))
  (sAug 7 (e2 gMul (eV 10) (eV 9)) ipAdd))))
  (sAsg (eV 6) (gIdxK (eV 4) (eV 5)))))))
  (sRet (eCall gTuple (aCons (e2 gIxK (eV 4) (eCall (gP 1 m_top_of) (aCons (eV 0) aNil))) aNil)))))))
abbrev m_laid : GC := runB 11 b_laid
theorem d_laid (T : Tx w K mg) (h_need_both : Def P w K mg base Z "need_both" 11 ["score", "voice"] m_need_both) (h_is_from_to : Def P w K mg base Z "is_from_to" 2 ["thing", "low", "high"] m_is_from_to) (h_lengths_of : Def P w K mg base Z "lengths_of" 2 ["score"] m_lengths_of) (h_asked_of : Def P w K mg base Z "asked_of" 3 ["score"] m_asked_of) (h_rising : Def P w K mg base Z "rising" 1 ["asked"] m_rising) (h_block_events : Def P w K mg base Z "block_events" 1 ["score", "varied", "voice"] m_block_events) (h_block_row : Def P w K mg base Z "block_row" 1 ["events", "beats"] m_block_row) (h_parts_of : Def P w K mg base Z "parts_of" 2 ["score", "varied"] m_parts_of) (h_put_copies : Def P w K mg base Z "put_copies" 1 ["row", "part", "begin", "span", "many"] m_put_copies) (h_top_of : Def P w K mg base Z "top_of" 1 ["score"] m_top_of) : Def P w K mg base Z "laid" 12 ["score", "voice", "beats"] m_laid := def_okX T.s_laid sc_laid fun f cdv A outer s H E hr tk hp =>
  have nd := sc_laid.nd
  ((ms_cons (ms_expr (me_pn h_need_both rfl (hr.mono (by decide)) (by rfl) tk (ma_cons (me_v 0) (ma_cons (me_v 1) ma_nil))))
  (ms_cons (ms_if (mt_not (mt_tru (me_pn h_is_from_to rfl (hr.mono (by decide)) (by rfl) tk (ma_cons (me_v 2) (ma_cons me_int (ma_cons (me_gint (by rfl) T.c_MOST_BEATS.choose_spec) ma_nil)))))) (ms_one ms_never) ms_nil)
  (ms_cons (ms_par (i := 3) (j := 4) rfl nd rfl rfl (by decide) rfl rfl (ma_cons (me_gn h_lengths_of rfl (hr.mono (by decide)) (by rfl) tk (ma_cons (me_v 0) ma_nil)) (ma_cons me_dictT ma_nil)) rfl)
  (ms_cons (ms_for hp rfl (mi_seqB (me_gn h_rising rfl (hr.mono (by decide)) (by rfl) tk (ma_cons (me_gn h_asked_of rfl (hr.mono (by decide)) (by rfl) tk (ma_cons (me_v 0) ma_nil)) ma_nil))) (mt_nm (i := 5) nd rfl (by first | exact Or.inl rfl | exact Or.inr rfl)) (ms_cons (ms_par (i := 6) (j := 7) rfl nd rfl rfl (by decide) rfl rfl (ma_cons (me_op op_mulA ad_mul (me_lst (ma_cons me_int ma_nil)) (me_v 2)) (ma_cons me_int ma_nil)) rfl)
  (ms_cons (ms_if (mt_cmp (op_eqA (hu_64 hr)) ad_eq (me_ixK (hu_64 hr) (me_ixK (hu_64 hr) (me_v 0) (me_ixK (hu_64 hr) (me_v 5) me_int)) me_int) me_str (nomark _)) (ms_one (ms_set (i := 6) nd rfl (by first | exact Or.inl rfl | exact Or.inr rfl) (me_gn h_block_row rfl (hr.mono (by decide)) (by rfl) tk (ma_cons (me_gn h_block_events rfl (hr.mono (by decide)) (by rfl) tk (ma_cons (me_v 0) (ma_cons (me_v 5) (ma_cons (me_v 1) ma_nil)))) (ma_cons (me_v 2) ma_nil))))) ms_nil)
  (ms_cons (ms_for hp rfl (mi_seqB (me_gn h_parts_of rfl (hr.mono (by decide)) (by rfl) tk (ma_cons (me_v 0) (ma_cons (me_v 5) ma_nil)))) (mt_tp rfl (mts_cons (mt_nm (i := 8) nd rfl (by first | exact Or.inl rfl | exact Or.inr rfl)) (mts_cons (mt_nm (i := 9) nd rfl (by first | exact Or.inl rfl | exact Or.inr rfl)) mts_nil))) (ms_cons (ms_set (i := 10) nd rfl (by first | exact Or.inl rfl | exact Or.inr rfl) (me_op op_mulA ad_mul (me_ixK (hu_64 hr) (me_v 3) (me_ixK (hu_64 hr) (me_v 8) me_int)) (me_ixK (hu_64 hr) (me_v 8) me_int)))
  (ms_cons (ms_expr (me_gn h_put_copies rfl (hr.mono (by decide)) (by rfl) tk (ma_cons (me_v 6) (ma_cons (me_ixK (hu_64 hr) (me_v 4) (me_v 8)) (ma_cons (me_v 7) (ma_cons (me_v 10) (ma_cons (me_v 9) ma_nil)))))))
  (ms_one (ms_aug (i := 7) nd rfl (by first | exact Or.inl rfl | exact Or.inr rfl) iop_addA ad_ipAdd (me_op op_mulA ad_mul (me_v 10) (me_v 9)))))))
  (ms_one (ms_asg (me_v 6) (mg_subK (hu_64 hr) (me_v 4) (me_v 5))))))))
  (ms_one (ms_ret (me_callTy call_tuple_of ad_tuple (by rfl) T.z_tuple (by decide +kernel) (ma_cons (me_ixK (hu_64 hr) (me_v 4) (me_pn h_top_of rfl (hr.mono (by decide)) (by rfl) tk (ma_cons (me_v 0) ma_nil))) ma_nil)))))))))
abbrev st_strikes_once : Stmt := topS 54
abbrev N_strikes_once : List Str := ["score", "voice", "beats", "count"]
theorem sc_strikes_once : FnScope N_strikes_once ["score", "voice", "beats"] (defScope st_strikes_once) := ⟨rfl, rfl, rfl, by decide +kernel, rfl, by decide +kernel, by decide +kernel⟩
def b_strikes_once : MS := (sRet (eCall gAll (aCons (eLc (iSeqB (eCall (gP 3 m_laid) (aCons (eV 0) (aCons (eV 1) (aCons (eV 2) aNil))))) (.nm 3) [3] bYes (e2 (gEq false) (eV 3) (eC (.int 1)))) aNil)))
abbrev m_strikes_once : GC := runB 4 b_strikes_once
theorem d_strikes_once (T : Tx w K mg) (h_laid : Def P w K mg base Z "laid" 12 ["score", "voice", "beats"] m_laid) : Def P w K mg base Z "strikes_once" 13 ["score", "voice", "beats"] m_strikes_once := def_okX T.s_strikes_once sc_strikes_once fun f cdv A outer s H E hr tk hp =>
  have nd := sc_strikes_once.nd
  ((ms_one (ms_ret (me_callB (cr_all rfl) ad_all (by rfl) T.z_all (by decide +kernel) (ma_cons (me_lc rfl nd (mi_seqB (me_pn h_laid rfl (hr.mono (by decide)) (by rfl) tk (ma_cons (me_v 0) (ma_cons (me_v 1) (ma_cons (me_v 2) ma_nil))))) (blkOk_by (own := [("count", 3)]) (N := N_strikes_once) (sc := defScope st_strikes_once) (by decide +kernel)) rfl (by decide) (fun _ _ _ _ _ => (mt_nm (i := 3) nd rfl (by first | exact Or.inl rfl | exact Or.inr rfl))) (fun _ _ _ _ _ => mtt_nil) (fun _ _ _ _ _ => (me_cmp (op_eqA (hu_64 hr)) ad_eq (me_v 3) me_int (nomark _)))) ma_nil)))))
abbrev st_is_prime : Stmt := topS 57
abbrev N_is_prime : List Str := ["thing", "part"]
theorem sc_is_prime : FnScope N_is_prime ["thing"] (defScope st_is_prime) := ⟨rfl, rfl, rfl, by decide +kernel, rfl, by decide +kernel, by decide +kernel⟩
def b_is_prime : MS := (sRet (eAndT (eCall (gP 3 m_is_from_to) (aCons (eV 0) (aCons (eC (.int 2)) (aCons (eC (.int 95)) aNil)))) (eCall gAll (aCons (eLc (iR2 (aCons (eC (.int 2)) (aCons (eV 0) aNil))) (.nm 1) [1] bYes (e2 (gEq true) (e2 gMod (eV 0) (eV 1)) (eC (.int 0)))) aNil))))
abbrev m_is_prime : GC := runB 2 b_is_prime
theorem d_is_prime (T : Tx w K mg) (h_is_from_to : Def P w K mg base Z "is_from_to" 2 ["thing", "low", "high"] m_is_from_to) : Def P w K mg base Z "is_prime" 3 ["thing"] m_is_prime := def_okX T.s_is_prime sc_is_prime fun f cdv A outer s H E hr tk hp =>
  have nd := sc_is_prime.nd
  ((ms_one (ms_ret (me_andT (me_pn h_is_from_to rfl (hr.mono (by decide)) (by rfl) tk (ma_cons (me_v 0) (ma_cons me_int (ma_cons (me_gint (by rfl) T.c_MOST_PRIME.choose_spec) ma_nil)))) (me_one (me_callB (cr_all rfl) ad_all (by rfl) T.z_all (by decide +kernel) (ma_cons (me_lc rfl nd (mi_r2 (by rfl) T.z_range (ma_cons me_int (ma_cons (me_v 0) ma_nil))) (blkOk_by (own := [("part", 1)]) (N := N_is_prime) (sc := defScope st_is_prime) (by decide +kernel)) rfl (by decide) (fun _ _ _ _ _ => (mt_nm (i := 1) nd rfl (by first | exact Or.inl rfl | exact Or.inr rfl))) (fun _ _ _ _ _ => mtt_nil) (fun _ _ _ _ _ => (me_cmp (op_neA (hu_64 hr)) ad_ne (me_op op_mod ad_mod (me_v 0) (me_v 1)) me_int (nomark _)))) ma_nil)))))))
abbrev st_primes_of : Stmt := topS 58
abbrev N_primes_of : List Str := ["number", "prime"]
theorem sc_primes_of : FnScope N_primes_of ["number"] (defScope st_primes_of) := ⟨rfl, rfl, rfl, by decide +kernel, rfl, by decide +kernel, by decide +kernel⟩
def b_primes_of : MS := (sRet (eLc (iR2 (aCons (eC (.int 2)) (aCons (e2 gAdd (eV 0) (eC (.int 1))) aNil))) (.nm 1) [1] (bAnd (bTru (eCall (gP 1 m_is_prime) (aCons (eV 1) aNil))) (bVal (e2 (gEq false) (e2 gMod (eV 0) (eV 1)) (eC (.int 0))))) (eV 1)))
abbrev m_primes_of : GC := runB 2 b_primes_of
theorem d_primes_of (T : Tx w K mg) (h_is_prime : Def P w K mg base Z "is_prime" 3 ["thing"] m_is_prime) : Def P w K mg base Z "primes_of" 4 ["number"] m_primes_of := def_okX T.s_primes_of sc_primes_of fun f cdv A outer s H E hr tk hp =>
  have nd := sc_primes_of.nd
  ((ms_one (ms_ret (me_lc rfl nd (mi_r2 (by rfl) T.z_range (ma_cons me_int (ma_cons (me_op op_addA ad_add (me_v 0) me_int) ma_nil))) (blkOk_by (own := [("prime", 1)]) (N := N_primes_of) (sc := defScope st_primes_of) (by decide +kernel)) rfl (by decide) (fun _ _ _ _ _ => (mt_nm (i := 1) nd rfl (by first | exact Or.inl rfl | exact Or.inr rfl))) (fun _ _ _ _ _ => (mtt_one (mt_w (mw_and (mt_tru (me_pn h_is_prime rfl (hr.mono (by decide)) (by rfl) takes0 (ma_cons (me_v 1) ma_nil))) (mw_and1 (mt_cmp (op_eqA (hu_64 hr)) ad_eq (me_op op_mod ad_mod (me_v 0) (me_v 1)) me_int (nomark _))))))) (fun _ _ _ _ _ => (me_v 1))))))
abbrev st_times_in : Stmt := topS 59
abbrev N_times_in : List Str := ["prime", "number", "many"]
theorem sc_times_in : FnScope N_times_in ["prime", "number"] (defScope st_times_in) := ⟨rfl, rfl, rfl, by decide +kernel, rfl, by decide +kernel, by decide +kernel⟩
def b_times_in : MS := (sSeq (sAsg (eC (.int 0)) (gN 2))
  (sSeq (whL (bVal (e2 (gEq false) (e2 gMod (eV 1) (eV 0)) (eC (.int 0)))) (sSeq (sAug 1 (eV 0) gFdiv)
  (sAug 2 (eC (.int 1)) ipAdd)) 100000)
  (sRet (eV 2))))
abbrev m_times_in : GC := runB 3 b_times_in
theorem d_times_in (T : Tx w K mg)  : Def P w K mg base Z "times_in" 1 ["prime", "number"] m_times_in := def_okX T.s_times_in sc_times_in fun f cdv A outer s H E hr tk hp =>
  have nd := sc_times_in.nd
  ((ms_cons (ms_set (i := 2) nd rfl (by first | exact Or.inl rfl | exact Or.inr rfl) me_int)
  (ms_cons (ms_while (n := 100000) hp (mt_cmp (op_eqA (hu_64 hr)) ad_eq (me_op op_mod ad_mod (me_v 1) (me_v 0)) me_int (nomark _)) (ms_cons (ms_aug (i := 1) nd rfl (by first | exact Or.inl rfl | exact Or.inr rfl) iop_fdivW ad_fdiv (me_v 0))
  (ms_one (ms_aug (i := 2) nd rfl (by first | exact Or.inl rfl | exact Or.inr rfl) iop_addA ad_ipAdd me_int))))
  (ms_one (ms_ret (me_v 2))))))
abbrev st_power_of : Stmt := topS 60
abbrev N_power_of : List Str := ["prime", "many", "power", "_"]
theorem sc_power_of : FnScope N_power_of ["prime", "many"] (defScope st_power_of) := ⟨rfl, rfl, rfl, by decide +kernel, rfl, by decide +kernel, by decide +kernel⟩
def b_power_of : MS := (sSeq (sAsg (eC (.int 1)) (gN 2))
  (sSeq (sFor (iR1 (aCons (eV 1) aNil)) (.nm 3) (sAug 2 (eV 0) ipMul))
  (sRet (eV 2))))
abbrev m_power_of : GC := runB 4 b_power_of
theorem d_power_of (T : Tx w K mg)  : Def P w K mg base Z "power_of" 1 ["prime", "many"] m_power_of := def_okX T.s_power_of sc_power_of fun f cdv A outer s H E hr tk hp =>
  have nd := sc_power_of.nd
  ((ms_cons (ms_set (i := 2) nd rfl (by first | exact Or.inl rfl | exact Or.inr rfl) me_int)
  (ms_cons (ms_for hp rfl (mi_r1 (by rfl) T.z_range (ma_cons (me_v 1) ma_nil)) (mt_nm (i := 3) nd rfl (by first | exact Or.inl rfl | exact Or.inr rfl)) (ms_one (ms_aug (i := 2) nd rfl (by first | exact Or.inl rfl | exact Or.inr rfl) iop_mulW ad_ipMul (me_v 0))))
  (ms_one (ms_ret (me_v 2))))))
abbrev st_rest_counts : Stmt := topS 61
abbrev N_rest_counts : List Str := ["strokes", "divisor", "counts", "stroke"]
theorem sc_rest_counts : FnScope N_rest_counts ["strokes", "divisor"] (defScope st_rest_counts) := ⟨rfl, rfl, rfl, by decide +kernel, rfl, by decide +kernel, by decide +kernel⟩
def b_rest_counts : MS := (sSeq (sAsg (e2 gMul (eLst (aCons (eC (.int 0)) aNil)) (eV 1)) (gN 2))
  (sSeq (sFor (iSeqB (eV 0)) (.nm 3) (sAugS (eV 2) (e2 gMod (eV 3) (eV 1)) (eC (.int 1)) ipAdd))
  (sRet (eV 2))))
abbrev m_rest_counts : GC := runB 4 b_rest_counts
theorem d_rest_counts (T : Tx w K mg)  : Def P w K mg base Z "rest_counts" 1 ["strokes", "divisor"] m_rest_counts := def_okX T.s_rest_counts sc_rest_counts fun f cdv A outer s H E hr tk hp =>
  have nd := sc_rest_counts.nd
  ((ms_cons (ms_set (i := 2) nd rfl (by first | exact Or.inl rfl | exact Or.inr rfl) (me_op op_mulA ad_mul (me_lst (ma_cons me_int ma_nil)) (me_v 1)))
  (ms_cons (ms_for hp rfl (mi_seqB (me_v 0)) (mt_nm (i := 3) nd rfl (by first | exact Or.inl rfl | exact Or.inr rfl)) (ms_one (ms_augS (me_v 2) (me_op op_mod ad_mod (me_v 3) (me_v 1)) me_int iop_addA ad_ipAdd)))
  (ms_one (ms_ret (me_v 2))))))
abbrev st_is_fair_floor : Stmt := topS 62
abbrev N_is_fair_floor : List Str := ["rhythm", "prime", "floor", "power", "counts", "below", "rest"]
theorem sc_is_fair_floor : FnScope N_is_fair_floor ["rhythm", "prime", "floor"] (defScope st_is_fair_floor) := ⟨rfl, rfl, rfl, by decide +kernel, rfl, by decide +kernel, by decide +kernel⟩
def b_is_fair_floor : MS := (sSeq (sAsg (eCall (gP 2 m_power_of) (aCons (eV 1) (aCons (eV 2) aNil))) (gN 3))
  (sSeq (sAsg (eCall (gG 2 m_rest_counts) (aCons (e2 gIxK (eV 0) (eC (.int 1))) (aCons (eV 3) aNil))) (gN 4))
  (sSeq (sAsg (e2 gFdiv (eV 3) (eV 1)) (gN 5))
  (sRet (eCall gAll (aCons (eLc (iR1 (aCons (eV 3) aNil)) (.nm 6) [6] bYes (e2 (gEq false) (e2 gIxK (eV 4) (eV 6)) (e2 gIxK (eV 4) (e2 gMod (eV 6) (eV 5))))) aNil))))))
abbrev m_is_fair_floor : GC := runB 7 b_is_fair_floor
theorem d_is_fair_floor (T : Tx w K mg) (h_power_of : Def P w K mg base Z "power_of" 1 ["prime", "many"] m_power_of) (h_rest_counts : Def P w K mg base Z "rest_counts" 1 ["strokes", "divisor"] m_rest_counts) : Def P w K mg base Z "is_fair_floor" 2 ["rhythm", "prime", "floor"] m_is_fair_floor := def_okX T.s_is_fair_floor sc_is_fair_floor fun f cdv A outer s H E hr tk hp =>
  have nd := sc_is_fair_floor.nd
  ((ms_cons (ms_set (i := 3) nd rfl (by first | exact Or.inl rfl | exact Or.inr rfl) (me_pn h_power_of rfl (hr.mono (by decide)) (by rfl) tk (ma_cons (me_v 1) (ma_cons (me_v 2) ma_nil))))
  (ms_cons (ms_set (i := 4) nd rfl (by first | exact Or.inl rfl | exact Or.inr rfl) (me_gn h_rest_counts rfl (hr.mono (by decide)) (by rfl) tk (ma_cons (me_ixK (hu_64 hr) (me_v 0) me_int) (ma_cons (me_v 3) ma_nil))))
  (ms_cons (ms_set (i := 5) nd rfl (by first | exact Or.inl rfl | exact Or.inr rfl) (me_op op_fdivW ad_fdiv (me_v 3) (me_v 1)))
  (ms_one (ms_ret (me_callB (cr_all rfl) ad_all (by rfl) T.z_all (by decide +kernel) (ma_cons (me_lc rfl nd (mi_r1 (by rfl) T.z_range (ma_cons (me_v 3) ma_nil)) (blkOk_by (own := [("rest", 6)]) (N := N_is_fair_floor) (sc := defScope st_is_fair_floor) (by decide +kernel)) rfl (by decide) (fun _ _ _ _ _ => (mt_nm (i := 6) nd rfl (by first | exact Or.inl rfl | exact Or.inr rfl))) (fun _ _ _ _ _ => mtt_nil) (fun _ _ _ _ _ => (me_cmp (op_eqA (hu_64 hr)) ad_eq (me_ixK (hu_64 hr) (me_v 4) (me_v 6)) (me_ixK (hu_64 hr) (me_v 4) (me_op op_mod ad_mod (me_v 6) (me_v 5))) (nomark _)))) ma_nil))))))))
abbrev st_floors_of : Stmt := topS 63
abbrev N_floors_of : List Str := ["rhythm", "prime", "highest", "floor"]
theorem sc_floors_of : FnScope N_floors_of ["rhythm", "prime"] (defScope st_floors_of) := ⟨rfl, rfl, rfl, by decide +kernel, rfl, by decide +kernel, by decide +kernel⟩
def b_floors_of : MS := (sSeq (sAsg (eCall (gP 2 m_times_in) (aCons (eV 1) (aCons (e2 gIxK (eV 0) (eC (.int 0))) aNil))) (gN 2))
  (sRet (eCall gTuple (aCons (eLc (iR2 (aCons (eC (.int 1)) (aCons (e2 gAdd (eV 2) (eC (.int 1))) aNil))) (.nm 3) [3] (bTru (eCall (gP 3 m_is_fair_floor) (aCons (eV 0) (aCons (eV 1) (aCons (eV 3) aNil))))) (eV 3)) aNil))))
abbrev m_floors_of : GC := runB 4 b_floors_of
theorem d_floors_of (T : Tx w K mg) (h_times_in : Def P w K mg base Z "times_in" 1 ["prime", "number"] m_times_in) (h_is_fair_floor : Def P w K mg base Z "is_fair_floor" 2 ["rhythm", "prime", "floor"] m_is_fair_floor) : Def P w K mg base Z "floors_of" 3 ["rhythm", "prime"] m_floors_of := def_okX T.s_floors_of sc_floors_of fun f cdv A outer s H E hr tk hp =>
  have nd := sc_floors_of.nd
  ((ms_cons (ms_set (i := 2) nd rfl (by first | exact Or.inl rfl | exact Or.inr rfl) (me_pn h_times_in rfl (hr.mono (by decide)) (by rfl) tk (ma_cons (me_v 1) (ma_cons (me_ixK (hu_64 hr) (me_v 0) me_int) ma_nil))))
  (ms_one (ms_ret (me_callTy call_tuple_of ad_tuple (by rfl) T.z_tuple (by decide +kernel) (ma_cons (me_lc rfl nd (mi_r2 (by rfl) T.z_range (ma_cons me_int (ma_cons (me_op op_addA ad_add (me_v 2) me_int) ma_nil))) (blkOk_by (own := [("floor", 3)]) (N := N_floors_of) (sc := defScope st_floors_of) (by decide +kernel)) rfl (by decide) (fun _ _ _ _ _ => (mt_nm (i := 3) nd rfl (by first | exact Or.inl rfl | exact Or.inr rfl))) (fun _ _ _ _ _ => (mtt_one (mt_tru (me_pn h_is_fair_floor rfl (hr.mono (by decide)) (by rfl) takes0 (ma_cons (me_v 0) (ma_cons (me_v 1) (ma_cons (me_v 3) ma_nil))))))) (fun _ _ _ _ _ => (me_v 3))) ma_nil))))))
abbrev st_is_pair_fair : Stmt := topS 64
abbrev N_is_pair_fair : List Str := ["rhythm", "prime", "floor", "other", "far", "divisor", "counts", "one", "two", "rest", "both"]
theorem sc_is_pair_fair : FnScope N_is_pair_fair ["rhythm", "prime", "floor", "other", "far"] (defScope st_is_pair_fair) := ⟨rfl, rfl, rfl, by decide +kernel, rfl, by decide +kernel, by decide +kernel⟩
def b_is_pair_fair : MS := (sSeq (sAsg (e2 gMul (eCall (gP 2 m_power_of) (aCons (eV 1) (aCons (eV 2) aNil))) (eCall (gP 2 m_power_of) (aCons (eV 3) (aCons (eV 4) aNil)))) (gN 5))
  (sSeq (sAsg (eCall (gG 2 m_rest_counts) (aCons (e2 gIxK (eV 0) (eC (.int 1))) (aCons (eV 5) aNil))) (gN 6))
  (sSeq (sPar 7 8 (aCons (e2 gFdiv (eV 5) (eV 1)) (aCons (e2 gFdiv (eV 5) (eV 3)) aNil)))
  (sSeq (sFor (iR1 (aCons (eV 5) aNil)) (.nm 9) (sSeq (sAsg (e2 gAdd (e2 gIxK (eV 6) (e2 gMod (e2 gSub (eV 9) (eV 7)) (eV 5))) (e2 gIxK (eV 6) (e2 gMod (e2 gSub (eV 9) (eV 8)) (eV 5)))) (gN 10))
  (sIf (bVal (e2 (gEq true) (e2 gAdd (e2 gIxK (eV 6) (eV 9)) (e2 gIxK (eV 6) (e2 gMod (e2 gSub (e2 gSub (eV 9) (eV 7)) (eV 8)) (eV 5)))) (eV 10))) (sRet (eC (.bl false))) sNil)))
  (sRet (eC (.bl true)))))))
abbrev m_is_pair_fair : GC := runB 11 b_is_pair_fair
theorem d_is_pair_fair (T : Tx w K mg) (h_power_of : Def P w K mg base Z "power_of" 1 ["prime", "many"] m_power_of) (h_rest_counts : Def P w K mg base Z "rest_counts" 1 ["strokes", "divisor"] m_rest_counts) : Def P w K mg base Z "is_pair_fair" 2 ["rhythm", "prime", "floor", "other", "far"] m_is_pair_fair := def_okX T.s_is_pair_fair sc_is_pair_fair fun f cdv A outer s H E hr tk hp =>
  have nd := sc_is_pair_fair.nd
  ((ms_cons (ms_set (i := 5) nd rfl (by first | exact Or.inl rfl | exact Or.inr rfl) (me_op op_mulA ad_mul (me_pn h_power_of rfl (hr.mono (by decide)) (by rfl) tk (ma_cons (me_v 1) (ma_cons (me_v 2) ma_nil))) (me_pn h_power_of rfl (hr.mono (by decide)) (by rfl) tk (ma_cons (me_v 3) (ma_cons (me_v 4) ma_nil)))))
  (ms_cons (ms_set (i := 6) nd rfl (by first | exact Or.inl rfl | exact Or.inr rfl) (me_gn h_rest_counts rfl (hr.mono (by decide)) (by rfl) tk (ma_cons (me_ixK (hu_64 hr) (me_v 0) me_int) (ma_cons (me_v 5) ma_nil))))
  (ms_cons (ms_par (i := 7) (j := 8) rfl nd rfl rfl (by decide) rfl rfl (ma_cons (me_op op_fdivW ad_fdiv (me_v 5) (me_v 1)) (ma_cons (me_op op_fdivW ad_fdiv (me_v 5) (me_v 3)) ma_nil)) rfl)
  (ms_cons (ms_for hp rfl (mi_r1 (by rfl) T.z_range (ma_cons (me_v 5) ma_nil)) (mt_nm (i := 9) nd rfl (by first | exact Or.inl rfl | exact Or.inr rfl)) (ms_cons (ms_set (i := 10) nd rfl (by first | exact Or.inl rfl | exact Or.inr rfl) (me_op op_addA ad_add (me_ixK (hu_64 hr) (me_v 6) (me_op op_mod ad_mod (me_op op_sub ad_sub (me_v 9) (me_v 7)) (me_v 5))) (me_ixK (hu_64 hr) (me_v 6) (me_op op_mod ad_mod (me_op op_sub ad_sub (me_v 9) (me_v 8)) (me_v 5)))))
  (ms_one (ms_if (mt_cmp (op_neA (hu_64 hr)) ad_ne (me_op op_addA ad_add (me_ixK (hu_64 hr) (me_v 6) (me_v 9)) (me_ixK (hu_64 hr) (me_v 6) (me_op op_mod ad_mod (me_op op_sub ad_sub (me_op op_sub ad_sub (me_v 9) (me_v 7)) (me_v 8)) (me_v 5)))) (me_v 10) (nomark _)) (ms_one (ms_ret me_bl)) ms_nil))))
  (ms_one (ms_ret me_bl)))))))
abbrev st_unfair_pair : Stmt := topS 65
abbrev N_unfair_pair : List Str := ["rhythm", "primes", "prime", "other", "floor", "far"]
theorem sc_unfair_pair : FnScope N_unfair_pair ["rhythm"] (defScope st_unfair_pair) := ⟨rfl, rfl, rfl, by decide +kernel, rfl, by decide +kernel, by decide +kernel⟩
def b_unfair_pair : MS := (sSeq (sAsg (eCall (gG 1 m_primes_of) (aCons (eCall gLenB (aCons (e2 gIxK (eV 0) (eC (.int 1))) aNil)) aNil)) (gN 1))
  (sSeq (sFor (iSeqB (eV 1)) (.nm 2) (sFor (iSeqB (eV 1)) (.nm 3) (sFor (iSeqB (eIf (bVal (e2 (gI fun i j => decide (i < j)) (eV 2) (eV 3))) (eCall (gP 2 m_floors_of) (aCons (eV 0) (aCons (eV 2) aNil))) (eTup aNil))) (.nm 4) (sFor (iSeqB (eCall (gP 2 m_floors_of) (aCons (eV 0) (aCons (eV 3) aNil)))) (.nm 5) (sIf (bNot (bTru (eCall (gP 5 m_is_pair_fair) (aCons (eV 0) (aCons (eV 2) (aCons (eV 4) (aCons (eV 3) (aCons (eV 5) aNil)))))))) (sRet (eTup (aCons (eV 2) (aCons (eV 4) (aCons (eV 3) (aCons (eV 5) aNil)))))) sNil)))))
  (sRet (eC .non))))
abbrev m_unfair_pair : GC := runB 6 b_unfair_pair
theorem d_unfair_pair (T : Tx w K mg) (h_primes_of : Def P w K mg base Z "primes_of" 4 ["number"] m_primes_of) (h_floors_of : Def P w K mg base Z "floors_of" 3 ["rhythm", "prime"] m_floors_of) (h_is_pair_fair : Def P w K mg base Z "is_pair_fair" 2 ["rhythm", "prime", "floor", "other", "far"] m_is_pair_fair) : Def P w K mg base Z "unfair_pair" 5 ["rhythm"] m_unfair_pair := def_okX T.s_unfair_pair sc_unfair_pair fun f cdv A outer s H E hr tk hp =>
  have nd := sc_unfair_pair.nd
  ((ms_cons (ms_set (i := 1) nd rfl (by first | exact Or.inl rfl | exact Or.inr rfl) (me_gn h_primes_of rfl (hr.mono (by decide)) (by rfl) tk (ma_cons (me_callB cr_lenB ad_lenB (by rfl) T.z_len (by decide +kernel) (ma_cons (me_ixK (hu_64 hr) (me_v 0) me_int) ma_nil)) ma_nil)))
  (ms_cons (ms_for hp rfl (mi_seqB (me_v 1)) (mt_nm (i := 2) nd rfl (by first | exact Or.inl rfl | exact Or.inr rfl)) (ms_one (ms_for hp rfl (mi_seqB (me_v 1)) (mt_nm (i := 3) nd rfl (by first | exact Or.inl rfl | exact Or.inr rfl)) (ms_one (ms_for hp rfl (mi_seqB (me_ifExp (mt_cmp op_lt ad_I (me_v 2) (me_v 3) (nomark _)) (me_pn h_floors_of rfl (hr.mono (by decide)) (by rfl) tk (ma_cons (me_v 0) (ma_cons (me_v 2) ma_nil))) (me_tup ma_nil))) (mt_nm (i := 4) nd rfl (by first | exact Or.inl rfl | exact Or.inr rfl)) (ms_one (ms_for hp rfl (mi_seqB (me_pn h_floors_of rfl (hr.mono (by decide)) (by rfl) tk (ma_cons (me_v 0) (ma_cons (me_v 3) ma_nil)))) (mt_nm (i := 5) nd rfl (by first | exact Or.inl rfl | exact Or.inr rfl)) (ms_one (ms_if (mt_not (mt_tru (me_pn h_is_pair_fair rfl (hr.mono (by decide)) (by rfl) tk (ma_cons (me_v 0) (ma_cons (me_v 2) (ma_cons (me_v 4) (ma_cons (me_v 3) (ma_cons (me_v 5) ma_nil)))))))) (ms_one (ms_ret (me_tup (ma_cons (me_v 2) (ma_cons (me_v 4) (ma_cons (me_v 3) (ma_cons (me_v 5) ma_nil))))))) ms_nil)))))))))
  (ms_one (ms_ret me_non)))))
abbrev st_need_few_primes : Stmt := topS 68
abbrev N_need_few_primes : List Str := ["rhythm"]
theorem sc_need_few_primes : FnScope N_need_few_primes ["rhythm"] (defScope st_need_few_primes) := ⟨rfl, rfl, rfl, by decide +kernel, rfl, by decide +kernel, by decide +kernel⟩
def b_need_few_primes : MS := (sSeq (sExpr (eCall (gP 1 m_need_rhythm) (aCons (eV 0) aNil)))
  (sIf (bVal (e2 (gI fun i j => decide (j < i)) (eCall gLenB (aCons (eCall (gG 1 m_primes_of) (aCons (eCall gLenB (aCons (e2 gIxK (eV 0) (eC (.int 1))) aNil)) aNil)) aNil)) (eC (.int 2)))) sNever sNil))
abbrev m_need_few_primes : GC := runB 1 b_need_few_primes
theorem d_need_few_primes (T : Tx w K mg) (h_need_rhythm : Def P w K mg base Z "need_rhythm" 5 ["rhythm"] m_need_rhythm) (h_primes_of : Def P w K mg base Z "primes_of" 4 ["number"] m_primes_of) : Def P w K mg base Z "need_few_primes" 6 ["rhythm"] m_need_few_primes := def_okX T.s_need_few_primes sc_need_few_primes fun f cdv A outer s H E hr tk hp =>
  have nd := sc_need_few_primes.nd
  ((ms_cons (ms_expr (me_pn h_need_rhythm rfl (hr.mono (by decide)) (by rfl) tk (ma_cons (me_v 0) ma_nil)))
  (ms_one (ms_if (mt_cmp op_gt ad_I (me_callB cr_lenB ad_lenB (by rfl) T.z_len (by decide +kernel) (ma_cons (me_gn h_primes_of rfl (hr.mono (by decide)) (by rfl) tk (ma_cons (me_callB cr_lenB ad_lenB (by rfl) T.z_len (by decide +kernel) (ma_cons (me_ixK (hu_64 hr) (me_v 0) me_int) ma_nil)) ma_nil)) ma_nil)) (me_gint (by rfl) T.c_MOST_PRIMES.choose_spec) (nomark _)) (ms_one ms_never) ms_nil))))
abbrev st_entries_by_floors : Stmt := topS 71
abbrev N_entries_by_floors : List Str := ["rhythm", "beats", "entries", "prime", "highest", "fair", "others", "floor", "step", "entry", "many"]
theorem sc_entries_by_floors : FnScope N_entries_by_floors ["rhythm"] (defScope st_entries_by_floors) := ⟨rfl, rfl, rfl, by decide +kernel, rfl, by decide +kernel, by decide +kernel⟩
def b_entries_by_floors : MS := (sSeq (sAsg (e2 gIxK (eV 0) (eC (.int 0))) (gN 1))
  (sSeq (sAsg (eLst (aCons (eC (.int 0)) aNil)) (gN 2))
  (sSeq (sFor (iSeqB (eCall (gG 1 m_primes_of) (aCons (eV 1) aNil))) (.nm 3) (sSeq (sPar 4 5 (aCons (eCall (gP 2 m_times_in) (aCons (eV 3) (aCons (eV 1) aNil))) (aCons (eCall (gP 2 m_floors_of) (aCons (eV 0) (aCons (eV 3) aNil))) aNil)))
  (sSeq (sAsg (e2 gFdiv (eV 1) (eCall (gP 2 m_power_of) (aCons (eV 3) (aCons (eV 4) aNil)))) (gN 6))
  (sFor (iR2 (aCons (eC (.int 1)) (aCons (e2 gAdd (eV 4) (eC (.int 1))) aNil))) (.nm 7) (sIf (bVal (e2 (gInA true) (eV 7) (eV 5))) (sSeq (sAsg (e2 gMul (eV 6) (eCall (gP 2 m_power_of) (aCons (eV 3) (aCons (e2 gSub (eV 7) (eC (.int 1))) aNil)))) (gN 8))
  (sAsg (eLc2 (iSeqB (eV 2)) (.nm 9) [9, 10] bYes (iR1 (aCons (eV 3) aNil)) (.nm 10) [10] bYes (e2 gMod (e2 gAdd (eV 9) (e2 gMul (eV 8) (eV 10))) (eV 1))) (gN 2))) sNil)))))
  (sRet (eCall gTuple (aCons (eCall gSortedA (aCons (eV 2) aNil)) aNil))))))
abbrev m_entries_by_floors : GC := runB 11 b_entries_by_floors
theorem d_entries_by_floors (T : Tx w K mg) (h_primes_of : Def P w K mg base Z "primes_of" 4 ["number"] m_primes_of) (h_floors_of : Def P w K mg base Z "floors_of" 3 ["rhythm", "prime"] m_floors_of) (h_times_in : Def P w K mg base Z "times_in" 1 ["prime", "number"] m_times_in) (h_power_of : Def P w K mg base Z "power_of" 1 ["prime", "many"] m_power_of) : Def P w K mg base Z "entries_by_floors" 5 ["rhythm"] m_entries_by_floors := def_okX T.s_entries_by_floors sc_entries_by_floors fun f cdv A outer s H E hr tk hp =>
  have nd := sc_entries_by_floors.nd
  ((ms_cons (ms_set (i := 1) nd rfl (by first | exact Or.inl rfl | exact Or.inr rfl) (me_ixK (hu_64 hr) (me_v 0) me_int))
  (ms_cons (ms_set (i := 2) nd rfl (by first | exact Or.inl rfl | exact Or.inr rfl) (me_lst (ma_cons me_int ma_nil)))
  (ms_cons (ms_for hp rfl (mi_seqB (me_gn h_primes_of rfl (hr.mono (by decide)) (by rfl) tk (ma_cons (me_v 1) ma_nil))) (mt_nm (i := 3) nd rfl (by first | exact Or.inl rfl | exact Or.inr rfl)) (ms_cons (ms_par (i := 4) (j := 5) rfl nd rfl rfl (by decide) rfl rfl (ma_cons (me_pn h_times_in rfl (hr.mono (by decide)) (by rfl) tk (ma_cons (me_v 3) (ma_cons (me_v 1) ma_nil))) (ma_cons (me_pn h_floors_of rfl (hr.mono (by decide)) (by rfl) tk (ma_cons (me_v 0) (ma_cons (me_v 3) ma_nil))) ma_nil)) rfl)
  (ms_cons (ms_set (i := 6) nd rfl (by first | exact Or.inl rfl | exact Or.inr rfl) (me_op op_fdivW ad_fdiv (me_v 1) (me_pn h_power_of rfl (hr.mono (by decide)) (by rfl) tk (ma_cons (me_v 3) (ma_cons (me_v 4) ma_nil)))))
  (ms_one (ms_for hp rfl (mi_r2 (by rfl) T.z_range (ma_cons me_int (ma_cons (me_op op_addA ad_add (me_v 4) me_int) ma_nil))) (mt_nm (i := 7) nd rfl (by first | exact Or.inl rfl | exact Or.inr rfl)) (ms_one (ms_if (mt_cmp (op_notInB (hu_64 hr)) ad_inA (me_v 7) (me_v 5) (by with_unfolding_all rfl)) (ms_cons (ms_set (i := 8) nd rfl (by first | exact Or.inl rfl | exact Or.inr rfl) (me_op op_mulA ad_mul (me_v 6) (me_pn h_power_of rfl (hr.mono (by decide)) (by rfl) tk (ma_cons (me_v 3) (ma_cons (me_op op_sub ad_sub (me_v 7) me_int) ma_nil)))))
  (ms_one (ms_setLc2 (i := 2) rfl nd rfl rfl (sw_true rfl rfl rfl (by decide +kernel)) (mi_seqB (me_v 2)) (blkOk_by (own := [("entry", 9), ("many", 10)]) (N := N_entries_by_floors) (sc := defScope st_entries_by_floors) (by decide +kernel)) (vs1 := [10]) rfl (by decide) (by decide) (by decide) (fun _ _ _ _ _ => (mt_nm (i := 9) nd rfl (by first | exact Or.inl rfl | exact Or.inr rfl))) (fun _ _ _ _ _ => mtt_nil) (fun _ _ _ _ _ => (mi_r1 (by rfl) T.z_range (ma_cons (me_v 3) ma_nil))) (fun _ _ _ _ _ => (mt_nm (i := 10) nd rfl (by first | exact Or.inl rfl | exact Or.inr rfl))) (fun _ _ _ _ _ => mtt_nil) (fun _ _ _ _ _ => (me_op op_mod ad_mod (me_op op_addA ad_add (me_v 9) (me_op op_mulA ad_mul (me_v 8) (me_v 10))) (me_v 1)))))) ms_nil)))))))
  (ms_one (ms_ret (me_callTy call_tuple_of ad_tuple (by rfl) T.z_tuple (by decide +kernel) (ma_cons (me_callB (cr_sortedB rfl (hu_64 hr)) ad_sortedA (by rfl) T.z_sorted (by decide +kernel) (ma_cons (me_v 2) ma_nil)) ma_nil))))))))
abbrev st_reason_against : Stmt := topS 70
abbrev N_reason_against : List Str := ["rhythm", "beats", "many", "prime", "floors", "pair"]
theorem sc_reason_against : FnScope N_reason_against ["rhythm"] (defScope st_reason_against) := ⟨rfl, rfl, rfl, by decide +kernel, rfl, by decide +kernel, by decide +kernel⟩
def b_reason_against : MS := (sSeq (sPar 1 2 (aCons (e2 gIxK (eV 0) (eC (.int 0))) (aCons (eCall gLenB (aCons (e2 gIxK (eV 0) (eC (.int 1))) aNil)) aNil)))
  (sSeq (sIf (bVal (e2 (gEq true) (e2 gMod (eV 1) (eV 2)) (eC (.int 0)))) (sRet (eTup (aCons (eC (.str ("share" : Str))) aNil))) sNil)
  (sSeq (sFor (iSeqB (eCall (gG 1 m_primes_of) (aCons (eV 2) aNil))) (.nm 3) (sSeq (sAsg (eCall (gP 2 m_floors_of) (aCons (eV 0) (aCons (eV 3) aNil))) (gN 4))
  (sIf (bVal (e2 (gEq true) (eCall gLenB (aCons (eV 4) aNil)) (eCall (gP 2 m_times_in) (aCons (eV 3) (aCons (eV 2) aNil))))) (sRet (eTup (aCons (eC (.str ("floors" : Str))) (aCons (eV 3) (aCons (eV 4) aNil))))) sNil)))
  (sSeq (sAsg (eCall (gP 1 m_unfair_pair) (aCons (eV 0) aNil)) (gN 5))
  (sRet (eIf (bVal (e2 (gIs false) (eV 5) (eC .non))) (eC .non) (e2 gAdd (eTup (aCons (eC (.str ("pair" : Str))) aNil)) (eV 5))))))))
abbrev m_reason_against : GC := runB 6 b_reason_against
theorem d_reason_against (T : Tx w K mg) (h_primes_of : Def P w K mg base Z "primes_of" 4 ["number"] m_primes_of) (h_floors_of : Def P w K mg base Z "floors_of" 3 ["rhythm", "prime"] m_floors_of) (h_times_in : Def P w K mg base Z "times_in" 1 ["prime", "number"] m_times_in) (h_unfair_pair : Def P w K mg base Z "unfair_pair" 5 ["rhythm"] m_unfair_pair) : Def P w K mg base Z "reason_against" 6 ["rhythm"] m_reason_against := def_okX T.s_reason_against sc_reason_against fun f cdv A outer s H E hr tk hp =>
  have nd := sc_reason_against.nd
  ((ms_cons (ms_par (i := 1) (j := 2) rfl nd rfl rfl (by decide) rfl rfl (ma_cons (me_ixK (hu_64 hr) (me_v 0) me_int) (ma_cons (me_callB cr_lenB ad_lenB (by rfl) T.z_len (by decide +kernel) (ma_cons (me_ixK (hu_64 hr) (me_v 0) me_int) ma_nil)) ma_nil)) rfl)
  (ms_cons (ms_if (mt_cmp (op_neA (hu_64 hr)) ad_ne (me_op op_mod ad_mod (me_v 1) (me_v 2)) me_int (nomark _)) (ms_one (ms_ret (me_tup (ma_cons me_str ma_nil)))) ms_nil)
  (ms_cons (ms_for hp rfl (mi_seqB (me_gn h_primes_of rfl (hr.mono (by decide)) (by rfl) tk (ma_cons (me_v 2) ma_nil))) (mt_nm (i := 3) nd rfl (by first | exact Or.inl rfl | exact Or.inr rfl)) (ms_cons (ms_set (i := 4) nd rfl (by first | exact Or.inl rfl | exact Or.inr rfl) (me_pn h_floors_of rfl (hr.mono (by decide)) (by rfl) tk (ma_cons (me_v 0) (ma_cons (me_v 3) ma_nil))))
  (ms_one (ms_if (mt_cmp (op_neA (hu_64 hr)) ad_ne (me_callB cr_lenB ad_lenB (by rfl) T.z_len (by decide +kernel) (ma_cons (me_v 4) ma_nil)) (me_pn h_times_in rfl (hr.mono (by decide)) (by rfl) tk (ma_cons (me_v 3) (ma_cons (me_v 2) ma_nil))) (nomark _)) (ms_one (ms_ret (me_tup (ma_cons me_str (ma_cons (me_v 3) (ma_cons (me_v 4) ma_nil)))))) ms_nil))))
  (ms_cons (ms_set (i := 5) nd rfl (by first | exact Or.inl rfl | exact Or.inr rfl) (me_pn h_unfair_pair rfl (hr.mono (by decide)) (by rfl) tk (ma_cons (me_v 0) ma_nil)))
  (ms_one (ms_ret (me_ifExp (mt_cmp op_isA ad_is (me_v 5) me_non (nomark _)) me_non (me_op op_addA ad_add (me_tup (ma_cons me_str ma_nil)) (me_v 5))))))))))
abbrev st_entries_of : Stmt := topS 69
abbrev N_entries_of : List Str := ["rhythm"]
theorem sc_entries_of : FnScope N_entries_of ["rhythm"] (defScope st_entries_of) := ⟨rfl, rfl, rfl, by decide +kernel, rfl, by decide +kernel, by decide +kernel⟩
def b_entries_of : MS := (sSeq (sExpr (eCall (gP 1 m_need_few_primes) (aCons (eV 0) aNil)))
  (sRet (eIf (bVal (e2 (gIs false) (eCall (gP 1 m_reason_against) (aCons (eV 0) aNil)) (eC .non))) (eCall (gP 1 m_entries_by_floors) (aCons (eV 0) aNil)) (eC .non))))
abbrev m_entries_of : GC := runB 1 b_entries_of
theorem d_entries_of (T : Tx w K mg) (h_need_few_primes : Def P w K mg base Z "need_few_primes" 6 ["rhythm"] m_need_few_primes) (h_reason_against : Def P w K mg base Z "reason_against" 6 ["rhythm"] m_reason_against) (h_entries_by_floors : Def P w K mg base Z "entries_by_floors" 5 ["rhythm"] m_entries_by_floors) : Def P w K mg base Z "entries_of" 7 ["rhythm"] m_entries_of := def_okX T.s_entries_of sc_entries_of fun f cdv A outer s H E hr tk hp =>
  have nd := sc_entries_of.nd
  ((ms_cons (ms_expr (me_pn h_need_few_primes rfl (hr.mono (by decide)) (by rfl) tk (ma_cons (me_v 0) ma_nil)))
  (ms_one (ms_ret (me_ifExp (mt_cmp op_isA ad_is (me_pn h_reason_against rfl (hr.mono (by decide)) (by rfl) tk (ma_cons (me_v 0) ma_nil)) me_non (nomark _)) (me_pn h_entries_by_floors rfl (hr.mono (by decide)) (by rfl) tk (ma_cons (me_v 0) ma_nil)) me_non)))))
abbrev st__law_begun : Stmt := topS 73
abbrev N__law_begun : List Str := ["script", "cell"]
theorem sc__law_begun : FnScope N__law_begun ["script"] (defScope st__law_begun) := ⟨rfl, rfl, rfl, by decide +kernel, rfl, by decide +kernel, by decide +kernel⟩
def b__law_begun : MS := (sRet (eDisp [(("cells" : Str), (eCall gListB (aCons (eV 0) aNil))), (("left" : Str), (eLc (iSeqB (eV 0)) (.nm 1) [1] (bVal (e2 (gI fun i j => decide (j ≤ i)) (eV 1) (e2 gPow (eC (.int 10)) (eC (.int 18))))) (eV 1))), (("at" : Str), (eC (.int 0)))]))
abbrev m__law_begun : GC := runB 2 b__law_begun
theorem d__law_begun (T : Tx w K mg)  : Def P w K mg base Z "_law_begun" 1 ["script"] m__law_begun := def_okX T.s__law_begun sc__law_begun fun f cdv A outer s H E hr tk hp =>
  have nd := sc__law_begun.nd
  ((ms_one (ms_ret (me_disp (pps_c (me_callTy (cr_listB rfl) ad_listB (by rfl) T.z_list (by decide +kernel) (ma_cons (me_v 0) ma_nil)) (pps_c (me_lc rfl nd (mi_seqB (me_v 0)) (blkOk_by (own := [("cell", 1)]) (N := N__law_begun) (sc := defScope st__law_begun) (by decide +kernel)) rfl (by decide) (fun _ _ _ _ _ => (mt_nm (i := 1) nd rfl (by first | exact Or.inl rfl | exact Or.inr rfl))) (fun _ _ _ _ _ => (mtt_one (mt_cmp op_ge ad_I (me_v 1) (me_op op_pow ad_pow me_int me_int) (nomark _)))) (fun _ _ _ _ _ => (me_v 1))) (pps_c me_int pps_nil))) rfl rfl (by simp) (by decide)))))
abbrev st__law_next : Stmt := topS 74
abbrev N__law_next : List Str := ["m", "many", "rest", "at", "bits", "cell", "blend"]
theorem sc__law_next : FnScope N__law_next ["m", "many"] (defScope st__law_next) := ⟨rfl, rfl, rfl, by decide +kernel, rfl, by decide +kernel, by decide +kernel⟩
def b__law_next : MS := (sSeq (whL (bAnd (bVal (e2 (gEq true) (e2 gIxK (eV 0) (eC (.str ("left" : Str)))) (eLst aNil))) (bVal (e2 (gEq false) (e2 gIxK (e2 gIxK (eV 0) (eC (.str ("left" : Str)))) (eC (.int 0))) (eC (.int 0))))) (sAsg (eSl (e2 gIxK (eV 0) (eC (.str ("left" : Str)))) (oSome (eC (.int 1))) oNone) (gIdxK (eV 0) (eC (.str ("left" : Str))))) 100000)
  (sSeq (sIf (bVal (e2 (gEq true) (e2 gIxK (eV 0) (eC (.str ("left" : Str)))) (eLst aNil))) (sSeq (sAsg (e2 gIxK (e2 gIxK (eV 0) (eC (.str ("left" : Str)))) (eC (.int 0))) (gN 2))
  (sSeq (sAsg (e2 gFdiv (eV 2) (eV 1)) (gIdxK (e2 gIxK (eV 0) (eC (.str ("left" : Str)))) (eC (.int 0))))
  (sRet (e2 gMod (eCall gInt (aCons (eV 2) aNil)) (eV 1))))) sNil)
  (sSeq (sPar 3 4 (aCons (e2 gAdd (e2 gIxK (eV 0) (eC (.str ("at" : Str)))) (eC (.int 1))) (aCons (e2 gIxK (eV 0) (eC (.str ("cells" : Str)))) aNil)))
  (sSeq (sAsg (eV 3) (gIdxK (eV 0) (eC (.str ("at" : Str)))))
  (sSeq (sAsg (eIf (bVal (e2 (gEq true) (eV 4) (eLst aNil))) (eCall gInt (aCons (e2 gIxK (eV 4) (e2 gMod (eCall gInt (aCons (e2 gAdd (e2 gMul (eV 3) (eV 3)) (e2 gFdiv (eV 3) (eC (.int 2)))) aNil)) (eCall gLenB (aCons (eV 4) aNil)))) aNil)) (eC (.int 5))) (gN 5))
  (sSeq (sAsg (e2 gMod (eCall gInt (aCons (e2 gAdd (e2 gAdd (e2 gMul (eV 5) (eC (.int 40692))) (e2 gMul (eV 3) (eC (.int 65539)))) (e2 gMul (e2 gMul (eC (.int 7001)) (eV 3)) (eV 3))) aNil)) (eC (.int 2147483399))) (gN 6))
  (sRet (e2 gMod (eCall gInt (aCons (e2 gFdiv (e2 gMod (eCall gInt (aCons (e2 gAdd (e2 gMul (eV 6) (eC (.int 48271))) (e2 gMul (eC (.int 1013)) (eV 3))) aNil)) (eC (.int 2147483647))) (eC (.int 13))) aNil)) (eV 1)))))))))
abbrev m__law_next : GC := runB 7 b__law_next
theorem d__law_next (T : Tx w K mg)  : Def P w K mg base Z "_law_next" 1 ["m", "many"] m__law_next := def_okX T.s__law_next sc__law_next fun f cdv A outer s H E hr tk hp =>
  have nd := sc__law_next.nd
  ((ms_cons (ms_while (n := 100000) hp (mt_w (mw_and (mt_cmp (op_neA (hu_64 hr)) ad_ne (me_ixK (hu_64 hr) (me_v 0) me_str) (me_lst ma_nil) (nomark _)) (mw_and1 (mt_cmp (op_eqA (hu_64 hr)) ad_eq (me_ixK (hu_64 hr) (me_ixK (hu_64 hr) (me_v 0) me_str) me_int) me_int (nomark _))))) (ms_one (ms_asg (me_sl (me_ixK (hu_64 hr) (me_v 0) me_str) (mo_some me_int) mo_none) (mg_subK (hu_64 hr) (me_v 0) me_str))))
  (ms_cons (ms_if (mt_cmp (op_neA (hu_64 hr)) ad_ne (me_ixK (hu_64 hr) (me_v 0) me_str) (me_lst ma_nil) (nomark _)) (ms_cons (ms_set (i := 2) nd rfl (by first | exact Or.inl rfl | exact Or.inr rfl) (me_ixK (hu_64 hr) (me_ixK (hu_64 hr) (me_v 0) me_str) me_int))
  (ms_cons (ms_asg (me_op op_fdivW ad_fdiv (me_v 2) (me_v 1)) (mg_subK (hu_64 hr) (me_ixK (hu_64 hr) (me_v 0) me_str) me_int))
  (ms_one (ms_ret (me_op op_mod ad_mod (me_callTy call_int1 ad_int (by rfl) T.z_int (by decide +kernel) (ma_cons (me_v 2) ma_nil)) (me_v 1)))))) ms_nil)
  (ms_cons (ms_par (i := 3) (j := 4) rfl nd rfl rfl (by decide) rfl rfl (ma_cons (me_op op_addA ad_add (me_ixK (hu_64 hr) (me_v 0) me_str) me_int) (ma_cons (me_ixK (hu_64 hr) (me_v 0) me_str) ma_nil)) rfl)
  (ms_cons (ms_asg (me_v 3) (mg_subK (hu_64 hr) (me_v 0) me_str))
  (ms_cons (ms_set (i := 5) nd rfl (by first | exact Or.inl rfl | exact Or.inr rfl) (me_ifExp (mt_cmp (op_neA (hu_64 hr)) ad_ne (me_v 4) (me_lst ma_nil) (nomark _)) (me_callTy call_int1 ad_int (by rfl) T.z_int (by decide +kernel) (ma_cons (me_ixK (hu_64 hr) (me_v 4) (me_op op_mod ad_mod (me_callTy call_int1 ad_int (by rfl) T.z_int (by decide +kernel) (ma_cons (me_op op_addA ad_add (me_op op_mulA ad_mul (me_v 3) (me_v 3)) (me_op op_fdivW ad_fdiv (me_v 3) me_int)) ma_nil)) (me_callB cr_lenB ad_lenB (by rfl) T.z_len (by decide +kernel) (ma_cons (me_v 4) ma_nil)))) ma_nil)) me_int))
  (ms_cons (ms_set (i := 6) nd rfl (by first | exact Or.inl rfl | exact Or.inr rfl) (me_op op_mod ad_mod (me_callTy call_int1 ad_int (by rfl) T.z_int (by decide +kernel) (ma_cons (me_op op_addA ad_add (me_op op_addA ad_add (me_op op_mulA ad_mul (me_v 5) me_int) (me_op op_mulA ad_mul (me_v 3) me_int)) (me_op op_mulA ad_mul (me_op op_mulA ad_mul me_int (me_v 3)) (me_v 3))) ma_nil)) me_int))
  (ms_one (ms_ret (me_op op_mod ad_mod (me_callTy call_int1 ad_int (by rfl) T.z_int (by decide +kernel) (ma_cons (me_op op_fdivW ad_fdiv (me_op op_mod ad_mod (me_callTy call_int1 ad_int (by rfl) T.z_int (by decide +kernel) (ma_cons (me_op op_addA ad_add (me_op op_mulA ad_mul (me_v 6) me_int) (me_op op_mulA ad_mul me_int (me_v 3))) ma_nil)) me_int) me_int) ma_nil)) (me_v 1)))))))))))
abbrev st__law_entered : Stmt := topS 75
abbrev N__law_entered : List Str := ["beats", "strokes", "entries", "rows", "entry", "struck", "one", "beat"]
theorem sc__law_entered : FnScope N__law_entered ["beats", "strokes", "entries"] (defScope st__law_entered) := ⟨rfl, rfl, rfl, by decide +kernel, rfl, by decide +kernel, by decide +kernel⟩
def b__law_entered : MS := (sSeq (sAsg (eLst aNil) (gN 3))
  (sSeq (sFor (iSeqB (eV 2)) (.nm 4) (sSeq (sAsg (eCall gSortedA (aCons (eLc (iSeqB (eV 1)) (.nm 6) [6] bYes (e2 gMod (eCall gInt (aCons (e2 gAdd (eV 6) (eV 4)) aNil)) (eV 0))) aNil)) (gN 5))
  (sExpr (eAppend (eV 3) (aCons (eCall gTuple (aCons (eLc (iR1 (aCons (eV 0) aNil)) (.nm 7) [7] bYes (eTup (aCons (eIf (bVal (e2 (gInA false) (eV 7) (eV 5))) (eC (.int 0)) (eC .non)) (aCons (eC (.int 1)) aNil)))) aNil)) aNil)))))
  (sRet (eTup (aCons (eTup (aCons (eC (.str ("block" : Str))) (aCons (eCall gTuple (aCons (eV 3) aNil)) aNil))) aNil)))))
abbrev m__law_entered : GC := runB 8 b__law_entered
theorem d__law_entered (T : Tx w K mg)  : Def P w K mg base Z "_law_entered" 1 ["beats", "strokes", "entries"] m__law_entered := def_okX T.s__law_entered sc__law_entered fun f cdv A outer s H E hr tk hp =>
  have nd := sc__law_entered.nd
  ((ms_cons (ms_set (i := 3) nd rfl (by first | exact Or.inl rfl | exact Or.inr rfl) (me_lst ma_nil))
  (ms_cons (ms_for hp rfl (mi_seqB (me_v 2)) (mt_nm (i := 4) nd rfl (by first | exact Or.inl rfl | exact Or.inr rfl)) (ms_cons (ms_set (i := 5) nd rfl (by first | exact Or.inl rfl | exact Or.inr rfl) (me_callB (cr_sortedB rfl (hu_64 hr)) ad_sortedA (by rfl) T.z_sorted (by decide +kernel) (ma_cons (me_lc rfl nd (mi_seqB (me_v 1)) (blkOk_by (own := [("one", 6)]) (N := N__law_entered) (sc := defScope st__law_entered) (by decide +kernel)) rfl (by decide) (fun _ _ _ _ _ => (mt_nm (i := 6) nd rfl (by first | exact Or.inl rfl | exact Or.inr rfl))) (fun _ _ _ _ _ => mtt_nil) (fun _ _ _ _ _ => (me_op op_mod ad_mod (me_callTy call_int1 ad_int (by rfl) T.z_int (by decide +kernel) (ma_cons (me_op op_addA ad_add (me_v 6) (me_v 4)) ma_nil)) (me_v 0)))) ma_nil)))
  (ms_one (ms_expr (me_append (me_v 3) (ma_cons (me_callTy call_tuple_of ad_tuple (by rfl) T.z_tuple (by decide +kernel) (ma_cons (me_lc rfl nd (mi_r1 (by rfl) T.z_range (ma_cons (me_v 0) ma_nil)) (blkOk_by (own := [("beat", 7)]) (N := N__law_entered) (sc := defScope st__law_entered) (by decide +kernel)) rfl (by decide) (fun _ _ _ _ _ => (mt_nm (i := 7) nd rfl (by first | exact Or.inl rfl | exact Or.inr rfl))) (fun _ _ _ _ _ => mtt_nil) (fun _ _ _ _ _ => (me_tup (ma_cons (me_ifExp (mt_cmp (op_inB (hu_64 hr)) ad_inA (me_v 7) (me_v 5) (by with_unfolding_all rfl)) me_int me_non) (ma_cons me_int ma_nil))))) ma_nil)) ma_nil))))))
  (ms_one (ms_ret (me_tup (ma_cons (me_tup (ma_cons me_str (ma_cons (me_callTy call_tuple_of ad_tuple (by rfl) T.z_tuple (by decide +kernel) (ma_cons (me_v 3) ma_nil)) ma_nil))) ma_nil)))))))
abbrev st_law : Stmt := topS 76
abbrev N_law : List Str := ["script", "m", "turn", "p", "one", "back", "silent", "strokes", "held", "beat", "voice", "other"]
theorem sc_law : FnScope N_law ["script"] (defScope st_law) := ⟨rfl, rfl, rfl, by decide +kernel, rfl, by decide +kernel, by decide +kernel⟩
def b_law : MS := (sSeq (sAsg (eCall (gG 1 m__law_begun) (aCons (eV 0) aNil)) (gN 1))
  (sSeq (sFor (iR1 (aCons (e2 gAdd (eC (.int 1)) (eCall gMin (aCons (eCall gLenB (aCons (eV 0) aNil)) (aCons (eC (.int 3)) aNil)))) aNil)) (.nm 2) (sSeq (sAsg (e2 gSub (eCall (gG 2 m__law_next) (aCons (eV 1) (aCons (eC (.int 25)) aNil))) (eC (.int 12))) (gN 3))
  (sSeq (sAsg (eTup (aCons (eTup (aCons (eC (.str ("block" : Str))) (aCons (eTup (aCons (eTup (aCons (eTup (aCons (eV 3) (aCons (eC (.int 1)) aNil))) (aCons (eTup (aCons (eC .non) (aCons (eC (.int 2)) aNil))) aNil))) aNil)) aNil))) (aCons (eTup (aCons (eC (.str ("again" : Str))) (aCons (eC (.int 0)) (aCons (e2 gPow (eC (.int 10)) (eC (.int 12))) aNil)))) aNil))) (gN 4))
  (sSeq (sIf (bOr (bVal (e2 (gEq true) (eCall (gP 3 m_laid) (aCons (eV 4) (aCons (eC (.int 0)) (aCons (eC (.int 3)) aNil)))) (eTup (aCons (e2 gPow (eC (.int 10)) (eC (.int 12))) (aCons (eC (.int 0)) (aCons (eC (.int 0)) aNil)))))) (bOr (bVal (e2 (gEq true) (eCall (gP 3 m_laid) (aCons (eV 4) (aCons (eC (.int 0)) (aCons (eC (.int 2)) aNil)))) (eTup (aCons (e2 gMul (eC (.int 5)) (e2 gPow (eC (.int 10)) (eC (.int 11)))) (aCons (e2 gMul (eC (.int 5)) (e2 gPow (eC (.int 10)) (eC (.int 11)))) aNil))))) (bVal (e2 (gEq true) (eCall (gP 3 m_laid) (aCons (eV 4) (aCons (eC (.int 0)) (aCons (eC (.int 1)) aNil)))) (eTup (aCons (e2 gPow (eC (.int 10)) (eC (.int 12))) aNil)))))) (sRet (eC (.bl false))) sNil)
  (sSeq (sIf (bOr (bVal (e2 (gEq true) (eSl (eCall (gP 3 m_laid) (aCons (eV 4) (aCons (eC (.int 0)) (aCons (eC (.int 7)) aNil)))) oNone (oSome (eC (.int 3)))) (eTup (aCons (eC (.int 142857142858)) (aCons (eC (.int 142857142857)) (aCons (eC (.int 142857142857)) aNil)))))) (bVal (e2 (gEq true) (eCall gSumA (aCons (eCall (gP 3 m_laid) (aCons (eV 4) (aCons (eC (.int 0)) (aCons (eC (.int 7)) aNil)))) aNil)) (e2 gPow (eC (.int 10)) (eC (.int 12)))))) (sRet (eC (.bl false))) sNil)
  (sSeq (sAsg (e2 gAdd (eSl (eV 4) oNone (oSome (eC (.int 1)))) (eTup (aCons (eTup (aCons (eC (.str ("back" : Str))) (aCons (eC (.int 0)) aNil))) (aCons (eTup (aCons (eC (.str ("then" : Str))) (aCons (eC (.int 0)) (aCons (eC (.int 1)) aNil)))) (aCons (eTup (aCons (eC (.str ("slow" : Str))) (aCons (eC (.int 2)) (aCons (eC (.int 3)) aNil)))) aNil))))) (gN 5))
  (sSeq (sIf (bOr (bVal (e2 (gEq true) (eCall (gP 3 m_laid) (aCons (eV 5) (aCons (eC (.int 0)) (aCons (eC (.int 6)) aNil)))) (eTup (aCons (eC (.int 1)) (aCons (eC (.int 0)) (aCons (eC (.int 0)) (aCons (eC (.int 1)) (aCons (eC (.int 0)) (aCons (eC (.int 0)) aNil))))))))) (bVal (e2 (gEq true) (eCall (gP 3 m_laid) (aCons (eV 5) (aCons (eC (.int 0)) (aCons (eC (.int 18)) aNil)))) (e2 gAdd (e2 gAdd (eTup (aCons (eC (.int 1)) aNil)) (e2 gMul (eTup (aCons (eC (.int 0)) aNil)) (eC (.int 14)))) (eTup (aCons (eC (.int 1)) (aCons (eC (.int 0)) (aCons (eC (.int 0)) aNil)))))))) (sRet (eC (.bl false))) sNil)
  (sSeq (sAsg (eTup (aCons (eTup (aCons (eC (.str ("block" : Str))) (aCons (eTup (aCons (eTup (aCons (eTup (aCons (eC .non) (aCons (eC (.int 5)) aNil))) aNil)) (aCons (eTup (aCons (eTup (aCons (eV 3) (aCons (eC (.int 5)) aNil))) aNil)) aNil))) aNil))) (aCons (eTup (aCons (eC (.str ("again" : Str))) (aCons (eC (.int 0)) (aCons (eC (.int 7)) aNil)))) aNil))) (gN 6))
  (sSeq (sIf (bOr (bVal (e2 (gEq true) (eCall (gP 3 m_laid) (aCons (eV 6) (aCons (eC (.int 0)) (aCons (eC (.int 5)) aNil)))) (e2 gMul (eTup (aCons (eC (.int 0)) aNil)) (eC (.int 5))))) (bVal (e2 (gEq true) (eCall (gP 3 m_laid) (aCons (eV 6) (aCons (eC (.int 1)) (aCons (eC (.int 35)) aNil)))) (eCall gTuple (aCons (eLc (iR1 (aCons (eC (.int 35)) aNil)) (.nm 9) [9] bYes (eCall gInt (aCons (e2 (gEq false) (e2 gMod (eV 9) (eC (.int 5))) (eC (.int 0))) aNil))) aNil))))) (sRet (eC (.bl false))) sNil)
  (sSeq (sIf (bOr (bVal (e2 (gIs true) (eCall (gP 3 m_strikes_once) (aCons (eV 6) (aCons (eC (.int 1)) (aCons (eC (.int 7)) aNil)))) (eC (.bl true)))) (bVal (e2 (gIs true) (eCall (gP 3 m_strikes_once) (aCons (eV 6) (aCons (eC (.int 1)) (aCons (eC (.int 5)) aNil)))) (eC (.bl false))))) (sRet (eC (.bl false))) sNil)
  (sSeq (sAsg (eTup (aCons (eC (.int 0)) (aCons (eC (.int 1)) (aCons (eC (.int 4)) (aCons (eC (.int 5)) aNil))))) (gN 7))
  (sSeq (sAsg (eCall (gP 3 m__law_entered) (aCons (eC (.int 8)) (aCons (eV 7) (aCons (eCall (gP 1 m_entries_of) (aCons (eTup (aCons (eC (.int 8)) (aCons (eV 7) aNil))) aNil)) aNil)))) (gN 8))
  (sSeq (sIf (bVal (e2 (gEq false) (e2 gIxK (eLc (iR1 (aCons (eC (.int 2)) aNil)) (.nm 10) [10] bYes (eCall (gP 3 m_laid) (aCons (eV 8) (aCons (eV 10) (aCons (eC (.int 8)) aNil))))) (eC (.int 0))) (e2 gMul (eTup (aCons (eC (.int 1)) aNil)) (eC (.int 8))))) (sRet (eC (.bl false))) sNil)
  (sSeq (sIf (bVal (e2 (gEq true) (eCall gTuple (aCons (eLc (iZip (aCons (eCall (gP 3 m_laid) (aCons (eV 8) (aCons (eC (.int 0)) (aCons (eC (.int 8)) aNil)))) (aCons (eCall (gP 3 m_laid) (aCons (eV 8) (aCons (eC (.int 1)) (aCons (eC (.int 8)) aNil)))) aNil))) (.tp ((.nm 4) :: ((.nm 11) :: []))) [4, 11] bYes (e2 gAdd (eV 4) (eV 11))) aNil)) (e2 gMul (eTup (aCons (eC (.int 1)) aNil)) (eC (.int 8))))) (sRet (eC (.bl false))) sNil)
  (sIf (bVal (e2 (gIs true) (eCall (gP 3 m_strikes_once) (aCons (eTup (aCons (eTup (aCons (eC (.str ("block" : Str))) (aCons (eTup (aCons (e2 gMul (eTup (aCons (eTup (aCons (eV 3) (aCons (eC (.int 1)) aNil))) aNil)) (eC (.int 12))) aNil)) aNil))) (aCons (eTup (aCons (eC (.str ("again" : Str))) (aCons (eC (.int 0)) (aCons (eC (.int 8)) aNil)))) aNil))) (aCons (eC (.int 0)) (aCons (eC (.int 96)) aNil)))) (eC (.bl true)))) (sRet (eC (.bl false))) sNil)))))))))))))))
  (sSeq (sAsg (eTup (aCons (eC (.str ("block" : Str))) (aCons (eTup (aCons (eTup (aCons (eTup (aCons (eC (.int 0)) (aCons (eC (.int 1)) aNil))) aNil)) aNil)) aNil))) (gN 4))
  (sRet (e2 (gEq false) (eCall (gP 3 m_laid) (aCons (eTup (aCons (eV 4) (aCons (eTup (aCons (eC (.str ("again" : Str))) (aCons (eC (.int 0)) (aCons (e2 gPow (eC (.int 10)) (eC (.int 12))) aNil)))) aNil))) (aCons (eC (.int 0)) (aCons (eC (.int 96)) aNil)))) (e2 gAdd (e2 gMul (eTup (aCons (eC (.int 10416666667)) aNil)) (eC (.int 64))) (e2 gMul (eTup (aCons (eC (.int 10416666666)) aNil)) (eC (.int 32)))))))))
abbrev m_law : GC := runB 12 b_law
theorem d_law (T : Tx w K mg) (h__law_begun : Def P w K mg base Z "_law_begun" 1 ["script"] m__law_begun) (h__law_next : Def P w K mg base Z "_law_next" 1 ["m", "many"] m__law_next) (h_laid : Def P w K mg base Z "laid" 12 ["score", "voice", "beats"] m_laid) (h_strikes_once : Def P w K mg base Z "strikes_once" 13 ["score", "voice", "beats"] m_strikes_once) (h_entries_of : Def P w K mg base Z "entries_of" 7 ["rhythm"] m_entries_of) (h__law_entered : Def P w K mg base Z "_law_entered" 1 ["beats", "strokes", "entries"] m__law_entered) : Def P w K mg base Z "law" 14 ["script"] m_law := def_okX T.s_law sc_law fun f cdv A outer s H E hr tk hp =>
  have nd := sc_law.nd
  ((ms_cons (ms_set (i := 1) nd rfl (by first | exact Or.inl rfl | exact Or.inr rfl) (me_gn h__law_begun rfl (hr.mono (by decide)) (by rfl) tk (ma_cons (me_v 0) ma_nil)))
  (ms_cons (ms_for hp rfl (mi_r1 (by rfl) T.z_range (ma_cons (me_op op_addA ad_add me_int (me_callB (cr_minA rfl) ad_min (by rfl) T.z_min (by decide +kernel) (ma_cons (me_callB cr_lenB ad_lenB (by rfl) T.z_len (by decide +kernel) (ma_cons (me_v 0) ma_nil)) (ma_cons me_int ma_nil)))) ma_nil)) (mt_nm (i := 2) nd rfl (by first | exact Or.inl rfl | exact Or.inr rfl)) (ms_cons (ms_set (i := 3) nd rfl (by first | exact Or.inl rfl | exact Or.inr rfl) (me_op op_sub ad_sub (me_gn h__law_next rfl (hr.mono (by decide)) (by rfl) tk (ma_cons (me_v 1) (ma_cons me_int ma_nil))) me_int))
  (ms_cons (ms_set (i := 4) nd rfl (by first | exact Or.inl rfl | exact Or.inr rfl) (me_tup (ma_cons (me_tup (ma_cons me_str (ma_cons (me_tup (ma_cons (me_tup (ma_cons (me_tup (ma_cons (me_v 3) (ma_cons me_int ma_nil))) (ma_cons (me_tup (ma_cons me_non (ma_cons me_int ma_nil))) ma_nil))) ma_nil)) ma_nil))) (ma_cons (me_tup (ma_cons me_str (ma_cons me_int (ma_cons (me_op op_pow ad_pow me_int me_int) ma_nil)))) ma_nil))))
  (ms_cons (ms_if (mt_w (mw_or (mt_cmp (op_neA (hu_64 hr)) ad_ne (me_pn h_laid rfl (hr.mono (by decide)) (by rfl) tk (ma_cons (me_v 4) (ma_cons me_int (ma_cons me_int ma_nil)))) (me_tup (ma_cons (me_op op_pow ad_pow me_int me_int) (ma_cons me_int (ma_cons me_int ma_nil)))) (nomark _)) (mw_or (mt_cmp (op_neA (hu_64 hr)) ad_ne (me_pn h_laid rfl (hr.mono (by decide)) (by rfl) tk (ma_cons (me_v 4) (ma_cons me_int (ma_cons me_int ma_nil)))) (me_tup (ma_cons (me_op op_mulA ad_mul me_int (me_op op_pow ad_pow me_int me_int)) (ma_cons (me_op op_mulA ad_mul me_int (me_op op_pow ad_pow me_int me_int)) ma_nil))) (nomark _)) (mw_or1 (mt_cmp (op_neA (hu_64 hr)) ad_ne (me_pn h_laid rfl (hr.mono (by decide)) (by rfl) tk (ma_cons (me_v 4) (ma_cons me_int (ma_cons me_int ma_nil)))) (me_tup (ma_cons (me_op op_pow ad_pow me_int me_int) ma_nil)) (nomark _)))))) (ms_one (ms_ret me_bl)) ms_nil)
  (ms_cons (ms_if (mt_w (mw_or (mt_cmp (op_neA (hu_64 hr)) ad_ne (me_sl (me_pn h_laid rfl (hr.mono (by decide)) (by rfl) tk (ma_cons (me_v 4) (ma_cons me_int (ma_cons me_int ma_nil)))) mo_none (mo_some me_int)) (me_tup (ma_cons me_int (ma_cons me_int (ma_cons me_int ma_nil)))) (nomark _)) (mw_or1 (mt_cmp (op_neA (hu_64 hr)) ad_ne (me_callB (cr_sumB rfl) ad_sumA (by rfl) T.z_sum (by decide +kernel) (ma_cons (me_pn h_laid rfl (hr.mono (by decide)) (by rfl) tk (ma_cons (me_v 4) (ma_cons me_int (ma_cons me_int ma_nil)))) ma_nil)) (me_op op_pow ad_pow me_int me_int) (nomark _))))) (ms_one (ms_ret me_bl)) ms_nil)
  (ms_cons (ms_set (i := 5) nd rfl (by first | exact Or.inl rfl | exact Or.inr rfl) (me_op op_addA ad_add (me_sl (me_v 4) mo_none (mo_some me_int)) (me_tup (ma_cons (me_tup (ma_cons me_str (ma_cons me_int ma_nil))) (ma_cons (me_tup (ma_cons me_str (ma_cons me_int (ma_cons me_int ma_nil)))) (ma_cons (me_tup (ma_cons me_str (ma_cons me_int (ma_cons me_int ma_nil)))) ma_nil))))))
  (ms_cons (ms_if (mt_w (mw_or (mt_cmp (op_neA (hu_64 hr)) ad_ne (me_pn h_laid rfl (hr.mono (by decide)) (by rfl) tk (ma_cons (me_v 5) (ma_cons me_int (ma_cons me_int ma_nil)))) (me_tup (ma_cons me_int (ma_cons me_int (ma_cons me_int (ma_cons me_int (ma_cons me_int (ma_cons me_int ma_nil))))))) (nomark _)) (mw_or1 (mt_cmp (op_neA (hu_64 hr)) ad_ne (me_pn h_laid rfl (hr.mono (by decide)) (by rfl) tk (ma_cons (me_v 5) (ma_cons me_int (ma_cons me_int ma_nil)))) (me_op op_addA ad_add (me_op op_addA ad_add (me_tup (ma_cons me_int ma_nil)) (me_op op_mulA ad_mul (me_tup (ma_cons me_int ma_nil)) me_int)) (me_tup (ma_cons me_int (ma_cons me_int (ma_cons me_int ma_nil))))) (nomark _))))) (ms_one (ms_ret me_bl)) ms_nil)
  (ms_cons (ms_set (i := 6) nd rfl (by first | exact Or.inl rfl | exact Or.inr rfl) (me_tup (ma_cons (me_tup (ma_cons me_str (ma_cons (me_tup (ma_cons (me_tup (ma_cons (me_tup (ma_cons me_non (ma_cons me_int ma_nil))) ma_nil)) (ma_cons (me_tup (ma_cons (me_tup (ma_cons (me_v 3) (ma_cons me_int ma_nil))) ma_nil)) ma_nil))) ma_nil))) (ma_cons (me_tup (ma_cons me_str (ma_cons me_int (ma_cons me_int ma_nil)))) ma_nil))))
  (ms_cons (ms_if (mt_w (mw_or (mt_cmp (op_neA (hu_64 hr)) ad_ne (me_pn h_laid rfl (hr.mono (by decide)) (by rfl) tk (ma_cons (me_v 6) (ma_cons me_int (ma_cons me_int ma_nil)))) (me_op op_mulA ad_mul (me_tup (ma_cons me_int ma_nil)) me_int) (nomark _)) (mw_or1 (mt_cmp (op_neA (hu_64 hr)) ad_ne (me_pn h_laid rfl (hr.mono (by decide)) (by rfl) tk (ma_cons (me_v 6) (ma_cons me_int (ma_cons me_int ma_nil)))) (me_callTy call_tuple_of ad_tuple (by rfl) T.z_tuple (by decide +kernel) (ma_cons (me_lc rfl nd (mi_r1 (by rfl) T.z_range (ma_cons me_int ma_nil)) (blkOk_by (own := [("beat", 9)]) (N := N_law) (sc := defScope st_law) (by decide +kernel)) rfl (by decide) (fun _ _ _ _ _ => (mt_nm (i := 9) nd rfl (by first | exact Or.inl rfl | exact Or.inr rfl))) (fun _ _ _ _ _ => mtt_nil) (fun _ _ _ _ _ => (me_callTy call_int1 ad_int (by rfl) T.z_int (by decide +kernel) (ma_cons (me_cmp (op_eqA (hu_64 hr)) ad_eq (me_op op_mod ad_mod (me_v 9) me_int) me_int (nomark _)) ma_nil)))) ma_nil)) (nomark _))))) (ms_one (ms_ret me_bl)) ms_nil)
  (ms_cons (ms_if (mt_w (mw_or (mt_cmp op_isNA ad_isnot (me_pn h_strikes_once rfl (hr.mono (by decide)) (by rfl) tk (ma_cons (me_v 6) (ma_cons me_int (ma_cons me_int ma_nil)))) me_bl (nomark _)) (mw_or1 (mt_cmp op_isNA ad_isnot (me_pn h_strikes_once rfl (hr.mono (by decide)) (by rfl) tk (ma_cons (me_v 6) (ma_cons me_int (ma_cons me_int ma_nil)))) me_bl (nomark _))))) (ms_one (ms_ret me_bl)) ms_nil)
  (ms_cons (ms_set (i := 7) nd rfl (by first | exact Or.inl rfl | exact Or.inr rfl) (me_tup (ma_cons me_int (ma_cons me_int (ma_cons me_int (ma_cons me_int ma_nil))))))
  (ms_cons (ms_set (i := 8) nd rfl (by first | exact Or.inl rfl | exact Or.inr rfl) (me_pn h__law_entered rfl (hr.mono (by decide)) (by rfl) tk (ma_cons me_int (ma_cons (me_v 7) (ma_cons (me_pn h_entries_of rfl (hr.mono (by decide)) (by rfl) tk (ma_cons (me_tup (ma_cons me_int (ma_cons (me_v 7) ma_nil))) ma_nil)) ma_nil)))))
  (ms_cons (ms_if (mt_cmp (op_eqA (hu_64 hr)) ad_eq (me_ixK (hu_64 hr) (me_lc rfl nd (mi_r1 (by rfl) T.z_range (ma_cons me_int ma_nil)) (blkOk_by (own := [("voice", 10)]) (N := N_law) (sc := defScope st_law) (by decide +kernel)) rfl (by decide) (fun _ _ _ _ _ => (mt_nm (i := 10) nd rfl (by first | exact Or.inl rfl | exact Or.inr rfl))) (fun _ _ _ _ _ => mtt_nil) (fun _ _ _ _ _ => (me_pn h_laid rfl (hr.mono (by decide)) (by rfl) takes0 (ma_cons (me_v 8) (ma_cons (me_v 10) (ma_cons me_int ma_nil)))))) me_int) (me_op op_mulA ad_mul (me_tup (ma_cons me_int ma_nil)) me_int) (nomark _)) (ms_one (ms_ret me_bl)) ms_nil)
  (ms_cons (ms_if (mt_cmp (op_neA (hu_64 hr)) ad_ne (me_callTy call_tuple_of ad_tuple (by rfl) T.z_tuple (by decide +kernel) (ma_cons (me_lc rfl nd (mi_zip (by rfl) T.z_zip (ma_cons (me_pn h_laid rfl (hr.mono (by decide)) (by rfl) tk (ma_cons (me_v 8) (ma_cons me_int (ma_cons me_int ma_nil)))) (ma_cons (me_pn h_laid rfl (hr.mono (by decide)) (by rfl) tk (ma_cons (me_v 8) (ma_cons me_int (ma_cons me_int ma_nil)))) ma_nil))) (blkOk_by (own := [("one", 4), ("other", 11)]) (N := N_law) (sc := defScope st_law) (by decide +kernel)) rfl (by decide) (fun _ _ _ _ _ => (mt_tp rfl (mts_cons (mt_nm (i := 4) nd rfl (by first | exact Or.inl rfl | exact Or.inr rfl)) (mts_cons (mt_nm (i := 11) nd rfl (by first | exact Or.inl rfl | exact Or.inr rfl)) mts_nil)))) (fun _ _ _ _ _ => mtt_nil) (fun _ _ _ _ _ => (me_op op_addA ad_add (me_v 4) (me_v 11)))) ma_nil)) (me_op op_mulA ad_mul (me_tup (ma_cons me_int ma_nil)) me_int) (nomark _)) (ms_one (ms_ret me_bl)) ms_nil)
  (ms_one (ms_if (mt_cmp op_isNA ad_isnot (me_pn h_strikes_once rfl (hr.mono (by decide)) (by rfl) tk (ma_cons (me_tup (ma_cons (me_tup (ma_cons me_str (ma_cons (me_tup (ma_cons (me_op op_mulA ad_mul (me_tup (ma_cons (me_tup (ma_cons (me_v 3) (ma_cons me_int ma_nil))) ma_nil)) me_int) ma_nil)) ma_nil))) (ma_cons (me_tup (ma_cons me_str (ma_cons me_int (ma_cons me_int ma_nil)))) ma_nil))) (ma_cons me_int (ma_cons me_int ma_nil)))) me_bl (nomark _)) (ms_one (ms_ret me_bl)) ms_nil))))))))))))))))
  (ms_cons (ms_set (i := 4) nd rfl (by first | exact Or.inl rfl | exact Or.inr rfl) (me_tup (ma_cons me_str (ma_cons (me_tup (ma_cons (me_tup (ma_cons (me_tup (ma_cons me_int (ma_cons me_int ma_nil))) ma_nil)) ma_nil)) ma_nil))))
  (ms_one (ms_ret (me_cmp (op_eqA (hu_64 hr)) ad_eq (me_pn h_laid rfl (hr.mono (by decide)) (by rfl) tk (ma_cons (me_tup (ma_cons (me_v 4) (ma_cons (me_tup (ma_cons me_str (ma_cons me_int (ma_cons (me_op op_pow ad_pow me_int me_int) ma_nil)))) ma_nil))) (ma_cons me_int (ma_cons me_int ma_nil)))) (me_op op_addA ad_add (me_op op_mulA ad_mul (me_tup (ma_cons me_int ma_nil)) me_int) (me_op op_mulA ad_mul (me_tup (ma_cons me_int ma_nil)) me_int)) (nomark _))))))))
end
end TT
-- part k17a
namespace TT
open PySem PySem.Spec L2 TH
abbrev iL (l : List Int) : List CV := l.map CV.int
theorem toD_ints (S : CS) (n : Nat) : ∀ l : List Int, (iL l).mapM (toD S (n+1)) = some (l.map PyData.int)
  | [] => rfl
  | x :: l => by
    show ((CV.int x :: iL l).mapM (toD S (n+1))) = _
    rw [List.mapM_cons, toD_ints S n l]
    rfl
theorem canLay_ints : ∀ l : List Int, PyData.canLayAll0 (l.map PyData.int) = true
  | [] => by simp [PyData.canLayAll0]
  | x :: l => by
    rw [List.map_cons, PyData.canLayAll0, canLay_ints l]
    simp [PyData.canLay0]
theorem depth_ints' (l : List Int) : PyData.depthAll (l.map PyData.int) = 0 := PySem.W.depth_ints l
theorem shaped_ints (l : List Int) : SeqAt.shaped (.list (l.map PyData.int)) = true := by
  unfold SeqAt.shaped
  simp only [PyData.canLay0, canLay_ints, PyData.depth, depth_ints']
  decide
theorem eqv_nil (l : List Int) : PyData.eqv (.list (l.map PyData.int)) (.list []) = l.isEmpty := by
  cases l with
  | nil => simp [PyData.eqv, PyData.eqvAll]
  | cons x l => simp [PyData.eqv, PyData.eqvAll]
theorem gEq_nil {S : CS} {i j : Nat} {l : List Int} (neg : Bool) (hi : S.get i = some (.lst (iL l))) (hj : S.get j = some (.lst [])) : gEq neg (.ref i) (.ref j) S = .ok (.bl (xor neg l.isEmpty)) S := by
  have h1 : toD S 40 (.ref i) = some (.list (l.map PyData.int)) := by
    show (match S.get i with
      | some (.lst l) => (l.mapM (toD S 39)).map PyData.list
      | _ => none) = _
    rw [hi]
    dsimp only
    rw [toD_ints S 38 l]
    rfl
  have h2 : toD S 40 (.ref j) = some (.list []) := by
    show (match S.get j with
      | some (.lst l) => (l.mapM (toD S 39)).map PyData.list
      | _ => none) = _
    rw [hj]
    rfl
  have h3 : SeqAt.shaped (.list []) = true := by decide
  unfold gEq
  simp only [h1, h2, shaped_ints, h3, Bool.and_self, if_true, eqv_nil]
/-- the law's own object -/
structure MO (ns : List Int) (m a b : Nat) (lf : List Int) (t : Int) (S : CS) : Prop where
  gm : S.get m = some (.dic [(.str "cells", .ref a), (.str "left", .ref b), (.str "at", .int t)])
  ga : S.get a = some (.lst (iL ns))
  gb : S.get b = some (.lst (iL lf))
  mb : m ≠ b
  ab : a ≠ b
  ma : m ≠ a
section
variable {ns lf : List Int} {m a b : Nat} {t : Int} {S : CS}
theorem MO.push (h : MO ns m a b lf t S) (o : CO) : MO ns m a b lf t (S.push o) :=
  ⟨by rw [CS.get_push_old (CS.get_lt h.gm)]; exact h.gm, by rw [CS.get_push_old (CS.get_lt h.ga)]; exact h.ga, by rw [CS.get_push_old (CS.get_lt h.gb)]; exact h.gb, h.mb, h.ab, h.ma⟩
theorem n1 : ¬ (("cells" : Str) = "left") := by decide
theorem n2 : ¬ (("cells" : Str) = "at") := by decide
theorem n3 : ¬ (("left" : Str) = "at") := by decide
theorem theDic_m (h : MO ns m a b lf t S) : theDic S (.ref m) = some [(.str "cells", .ref a), (.str "left", .ref b), (.str "at", .int t)] := by
  simp only [theDic, h.gm]
theorem ix_left (h : MO ns m a b lf t S) : gIxK (.ref m) (.str "left") S = .ok (.ref b) S := by
  simp only [gIxK, theDic_m h, keyK, kFind, Option.some.injEq, Sum.inr.injEq, n1, if_false, if_true]
theorem ix_cells (h : MO ns m a b lf t S) : gIxK (.ref m) (.str "cells") S = .ok (.ref a) S := by
  simp only [gIxK, theDic_m h, keyK, kFind, if_true]
theorem ix_at (h : MO ns m a b lf t S) : gIxK (.ref m) (.str "at") S = .ok (.int t) S := by
  simp only [gIxK, theDic_m h, keyK, kFind, Option.some.injEq, Sum.inr.injEq, n2, n3, if_false, if_true]
theorem line3 : 0 + 1 + 1 + 1 < sizeLine := by rw [sizeLine_eq]; decide
theorem n1' : ¬ (("left" : Str) = "cells") := by decide
theorem n3' : ¬ (("at" : Str) = "left") := by decide
theorem n2' : ¬ (("at" : Str) = "cells") := by decide
theorem put_left (h : MO ns m a b lf t S) (j : Nat) : pSetK (.ref m) (.str "left") (.ref j) S = .ok .non (S.put m (.dic [(.str "cells", .ref a), (.str "left", .ref j), (.str "at", .int t)])) := by
  simp only [pSetK, theDic_m h, keyK, kPut, kFind, kRepl, Option.some.injEq, Sum.inr.injEq, n1, n3, n3', if_false, if_true, Option.isSome_some, List.map_cons, List.map_nil, List.length_cons, List.length_nil, line3]
theorem put_at (h : MO ns m a b lf t S) (j : Int) : pSetK (.ref m) (.str "at") (.int j) S = .ok .non (S.put m (.dic [(.str "cells", .ref a), (.str "left", .ref b), (.str "at", .int j)])) := by
  simp only [pSetK, theDic_m h, keyK, kPut, kFind, kRepl, Option.some.injEq, Sum.inr.injEq, n1, n2, n3, n3', if_false, if_true, Option.isSome_some, List.map_cons, List.map_nil, List.length_cons, List.length_nil, line3]
theorem MO.setLeft (h : MO ns m a b lf t S) (l2 : List Int) : MO ns m a S.n l2 t ((S.push (.lst (iL l2))).put m (.dic [(.str "cells", .ref a), (.str "left", .ref S.n), (.str "at", .int t)])) := by
  have hp := h.push (.lst (iL l2))
  have lm := CS.get_lt h.gm
  have la := CS.get_lt h.ga
  refine ⟨CS.get_put_self hp.gm, ?_, ?_, by omega, by omega, h.ma⟩
  · rw [CS.get_put_ne (Ne.symm h.ma) (CS.get_lt hp.gm)]
    exact hp.ga
  · rw [CS.get_put_ne (by omega) (CS.get_lt hp.gm)]
    exact CS.get_push_self
theorem MO.setAt (h : MO ns m a b lf t S) (j : Int) : MO ns m a b lf j (S.put m (.dic [(.str "cells", .ref a), (.str "left", .ref b), (.str "at", .int j)])) := by
  refine ⟨CS.get_put_self h.gm, ?_, ?_, h.mb, h.ab, h.ma⟩
  · rw [CS.get_put_ne (Ne.symm h.ma) (CS.get_lt h.gm)]
    exact h.ga
  · rw [CS.get_put_ne (Ne.symm h.mb) (CS.get_lt h.gm)]
    exact h.gb
theorem MO.setHead (h : MO ns m a b lf t S) (l2 : List Int) : MO ns m a b l2 t (S.put b (.lst (iL l2))) := by
  refine ⟨?_, ?_, CS.get_put_self h.gb, h.mb, h.ab, h.ma⟩
  · rw [CS.get_put_ne h.mb (CS.get_lt h.gb)]
    exact h.gm
  · rw [CS.get_put_ne h.ab (CS.get_lt h.gb)]
    exact h.ga
/-! ### the while of _law_next -/
def eLeft : M CV := e2 gIxK (eV 0) (eC (.str ("left" : Str)))
def tW : M Bool := bAnd (bVal (e2 (gEq true) eLeft (eLst aNil))) (bVal (e2 (gEq false) (e2 gIxK eLeft (eC (.int 0))) (eC (.int 0))))
def bW : MS := sAsg (eSl eLeft (oSome (eC (.int 1))) oNone) (gIdxK (eV 0) (eC (.str ("left" : Str))))
theorem ev_left {c : CE} (h : MO ns m a b lf t S) (hc : c[0]? = some (some (.ref m))) : eLeft c S = .ok (.ref b) S := by
  simp only [eLeft, e2, M.bind, eV, eC, hc, Out.bind, ix_left h]
theorem ix_lst {i : Nat} {l : List Int} {k : Nat} {x : Int} (hg : S.get i = some (.lst (iL l))) (hx : l[k]? = some x) : gIxK (.ref i) (.int (k : Nat)) S = .ok (.int x) S := by
  have hd : theDic S (.ref i) = none := by simp only [theDic, hg]
  have hd2 : theDit S (.ref i) = none := by simp only [theDit, hg]
  have hl : k < l.length := (List.getElem?_eq_some_iff.mp hx).1
  simp only [gIxK, hd, gIxA, hd2, gIx, hg]
  have : atC (iL l) (k : Nat) = some (.int x) := by
    unfold atC ixN
    rw [if_pos (Int.natCast_nonneg k), List.length_map]
    rw [if_pos (by omega)]
    show (iL l)[(((k : Nat) : Int)).toNat]? = _
    rw [Int.toNat_natCast, List.getElem?_map, hx]
    rfl
  rw [this]
theorem ev_tW {c : CE} (h : MO ns m a b lf t S) (hc : c[0]? = some (some (.ref m))) : ∃ S', tW c S = .ok (match lf with
    | [] => false
    | x :: _ => x == 0) S' ∧ MO ns m a b lf t S' := by
  refine ⟨S.push (.lst []), ?_, h.push _⟩
  have h1 := h.push (.lst [])
  have g1 := gEq_nil true h1.gb (CS.get_push_self (S := S) (o := .lst []))
  have l0 : (0 : Nat) ≤ sizeLine := Nat.zero_le _
  simp only [tW, bAnd, bVal, M.bind, e2, ev_left h hc, Out.bind, eLst, aNil, List.length_nil, l0, if_true]
  rw [g1]
  cases lf with
  | nil => rfl
  | cons x r =>
    have e := ix_lst (S := S.push (.lst [])) (k := 0) (x := x) h1.gb rfl
    have e' : gIxK (.ref b) (.int 0) (S.push (.lst [])) = .ok (.int x) (S.push (.lst [])) := e
    simp only [List.isEmpty_cons, Bool.xor_false, if_true, M.bind, ev_left h1 hc, Out.bind, eC, e', gEq, Bool.false_xor]
theorem ev_bW {c : CE} {x : Int} (h : MO ns m a b (x :: lf) t S) (hc : c[0]? = some (some (.ref m))) : ∃ S' b', bW c S = .nx c S' ∧ MO ns m a b' lf t S' := by
  have h1 := h.setLeft lf
  refine ⟨_, S.n, ?_, h1⟩
  have hp := h.push (.lst (iL lf))
  have hcut : cutC (iL (x :: lf)) (some 1) none = iL lf := by
    unfold cutC
    have e1 : HT.sIx (iL (x :: lf)).length 0 (some 1) = 1 := by
      show HT.sIx (iL (x :: lf)).length 0 (some ((1 : Nat) : Int)) = 1
      rw [HT.sIx_nat]
      simp
    have e2 : HT.sIx (iL (x :: lf)).length (iL (x :: lf)).length none = (iL (x :: lf)).length := rfl
    rw [e1, e2]
    show (iL lf).take ((iL (x :: lf)).length - 1) = iL lf
    exact List.take_of_length_le (by simp)
  simp only [bW, sAsg, lift, eSl, M.bind, ev_left h hc, Out.bind, oSome, oNone, eC, h.gb, hcut, gIdxK, eV, hc, put_left hp]
theorem wh_ok (ns : List Int) (m a : Nat) (t : Int) (c : CE) (hc : c[0]? = some (some (.ref m))) : ∀ (lf : List Int) (n b : Nat) (S : CS), lf.length < n → MO ns m a b lf t S →
    ∃ S' b' lf', whL tW bW n c S = .nx c S' ∧ MO ns m a b' lf' t S' ∧ lf'.length ≤ lf.length
  | [], n + 1, b, S, _, h => by
    obtain ⟨S', e, h'⟩ := ev_tW h hc
    exact ⟨S', b, [], by simp only [whL, lift, e, sNil]; rfl, h', Nat.le_refl _⟩
  | x :: lf, n + 1, b, S, hn, h => by
    obtain ⟨S', e, h'⟩ := ev_tW h hc
    by_cases hx : (x == 0) = true
    · obtain ⟨S2, b2, e2, h2⟩ := ev_bW h' hc
      obtain ⟨S3, b3, l3, e3, h3, h4⟩ := wh_ok ns m a t c hc lf n b2 S2 (by simpa using hn) h2
      refine ⟨S3, b3, l3, ?_, h3, Nat.le_trans h4 (Nat.le_succ _)⟩
      simp only [whL, lift, e, hx, if_true, e2, e3]
    · refine ⟨S', b, x :: lf, ?_, h', Nat.le_refl _⟩
      simp only [whL, lift, e, hx, sNil]
      rfl
/-! ### the rest of _law_next -/
def sN1 : MS := sIf (bVal (e2 (gEq true) eLeft (eLst aNil))) (sSeq (sAsg (e2 gIxK eLeft (eC (.int 0))) (gN 2))
  (sSeq (sAsg (e2 gFdiv (eV 2) (eV 1)) (gIdxK eLeft (eC (.int 0))))
  (sRet (e2 gMod (eCall gInt (aCons (eV 2) aNil)) (eV 1))))) sNil
def sN2 : MS := sPar 3 4 (aCons (e2 gAdd (e2 gIxK (eV 0) (eC (.str ("at" : Str)))) (eC (.int 1))) (aCons (e2 gIxK (eV 0) (eC (.str ("cells" : Str)))) aNil))
def sN3 : MS := sAsg (eV 3) (gIdxK (eV 0) (eC (.str ("at" : Str))))
def sN4 : MS := sAsg (eIf (bVal (e2 (gEq true) (eV 4) (eLst aNil))) (eCall gInt (aCons (e2 gIxK (eV 4) (e2 gMod (eCall gInt (aCons (e2 gAdd (e2 gMul (eV 3) (eV 3)) (e2 gFdiv (eV 3) (eC (.int 2)))) aNil)) (eCall gLenB (aCons (eV 4) aNil)))) aNil)) (eC (.int 5))) (gN 5)
def sN5 : MS := sAsg (e2 gMod (eCall gInt (aCons (e2 gAdd (e2 gAdd (e2 gMul (eV 5) (eC (.int 40692))) (e2 gMul (eV 3) (eC (.int 65539)))) (e2 gMul (e2 gMul (eC (.int 7001)) (eV 3)) (eV 3))) aNil)) (eC (.int 2147483399))) (gN 6)
def sN6 : MS := sRet (e2 gMod (eCall gInt (aCons (e2 gFdiv (e2 gMod (eCall gInt (aCons (e2 gAdd (e2 gMul (eV 6) (eC (.int 48271))) (e2 gMul (eC (.int 1013)) (eV 3))) aNil)) (eC (.int 2147483647))) (eC (.int 13))) aNil)) (eV 1))
theorem b_next_eq : b__law_next = sSeq (whL tW bW 100000) (sSeq sN1 (sSeq sN2 (sSeq sN3 (sSeq sN4 (sSeq sN5 sN6))))) := rfl
abbrev cN (m : Nat) (x2 x3 x4 x5 x6 : Option CV) : CE := [some (.ref m), some (.int 25), x2, x3, x4, x5, x6]
theorem sm_small {i : Int} (h0 : 0 ≤ i) (h1 : i < 1000000000000) : smI i = true := by
  unfold smI
  simp only [Bool.and_eq_true, decide_eq_true_eq]
  omega
theorem mul_r {i j : Int} (h : smI j = true) : mulOkC i j = true := by
  unfold mulOkC
  rw [h]
  simp
theorem mul_l {i j : Int} (h : smI i = true) : mulOkC i j = true := by
  unfold mulOkC
  rw [h]
  simp
theorem put_head {x y : Int} {r : List Int} (h : MO ns m a b (x :: r) t S) : pSetK (.ref b) (.int 0) (.int y) S = .ok .non (S.put b (.lst (iL (y :: r)))) := by
  have hd : theDic S (.ref b) = none := by simp only [theDic, h.gb]
  have hd2 : theDit S (.ref b) = none := by simp only [theDit, h.gb]
  have e : ixN (iL (x :: r)).length 0 = some 0 := by
    unfold ixN
    rw [if_pos (by omega), if_pos (by simp)]
    rfl
  simp only [pSetK, hd, pSetA, hd2, pSet, h.gb, e]
  rfl
theorem n1_some {x : Int} {r : List Int} (h : MO ns m a b (x :: r) t S) : ∃ S', sN1 (cN m none none none none none) S = .rt (.int (x % 25)) S' ∧ MO ns m a b (x / 25 :: r) t S' := by
  have h1 := h.push (.lst [])
  have hc : ∀ x2 x3 x4 x5 x6, (cN m x2 x3 x4 x5 x6)[0]? = some (some (.ref m)) := fun _ _ _ _ _ => rfl
  have g1 := gEq_nil true h1.gb (CS.get_push_self (S := S) (o := .lst []))
  have l0 : (0 : Nat) ≤ sizeLine := Nat.zero_le _
  have e' : gIxK (.ref b) (.int 0) (S.push (.lst [])) = .ok (.int x) (S.push (.lst [])) := ix_lst (k := 0) h1.gb rfl
  refine ⟨_, ?_, h1.setHead (x / 25 :: r)⟩
  have d25 : (0 : Int) < 25 ∧ (25 : Int).natAbs.log2 < 9000 := by decide
  have m25 : (0 : Int) < 25 := by decide
  have p := put_head (y := x / 25) h1
  simp only [sN1, sIf, lift, bVal, M.bind, e2, ev_left h (hc _ _ _ _ _), ev_left h1 (hc _ _ _ _ _), Out.bind, eLst, aNil, List.length_nil, l0, if_true, g1, List.isEmpty_cons, Bool.xor_false, sSeq, sAsg, eC, e', gN, List.set_cons_succ, List.set_cons_zero, eV, List.getElem?_cons_succ, List.getElem?_cons_zero, gFdiv, d25, m25, and_self, gIdxK, p, sRet, eCall, aCons, gInt, gMod]
theorem n1_none (h : MO ns m a b [] t S) : ∃ S', sN1 (cN m none none none none none) S = .nx (cN m none none none none none) S' ∧ MO ns m a b [] t S' := by
  have h1 := h.push (.lst [])
  have hc : ∀ x2 x3 x4 x5 x6, (cN m x2 x3 x4 x5 x6)[0]? = some (some (.ref m)) := fun _ _ _ _ _ => rfl
  have g1 := gEq_nil true h1.gb (CS.get_push_self (S := S) (o := .lst []))
  have l0 : (0 : Nat) ≤ sizeLine := Nat.zero_le _
  refine ⟨_, ?_, h1⟩
  simp only [sN1, sIf, lift, bVal, M.bind, e2, ev_left h (hc _ _ _ _ _), Out.bind, eLst, aNil, List.length_nil, l0, if_true, g1, List.isEmpty_nil, Bool.xor_true, Bool.not_true, sNil]
  rfl
theorem n2_ok (h : MO ns m a b lf t S) : sN2 (cN m none none none none none) S = .nx (cN m none (some (.int (t + 1))) (some (.ref a)) none none) S := by
  simp only [sN2, sPar, lift, aCons, aNil, M.bind, e2, eV, eC, Out.bind, List.getElem?_cons_zero, ix_at h, ix_cells h, gAdd, List.set_cons_succ, List.set_cons_zero]
theorem n3_ok (h : MO ns m a b lf t S) (x2 x4 x5 x6 : Option CV) (j : Int) : ∃ S', sN3 (cN m x2 (some (.int j)) x4 x5 x6) S = .nx (cN m x2 (some (.int j)) x4 x5 x6) S' ∧ MO ns m a b lf j S' := by
  refine ⟨_, ?_, h.setAt j⟩
  simp only [sN3, sAsg, lift, gIdxK, M.bind, eV, eC, Out.bind, List.getElem?_cons_zero, List.getElem?_cons_succ, put_at h]
theorem gEq_nil' {S : CS} {i j : Nat} {l : List Int} (hi : S.get i = some (.lst (iL l))) (hj : S.get j = some (.lst [])) : gEq true (.ref i) (.ref j) S = .ok (.bl (!l.isEmpty)) S := by
  rw [gEq_nil true hi hj]
  simp
theorem n4_ok (h : MO ns m a b lf t S) (x2 x5 x6 : Option CV) (j : Int) (h0 : 0 ≤ j) (h1 : j < 1000) : ∃ S' cell, sN4 (cN m x2 (some (.int j)) (some (.ref a)) x5 x6) S = .nx (cN m x2 (some (.int j)) (some (.ref a)) (some (.int cell)) x6) S' ∧ MO ns m a b lf t S' := by
  have hp := h.push (.lst [])
  have g1 := gEq_nil' hp.ga (CS.get_push_self (S := S) (o := .lst []))
  have l0 : (0 : Nat) ≤ sizeLine := Nat.zero_le _
  have mj : mulOkC j j = true := mul_l (sm_small h0 (by omega))
  have d2 : (0 : Int) < 2 ∧ (2 : Int).natAbs.log2 < 9000 := by decide
  by_cases hn : ns = []
  · subst hn
    refine ⟨S.push (.lst []), 5, ?_, hp⟩
    simp only [sN4, sAsg, lift, eIf, bVal, M.bind, e2, eV, eC, eLst, aNil, Out.bind, List.getElem?_cons_zero, List.getElem?_cons_succ, List.length_nil, l0, if_true, g1, List.isEmpty_nil, Bool.not_true, Bool.false_eq_true, if_false, gN, List.set_cons_succ, List.set_cons_zero]
  · have he : ns.isEmpty = false := by
      cases ns with
      | nil => exact absurd rfl hn
      | cons _ _ => rfl
    have hl : 0 < ns.length := List.length_pos_iff.mpr hn
    have hk0 : 0 ≤ (j * j + j / 2) % (ns.length : Int) := Int.emod_nonneg _ (by omega)
    have hk1 : (j * j + j / 2) % (ns.length : Int) < ns.length := Int.emod_lt_of_pos _ (by omega)
    have hlt : ((j * j + j / 2) % (ns.length : Int)).toNat < ns.length := by omega
    have ix := ix_lst (S := S.push (.lst [])) (k := ((j * j + j / 2) % (ns.length : Int)).toNat) (x := ns[((j * j + j / 2) % (ns.length : Int)).toNat]) hp.ga (List.getElem?_eq_getElem hlt)
    rw [Int.toNat_of_nonneg hk0] at ix
    have hlen : gLenB [.ref a] (S.push (.lst [])) = .ok (.int ns.length) (S.push (.lst [])) := by
      have hd2 : theDit (S.push (.lst [])) (.ref a) = none := by simp only [theDit, hp.ga]
      simp only [gLenB, oneFz, gLenA, oneDit, hd2, gLen, hp.ga, List.length_map]
    have hpos : (0 : Int) < ns.length := by omega
    refine ⟨S.push (.lst []), ns[((j * j + j / 2) % (ns.length : Int)).toNat], ?_, hp⟩
    simp only [sN4, sAsg, lift, eIf, bVal, M.bind, e2, eV, eC, eLst, aNil, aCons, Out.bind, List.getElem?_cons_zero, List.getElem?_cons_succ, List.length_nil, l0, if_true, g1, he, Bool.not_false, eCall, gMul, mj, gFdiv, d2, and_self, gAdd, gInt, hlen, gMod, hpos, ix, gN, List.set_cons_succ, List.set_cons_zero]
theorem n5_ok (x2 x4 x6 : Option CV) (j cell : Int) (h0 : 0 ≤ j) (h1 : j < 1000) : ∃ bl, sN5 (cN m x2 (some (.int j)) x4 (some (.int cell)) x6) S = .nx (cN m x2 (some (.int j)) x4 (some (.int cell)) (some (.int bl))) S ∧ 0 ≤ bl ∧ bl < 2147483399 := by
  have m1 : mulOkC cell 40692 = true := mul_r (by decide)
  have m2 : mulOkC j 65539 = true := mul_r (by decide)
  have m3 : mulOkC 7001 j = true := mul_l (by decide)
  have m4 : mulOkC (7001 * j) j = true := mul_r (sm_small h0 (by omega))
  have d : (0 : Int) < 2147483399 := by decide
  refine ⟨(cell * 40692 + j * 65539 + 7001 * j * j) % 2147483399, ?_, Int.emod_nonneg _ (by decide), Int.emod_lt_of_pos _ d⟩
  simp only [sN5, sAsg, lift, M.bind, e2, eV, eC, aNil, aCons, Out.bind, List.getElem?_cons_zero, List.getElem?_cons_succ, if_true, eCall, gMul, m1, m2, m3, m4, gAdd, gInt, gMod, d, gN, List.set_cons_succ, List.set_cons_zero]
theorem n6_ok (x2 x4 x5 : Option CV) (j bl : Int) (h0 : 0 ≤ j) (h1 : j < 1000) : ∃ i, sN6 (cN m x2 (some (.int j)) x4 x5 (some (.int bl))) S = .rt (.int i) S ∧ 0 ≤ i ∧ i < 25 := by
  have m1 : mulOkC bl 48271 = true := mul_r (by decide)
  have m2 : mulOkC 1013 j = true := mul_l (by decide)
  have d : (0 : Int) < 2147483647 := by decide
  have d13 : (0 : Int) < 13 ∧ (13 : Int).natAbs.log2 < 9000 := by decide
  have d25 : (0 : Int) < 25 := by decide
  refine ⟨(bl * 48271 + 1013 * j) % 2147483647 / 13 % 25, ?_, Int.emod_nonneg _ (by decide), Int.emod_lt_of_pos _ d25⟩
  simp only [sN6, sRet, lift, M.bind, e2, eV, eC, aNil, aCons, Out.bind, List.getElem?_cons_zero, List.getElem?_cons_succ, if_true, eCall, gMul, m1, m2, gAdd, gInt, gMod, gFdiv, d, d13, d25, and_self]
/-- _law_next -/
theorem next_ok (h : MO ns m a b lf t S) (hl : lf.length < 1000) (h0 : 0 ≤ t) (h1 : t < 100) : ∃ i S' b' lf' t', m__law_next [.ref m, .int 25] S = .ok (.int i) S' ∧ 0 ≤ i ∧ i < 25 ∧ MO ns m a b' lf' t' S' ∧ lf'.length ≤ lf.length ∧ 0 ≤ t' ∧ t' ≤ t + 1 := by
  obtain ⟨S1, b1, l1, e1, q1, k1⟩ := wh_ok ns m a t (cN m none none none none none) rfl lf 100000 b S (by omega) h
  have start : ([CV.ref m, CV.int 25].map some ++ List.replicate (7 - [CV.ref m, CV.int 25].length) none : CE) = cN m none none none none none := rfl
  cases l1 with
  | cons x r =>
    obtain ⟨S2, e2, q2⟩ := n1_some q1
    refine ⟨x % 25, S2, b1, _, t, ?_, Int.emod_nonneg _ (by decide), Int.emod_lt_of_pos _ (by decide), q2, by simpa using k1, h0, by omega⟩
    unfold m__law_next runB
    rw [start, b_next_eq]
    simp only [sSeq, e1, e2]
  | nil =>
    obtain ⟨S2, e2, q2⟩ := n1_none q1
    obtain ⟨S3, e3, q3⟩ := n3_ok q2 none (some (.ref a)) none none (t + 1)
    obtain ⟨S4, cell, e4, q4⟩ := n4_ok q3 none none none (t + 1) (by omega) (by omega)
    obtain ⟨bl, e5, _, _⟩ := n5_ok (m := m) (S := S4) none (some (.ref a)) none (t + 1) cell (by omega) (by omega)
    obtain ⟨i, e6, i0, i1⟩ := n6_ok (m := m) (S := S4) none (some (.ref a)) (some (.int cell)) (t + 1) bl (by omega) (by omega)
    refine ⟨i, S4, b1, [], t + 1, ?_, i0, i1, q4, Nat.zero_le _, by omega, Int.le_refl _⟩
    unfold m__law_next runB
    rw [start, b_next_eq]
    simp only [sSeq, e1, e2, n2_ok q2, e3, e4, e5, e6]
/-! ### _law_begun -/
theorem lc_filter (f : CV → Bool) (tt : M Bool) (c : CE) (j : Nat) (S : CS) (l : List CV) (ht : ∀ x, x ∈ l → tt (c.set j (some x)) S = .ok (f x) S) (hj : j < c.length) :
    ∀ (k i : Nat) (acc : List CV), i + k = l.length → lcL (itT l) (.nm j) tt (eV j) c k i acc S = .ok (((l.drop i).filter f).reverse ++ acc) S
  | 0, i, acc, hk => by
    have hi : l[i]? = none := List.getElem?_eq_none (by omega)
    have hd : l.drop i = [] := List.drop_eq_nil_of_le (by omega)
    unfold lcL
    simp only [itT, hi, hd, List.filter_nil, List.reverse_nil, List.nil_append]
  | k + 1, i, acc, hk => by
    have hlt : i < l.length := by omega
    have hi : l[i]? = some l[i] := List.getElem?_eq_getElem hlt
    have hd : l.drop i = l[i] :: l.drop (i + 1) := List.drop_eq_getElem_cons hlt
    have hv : eV j (c.set j (some l[i])) S = .ok l[i] S := by
      unfold eV
      rw [List.getElem?_set_self hj]
    unfold lcL
    simp only [itT, hi, bT, ht l[i] (List.getElem_mem hlt)]
    rw [hd, List.filter_cons]
    cases q : f l[i] with
    | true =>
      have ih := lc_filter f tt c j S l ht hj k (i + 1) (l[i] :: acc) (by omega)
      simp only [itT] at ih
      simp only [hv, ih, if_true]
      simp
    | false =>
      have ih := lc_filter f tt c j S l ht hj k (i + 1) acc (by omega)
      simp only [itT] at ih
      simp only [ih]
      simp
end
end TT
-- part k17b
namespace TT
open PySem PySem.Spec L2 TH
mutual
def cvB : CV → CV → Bool
  | .non, .non => true
  | .bl a, .bl b => a == b
  | .int a, .int b => decide (a = b)
  | .str a, .str b => decide (a = b)
  | .tup l, .tup k => cvBs l k
  | _, _ => false
def cvBs : List CV → List CV → Bool
  | [], [] => true
  | x :: l, y :: k => cvB x y && cvBs l k
  | _, _ => false
end
mutual
theorem cvB_ok : ∀ {x y : CV}, cvB x y = true → x = y
  | .non, y, h => by cases y <;> first | rfl | (simp [cvB] at h)
  | .bl a, y, h => by cases y <;> simp [cvB] at h; rw [h]
  | .int a, y, h => by cases y <;> simp [cvB] at h; rw [h]
  | .str a, y, h => by cases y <;> simp [cvB] at h; rw [h]
  | .ty a, y, h => by cases y <;> simp [cvB] at h
  | .ref a, y, h => by cases y <;> simp [cvB] at h
  | .fz a, y, h => by cases y <;> simp [cvB] at h
  | .tup l, y, h => by
    cases y with
    | tup k =>
      have h' : cvBs l k = true := by simpa [cvB] using h
      rw [cvBs_ok h']
    | _ => simp [cvB] at h
theorem cvBs_ok : ∀ {x y : List CV}, cvBs x y = true → x = y
  | [], [], _ => rfl
  | [], _ :: _, h => by simp [cvBs] at h
  | _ :: _, [], h => by simp [cvBs] at h
  | x :: l, y :: k, h => by
    simp only [cvBs, Bool.and_eq_true] at h
    rw [cvB_ok h.1, cvBs_ok h.2]
end
def lpB (n : Nat) (mf : GC) (l : List CV) (v : CV) : Bool := (l.length == n && pureL l) && (pureC v && (match mf l CS.nil with
  | .ok w _ => cvB w v
  | _ => false))
theorem gP_of {n : Nat} {mf : GC} {l : List CV} {v : CV} (h : lpB n mf l v = true) (S : CS) : gP n mf l S = .ok v S := by
  unfold lpB at h
  simp only [Bool.and_eq_true] at h
  obtain ⟨h1, h2, h3⟩ := h
  unfold gP
  rw [if_pos (by simpa using h1)]
  split at h3
  · rename_i w S' hw
    rw [hw]
    have e := cvB_ok h3
    subst e
    simp only [h2, if_true]
  · cases h3
abbrev tI (l : List Int) : CV := .tup (iL l)
def oneP (p : Int) : CV := .tup [.tup [.str ("block" : Str), .tup [.tup [.tup [.int p, .int 1], .tup [.non, .int 2]]]], .tup [.str ("again" : Str), .int 0, .int (10 ^ 12)]]
theorem x1 : lpB 3 m_laid [oneP 0, .int 0, .int 3] (tI [10 ^ 12, 0, 0]) = true := by decide +kernel
end TT
-- part k17p
namespace TT
open PySem PySem.Spec L2 TH
/-! ## put_copies, told plainly -/
theorem put_self {S : CS} {i : Nat} {o : CO} (h : S.get i = some o) : S.put i o = S := by
  have hl := CS.get_lt h
  unfold CS.get at h
  rw [if_pos hl] at h
  obtain ⟨q, e⟩ := List.getElem?_eq_some_iff.mp h
  obtain ⟨n, l⟩ := S
  unfold CS.put
  simp only at *
  rw [← e, List.set_getElem_self]
theorem put_put {S : CS} {i : Nat} {o u : CO} : (S.put i o).put i u = S.put i u := by
  unfold CS.put
  simp only [List.set_set]
def inn (beats o often : Int) : List Int → Nat → List Int → List Int
  | [], _, row => row
  | count :: rest, i, row => inn beats o often rest (i + 1) (row.set ((o + i) % beats).toNat (row.getD ((o + i) % beats).toNat 0 + count * often))
def outp (beats lap b s n : Int) (part : List Int) : Nat → Nat → List Int → List Int
  | 0, _, row => row
  | k + 1, copy, row => outp beats lap b s n part k (copy + 1) (inn beats (b + copy * s) ((n - copy + lap - 1) / lap) part 0 row)
theorem inn_len (beats o often : Int) : ∀ (rest : List Int) (i : Nat) (row : List Int), (inn beats o often rest i row).length = row.length
  | [], _, _ => rfl
  | x :: rest, i, row => by
    unfold inn
    rw [inn_len, List.length_set]
abbrev cP (i j : Nat) (b s n beats lap : Int) (x7 x8 x9 x10 : Option CV) : CE := [some (.ref i), some (.ref j), some (.int b), some (.int s), some (.int n), some (.int beats), some (.int lap), x7, x8, x9, x10]
def bI : MS := sAugS (eV 0) (e2 gMod (e2 gAdd (e2 gAdd (eV 2) (e2 gMul (eV 7) (eV 3))) (eV 9)) (eV 5)) (e2 gMul (eV 10) (eV 8)) ipAdd
def bO : MS := sSeq (sAsg (e2 gFdiv (e2 gSub (e2 gAdd (e2 gSub (eV 4) (eV 7)) (eV 6)) (eC (.int 1))) (eV 6)) (gN 8)) (sFor (iEnumM (aCons (eV 1) aNil)) (.tp ((.nm 9) :: ((.nm 10) :: []))) bI)
section
variable {i j : Nat} {b s n beats lap : Int} {x7 x8 x9 x10 : Option CV} {S : CS} {row part : List Int}
theorem bI_ok {copy often beat count : Int} (hi : S.get i = some (.lst (iL row))) (hb : (row.length : Int) = beats) (h0 : 0 < beats) (hc : smI copy = true) (ho : smI often = true) :
    bI (cP i j b s n beats lap (some (.int copy)) (some (.int often)) (some (.int beat)) (some (.int count))) S = .nx (cP i j b s n beats lap (some (.int copy)) (some (.int often)) (some (.int beat)) (some (.int count)))
      (S.put i (.lst (iL (row.set ((b + copy * s + beat) % beats).toNat (row.getD ((b + copy * s + beat) % beats).toNat 0 + count * often))))) := by
  have k0 : 0 ≤ (b + copy * s + beat) % beats := Int.emod_nonneg _ (by omega)
  have k1 : (b + copy * s + beat) % beats < beats := Int.emod_lt_of_pos _ h0
  have hlt : ((b + copy * s + beat) % beats).toNat < row.length := by omega
  have hg : (iL row)[((b + copy * s + beat) % beats).toNat]? = some (.int (row.getD ((b + copy * s + beat) % beats).toNat 0)) := by
    rw [List.getElem?_map, List.getElem?_eq_getElem hlt, List.getD_eq_getElem?_getD, List.getElem?_eq_getElem hlt]
    rfl
  have hx : ixN (iL row).length ((b + copy * s + beat) % beats) = some ((b + copy * s + beat) % beats).toNat := by
    unfold ixN
    rw [if_pos k0, List.length_map, if_pos (by omega)]
  have m1 : mulOkC copy s = true := mul_l hc
  have m2 : mulOkC count often = true := mul_r ho
  have hs : (iL row).set ((b + copy * s + beat) % beats).toNat (.int (row.getD ((b + copy * s + beat) % beats).toNat 0 + count * often)) = iL (row.set ((b + copy * s + beat) % beats).toNat (row.getD ((b + copy * s + beat) % beats).toNat 0 + count * often)) := by
    rw [← List.map_set]
  simp only [bI, sAugS, lift, eV, M.bind, e2, Out.bind, List.getElem?_cons_zero, List.getElem?_cons_succ, gMul, m1, m2, if_true, gAdd, gMod, h0, hi, k0, hg, ipAdd, pSet, hx, hs, sNil]
theorem inn_ok {copy often : Int} (hij : i ≠ j) (h0 : 0 < beats) (hc : smI copy = true) (ho : smI often = true) : ∀ (rest : List Int) (idx : Nat) (row : List Int) (S : CS) (x9 x10 : Option CV), S.get i = some (.lst (iL row)) → S.get j = some (.lst (iL part)) → (row.length : Int) = beats → part.drop idx = rest →
    ∃ y9 y10, forL (itEnum (itL j (iL part))) (.tp ((.nm 9) :: ((.nm 10) :: []))) bI rest.length idx (cP i j b s n beats lap (some (.int copy)) (some (.int often)) x9 x10) S =
      .nx (cP i j b s n beats lap (some (.int copy)) (some (.int often)) y9 y10) (S.put i (.lst (iL (inn beats (b + copy * s) often rest idx row))))
  | [], idx, row, S, x9, x10, hi, hj, hb, hd => by
    have hn : part.length ≤ idx := List.drop_eq_nil_iff.mp hd
    have e : (itEnum (itL j (iL part))).nxt idx S = some none := by
      have : (iL part)[idx]? = none := List.getElem?_eq_none (by rw [List.length_map]; exact hn)
      simp only [itEnum, itL, hj, this]
    refine ⟨x9, x10, ?_⟩
    rw [inn, put_self hi]
    simp only [List.length_nil, forL, e]
  | x :: rest, idx, row, S, x9, x10, hi, hj, hb, hd => by
    have hlt : idx < part.length := by
      rcases Nat.lt_or_ge idx part.length with h | h
      · exact h
      · rw [List.drop_eq_nil_of_le h] at hd; cases hd
    have hd2 := List.drop_eq_getElem_cons hlt
    rw [hd] at hd2
    have ex : part[idx] = x := by injection hd2 with e1 _; exact e1.symm
    have er : part.drop (idx + 1) = rest := by injection hd2 with _ e2; exact e2.symm
    have e : (itEnum (itL j (iL part))).nxt idx S = some (some (.tup [.int (idx : Nat), .int x])) := by
      have : (iL part)[idx]? = some (.int x) := by rw [List.getElem?_map, List.getElem?_eq_getElem hlt, ex]; rfl
      simp only [itEnum, itL, hj, this]
    have et : bT (.tp ((.nm 9) :: ((.nm 10) :: []))) (.tup [.int (idx : Nat), .int x]) (cP i j b s n beats lap (some (.int copy)) (some (.int often)) x9 x10) = some (cP i j b s n beats lap (some (.int copy)) (some (.int often)) (some (.int (idx : Nat))) (some (.int x))) := rfl
    have e1 := bI_ok (j := j) (b := b) (s := s) (n := n) (lap := lap) (copy := copy) (often := often) (beat := (idx : Nat)) (count := x) hi hb h0 hc ho
    have gi := CS.get_put_self (o := .lst (iL (row.set ((b + copy * s + (idx : Nat)) % beats).toNat (row.getD ((b + copy * s + (idx : Nat)) % beats).toNat 0 + x * often)))) hi
    have gj : (S.put i (.lst (iL (row.set ((b + copy * s + (idx : Nat)) % beats).toNat (row.getD ((b + copy * s + (idx : Nat)) % beats).toNat 0 + x * often))))).get j = some (.lst (iL part)) := by
      rw [CS.get_put_ne (Ne.symm hij) (CS.get_lt hi)]
      exact hj
    obtain ⟨y9, y10, e2⟩ := inn_ok hij h0 hc ho rest (idx + 1) _ _ (some (.int (idx : Nat))) (some (.int x)) gi gj (by rw [List.length_set]; exact hb) er
    refine ⟨y9, y10, ?_⟩
    rw [put_put] at e2
    simp only [List.length_cons, forL, e, et, e1, e2]
    rw [inn]
def okPC (row : List Int) (s n : Int) : Bool := decide (0 < row.length) && (decide (0 < (Nat.gcd row.length s.natAbs)) && (decide (0 < (row.length : Int) / ((Nat.gcd row.length s.natAbs : Nat) : Int)) && (decide (0 ≤ n) && (decide (n < 10 ^ 15) && decide (row.length < 1000)))))
theorem smI_of {i : Int} (h0 : 0 ≤ i) (h1 : i < 10 ^ 17) : smI i = true := by
  unfold smI
  simp only [Bool.and_eq_true, decide_eq_true_eq]
  omega
theorem outp_ok (hij : i ≠ j) (h0 : 0 < beats) (hlap : 0 < lap) (hlap2 : lap < 1000) (hn : 0 ≤ n) (hn2 : n < 10 ^ 15) (m : Nat) (hm : (m : Int) ≤ n) (hm2 : m < 1000) : ∀ (k copy : Nat) (row : List Int) (S : CS) (x7 x8 x9 x10 : Option CV), copy + k = m → S.get i = some (.lst (iL row)) → S.get j = some (.lst (iL part)) → (row.length : Int) = beats →
    ∃ y7 y8 y9 y10, forL (itR 0 m) (.nm 7) bO k copy (cP i j b s n beats lap x7 x8 x9 x10) S = .nx (cP i j b s n beats lap y7 y8 y9 y10) (S.put i (.lst (iL (outp beats lap b s n part k copy row))))
  | 0, copy, row, S, x7, x8, x9, x10, hk, hi, hj, hb => by
    have e : (itR 0 m).nxt copy S = some none := by
      show some (if copy < m then some (CV.int (0 + copy)) else none) = some none
      rw [if_neg (by omega)]
    refine ⟨x7, x8, x9, x10, ?_⟩
    rw [outp, put_self hi]
    simp only [forL, e]
  | k + 1, copy, row, S, x7, x8, x9, x10, hk, hi, hj, hb => by
    have e : (itR 0 m).nxt copy S = some (some (.int (copy : Nat))) := by
      show some (if copy < m then some (CV.int (0 + copy)) else none) = _
      rw [if_pos (by omega), Int.zero_add]
    have et : bT (.nm 7) (.int (copy : Nat)) (cP i j b s n beats lap x7 x8 x9 x10) = some (cP i j b s n beats lap (some (.int (copy : Nat))) x8 x9 x10) := rfl
    have d : 0 < lap ∧ lap.natAbs.log2 < 9000 := ⟨hlap, by
      have : lap.natAbs < 2 ^ 10 := by omega
      have h := Nat.log2_lt (n := lap.natAbs) (k := 10) (by omega)
      have := h.mpr this
      omega⟩
    have ho0 : 0 ≤ (n - (copy : Nat) + lap - 1) / lap := Int.ediv_nonneg (by omega) (by omega)
    have ho1 : (n - (copy : Nat) + lap - 1) / lap < 10 ^ 17 := by
      have : (n - (copy : Nat) + lap - 1) / lap ≤ n - (copy : Nat) + lap - 1 := Int.ediv_le_self _ (by omega)
      omega
    have ea : sAsg (e2 gFdiv (e2 gSub (e2 gAdd (e2 gSub (eV 4) (eV 7)) (eV 6)) (eC (.int 1))) (eV 6)) (gN 8) (cP i j b s n beats lap (some (.int (copy : Nat))) x8 x9 x10) S = .nx (cP i j b s n beats lap (some (.int (copy : Nat))) (some (.int ((n - (copy : Nat) + lap - 1) / lap))) x9 x10) S := by
      simp only [sAsg, lift, e2, M.bind, eV, eC, Out.bind, List.getElem?_cons_zero, List.getElem?_cons_succ, TH.gSub, gAdd, gFdiv, d, and_self, if_true, gN, List.set_cons_succ, List.set_cons_zero]
    obtain ⟨y9, y10, ei⟩ := inn_ok (b := b) (s := s) (n := n) (lap := lap) (part := part) (copy := (copy : Nat)) (often := (n - (copy : Nat) + lap - 1) / lap) hij h0 (smI_of (by omega) (by omega)) (smI_of ho0 ho1) part 0 row S x9 x10 hi hj hb rfl
    have ee : iEnumM (aCons (eV 1) aNil) (cP i j b s n beats lap (some (.int (copy : Nat))) (some (.int ((n - (copy : Nat) + lap - 1) / lap))) x9 x10) S = .ok (itEnum (itL j (iL part))) S := by
      simp only [iEnumM, aCons, aNil, M.bind, eV, Out.bind, List.getElem?_cons_zero, List.getElem?_cons_succ, hj]
    have ec : (itEnum (itL j (iL part))).cnt = part.length := by
      show (iL part).length = part.length
      rw [List.length_map]
    have gi := CS.get_put_self (o := .lst (iL (inn beats (b + (copy : Nat) * s) ((n - (copy : Nat) + lap - 1) / lap) part 0 row))) hi
    have gj : (S.put i (.lst (iL (inn beats (b + (copy : Nat) * s) ((n - (copy : Nat) + lap - 1) / lap) part 0 row)))).get j = some (.lst (iL part)) := by
      rw [CS.get_put_ne (Ne.symm hij) (CS.get_lt hi)]
      exact hj
    obtain ⟨z7, z8, z9, z10, e2⟩ := outp_ok hij h0 hlap hlap2 hn hn2 m hm hm2 k (copy + 1) _ _ (some (.int (copy : Nat))) (some (.int ((n - (copy : Nat) + lap - 1) / lap))) y9 y10 (by omega) gi gj (by rw [inn_len]; exact hb)
    refine ⟨z7, z8, z9, z10, ?_⟩
    rw [put_put] at e2
    have eb : bO (cP i j b s n beats lap (some (.int (copy : Nat))) x8 x9 x10) S = .nx (cP i j b s n beats lap (some (.int (copy : Nat))) (some (.int ((n - (copy : Nat) + lap - 1) / lap))) y9 y10) (S.put i (.lst (iL (inn beats (b + (copy : Nat) * s) ((n - (copy : Nat) + lap - 1) / lap) part 0 row)))) := by
      simp only [bO, sSeq, ea, sFor, lift, ee, ec, ei]
    simp only [forL, e, et, eb, e2]
    rw [outp]
theorem min_int {a c : Int} (S : CS) : gMin [.int a, .int c] S = .ok (.int (if c < a then c else a)) S := rfl
def pcLap (row : List Int) (s : Int) : Int := (row.length : Int) / ((Nat.gcd row.length s.natAbs : Nat) : Int)
def pc (row part : List Int) (b s n : Int) : List Int := outp row.length (pcLap row s) b s n part (if n < pcLap row s then n else pcLap row s).toNat 0 row
theorem pc_ok (hij : i ≠ j) (hi : S.get i = some (.lst (iL row))) (hj : S.get j = some (.lst (iL part))) (hok : okPC row s n = true) : m_put_copies [.ref i, .ref j, .int b, .int s, .int n] S = .ok .non (S.put i (.lst (iL (pc row part b s n)))) := by
  unfold okPC at hok
  simp only [Bool.and_eq_true, decide_eq_true_eq] at hok
  obtain ⟨h1, h2, h3, h4, h5, h6⟩ := hok
  have st : ([CV.ref i, CV.ref j, CV.int b, CV.int s, CV.int n].map some ++ List.replicate (11 - [CV.ref i, CV.ref j, CV.int b, CV.int s, CV.int n].length) none : CE) = [some (.ref i), some (.ref j), some (.int b), some (.int s), some (.int n), none, none, none, none, none, none] := rfl
  have hb : b_put_copies = sSeq (sAsg (eCall gLenB (aCons (eV 0) aNil)) (gN 5)) (sSeq (sAsg (e2 gFdiv (eV 5) (eCall gGcd (aCons (eV 5) (aCons (eV 3) aNil)))) (gN 6)) (sFor (iR1 (aCons (eCall gMin (aCons (eV 6) (aCons (eV 4) aNil))) aNil)) (.nm 7) bO)) := rfl
  have s1 : sAsg (eCall gLenB (aCons (eV 0) aNil)) (gN 5) [some (.ref i), some (.ref j), some (.int b), some (.int s), some (.int n), none, none, none, none, none, none] S = .nx [some (.ref i), some (.ref j), some (.int b), some (.int s), some (.int n), some (.int row.length), none, none, none, none, none] S := by
    have hd2 : theDit S (.ref i) = none := by simp only [theDit, hi]
    simp only [sAsg, lift, eCall, aCons, aNil, M.bind, eV, Out.bind, List.getElem?_cons_zero, gLenB, oneFz, gLenA, oneDit, hd2, gLen, hi, List.length_map, gN, List.set_cons_succ, List.set_cons_zero]
  have g0 : (0 : Int) < ((Nat.gcd row.length s.natAbs : Nat) : Int) := by omega
  have gle : Nat.gcd row.length s.natAbs ≤ row.length := Nat.gcd_le_left _ h1
  have gd : (0 : Int) < ((Nat.gcd row.length s.natAbs : Nat) : Int) ∧ ((Nat.gcd row.length s.natAbs : Nat) : Int).natAbs.log2 < 9000 := ⟨g0, by
    have : ((Nat.gcd row.length s.natAbs : Nat) : Int).natAbs < 2 ^ 10 := by omega
    have := (Nat.log2_lt (n := ((Nat.gcd row.length s.natAbs : Nat) : Int).natAbs) (k := 10) (by omega)).mpr this
    omega⟩
  have gd' : (Nat.gcd row.length s.natAbs).log2 < 9000 := by simpa using gd.2
  have s2 : sAsg (e2 gFdiv (eV 5) (eCall gGcd (aCons (eV 5) (aCons (eV 3) aNil)))) (gN 6) [some (.ref i), some (.ref j), some (.int b), some (.int s), some (.int n), some (.int row.length), none, none, none, none, none] S = .nx (cP i j b s n row.length (pcLap row s) none none none none) S := by
    simp only [sAsg, lift, e2, eCall, aCons, aNil, M.bind, eV, Out.bind, List.getElem?_cons_zero, List.getElem?_cons_succ, gGcd, Int.natAbs_natCast, gFdiv, g0, gd', and_self, if_true, gN, List.set_cons_succ, List.set_cons_zero]
    rfl
  have l0 : 0 < pcLap row s := h3
  have l1 : pcLap row s ≤ row.length := Int.ediv_le_self _ (by omega)
  have n0 : 0 ≤ (if n < pcLap row s then n else pcLap row s) := by split <;> omega
  have n1 : (if n < pcLap row s then n else pcLap row s) ≤ n := by split <;> omega
  have n2 : (if n < pcLap row s then n else pcLap row s) < 1000 := by split <;> omega
  have ei : iR1 (aCons (eCall gMin (aCons (eV 6) (aCons (eV 4) aNil))) aNil) (cP i j b s n row.length (pcLap row s) none none none none) S = .ok (itR 0 (if n < pcLap row s then n else pcLap row s).toNat) S := by
    have hr : inR (if n < pcLap row s then n else pcLap row s) = true := by
      unfold inR
      simp only [Bool.and_eq_true, decide_eq_true_eq]
      constructor <;> omega
    simp only [iR1, eCall, aCons, aNil, M.bind, eV, Out.bind, List.getElem?_cons_zero, List.getElem?_cons_succ, min_int, hr, if_true]
  obtain ⟨y7, y8, y9, y10, e⟩ := outp_ok (b := b) (s := s) (part := part) (beats := row.length) (lap := pcLap row s) hij (by omega) l0 (by omega) h4 h5 (if n < pcLap row s then n else pcLap row s).toNat (by omega) (by omega) (if n < pcLap row s then n else pcLap row s).toNat 0 row S none none none none (by omega) hi hj rfl
  unfold m_put_copies runB
  rw [st, hb]
  have ec : (itR 0 (if n < pcLap row s then n else pcLap row s).toNat).cnt = (if n < pcLap row s then n else pcLap row s).toNat := rfl
  simp only [sSeq, s1, s2, sFor, lift, ei, ec, e]
  rfl
/-- the same def, told plainly where it can be -/
def pcM : GC := fun xs S => match xs with
  | [.ref i, .ref j, .int b, .int s, .int n] => match S.get i with
    | some (.lst r) => match S.get j with
      | some (.lst q) => match intsC r with
        | some row => match intsC q with
          | some part => if (decide (i ≠ j) && okPC row s n) = true then .ok .non (S.put i (.lst (iL (pc row part b s n)))) else m_put_copies xs S
          | none => m_put_copies xs S
        | none => m_put_copies xs S
      | _ => m_put_copies xs S
    | _ => m_put_copies xs S
  | _ => m_put_copies xs S
theorem intsC_iL : ∀ {l : List CV} {ns : List Int}, intsC l = some ns → l = iL ns
  | [], _, h => by simp [intsC] at h; subst h; rfl
  | x :: l, ns, h => by
    cases x with
    | int i =>
      simp only [intsC, Option.map_eq_some_iff] at h
      obtain ⟨k, h1, rfl⟩ := h
      rw [intsC_iL h1]
      rfl
    | _ => simp [intsC] at h
theorem pcM_eq : m_put_copies = pcM := by
  funext xs S
  unfold pcM
  split
  · split
    · rename_i i j b s n _ r hr
      split
      · rename_i q hq
        split
        · rename_i row h1
          split
          · rename_i part h2
            split
            · rename_i h
              simp only [Bool.and_eq_true, decide_eq_true_eq] at h
              have e1 := intsC_iL h1
              have e2 := intsC_iL h2
              subst e1 e2
              exact pc_ok h.1 hr hq h.2
            · rfl
          · rfl
        · rfl
      · rfl
    · rfl
  · rfl
end
end TT
-- part k17z
namespace TT
open PySem PySem.Spec L2 TH
/-- where an item comes to lie -/
theorem mod_to {n : Nat} {o : Int} {i : Nat} (hi : i < n) : (((o + i) % n) - o) % n = (i : Int) := by
  rw [Int.sub_emod, Int.emod_emod_of_dvd _ (Int.dvd_refl _), ← Int.sub_emod]
  have : o + (i : Int) - o = i := by omega
  rw [this]
  exact Int.emod_eq_of_lt (by omega) (by omega)
theorem mod_from {n : Nat} {o : Int} {t i : Nat} (ht : t < n) (h : (((t : Int) - o) % n) = (i : Int)) : (o + (i : Int)) % n = (t : Int) := by
  rw [← h, Int.add_emod, Int.emod_emod_of_dvd _ (Int.dvd_refl _), ← Int.add_emod]
  have : o + ((t : Int) - o) = t := by omega
  rw [this]
  exact Int.emod_eq_of_lt (by omega) (by omega)
theorem inn_at (n : Nat) (o often : Int) : ∀ (rest : List Int) (i : Nat) (row : List Int), i + rest.length = n → row.length = n → ∀ t : Nat, t < n →
    (inn n o often rest i row).getD t 0 = row.getD t 0 + (if i ≤ (((t : Int) - o) % n).toNat then rest.getD ((((t : Int) - o) % n).toNat - i) 0 * often else 0)
  | [], i, row, hl, hr, t, ht => by
    have h1 : (((t : Int) - o) % n) < n := Int.emod_lt_of_pos _ (by omega)
    have h0 : 0 ≤ (((t : Int) - o) % n) := Int.emod_nonneg _ (by omega)
    have hi : i = n := by simpa using hl
    rw [if_neg (by omega)]
    simp [inn]
  | x :: rest, i, row, hl, hr, t, ht => by
    have hi : i < n := by simp at hl; omega
    have h1 : (((t : Int) - o) % n) < n := Int.emod_lt_of_pos _ (by omega)
    have h0 : 0 ≤ (((t : Int) - o) % n) := Int.emod_nonneg _ (by omega)
    have k1 : ((o + (i : Int)) % n) < n := Int.emod_lt_of_pos _ (by omega)
    have k0 : 0 ≤ ((o + (i : Int)) % n) := Int.emod_nonneg _ (by omega)
    have ih := inn_at n o often rest (i + 1) (row.set ((o + i) % n).toNat (row.getD ((o + i) % n).toNat 0 + x * often)) (by simp at hl ⊢; omega) (by rw [List.length_set]; exact hr) t ht
    rw [inn, ih]
    by_cases hk : t = ((o + (i : Int)) % n).toNat
    · have e : (((t : Int) - o) % n) = (i : Int) := by
        have : (t : Int) = (o + (i : Int)) % n := by omega
        rw [this]
        exact mod_to hi
      have e' : (((t : Int) - o) % n).toNat = i := by omega
      rw [e', if_neg (by omega), if_pos (Nat.le_refl _), ← hk]
      have hlt : t < row.length := by omega
      simp [List.getD_eq_getElem?_getD, List.getElem?_set_self hlt]
    · have hne : (((t : Int) - o) % n).toNat ≠ i := fun z => by
        apply hk
        have := mod_from (o := o) (i := i) ht (by omega)
        omega
      have hs : (row.set ((o + (i : Int)) % n).toNat (row.getD ((o + (i : Int)) % n).toNat 0 + x * often)).getD t 0 = row.getD t 0 := by
        simp only [List.getD_eq_getElem?_getD]
        rw [List.getElem?_set_ne (Ne.symm hk)]
      rw [hs]
      by_cases hle : i ≤ (((t : Int) - o) % n).toNat
      · rw [if_pos hle, if_pos (by omega)]
        have : (((t : Int) - o) % n).toNat - i = ((((t : Int) - o) % n).toNat - (i + 1)) + 1 := by omega
        rw [this]
        rfl
      · rw [if_neg hle, if_neg (by omega)]
/-- the same by a turned list -/
def addZ (often : Int) : List Int → List Int → List Int
  | r :: row, c :: p => (r + c * often) :: addZ often row p
  | _, _ => []
theorem addZ_len (often : Int) : ∀ (row p : List Int), row.length = p.length → (addZ often row p).length = row.length
  | [], [], _ => rfl
  | [], _ :: _, h => by cases h
  | _ :: _, [], h => by cases h
  | r :: row, c :: p, h => by
    simp only [addZ, List.length_cons]
    rw [addZ_len often row p (by simpa using h)]
theorem addZ_at (often : Int) : ∀ (row p : List Int) (t : Nat), row.length = p.length → t < row.length → (addZ often row p).getD t 0 = row.getD t 0 + p.getD t 0 * often
  | [], _, t, _, h => by simp at h
  | _ :: _, [], _, h, _ => by cases h
  | r :: row, c :: p, 0, _, _ => by simp [addZ]
  | r :: row, c :: p, t + 1, h, ht => by
    have ih := addZ_at often row p t (by simpa using h) (by simpa using ht)
    simp only [addZ, List.getD_cons_succ]
    exact ih
def rot (d : Nat) (p : List Int) : List Int := p.drop d ++ p.take d
def innZ (o often : Int) (part row : List Int) : List Int := addZ often row (rot ((-o) % (row.length : Int)).toNat part)
theorem inn_innZ {o often : Int} {part row : List Int} (hp : part.length = row.length) (h0 : 0 < row.length) : inn row.length o often part 0 row = innZ o often part row := by
  have d1 : ((-o) % (row.length : Int)) < row.length := Int.emod_lt_of_pos _ (by omega)
  have d0 : 0 ≤ ((-o) % (row.length : Int)) := Int.emod_nonneg _ (by omega)
  have hr : (rot ((-o) % (row.length : Int)).toNat part).length = row.length := by
    unfold rot
    rw [List.length_append, List.length_drop, List.length_take]
    omega
  have hl : (innZ o often part row).length = row.length := addZ_len _ _ _ hr.symm
  refine List.ext_getElem (by rw [inn_len, hl]) fun t h1 h2 => ?_
  rw [inn_len] at h1
  have e1 := inn_at row.length o often part 0 row (by omega) rfl t h1
  have e2 := addZ_at often row (rot ((-o) % (row.length : Int)).toNat part) t hr.symm h1
  rw [if_pos (Nat.zero_le _)] at e1
  have g1 : (inn row.length o often part 0 row).getD t 0 = (inn row.length o often part 0 row)[t]'(by rw [inn_len]; exact h1) := by
    rw [List.getD_eq_getElem?_getD, List.getElem?_eq_getElem (by rw [inn_len]; exact h1)]
    rfl
  have g2 : (innZ o often part row).getD t 0 = (innZ o often part row)[t]'(by rw [hl]; exact h1) := by
    rw [List.getD_eq_getElem?_getD, List.getElem?_eq_getElem (by rw [hl]; exact h1)]
    rfl
  rw [← g1, ← g2, e1]
  unfold innZ
  rw [e2]
  congr 2
  -- the turned list at t
  have m1 : (((t : Int) - o) % (row.length : Int)) < row.length := Int.emod_lt_of_pos _ (by omega)
  have m0 : 0 ≤ (((t : Int) - o) % (row.length : Int)) := Int.emod_nonneg _ (by omega)
  have key : (((t : Int) - o) % (row.length : Int)) = ((t : Int) + ((-o) % (row.length : Int))) % (row.length : Int) := by
    rw [Int.add_emod, Int.emod_emod_of_dvd _ (Int.dvd_refl _), ← Int.add_emod]
    rfl
  unfold rot
  rw [Nat.sub_zero]
  simp only [List.getD_eq_getElem?_getD]
  congr 1
  by_cases hc : t < part.length - ((-o) % (row.length : Int)).toNat
  · rw [List.getElem?_append_left (by rw [List.length_drop]; exact hc), List.getElem?_drop]
    congr 1
    rw [key, Int.emod_eq_of_lt (by omega) (by omega)]
    omega
  · rw [List.getElem?_append_right (by rw [List.length_drop]; omega), List.length_drop, List.getElem?_take_of_lt (by omega)]
    congr 1
    have : ((t : Int) + ((-o) % (row.length : Int))) % (row.length : Int) = (t : Int) + ((-o) % (row.length : Int)) - row.length := by
      rw [← Int.sub_emod_right]
      exact Int.emod_eq_of_lt (by omega) (by omega)
    rw [key, this]
    omega
def outZ (lap b s n : Int) (part : List Int) : Nat → Nat → List Int → List Int
  | 0, _, row => row
  | k + 1, copy, row => outZ lap b s n part k (copy + 1) (innZ (b + copy * s) ((n - copy + lap - 1) / lap) part row)
theorem innZ_len {o often : Int} {part row : List Int} (hp : part.length = row.length) (h0 : 0 < row.length) : (innZ o often part row).length = row.length := by
  rw [← inn_innZ hp h0, inn_len]
theorem out_outZ {lap b s n : Int} {part : List Int} : ∀ (k copy : Nat) (row : List Int), part.length = row.length → 0 < row.length → outp row.length lap b s n part k copy row = outZ lap b s n part k copy row
  | 0, _, _, _, _ => rfl
  | k + 1, copy, row, hp, h0 => by
    rw [outp, outZ, inn_innZ hp h0]
    have hl := innZ_len (o := b + copy * s) (often := (n - copy + lap - 1) / lap) hp h0
    have ih := out_outZ (lap := lap) (b := b) (s := s) (n := n) (part := part) k (copy + 1) (innZ (b + copy * s) ((n - copy + lap - 1) / lap) part row) (by rw [hl]; exact hp) (by rw [hl]; exact h0)
    rw [hl] at ih
    exact ih
end TT
-- part k17c
namespace TT
open PySem PySem.Spec L2 TH
def sL0 : MS := (sAsg (eCall (gG 1 m__law_begun) (aCons (eV 0) aNil)) (gN 1))
def sB0 : MS := (sAsg (e2 gSub (eCall (gG 2 m__law_next) (aCons (eV 1) (aCons (eC (.int 25)) aNil))) (eC (.int 12))) (gN 3))
def sB1 : MS := (sAsg (eTup (aCons (eTup (aCons (eC (.str ("block" : Str))) (aCons (eTup (aCons (eTup (aCons (eTup (aCons (eV 3) (aCons (eC (.int 1)) aNil))) (aCons (eTup (aCons (eC .non) (aCons (eC (.int 2)) aNil))) aNil))) aNil)) aNil))) (aCons (eTup (aCons (eC (.str ("again" : Str))) (aCons (eC (.int 0)) (aCons (e2 gPow (eC (.int 10)) (eC (.int 12))) aNil)))) aNil))) (gN 4))
def sB2 : MS := (sIf (bOr (bVal (e2 (gEq true) (eCall (gP 3 m_laid) (aCons (eV 4) (aCons (eC (.int 0)) (aCons (eC (.int 3)) aNil)))) (eTup (aCons (e2 gPow (eC (.int 10)) (eC (.int 12))) (aCons (eC (.int 0)) (aCons (eC (.int 0)) aNil)))))) (bOr (bVal (e2 (gEq true) (eCall (gP 3 m_laid) (aCons (eV 4) (aCons (eC (.int 0)) (aCons (eC (.int 2)) aNil)))) (eTup (aCons (e2 gMul (eC (.int 5)) (e2 gPow (eC (.int 10)) (eC (.int 11)))) (aCons (e2 gMul (eC (.int 5)) (e2 gPow (eC (.int 10)) (eC (.int 11)))) aNil))))) (bVal (e2 (gEq true) (eCall (gP 3 m_laid) (aCons (eV 4) (aCons (eC (.int 0)) (aCons (eC (.int 1)) aNil)))) (eTup (aCons (e2 gPow (eC (.int 10)) (eC (.int 12))) aNil)))))) (sRet (eC (.bl false))) sNil)
def sB3 : MS := (sIf (bOr (bVal (e2 (gEq true) (eSl (eCall (gP 3 m_laid) (aCons (eV 4) (aCons (eC (.int 0)) (aCons (eC (.int 7)) aNil)))) oNone (oSome (eC (.int 3)))) (eTup (aCons (eC (.int 142857142858)) (aCons (eC (.int 142857142857)) (aCons (eC (.int 142857142857)) aNil)))))) (bVal (e2 (gEq true) (eCall gSumA (aCons (eCall (gP 3 m_laid) (aCons (eV 4) (aCons (eC (.int 0)) (aCons (eC (.int 7)) aNil)))) aNil)) (e2 gPow (eC (.int 10)) (eC (.int 12)))))) (sRet (eC (.bl false))) sNil)
def sB4 : MS := (sAsg (e2 gAdd (eSl (eV 4) oNone (oSome (eC (.int 1)))) (eTup (aCons (eTup (aCons (eC (.str ("back" : Str))) (aCons (eC (.int 0)) aNil))) (aCons (eTup (aCons (eC (.str ("then" : Str))) (aCons (eC (.int 0)) (aCons (eC (.int 1)) aNil)))) (aCons (eTup (aCons (eC (.str ("slow" : Str))) (aCons (eC (.int 2)) (aCons (eC (.int 3)) aNil)))) aNil))))) (gN 5))
def sB5 : MS := (sIf (bOr (bVal (e2 (gEq true) (eCall (gP 3 m_laid) (aCons (eV 5) (aCons (eC (.int 0)) (aCons (eC (.int 6)) aNil)))) (eTup (aCons (eC (.int 1)) (aCons (eC (.int 0)) (aCons (eC (.int 0)) (aCons (eC (.int 1)) (aCons (eC (.int 0)) (aCons (eC (.int 0)) aNil))))))))) (bVal (e2 (gEq true) (eCall (gP 3 m_laid) (aCons (eV 5) (aCons (eC (.int 0)) (aCons (eC (.int 18)) aNil)))) (e2 gAdd (e2 gAdd (eTup (aCons (eC (.int 1)) aNil)) (e2 gMul (eTup (aCons (eC (.int 0)) aNil)) (eC (.int 14)))) (eTup (aCons (eC (.int 1)) (aCons (eC (.int 0)) (aCons (eC (.int 0)) aNil)))))))) (sRet (eC (.bl false))) sNil)
def sB6 : MS := (sAsg (eTup (aCons (eTup (aCons (eC (.str ("block" : Str))) (aCons (eTup (aCons (eTup (aCons (eTup (aCons (eC .non) (aCons (eC (.int 5)) aNil))) aNil)) (aCons (eTup (aCons (eTup (aCons (eV 3) (aCons (eC (.int 5)) aNil))) aNil)) aNil))) aNil))) (aCons (eTup (aCons (eC (.str ("again" : Str))) (aCons (eC (.int 0)) (aCons (eC (.int 7)) aNil)))) aNil))) (gN 6))
def sB7 : MS := (sIf (bOr (bVal (e2 (gEq true) (eCall (gP 3 m_laid) (aCons (eV 6) (aCons (eC (.int 0)) (aCons (eC (.int 5)) aNil)))) (e2 gMul (eTup (aCons (eC (.int 0)) aNil)) (eC (.int 5))))) (bVal (e2 (gEq true) (eCall (gP 3 m_laid) (aCons (eV 6) (aCons (eC (.int 1)) (aCons (eC (.int 35)) aNil)))) (eCall gTuple (aCons (eLc (iR1 (aCons (eC (.int 35)) aNil)) (.nm 9) [9] bYes (eCall gInt (aCons (e2 (gEq false) (e2 gMod (eV 9) (eC (.int 5))) (eC (.int 0))) aNil))) aNil))))) (sRet (eC (.bl false))) sNil)
def sB8 : MS := (sIf (bOr (bVal (e2 (gIs true) (eCall (gP 3 m_strikes_once) (aCons (eV 6) (aCons (eC (.int 1)) (aCons (eC (.int 7)) aNil)))) (eC (.bl true)))) (bVal (e2 (gIs true) (eCall (gP 3 m_strikes_once) (aCons (eV 6) (aCons (eC (.int 1)) (aCons (eC (.int 5)) aNil)))) (eC (.bl false))))) (sRet (eC (.bl false))) sNil)
def sB9 : MS := (sAsg (eTup (aCons (eC (.int 0)) (aCons (eC (.int 1)) (aCons (eC (.int 4)) (aCons (eC (.int 5)) aNil))))) (gN 7))
def sB10 : MS := (sAsg (eCall (gP 3 m__law_entered) (aCons (eC (.int 8)) (aCons (eV 7) (aCons (eCall (gP 1 m_entries_of) (aCons (eTup (aCons (eC (.int 8)) (aCons (eV 7) aNil))) aNil)) aNil)))) (gN 8))
def sB11 : MS := (sIf (bVal (e2 (gEq false) (e2 gIxK (eLc (iR1 (aCons (eC (.int 2)) aNil)) (.nm 10) [10] bYes (eCall (gP 3 m_laid) (aCons (eV 8) (aCons (eV 10) (aCons (eC (.int 8)) aNil))))) (eC (.int 0))) (e2 gMul (eTup (aCons (eC (.int 1)) aNil)) (eC (.int 8))))) (sRet (eC (.bl false))) sNil)
def sB12 : MS := (sIf (bVal (e2 (gEq true) (eCall gTuple (aCons (eLc (iZip (aCons (eCall (gP 3 m_laid) (aCons (eV 8) (aCons (eC (.int 0)) (aCons (eC (.int 8)) aNil)))) (aCons (eCall (gP 3 m_laid) (aCons (eV 8) (aCons (eC (.int 1)) (aCons (eC (.int 8)) aNil)))) aNil))) (.tp ((.nm 4) :: ((.nm 11) :: []))) [4, 11] bYes (e2 gAdd (eV 4) (eV 11))) aNil)) (e2 gMul (eTup (aCons (eC (.int 1)) aNil)) (eC (.int 8))))) (sRet (eC (.bl false))) sNil)
def sB13 : MS := (sIf (bVal (e2 (gIs true) (eCall (gP 3 m_strikes_once) (aCons (eTup (aCons (eTup (aCons (eC (.str ("block" : Str))) (aCons (eTup (aCons (e2 gMul (eTup (aCons (eTup (aCons (eV 3) (aCons (eC (.int 1)) aNil))) aNil)) (eC (.int 12))) aNil)) aNil))) (aCons (eTup (aCons (eC (.str ("again" : Str))) (aCons (eC (.int 0)) (aCons (eC (.int 8)) aNil)))) aNil))) (aCons (eC (.int 0)) (aCons (eC (.int 96)) aNil)))) (eC (.bl true)))) (sRet (eC (.bl false))) sNil)
def iF : M It0 := (iR1 (aCons (e2 gAdd (eC (.int 1)) (eCall gMin (aCons (eCall gLenB (aCons (eV 0) aNil)) (aCons (eC (.int 3)) aNil)))) aNil))
def bF : MS := (sSeq sB0 (sSeq sB1 (sSeq sB2 (sSeq sB3 (sSeq sB4 (sSeq sB5 (sSeq sB6 (sSeq sB7 (sSeq sB8 (sSeq sB9 (sSeq sB10 (sSeq sB11 (sSeq sB12 sB13)))))))))))))
def sL1 : MS := sFor iF (.nm 2) bF
def sL2 : MS := (sAsg (eTup (aCons (eC (.str ("block" : Str))) (aCons (eTup (aCons (eTup (aCons (eTup (aCons (eC (.int 0)) (aCons (eC (.int 1)) aNil))) aNil)) aNil)) aNil))) (gN 4))
def sL3 : MS := (sRet (e2 (gEq false) (eCall (gP 3 m_laid) (aCons (eTup (aCons (eV 4) (aCons (eTup (aCons (eC (.str ("again" : Str))) (aCons (eC (.int 0)) (aCons (e2 gPow (eC (.int 10)) (eC (.int 12))) aNil)))) aNil))) (aCons (eC (.int 0)) (aCons (eC (.int 96)) aNil)))) (e2 gAdd (e2 gMul (eTup (aCons (eC (.int 10416666667)) aNil)) (eC (.int 64))) (e2 gMul (eTup (aCons (eC (.int 10416666666)) aNil)) (eC (.int 32))))))
theorem b_law_eq : b_law = (sSeq sL0 (sSeq sL1 (sSeq sL2 sL3))) := rfl
/-! ## tuples of ints -/
theorem eqv_ints : ∀ l k : List Int, PyData.eqvAll (l.map PyData.int) (k.map PyData.int) = decide (l = k)
  | [], [] => by simp [PyData.eqvAll]
  | [], _ :: _ => by simp [PyData.eqvAll]
  | _ :: _, [] => by simp [PyData.eqvAll]
  | x :: l, y :: k => by
    simp only [List.map_cons, PyData.eqvAll, eqv_ints l k, PyData.eqv]
    by_cases h : x = y <;> by_cases h2 : l = k <;> simp [h, h2]
theorem shaped_tup (l : List Int) : SeqAt.shaped (.tuple (l.map PyData.int)) = true := by
  unfold SeqAt.shaped
  simp only [PyData.canLay0, canLay_ints, PyData.depth, depth_ints']
  decide
theorem toD_tI (S : CS) (l : List Int) : toD S 40 (tI l) = some (.tuple (l.map PyData.int)) := by
  show ((iL l).mapM (toD S 39)).map PyData.tuple = _
  rw [toD_ints S 38 l]
  rfl
theorem gEq_tI (neg : Bool) (l k : List Int) (S : CS) : gEq neg (tI l) (tI k) S = .ok (.bl (xor neg (decide (l = k)))) S := by
  unfold gEq
  simp only [toD_tI, shaped_tup, Bool.and_self, if_true, PyData.eqv, eqv_ints]
section
variable {c c1 : CE} {S S1 S2 S3 : CS} {A B : M CV} {x y z : CV} {l k : List Int} {t1 t2 : M Bool} {b : Bool}
theorem call3 {g : GC} {m0 m1 m2 : M CV} (h0 : m0 c S = .ok x S) (h1 : m1 c S = .ok y S) (h2 : m2 c S = .ok z S) : eCall g (aCons m0 (aCons m1 (aCons m2 aNil))) c S = g [x, y, z] S := by
  simp only [eCall, aCons, aNil, M.bind, h0, h1, h2, Out.bind]
theorem args2 {m0 m1 : M CV} (h0 : m0 c S = .ok x S) (h1 : m1 c S = .ok y S) : aCons m0 (aCons m1 aNil) c S = .ok [x, y] S := by
  simp only [aCons, aNil, M.bind, h0, h1, Out.bind]
theorem call1 {g : GC} {m0 : M CV} (h0 : m0 c S = .ok x S1) : eCall g (aCons m0 aNil) c S = g [x] S1 := by
  simp only [eCall, aCons, aNil, M.bind, h0, Out.bind]
theorem e2_ok {g : G2} (ha : A c S = .ok x S1) (hb : B c S1 = .ok y S2) : e2 g A B c S = g x y S2 := by
  simp only [e2, M.bind, ha, hb, Out.bind]
theorem ne_f (ha : A c S = .ok (tI l) S1) (hb : B c S1 = .ok (tI l) S2) : bVal (e2 (gEq true) A B) c S = .ok false S2 := by
  have e := e2_ok (g := gEq true) ha hb
  rw [gEq_tI] at e
  simp only [bVal, M.bind, e, Out.bind]
  simp
theorem ne_int_f {i : Int} (ha : A c S = .ok (.int i) S1) (hb : B c S1 = .ok (.int i) S2) : bVal (e2 (gEq true) A B) c S = .ok false S2 := by
  have e := e2_ok (g := gEq true) ha hb
  simp only [gEq] at e
  simp only [bVal, M.bind, e, Out.bind]
  simp
theorem eq_f (ha : A c S = .ok (tI l) S1) (hb : B c S1 = .ok (tI k) S2) (h : l ≠ k) : bVal (e2 (gEq false) A B) c S = .ok false S2 := by
  have e := e2_ok (g := gEq false) ha hb
  rw [gEq_tI] at e
  simp only [bVal, M.bind, e, Out.bind]
  simp [h]
theorem is_f (ha : A c S = .ok (.bl b) S1) : bVal (e2 (gIs true) A (eC (.bl b))) c S = .ok false S1 := by
  have e := e2_ok (g := gIs true) (B := eC (.bl b)) ha rfl
  simp only [gIs] at e
  simp only [bVal, M.bind, e, Out.bind]
  simp
theorem or_ff (h1 : t1 c S = .ok false S1) (h2 : t2 c S1 = .ok false S2) : bOr t1 t2 c S = .ok false S2 := by
  simp only [bOr, M.bind, h1, Out.bind]
  exact h2
theorem if_f {a : MS} (h1 : t1 c S = .ok false S1) : sIf t1 a sNil c S = .nx c S1 := by
  simp only [sIf, lift, h1]
  rfl
theorem asg_n {i : Nat} (ha : A c S = .ok x S1) : sAsg A (gN i) c S = .nx (c.set i (some x)) S1 := by
  simp only [sAsg, lift, ha, gN]
theorem seq_n {m k : MS} (h : m c S = .nx c1 S1) : sSeq m k c S = k c1 S1 := by
  simp only [sSeq, h]
theorem tup_of {l : List CV} (h : A c S = .ok (.ref S.n) (S.push (.lst l))) : eCall gTuple (aCons A aNil) c S = .ok (.tup l) (S.push (.lst l)) := by
  rw [call1 h]
  simp only [gTuple, CS.get_push_self]
end
/-! ## the values -/
def backP (p : Int) : CV := .tup [.tup [.str ("block" : Str), .tup [.tup [.tup [.int p, .int 1], .tup [.non, .int 2]]]], .tup [.str ("back" : Str), .int 0], .tup [.str ("then" : Str), .int 0, .int 1], .tup [.str ("slow" : Str), .int 2, .int 3]]
def silentP (p : Int) : CV := .tup [.tup [.str ("block" : Str), .tup [.tup [.tup [.non, .int 5]], .tup [.tup [.int p, .int 5]]]], .tup [.str ("again" : Str), .int 0, .int 7]]
def fullP (p : Int) : CV := .tup [.tup [.str ("block" : Str), .tup [.tup (List.replicate 12 (.tup [.int p, .int 1]))]], .tup [.str ("again" : Str), .int 0, .int 8]]
def skC : CV := tI [0, 1, 4, 5]
def heldC : CV := .tup [.tup [.str ("block" : Str), .tup [.tup [.tup [.int 0, .int 1], .tup [.int 0, .int 1], .tup [.non, .int 1], .tup [.non, .int 1], .tup [.int 0, .int 1], .tup [.int 0, .int 1], .tup [.non, .int 1], .tup [.non, .int 1]],
  .tup [.tup [.non, .int 1], .tup [.non, .int 1], .tup [.int 0, .int 1], .tup [.int 0, .int 1], .tup [.non, .int 1], .tup [.non, .int 1], .tup [.int 0, .int 1], .tup [.int 0, .int 1]]]]]
abbrev fives : List Int := [1,0,0,0,0,1,0,0,0,0,1,0,0,0,0,1,0,0,0,0,1,0,0,0,0,1,0,0,0,0,1,0,0,0,0]
abbrev one18 : List Int := [1,0,0,0,0,0,0,0,0,0,0,0,0,0,0,1,0,0]
abbrev sevens : List Int := [142857142858, 142857142857, 142857142857, 142857142857, 142857142857, 142857142857, 142857142857]
structure Fp (p : Int) : Prop where
  a3 : lpB 3 m_laid [oneP p, .int 0, .int 3] (tI [10 ^ 12, 0, 0]) = true
  a2 : lpB 3 m_laid [oneP p, .int 0, .int 2] (tI [5 * 10 ^ 11, 5 * 10 ^ 11]) = true
  a1 : lpB 3 m_laid [oneP p, .int 0, .int 1] (tI [10 ^ 12]) = true
  a7 : lpB 3 m_laid [oneP p, .int 0, .int 7] (tI sevens) = true
  b6 : lpB 3 m_laid [backP p, .int 0, .int 6] (tI [1, 0, 0, 1, 0, 0]) = true
  b18 : lpB 3 m_laid [backP p, .int 0, .int 18] (tI one18) = true
  s5 : lpB 3 m_laid [silentP p, .int 0, .int 5] (tI [0, 0, 0, 0, 0]) = true
  s35 : lpB 3 m_laid [silentP p, .int 1, .int 35] (tI fives) = true
  o7 : lpB 3 m_strikes_once [silentP p, .int 1, .int 7] (.bl true) = true
  o5 : lpB 3 m_strikes_once [silentP p, .int 1, .int 5] (.bl false) = true
  o96 : lpB 3 m_strikes_once [fullP p, .int 0, .int 96] (.bl true) = true
structure Fh : Prop where
  en : lpB 1 m_entries_of [.tup [.int 8, skC]] (tI [0, 2]) = true
  he : lpB 3 m__law_entered [.int 8, skC, tI [0, 2]] heldC = true
  h0 : lpB 3 m_laid [heldC, .int 0, .int 8] (tI [1, 1, 0, 0, 1, 1, 0, 0]) = true
  h1 : lpB 3 m_laid [heldC, .int 1, .int 8] (tI [0, 0, 1, 1, 0, 0, 1, 1]) = true
/-! ## the body of the loop -/
abbrev cL (L : List CV) (m : Nat) (x2 x3 x4 x5 x6 x7 x8 x9 x10 x11 : Option CV) : CE := [some (.fz L), some (.ref m), x2, x3, x4, x5, x6, x7, x8, x9, x10, x11]
section
variable {L : List CV} {m : Nat} {p : Int} {x2 x3 x4 x5 x6 x7 x8 x9 x10 x11 : Option CV} {S : CS}
theorem B1 : sB1 (cL L m x2 (some (.int p)) x4 x5 x6 x7 x8 x9 x10 x11) S = .nx (cL L m x2 (some (.int p)) (some (oneP p)) x5 x6 x7 x8 x9 x10 x11) S := rfl
theorem B2 (F : Fp p) : sB2 (cL L m x2 x3 (some (oneP p)) x5 x6 x7 x8 x9 x10 x11) S = .nx (cL L m x2 x3 (some (oneP p)) x5 x6 x7 x8 x9 x10 x11) S :=
  if_f (or_ff (ne_f (S1 := S) ((call3 rfl rfl rfl).trans (gP_of F.a3 S)) rfl) (or_ff (ne_f (S1 := S) ((call3 rfl rfl rfl).trans (gP_of F.a2 S)) rfl) (ne_f (S1 := S) ((call3 rfl rfl rfl).trans (gP_of F.a1 S)) rfl)))
theorem B3 (F : Fp p) : sB3 (cL L m x2 x3 (some (oneP p)) x5 x6 x7 x8 x9 x10 x11) S = .nx (cL L m x2 x3 (some (oneP p)) x5 x6 x7 x8 x9 x10 x11) S := by
  have h := (call3 (c := cL L m x2 x3 (some (oneP p)) x5 x6 x7 x8 x9 x10 x11) (S := S) (g := gP 3 m_laid) (m0 := eV 4) (m1 := eC (.int 0)) (m2 := eC (.int 7)) rfl rfl rfl).trans (gP_of F.a7 S)
  refine if_f (or_ff (ne_f (l := [142857142858, 142857142857, 142857142857]) (S1 := S) ?_ rfl) (ne_int_f (i := 10 ^ 12) (S1 := S) ?_ rfl))
  · simp only [eSl, M.bind, h, Out.bind, oNone, oSome, eC]
    rfl
  · rw [call1 h]
    rfl
theorem B4 : sB4 (cL L m x2 x3 (some (oneP p)) x5 x6 x7 x8 x9 x10 x11) S = .nx (cL L m x2 x3 (some (oneP p)) (some (backP p)) x6 x7 x8 x9 x10 x11) S := rfl
theorem B5 (F : Fp p) : sB5 (cL L m x2 x3 x4 (some (backP p)) x6 x7 x8 x9 x10 x11) S = .nx (cL L m x2 x3 x4 (some (backP p)) x6 x7 x8 x9 x10 x11) S :=
  if_f (or_ff (ne_f (S1 := S) ((call3 rfl rfl rfl).trans (gP_of F.b6 S)) rfl) (ne_f (S1 := S) ((call3 rfl rfl rfl).trans (gP_of F.b18 S)) rfl))
theorem B6 : sB6 (cL L m x2 (some (.int p)) x4 x5 x6 x7 x8 x9 x10 x11) S = .nx (cL L m x2 (some (.int p)) x4 x5 (some (silentP p)) x7 x8 x9 x10 x11) S := rfl
theorem line35 : 35 < sizeLine := by rw [sizeLine_eq]; decide
theorem B7 (F : Fp p) : ∃ o, sB7 (cL L m x2 x3 x4 x5 (some (silentP p)) x7 x8 x9 x10 x11) S = .nx (cL L m x2 x3 x4 x5 (some (silentP p)) x7 x8 x9 x10 x11) (S.push o) := by
  refine ⟨.lst (iL fives), if_f (or_ff (ne_f (S1 := S) ((call3 rfl rfl rfl).trans (gP_of F.s5 S)) rfl) (ne_f (S1 := S) ((call3 rfl rfl rfl).trans (gP_of F.s35 S)) (tup_of ?_)))⟩
  have e : lcL (itR 0 35) (.nm 9) bYes (eCall gInt (aCons (e2 (gEq false) (e2 gMod (eV 9) (eC (.int 5))) (eC (.int 0))) aNil)) (wipeC (cL L m x2 x3 x4 x5 (some (silentP p)) x7 x8 x9 x10 x11) [9]) 35 0 [] S = .ok (iL fives).reverse S := rfl
  have e1 : iR1 (aCons (eC (.int 35)) aNil) (cL L m x2 x3 x4 x5 (some (silentP p)) x7 x8 x9 x10 x11) S = .ok (itR 0 35) S := rfl
  simp only [eLc, M.bind, e1, Out.bind]
  rw [if_pos (show (itR 0 35).cnt < sizeLine from line35)]
  rw [show (itR 0 35).cnt = 35 from rfl, e]
  rfl
theorem B8 (F : Fp p) : sB8 (cL L m x2 x3 x4 x5 (some (silentP p)) x7 x8 x9 x10 x11) S = .nx (cL L m x2 x3 x4 x5 (some (silentP p)) x7 x8 x9 x10 x11) S :=
  if_f (or_ff (is_f (S1 := S) ((call3 rfl rfl rfl).trans (gP_of F.o7 S))) (is_f (S1 := S) ((call3 rfl rfl rfl).trans (gP_of F.o5 S))))
theorem B9 : sB9 (cL L m x2 x3 x4 x5 x6 x7 x8 x9 x10 x11) S = .nx (cL L m x2 x3 x4 x5 x6 (some skC) x8 x9 x10 x11) S := rfl
theorem B10 (F : Fh) : sB10 (cL L m x2 x3 x4 x5 x6 (some skC) x8 x9 x10 x11) S = .nx (cL L m x2 x3 x4 x5 x6 (some skC) (some heldC) x9 x10 x11) S :=
  asg_n ((call3 (x := .int 8) (y := skC) (z := tI [0, 2]) rfl rfl ((call1 (x := .tup [.int 8, skC]) (S1 := S) rfl).trans (gP_of F.en S))).trans (gP_of F.he S))
theorem line2 : 2 < sizeLine := by rw [sizeLine_eq]; decide
theorem B11 (F : Fh) : ∃ o, sB11 (cL L m x2 x3 x4 x5 x6 x7 (some heldC) x9 x10 x11) S = .nx (cL L m x2 x3 x4 x5 x6 x7 (some heldC) x9 x10 x11) (S.push o) := by
  refine ⟨.lst [tI [1, 1, 0, 0, 1, 1, 0, 0], tI [0, 0, 1, 1, 0, 0, 1, 1]], if_f (eq_f (l := [1, 1, 0, 0, 1, 1, 0, 0]) (k := [1, 1, 1, 1, 1, 1, 1, 1]) (S1 := S.push (.lst [tI [1, 1, 0, 0, 1, 1, 0, 0], tI [0, 0, 1, 1, 0, 0, 1, 1]])) ((e2_ok (x := .ref S.n) (y := .int 0) (S1 := S.push (.lst [tI [1, 1, 0, 0, 1, 1, 0, 0], tI [0, 0, 1, 1, 0, 0, 1, 1]])) ?_ rfl).trans ?_) rfl (by decide))⟩
  · have e1 : iR1 (aCons (eC (.int 2)) aNil) (cL L m x2 x3 x4 x5 x6 x7 (some heldC) x9 x10 x11) S = .ok (itR 0 2) S := rfl
    have c0 := (call3 (c := cL L m x2 x3 x4 x5 x6 x7 (some heldC) x9 (some (.int 0)) x11) (S := S) (g := gP 3 m_laid) (m0 := eV 8) (m1 := eV 10) (m2 := eC (.int 8)) rfl rfl rfl).trans (gP_of F.h0 S)
    have c1 := (call3 (c := cL L m x2 x3 x4 x5 x6 x7 (some heldC) x9 (some (.int 1)) x11) (S := S) (g := gP 3 m_laid) (m0 := eV 8) (m1 := eV 10) (m2 := eC (.int 8)) rfl rfl rfl).trans (gP_of F.h1 S)
    have e : lcL (itR 0 2) (.nm 10) bYes (eCall (gP 3 m_laid) (aCons (eV 8) (aCons (eV 10) (aCons (eC (.int 8)) aNil)))) (wipeC (cL L m x2 x3 x4 x5 x6 x7 (some heldC) x9 x10 x11) [10]) 2 0 [] S = .ok [tI [0, 0, 1, 1, 0, 0, 1, 1], tI [1, 1, 0, 0, 1, 1, 0, 0]] S := by
      have s0 : (itR 0 2).nxt 0 S = some (some (.int 0)) := rfl
      have s1 : (itR 0 2).nxt (0 + 1) S = some (some (.int 1)) := rfl
      have s2 : (itR 0 2).nxt (0 + 1 + 1) S = some none := rfl
      simp only [lcL, s0, s1, s2, bT, bYes, wipeC, List.set_cons_succ, List.set_cons_zero, c0, c1]
    simp only [eLc, M.bind, e1, Out.bind]
    rw [if_pos (show (itR 0 2).cnt < sizeLine from line2)]
    rw [show (itR 0 2).cnt = 2 from rfl, e]
    rfl
  · have hd : theDic (S.push (.lst [tI [1, 1, 0, 0, 1, 1, 0, 0], tI [0, 0, 1, 1, 0, 0, 1, 1]])) (.ref S.n) = none := by simp only [theDic, CS.get_push_self]
    have hd2 : theDit (S.push (.lst [tI [1, 1, 0, 0, 1, 1, 0, 0], tI [0, 0, 1, 1, 0, 0, 1, 1]])) (.ref S.n) = none := by simp only [theDit, CS.get_push_self]
    simp only [gIxK, hd, gIxA, hd2, gIx, CS.get_push_self]
    rfl
theorem line8 : 8 < sizeLine := by rw [sizeLine_eq]; decide
theorem B12 (F : Fh) : ∃ o, sB12 (cL L m x2 x3 x4 x5 x6 x7 (some heldC) x9 x10 x11) S = .nx (cL L m x2 x3 x4 x5 x6 x7 (some heldC) x9 x10 x11) (S.push o) := by
  refine ⟨.lst (iL [1, 1, 1, 1, 1, 1, 1, 1]), if_f (ne_f (l := [1, 1, 1, 1, 1, 1, 1, 1]) (S1 := S.push (.lst (iL [1, 1, 1, 1, 1, 1, 1, 1]))) (tup_of ?_) rfl)⟩
  have c0 := (call3 (c := cL L m x2 x3 x4 x5 x6 x7 (some heldC) x9 x10 x11) (S := S) (g := gP 3 m_laid) (m0 := eV 8) (m1 := eC (.int 0)) (m2 := eC (.int 8)) rfl rfl rfl).trans (gP_of F.h0 S)
  have c1 := (call3 (c := cL L m x2 x3 x4 x5 x6 x7 (some heldC) x9 x10 x11) (S := S) (g := gP 3 m_laid) (m0 := eV 8) (m1 := eC (.int 1)) (m2 := eC (.int 8)) rfl rfl rfl).trans (gP_of F.h1 S)
  have e1 : iZip (aCons (eCall (gP 3 m_laid) (aCons (eV 8) (aCons (eC (.int 0)) (aCons (eC (.int 8)) aNil)))) (aCons (eCall (gP 3 m_laid) (aCons (eV 8) (aCons (eC (.int 1)) (aCons (eC (.int 8)) aNil)))) aNil)) (cL L m x2 x3 x4 x5 x6 x7 (some heldC) x9 x10 x11) S = .ok (itZ (itT (iL [1, 1, 0, 0, 1, 1, 0, 0])) (itT (iL [0, 0, 1, 1, 0, 0, 1, 1]))) S := by
    simp only [TH.iZip, M.bind, args2 c0 c1, Out.bind]
    rfl
  have e : lcL (itZ (itT (iL [1, 1, 0, 0, 1, 1, 0, 0])) (itT (iL [0, 0, 1, 1, 0, 0, 1, 1]))) (.tp ((.nm 4) :: ((.nm 11) :: []))) bYes (e2 gAdd (eV 4) (eV 11)) (wipeC (cL L m x2 x3 x4 x5 x6 x7 (some heldC) x9 x10 x11) [4, 11]) 8 0 [] S = .ok (iL [1, 1, 1, 1, 1, 1, 1, 1]) S := rfl
  simp only [eLc, M.bind, e1, Out.bind]
  have hc : (itZ (itT (iL [1, 1, 0, 0, 1, 1, 0, 0])) (itT (iL [0, 0, 1, 1, 0, 0, 1, 1]))).cnt = 8 := rfl
  rw [if_pos (by rw [hc]; exact line8)]
  rw [hc, e]
  rfl
theorem B13 (F : Fp p) : sB13 (cL L m x2 (some (.int p)) x4 x5 x6 x7 x8 x9 x10 x11) S = .nx (cL L m x2 (some (.int p)) x4 x5 x6 x7 x8 x9 x10 x11) S :=
  if_f (is_f (S1 := S) ((call3 (x := fullP p) (y := .int 0) (z := .int 96) rfl rfl rfl).trans (gP_of F.o96 S)))
theorem body_ok (F : Fp p) (G : Fh) : ∃ o1 o2 o3 y4 y5 y6 y7 y8, (sSeq sB1 (sSeq sB2 (sSeq sB3 (sSeq sB4 (sSeq sB5 (sSeq sB6 (sSeq sB7 (sSeq sB8 (sSeq sB9 (sSeq sB10 (sSeq sB11 (sSeq sB12 sB13)))))))))))) (cL L m x2 (some (.int p)) x4 x5 x6 x7 x8 x9 x10 x11) S =
    .nx (cL L m x2 (some (.int p)) y4 y5 y6 y7 y8 x9 x10 x11) (((S.push o1).push o2).push o3) := by
  obtain ⟨o1, e7⟩ := B7 (L := L) (m := m) (x2 := x2) (x3 := some (.int p)) (x4 := some (oneP p)) (x5 := some (backP p)) (x7 := x7) (x8 := x8) (x9 := x9) (x10 := x10) (x11 := x11) (S := S) F
  obtain ⟨o2, e11⟩ := B11 (L := L) (m := m) (x2 := x2) (x3 := some (.int p)) (x4 := some (oneP p)) (x5 := some (backP p)) (x6 := some (silentP p)) (x7 := some skC) (x9 := x9) (x10 := x10) (x11 := x11) (S := S.push o1) G
  obtain ⟨o3, e12⟩ := B12 (L := L) (m := m) (x2 := x2) (x3 := some (.int p)) (x4 := some (oneP p)) (x5 := some (backP p)) (x6 := some (silentP p)) (x7 := some skC) (x9 := x9) (x10 := x10) (x11 := x11) (S := (S.push o1).push o2) G
  refine ⟨o1, o2, o3, some (oneP p), some (backP p), some (silentP p), some skC, some heldC, ?_⟩
  rw [seq_n B1, seq_n (B2 F), seq_n (B3 F), seq_n B4, seq_n (B5 F), seq_n B6, seq_n e7, seq_n (B8 F), seq_n B9, seq_n (B10 G), seq_n e11, seq_n e12, B13 F]
end
end TT
-- part k17q
namespace TT
open PySem PySem.Spec L2 TH
def pc2 (row part : List Int) (b s n : Int) : List Int := outZ (pcLap row s) b s n part (if n < pcLap row s then n else pcLap row s).toNat 0 row
def pcM2 : GC := fun xs S => match xs with
  | [.ref i, .ref j, .int b, .int s, .int n] => match S.get i with
    | some (.lst r) => match S.get j with
      | some (.lst q) => match intsC r with
        | some row => match intsC q with
          | some part => if (decide (i ≠ j) && (okPC row s n && decide (part.length = row.length))) = true then .ok .non (S.put i (.lst (iL (pc2 row part b s n)))) else m_put_copies xs S
          | none => m_put_copies xs S
        | none => m_put_copies xs S
      | _ => m_put_copies xs S
    | _ => m_put_copies xs S
  | _ => m_put_copies xs S
theorem pcM2_eq : m_put_copies = pcM2 := by
  funext xs S
  unfold pcM2
  split
  · split
    · rename_i i j b s n _ r hr
      split
      · rename_i q hq
        split
        · rename_i row h1
          split
          · rename_i part h2
            split
            · rename_i h
              simp only [Bool.and_eq_true, decide_eq_true_eq] at h
              have e1 := intsC_iL h1
              have e2 := intsC_iL h2
              subst e1 e2
              have e := pc_ok (b := b) h.1 hr hq h.2.1
              have hp : 0 < row.length := by
                have := h.2.1
                unfold okPC at this
                simp only [Bool.and_eq_true, decide_eq_true_eq] at this
                exact this.1
              have e3 : pc row part b s n = pc2 row part b s n := out_outZ _ _ _ h.2.2 hp
              rw [← e3]
              exact e
            · rfl
          · rfl
        · rfl
      · rfl
    · rfl
  · rfl
def b_laid2 : MS := (sSeq (sExpr (eCall (gP 2 m_need_both) (aCons (eV 0) (aCons (eV 1) aNil))))
  (sSeq (sIf (bNot (bTru (eCall (gP 3 m_is_from_to) (aCons (eV 2) (aCons (eC (.int 1)) (aCons (eC (.int 96)) aNil)))))) sNever sNil)
  (sSeq (sPar 3 4 (aCons (eCall (gG 1 m_lengths_of) (aCons (eV 0) aNil)) (aCons eDictT aNil)))
  (sSeq (sFor (iSeqB (eCall (gG 1 m_rising) (aCons (eCall (gG 1 m_asked_of) (aCons (eV 0) aNil)) aNil))) (.nm 5) (sSeq (sPar 6 7 (aCons (e2 gMul (eLst (aCons (eC (.int 0)) aNil)) (eV 2)) (aCons (eC (.int 0)) aNil)))
  (sSeq (sIf (bVal (e2 (gEq false) (e2 gIxK (e2 gIxK (eV 0) (e2 gIxK (eV 5) (eC (.int 0)))) (eC (.int 0))) (eC (.str ("block" : Str))))) (sAsg (eCall (gG 2 m_block_row) (aCons (eCall (gG 3 m_block_events) (aCons (eV 0) (aCons (eV 5) (aCons (eV 1) aNil)))) (aCons (eV 2) aNil))) (gN 6)) sNil)
  (sSeq (sFor (iSeqB (eCall (gG 2 m_parts_of) (aCons (eV 0) (aCons (eV 5) aNil)))) (.tp ((.nm 8) :: ((.nm 9) :: []))) (sSeq (sAsg (e2 gMul (e2 gIxK (eV 3) (e2 gIxK (eV 8) (eC (.int 0)))) (e2 gIxK (eV 8) (eC (.int 4)))) (gN 10))
  (sSeq (sExpr (eCall (gG 5 pcM2) (aCons (eV 6) (aCons (e2 gIxK (eV 4) (eV 8)) (aCons (eV 7) (aCons (eV 10) (aCons (eV 9) aNil)))))))
  (sAug 7 (e2 gMul (eV 10) (eV 9)) ipAdd))))
  (sAsg (eV 6) (gIdxK (eV 4) (eV 5)))))))
  (sRet (eCall gTuple (aCons (e2 gIxK (eV 4) (eCall (gP 1 m_top_of) (aCons (eV 0) aNil))) aNil)))))))
def m_laid2 : GC := runB 11 b_laid2
def b_strikes2 : MS := (sRet (eCall gAll (aCons (eLc (iSeqB (eCall (gP 3 m_laid2) (aCons (eV 0) (aCons (eV 1) (aCons (eV 2) aNil))))) (.nm 3) [3] bYes (e2 (gEq false) (eV 3) (eC (.int 1)))) aNil)))
def m_strikes2 : GC := runB 4 b_strikes2
theorem laid_eq : m_laid = m_laid2 := by
  have e : b_laid = b_laid2 := by
    unfold b_laid b_laid2
    rw [pcM2_eq]
  show runB 11 b_laid = runB 11 b_laid2
  rw [e]
theorem strikes_eq : m_strikes_once = m_strikes2 := by
  have e : b_strikes_once = b_strikes2 := by
    unfold b_strikes_once b_strikes2
    rw [laid_eq]
  show runB 4 b_strikes_once = runB 4 b_strikes2
  rw [e]
end TT
-- part k17d
namespace TT
open PySem PySem.Spec L2 TH
def chkP (p : Int) : Bool := lpB 3 m_laid2 [oneP p, .int 0, .int 3] (tI [10 ^ 12, 0, 0]) && (lpB 3 m_laid2 [oneP p, .int 0, .int 2] (tI [5 * 10 ^ 11, 5 * 10 ^ 11]) && (lpB 3 m_laid2 [oneP p, .int 0, .int 1] (tI [10 ^ 12]) && (lpB 3 m_laid2 [oneP p, .int 0, .int 7] (tI sevens) &&
  (lpB 3 m_laid2 [backP p, .int 0, .int 6] (tI [1, 0, 0, 1, 0, 0]) && (lpB 3 m_laid2 [backP p, .int 0, .int 18] (tI one18) && (lpB 3 m_laid2 [silentP p, .int 0, .int 5] (tI [0, 0, 0, 0, 0]) && (lpB 3 m_laid2 [silentP p, .int 1, .int 35] (tI fives) &&
  (lpB 3 m_strikes2 [silentP p, .int 1, .int 7] (.bl true) && (lpB 3 m_strikes2 [silentP p, .int 1, .int 5] (.bl false) && lpB 3 m_strikes2 [fullP p, .int 0, .int 96] (.bl true))))))))))
theorem chk_ok {p : Int} (h : chkP p = true) : Fp p := by
  unfold chkP at h
  simp only [Bool.and_eq_true] at h
  obtain ⟨a3, a2, a1, a7, b6, b18, s5, s35, o7, o5, o96⟩ := h
  rw [← laid_eq] at a3 a2 a1 a7 b6 b18 s5 s35
  rw [← strikes_eq] at o7 o5 o96
  exact ⟨a3, a2, a1, a7, b6, b18, s5, s35, o7, o5, o96⟩
theorem k_m12 : chkP (-12) = true := by decide +kernel
theorem k_m11 : chkP (-11) = true := by decide +kernel
theorem k_m10 : chkP (-10) = true := by decide +kernel
theorem k_m9 : chkP (-9) = true := by decide +kernel
theorem k_m8 : chkP (-8) = true := by decide +kernel
theorem k_m7 : chkP (-7) = true := by decide +kernel
theorem k_m6 : chkP (-6) = true := by decide +kernel
theorem k_m5 : chkP (-5) = true := by decide +kernel
theorem k_m4 : chkP (-4) = true := by decide +kernel
theorem k_m3 : chkP (-3) = true := by decide +kernel
theorem k_m2 : chkP (-2) = true := by decide +kernel
theorem k_m1 : chkP (-1) = true := by decide +kernel
theorem k_0 : chkP 0 = true := by decide +kernel
theorem k_1 : chkP 1 = true := by decide +kernel
theorem k_2 : chkP 2 = true := by decide +kernel
theorem k_3 : chkP 3 = true := by decide +kernel
theorem k_4 : chkP 4 = true := by decide +kernel
theorem k_5 : chkP 5 = true := by decide +kernel
theorem k_6 : chkP 6 = true := by decide +kernel
theorem k_7 : chkP 7 = true := by decide +kernel
theorem k_8 : chkP 8 = true := by decide +kernel
theorem k_9 : chkP 9 = true := by decide +kernel
theorem k_10 : chkP 10 = true := by decide +kernel
theorem k_11 : chkP 11 = true := by decide +kernel
theorem k_12 : chkP 12 = true := by decide +kernel
theorem fp_all {p : Int} (h0 : -12 ≤ p) (h1 : p ≤ 12) : Fp p := by
  have h : p = -12 ∨ p = -11 ∨ p = -10 ∨ p = -9 ∨ p = -8 ∨ p = -7 ∨ p = -6 ∨ p = -5 ∨ p = -4 ∨ p = -3 ∨ p = -2 ∨ p = -1 ∨ p = 0 ∨ p = 1 ∨ p = 2 ∨ p = 3 ∨ p = 4 ∨ p = 5 ∨ p = 6 ∨ p = 7 ∨ p = 8 ∨ p = 9 ∨ p = 10 ∨ p = 11 ∨ p = 12 := by omega
  rcases h with h | h | h | h | h | h | h | h | h | h | h | h | h | h | h | h | h | h | h | h | h | h | h | h | h
  · rw [h]; exact chk_ok k_m12
  · rw [h]; exact chk_ok k_m11
  · rw [h]; exact chk_ok k_m10
  · rw [h]; exact chk_ok k_m9
  · rw [h]; exact chk_ok k_m8
  · rw [h]; exact chk_ok k_m7
  · rw [h]; exact chk_ok k_m6
  · rw [h]; exact chk_ok k_m5
  · rw [h]; exact chk_ok k_m4
  · rw [h]; exact chk_ok k_m3
  · rw [h]; exact chk_ok k_m2
  · rw [h]; exact chk_ok k_m1
  · rw [h]; exact chk_ok k_0
  · rw [h]; exact chk_ok k_1
  · rw [h]; exact chk_ok k_2
  · rw [h]; exact chk_ok k_3
  · rw [h]; exact chk_ok k_4
  · rw [h]; exact chk_ok k_5
  · rw [h]; exact chk_ok k_6
  · rw [h]; exact chk_ok k_7
  · rw [h]; exact chk_ok k_8
  · rw [h]; exact chk_ok k_9
  · rw [h]; exact chk_ok k_10
  · rw [h]; exact chk_ok k_11
  · rw [h]; exact chk_ok k_12
theorem fh : Fh := ⟨by decide +kernel, by decide +kernel, by rw [laid_eq]; decide +kernel, by rw [laid_eq]; decide +kernel⟩
abbrev lastL : List Int := List.replicate 64 10416666667 ++ List.replicate 32 10416666666
def oneP0 : CV := .tup [.tup [.str ("block" : Str), .tup [.tup [.tup [.int 0, .int 1]]]], .tup [.str ("again" : Str), .int 0, .int (10 ^ 12)]]
theorem last_ok : lpB 3 m_laid [oneP0, .int 0, .int 96] (tI lastL) = true := by rw [laid_eq]; decide +kernel
end TT
-- part k17e
namespace TT
open PySem PySem.Spec L2 TH
/-! ## _law_begun -/
def fB : CV → Bool
  | .int i => decide ((10 : Int) ^ 18 ≤ i)
  | _ => false
def ttB : M Bool := bVal (e2 (gI fun i j => decide (j ≤ i)) (eV 1) (e2 gPow (eC (.int 10)) (eC (.int 18))))
theorem fil_ints : ∀ l : List Int, (iL l).filter fB = iL (l.filter fun i => decide ((10 : Int) ^ 18 ≤ i))
  | [] => rfl
  | x :: l => by
    have ih := fil_ints l
    show (CV.int x :: iL l).filter fB = _
    rw [List.filter_cons, List.filter_cons, ih]
    show (if decide ((10 : Int) ^ 18 ≤ x) = true then _ else _) = _
    split <;> rfl
theorem begun_ok (ns : List Int) (hl : ns.length < sizeLine) : ∃ S lf, m__law_begun [.fz (iL ns)] CS.nil = .ok (.ref 0) S ∧ MO ns 0 1 2 lf 0 S ∧ lf.length ≤ ns.length := by
  have e1 : eCall gListB (aCons (eV 0) aNil) [some (.fz (iL ns)), none] (CS.nil.push (.dic [])) = .ok (.ref 1) ((CS.nil.push (.dic [])).push (.lst (iL ns))) := rfl
  have e2 : eLc (iSeqB (eV 0)) (.nm 1) [1] ttB (eV 1) [some (.fz (iL ns)), none] ((CS.nil.push (.dic [])).push (.lst (iL ns))) = .ok (.ref 2) (((CS.nil.push (.dic [])).push (.lst (iL ns))).push (.lst (iL (ns.filter fun i => decide ((10 : Int) ^ 18 ≤ i))))) := by
    have f1 : iSeqB (eV 0) [some (.fz (iL ns)), none] ((CS.nil.push (.dic [])).push (.lst (iL ns))) = .ok (itT (iL ns)) ((CS.nil.push (.dic [])).push (.lst (iL ns))) := rfl
    have f2 := lc_filter fB ttB (wipeC [some (.fz (iL ns)), none] [1]) 1 ((CS.nil.push (.dic [])).push (.lst (iL ns))) (iL ns) (fun x hx => by
      obtain ⟨i, _, rfl⟩ := List.mem_map.mp hx
      rfl) (by simp [wipeC]) (iL ns).length 0 [] (by simp)
    simp only [eLc, M.bind, f1, Out.bind]
    have hc : (itT (iL ns)).cnt = (iL ns).length := rfl
    rw [hc, if_pos (by rw [List.length_map]; exact hl), f2]
    simp only [List.append_nil, List.reverse_reverse, List.drop_zero, fil_ints]
    rfl
  refine ⟨(((CS.nil.push (.dic [])).push (.lst (iL ns))).push (.lst (iL (ns.filter fun i => decide ((10 : Int) ^ 18 ≤ i))))).put 0 (.dic [(.str "cells", .ref 1), (.str "left", .ref 2), (.str "at", .int 0)]), ns.filter fun i => decide ((10 : Int) ^ 18 ≤ i), ?_, ?_, List.length_filter_le _ _⟩
  · have hb : b__law_begun = sRet (eDisp [(("cells" : Str), (eCall gListB (aCons (eV 0) aNil))), (("left" : Str), eLc (iSeqB (eV 0)) (.nm 1) [1] ttB (eV 1)), (("at" : Str), (eC (.int 0)))]) := rfl
    have st : ([CV.fz (iL ns)].map some ++ List.replicate (2 - [CV.fz (iL ns)].length) none : CE) = [some (.fz (iL ns)), none] := rfl
    unfold m__law_begun runB
    rw [st, hb]
    have ed : eDisp [(("cells" : Str), (eCall gListB (aCons (eV 0) aNil))), (("left" : Str), eLc (iSeqB (eV 0)) (.nm 1) [1] ttB (eV 1)), (("at" : Str), (eC (.int 0)))] [some (.fz (iL ns)), none] CS.nil = .ok (.ref 0) ((((CS.nil.push (.dic [])).push (.lst (iL ns))).push (.lst (iL (ns.filter fun i => decide ((10 : Int) ^ 18 ≤ i))))).put 0 (.dic [(.str "cells", .ref 1), (.str "left", .ref 2), (.str "at", .int 0)])) := by
      simp only [eDisp, eDispP, M.bind, e1, e2, Out.bind, eC]
      rfl
    simp only [sRet, lift, ed]
  · refine ⟨rfl, rfl, rfl, by decide, by decide, by decide⟩
/-! ## the loop -/
theorem B0 {ns lf : List Int} {m a b : Nat} {t : Int} {S : CS} {x2 x3 x4 x5 x6 x7 x8 x9 x10 x11 : Option CV} (h : MO ns m a b lf t S) (hl : lf.length < 1000) (h0 : 0 ≤ t) (h1 : t < 100) :
    ∃ p S' b' lf' t', sB0 (cL (iL ns) m x2 x3 x4 x5 x6 x7 x8 x9 x10 x11) S = .nx (cL (iL ns) m x2 (some (.int p)) x4 x5 x6 x7 x8 x9 x10 x11) S' ∧ -12 ≤ p ∧ p ≤ 12 ∧ MO ns m a b' lf' t' S' ∧ lf'.length ≤ lf.length ∧ 0 ≤ t' ∧ t' ≤ t + 1 := by
  obtain ⟨i, S', b', lf', t', e, i0, i1, q, k1, k2, k3⟩ := next_ok h hl h0 h1
  refine ⟨i - 12, S', b', lf', t', ?_, by omega, by omega, q, k1, k2, k3⟩
  have ec : eCall (gG 2 m__law_next) (aCons (eV 1) (aCons (eC (.int 25)) aNil)) (cL (iL ns) m x2 x3 x4 x5 x6 x7 x8 x9 x10 x11) S = .ok (.int i) S' := by
    have ea : aCons (eV 1) (aCons (eC (.int 25)) aNil) (cL (iL ns) m x2 x3 x4 x5 x6 x7 x8 x9 x10 x11) S = .ok [.ref m, .int 25] S := rfl
    simp only [eCall, M.bind, ea, Out.bind, gG]
    exact e
  exact asg_n ((e2_ok ec rfl).trans rfl)
theorem loop_ok (ns : List Int) (m a n : Nat) (hn : n ≤ 4) : ∀ (k i b : Nat) (lf : List Int) (t : Int) (S : CS) (x2 x3 x4 x5 x6 x7 x8 x9 x10 x11 : Option CV), i + k = n → MO ns m a b lf t S → lf.length < 1000 → 0 ≤ t → t ≤ i →
    ∃ S' y2 y3 y4 y5 y6 y7 y8, forL (itR 0 n) (.nm 2) bF k i (cL (iL ns) m x2 x3 x4 x5 x6 x7 x8 x9 x10 x11) S = .nx (cL (iL ns) m y2 y3 y4 y5 y6 y7 y8 x9 x10 x11) S'
  | 0, i, b, lf, t, S, x2, x3, x4, x5, x6, x7, x8, x9, x10, x11, hk, h, hl, h0, h1 => by
    have e : (itR 0 n).nxt i S = some none := by
      show some (if i < n then some (CV.int (0 + i)) else none) = some none
      rw [if_neg (by omega)]
    refine ⟨S, x2, x3, x4, x5, x6, x7, x8, ?_⟩
    simp only [forL, e]
  | k + 1, i, b, lf, t, S, x2, x3, x4, x5, x6, x7, x8, x9, x10, x11, hk, h, hl, h0, h1 => by
    have e : (itR 0 n).nxt i S = some (some (.int (0 + i))) := by
      show some (if i < n then some (CV.int (0 + i)) else none) = _
      rw [if_pos (by omega)]
    obtain ⟨p, S1, b1, l1, t1, e0, p0, p1, q1, k1, k2, k3⟩ := B0 (x2 := some (.int (0 + i))) (x3 := x3) (x4 := x4) (x5 := x5) (x6 := x6) (x7 := x7) (x8 := x8) (x9 := x9) (x10 := x10) (x11 := x11) h hl h0 (by omega)
    obtain ⟨o1, o2, o3, y4, y5, y6, y7, y8, e1⟩ := body_ok (L := iL ns) (m := m) (x2 := some (.int (0 + i))) (x4 := x4) (x5 := x5) (x6 := x6) (x7 := x7) (x8 := x8) (x9 := x9) (x10 := x10) (x11 := x11) (S := S1) (fp_all p0 p1) fh
    obtain ⟨S', z2, z3, z4, z5, z6, z7, z8, e2⟩ := loop_ok ns m a n hn k (i + 1) b1 l1 t1 _ (some (.int (0 + i))) (some (.int p)) y4 y5 y6 y7 y8 x9 x10 x11 (by omega) (((q1.push o1).push o2).push o3) (by omega) k2 (by omega)
    refine ⟨S', z2, z3, z4, z5, z6, z7, z8, ?_⟩
    have eb : bF (cL (iL ns) m (some (.int (0 + i))) x3 x4 x5 x6 x7 x8 x9 x10 x11) S = .nx (cL (iL ns) m (some (.int (0 + i))) (some (.int p)) y4 y5 y6 y7 y8 x9 x10 x11) (((S1.push o1).push o2).push o3) := by
      unfold bF
      rw [seq_n e0, e1]
    have et : bT (.nm 2) (.int (0 + i)) (cL (iL ns) m x2 x3 x4 x5 x6 x7 x8 x9 x10 x11) = some (cL (iL ns) m (some (.int (0 + i))) x3 x4 x5 x6 x7 x8 x9 x10 x11) := rfl
    simp only [forL, e, et, eb, e2]
theorem ret_of {c : CE} {S S1 : CS} {m : M CV} {x : CV} (h : m c S = .ok x S1) : sRet m c S = .rt x S1 := by
  simp only [sRet, lift, h]
/-- law -/
theorem law_ok (ns : List Int) (hl : ns.length ≤ 63) : ∃ S, m_law [.fz (iL ns)] CS.nil = .ok (.bl true) S := by
  have l63 : 63 < sizeLine := by rw [sizeLine_eq]; decide
  obtain ⟨S0, lf, e0, q0, k0⟩ := begun_ok ns (by omega)
  have st : ([CV.fz (iL ns)].map some ++ List.replicate (12 - [CV.fz (iL ns)].length) none : CE) = [some (.fz (iL ns)), none, none, none, none, none, none, none, none, none, none, none] := rfl
  have s0 : sL0 [some (.fz (iL ns)), none, none, none, none, none, none, none, none, none, none, none] CS.nil = .nx (cL (iL ns) 0 none none none none none none none none none none) S0 := by
    have ea : aCons (eV 0) aNil [some (.fz (iL ns)), none, none, none, none, none, none, none, none, none, none, none] CS.nil = .ok [.fz (iL ns)] CS.nil := rfl
    have ec : eCall (gG 1 m__law_begun) (aCons (eV 0) aNil) [some (.fz (iL ns)), none, none, none, none, none, none, none, none, none, none, none] CS.nil = .ok (.ref 0) S0 := by
      simp only [eCall, M.bind, ea, Out.bind, gG]
      exact e0
    exact asg_n ec
  -- the loop
  have hi : ∃ n, n ≤ 4 ∧ iF (cL (iL ns) 0 none none none none none none none none none none) S0 = .ok (itR 0 n) S0 := by
    have h1 : iF (cL (iL ns) 0 none none none none none none none none none none) S0 = (if inR (1 + (if (3 : Int) < ((iL ns).length : Nat) then 3 else (((iL ns).length : Nat) : Int))) then .ok (itR 0 (1 + (if (3 : Int) < ((iL ns).length : Nat) then 3 else (((iL ns).length : Nat) : Int))).toNat) S0 else .stuck) := rfl
    rw [List.length_map] at h1
    refine ⟨(1 + (if (3 : Int) < (ns.length : Nat) then 3 else ((ns.length : Nat) : Int))).toNat, ?_, ?_⟩
    · split <;> omega
    · rw [h1, if_pos]
      unfold inR
      simp only [Bool.and_eq_true, decide_eq_true_eq]
      split <;> omega
  obtain ⟨n, hn, ei⟩ := hi
  obtain ⟨S1, y2, y3, y4, y5, y6, y7, y8, e1⟩ := loop_ok ns 0 1 n hn n 0 2 lf 0 S0 none none none none none none none none none none (by omega) q0 (by omega) (by omega) (by omega)
  have s1 : sL1 (cL (iL ns) 0 none none none none none none none none none none) S0 = .nx (cL (iL ns) 0 y2 y3 y4 y5 y6 y7 y8 none none none) S1 := by
    simp only [sL1, sFor, lift, ei]
    exact e1
  have s2 : ∃ v, sL2 (cL (iL ns) 0 y2 y3 y4 y5 y6 y7 y8 none none none) S1 = .nx (cL (iL ns) 0 y2 y3 (some v) y5 y6 y7 y8 none none none) S1 ∧ v = .tup [.str ("block" : Str), .tup [.tup [.tup [.int 0, .int 1]]]] := ⟨_, rfl, rfl⟩
  obtain ⟨v, s2, ev⟩ := s2
  subst ev
  have s3 : sL3 (cL (iL ns) 0 y2 y3 (some (.tup [.str ("block" : Str), .tup [.tup [.tup [.int 0, .int 1]]]])) y5 y6 y7 y8 none none none) S1 = .rt (.bl true) S1 := by
    have ea : eCall (gP 3 m_laid) (aCons (eTup (aCons (eV 4) (aCons (eTup (aCons (eC (.str ("again" : Str))) (aCons (eC (.int 0)) (aCons (e2 gPow (eC (.int 10)) (eC (.int 12))) aNil)))) aNil))) (aCons (eC (.int 0)) (aCons (eC (.int 96)) aNil))) (cL (iL ns) 0 y2 y3 (some (.tup [.str ("block" : Str), .tup [.tup [.tup [.int 0, .int 1]]]])) y5 y6 y7 y8 none none none) S1 = .ok (tI lastL) S1 :=
      (call3 (x := oneP0) (y := .int 0) (z := .int 96) rfl rfl rfl).trans (gP_of last_ok S1)
    have er : e2 gAdd (e2 gMul (eTup (aCons (eC (.int 10416666667)) aNil)) (eC (.int 64))) (e2 gMul (eTup (aCons (eC (.int 10416666666)) aNil)) (eC (.int 32))) (cL (iL ns) 0 y2 y3 (some (.tup [.str ("block" : Str), .tup [.tup [.tup [.int 0, .int 1]]]])) y5 y6 y7 y8 none none none) S1 = .ok (tI lastL) S1 := rfl
    have ee := (e2_ok (g := gEq false) ea er).trans (gEq_tI false lastL lastL S1)
    rw [decide_eq_true (rfl : lastL = lastL)] at ee
    exact ret_of ee
  refine ⟨S1, ?_⟩
  unfold m_law runB
  rw [st, b_law_eq, seq_n s0, seq_n s1, seq_n s2, s3]
end TT
-- part k17h
namespace TT
open PySem PySem.Spec PyProof.Rows L2 TH
def BindsAll (x : Str) (st : Stmt) (ps : List Str) : Prop := ∀ (kV doc pm : Value) (an : Option Addr) (cdv ct : Value) (us : List Value), us.length = ps.length → bindArgs (PySem.W.fnOf x x (defArgs st) (defBody st) (defScope st) .none kV doc pm an cdv ct) ⟨us, []⟩ = pure (ps.zip us)
theorem src_mk {K : PySem.W.Frag} {h : Heap} {mg : Str → Option Value} {x : Str} {st : Stmt} {ps : List Str} {f : Addr} {oc : Value} {od an : Option Addr} {osl : Array (Option Value)} {kV doc pm cdv ct : Value} (X : K.In h) (G : h.Ns mainGlobals mg)
    (a : PySem.W.nsIn K mainGlobals x = some (some (.ref f))) (l : K.lookup f = some ⟨oc, od, .func (PySem.W.fnOf x x (defArgs st) (defBody st) (defScope st) .none kV doc pm an cdv ct), osl⟩)
    (c : PySem.W.codeIn K cdv x = true) (k : PySem.W.keepIn K (.ref f) = true) (b : BindsAll x st ps) : Src K mg x st ps :=
  ⟨⟨f, _, fun_mk l c k, PySem.W.mg_of X G a, .all (b kV doc pm an cdv ct)⟩⟩
section
variable {P : Program} {w : World} {K : PySem.W.Frag} {mg : Str → Option Value} {base : Heap} {Z : ExI}
theorem all_defs (T : Tx w K mg) : Def P w K mg base Z "law" 14 ["script"] m_law := by
  have h_is_integer := d_is_integer (P := P) (w := w) (base := base) (Z := Z) T 
  have h_is_from_to := d_is_from_to (P := P) (w := w) (base := base) (Z := Z) T h_is_integer
  have h_is_row := d_is_row (P := P) (w := w) (base := base) (Z := Z) T 
  have h_is_ascending := d_is_ascending (P := P) (w := w) (base := base) (Z := Z) T h_is_integer
  have h_is_ascending_to := d_is_ascending_to (P := P) (w := w) (base := base) (Z := Z) T h_is_ascending
  have h_is_rhythm := d_is_rhythm (P := P) (w := w) (base := base) (Z := Z) T h_is_row h_is_from_to h_is_ascending_to
  have h_need_rhythm := d_need_rhythm (P := P) (w := w) (base := base) (Z := Z) T h_is_rhythm
  have h_is_event := d_is_event (P := P) (w := w) (base := base) (Z := Z) T h_is_row h_is_from_to
  have h_is_event_row := d_is_event_row (P := P) (w := w) (base := base) (Z := Z) T h_is_row h_is_event
  have h_row_length := d_row_length (P := P) (w := w) (base := base) (Z := Z) T 
  have h_is_block := d_is_block (P := P) (w := w) (base := base) (Z := Z) T h_is_row h_is_event_row h_row_length
  have h_is_third := d_is_third (P := P) (w := w) (base := base) (Z := Z) T h_is_from_to h_is_row
  have h_is_sign := d_is_sign (P := P) (w := w) (base := base) (Z := Z) T h_is_block h_is_from_to h_is_third
  have h_named_parts := d_named_parts (P := P) (w := w) (base := base) (Z := Z) T 
  have h_slowing := d_slowing (P := P) (w := w) (base := base) (Z := Z) T 
  have h_block_measure := d_block_measure (P := P) (w := w) (base := base) (Z := Z) T h_row_length
  have h_part_measure := d_part_measure (P := P) (w := w) (base := base) (Z := Z) T h_named_parts h_slowing
  have h_measure_of := d_measure_of (P := P) (w := w) (base := base) (Z := Z) T h_is_sign h_block_measure h_part_measure
  have h_first_bad := d_first_bad (P := P) (w := w) (base := base) (Z := Z) T h_measure_of
  have h_check_signs := d_check_signs (P := P) (w := w) (base := base) (Z := Z) T h_is_row h_first_bad
  have h_lengths_of := d_lengths_of (P := P) (w := w) (base := base) (Z := Z) T h_row_length h_slowing h_named_parts
  have h_top_of := d_top_of (P := P) (w := w) (base := base) (Z := Z) T 
  have h_parts_of := d_parts_of (P := P) (w := w) (base := base) (Z := Z) T h_named_parts
  have h_block_events := d_block_events (P := P) (w := w) (base := base) (Z := Z) T 
  have h_asked_of := d_asked_of (P := P) (w := w) (base := base) (Z := Z) T h_top_of h_parts_of
  have h_rising := d_rising (P := P) (w := w) (base := base) (Z := Z) T 
  have h_need_score := d_need_score (P := P) (w := w) (base := base) (Z := Z) T h_check_signs h_asked_of
  have h_voice_count := d_voice_count (P := P) (w := w) (base := base) (Z := Z) T 
  have h_need_voice := d_need_voice (P := P) (w := w) (base := base) (Z := Z) T h_voice_count h_is_from_to
  have h_need_both := d_need_both (P := P) (w := w) (base := base) (Z := Z) T h_need_score h_need_voice
  have h_block_row := d_block_row (P := P) (w := w) (base := base) (Z := Z) T 
  have h_put_copies := d_put_copies (P := P) (w := w) (base := base) (Z := Z) T 
  have h_laid := d_laid (P := P) (w := w) (base := base) (Z := Z) T h_need_both h_is_from_to h_lengths_of h_asked_of h_rising h_block_events h_block_row h_parts_of h_put_copies h_top_of
  have h_strikes_once := d_strikes_once (P := P) (w := w) (base := base) (Z := Z) T h_laid
  have h_is_prime := d_is_prime (P := P) (w := w) (base := base) (Z := Z) T h_is_from_to
  have h_primes_of := d_primes_of (P := P) (w := w) (base := base) (Z := Z) T h_is_prime
  have h_times_in := d_times_in (P := P) (w := w) (base := base) (Z := Z) T 
  have h_power_of := d_power_of (P := P) (w := w) (base := base) (Z := Z) T 
  have h_rest_counts := d_rest_counts (P := P) (w := w) (base := base) (Z := Z) T 
  have h_is_fair_floor := d_is_fair_floor (P := P) (w := w) (base := base) (Z := Z) T h_power_of h_rest_counts
  have h_floors_of := d_floors_of (P := P) (w := w) (base := base) (Z := Z) T h_times_in h_is_fair_floor
  have h_is_pair_fair := d_is_pair_fair (P := P) (w := w) (base := base) (Z := Z) T h_power_of h_rest_counts
  have h_unfair_pair := d_unfair_pair (P := P) (w := w) (base := base) (Z := Z) T h_primes_of h_floors_of h_is_pair_fair
  have h_need_few_primes := d_need_few_primes (P := P) (w := w) (base := base) (Z := Z) T h_need_rhythm h_primes_of
  have h_entries_by_floors := d_entries_by_floors (P := P) (w := w) (base := base) (Z := Z) T h_primes_of h_floors_of h_times_in h_power_of
  have h_reason_against := d_reason_against (P := P) (w := w) (base := base) (Z := Z) T h_primes_of h_floors_of h_times_in h_unfair_pair
  have h_entries_of := d_entries_of (P := P) (w := w) (base := base) (Z := Z) T h_need_few_primes h_reason_against h_entries_by_floors
  have h__law_begun := d__law_begun (P := P) (w := w) (base := base) (Z := Z) T 
  have h__law_next := d__law_next (P := P) (w := w) (base := base) (Z := Z) T 
  have h__law_entered := d__law_entered (P := P) (w := w) (base := base) (Z := Z) T 
  have h_law := d_law (P := P) (w := w) (base := base) (Z := Z) T h__law_begun h__law_next h_laid h_strikes_once h_entries_of h__law_entered
  exact h_law
end
theorem bd_is_integer : BindsAll "is_integer" st_is_integer ["thing"] := fun _ _ _ _ _ _ us hl => match us, hl with | [_], _ => rfl
theorem bd_is_from_to : BindsAll "is_from_to" st_is_from_to ["thing", "low", "high"] := fun _ _ _ _ _ _ us hl => match us, hl with | [_, _, _], _ => rfl
theorem bd_is_row : BindsAll "is_row" st_is_row ["thing", "least", "most"] := fun _ _ _ _ _ _ us hl => match us, hl with | [_, _, _], _ => rfl
theorem bd_is_ascending : BindsAll "is_ascending" st_is_ascending ["thing", "low"] := fun _ _ _ _ _ _ us hl => match us, hl with | [_, _], _ => rfl
theorem bd_is_ascending_to : BindsAll "is_ascending_to" st_is_ascending_to ["thing", "low", "high"] := fun _ _ _ _ _ _ us hl => match us, hl with | [_, _, _], _ => rfl
theorem bd_is_rhythm : BindsAll "is_rhythm" st_is_rhythm ["thing"] := fun _ _ _ _ _ _ us hl => match us, hl with | [_], _ => rfl
theorem bd_need_rhythm : BindsAll "need_rhythm" st_need_rhythm ["rhythm"] := fun _ _ _ _ _ _ us hl => match us, hl with | [_], _ => rfl
theorem bd_is_event : BindsAll "is_event" st_is_event ["thing"] := fun _ _ _ _ _ _ us hl => match us, hl with | [_], _ => rfl
theorem bd_is_event_row : BindsAll "is_event_row" st_is_event_row ["thing"] := fun _ _ _ _ _ _ us hl => match us, hl with | [_], _ => rfl
theorem bd_row_length : BindsAll "row_length" st_row_length ["row"] := fun _ _ _ _ _ _ us hl => match us, hl with | [_], _ => rfl
theorem bd_is_block : BindsAll "is_block" st_is_block ["thing"] := fun _ _ _ _ _ _ us hl => match us, hl with | [_], _ => rfl
theorem bd_is_third : BindsAll "is_third" st_is_third ["word", "thing", "many"] := fun _ _ _ _ _ _ us hl => match us, hl with | [_, _, _], _ => rfl
theorem bd_is_sign : BindsAll "is_sign" st_is_sign ["thing", "many"] := fun _ _ _ _ _ _ us hl => match us, hl with | [_, _], _ => rfl
theorem bd_named_parts : BindsAll "named_parts" st_named_parts ["sign"] := fun _ _ _ _ _ _ us hl => match us, hl with | [_], _ => rfl
theorem bd_slowing : BindsAll "slowing" st_slowing ["sign"] := fun _ _ _ _ _ _ us hl => match us, hl with | [_], _ => rfl
theorem bd_block_measure : BindsAll "block_measure" st_block_measure ["block"] := fun _ _ _ _ _ _ us hl => match us, hl with | [_], _ => rfl
theorem bd_part_measure : BindsAll "part_measure" st_part_measure ["sign", "ahead"] := fun _ _ _ _ _ _ us hl => match us, hl with | [_, _], _ => rfl
theorem bd_measure_of : BindsAll "measure_of" st_measure_of ["sign", "ahead"] := fun _ _ _ _ _ _ us hl => match us, hl with | [_, _], _ => rfl
theorem bd_first_bad : BindsAll "first_bad" st_first_bad ["signs"] := fun _ _ _ _ _ _ us hl => match us, hl with | [_], _ => rfl
theorem bd_check_signs : BindsAll "check_signs" st_check_signs ["thing"] := fun _ _ _ _ _ _ us hl => match us, hl with | [_], _ => rfl
theorem bd_lengths_of : BindsAll "lengths_of" st_lengths_of ["score"] := fun _ _ _ _ _ _ us hl => match us, hl with | [_], _ => rfl
theorem bd_top_of : BindsAll "top_of" st_top_of ["score"] := fun _ _ _ _ _ _ us hl => match us, hl with | [_], _ => rfl
theorem bd_parts_of : BindsAll "parts_of" st_parts_of ["score", "varied"] := fun _ _ _ _ _ _ us hl => match us, hl with | [_, _], _ => rfl
theorem bd_block_events : BindsAll "block_events" st_block_events ["score", "varied", "voice"] := fun _ _ _ _ _ _ us hl => match us, hl with | [_, _, _], _ => rfl
theorem bd_asked_of : BindsAll "asked_of" st_asked_of ["score"] := fun _ _ _ _ _ _ us hl => match us, hl with | [_], _ => rfl
theorem bd_rising : BindsAll "rising" st_rising ["asked"] := fun _ _ _ _ _ _ us hl => match us, hl with | [_], _ => rfl
theorem bd_need_score : BindsAll "need_score" st_need_score ["thing"] := fun _ _ _ _ _ _ us hl => match us, hl with | [_], _ => rfl
theorem bd_voice_count : BindsAll "voice_count" st_voice_count ["score"] := fun _ _ _ _ _ _ us hl => match us, hl with | [_], _ => rfl
theorem bd_need_voice : BindsAll "need_voice" st_need_voice ["score", "voice"] := fun _ _ _ _ _ _ us hl => match us, hl with | [_, _], _ => rfl
theorem bd_need_both : BindsAll "need_both" st_need_both ["score", "voice"] := fun _ _ _ _ _ _ us hl => match us, hl with | [_, _], _ => rfl
theorem bd_block_row : BindsAll "block_row" st_block_row ["events", "beats"] := fun _ _ _ _ _ _ us hl => match us, hl with | [_, _], _ => rfl
theorem bd_put_copies : BindsAll "put_copies" st_put_copies ["row", "part", "begin", "span", "many"] := fun _ _ _ _ _ _ us hl => match us, hl with | [_, _, _, _, _], _ => rfl
theorem bd_laid : BindsAll "laid" st_laid ["score", "voice", "beats"] := fun _ _ _ _ _ _ us hl => match us, hl with | [_, _, _], _ => rfl
theorem bd_strikes_once : BindsAll "strikes_once" st_strikes_once ["score", "voice", "beats"] := fun _ _ _ _ _ _ us hl => match us, hl with | [_, _, _], _ => rfl
theorem bd_is_prime : BindsAll "is_prime" st_is_prime ["thing"] := fun _ _ _ _ _ _ us hl => match us, hl with | [_], _ => rfl
theorem bd_primes_of : BindsAll "primes_of" st_primes_of ["number"] := fun _ _ _ _ _ _ us hl => match us, hl with | [_], _ => rfl
theorem bd_times_in : BindsAll "times_in" st_times_in ["prime", "number"] := fun _ _ _ _ _ _ us hl => match us, hl with | [_, _], _ => rfl
theorem bd_power_of : BindsAll "power_of" st_power_of ["prime", "many"] := fun _ _ _ _ _ _ us hl => match us, hl with | [_, _], _ => rfl
theorem bd_rest_counts : BindsAll "rest_counts" st_rest_counts ["strokes", "divisor"] := fun _ _ _ _ _ _ us hl => match us, hl with | [_, _], _ => rfl
theorem bd_is_fair_floor : BindsAll "is_fair_floor" st_is_fair_floor ["rhythm", "prime", "floor"] := fun _ _ _ _ _ _ us hl => match us, hl with | [_, _, _], _ => rfl
theorem bd_floors_of : BindsAll "floors_of" st_floors_of ["rhythm", "prime"] := fun _ _ _ _ _ _ us hl => match us, hl with | [_, _], _ => rfl
theorem bd_is_pair_fair : BindsAll "is_pair_fair" st_is_pair_fair ["rhythm", "prime", "floor", "other", "far"] := fun _ _ _ _ _ _ us hl => match us, hl with | [_, _, _, _, _], _ => rfl
theorem bd_unfair_pair : BindsAll "unfair_pair" st_unfair_pair ["rhythm"] := fun _ _ _ _ _ _ us hl => match us, hl with | [_], _ => rfl
theorem bd_need_few_primes : BindsAll "need_few_primes" st_need_few_primes ["rhythm"] := fun _ _ _ _ _ _ us hl => match us, hl with | [_], _ => rfl
theorem bd_entries_by_floors : BindsAll "entries_by_floors" st_entries_by_floors ["rhythm"] := fun _ _ _ _ _ _ us hl => match us, hl with | [_], _ => rfl
theorem bd_reason_against : BindsAll "reason_against" st_reason_against ["rhythm"] := fun _ _ _ _ _ _ us hl => match us, hl with | [_], _ => rfl
theorem bd_entries_of : BindsAll "entries_of" st_entries_of ["rhythm"] := fun _ _ _ _ _ _ us hl => match us, hl with | [_], _ => rfl
theorem bd__law_begun : BindsAll "_law_begun" st__law_begun ["script"] := fun _ _ _ _ _ _ us hl => match us, hl with | [_], _ => rfl
theorem bd__law_next : BindsAll "_law_next" st__law_next ["m", "many"] := fun _ _ _ _ _ _ us hl => match us, hl with | [_, _], _ => rfl
theorem bd__law_entered : BindsAll "_law_entered" st__law_entered ["beats", "strokes", "entries"] := fun _ _ _ _ _ _ us hl => match us, hl with | [_, _, _], _ => rfl
theorem bd_law : BindsAll "law" st_law ["script"] := fun _ _ _ _ _ _ us hl => match us, hl with | [_], _ => rfl
abbrev Z0 : ExI := ⟨fun _ => .none, fun _ => "" ⟩
theorem fn_all {P : Program} {w : World} {K : PySem.W.Frag} {h : Heap} {mg : Str → Option Value} {fa f : Addr} (hfa : mg "law" = some (.ref fa)) {oc : Value} {od an : Option Addr} {osl : Array (Option Value)} {kV doc pm cdv ct : Value} (X : K.In h) (G : h.Ns mainGlobals mg)
    (a : PySem.W.nsIn K mainGlobals "law" = some (some (.ref f))) (l : K.lookup f = some ⟨oc, od, .func (PySem.W.fnOf "law" "law" (defArgs st_law) (defBody st_law) (defScope st_law) .none kV doc pm an cdv ct), osl⟩) (T : Tx w K mg) :
    ∃ fd : FuncData, (∀ (s : Shared) (v : Value), BindsTo s fd ⟨[v], []⟩ [("script", v)]) ∧ ∀ base : Heap, K.In base → base.Ns mainGlobals mg → FnOk P w K mg base (L2.CX P w) 14 fa fd ["script"] (spM K Z0 1 m_law) := by
  refine ⟨_, fun s v => .of_eq (bd_law kV doc pm an cdv ct [v] rfl), fun base _ _ => ?_⟩
  obtain ⟨f', fd', h1, _, _, F, o, h2, h3⟩ := all_defs (P := P) (base := base) (Z := Z0) T
  have e := hfa.symm.trans h1
  cases e
  have e2 := hfa.symm.trans (PySem.W.mg_of X G a)
  cases e2
  rw [l] at h2
  cases h2
  cases h3
  exact F
theorem law_sp {K : PySem.W.Frag} {H : Hp} {a : Addr} {ns : List Int} (hl : ns.length ≤ 63) (hO : Only H) (hS : SqL K H a (ns.map V.int)) (hok : ∃ S, m_law [.fz (ns.map CV.int)] CS.nil = .ok (.bl true) S) :
    spM K Z0 1 m_law [.ref a] H (fun v _ => v = .bl true) fun _ _ _ => False := by
  obtain ⟨S, e⟩ := hok
  have hF : FzL K H a (ns.map V.int) := by
    rcases hS with (h | h) | h
    · rcases hO a with q | ⟨o, xs, q⟩
      · rw [q] at h; cases h
      · rw [q] at h; cases h
    · exact .inl h
    · exact .inr h
  refine ⟨rfl, [], CS.nil, [.fz (ns.map CV.int)], Rel.nil, .cons (.fz hF RVs.ints) .nil, ?_⟩
  rw [e]
  intro f' H' v _ _ r
  cases r
  rfl
end TT
-- part k17m
namespace TT
open PySem PySem.Spec PyProof.Rows L2 TH
theorem lookup_mem {tab : List (Str × Int)} {z : Str} {i : Int} (h : tab.lookup z = some i) : (z, i) ∈ tab := by
  induction tab with
  | nil => cases h
  | cons p r ih =>
    obtain ⟨x, y⟩ := p
    rw [List.lookup_cons] at h
    split at h
    · rename_i e
      cases h
      rw [eq_of_beq e]
      exact List.mem_cons_self ..
    · exact List.mem_cons_of_mem _ (ih h)
theorem tab_mk {K : PySem.W.Frag} {w : World} {h : Heap} {mg : Str → Option Value} {x : Str} {tab : List (Str × Int)} {a : Addr} {es : Array DictEntry} {n : Nat} (X : K.In h) (G : h.Ns mainGlobals mg) (e : PySem.W.nsIn K mainGlobals x = some (some (.ref a)))
    (hd : (a == sysModules) = false) (l : K.lookup a = some ⟨.type "dict", none, .dict es n, #[]⟩) (hk : PySem.W.KeysLit w.params es.toList) (hall : ∀ p ∈ tab, ∃ t, PySem.W.nsIn K a p.1 = some (some (.int p.2 t))) :
    ∃ a, mg x = some (.ref a) ∧ (a == sysModules) = false ∧ ∀ z i, tab.lookup z = some i → KDct K w a z (.int i) :=
  ⟨a, PySem.W.mg_of X G e, hd, fun z i hz => by
    obtain ⟨t, ht⟩ := hall _ (lookup_mem hz)
    exact ⟨es, n, _, l, hk, ht, ⟨t, rfl⟩⟩⟩
theorem walk {l : PySem.W.OpenLaw} {q : Program} {loose : List Str} {XP : (Str → Option Value) → Heap → Prop} {YP : World → Heap → Prop} {d : DefRec} {K : Params → PySem.W.Frag} (hn : l.most = some 63) (hdf : d.params.defaults = [])
    (hY : ∀ (w : World) (h : Heap), YP w h → (K w.params).In h)
    (hok : ∀ ns : List Int, ns.length ≤ 63 → ∃ S, m_law [.fz (ns.map CV.int)] CS.nil = .ok (.bl true) S)
    (F : ∀ (w : World) (mg : Str → Option Value) (fa : Addr) (h : Heap), (K w.params).In h → h.Ns mainGlobals mg → mg d.name = some (.ref fa) →
      ∃ fd : FuncData, (∀ (s : Shared) (u : Value), BindsTo s fd ⟨[u], []⟩ [("script", u)]) ∧ ∀ base : Heap, (K w.params).In base → base.Ns mainGlobals mg → FnOk l.prog w (K w.params) mg base (L2.CX l.prog w) 14 fa fd ["script"] (spM (K w.params) Z0 1 m_law)) :
    PySem.W.WalkO q loose XP YP l.row.toRowW d [] (fun f vs => PySem.call f vs) :=
  L2.walk_of (n := 63) (k := 14) (x := "script") (CX := fun w => L2.CX l.prog w) (sp := fun w => spM (K w.params) Z0 1 m_law) hn (by decide) hdf ⟨rfl, by decide, by decide⟩ hY F (fun _ _ _ ns hl hO hS => law_sp hl hO hS (hok ns hl)) fun _ _ _ _ _ z => by
    obtain ⟨a, B, H', cls, d, _, _, _, _, _, _, _, hE⟩ := z
    exact hE
end TT
open PySem PySem.W PyProof.Rows
set_option maxRecDepth 100000 in
set_option maxHeartbeats 0 in
theorem PySem.Challenge.cw_tacthouse_k17_laid_by_hand_holds : PySem.Challenge.rw_tacthouse_k17_laid_by_hand.Holds := by
  w_on; o_law; k_head; (case hw => w_witness2)
  k_fill
  refine TT.walk (l := PySem.Challenge.rw_tacthouse_k17_laid_by_hand) rfl rfl (fun w h Y => PySem.W.kIn_of Y) TT.law_ok ?F
  case F =>
    intro w mg fa h KX G hmg
    refine TT.fn_all hmg KX G (by k_is) (by k_is) ?T
    case T =>
      constructor
      · exact PySem.W.mg_none_of KX G (by k_is)
      · exact PySem.W.mg_none_of KX G (by k_is)
      · exact PySem.W.mg_none_of KX G (by k_is)
      · exact PySem.W.mg_of KX G (by k_is)
      · exact PySem.W.mg_none_of KX G (by k_is)
      · exact PySem.W.mg_none_of KX G (by k_is)
      · exact PySem.W.mg_none_of KX G (by k_is)
      · exact PySem.W.mg_none_of KX G (by k_is)
      · exact PySem.W.mg_none_of KX G (by k_is)
      · exact PySem.W.mg_none_of KX G (by k_is)
      · exact PySem.W.mg_none_of KX G (by k_is)
      · exact PySem.W.mg_none_of KX G (by k_is)
      · exact PySem.W.mg_none_of KX G (by k_is)
      · exact PySem.W.mg_none_of KX G (by k_is)
      · exact PySem.W.mg_none_of KX G (by k_is)
      · exact PySem.W.mg_none_of KX G (by k_is)
      · exact PySem.W.mg_none_of KX G (by k_is)
      · refine' TT.tab_mk KX G ?e ?d ?l ?hk ?ha
        (case e => k_is); (case d => decide); (case l => k_is)
        (case hk => exact ⟨⟨_, _, rfl, rfl⟩, ⟨_, _, rfl, rfl⟩, ⟨_, _, rfl, rfl⟩, ⟨_, _, rfl, rfl⟩, ⟨_, _, rfl, rfl⟩, ⟨_, _, rfl, rfl⟩, ⟨_, _, rfl, rfl⟩, True.intro⟩)
        (case ha => exact List.forall_mem_cons.mpr ⟨⟨_, by k_is⟩, List.forall_mem_cons.mpr ⟨⟨_, by k_is⟩, List.forall_mem_cons.mpr ⟨⟨_, by k_is⟩, List.forall_mem_cons.mpr ⟨⟨_, by k_is⟩, List.forall_mem_cons.mpr ⟨⟨_, by k_is⟩, List.forall_mem_cons.mpr ⟨⟨_, by k_is⟩, List.forall_mem_cons.mpr ⟨⟨_, by k_is⟩, List.forall_mem_nil _⟩⟩⟩⟩⟩⟩⟩)
      · exact ⟨_, PySem.W.mg_of KX G (by k_is)⟩
      · exact ⟨_, PySem.W.mg_of KX G (by k_is)⟩
      · exact ⟨_, PySem.W.mg_of KX G (by k_is)⟩
      · exact ⟨_, PySem.W.mg_of KX G (by k_is)⟩
      · exact ⟨_, PySem.W.mg_of KX G (by k_is)⟩
      · exact ⟨_, PySem.W.mg_of KX G (by k_is)⟩
      · exact ⟨_, PySem.W.mg_of KX G (by k_is)⟩
      · exact ⟨_, PySem.W.mg_of KX G (by k_is)⟩
      · exact TT.src_mk KX G (by k_is) (by k_is) (by k_is) (by k_is) TT.bd_is_integer
      · exact TT.src_mk KX G (by k_is) (by k_is) (by k_is) (by k_is) TT.bd_is_from_to
      · exact TT.src_mk KX G (by k_is) (by k_is) (by k_is) (by k_is) TT.bd_is_row
      · exact TT.src_mk KX G (by k_is) (by k_is) (by k_is) (by k_is) TT.bd_is_ascending
      · exact TT.src_mk KX G (by k_is) (by k_is) (by k_is) (by k_is) TT.bd_is_ascending_to
      · exact TT.src_mk KX G (by k_is) (by k_is) (by k_is) (by k_is) TT.bd_is_rhythm
      · exact TT.src_mk KX G (by k_is) (by k_is) (by k_is) (by k_is) TT.bd_need_rhythm
      · exact TT.src_mk KX G (by k_is) (by k_is) (by k_is) (by k_is) TT.bd_is_event
      · exact TT.src_mk KX G (by k_is) (by k_is) (by k_is) (by k_is) TT.bd_is_event_row
      · exact TT.src_mk KX G (by k_is) (by k_is) (by k_is) (by k_is) TT.bd_row_length
      · exact TT.src_mk KX G (by k_is) (by k_is) (by k_is) (by k_is) TT.bd_is_block
      · exact TT.src_mk KX G (by k_is) (by k_is) (by k_is) (by k_is) TT.bd_is_third
      · exact TT.src_mk KX G (by k_is) (by k_is) (by k_is) (by k_is) TT.bd_is_sign
      · exact TT.src_mk KX G (by k_is) (by k_is) (by k_is) (by k_is) TT.bd_named_parts
      · exact TT.src_mk KX G (by k_is) (by k_is) (by k_is) (by k_is) TT.bd_slowing
      · exact TT.src_mk KX G (by k_is) (by k_is) (by k_is) (by k_is) TT.bd_block_measure
      · exact TT.src_mk KX G (by k_is) (by k_is) (by k_is) (by k_is) TT.bd_part_measure
      · exact TT.src_mk KX G (by k_is) (by k_is) (by k_is) (by k_is) TT.bd_measure_of
      · exact TT.src_mk KX G (by k_is) (by k_is) (by k_is) (by k_is) TT.bd_first_bad
      · exact TT.src_mk KX G (by k_is) (by k_is) (by k_is) (by k_is) TT.bd_check_signs
      · exact TT.src_mk KX G (by k_is) (by k_is) (by k_is) (by k_is) TT.bd_lengths_of
      · exact TT.src_mk KX G (by k_is) (by k_is) (by k_is) (by k_is) TT.bd_top_of
      · exact TT.src_mk KX G (by k_is) (by k_is) (by k_is) (by k_is) TT.bd_parts_of
      · exact TT.src_mk KX G (by k_is) (by k_is) (by k_is) (by k_is) TT.bd_block_events
      · exact TT.src_mk KX G (by k_is) (by k_is) (by k_is) (by k_is) TT.bd_asked_of
      · exact TT.src_mk KX G (by k_is) (by k_is) (by k_is) (by k_is) TT.bd_rising
      · exact TT.src_mk KX G (by k_is) (by k_is) (by k_is) (by k_is) TT.bd_need_score
      · exact TT.src_mk KX G (by k_is) (by k_is) (by k_is) (by k_is) TT.bd_voice_count
      · exact TT.src_mk KX G (by k_is) (by k_is) (by k_is) (by k_is) TT.bd_need_voice
      · exact TT.src_mk KX G (by k_is) (by k_is) (by k_is) (by k_is) TT.bd_need_both
      · exact TT.src_mk KX G (by k_is) (by k_is) (by k_is) (by k_is) TT.bd_block_row
      · exact TT.src_mk KX G (by k_is) (by k_is) (by k_is) (by k_is) TT.bd_put_copies
      · exact TT.src_mk KX G (by k_is) (by k_is) (by k_is) (by k_is) TT.bd_laid
      · exact TT.src_mk KX G (by k_is) (by k_is) (by k_is) (by k_is) TT.bd_strikes_once
      · exact TT.src_mk KX G (by k_is) (by k_is) (by k_is) (by k_is) TT.bd_is_prime
      · exact TT.src_mk KX G (by k_is) (by k_is) (by k_is) (by k_is) TT.bd_primes_of
      · exact TT.src_mk KX G (by k_is) (by k_is) (by k_is) (by k_is) TT.bd_times_in
      · exact TT.src_mk KX G (by k_is) (by k_is) (by k_is) (by k_is) TT.bd_power_of
      · exact TT.src_mk KX G (by k_is) (by k_is) (by k_is) (by k_is) TT.bd_rest_counts
      · exact TT.src_mk KX G (by k_is) (by k_is) (by k_is) (by k_is) TT.bd_is_fair_floor
      · exact TT.src_mk KX G (by k_is) (by k_is) (by k_is) (by k_is) TT.bd_floors_of
      · exact TT.src_mk KX G (by k_is) (by k_is) (by k_is) (by k_is) TT.bd_is_pair_fair
      · exact TT.src_mk KX G (by k_is) (by k_is) (by k_is) (by k_is) TT.bd_unfair_pair
      · exact TT.src_mk KX G (by k_is) (by k_is) (by k_is) (by k_is) TT.bd_need_few_primes
      · exact TT.src_mk KX G (by k_is) (by k_is) (by k_is) (by k_is) TT.bd_entries_by_floors
      · exact TT.src_mk KX G (by k_is) (by k_is) (by k_is) (by k_is) TT.bd_reason_against
      · exact TT.src_mk KX G (by k_is) (by k_is) (by k_is) (by k_is) TT.bd_entries_of
      · exact TT.src_mk KX G (by k_is) (by k_is) (by k_is) (by k_is) TT.bd__law_begun
      · exact TT.src_mk KX G (by k_is) (by k_is) (by k_is) (by k_is) TT.bd__law_next
      · exact TT.src_mk KX G (by k_is) (by k_is) (by k_is) (by k_is) TT.bd__law_entered
      · exact TT.src_mk KX G (by k_is) (by k_is) (by k_is) (by k_is) TT.bd_law
#print axioms PySem.Challenge.cw_tacthouse_k17_laid_by_hand_holds
