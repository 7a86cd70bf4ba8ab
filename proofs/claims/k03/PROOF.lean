import PyProof.Rows.All
import Wide.All
import OpenK.AllK
import Wide.FinOn
import HandS.ForMost
import HandS.Exc
import HandS.WordsExc
import HandS.Flow
import HandS.Lambda
import HandS.ExcInit
import HandS.ExcIs
import HandS.ExcField
import KE.KExcIs
import HandS.Wide
import HandS.WideBits
import HandS.TupAny
import HandS.TupMul
import HandS.Deep
import HandS.Gcd
import HandS.Codes
import HandS.IsInst
import HandS.StrMore
import HandS.RaiseMore
import HandS.OwnEq
import HandS.Conv
import HandS.Small
import HandS.Defaults
import HandS.Zip
import HandS.Iter
import HandS.TryOnly
import HandS.ExcValue
import KE.GoesEnumKw
import PyProof.Rows.CallKwBuiltin
import HandS.HeadHook4
import HandS.HeadWalk
import HandS.HeadEnd
import HandS.Head0
import HandS.Head1
import HandS.Head2
import HandS.Head3
import HandS.Text
import PySem.Challenge.RW_cordsatrest_k03_bounds_of_nets_by_hand
set_option Elab.async false
set_option linter.all false
set_option maxRecDepth 100000
set_option maxHeartbeats 0
section
/-! PF: readings by functions. A value of the program is a D (tuples by value, what can change by its place in a store); an expression's reading is a function of slots and store. -/
namespace PF
open PySem PySem.Spec PyProof.Rows L2
abbrev Frag := PySem.W.Frag

inductive D where
  | non | bl (b : Bool) | int (i : Int) | str (x : Str) | tup (ds : List D) | cell (n : Nat) | ref (a : Addr) | ty (n : String) | fl (ds : List D) | exn (C : Addr) (v : D)
inductive Cell where
  | lst (ds : List D) | dct (kvs : List (Key × D)) | ins (C : Addr) (fs : List (Str × D)) | tab (P : Addr) (q : Str)
abbrev Store := List Cell
abbrev Env := List (Option D)

/-- a list that stands as it is: the script, a list of the module's -/
def FzL (K : Frag) (H : Hp) (a : Addr) (xs : List V) : Prop := (∃ o, H a = some (.frz o (.lst xs))) ∨
  ∃ (o : Obj) (its : Array Value) (n : Nat), K.lookup a = some o ∧ o.cls = .type "list" ∧ o.dict = none ∧ o.data = .seq its n ∧ its.size ≤ sizeLine ∧ Vals xs its.toList
theorem FzL.seq {K : Frag} {H : Hp} {a : Addr} {xs : List V} (h : FzL K H a xs) : SqL K H a xs := by
  rcases h with ⟨o, h⟩ | h
  · exact .inl (.inr ⟨o, h⟩)
  · exact .inr h
def valueN : Str := "value"
/-- a caught error, its own dict at d -/
def ExH (C d a : Addr) : HO := .ext fun h => ∃ (oe : Obj) (vs : Array Value), h.get? a = some oe ∧ Zc (.ref C) (some d) oe ∧ oe.data = .fields vs
mutual
inductive RV (K : Frag) (ρ : List Addr) (H : Hp) : V → D → Prop
  | non : RV K ρ H .non .non
  | bl (b : Bool) : RV K ρ H (.bl b) (.bl b)
  | int (i : Int) : RV K ρ H (.int i) (.int i)
  | str (x : Str) : RV K ρ H (.str x) (.str x)
  | ref (a : Addr) : RV K ρ H (.ref a) (.ref a)
  | ty (n : String) : RV K ρ H (.ty n) (.ty n)
  | cell {n : Nat} {a : Addr} : ρ[n]? = some a → RV K ρ H (.ref a) (.cell n)
  | tup {a : Addr} {xs : List V} {ds : List D} : SqT K H a xs → RVs K ρ H xs ds → RV K ρ H (.ref a) (.tup ds)
  | fl {a : Addr} {xs : List V} {ds : List D} : FzL K H a xs → RVs K ρ H xs ds → RV K ρ H (.ref a) (.fl ds)
  | exn {a C d : Addr} {u : V} {v : D} : H a = some (ExH C d a) → H d = some (.xd [(valueN, u)]) → RV K ρ H u v → RV K ρ H (.ref a) (.exn C v)
inductive RVs (K : Frag) (ρ : List Addr) (H : Hp) : List V → List D → Prop
  | nil : RVs K ρ H [] []
  | cons {v : V} {vs : List V} {d : D} {ds : List D} : RV K ρ H v d → RVs K ρ H vs ds → RVs K ρ H (v :: vs) (d :: ds)
end

/-- what never changes once it stands -/
def Fix : HO → Bool
  | .tup _ => true
  | .frz _ _ => true
  | .ext _ => true
  | .xd _ => true
  | _ => false
def Keep (H H' : Hp) : Prop := ∀ a o, Fix o = true → H a = some o → H' a = some o
theorem Keep.refl (H : Hp) : Keep H H := fun _ _ _ h => h
theorem Keep.trans {H H1 H2 : Hp} (a : Keep H H1) (b : Keep H1 H2) : Keep H H2 := fun x o f h => b x o f (a x o f h)
theorem Keep.new {H : Hp} {p : Addr} {o : HO} (h : H p = none) : Keep H (upd H p o) := fun a u _ e => by rw [upd_ne (ne_of_none e h)]; exact e
theorem Keep.set {H : Hp} {p : Addr} {o u : HO} (h : H p = some u) (f : Fix u = false) : Keep H (upd H p o) := fun a w fw e => by
  rw [upd_ne (fun z => by rw [z, h] at e; cases e; rw [f] at fw; cases fw)]; exact e
theorem SqT.keep {K : Frag} {H H' : Hp} {a : Addr} {xs : List V} (k : Keep H H') (h : SqT K H a xs) : SqT K H' a xs := by
  rcases h with (h | ⟨o, h⟩) | h
  · exact .inl (.inl (k _ _ rfl h))
  · exact .inl (.inr ⟨o, k _ _ rfl h⟩)
  · exact .inr h
theorem FzL.keep {K : Frag} {H H' : Hp} {a : Addr} {xs : List V} (k : Keep H H') (h : FzL K H a xs) : FzL K H' a xs := by
  rcases h with ⟨o, h⟩ | h
  · exact .inl ⟨o, k _ _ rfl h⟩
  · exact .inr h
def Le (ρ ρ' : List Addr) : Prop := ∀ (n : Nat) (a : Addr), ρ[n]? = some a → ρ'[n]? = some a
theorem Le.refl (ρ : List Addr) : Le ρ ρ := fun _ _ h => h
theorem Le.trans {ρ ρ1 ρ2 : List Addr} (a : Le ρ ρ1) (b : Le ρ1 ρ2) : Le ρ ρ2 := fun n x h => b n x (a n x h)
theorem Le.snoc (ρ : List Addr) (p : Addr) : Le ρ (ρ ++ [p]) := fun n a h => by
  rw [List.getElem?_append_left (List.getElem?_eq_some_iff.mp h).1]; exact h
section
variable {K : Frag} {ρ ρ' : List Addr} {H H' : Hp}
mutual
theorem RV.mono (k : Keep H H') (l : Le ρ ρ') : ∀ {v : V} {d : D}, RV K ρ H v d → RV K ρ' H' v d
  | _, _, .non => .non
  | _, _, .bl b => .bl b
  | _, _, .int i => .int i
  | _, _, .str x => .str x
  | _, _, .ref a => .ref a
  | _, _, .ty n => .ty n
  | _, _, .cell h => .cell (l _ _ h)
  | _, _, .tup h r => .tup (SqT.keep k h) (RVs.mono k l r)
  | _, _, .fl h r => .fl (FzL.keep k h) (RVs.mono k l r)
  | _, _, .exn h g r => .exn (k _ _ rfl h) (k _ _ rfl g) (RV.mono k l r)
theorem RVs.mono (k : Keep H H') (l : Le ρ ρ') : ∀ {vs : List V} {ds : List D}, RVs K ρ H vs ds → RVs K ρ' H' vs ds
  | _, _, .nil => .nil
  | _, _, .cons r t => .cons (RV.mono k l r) (RVs.mono k l t)
end
theorem RVs.length : ∀ {vs : List V} {ds : List D}, RVs K ρ H vs ds → vs.length = ds.length
  | _, _, .nil => rfl
  | _, _, .cons _ t => by rw [List.length_cons, List.length_cons, RVs.length t]
theorem RVs.get : ∀ {vs : List V} {ds : List D} {i : Nat} {d : D}, RVs K ρ H vs ds → ds[i]? = some d → ∃ v, vs[i]? = some v ∧ RV K ρ H v d
  | _, _, _, _, .nil, e => by simp at e
  | _, _, 0, _, .cons r _, e => by simp at e; subst e; exact ⟨_, rfl, r⟩
  | _, _, i + 1, d, .cons _ t, e => by
    obtain ⟨v, a, b⟩ := RVs.get (i := i) (d := d) t (by simpa using e)
    exact ⟨v, by simpa using a, b⟩
theorem RVs.append : ∀ {vs ws : List V} {ds es : List D}, RVs K ρ H vs ds → RVs K ρ H ws es → RVs K ρ H (vs ++ ws) (ds ++ es)
  | _, _, _, _, .nil, s => s
  | _, _, _, _, .cons r t, s => .cons r (RVs.append t s)
theorem RVs.snoc {vs : List V} {ds : List D} {v : V} {d : D} (r : RVs K ρ H vs ds) (q : RV K ρ H v d) : RVs K ρ H (vs ++ [v]) (ds ++ [d]) := RVs.append r (.cons q .nil)
theorem RVs.take : ∀ {vs : List V} {ds : List D} (n : Nat), RVs K ρ H vs ds → RVs K ρ H (vs.take n) (ds.take n)
  | _, _, 0, _ => .nil
  | _, _, _ + 1, .nil => .nil
  | _, _, n + 1, .cons r t => .cons r (RVs.take n t)
theorem RVs.drop : ∀ {vs : List V} {ds : List D} (n : Nat), RVs K ρ H vs ds → RVs K ρ H (vs.drop n) (ds.drop n)
  | _, _, 0, r => r
  | _, _, _ + 1, .nil => .nil
  | _, _, n + 1, .cons _ t => RVs.drop n t
theorem RVs.set {v : V} {d : D} (r : RV K ρ H v d) : ∀ {vs : List V} {ds : List D} (i : Nat), RVs K ρ H vs ds → RVs K ρ H (vs.set i v) (ds.set i d)
  | _, _, _, .nil => .nil
  | _, _, 0, .cons _ t => .cons r t
  | _, _, i + 1, .cons q t => .cons q (RVs.set r i t)
theorem RVs.erase : ∀ {vs : List V} {ds : List D} (i : Nat), RVs K ρ H vs ds → RVs K ρ H (vs.eraseIdx i) (ds.eraseIdx i)
  | _, _, _, .nil => .nil
  | _, _, 0, .cons _ t => t
  | _, _, i + 1, .cons q t => .cons q (RVs.erase i t)
theorem RVs.reverse : ∀ {vs : List V} {ds : List D}, RVs K ρ H vs ds → RVs K ρ H vs.reverse ds.reverse
  | _, _, .nil => .nil
  | _, _, .cons r t => by rw [List.reverse_cons, List.reverse_cons]; exact RVs.snoc (RVs.reverse t) r
/-- named values -/
def AL {κ : Type} (K : Frag) (ρ : List Addr) (H : Hp) : List (κ × V) → List (κ × D) → Prop := Paired fun (p : κ × V) (q : κ × D) => p.1 = q.1 ∧ RV K ρ H p.2 q.2
theorem AL.mono {κ : Type} (k : Keep H H') (l : Le ρ ρ') : ∀ {ps : List (κ × V)} {qs : List (κ × D)}, AL K ρ H ps qs → AL K ρ' H' ps qs
  | _, _, .nil => .nil
  | _, _, .cons r t => .cons ⟨r.1, RV.mono k l r.2⟩ (AL.mono k l t)
def CellOk (K : Frag) (ρ : List Addr) (H : Hp) (a : Addr) : Cell → Prop
  | .lst ds => ∃ xs, H a = some (.lst xs) ∧ RVs K ρ H xs ds
  | .dct kvs => ∃ ks, H a = some (.dK ks) ∧ AL K ρ H ks kvs
  | .ins C fs => ∃ dx gs, H a = some (.ins C dx gs) ∧ AL K ρ H gs fs
  | .tab P q => a = P ∧ LamX.TabS H a q
theorem CellOk.some {c : Cell} {a : Addr} (h : CellOk K ρ H a c) : ∃ o, H a = some o ∧ Fix o = false := by
  cases c with
  | lst ds => obtain ⟨xs, e, _⟩ := h; exact ⟨_, e, rfl⟩
  | dct kvs => obtain ⟨ks, e, _⟩ := h; exact ⟨_, e, rfl⟩
  | ins C fs => obtain ⟨dx, gs, e, _⟩ := h; exact ⟨_, e, rfl⟩
  | tab P q => obtain ⟨_, ps, e, _⟩ := h; exact ⟨_, e, rfl⟩
theorem TabS.keep {P : Addr} {q : Str} (k : Keep H H') (e : H' P = H P) (h : LamX.TabS H P q) : LamX.TabS H' P q := by
  obtain ⟨ps, h1, h2, h3⟩ := h
  exact ⟨ps, e.trans h1, h2, fun pos cv hc => let ⟨c, e1, e2⟩ := h3 pos cv hc; ⟨c, e1, k _ _ rfl e2⟩⟩
theorem CellOk.mono {c : Cell} {a : Addr} (k : Keep H H') (l : Le ρ ρ') (e : H' a = H a) (h : CellOk K ρ H a c) : CellOk K ρ' H' a c := by
  cases c with
  | lst ds => obtain ⟨xs, h1, r⟩ := h; exact ⟨xs, by rw [e]; exact h1, RVs.mono k l r⟩
  | dct kvs => obtain ⟨ks, h1, r⟩ := h; exact ⟨ks, by rw [e]; exact h1, AL.mono k l r⟩
  | ins C fs => obtain ⟨dx, gs, h1, r⟩ := h; exact ⟨dx, gs, by rw [e]; exact h1, AL.mono k l r⟩
  | tab P q => obtain ⟨h1, h2⟩ := h; exact ⟨h1, TabS.keep k e h2⟩
structure Rel (K : Frag) (ρ : List Addr) (st : Store) (H : Hp) : Prop where
  len : ρ.length = st.length
  nd : ∀ (i j : Nat) (a : Addr), ρ[i]? = some a → ρ[j]? = some a → i = j
  at_ : ∀ (i : Nat) (c : Cell) (a : Addr), st[i]? = some c → ρ[i]? = some a → CellOk K ρ H a c
theorem Rel.get {st : Store} {n : Nat} {c : Cell} (r : Rel K ρ st H) (h : st[n]? = some c) : ∃ a, ρ[n]? = some a ∧ CellOk K ρ H a c := by
  have hl : n < ρ.length := by rw [r.len]; exact (List.getElem?_eq_some_iff.mp h).1
  exact ⟨ρ[n], by simp [hl], r.at_ n c _ h (by simp [hl])⟩
theorem Rel.have {st : Store} {n : Nat} {a : Addr} (r : Rel K ρ st H) (h : ρ[n]? = some a) : ∃ c, st[n]? = some c ∧ CellOk K ρ H a c := by
  have hl : n < st.length := by rw [← r.len]; exact (List.getElem?_eq_some_iff.mp h).1
  exact ⟨st[n], by simp [hl], r.at_ n _ a (by simp [hl]) h⟩
theorem Rel.fresh {st : Store} {n : Nat} {a p : Addr} (r : Rel K ρ st H) (h : ρ[n]? = some a) (hp : H p = none) : a ≠ p := by
  obtain ⟨c, _, q⟩ := r.have h
  obtain ⟨o, e, _⟩ := q.some
  exact ne_of_none e hp
/-- a new cell -/
theorem Rel.new {st : Store} {c : Cell} {p : Addr} {o : HO} (r : Rel K ρ st H) (hp : H p = none) (h : CellOk K (ρ ++ [p]) (upd H p o) p c) : Rel K (ρ ++ [p]) (st ++ [c]) (upd H p o) where
  len := by simp [r.len]
  nd := fun i j a hi hj => by
    by_cases h1 : i < ρ.length
    · rw [List.getElem?_append_left h1] at hi
      by_cases h2 : j < ρ.length
      · rw [List.getElem?_append_left h2] at hj
        exact r.nd i j a hi hj
      · rw [List.getElem?_append_right (Nat.le_of_not_lt h2)] at hj
        have e := List.mem_of_getElem? hj
        simp at e
        exact absurd e (r.fresh hi hp)
    · rw [List.getElem?_append_right (Nat.le_of_not_lt h1)] at hi
      have e := List.mem_of_getElem? hi
      simp at e
      by_cases h2 : j < ρ.length
      · rw [List.getElem?_append_left h2] at hj
        exact absurd e (r.fresh hj hp)
      · have l1 := (List.getElem?_eq_some_iff.mp hi).1
        rw [List.getElem?_append_right (Nat.le_of_not_lt h2)] at hj
        have l2 := (List.getElem?_eq_some_iff.mp hj).1
        simp at l1 l2
        omega
  at_ := fun i c' a hi ha => by
    by_cases h1 : i < st.length
    · rw [List.getElem?_append_left h1] at hi
      rw [List.getElem?_append_left (by rw [r.len]; exact h1)] at ha
      exact (r.at_ i c' a hi ha).mono (Keep.new hp) (Le.snoc ρ p) (upd_ne (r.fresh ha hp))
    · have h2 : ¬ i < ρ.length := by rw [r.len]; exact h1
      rw [List.getElem?_append_right (Nat.le_of_not_lt h1)] at hi
      rw [List.getElem?_append_right (Nat.le_of_not_lt h2)] at ha
      have e1 := List.mem_of_getElem? hi
      have e2 := List.mem_of_getElem? ha
      simp at e1 e2
      subst e1 e2
      exact h
/-- something new that is no cell -/
theorem Rel.other {st : Store} {p : Addr} {o : HO} (r : Rel K ρ st H) (hp : H p = none) : Rel K ρ st (upd H p o) where
  len := r.len
  nd := r.nd
  at_ := fun i c a hi ha => (r.at_ i c a hi ha).mono (Keep.new hp) (Le.refl ρ) (upd_ne (r.fresh ha hp))
/-- a cell changed -/
theorem Rel.set {st : Store} {n : Nat} {c : Cell} {a : Addr} {o u : HO} (r : Rel K ρ st H) (ha : ρ[n]? = some a) (hu : H a = some u) (fu : Fix u = false) (h : CellOk K ρ (upd H a o) a c) : Rel K ρ (st.set n c) (upd H a o) where
  len := by simp [r.len]
  nd := r.nd
  at_ := fun i c' b hi hb => by
    by_cases e : n = i
    · subst e
      rw [ha] at hb; cases hb
      have hl : n < st.length := by rw [← r.len]; exact (List.getElem?_eq_some_iff.mp ha).1
      rw [List.getElem?_set_self hl] at hi
      cases hi
      exact h
    · rw [List.getElem?_set_ne e] at hi
      have ne : b ≠ a := fun z => e (r.nd n i a ha (z ▸ hb))
      exact (r.at_ i c' b hi hb).mono (Keep.set hu fu) (Le.refl ρ) (upd_ne ne)
def EnvR (K : Frag) (ρ : List Addr) (H : Hp) (σ : L2.St) (env : Env) : Prop :=
  σ.length = env.length ∧ ∀ (i : Nat) (d : D), env[i]? = some (some d) → ∃ v, σ[i]? = some (some v) ∧ RV K ρ H v d
theorem EnvR.mono {σ : L2.St} {env : Env} (k : Keep H H') (l : Le ρ ρ') (r : EnvR K ρ H σ env) : EnvR K ρ' H' σ env :=
  ⟨r.1, fun i d e => let ⟨v, a, b⟩ := r.2 i d e; ⟨v, a, b.mono k l⟩⟩
theorem EnvR.set {σ : L2.St} {env : Env} {i : Nat} {v : V} {d : D} (r : EnvR K ρ H σ env) (q : RV K ρ H v d) : EnvR K ρ H (σ.set i (some v)) (env.set i (some d)) := by
  refine ⟨by simp [r.1], fun j e h => ?_⟩
  by_cases hij : i = j
  · subst hij
    have hl : i < env.length := by have := (List.getElem?_eq_some_iff.mp h).1; simpa using this
    rw [List.getElem?_set_self hl] at h
    cases h
    exact ⟨v, by rw [List.getElem?_set_self (by rw [r.1]; exact hl)], q⟩
  · rw [List.getElem?_set_ne hij] at h
    rw [List.getElem?_set_ne hij]
    exact r.2 j e h
end

/-- an outcome: a value, or an error of the class at C that keeps v -/
inductive Rs (α : Type) where
  | ok (a : α) (st : Store)
  | err (C : Addr) (v : D) (st : Store)
def bindR {α β : Type} (r : Option (Rs α)) (g : α → Store → Option (Rs β)) : Option (Rs β) :=
  match r with
  | none => none
  | some (.ok a st) => g a st
  | some (.err C v st) => some (.err C v st)
@[simp] theorem bindR_ok {α β : Type} (a : α) (st : Store) (g : α → Store → Option (Rs β)) : bindR (some (.ok a st)) g = g a st := rfl
@[simp] theorem bindR_err {α β : Type} (C : Addr) (v : D) (st : Store) (g : α → Store → Option (Rs β)) : bindR (some (.err C v st)) g = some (.err C v st) := rfl
@[simp] theorem bindR_none {α β : Type} (g : α → Store → Option (Rs β)) : bindR none g = none := rfl
def Post {α : Type} (K : Frag) (H : Hp) (ρ : List Addr) (r : Option (Rs α)) (Q : α → Store → List Addr → Hp → Prop) (E : XK) : Prop :=
  match r with
  | none => False
  | some (.ok d st') => ∀ H' ρ', Keep H H' → Le ρ ρ' → Rel K ρ' st' H' → Q d st' ρ' H'
  | some (.err C x st') => ∀ H' ρ' v dd, Keep H H' → Le ρ ρ' → Rel K ρ' st' H' → RV K ρ' H' v x → H' dd = some (.xd [(valueN, v)]) → E (.ref C) (some dd) H'
section
variable {α β : Type} {K : Frag} {ρ ρ' : List Addr} {H H' : Hp} {E : XK}
theorem Post.mono {r : Option (Rs α)} {Q : α → Store → List Addr → Hp → Prop} (k : Keep H H') (l : Le ρ ρ') (p : Post K H ρ r Q E) : Post K H' ρ' r Q E := by
  match r, p with
  | some (.ok d st'), p => exact fun H2 ρ2 k2 l2 r2 => p H2 ρ2 (k.trans k2) (l.trans l2) r2
  | some (.err C x st'), p => exact fun H2 ρ2 v dd k2 l2 r2 => p H2 ρ2 v dd (k.trans k2) (l.trans l2) r2
theorem Post.imp {r : Option (Rs α)} {Q Q' : α → Store → List Addr → Hp → Prop} (p : Post K H ρ r Q E) (h : ∀ d st' ρ' H', Keep H H' → Le ρ ρ' → Rel K ρ' st' H' → Q d st' ρ' H' → Q' d st' ρ' H') : Post K H ρ r Q' E := by
  match r, p with
  | some (.ok d st'), p => exact fun H2 ρ2 k2 l2 r2 => h _ _ _ _ k2 l2 r2 (p H2 ρ2 k2 l2 r2)
  | some (.err C x st'), p => exact p
theorem Post.bind {r : Option (Rs α)} {g : α → Store → Option (Rs β)} {Q : β → Store → List Addr → Hp → Prop} (p : Post K H ρ (bindR r g) Q E) : Post K H ρ r (fun d st1 ρ1 H1 => Post K H1 ρ1 (g d st1) Q E) E := by
  match r, p with
  | some (.ok d st'), p => exact fun H2 ρ2 k2 l2 r2 => Post.mono k2 l2 p
  | some (.err C x st'), p => exact p
/-- bind and go on -/
theorem Post.seq {r : Option (Rs α)} {g : α → Store → Option (Rs β)} {Q : β → Store → List Addr → Hp → Prop} {Q' : α → Store → List Addr → Hp → Prop} (p : Post K H ρ (bindR r g) Q E)
    (h : ∀ d st' ρ' H', Keep H H' → Le ρ ρ' → Rel K ρ' st' H' → Post K H' ρ' (g d st') Q E → Q' d st' ρ' H') : Post K H ρ r Q' E := Post.imp (Post.bind p) h
end

/-! ### readings by functions -/
abbrev EF := Env → Store → Option (Rs D)
abbrev AF := Env → Store → Option (Rs (List D))
abbrev BF := Env → Store → Option (Rs Bool)
inductive Fl where
  | nx (env : Env) | rt (d : D) | bk (env : Env) | ct (env : Env)
abbrev SF := Env → Store → Option (Rs Fl)
abbrev GF := D → Env → Store → Option (Rs Env)

def PQ (K : Frag) (Q : VK) : D → Store → List Addr → Hp → Prop := fun d _ ρ' H' => ∀ v, RV K ρ' H' v d → Q v H'
def tF (K : Frag) (E : XK) (f : EF) : TE := fun σ H Q => ∃ ρ env st, Rel K ρ st H ∧ EnvR K ρ H σ env ∧ Post K H ρ (f env st) (PQ K Q) E
def tFA (K : Frag) (E : XK) (f : AF) : TA := fun σ H Q => ∃ ρ env st, Rel K ρ st H ∧ EnvR K ρ H σ env ∧ Post K H ρ (f env st) (fun ds _ ρ' H' => ∀ vs, RVs K ρ' H' vs ds → Q vs H') E
def tFT (K : Frag) (E : XK) (f : BF) : TT := fun σ H Q => ∃ ρ env st, Rel K ρ st H ∧ EnvR K ρ H σ env ∧ Post K H ρ (f env st) (fun b _ _ H' => Q b H') E
def SQ (K : Frag) (D : Ends) : Fl → Store → List Addr → Hp → Prop := fun fl _ ρ' H' => match fl with
  | .nx env' => ∀ σ', EnvR K ρ' H' σ' env' → D.nx σ' H'
  | .rt d => ∀ v, RV K ρ' H' v d → D.rt v H'
  | .bk env' => ∀ σ', EnvR K ρ' H' σ' env' → D.bk σ' H'
  | .ct env' => ∀ σ', EnvR K ρ' H' σ' env' → D.ct σ' H'
def tFS (K : Frag) (E : XK) (f : SF) : TS := fun D σ H => ∃ ρ env st, Rel K ρ st H ∧ EnvR K ρ H σ env ∧ Post K H ρ (f env st) (SQ K D) E
/-- σ' is σ but at these slots -/
def Agr (ix : List Nat) (σ σ' : L2.St) : Prop := σ'.length = σ.length ∧ ∀ j, j ∉ ix → σ'[j]? = σ[j]?
theorem Agr.refl (ix : List Nat) (σ : L2.St) : Agr ix σ σ := ⟨rfl, fun _ _ => rfl⟩
theorem Agr.trans {ix : List Nat} {σ σ1 σ2 : L2.St} (a : Agr ix σ σ1) (b : Agr ix σ1 σ2) : Agr ix σ σ2 := ⟨b.1.trans a.1, fun j h => (b.2 j h).trans (a.2 j h)⟩
theorem Agr.set {ix : List Nat} {σ : L2.St} {i : Nat} {v : Option V} (h : i ∈ ix) : Agr ix σ (σ.set i v) := ⟨by simp, fun j hj => by
  have ne : i ≠ j := fun e => by subst e; exact hj h
  rw [List.getElem?_set_ne ne]⟩
theorem wipe_at (σ : L2.St) : ∀ (vs : List Nat) (j : Nat), (wipe σ vs)[j]? = if j ∈ vs ∧ j < σ.length then some none else σ[j]?
  | [], j => by simp [wipe]
  | v :: vs, j => by
    unfold wipe
    by_cases h : v = j
    · subst h
      by_cases hl : v < σ.length
      · rw [List.getElem?_set_self (by rw [wipe_length]; exact hl), if_pos ⟨List.mem_cons_self, hl⟩]
      · rw [if_neg (fun z => hl z.2), List.getElem?_eq_none (by simp [wipe_length]; omega), List.getElem?_eq_none (by omega)]
    · rw [List.getElem?_set_ne h, wipe_at σ vs j]
      by_cases hm : j ∈ vs
      · by_cases hl : j < σ.length
        · rw [if_pos ⟨hm, hl⟩, if_pos ⟨List.mem_cons_of_mem _ hm, hl⟩]
        · rw [if_neg (fun z => hl z.2), if_neg (fun z => hl z.2)]
      · have nm : ¬ (j ∈ v :: vs ∧ j < σ.length) := fun z => by
          rcases List.mem_cons.mp z.1 with e | e
          · exact h e.symm
          · exact hm e
        rw [if_neg (fun z => hm z.1), if_neg nm]
theorem Agr.wipe {ix vs : List Nat} {σ σ' : L2.St} (a : Agr ix σ σ') (h : ∀ i ∈ ix, i ∈ vs) : L2.wipe σ' vs = L2.wipe σ vs := by
  apply List.ext_getElem?
  intro j
  rw [wipe_at, wipe_at, a.1]
  by_cases hj : j ∈ vs
  · by_cases hl : j < σ.length
    · rw [if_pos ⟨hj, hl⟩, if_pos ⟨hj, hl⟩]
    · rw [if_neg (fun z => hl z.2), if_neg (fun z => hl z.2), List.getElem?_eq_none (by rw [a.1]; omega), List.getElem?_eq_none (by omega)]
  · rw [if_neg (fun z => hj z.1), if_neg (fun z => hj z.1), a.2 j (fun z => hj (h j z))]
theorem wipe_wipe (σ : L2.St) (vs : List Nat) : wipe (wipe σ vs) vs = wipe σ vs := by
  apply List.ext_getElem?
  intro j
  rw [wipe_at, wipe_at, wipe_length]
  by_cases h : j ∈ vs ∧ j < σ.length
  · rw [if_pos h, if_pos h]
  · rw [if_neg h, if_neg h]
def wipeE (env : Env) : List Nat → Env
  | [] => env
  | v :: vs => (wipeE env vs).set v none
theorem wipeE_length (env : Env) : ∀ vs : List Nat, (wipeE env vs).length = env.length
  | [] => rfl
  | v :: vs => by unfold wipeE; rw [List.length_set, wipeE_length env vs]
theorem EnvR.wipe {K : Frag} {ρ : List Addr} {H : Hp} {σ : L2.St} {env : Env} (r : EnvR K ρ H σ env) : ∀ vs : List Nat, EnvR K ρ H (L2.wipe σ vs) (wipeE env vs)
  | [] => r
  | v :: vs => by
    have ih := EnvR.wipe r vs
    unfold L2.wipe wipeE
    refine ⟨by simp [ih.1], fun j d h => ?_⟩
    by_cases e : v = j
    · subst e
      have hl : v < (wipeE env vs).length := by have := (List.getElem?_eq_some_iff.mp h).1; simpa using this
      rw [List.getElem?_set_self hl] at h
      cases h
    · rw [List.getElem?_set_ne e] at h
      rw [List.getElem?_set_ne e]
      exact ih.2 j d h
/-- a target's reading -/
def tFG (K : Frag) (E : XK) (ix : List Nat) (f : GF) : TG := fun v σ H Q => ∃ ρ env st d, Rel K ρ st H ∧ EnvR K ρ H σ env ∧ RV K ρ H v d ∧ Post K H ρ (f d env st) (fun env' _ ρ' H' => ∀ σ', EnvR K ρ' H' σ' env' → Agr ix σ σ' → Q σ' H') E

/-! ### weakening a judgement -/
section
variable {X : Cx}
theorem PE.of {e : Expr} {t t' : TE} (h : PE X e t) (w : ∀ σ H Q, t' σ H Q → t σ H Q) : PE X e t' := ⟨fun pins s σ H Q I q => h.run pins s σ H Q I (w σ H Q q)⟩
theorem PT.of {e : Expr} {t t' : TT} (h : PT X e t) (w : ∀ σ H Q, t' σ H Q → t σ H Q) : PT X e t' := ⟨fun pins s σ H Q I q => h.run pins s σ H Q I (w σ H Q q)⟩
theorem PW.of {e : Expr} {t t' : TT} (h : PW X e t) (w : ∀ σ H Q, t' σ H Q → t σ H Q) : PW X e t' := ⟨fun wh pins s σ H Q I q => h.run wh pins s σ H Q I (w σ H Q q)⟩
theorem PA.of {es : List Expr} {t t' : TA} (h : PA X es t) (w : ∀ σ H Q, t' σ H Q → t σ H Q) : PA X es t' := ⟨fun pos pins s σ H Q I q => h.run pos pins s σ H Q I (w σ H Q q)⟩
theorem PS.of {st : Stmt} {t t' : TS} (h : PS X st t) (w : ∀ D σ H, t' D σ H → t D σ H) : PS X st t' := ⟨fun pins s σ H D I q => h.run pins s σ H D I (w D σ H q)⟩
theorem PSs.of {st : List Stmt} {t t' : TS} (h : PSs X st t) (w : ∀ D σ H, t' D σ H → t D σ H) : PSs X st t' := ⟨fun pins s σ H D I q => h.run pins s σ H D I (w D σ H q)⟩
theorem PG.of {e : Expr} {t t' : TG} (h : PG X e t) (w : ∀ v σ H Q, t' v σ H Q → t v σ H Q) : PG X e t' := ⟨fun pins s σ H v u Q I r q => h.run pins s σ H v u Q I r (w v σ H Q q)⟩
end
abbrev PF (X : Cx) (E : XK) (e : Expr) (f : EF) : Prop := PE X e (tF X.K E f)
abbrev PFA (X : Cx) (E : XK) (es : List Expr) (f : AF) : Prop := PA X es (tFA X.K E f)
abbrev PFT (X : Cx) (E : XK) (e : Expr) (f : BF) : Prop := PT X e (tFT X.K E f)
abbrev PFW (X : Cx) (E : XK) (e : Expr) (f : BF) : Prop := PW X e (tFT X.K E f)
abbrev PFS (X : Cx) (E : XK) (s : Stmt) (f : SF) : Prop := PS X s (tFS X.K E f)
abbrev PFSs (X : Cx) (E : XK) (s : List Stmt) (f : SF) : Prop := PSs X s (tFS X.K E f)
abbrev PFG (X : Cx) (E : XK) (e : Expr) (ix : List Nat) (f : GF) : Prop := PG X e (tFG X.K E ix f)
end PF
end
section
namespace PF
open PySem PySem.Spec PyProof.Rows L2
def LIM : Nat := 1000000
theorem lim_size : LIM ≤ sizeLine := by rw [sizeLine_eq]; decide
theorem lim_lt : LIM < sizeLine := by rw [sizeLine_eq]; decide

section
variable {X : Cx} {E : XK} {pos : Pos}

/-! ### names, constants -/
def varF (i : Nat) : EF := fun env st => match env[i]? with
  | some (some d) => some (.ok d st)
  | _ => none
theorem pf_var (i : Nat) {x : Str} (hN : X.N[i]? = some x := by rfl) (hv : Vis X.env.scope x := by first | exact Or.inl rfl | exact Or.inr (Or.inl rfl) | exact Or.inr (Or.inr rfl)) (hd : (x == ("__debug__" : Str)) = false := by decide)
    (hcd : (x == ("__classdict__" : Str)) = false := by decide) : PF X E (.Name x pos) (varF i) := by
  refine PE.of (pe_var hN hv hd hcd) fun σ H Q h => ?_
  obtain ⟨ρ, env, st, rel, er, p⟩ := h
  unfold varF at p
  split at p
  · rename_i d e
    obtain ⟨v, hv, r⟩ := er.2 i d e
    exact ⟨v, hv, p H ρ (Keep.refl H) (Le.refl ρ) rel v r⟩
  · exact p.elim
def conF (d : D) : EF := fun _ st => some (.ok d st)
theorem pf_con {e : Expr} {v : V} {d : D} (h : PE X e (tC v)) (r : ∀ ρ H, RV X.K ρ H v d) : PF X E e (conF d) := by
  refine PE.of h fun σ H Q h => ?_
  obtain ⟨ρ, env, st, rel, er, p⟩ := h
  exact p H ρ (Keep.refl H) (Le.refl ρ) rel v (r ρ H)
theorem pf_int {i : Int} {j : Nat} : PF X E (.Constant (.int i) j pos) (conF (.int i)) := pf_con pe_int fun _ _ => .int i
theorem pf_bl {b : Bool} {j : Nat} : PF X E (.Constant (.bool b) j pos) (conF (.bl b)) := pf_con pe_bl fun _ _ => .bl b
theorem pf_non {j : Nat} : PF X E (.Constant .none j pos) (conF .non) := pf_con pe_non fun _ _ => .non
theorem pf_str {x : Str} {j : Nat} : PF X E (.Constant (.str x) j pos) (conF (.str x)) := pf_con pe_str fun _ _ => .str x
/-- a module's constant -/
structure GlC (K : Frag) (mg : Str → Option Value) (x : Str) (d : D) : Prop where
  ex : ∃ u v, mg x = some u ∧ RelV v u ∧ ∀ ρ H, RV K ρ H v d
theorem pf_glob {x : Str} {d : D} (c : GlC X.K X.mg x d) (hg : Gl X x := by rfl) (hd : (x == ("__debug__" : Str)) = false := by decide) : PF X E (.Name x pos) (conF d) := by
  obtain ⟨u, v, h1, h2, h3⟩ := c.ex
  exact pf_con (pe_glob hg h1 h2 hd) h3

/-! ### operators -/
abbrev OF := D → D → Store → Option (Rs D)
def OpS (K : Frag) (E : XK) (r : R2) (g : OF) : Prop := ∀ ρ st H v u d e Q, Rel K ρ st H → RV K ρ H v d → RV K ρ H u e → Post K H ρ (g d e st) (PQ K Q) E → r v u H Q
def binF (g : OF) (f1 f2 : EF) : EF := fun env st => bindR (f1 env st) fun d st1 => bindR (f2 env st1) fun e st2 => g d e st2
theorem bin_w {K : Frag} {E : XK} {r : R2} {g : OF} {f1 f2 : EF} (hs : OpS K E r g) : ∀ σ H Q, tF K E (binF g f1 f2) σ H Q → tOp r (tF K E f1) (tF K E f2) σ H Q := fun σ H Q h => by
  obtain ⟨ρ, env, st, rel, er, p⟩ := h
  exact ⟨ρ, env, st, rel, er, Post.seq p fun d st1 ρ1 H1 k1 l1 r1 p1 v rv => ⟨ρ1, env, st1, r1, er.mono k1 l1, Post.seq p1 fun e st2 ρ2 H2 k2 l2 r2 p2 u ru =>
    hs ρ2 st2 H2 v u d e Q r2 (rv.mono k2 l2) ru p2⟩⟩
theorem pf_op {op : Operator} {r : R2} {g : OF} {f1 f2 : EF} {a b : Expr} (ho : OpR X (binaryOp op) r) (hs : OpS X.K E r g) (ha : PF X E a f1) (hb : PF X E b f2) : PF X E (.BinOp a op b pos) (binF g f1 f2) := PE.of (pe_op ho ha hb) (bin_w hs)
theorem pf_cmp {op : CmpOp} {r : R2} {g : OF} {f1 f2 : EF} {a b : Expr} (ho : OpR X (compareOp op) r) (hs : OpS X.K E r g) (ha : PF X E a f1) (hb : PF X E b f2) (hm : behindInMarks op b = false) : PF X E (.Compare a [op] [b] pos) (binF g f1 f2) := PE.of (pe_cmpR ho ha hb hm) (bin_w hs)

/-- what is told at once -/
theorem Post.now {K : Frag} {E : XK} {H : Hp} {ρ : List Addr} {st : Store} {d : D} {v : V} {Q : VK} (p : Post K H ρ (some (.ok d st)) (PQ K Q) E) (rel : Rel K ρ st H) (r : RV K ρ H v d) : Q v H := p H ρ (Keep.refl H) (Le.refl ρ) rel v r
/-- a new tuple -/
theorem Post.tup {K : Frag} {E : XK} {H : Hp} {ρ : List Addr} {st : Store} {ds : List D} {xs : List V} {Q : VK} (p : Post K H ρ (some (.ok (.tup ds) st)) (PQ K Q) E) (rel : Rel K ρ st H) (r : RVs K ρ H xs ds) : ∀ q, H q = none → Q (.ref q) (upd H q (.tup xs)) := fun q hq =>
  p _ ρ (Keep.new hq) (Le.refl ρ) (rel.other hq) _ (.tup (SqT.of upd_same) (RVs.mono (Keep.new hq) (Le.refl ρ) r))
/-- a new list -/
theorem Post.lst {K : Frag} {E : XK} {H : Hp} {ρ : List Addr} {st : Store} {ds : List D} {xs : List V} {Q : VK} (p : Post K H ρ (some (.ok (.cell st.length) (st ++ [.lst ds]))) (PQ K Q) E) (rel : Rel K ρ st H) (r : RVs K ρ H xs ds) : ∀ q, H q = none → Q (.ref q) (upd H q (.lst xs)) := fun q hq =>
  p _ (ρ ++ [q]) (Keep.new hq) (Le.snoc ρ q) (rel.new hq ⟨xs, upd_same, RVs.mono (Keep.new hq) (Le.snoc ρ q) r⟩) _ (.cell (by rw [← rel.len]; simp))
theorem Post.dct {K : Frag} {E : XK} {H : Hp} {ρ : List Addr} {st : Store} {ds : List (Key × D)} {xs : List (Key × V)} {Q : VK} (p : Post K H ρ (some (.ok (.cell st.length) (st ++ [.dct ds]))) (PQ K Q) E) (rel : Rel K ρ st H) (r : AL K ρ H xs ds) : ∀ q, H q = none → Q (.ref q) (upd H q (.dK xs)) := fun q hq =>
  p _ (ρ ++ [q]) (Keep.new hq) (Le.snoc ρ q) (rel.new hq ⟨xs, upd_same, AL.mono (Keep.new hq) (Le.snoc ρ q) r⟩) _ (.cell (by rw [← rel.len]; simp))
/-- a list is there -/
theorem Rel.lst {K : Frag} {H : Hp} {ρ : List Addr} {st : Store} {n : Nat} {ds : List D} (rel : Rel K ρ st H) (h : st[n]? = some (.lst ds)) {v : V} (r : RV K ρ H v (.cell n)) : ∃ a xs, v = .ref a ∧ ρ[n]? = some a ∧ H a = some (.lst xs) ∧ RVs K ρ H xs ds := by
  cases r with
  | cell hn =>
    obtain ⟨xs, e, q⟩ := rel.at_ n _ _ h hn
    exact ⟨_, xs, rfl, hn, e, q⟩
theorem Rel.dct {K : Frag} {H : Hp} {ρ : List Addr} {st : Store} {n : Nat} {ds : List (Key × D)} (rel : Rel K ρ st H) (h : st[n]? = some (.dct ds)) {v : V} (r : RV K ρ H v (.cell n)) : ∃ a xs, v = .ref a ∧ ρ[n]? = some a ∧ H a = some (.dK xs) ∧ AL K ρ H xs ds := by
  cases r with
  | cell hn =>
    obtain ⟨xs, e, q⟩ := rel.at_ n _ _ h hn
    exact ⟨_, xs, rfl, hn, e, q⟩
theorem Rel.ins {K : Frag} {H : Hp} {ρ : List Addr} {st : Store} {n : Nat} {C : Addr} {fs : List (Str × D)} (rel : Rel K ρ st H) (h : st[n]? = some (.ins C fs)) {v : V} (r : RV K ρ H v (.cell n)) : ∃ a dx gs, v = .ref a ∧ ρ[n]? = some a ∧ H a = some (.ins C dx gs) ∧ AL K ρ H gs fs := by
  cases r with
  | cell hn =>
    obtain ⟨dx, gs, e, q⟩ := rel.at_ n _ _ h hn
    exact ⟨_, dx, gs, rfl, hn, e, q⟩

/-- + -/
def addD : OF := fun d e st => match d, e with
  | .int i, .int j => some (.ok (.int (i + j)) st)
  | .str x, .str y => if x.length + y.length ≤ LIM then some (.ok (.str (x ++ y)) st) else none
  | .tup xs, .tup ys => if xs.length + ys.length ≤ LIM then some (.ok (.tup (xs ++ ys)) st) else none
  | .cell n, .cell m => match st[n]?, st[m]? with
    | some (.lst xs), some (.lst ys) => if xs.length + ys.length ≤ LIM then some (.ok (.cell st.length) (st ++ [.lst (xs ++ ys)])) else none
    | _, _ => none
  | _, _ => none
def rAddA (K : Frag) : R2 := fun x y H Q => (∃ i j, x = .int i ∧ y = .int j ∧ Q (.int (i + j)) H) ∨ (∃ i j, x = .str i ∧ y = .str j ∧ i.length + j.length ≤ sizeLine ∧ Q (.str (i ++ j)) H) ∨ rCatA K x y H Q ∨ rCat x y H Q
theorem op_addA : OpR X (binaryOp .Add) (rAddA X.K) := OpR.or op_add (OpR.or op_add_str (OpR.or op_catA op_cat))
theorem os_add {K : Frag} : OpS K E (rAddA K) addD := by
  intro ρ st H v u d e Q rel rv ru p
  unfold addD at p
  split at p
  · cases rv; cases ru
    exact .inl ⟨_, _, rfl, rfl, p.now rel (.int _)⟩
  · cases rv; cases ru
    split at p
    · rename_i h
      exact .inr (.inl ⟨_, _, rfl, rfl, Nat.le_trans h lim_size, p.now rel (.str _)⟩)
    · exact p.elim
  · split at p
    · rename_i h
      cases rv with
      | tup ha xa =>
        cases ru with
        | tup hb xb =>
          have la := xa.length
          have lb := xb.length
          refine .inr (.inr (.inl ⟨_, _, _, _, rfl, rfl, ha, hb, by rw [la, lb]; exact Nat.le_trans h lim_size, fun e => ?_, fun _ e => ?_, fun _ _ => p.tup rel (xa.append xb)⟩))
          · subst e
            cases xa
            exact p.now rel (.tup hb xb)
          · subst e
            cases xb
            rw [List.append_nil] at p
            exact p.now rel (.tup ha xa)
    · exact p.elim
  · split at p
    · rename_i h1 h2
      split at p
      · rename_i h
        obtain ⟨a, xs, rfl, _, ea, ra⟩ := rel.lst h1 rv
        obtain ⟨b, ys, rfl, _, eb, rb⟩ := rel.lst h2 ru
        exact .inr (.inr (.inr ⟨_, _, _, _, rfl, rfl, ea, eb, by rw [ra.length, rb.length]; exact Nat.le_trans h lim_size, p.lst rel (ra.append rb)⟩))
      · exact p.elim
    · exact p.elim
  · exact p.elim
theorem pf_add {a b : Expr} {f1 f2 : EF} (ha : PF X E a f1) (hb : PF X E b f2) : PF X E (.BinOp a .Add b pos) (binF addD f1 f2) := pf_op op_addA os_add ha hb
/-- - -/
def subD : OF := fun d e st => match d, e with
  | .int i, .int j => some (.ok (.int (i - j)) st)
  | _, _ => none
theorem pf_sub {a b : Expr} {f1 f2 : EF} (ha : PF X E a f1) (hb : PF X E b f2) : PF X E (.BinOp a .Sub b pos) (binF subD f1 f2) := pf_op op_sub (fun ρ st H v u d e Q rel rv ru p => by
  unfold subD at p
  split at p
  · cases rv; cases ru
    exact ⟨_, _, rfl, rfl, p.now rel (.int _)⟩
  · exact p.elim) ha hb
/-- *: ints; a tuple so many times; a text so many times is not here -/
def mulD : OF := fun d e st => match d, e with
  | .int i, .int j => if i.natAbs.log2 + j.natAbs.log2 < 1000000 then some (.ok (.int (i * j)) st) else none
  | .tup xs, .int k => if xs ≠ [] ∧ 2 ≤ k ∧ k ≤ 1000 ∧ xs.length ≤ 1000 then some (.ok (.tup (List.replicate k.toNat xs).flatten) st) else none
  | _, _ => none
theorem RVs.flat {K : Frag} {ρ : List Addr} {H : Hp} {xs : List V} {ds : List D} (r : RVs K ρ H xs ds) : ∀ n : Nat, RVs K ρ H (List.replicate n xs).flatten (List.replicate n ds).flatten
  | 0 => .nil
  | n + 1 => by rw [List.replicate_succ, List.replicate_succ, List.flatten_cons, List.flatten_cons]; exact r.append (RVs.flat r n)
theorem pf_mul {a b : Expr} {f1 f2 : EF} (ha : PF X E a f1) (hb : PF X E b f2) : PF X E (.BinOp a .Mult b pos) (binF mulD f1 f2) := pf_op (OpR.or op_mulW op_repT) (fun ρ st H v u d e Q rel rv ru p => by
  unfold mulD at p
  split at p
  · cases rv; cases ru
    split at p
    · rename_i h
      exact .inl ⟨_, _, rfl, rfl, h, p.now rel (.int _)⟩
    · exact p.elim
  · split at p
    · rename_i h
      obtain ⟨h1, h2, h3, h4⟩ := h
      cases ru
      cases rv with
      | tup ht rt =>
        have hl := rt.length
        refine .inr ⟨_, _, _, rfl, rfl, ht, fun z => h1 ?_, h2, h3, by rw [hl]; exact h4, p.tup rel (rt.flat _)⟩
        subst z
        cases rt
        rfl
    · exact p.elim
  · exact p.elim) ha hb
/-- //: a small divisor of any sign, or a great one above 0 -/
def fdivD : OF := fun d e st => match d, e with
  | .int i, .int j => if j ≠ 0 ∧ j.natAbs < 1073741824 then some (.ok (.int (i.fdiv j)) st) else if 0 < j ∧ j.natAbs.log2 < 9000 then some (.ok (.int (i.fdiv j)) st) else none
  | _, _ => none
theorem pf_fdiv {a b : Expr} {f1 f2 : EF} (ha : PF X E a f1) (hb : PF X E b f2) : PF X E (.BinOp a .FloorDiv b pos) (binF fdivD f1 f2) := pf_op (OpR.or op_fdivN op_fdivW) (fun ρ st H v u d e Q rel rv ru p => by
  unfold fdivD at p
  split at p
  · cases rv; cases ru
    split at p
    · rename_i h
      exact .inl ⟨_, _, rfl, rfl, h, p.now rel (.int _)⟩
    · split at p
      · rename_i h
        rw [Int.fdiv_eq_ediv_of_nonneg _ (by omega)] at p
        exact .inr ⟨_, _, rfl, rfl, h, p.now rel (.int _)⟩
      · exact p.elim
  · exact p.elim) ha hb
def modD : OF := fun d e st => match d, e with
  | .int i, .int j => if j ≠ 0 then some (.ok (.int (i.fmod j)) st) else none
  | _, _ => none
theorem pf_mod {a b : Expr} {f1 f2 : EF} (ha : PF X E a f1) (hb : PF X E b f2) : PF X E (.BinOp a .Mod b pos) (binF modD f1 f2) := pf_op op_modN (fun ρ st H v u d e Q rel rv ru p => by
  unfold modD at p
  split at p
  · cases rv; cases ru
    split at p
    · rename_i h
      exact ⟨_, _, rfl, rfl, h, p.now rel (.int _)⟩
    · exact p.elim
  · exact p.elim) ha hb
def powD : OF := fun d e st => match d, e with
  | .int i, .int j => if 0 ≤ j ∧ j ≤ 1000 ∧ i.natAbs.log2 < 9000 then some (.ok (.int (i ^ j.toNat)) st) else none
  | _, _ => none
theorem op_powW : OpR X (binaryOp .Pow) (rI (fun i j => 0 ≤ j ∧ j ≤ 1000 ∧ i.natAbs.log2 < 9000) fun i j => .int (i ^ j.toNat)) := opI fun i j _ _ _ _ _ hc q => by
  obtain ⟨h1, h2, h3⟩ := hc
  refine pow_int h1 ?_ q
  have b : Builtin.Int.intBits i ≤ i.natAbs.log2 + 1 := by
    unfold Builtin.Int.intBits
    split <;> omega
  have b2 : (Builtin.Int.intBits i : Int) ≤ 9000 := by omega
  have b3 : (Builtin.Int.intBits i : Int) * j ≤ 9000 * j := Int.mul_le_mul_of_nonneg_right b2 h1
  have b4 : (2 : Int) ^ 27 = 134217728 := by decide
  rw [b4]
  omega
theorem pf_pow {a b : Expr} {f1 f2 : EF} (ha : PF X E a f1) (hb : PF X E b f2) : PF X E (.BinOp a .Pow b pos) (binF powD f1 f2) := pf_op op_powW (fun ρ st H v u d e Q rel rv ru p => by
  unfold powD at p
  split at p
  · cases rv; cases ru
    split at p
    · rename_i h
      exact ⟨_, _, rfl, rfl, h, p.now rel (.int _)⟩
    · exact p.elim
  · exact p.elim) ha hb
/-- -x -/
def negF (f : EF) : EF := fun env st => bindR (f env st) fun d st1 => match d with
  | .int i => some (.ok (.int (-i)) st1)
  | _ => none
theorem pf_neg {a : Expr} {f : EF} (ha : PF X E a f) : PF X E (.UnaryOp .USub a pos) (negF f) := PE.of (pe_un un_neg ha) fun σ H Q h => by
  obtain ⟨ρ, env, st, rel, er, p⟩ := h
  refine ⟨ρ, env, st, rel, er, Post.seq p fun d st1 ρ1 H1 k1 l1 r1 p1 v rv => ?_⟩
  split at p1
  · cases rv
    exact ⟨_, rfl, p1.now r1 (.int _)⟩
  · exact p1.elim

/-! ### comparisons of ints -/
def cmpD (g : Int → Int → Bool) : OF := fun d e st => match d, e with
  | .int i, .int j => some (.ok (.bl (g i j)) st)
  | _, _ => none
theorem os_cmp {K : Frag} {g : Int → Int → Bool} : OpS K E (rI0 fun i j => .bl (g i j)) (cmpD g) := fun ρ st H v u d e Q rel rv ru p => by
  unfold cmpD at p
  split at p
  · cases rv; cases ru
    exact ⟨_, _, rfl, rfl, p.now rel (.bl _)⟩
  · exact p.elim
abbrev ltD : OF := cmpD fun i j => decide (i < j)
abbrev leD : OF := cmpD fun i j => decide (i ≤ j)
abbrev gtD : OF := cmpD fun i j => decide (j < i)
abbrev geD : OF := cmpD fun i j => decide (j ≤ i)
theorem pf_lt {a b : Expr} {f1 f2 : EF} (ha : PF X E a f1) (hb : PF X E b f2) : PF X E (.Compare a [.Lt] [b] pos) (binF ltD f1 f2) := pf_cmp op_lt os_cmp ha hb (nomark _)
theorem pf_le {a b : Expr} {f1 f2 : EF} (ha : PF X E a f1) (hb : PF X E b f2) : PF X E (.Compare a [.LtE] [b] pos) (binF leD f1 f2) := pf_cmp op_le os_cmp ha hb (nomark _)
theorem pf_gt {a b : Expr} {f1 f2 : EF} (ha : PF X E a f1) (hb : PF X E b f2) : PF X E (.Compare a [.Gt] [b] pos) (binF gtD f1 f2) := pf_cmp op_gt os_cmp ha hb (nomark _)
theorem pf_ge {a b : Expr} {f1 f2 : EF} (ha : PF X E a f1) (hb : PF X E b f2) : PF X E (.Compare a [.GtE] [b] pos) (binF geD f1 f2) := pf_cmp op_ge os_cmp ha hb (nomark _)
/-- a op b op' c -/
def chainF (g g' : OF) (f1 f2 f3 : EF) : EF := fun env st => bindR (f1 env st) fun d st1 => bindR (f2 env st1) fun e st2 => bindR (g d e st2) fun z st3 => match z with
  | .bl true => bindR (f3 env st3) fun w st4 => g' e w st4
  | .bl false => some (.ok (.bl false) st3)
  | _ => none
/-- an operator that leaves the heap's slots alone: what it tells is told where it was asked -/
def OpQ (K : Frag) (E : XK) (r : R2) (g : OF) : Prop := ∀ ρ st H v u d e (Q : D → Store → List Addr → Hp → Prop) (Q' : VK), Rel K ρ st H → RV K ρ H v d → RV K ρ H u e → Post K H ρ (g d e st) Q E → (∀ z st' ρ' H' w, Keep H H' → Le ρ ρ' → Rel K ρ' st' H' → RV K ρ' H' w z → Q z st' ρ' H' → Q' w H') → r v u H Q'
theorem OpS.q {K : Frag} {r : R2} {g : OF} (h : OpS K E r g) : OpQ K E r g := fun ρ st H v u d e Q Q' rel rv ru p w => h ρ st H v u d e Q' rel rv ru (Post.imp p fun z st' ρ' H' k l r q x rx => w z st' ρ' H' x k l r rx q)
theorem chain_w {K : Frag} {r r' : R2} {g g' : OF} {f1 f2 f3 : EF} (hs : OpS K E r g) (hs' : OpS K E r' g') : ∀ σ H Q, tF K E (chainF g g' f1 f2 f3) σ H Q → tChain r r' (tF K E f1) (tF K E f2) (tF K E f3) σ H Q := fun σ H Q h => by
  obtain ⟨ρ, env, st, rel, er, p⟩ := h
  refine ⟨ρ, env, st, rel, er, Post.seq p fun d st1 ρ1 H1 k1 l1 r1 p1 v rv => ⟨ρ1, env, st1, r1, er.mono k1 l1, Post.seq p1 fun e st2 ρ2 H2 k2 l2 r2 p2 u ru => ?_⟩⟩
  refine hs.q ρ2 st2 H2 v u d e _ _ r2 (rv.mono k2 l2) ru (Post.bind p2) fun z st3 ρ3 H3 w k3 l3 r3 rw p3 => ?_
  split at p3
  · cases rw
    refine ⟨true, rfl, ?_⟩
    rw [if_pos rfl]
    exact ⟨ρ3, env, st3, r3, ((er.mono k1 l1).mono k2 l2).mono k3 l3, Post.seq p3 fun z4 st4 ρ4 H4 k4 l4 r4 p4 x rx => hs' ρ4 st4 H4 u x e z4 Q r4 ((ru.mono k3 l3).mono k4 l4) rx p4⟩
  · cases rw
    refine ⟨false, rfl, ?_⟩
    rw [if_neg Bool.false_ne_true]
    exact p3.now r3 (.bl _)
  · exact p3.elim
theorem pf_chainII {g g' : Int → Int → Bool} {op op' : CmpOp} {f1 f2 f3 : EF} {a b c : Expr} (ho : OpR X (compareOp op) (rI0 fun i j => .bl (g i j))) (ho' : OpR X (compareOp op') (rI0 fun i j => .bl (g' i j))) (ha : PF X E a f1) (hb : PF X E b f2) (hc : PF X E c f3)
    (hm : lastMarks [op, op'] [b, c] = false := by with_unfolding_all rfl) : PF X E (.Compare a [op, op'] [b, c] pos) (chainF (cmpD g) (cmpD g') f1 f2 f3) := PE.of (pe_chain ho ho' ha hb hc hm) (chain_w os_cmp os_cmp)
end
end PF
end
section
namespace PF
open PySem PySem.Spec PyProof.Rows L2

/-! ### data of a value, through lists -/
def omap {β : Type} (f : D → Option β) : List D → Option (List β)
  | [] => some []
  | d :: ds => match f d, omap f ds with
    | some b, some bs => some (b :: bs)
    | _, _ => none
def dp (st : Store) : Nat → D → Option PyData
  | 0, _ => none
  | k + 1, d => match d with
    | .non => some .none
    | .bl b => some (.bool b)
    | .int i => some (.int i)
    | .str x => some (.str x)
    | .tup ds => (omap (dp st k) ds).map .tuple
    | .cell n => match st[n]? with
      | some (.lst ds) => (omap (dp st k) ds).map .list
      | _ => none
    | _ => none
section
variable {K : Frag} {ρ : List Addr} {H : Hp} {st : Store}
theorem dp_ok (rel : Rel K ρ st H) : ∀ (k : Nat) {v : V} {d : D} {x : PyData}, RV K ρ H v d → dp st k d = some x → Dp K H v x
  | 0, _, _, _, _, e => by simp [dp] at e
  | k + 1, v, d, x, r, e => by
    have all : ∀ {xs : List V} {ds : List D} {ys : List PyData}, RVs K ρ H xs ds → omap (dp st k) ds = some ys → DpAll K H xs ys := by
      intro xs ds
      induction ds generalizing xs with
      | nil => intro ys r e; cases r; simp [omap] at e; subst e; exact .nil
      | cons d ds ih =>
        intro ys r e
        cases r with
        | cons r1 r2 =>
          unfold omap at e
          split at e
          · rename_i b bs e1 e2
            cases e
            exact .cons (dp_ok rel k r1 e1) (ih r2 e2)
          · cases e
    unfold dp at e
    split at e
    · cases r; cases e; exact .non
    · cases r; cases e; exact .bl _
    · cases r; cases e; exact .int _
    · cases r; cases e; exact .str _
    · cases r with
      | tup ht rs =>
        obtain ⟨ys, e1, rfl⟩ := Option.map_eq_some_iff.mp e
        exact .tup ht (all rs e1)
    · split at e
      · rename_i h
        obtain ⟨ys, e1, rfl⟩ := Option.map_eq_some_iff.mp e
        obtain ⟨a, xs, rfl, _, ea, ra⟩ := rel.lst h r
        exact .lst (SqL.of ea) (all ra e1)
      · cases e
    · cases e
end

/-- == of scalars -/
def eqS : D → D → Option Bool
  | .int i, .int j => some (decide (i = j))
  | .str x, .str y => some (decide (x = y))
  | .bl a, .bl b => some (decide (a = b))
  | .non, .non => some true
  | .non, .int _ => some false
  | .int _, .non => some false
  | .non, .str _ => some false
  | .str _, .non => some false
  | .non, .bl _ => some false
  | .bl _, .non => some false
  | .int _, .str _ => some false
  | .str _, .int _ => some false
  | .bl _, .str _ => some false
  | .str _, .bl _ => some false
  | _, _ => none
theorem eqS_ok {K : Frag} {ρ : List Addr} {H : Hp} {v u : V} {d e : D} {b : Bool} (rv : RV K ρ H v d) (ru : RV K ρ H u e) (h : eqS d e = some b) : scal v u = true ∧ decide (v = u) = b := by
  unfold eqS at h
  split at h <;> first
    | contradiction
    | (cases rv; cases ru; cases h; refine ⟨rfl, ?_⟩; simp)
def eqDD (d e : D) (st : Store) : Option Bool := match eqS d e with
  | some b => some b
  | none => match dp st 60 d, dp st 60 e with
    | some x, some y => if SeqAt.shaped x = true ∧ SeqAt.shaped y = true then some (PyData.eqv x y) else none
    | _, _ => none
def eqD (neg : Bool) : OF := fun d e st => match eqDD d e st with
  | some b => some (.ok (.bl (if neg then !b else b)) st)
  | none => none
def rEqA (K : Frag) : R2 := fun x y H Q => rEq x y H Q ∨ rEqD K x y H Q
def rNeA (K : Frag) : R2 := fun x y H Q => rNe x y H Q ∨ rNeD K x y H Q
section
variable {X : Cx} {E : XK} {pos : Pos}
theorem os_eq {K : Frag} : OpS K E (rEqA K) (eqD false) := fun ρ st H v u d e Q rel rv ru p => by
  unfold eqD at p
  split at p
  · rename_i b h
    simp only [Bool.false_eq_true, if_false] at p
    unfold eqDD at h
    split at h
    · rename_i b' h'
      cases h
      obtain ⟨h1, h2⟩ := eqS_ok rv ru h'
      refine .inl ⟨h1, ?_⟩
      rw [h2]
      exact p.now rel (.bl _)
    · split at h
      · rename_i x y hx hy
        split at h
        · rename_i hs
          cases h
          exact .inr ⟨x, y, dp_ok rel _ rv hx, dp_ok rel _ ru hy, hs.1, hs.2, p.now rel (.bl _)⟩
        · cases h
      · cases h
  · exact p.elim
theorem os_ne {K : Frag} : OpS K E (rNeA K) (eqD true) := fun ρ st H v u d e Q rel rv ru p => by
  unfold eqD at p
  split at p
  · rename_i b h
    simp only [if_true] at p
    unfold eqDD at h
    split at h
    · rename_i b' h'
      cases h
      obtain ⟨h1, h2⟩ := eqS_ok rv ru h'
      refine .inl ⟨h1, ?_⟩
      rw [h2]
      exact p.now rel (.bl _)
    · split at h
      · rename_i x y hx hy
        split at h
        · rename_i hs
          cases h
          exact .inr ⟨x, y, dp_ok rel _ rv hx, dp_ok rel _ ru hy, hs.1, hs.2, p.now rel (.bl _)⟩
        · cases h
      · cases h
  · exact p.elim
theorem pf_eq {k : Nat} (hr : Room k X.A) {a b : Expr} {f1 f2 : EF} (ha : PF X E a f1) (hb : PF X E b f2) : PF X E (.Compare a [.Eq] [b] pos) (binF (eqD false) f1 f2) := pf_cmp (OpR.or op_eq (op_eqD hr.units)) os_eq ha hb (nomark _)
theorem pf_ne {k : Nat} (hr : Room k X.A) {a b : Expr} {f1 f2 : EF} (ha : PF X E a f1) (hb : PF X E b f2) : PF X E (.Compare a [.NotEq] [b] pos) (binF (eqD true) f1 f2) := pf_cmp (OpR.or op_ne (op_neD hr.units)) os_ne ha hb (nomark _)

/-! ### in, not in -/
def flatD : D → Bool
  | .non => true
  | .bl _ => true
  | .int _ => true
  | .str _ => true
  | _ => false
/-- == of flat values; a bool and an int are not compared here -/
def eqFl : D → D → Option Bool
  | .bl a, .bl b => some (a == b)
  | .int a, .int b => some (a == b)
  | .str a, .str b => some (a == b)
  | .bl _, .int _ => none
  | .int _, .bl _ => none
  | .non, .non => some true
  | a, b => if flatD a && flatD b then some false else none
def anyFl (d : D) : List D → Option Bool
  | [] => if flatD d then some false else none
  | y :: ys => match eqFl y d, anyFl d ys with
    | some a, some b => some (a || b)
    | _, _ => none
theorem eqFl_ok {K : Frag} {ρ : List Addr} {H : Hp} {v u : V} {d e : D} {b : Bool} (rv : RV K ρ H v d) (ru : RV K ρ H u e) (h : eqFl d e = some b) : flatV v = true ∧ flatV u = true ∧ eqV v u = b := by
  unfold eqFl at h
  split at h
  · cases rv; cases ru; cases h; exact ⟨rfl, rfl, rfl⟩
  · cases rv; cases ru; cases h; exact ⟨rfl, rfl, rfl⟩
  · cases rv; cases ru; cases h; exact ⟨rfl, rfl, rfl⟩
  · cases h
  · cases h
  · cases rv; cases ru; cases h; exact ⟨rfl, rfl, rfl⟩
  · split at h
    · rename_i n1 n2 n3 n4 n5 n6 hf
      cases h
      cases d <;> cases e <;> simp [flatD] at hf <;> cases rv <;> cases ru <;> first
        | exact ⟨rfl, rfl, rfl⟩
        | exact absurd rfl (n1 _ _ rfl)
        | exact (n1 _ _ rfl rfl).elim
        | exact (n2 _ _ rfl rfl).elim
        | exact (n3 _ _ rfl rfl).elim
        | exact (n4 _ _ rfl rfl).elim
        | exact (n5 _ _ rfl rfl).elim
        | exact (n6 rfl rfl).elim
    · cases h
theorem anyFl_ok {K : Frag} {ρ : List Addr} {H : Hp} {v : V} {d : D} (rv : RV K ρ H v d) : ∀ {xs : List V} {ds : List D} {b : Bool}, RVs K ρ H xs ds → anyFl d ds = some b → flatV v = true ∧ xs.all flatV = true ∧ inV v xs = b
  | _, _, _, .nil, h => by
    unfold anyFl at h
    split at h
    · rename_i hf
      cases h
      cases d <;> simp [flatD] at hf <;> cases rv <;> exact ⟨rfl, rfl, rfl⟩
    · cases h
  | _, _, _, .cons r t, h => by
    unfold anyFl at h
    split at h
    · rename_i a b h1 h2
      cases h
      obtain ⟨f1, f2, e1⟩ := eqFl_ok r rv h1
      obtain ⟨g1, g2, e2⟩ := anyFl_ok rv t h2
      refine ⟨g1, by simp [f1, g2], ?_⟩
      unfold inV at e2 ⊢
      rw [List.any_cons, e1, e2]
    · cases h
def inDD (d e : D) (st : Store) : Option Bool := match e with
  | .str z => match d with
    | .str x => match x.cps.toList with
      | [c] => some (decide (c ∈ z.cps.toList))
      | _ => none
    | _ => none
  | .tup ds => anyFl d ds
  | .cell n => match st[n]? with
    | some (.lst ds) => match anyFl d ds with
      | some b => some b
      | none => match dp st 60 d, dp st 61 e with
        | some x, some (.list ys) => if SeqAt.shaped x = true ∧ SeqAt.shaped (.list ys) = true then some (ys.any fun z => PyData.eqv z x) else none
        | _, _ => none
    | some (.dct kvs) => match d with
      | .str x => some (kvs.any fun kv => decide (kv.1 = Sum.inr x))
      | .int i => some (kvs.any fun kv => decide (kv.1 = Sum.inl i))
      | _ => none
    | _ => none
  | _ => none
def inD (neg : Bool) : OF := fun d e st => match inDD d e st with
  | some b => some (.ok (.bl (if neg then !b else b)) st)
  | none => none
/-- what a value in a container is told by -/
def InV (K : Frag) (x y : V) (H : Hp) (b : Bool) : Prop :=
  (∃ (c : Nat) (z : Str), x = .str ⟨#[c]⟩ ∧ y = .str z ∧ b = decide (c ∈ z.cps.toList)) ∨
  (∃ p xs, y = .ref p ∧ (SqL K H p xs ∨ SqT K H p xs) ∧ flatV x = true ∧ xs.all flatV = true ∧ b = inV x xs) ∨
  (∃ d ds, Dp K H x d ∧ Dp K H y (.list ds) ∧ SeqAt.shaped d = true ∧ SeqAt.shaped (.list ds) = true ∧ b = ds.any fun z => PyData.eqv z d) ∨
  (∃ a o, y = .ref a ∧ DGet H a x o ∧ b = o.isSome)
theorem valV_AL {K : Frag} {ρ : List Addr} {H : Hp} (k : Key) : ∀ {ks : List (Key × V)} {kvs : List (Key × D)}, AL K ρ H ks kvs → (valV ks k).isSome = kvs.any fun kv => decide (kv.1 = k)
  | _, _, .nil => rfl
  | _, _, .cons (a := p) (b := q) r t => by
    have ih := valV_AL k t
    by_cases h : p.1 = k
    · rw [valV_pos h, List.any_cons, decide_eq_true (r.1 ▸ h)]
      rfl
    · rw [valV_neg h, ih, List.any_cons, decide_eq_false (fun z => h (r.1.trans z)), Bool.false_or]
theorem inDD_ok {K : Frag} {ρ : List Addr} {H : Hp} {st : Store} {v u : V} {d e : D} {b : Bool} (rel : Rel K ρ st H) (rv : RV K ρ H v d) (ru : RV K ρ H u e) (h : inDD d e st = some b) : InV K v u H b := by
  unfold inDD at h
  split at h
  · cases ru
    split at h
    · cases rv
      split at h
      · rename_i c hc
        cases h
        exact .inl ⟨c, _, by rw [show _ = (⟨#[c]⟩ : Str) from TL.ext_tl hc], rfl, rfl⟩
      · cases h
    · cases h
  · cases ru with
    | tup ht rs =>
      obtain ⟨f1, f2, e1⟩ := anyFl_ok rv rs h
      exact .inr (.inl ⟨_, _, rfl, .inr ht, f1, f2, e1.symm⟩)
  · split at h
    · rename_i n ds hn
      have ru0 := ru
      obtain ⟨a, xs, rfl, _, ea, ra⟩ := rel.lst hn ru
      split at h
      · rename_i b' hb
        cases h
        obtain ⟨f1, f2, e1⟩ := anyFl_ok rv ra hb
        exact .inr (.inl ⟨_, _, rfl, .inl (SqL.of ea), f1, f2, e1.symm⟩)
      · split at h
        · rename_i x ys hx hy
          split at h
          · rename_i hs
            cases h
            exact .inr (.inr (.inl ⟨x, ys, dp_ok rel _ rv hx, dp_ok rel _ ru0 hy, hs.1, hs.2, rfl⟩))
          · cases h
        · cases h
    · rename_i n kvs hn
      obtain ⟨a, ks, rfl, _, ea, ra⟩ := rel.dct hn ru
      split at h
      · cases rv; cases h
        exact .inr (.inr (.inr ⟨a, _, rfl, DGet.k (k := Sum.inr _) ea, (valV_AL _ ra).symm⟩))
      · cases rv; cases h
        exact .inr (.inr (.inr ⟨a, _, rfl, DGet.k (k := Sum.inl _) ea, (valV_AL _ ra).symm⟩))
      · cases h
    · cases h
  · cases h
theorem opr_of_pc {op : CmpOp} {r : R2} (h : ∀ (pins : List (Addr × Obj)) (s : Shared) (σ : L2.St) (H : Hp) (x y : V) (v u : Value) (Q : VK), Inv X pins σ H s → RelV x v → RelV y u → r x y H Q → wpAny (model X.prog X.w) X.A (compareOp op v u) (EP X pins σ Q) X.xe s) : OpR X (compareOp op) r := h
theorem Room.in65 {k : Nat} {A : Around} (hr : Room (k + 1) A) : A.units + 65 < cLine := by have := hr.un; omega
theorem op_inA {k : Nat} (hr : Room (k + 1) X.A) : OpR X (compareOp .In) (fun x y H Q => ∃ b, InV X.K x y H b ∧ Q (.bl b) H) := by
  intro pins s σ H x y v u Q I rx ry h
  obtain ⟨b, h, q⟩ := h
  rcases h with ⟨c, z, rfl, rfl, rfl⟩ | ⟨p, xs, rfl, hq, f1, f2, rfl⟩ | ⟨d, ds, h1, h2, h3, h4, rfl⟩ | ⟨a, o, rfl, g, rfl⟩
  · exact op_in_sign pins s σ H _ _ v u Q I rx ry ⟨c, z, rfl, rfl, q⟩
  · exact op_in_seq pins s σ H _ _ v u Q I rx ry ⟨p, xs, rfl, hq, f1, f2, q⟩
  · exact op_inD (Room.in65 hr) pins s σ H _ _ v u Q I rx ry ⟨d, ds, h1, h2, h3, h4, q⟩
  · obtain rfl : u = Value.ref a := ry
    exact d_in (hu_of hr) I g rx fun s3 I3 => ⟨.bl o.isSome, H, I3, rfl, q⟩
theorem op_notInA {k : Nat} (hr : Room (k + 1) X.A) : OpR X (compareOp .NotIn) (fun x y H Q => ∃ b, InV X.K x y H b ∧ Q (.bl (!b)) H) := by
  intro pins s σ H x y v u Q I rx ry h
  obtain ⟨b, h, q⟩ := h
  rcases h with ⟨c, z, rfl, rfl, rfl⟩ | ⟨p, xs, rfl, hq, f1, f2, rfl⟩ | ⟨d, ds, h1, h2, h3, h4, rfl⟩ | ⟨a, o, rfl, g, rfl⟩
  · exact op_notIn_sign pins s σ H _ _ v u Q I rx ry ⟨c, z, rfl, rfl, q⟩
  · exact op_notIn_seq pins s σ H _ _ v u Q I rx ry ⟨p, xs, rfl, hq, f1, f2, q⟩
  · exact op_notInD (Room.in65 hr) pins s σ H _ _ v u Q I rx ry ⟨d, ds, h1, h2, h3, h4, q⟩
  · obtain rfl : u = Value.ref a := ry
    exact d_notIn (hu_of hr) I g rx fun s3 I3 => ⟨.bl (!o.isSome), H, I3, rfl, q⟩
theorem pf_in {k : Nat} (hr : Room (k + 1) X.A) {a b : Expr} {f1 f2 : EF} (ha : PF X E a f1) (hb : PF X E b f2) (hm : behindInMarks .In b = false := by rfl) : PF X E (.Compare a [.In] [b] pos) (binF (inD false) f1 f2) := pf_cmp (op_inA hr) (fun ρ st H v u d e Q rel rv ru p => by
  unfold inD at p
  split at p
  · rename_i b h
    exact ⟨b, inDD_ok rel rv ru h, p.now rel (.bl _)⟩
  · exact p.elim) ha hb hm
theorem pf_notIn {k : Nat} (hr : Room (k + 1) X.A) {a b : Expr} {f1 f2 : EF} (ha : PF X E a f1) (hb : PF X E b f2) (hm : behindInMarks .NotIn b = false := by rfl) : PF X E (.Compare a [.NotIn] [b] pos) (binF (inD true) f1 f2) := pf_cmp (op_notInA hr) (fun ρ st H v u d e Q rel rv ru p => by
  unfold inD at p
  split at p
  · rename_i b h
    exact ⟨b, inDD_ok rel rv ru h, p.now rel (.bl _)⟩
  · exact p.elim) ha hb hm

/-! ### is None -/
def isNonD : D → Bool
  | .non => true
  | _ => false
def isNF (neg : Bool) (f : EF) : EF := fun env st => bindR (f env st) fun d st1 => some (.ok (.bl (if neg then !isNonD d else isNonD d)) st1)
theorem isNon_ok {K : Frag} {ρ : List Addr} {H : Hp} {v : V} {d : D} (r : RV K ρ H v d) : decide (v = V.non) = isNonD d := by
  cases r <;> simp [isNonD]
theorem pf_isN {j : Nat} {pos' : Pos} {a : Expr} {f : EF} (ha : PF X E a f) : PF X E (.Compare a [.Is] [.Constant .none j pos'] pos) (isNF false f) := PE.of (pe_cmp (pc_isN ha)) fun σ H Q h => by
  obtain ⟨ρ, env, st, rel, er, p⟩ := h
  refine ⟨ρ, env, st, rel, er, Post.seq p fun d st1 ρ1 H1 k1 l1 r1 p1 v rv => ?_⟩
  show Q (.bl (decide (v = V.non))) H1
  rw [isNon_ok rv]
  exact p1.now r1 (.bl _)
theorem pf_notN {j : Nat} {pos' : Pos} {a : Expr} {f : EF} (ha : PF X E a f) : PF X E (.Compare a [.IsNot] [.Constant .none j pos'] pos) (isNF true f) := PE.of (pe_cmp (pc_notN ha)) fun σ H Q h => by
  obtain ⟨ρ, env, st, rel, er, p⟩ := h
  refine ⟨ρ, env, st, rel, er, Post.seq p fun d st1 ρ1 H1 k1 l1 r1 p1 v rv => ?_⟩
  show Q (.bl (!decide (v = V.non))) H1
  rw [isNon_ok rv]
  exact p1.now r1 (.bl _)

/-! ### truth -/
def truD (d : D) (st : Store) : Option Bool := match d with
  | .non => some false
  | .bl b => some b
  | .int i => some (i != 0)
  | .str x => if x.length ≤ LIM then some (x.length != 0) else none
  | .tup ds => some (!ds.isEmpty)
  | .cell n => match st[n]? with
    | some (.lst ds) => some (!ds.isEmpty)
    | some (.dct kvs) => some (!kvs.isEmpty)
    | _ => none
  | _ => none
theorem isEmpty_rvs {K : Frag} {ρ : List Addr} {H : Hp} {xs : List V} {ds : List D} (r : RVs K ρ H xs ds) : (!xs.isEmpty) = !ds.isEmpty := by cases r <;> rfl
theorem isEmpty_al {κ : Type} {K : Frag} {ρ : List Addr} {H : Hp} {xs : List (κ × V)} {ds : List (κ × D)} (r : AL K ρ H xs ds) : (!xs.isEmpty) = !ds.isEmpty := by cases r <;> rfl
theorem tru_D {K : Frag} {ρ : List Addr} {H : Hp} {st : Store} {v : V} {d : D} {b : Bool} (rel : Rel K ρ st H) (r : RV K ρ H v d) (h : truD d st = some b) : TruV K v H b := by
  unfold truD at h
  split at h
  · cases r; cases h; rfl
  · cases r; cases h; rfl
  · cases r; cases h; rfl
  · cases r
    split at h
    · rename_i x hx
      cases h
      refine ⟨Nat.le_trans hx lim_size, ?_⟩
      have e : ((x.length : Int) != 0) = (x.length != 0) := by
        rw [Bool.eq_iff_iff]
        simp
      rw [e]
    · cases h
  · cases r with
    | tup ht rs => cases h; exact .inr (.inl ⟨_, ht, (isEmpty_rvs rs).symm⟩)
  · split at h
    · rename_i hn
      obtain ⟨a, xs, rfl, _, ea, ra⟩ := rel.lst hn r
      cases h
      exact .inl ⟨xs, SqL.of ea, (isEmpty_rvs ra).symm⟩
    · rename_i hn
      obtain ⟨a, xs, rfl, _, ea, ra⟩ := rel.dct hn r
      cases h
      exact .inr (.inr ⟨xs, ea, (isEmpty_al ra).symm⟩)
    · cases h
  · cases h
def truF (f : EF) : BF := fun env st => bindR (f env st) fun d st1 => match truD d st1 with
  | some b => some (.ok b st1)
  | none => none
theorem pft_tru {a : Expr} {f : EF} (ha : PF X E a f) (he : ∀ whole, isTrue a X.env whole = (do let v ← whole; standAt a.pos; holding [v] (truthy v)) := by intro _; rfl) : PFT X E a (truF f) := PT.of (pt_truth ha he) fun σ H Q h => by
  obtain ⟨ρ, env, st, rel, er, p⟩ := h
  refine ⟨ρ, env, st, rel, er, Post.seq p fun d st1 ρ1 H1 k1 l1 r1 p1 v rv => ?_⟩
  split at p1
  · rename_i b hb
    exact ⟨b, tru_D r1 rv hb, p1 H1 ρ1 (Keep.refl _) (Le.refl _) r1⟩
  · exact p1.elim
/-- a bool's own test -/
def bolF (f : EF) : BF := fun env st => bindR (f env st) fun d st1 => match d with
  | .bl b => some (.ok b st1)
  | _ => none
theorem pft_w {t : TE} {f : EF} (hw : ∀ σ H Q, tF X.K E f σ H Q → t σ H Q) : ∀ σ H Q, tFT X.K E (bolF f) σ H Q → tTest t σ H Q := fun σ H Q h => by
  obtain ⟨ρ, env, st, rel, er, p⟩ := h
  refine hw σ H _ ⟨ρ, env, st, rel, er, Post.seq p fun d st1 ρ1 H1 k1 l1 r1 p1 v rv => ?_⟩
  split at p1
  · cases rv
    exact ⟨_, rfl, p1 H1 ρ1 (Keep.refl _) (Le.refl _) r1⟩
  · exact p1.elim
theorem pft_cmp {op : CmpOp} {r : R2} {g : OF} {f1 f2 : EF} {a b : Expr} (ho : OpR X (compareOp op) r) (hs : OpS X.K E r g) (ha : PF X E a f1) (hb : PF X E b f2) (hm : behindInMarks op b = false) : PFT X E (.Compare a [op] [b] pos) (bolF (binF g f1 f2)) := PT.of (pt_cmpR ho ha hb hm) (pft_w (bin_w hs))
theorem pft_lt {a b : Expr} {f1 f2 : EF} (ha : PF X E a f1) (hb : PF X E b f2) : PFT X E (.Compare a [.Lt] [b] pos) (bolF (binF ltD f1 f2)) := pft_cmp op_lt os_cmp ha hb (nomark _)
theorem pft_le {a b : Expr} {f1 f2 : EF} (ha : PF X E a f1) (hb : PF X E b f2) : PFT X E (.Compare a [.LtE] [b] pos) (bolF (binF leD f1 f2)) := pft_cmp op_le os_cmp ha hb (nomark _)
theorem pft_gt {a b : Expr} {f1 f2 : EF} (ha : PF X E a f1) (hb : PF X E b f2) : PFT X E (.Compare a [.Gt] [b] pos) (bolF (binF gtD f1 f2)) := pft_cmp op_gt os_cmp ha hb (nomark _)
theorem pft_ge {a b : Expr} {f1 f2 : EF} (ha : PF X E a f1) (hb : PF X E b f2) : PFT X E (.Compare a [.GtE] [b] pos) (bolF (binF geD f1 f2)) := pft_cmp op_ge os_cmp ha hb (nomark _)
theorem pft_eq {k : Nat} (hr : Room k X.A) {a b : Expr} {f1 f2 : EF} (ha : PF X E a f1) (hb : PF X E b f2) : PFT X E (.Compare a [.Eq] [b] pos) (bolF (binF (eqD false) f1 f2)) := pft_cmp (OpR.or op_eq (op_eqD hr.units)) os_eq ha hb (nomark _)
theorem pft_ne {k : Nat} (hr : Room k X.A) {a b : Expr} {f1 f2 : EF} (ha : PF X E a f1) (hb : PF X E b f2) : PFT X E (.Compare a [.NotEq] [b] pos) (bolF (binF (eqD true) f1 f2)) := pft_cmp (OpR.or op_ne (op_neD hr.units)) os_ne ha hb (nomark _)
theorem os_in {K : Frag} : OpS K E (fun x y H Q => ∃ b, InV K x y H b ∧ Q (.bl b) H) (inD false) := fun ρ st H v u d e Q rel rv ru p => by
  unfold inD at p
  split at p
  · rename_i b h
    exact ⟨b, inDD_ok rel rv ru h, p.now rel (.bl _)⟩
  · exact p.elim
theorem os_notIn {K : Frag} : OpS K E (fun x y H Q => ∃ b, InV K x y H b ∧ Q (.bl (!b)) H) (inD true) := fun ρ st H v u d e Q rel rv ru p => by
  unfold inD at p
  split at p
  · rename_i b h
    exact ⟨b, inDD_ok rel rv ru h, p.now rel (.bl _)⟩
  · exact p.elim
theorem pft_in {k : Nat} (hr : Room (k + 1) X.A) {a b : Expr} {f1 f2 : EF} (ha : PF X E a f1) (hb : PF X E b f2) (hm : behindInMarks .In b = false := by rfl) : PFT X E (.Compare a [.In] [b] pos) (bolF (binF (inD false) f1 f2)) := pft_cmp (op_inA hr) os_in ha hb hm
theorem pft_notIn {k : Nat} (hr : Room (k + 1) X.A) {a b : Expr} {f1 f2 : EF} (ha : PF X E a f1) (hb : PF X E b f2) (hm : behindInMarks .NotIn b = false := by rfl) : PFT X E (.Compare a [.NotIn] [b] pos) (bolF (binF (inD true) f1 f2)) := pft_cmp (op_notInA hr) os_notIn ha hb hm
theorem pft_chainII {g g' : Int → Int → Bool} {op op' : CmpOp} {f1 f2 f3 : EF} {a b c : Expr} (ho : OpR X (compareOp op) (rI0 fun i j => .bl (g i j))) (ho' : OpR X (compareOp op') (rI0 fun i j => .bl (g' i j))) (ha : PF X E a f1) (hb : PF X E b f2) (hc : PF X E c f3)
    (hm : lastMarks [op, op'] [b, c] = false := by with_unfolding_all rfl) : PFT X E (.Compare a [op, op'] [b, c] pos) (bolF (chainF (cmpD g) (cmpD g') f1 f2 f3)) := PT.of (pt_chain ho ho' ha hb hc hm) (pft_w (chain_w os_cmp os_cmp))
theorem Post.of_eq {α β : Type} {K : Frag} {H : Hp} {ρ : List Addr} {r : Option (Rs β)} {g : β → Store → Option (Rs α)} {Q : α → Store → List Addr → Hp → Prop} {r' : Option (Rs α)} (h : bindR r g = r') (p : Post K H ρ r' Q E) : Post K H ρ (bindR r g) Q E := by rw [h]; exact p
def isNT (neg : Bool) (f : EF) : BF := fun env st => bindR (f env st) fun d st1 => some (.ok (if neg then !isNonD d else isNonD d) st1)
theorem pft_isN {j : Nat} {pos' : Pos} {a : Expr} {f : EF} (ha : PF X E a f) : PFT X E (.Compare a [.Is] [.Constant .none j pos'] pos) (isNT false f) := PT.of (pt_cmp (pc_isN ha)) fun σ H Q h => by
  obtain ⟨ρ, env, st, rel, er, p⟩ := h
  refine ⟨ρ, env, st, rel, er, Post.seq p fun d st1 ρ1 H1 k1 l1 r1 p1 v rv => ⟨_, rfl, ?_⟩⟩
  rw [isNon_ok rv]
  exact p1 H1 ρ1 (Keep.refl _) (Le.refl _) r1
theorem pft_notN {j : Nat} {pos' : Pos} {a : Expr} {f : EF} (ha : PF X E a f) : PFT X E (.Compare a [.IsNot] [.Constant .none j pos'] pos) (isNT true f) := PT.of (pt_cmp (pc_notN ha)) fun σ H Q h => by
  obtain ⟨ρ, env, st, rel, er, p⟩ := h
  refine ⟨ρ, env, st, rel, er, Post.seq p fun d st1 ρ1 H1 k1 l1 r1 p1 v rv => ⟨_, rfl, ?_⟩⟩
  rw [isNon_ok rv]
  exact p1 H1 ρ1 (Keep.refl _) (Le.refl _) r1

/-! ### and, or, not -/
def notT (t : BF) : BF := fun env st => bindR (t env st) fun b st1 => some (.ok (!b) st1)
theorem pft_not {a : Expr} {t : BF} (ha : PFT X E a t) : PFT X E (.UnaryOp .Not a pos) (notT t) := PT.of (pt_not ha) fun σ H Q h => by
  obtain ⟨ρ, env, st, rel, er, p⟩ := h
  exact ⟨ρ, env, st, rel, er, Post.seq p fun b st1 ρ1 H1 k1 l1 r1 p1 => p1 H1 ρ1 (Keep.refl _) (Le.refl _) r1⟩
def andT (t u : BF) : BF := fun env st => bindR (t env st) fun b st1 => if b = true then u env st1 else some (.ok false st1)
def orT (t u : BF) : BF := fun env st => bindR (t env st) fun b st1 => if b = true then some (.ok true st1) else u env st1
theorem pfw_and1 {a : Expr} {t : BF} (ha : PFT X E a t) : PFW X E (.BoolOp .And [a] pos) t := pw_and1 ha
theorem pfw_or1 {a : Expr} {t : BF} (ha : PFT X E a t) : PFW X E (.BoolOp .Or [a] pos) t := pw_or1 ha
theorem pfw_and {a b : Expr} {rest : List Expr} {t u : BF} (ha : PFT X E a t) (hb : PFW X E (.BoolOp .And (b :: rest) pos) u) : PFW X E (.BoolOp .And (a :: b :: rest) pos) (andT t u) := PW.of (pw_and ha hb) fun σ H Q h => by
  obtain ⟨ρ, env, st, rel, er, p⟩ := h
  refine ⟨ρ, env, st, rel, er, Post.seq p fun b st1 ρ1 H1 k1 l1 r1 p1 => ?_⟩
  cases b with
  | true => exact ⟨ρ1, env, st1, r1, er.mono k1 l1, p1⟩
  | false => exact p1 H1 ρ1 (Keep.refl _) (Le.refl _) r1
theorem pfw_or {a b : Expr} {rest : List Expr} {t u : BF} (ha : PFT X E a t) (hb : PFW X E (.BoolOp .Or (b :: rest) pos) u) : PFW X E (.BoolOp .Or (a :: b :: rest) pos) (orT t u) := PW.of (pw_or ha hb) fun σ H Q h => by
  obtain ⟨ρ, env, st, rel, er, p⟩ := h
  refine ⟨ρ, env, st, rel, er, Post.seq p fun b st1 ρ1 H1 k1 l1 r1 p1 => ?_⟩
  cases b with
  | true => exact p1 H1 ρ1 (Keep.refl _) (Le.refl _) r1
  | false => exact ⟨ρ1, env, st1, r1, er.mono k1 l1, p1⟩
/-- as values -/
def andF (f g : EF) : EF := fun env st => bindR (f env st) fun d st1 => match truD d st1 with
  | some true => g env st1
  | some false => some (.ok d st1)
  | none => none
def orF (f g : EF) : EF := fun env st => bindR (f env st) fun d st1 => match truD d st1 with
  | some true => some (.ok d st1)
  | some false => g env st1
  | none => none
def notF (f : EF) : EF := fun env st => bindR (f env st) fun d st1 => match truD d st1 with
  | some b => some (.ok (.bl (!b)) st1)
  | none => none
theorem pf_one {op : BoolOp} {a : Expr} {f : EF} (ha : PF X E a f) : PF X E (.BoolOp op [a] pos) f := pe_one ha
theorem pf_and {a b : Expr} {rest : List Expr} {f g : EF} (ha : PF X E a f) (hb : PF X E (.BoolOp .And (b :: rest) pos) g) : PF X E (.BoolOp .And (a :: b :: rest) pos) (andF f g) := PE.of (pe_andT ha hb) fun σ H Q h => by
  obtain ⟨ρ, env, st, rel, er, p⟩ := h
  refine ⟨ρ, env, st, rel, er, Post.seq p fun d st1 ρ1 H1 k1 l1 r1 p1 v rv => ?_⟩
  split at p1
  · rename_i h; exact ⟨true, tru_D r1 rv h, by rw [if_pos rfl]; exact ⟨ρ1, env, st1, r1, er.mono k1 l1, p1⟩⟩
  · rename_i h; exact ⟨false, tru_D r1 rv h, by rw [if_neg Bool.false_ne_true]; exact p1.now r1 rv⟩
  · exact p1.elim
theorem pf_or {a b : Expr} {rest : List Expr} {f g : EF} (ha : PF X E a f) (hb : PF X E (.BoolOp .Or (b :: rest) pos) g) : PF X E (.BoolOp .Or (a :: b :: rest) pos) (orF f g) := PE.of (pe_orT ha hb) fun σ H Q h => by
  obtain ⟨ρ, env, st, rel, er, p⟩ := h
  refine ⟨ρ, env, st, rel, er, Post.seq p fun d st1 ρ1 H1 k1 l1 r1 p1 v rv => ?_⟩
  split at p1
  · rename_i h; exact ⟨true, tru_D r1 rv h, by rw [if_pos rfl]; exact p1.now r1 rv⟩
  · rename_i h; exact ⟨false, tru_D r1 rv h, by rw [if_neg Bool.false_ne_true]; exact ⟨ρ1, env, st1, r1, er.mono k1 l1, p1⟩⟩
  · exact p1.elim
theorem pf_not {a : Expr} {f : EF} (ha : PF X E a f) : PF X E (.UnaryOp .Not a pos) (notF f) := PE.of (pe_notT ha) fun σ H Q h => by
  obtain ⟨ρ, env, st, rel, er, p⟩ := h
  refine ⟨ρ, env, st, rel, er, Post.seq p fun d st1 ρ1 H1 k1 l1 r1 p1 v rv => ?_⟩
  split at p1
  · rename_i b h; exact ⟨b, tru_D r1 rv h, p1.now r1 (.bl _)⟩
  · exact p1.elim
def ifF (t : BF) (f g : EF) : EF := fun env st => bindR (t env st) fun b st1 => if b = true then f env st1 else g env st1
theorem pf_if {c a b : Expr} {t : BF} {f g : EF} (hc : PFT X E c t) (ha : PF X E a f) (hb : PF X E b g) : PF X E (.IfExp c a b pos) (ifF t f g) := PE.of (pe_ifExp hc ha hb) fun σ H Q h => by
  obtain ⟨ρ, env, st, rel, er, p⟩ := h
  refine ⟨ρ, env, st, rel, er, Post.seq p fun b st1 ρ1 H1 k1 l1 r1 p1 => ?_⟩
  cases b with
  | true => exact ⟨ρ1, env, st1, r1, er.mono k1 l1, p1⟩
  | false => exact ⟨ρ1, env, st1, r1, er.mono k1 l1, p1⟩
end
end PF
end
section
namespace PF
open PySem PySem.Spec PyProof.Rows L2
section
variable {X : Cx} {E : XK} {pos : Pos}
/-! ### a value in a store: one rule for what makes nothing or a new thing -/
/-- subscripts -/
def ixD : OF := fun d e st => match e with
  | .int i => match d with
    | .tup ds => match atI ds i with
      | some y => some (.ok y st)
      | none => none
    | .fl ds => match atI ds i with
      | some y => some (.ok y st)
      | none => none
    | .cell n => match st[n]? with
      | some (.lst ds) => match atI ds i with
        | some y => some (.ok y st)
        | none => none
      | some (.dct kvs) => match (kvs.find? fun kv => decide (kv.1 = Sum.inl i)) with
        | some kv => some (.ok kv.2 st)
        | none => none
      | _ => none
    | .str z => if z.length ≤ LIM then match atI z.cps.toList i with
      | some c => some (.ok (.str ⟨#[c]⟩) st)
      | none => none else none
    | _ => none
  | .str x => match d with
    | .cell n => match st[n]? with
      | some (.dct kvs) => match (kvs.find? fun kv => decide (kv.1 = Sum.inr x)) with
        | some kv => some (.ok kv.2 st)
        | none => none
      | _ => none
    | _ => none
  | _ => none
theorem atI_rvs {K : Frag} {ρ : List Addr} {H : Hp} {xs : List V} {ds : List D} {i : Int} {y : D} (r : RVs K ρ H xs ds) (h : atI ds i = some y) : ∃ v, atI xs i = some v ∧ RV K ρ H v y := by
  unfold atI at h ⊢
  rw [r.length]
  cases e : ixN ds.length i with
  | none => rw [e] at h; cases h
  | some j =>
    rw [e] at h
    exact r.get (show ds[j]? = some y from h)
theorem find_AL {K : Frag} {ρ : List Addr} {H : Hp} {k : Key} {y : Key × D} : ∀ {ks : List (Key × V)} {kvs : List (Key × D)}, AL K ρ H ks kvs → (kvs.find? fun kv => decide (kv.1 = k)) = some y → ∃ v, valV ks k = some v ∧ RV K ρ H v y.2
  | _, _, .nil, h => by simp at h
  | _, _, .cons (a := p) (b := q) r t, h => by
    by_cases e : p.1 = k
    · rw [List.find?_cons, decide_eq_true (r.1 ▸ e)] at h
      cases h
      exact ⟨p.2, valV_pos e, r.2⟩
    · rw [List.find?_cons, decide_eq_false (fun z => e (r.1.trans z))] at h
      obtain ⟨v, a, b⟩ := find_AL t h
      exact ⟨v, by rw [valV_neg e]; exact a, b⟩
theorem find_AL0 {K : Frag} {ρ : List Addr} {H : Hp} {k : Key} : ∀ {ks : List (Key × V)} {kvs : List (Key × D)}, AL K ρ H ks kvs → (kvs.find? fun kv => decide (kv.1 = k)) = none → valV ks k = none
  | _, _, .nil, _ => rfl
  | _, _, .cons (a := p) (b := q) r t, h => by
    by_cases e : p.1 = k
    · rw [List.find?_cons, decide_eq_true (r.1 ▸ e)] at h
      cases h
    · rw [List.find?_cons, decide_eq_false (fun z => e (r.1.trans z))] at h
      rw [valV_neg e]
      exact find_AL0 t h
/-- a sequence's place -/
def isDct (d : D) (st : Store) : Bool := match d with
  | .cell n => match st[n]? with
    | some (.dct _) => true
    | _ => false
  | _ => false
/-- a[i] of a list, a tuple, a text -/
def ixqD : OF := fun d e st => if isDct d st then none else ixD d e st
theorem pf_ix {a b : Expr} {f1 f2 : EF} (ha : PF X E a f1) (hb : PF X E b f2) (hs : PlainIx b := by intro _ _; rfl) : PF X E (.Subscript a b pos) (binF ixqD f1 f2) := PE.of (pe_ix ix_seq ha hb hs) (bin_w (r := rIx X.K) fun ρ st H v u d e Q rel rv ru p => by
  unfold ixqD at p
  split at p
  · exact p.elim
  · rename_i hnd
    unfold ixD at p
    split at p
    · cases ru
      split at p
      · split at p
        · rename_i h
          cases rv with
          | tup ht rs =>
            obtain ⟨w, e1, e2⟩ := atI_rvs rs h
            exact .inr (.inl ⟨_, _, _, w, rfl, rfl, ht, e1, p.now rel e2⟩)
        · exact p.elim
      · split at p
        · rename_i h
          cases rv with
          | fl ht rs =>
            obtain ⟨w, e1, e2⟩ := atI_rvs rs h
            exact .inl ⟨_, _, _, w, rfl, rfl, ht.seq, e1, p.now rel e2⟩
        · exact p.elim
      · split at p
        · rename_i hn
          split at p
          · rename_i h
            obtain ⟨a, xs, rfl, _, ea, ra⟩ := rel.lst hn rv
            obtain ⟨w, e1, e2⟩ := atI_rvs ra h
            exact .inl ⟨_, _, _, w, rfl, rfl, SqL.of ea, e1, p.now rel e2⟩
          · exact p.elim
        · rename_i hn
          simp [isDct, hn] at hnd
        · exact p.elim
      · cases rv
        split at p
        · rename_i hz
          split at p
          · rename_i h
            exact .inr (.inr ⟨_, _, _, rfl, rfl, Nat.le_trans hz lim_size, h, p.now rel (.str _)⟩)
          · exact p.elim
        · exact p.elim
      · exact p.elim
    · split at p
      · split at p
        · rename_i hn
          simp [isDct, hn] at hnd
        · exact p.elim
      · exact p.elim
    · exact p.elim)
/-- d[k] of a dict -/
def ixdD : OF := fun d e st => if isDct d st then ixD d e st else none
theorem pf_dget {k : Nat} (hr : Room k X.A) {a b : Expr} {f1 f2 : EF} (ha : PF X E a f1) (hb : PF X E b f2) (hs : NoSl b := by intro _ _; rfl) : PF X E (.Subscript a b pos) (binF ixdD f1 f2) := PE.of (pe_dget (hu_of hr) ha hb hs) fun σ H Q h => by
  obtain ⟨ρ, env, st, rel, er, p⟩ := h
  refine ⟨ρ, env, st, rel, er, Post.seq p fun d st1 ρ1 H1 k1 l1 r1 p1 v rv => ⟨ρ1, env, st1, r1, er.mono k1 l1, Post.seq p1 fun e st2 ρ2 H2 k2 l2 r2 p2 u ru => ?_⟩⟩
  have rv2 := rv.mono k2 l2
  unfold ixdD at p2
  split at p2
  · rename_i hd
    unfold isDct at hd
    split at hd
    · split at hd
      · rename_i n kvs hn
        obtain ⟨a, ks, rfl, _, ea, ra⟩ := r2.dct hn rv2
        unfold ixD at p2
        split at p2
        · cases ru
          simp only [hn] at p2
          split at p2
          · rename_i h
            obtain ⟨w, e1, e2⟩ := find_AL ra h
            refine ⟨a, w, rfl, ?_, p2.now r2 e2⟩
            rw [← e1]
            exact DGet.k (k := Sum.inl _) ea
          · exact p2.elim
        · cases ru
          simp only [hn] at p2
          split at p2
          · rename_i h
            obtain ⟨w, e1, e2⟩ := find_AL ra h
            refine ⟨a, w, rfl, ?_, p2.now r2 e2⟩
            rw [← e1]
            exact DGet.k (k := Sum.inr _) ea
          · exact p2.elim
        · exact p2.elim
      · cases hd
    · cases hd
  · exact p2.elim

/-! ### slices -/
abbrev PF_ := Env → Store → Option (Rs (Option Int))
def tFO (K : Frag) (E : XK) (f : PF_) : TO := fun σ H Q => ∃ ρ env st, Rel K ρ st H ∧ EnvR K ρ H σ env ∧ Post K H ρ (f env st) (fun o _ _ H' => Q o H') E
theorem PO.of {e : Option Expr} {t t' : TO} (h : PO X e t) (w : ∀ σ H Q, t' σ H Q → t σ H Q) : PO X e t' := ⟨fun pins s σ H Q I q => h.run pins s σ H Q I (w σ H Q q)⟩
abbrev PFO (X : Cx) (E : XK) (e : Option Expr) (f : PF_) : Prop := PO X e (tFO X.K E f)
def noPart : PF_ := fun _ st => some (.ok none st)
def partF (f : EF) : PF_ := fun env st => bindR (f env st) fun d st1 => match d with
  | .int i => some (.ok (some i) st1)
  | _ => none
theorem pfo_none : PFO X E none noPart := PO.of po_none fun σ H Q h => by
  obtain ⟨ρ, env, st, rel, er, p⟩ := h
  exact p H ρ (Keep.refl _) (Le.refl _) rel
theorem pfo_some {e : Expr} {f : EF} (h : PF X E e f) : PFO X E (some e) (partF f) := PO.of (po_some h) fun σ H Q h => by
  obtain ⟨ρ, env, st, rel, er, p⟩ := h
  refine ⟨ρ, env, st, rel, er, Post.seq p fun d st1 ρ1 H1 k1 l1 r1 p1 v rv => ?_⟩
  split at p1
  · cases rv
    exact ⟨_, rfl, p1 H1 ρ1 (Keep.refl _) (Le.refl _) r1⟩
  · exact p1.elim
def cutD (ds : List D) (lo hi : Option Int) : List D := (ds.drop (HT.sIx ds.length 0 lo)).take (HT.sIx ds.length ds.length hi - HT.sIx ds.length 0 lo)
theorem cut_rvs {K : Frag} {ρ : List Addr} {H : Hp} {xs : List V} {ds : List D} (lo hi : Option Int) (r : RVs K ρ H xs ds) : RVs K ρ H (cutV xs lo hi) (cutD ds lo hi) := by
  unfold cutV cutD
  rw [r.length]
  exact (r.drop _).take _
def slD (d : D) (lo hi : Option Int) (st : Store) : Option (Rs D) := match d with
  | .str z => if z.length ≤ LIM then some (.ok (.str (Txt.slice z lo hi)) st) else none
  | .tup ds => some (.ok (.tup (cutD ds lo hi)) st)
  | .fl ds => some (.ok (.cell st.length) (st ++ [.lst (cutD ds lo hi)]))
  | .cell n => match st[n]? with
    | some (.lst ds) => some (.ok (.cell st.length) (st ++ [.lst (cutD ds lo hi)]))
    | _ => none
  | _ => none
def sliceF (f : EF) (lo hi : PF_) : EF := fun env st => bindR (f env st) fun d st1 => bindR (lo env st1) fun l st2 => bindR (hi env st2) fun h st3 => slD d l h st3
theorem cutD_all (ds : List D) (lo hi : Option Int) (h : HT.sIx ds.length 0 lo = 0 ∧ HT.sIx ds.length ds.length hi = ds.length) : cutD ds lo hi = ds := by
  unfold cutD
  rw [h.1, h.2]
  simp
theorem pf_slice {e : Expr} {lo hi : Option Expr} {p2 : Pos} {f : EF} {fl fh : PF_} (he : PF X E e f) (hl : PFO X E lo fl) (hh : PFO X E hi fh) : PF X E (.Subscript e (.Slice lo hi none p2) pos) (sliceF f fl fh) := PE.of (pe_slice (SlR.or sl_list (SlR.or sl_tupA C8.sl_txt)) he hl hh) fun σ H Q h => by
  obtain ⟨ρ, env, st, rel, er, p⟩ := h
  refine ⟨ρ, env, st, rel, er, Post.seq p fun d st1 ρ1 H1 k1 l1 r1 p1 v rv => ⟨ρ1, env, st1, r1, er.mono k1 l1, Post.seq p1 fun l st2 ρ2 H2 k2 l2 r2 p2 => ⟨ρ2, env, st2, r2, (er.mono k1 l1).mono k2 l2, Post.seq p2 fun u st3 ρ3 H3 k3 l3 r3 p3 => ?_⟩⟩⟩
  have rv3 := (rv.mono k2 l2).mono k3 l3
  unfold slD at p3
  split at p3
  · cases rv3
    split at p3
    · rename_i hz
      exact .inr (.inr ⟨_, rfl, Nat.le_trans hz lim_size, p3.now r3 (.str _)⟩)
    · exact p3.elim
  · cases rv3 with
    | tup ht rs =>
      refine .inr (.inl ⟨_, _, rfl, ht, fun hw => ?_, fun _ => p3.tup r3 (cut_rvs l u rs)⟩)
      rw [rs.length] at hw
      rw [cutD_all _ _ _ hw] at p3
      exact p3.now r3 (.tup ht rs)
  · cases rv3 with
    | fl ht rs => exact .inl ⟨_, _, rfl, ht.seq, p3.lst r3 (cut_rvs l u rs)⟩
  · split at p3
    · rename_i hn
      obtain ⟨a, xs, rfl, _, ea, ra⟩ := r3.lst hn rv3
      exact .inl ⟨_, _, rfl, SqL.of ea, p3.lst r3 (cut_rvs l u ra)⟩
    · exact p3.elim
  · exact p3.elim

/-! ### arguments, displays -/
def nilA : AF := fun _ st => some (.ok [] st)
def consA (f : EF) (g : AF) : AF := fun env st => bindR (f env st) fun d st1 => bindR (g env st1) fun ds st2 => some (.ok (d :: ds) st2)
theorem pfa_nil : PFA X E [] nilA := PA.of pa_nil fun σ H Q h => by
  obtain ⟨ρ, env, st, rel, er, p⟩ := h
  exact p H ρ (Keep.refl _) (Le.refl _) rel [] .nil
theorem pfa_cons {e : Expr} {es : List Expr} {f : EF} {g : AF} (ha : PF X E e f) (hb : PFA X E es g) (hs : starEach (e :: es) X.env = (false, eval e X.env) :: starEach es X.env := by rfl) : PFA X E (e :: es) (consA f g) := PA.of (pa_cons ha hb hs) fun σ H Q h => by
  obtain ⟨ρ, env, st, rel, er, p⟩ := h
  exact ⟨ρ, env, st, rel, er, Post.seq p fun d st1 ρ1 H1 k1 l1 r1 p1 v rv => ⟨ρ1, env, st1, r1, er.mono k1 l1, Post.seq p1 fun ds st2 ρ2 H2 k2 l2 r2 p2 vs rs => p2 H2 ρ2 (Keep.refl _) (Le.refl _) r2 _ (.cons (rv.mono k2 l2) rs)⟩⟩
def tupF (g : AF) : EF := fun env st => bindR (g env st) fun ds st1 => if ds.length ≤ LIM then some (.ok (.tup ds) st1) else none
def lstF (g : AF) : EF := fun env st => bindR (g env st) fun ds st1 => if ds.length ≤ LIM then some (.ok (.cell st1.length) (st1 ++ [.lst ds])) else none
theorem pf_tup {es : List Expr} {x1 : Nat} {g : AF} (h : PFA X E es g) : PF X E (.Tuple es x1 pos) (tupF g) := PE.of (pe_tup h) fun σ H Q h => by
  obtain ⟨ρ, env, st, rel, er, p⟩ := h
  refine ⟨ρ, env, st, rel, er, Post.seq p fun ds st1 ρ1 H1 k1 l1 r1 p1 vs rs => ?_⟩
  split at p1
  · rename_i hl
    exact ⟨by rw [rs.length]; exact Nat.le_trans hl lim_size, p1.tup r1 rs⟩
  · exact p1.elim
theorem pf_lst {es : List Expr} {g : AF} (h : PFA X E es g) : PF X E (.List es pos) (lstF g) := PE.of (pe_lst h) fun σ H Q h => by
  obtain ⟨ρ, env, st, rel, er, p⟩ := h
  refine ⟨ρ, env, st, rel, er, Post.seq p fun ds st1 ρ1 H1 k1 l1 r1 p1 vs rs => ?_⟩
  split at p1
  · rename_i hl
    exact ⟨by rw [rs.length]; exact Nat.le_trans hl lim_size, p1.lst r1 rs⟩
  · exact p1.elim
def dctF0 : EF := fun _ st => some (.ok (.cell st.length) (st ++ [.dct []]))
theorem pf_dct0 : PF X E (.Dict [] [] pos) dctF0 := PE.of pe_dnewK fun σ H Q h => by
  obtain ⟨ρ, env, st, rel, er, p⟩ := h
  exact p.dct rel .nil

/-! ### built-in functions and types -/
abbrev CF := List D → Store → Option (Rs D)
def callF (g : CF) (fa : AF) : EF := fun env st => bindR (fa env st) fun ds st1 => g ds st1
def CallS (K : Frag) (E : XK) (r : List V → Hp → VK → Prop) (g : CF) : Prop := ∀ ρ st H vs ds Q, Rel K ρ st H → RVs K ρ H vs ds → Post K H ρ (g ds st) (PQ K Q) E → r vs H Q
theorem call_w {K : Frag} {r : List V → Hp → VK → Prop} {g : CF} {fa : AF} (hs : CallS K E r g) : ∀ σ H Q, tF K E (callF g fa) σ H Q → tCB r (tFA K E fa) σ H Q := fun σ H Q h => by
  obtain ⟨ρ, env, st, rel, er, p⟩ := h
  exact ⟨ρ, env, st, rel, er, Post.seq p fun ds st1 ρ1 H1 k1 l1 r1 p1 vs rs => hs ρ1 st1 H1 vs ds Q r1 rs p1⟩
theorem pf_callB {x : Str} {id : String} {p : Pos} {e : Expr} {es : List Expr} {r : List V → Hp → VK → Prop} {g : CF} {fa : AF} (hc : CallR X (.builtin id) r) (hs : CallS X.K E r g) (hm : X.mg x = none) (hv : bootBuiltins x = some (.builtin id)) (ha : PFA X E (e :: es) fa) (hg : Gl X x := by rfl)
    (hn : x ≠ "__name__" := by decide) (hdb : (x == ("__debug__" : Str)) = false := by decide) (he : starEach (e :: es) X.env = (false, eval e X.env) :: starEach es X.env := by rfl) (hpl : (backTo pos (starEach es X.env)).any (·.1) = false := by rfl) : PF X E (.Call (.Name x p) (e :: es) [] pos) (callF g fa) :=
  PE.of (pe_callB hc hg hm hv ha hn hdb he hpl) (call_w hs)
theorem pf_callTy {x : Str} {id : String} {p : Pos} {e : Expr} {es : List Expr} {r : List V → Hp → VK → Prop} {g : CF} {fa : AF} (hc : CallR X (.type id) r) (hs : CallS X.K E r g) (hm : X.mg x = none) (hv : bootBuiltins x = some (.type id)) (ha : PFA X E (e :: es) fa) (hg : Gl X x := by rfl)
    (hn : x ≠ "__name__" := by decide) (hdb : (x == ("__debug__" : Str)) = false := by decide) (he : starEach (e :: es) X.env = (false, eval e X.env) :: starEach es X.env := by rfl) (hpl : (backTo pos (starEach es X.env)).any (·.1) = false := by rfl) : PF X E (.Call (.Name x p) (e :: es) [] pos) (callF g fa) :=
  PE.of (pe_callTy hc hg hm hv ha hn hdb he hpl) (call_w hs)
/-- a builtin that a name of the module's stands for (from math import gcd) -/
theorem pf_callG {x : Str} {id : String} {p : Pos} {e : Expr} {es : List Expr} {r : List V → Hp → VK → Prop} {g : CF} {fa : AF} (hc : CallR X (.builtin id) r) (hs : CallS X.K E r g) (hm : X.mg x = some (.builtin id)) (ha : PFA X E (e :: es) fa) (hg : Gl X x := by rfl)
    (hdb : (x == ("__debug__" : Str)) = false := by decide) (he : starEach (e :: es) X.env = (false, eval e X.env) :: starEach es X.env := by rfl) (hpl : (backTo pos (starEach es X.env)).any (·.1) = false := by rfl) : PF X E (.Call (.Name x p) (e :: es) [] pos) (callF g fa) :=
  PE.of (pe_callBfun hc hg hm ha hdb he hpl) (call_w hs)

/-- len -/
def lenD : CF := fun ds st => match ds with
  | [.str z] => if z.length ≤ LIM then some (.ok (.int z.length) st) else none
  | [.tup xs] => some (.ok (.int xs.length) st)
  | [.fl xs] => some (.ok (.int xs.length) st)
  | [.cell n] => match st[n]? with
    | some (.lst xs) => some (.ok (.int xs.length) st)
    | some (.dct xs) => some (.ok (.int xs.length) st)
    | _ => none
  | _ => none
theorem al_length {κ : Type} {K : Frag} {ρ : List Addr} {H : Hp} : ∀ {xs : List (κ × V)} {ds : List (κ × D)}, AL K ρ H xs ds → xs.length = ds.length
  | _, _, .nil => rfl
  | _, _, .cons _ t => by rw [List.length_cons, List.length_cons, al_length t]
theorem rvs1 {K : Frag} {ρ : List Addr} {H : Hp} {vs : List V} {d : D} (r : RVs K ρ H vs [d]) : ∃ v, vs = [v] ∧ RV K ρ H v d := by
  cases r with
  | cons a t => cases t; exact ⟨_, rfl, a⟩
theorem rvs2 {K : Frag} {ρ : List Addr} {H : Hp} {vs : List V} {d e : D} (r : RVs K ρ H vs [d, e]) : ∃ v u, vs = [v, u] ∧ RV K ρ H v d ∧ RV K ρ H u e := by
  cases r with
  | cons a t => cases t with
    | cons b t => cases t; exact ⟨_, _, rfl, a, b⟩
theorem pf_len {p : Pos} {e : Expr} {es : List Expr} {fa : AF} (hm : X.mg "len" = none) (ha : PFA X E (e :: es) fa) (hg : Gl X "len" := by rfl)
    (he : starEach (e :: es) X.env = (false, eval e X.env) :: starEach es X.env := by rfl) (hpl : (backTo pos (starEach es X.env)).any (·.1) = false := by rfl) : PF X E (.Call (.Name "len" p) (e :: es) [] pos) (callF lenD fa) := by
  refine pf_callB (CallR.or call_len_seq (CallR.or call_len_str call_lenD)) (fun ρ st H vs ds Q rel rs p => ?_) hm PySem.boot_len ha hg (he := he) (hpl := hpl)
  unfold lenD at p
  split at p
  · obtain ⟨v, rfl, r⟩ := rvs1 rs
    cases r
    split at p
    · rename_i hz
      exact .inr (.inl ⟨_, rfl, Nat.le_trans hz lim_size, p.now rel (.int _)⟩)
    · exact p.elim
  · obtain ⟨v, rfl, r⟩ := rvs1 rs
    cases r with
    | tup ht rs =>
      refine .inl ⟨_, _, rfl, .inr ht, ?_⟩
      rw [rs.length]
      exact p.now rel (.int _)
  · obtain ⟨v, rfl, r⟩ := rvs1 rs
    cases r with
    | fl ht rs =>
      refine .inl ⟨_, _, rfl, .inl ht.seq, ?_⟩
      rw [rs.length]
      exact p.now rel (.int _)
  · obtain ⟨v, rfl, r⟩ := rvs1 rs
    split at p
    · rename_i hn
      obtain ⟨a, xs, rfl, _, ea, ra⟩ := rel.lst hn r
      refine .inl ⟨_, _, rfl, .inl (SqL.of ea), ?_⟩
      rw [ra.length]
      exact p.now rel (.int _)
    · rename_i hn
      obtain ⟨a, xs, rfl, _, ea, ra⟩ := rel.dct hn r
      refine .inr (.inr ⟨a, xs, rfl, ea, ?_⟩)
      rw [al_length ra]
      exact p.now rel (.int _)
    · exact p.elim
  · exact p.elim
/-- int -/
def intD : CF := fun ds st => match ds with
  | [.int i] => some (.ok (.int i) st)
  | [.bl b] => some (.ok (.int (if b then 1 else 0)) st)
  | [.str x] => match PySem.intText? x with
    | some n => if x.length ≤ 640 then some (.ok (.int n) st) else none
    | none => none
  | _ => none
theorem pf_intC {p : Pos} {e : Expr} {es : List Expr} {fa : AF} (hm : X.mg "int" = none) (ha : PFA X E (e :: es) fa) (hg : Gl X "int" := by rfl)
    (he : starEach (e :: es) X.env = (false, eval e X.env) :: starEach es X.env := by rfl) (hpl : (backTo pos (starEach es X.env)).any (·.1) = false := by rfl) : PF X E (.Call (.Name "int" p) (e :: es) [] pos) (callF intD fa) := by
  refine pf_callTy (CallR.or call_int1 call_int_str) (fun ρ st H vs ds Q rel rs p => ?_) hm (by decide +kernel) ha hg (he := he) (hpl := hpl)
  unfold intD at p
  split at p
  · obtain ⟨v, rfl, r⟩ := rvs1 rs
    cases r
    exact .inl (.inl ⟨_, rfl, p.now rel (.int _)⟩)
  · obtain ⟨v, rfl, r⟩ := rvs1 rs
    cases r
    exact .inl (.inr ⟨_, rfl, p.now rel (.int _)⟩)
  · obtain ⟨v, rfl, r⟩ := rvs1 rs
    cases r
    split at p
    · rename_i h
      split at p
      · rename_i hz
        exact .inr ⟨_, _, rfl, h, hz, p.now rel (.int _)⟩
      · exact p.elim
    · exact p.elim
  · exact p.elim
/-- str -/
def strD : CF := fun ds st => match ds with
  | [.int i] => if i.natAbs.log2 < 1920 then some (.ok (.str (toString i)) st) else none
  | [.str x] => some (.ok (.str x) st)
  | _ => none
theorem pf_strC {p : Pos} {e : Expr} {es : List Expr} {fa : AF} (hm : X.mg "str" = none) (ha : PFA X E (e :: es) fa) (hg : Gl X "str" := by rfl)
    (he : starEach (e :: es) X.env = (false, eval e X.env) :: starEach es X.env := by rfl) (hpl : (backTo pos (starEach es X.env)).any (·.1) = false := by rfl) : PF X E (.Call (.Name "str" p) (e :: es) [] pos) (callF strD fa) := by
  refine pf_callTy (CallR.or call_str_int SkE.call_str_str) (fun ρ st H vs ds Q rel rs p => ?_) hm (by decide +kernel) ha hg (he := he) (hpl := hpl)
  unfold strD at p
  split at p
  · obtain ⟨v, rfl, r⟩ := rvs1 rs
    cases r
    split at p
    · rename_i h
      exact .inl ⟨_, rfl, h, p.now rel (.str _)⟩
    · exact p.elim
  · obtain ⟨v, rfl, r⟩ := rvs1 rs
    cases r
    exact .inr ⟨_, rfl, p.now rel (.str _)⟩
  · exact p.elim
/-- abs, max, min of two, gcd -/
def absD : CF := fun ds st => match ds with
  | [.int i] => some (.ok (.int (if i < 0 then -i else i)) st)
  | _ => none
theorem cs_abs {K : Frag} : CallS K E (fun xs H Q => ∃ i, xs = [.int i] ∧ Q (.int (if i < 0 then -i else i)) H) absD := fun ρ st H vs ds Q rel rs p => by
  unfold absD at p
  split at p
  · obtain ⟨v, rfl, r⟩ := rvs1 rs
    cases r
    exact ⟨_, rfl, p.now rel (.int _)⟩
  · exact p.elim
theorem pf_abs {p : Pos} {e : Expr} {es : List Expr} {fa : AF} (hm : X.mg "abs" = none) (ha : PFA X E (e :: es) fa) (hg : Gl X "abs" := by rfl)
    (he : starEach (e :: es) X.env = (false, eval e X.env) :: starEach es X.env := by rfl) (hpl : (backTo pos (starEach es X.env)).any (·.1) = false := by rfl) : PF X E (.Call (.Name "abs" p) (e :: es) [] pos) (callF absD fa) :=
  pf_callB call_abs cs_abs hm (by decide +kernel) ha hg (he := he) (hpl := hpl)
def maxD : CF := fun ds st => match ds with
  | [.int i, .int j] => some (.ok (.int (if j > i then j else i)) st)
  | _ => none
def minD : CF := fun ds st => match ds with
  | [.int i, .int j] => some (.ok (.int (if j < i then j else i)) st)
  | _ => none
theorem pf_max {p : Pos} {e : Expr} {es : List Expr} {fa : AF} (hcm : X.calm = true) (hm : X.mg "max" = none) (ha : PFA X E (e :: es) fa) (hg : Gl X "max" := by rfl)
    (he : starEach (e :: es) X.env = (false, eval e X.env) :: starEach es X.env := by rfl) (hpl : (backTo pos (starEach es X.env)).any (·.1) = false := by rfl) : PF X E (.Call (.Name "max" p) (e :: es) [] pos) (callF maxD fa) :=
  pf_callB (call_max2 hcm) (fun ρ st H vs ds Q rel rs p => by
    unfold maxD at p
    split at p
    · obtain ⟨v, u, rfl, r, r'⟩ := rvs2 rs
      cases r; cases r'
      exact ⟨_, _, rfl, p.now rel (.int _)⟩
    · exact p.elim) hm (by decide +kernel) ha hg (he := he) (hpl := hpl)
theorem pf_min {p : Pos} {e : Expr} {es : List Expr} {fa : AF} (hcm : X.calm = true) (hm : X.mg "min" = none) (ha : PFA X E (e :: es) fa) (hg : Gl X "min" := by rfl)
    (he : starEach (e :: es) X.env = (false, eval e X.env) :: starEach es X.env := by rfl) (hpl : (backTo pos (starEach es X.env)).any (·.1) = false := by rfl) : PF X E (.Call (.Name "min" p) (e :: es) [] pos) (callF minD fa) :=
  pf_callB (call_min2 hcm) (fun ρ st H vs ds Q rel rs p => by
    unfold minD at p
    split at p
    · obtain ⟨v, u, rfl, r, r'⟩ := rvs2 rs
      cases r; cases r'
      exact ⟨_, _, rfl, p.now rel (.int _)⟩
    · exact p.elim) hm (by decide +kernel) ha hg (he := he) (hpl := hpl)
def gcdD : CF := fun ds st => match ds with
  | [.int i, .int j] => some (.ok (.int ((Nat.gcd i.natAbs j.natAbs : Nat) : Int)) st)
  | _ => none
theorem pf_gcd {x : Str} {p : Pos} {e : Expr} {es : List Expr} {fa : AF} (hm : X.mg x = some (.builtin "math.gcd")) (ha : PFA X E (e :: es) fa) (hg : Gl X x := by rfl)
    (hdb : (x == ("__debug__" : Str)) = false := by decide) (he : starEach (e :: es) X.env = (false, eval e X.env) :: starEach es X.env := by rfl) (hpl : (backTo pos (starEach es X.env)).any (·.1) = false := by rfl) : PF X E (.Call (.Name x p) (e :: es) [] pos) (callF gcdD fa) :=
  pf_callG cr_gcd (fun ρ st H vs ds Q rel rs p => by
    unfold gcdD at p
    split at p
    · obtain ⟨v, u, rfl, r, r'⟩ := rvs2 rs
      cases r; cases r'
      exact ⟨_, _, rfl, p.now rel (.int _)⟩
    · exact p.elim) hm ha hg hdb (he := he) (hpl := hpl)
/-- all, any of a list of bools -/
def bools : List D → Option (List Bool)
  | [] => some []
  | .bl b :: r => match bools r with
    | some bs => some (b :: bs)
    | none => none
  | _ :: _ => none
theorem bools_ok {K : Frag} {ρ : List Addr} {H : Hp} : ∀ {xs : List V} {ds : List D} {bs : List Bool}, RVs K ρ H xs ds → bools ds = some bs → xs = bs.map V.bl
  | _, _, _, .nil, h => by cases h; rfl
  | _, _, _, .cons r t, h => by
    unfold bools at h
    split at h
    · contradiction
    · split at h
      · rename_i e1 bs hb
        cases h
        rename_i b r' he
        cases he
        cases r
        rw [bools_ok t hb]
        rfl
      · cases h
    · cases h
def allD (any : Bool) : CF := fun ds st => match ds with
  | [.cell n] => match st[n]? with
    | some (.lst xs) => match bools xs with
      | some bs => some (.ok (.bl (if any then bs.any id else bs.all id)) st)
      | none => none
    | _ => none
  | _ => none
theorem pf_all {p : Pos} {e : Expr} {es : List Expr} {fa : AF} (hcm : X.calm = true) (hm : X.mg "all" = none) (ha : PFA X E (e :: es) fa) (hg : Gl X "all" := by rfl)
    (he : starEach (e :: es) X.env = (false, eval e X.env) :: starEach es X.env := by rfl) (hpl : (backTo pos (starEach es X.env)).any (·.1) = false := by rfl) : PF X E (.Call (.Name "all" p) (e :: es) [] pos) (callF (allD false) fa) :=
  pf_callB (cr_all hcm) (fun ρ st H vs ds Q rel rs p => by
    unfold allD at p
    split at p
    · obtain ⟨v, rfl, r⟩ := rvs1 rs
      split at p
      · rename_i hn
        split at p
        · rename_i bs hb
          obtain ⟨a, xs, rfl, _, ea, ra⟩ := rel.lst hn r
          exact ⟨a, bs, rfl, by rw [← bools_ok ra hb]; exact SqL.of ea, p.now rel (.bl _)⟩
        · exact p.elim
      · exact p.elim
    · exact p.elim) hm (by decide +kernel) ha hg (he := he) (hpl := hpl)
theorem pf_any {p : Pos} {e : Expr} {es : List Expr} {fa : AF} (hcm : X.calm = true) (hm : X.mg "any" = none) (ha : PFA X E (e :: es) fa) (hg : Gl X "any" := by rfl)
    (he : starEach (e :: es) X.env = (false, eval e X.env) :: starEach es X.env := by rfl) (hpl : (backTo pos (starEach es X.env)).any (·.1) = false := by rfl) : PF X E (.Call (.Name "any" p) (e :: es) [] pos) (callF (allD true) fa) :=
  pf_callB (cr_any hcm) (fun ρ st H vs ds Q rel rs p => by
    unfold allD at p
    split at p
    · obtain ⟨v, rfl, r⟩ := rvs1 rs
      split at p
      · rename_i hn
        split at p
        · rename_i bs hb
          obtain ⟨a, xs, rfl, _, ea, ra⟩ := rel.lst hn r
          exact ⟨a, bs, rfl, by rw [← bools_ok ra hb]; exact SqL.of ea, p.now rel (.bl _)⟩
        · exact p.elim
      · exact p.elim
    · exact p.elim) hm (by decide +kernel) ha hg (he := he) (hpl := hpl)
/-- list, tuple of a list or tuple -/
def listD : CF := fun ds st => match ds with
  | [.tup xs] => some (.ok (.cell st.length) (st ++ [.lst xs]))
  | [.cell n] => match st[n]? with
    | some (.lst xs) => some (.ok (.cell st.length) (st ++ [.lst xs]))
    | _ => none
  | _ => none
theorem pf_listC {p : Pos} {e : Expr} {es : List Expr} {fa : AF} (hm : X.mg "list" = none) (ha : PFA X E (e :: es) fa) (hg : Gl X "list" := by rfl)
    (he : starEach (e :: es) X.env = (false, eval e X.env) :: starEach es X.env := by rfl) (hpl : (backTo pos (starEach es X.env)).any (·.1) = false := by rfl) : PF X E (.Call (.Name "list" p) (e :: es) [] pos) (callF listD fa) :=
  pf_callTy call_list_of (fun ρ st H vs ds Q rel rs p => by
    unfold listD at p
    split at p
    · obtain ⟨v, rfl, r⟩ := rvs1 rs
      cases r with
      | tup ht rs => exact ⟨_, _, rfl, .inr ht, p.lst rel rs⟩
    · obtain ⟨v, rfl, r⟩ := rvs1 rs
      split at p
      · rename_i hn
        obtain ⟨a, xs, rfl, _, ea, ra⟩ := rel.lst hn r
        exact ⟨_, _, rfl, .inl (SqL.of ea), p.lst rel ra⟩
      · exact p.elim
    · exact p.elim) hm (by decide +kernel) ha hg (he := he) (hpl := hpl)
def tupleD : CF := fun ds st => match ds with
  | [.tup xs] => some (.ok (.tup xs) st)
  | [.cell n] => match st[n]? with
    | some (.lst xs) => some (.ok (.tup xs) st)
    | _ => none
  | _ => none
theorem pf_tupleC {p : Pos} {e : Expr} {es : List Expr} {fa : AF} (hm : X.mg "tuple" = none) (ha : PFA X E (e :: es) fa) (hg : Gl X "tuple" := by rfl)
    (he : starEach (e :: es) X.env = (false, eval e X.env) :: starEach es X.env := by rfl) (hpl : (backTo pos (starEach es X.env)).any (·.1) = false := by rfl) : PF X E (.Call (.Name "tuple" p) (e :: es) [] pos) (callF tupleD fa) :=
  pf_callTy call_tuple_of (fun ρ st H vs ds Q rel rs p => by
    unfold tupleD at p
    split at p
    · obtain ⟨v, rfl, r⟩ := rvs1 rs
      cases r with
      | tup ht rs => exact ⟨_, _, rfl, .inr ⟨ht, p.now rel (.tup ht rs)⟩⟩
    · obtain ⟨v, rfl, r⟩ := rvs1 rs
      split at p
      · rename_i hn
        obtain ⟨a, xs, rfl, _, ea, ra⟩ := rel.lst hn r
        exact ⟨_, _, rfl, .inl ⟨SqL.of ea, p.tup rel ra⟩⟩
      · exact p.elim
    · exact p.elim) hm (by decide +kernel) ha hg (he := he) (hpl := hpl)
/-- sum of a list of intsOf -/
def intsOf : List D → Option (List Int)
  | [] => some []
  | .int b :: r => match intsOf r with
    | some bs => some (b :: bs)
    | none => none
  | _ :: _ => none
theorem intsOf_ok {K : Frag} {ρ : List Addr} {H : Hp} : ∀ {xs : List V} {ds : List D} {bs : List Int}, RVs K ρ H xs ds → intsOf ds = some bs → xs = bs.map V.int
  | _, _, _, .nil, h => by cases h; rfl
  | _, _, _, .cons r t, h => by
    unfold intsOf at h
    split at h
    · contradiction
    · split at h
      · rename_i e1 bs hb
        cases h
        rename_i b r' he
        cases he
        cases r
        rw [intsOf_ok t hb]
        rfl
      · cases h
    · cases h
def sumD : CF := fun ds st => match ds with
  | [.cell n] => match st[n]? with
    | some (.lst xs) => match intsOf xs with
      | some bs => some (.ok (.int bs.sum) st)
      | none => none
    | _ => none
  | _ => none
theorem pf_sum {p : Pos} {e : Expr} {es : List Expr} {fa : AF} (hcm : X.calm = true) (hm : X.mg "sum" = none) (ha : PFA X E (e :: es) fa) (hg : Gl X "sum" := by rfl)
    (he : starEach (e :: es) X.env = (false, eval e X.env) :: starEach es X.env := by rfl) (hpl : (backTo pos (starEach es X.env)).any (·.1) = false := by rfl) : PF X E (.Call (.Name "sum" p) (e :: es) [] pos) (callF sumD fa) :=
  pf_callB (cr_sum hcm) (fun ρ st H vs ds Q rel rs p => by
    unfold sumD at p
    split at p
    · obtain ⟨v, rfl, r⟩ := rvs1 rs
      split at p
      · rename_i hn
        split at p
        · rename_i bs hb
          obtain ⟨a, xs, rfl, _, ea, ra⟩ := rel.lst hn r
          exact ⟨a, bs, rfl, by rw [← intsOf_ok ra hb]; exact SqL.of ea, p.now rel (.int _)⟩
        · exact p.elim
      · exact p.elim
    · exact p.elim) hm (by decide +kernel) ha hg (he := he) (hpl := hpl)
end
end PF
end
section
namespace PF
open PySem PySem.Spec PyProof.Rows L2
section
variable {X : Cx} {E : XK} {pos : Pos}
/-! ### methods of built-in types -/
abbrev MF := D → List D → Store → Option (Rs D)
def CallMS (K : Frag) (E : XK) (r : V → List V → Hp → VK → Prop) (g : MF) : Prop := ∀ ρ st H v d us es Q, Rel K ρ st H → RV K ρ H v d → RVs K ρ H us es → Post K H ρ (g d es st) (PQ K Q) E → r v us H Q
def kStr (d : D) (_ : Store) : Bool := match d with
  | .str _ => true
  | _ => false
def kLst (d : D) (st : Store) : Bool := match d with
  | .cell n => match st[n]? with
    | some (.lst _) => true
    | _ => false
  | _ => false
def mthF (knd : D → Store → Bool) (g : MF) (fo : EF) (fa : AF) : EF := fun env st => bindR (fo env st) fun d st1 => if knd d st1 = true then bindR (fa env st1) fun es st2 => g d es st2 else none
def Knd (K : Frag) (T : String) (knd : D → Store → Bool) : Prop := ∀ ρ st H v d, Rel K ρ st H → RV K ρ H v d → knd d st = true → tyV K T v H
theorem knd_str {K : Frag} : Knd K "str" kStr := fun ρ st H v d rel r h => by
  unfold kStr at h
  split at h
  · cases r; rfl
  · cases h
theorem knd_lst {K : Frag} : Knd K "list" kLst := fun ρ st H v d rel r h => by
  unfold kLst at h
  split at h
  · split at h
    · rename_i hn
      obtain ⟨a, xs, rfl, _, ea, ra⟩ := rel.lst hn r
      exact .inl ⟨rfl, xs, SqL.of ea⟩
    · cases h
  · cases h
theorem knd_dct {K : Frag} : Knd K "dict" isDct := fun ρ st H v d rel r h => by
  unfold isDct at h
  split at h
  · split at h
    · rename_i hn
      obtain ⟨a, xs, rfl, _, ea, ra⟩ := rel.dct hn r
      exact .inr (.inr (.inl ⟨rfl, .inl ⟨xs, ea⟩⟩))
    · cases h
  · cases h
theorem pf_m {T id : String} {name : Str} {o e : Expr} {es : List Expr} {apos cpos : Pos} {r : V → List V → Hp → VK → Prop} {knd : D → Store → Bool} {g : MF} {fo : EF} {fa : AF} (pa : PlainAttrs T) (slot : Slot T name id) (hty : typeOf (.builtin id) = pure (.type "method_descriptor")) (hm : MtR X id r)
    (hk : Knd X.K T knd) (hs : CallMS X.K E r g) (ho : PF X E o fo) (ha : PFA X E (e :: es) fa)
    (hbase : attributeBase o name X.env (eval o X.env) = eval o X.env := by rfl)
    (hfew : ((backTo cpos (starEach (e :: es) X.env)).all (fun x => !x.1) && (backToKw cpos (keywordEach [] X.env)).all (fun x => x.1.isSome)
      && decide ((e :: es).length + ([] : List Keyword).length + (if ([] : List Keyword).isEmpty then 0 else 1) < 30)) = true := by rfl)
    (hline : (apos.endLine == cpos.line) = true := by rfl) (hs1 : starEach (e :: es) X.env = (false, eval e X.env) :: starEach es X.env := by rfl) (hplain : (backTo cpos (starEach es X.env)).any (·.1) = false := by rfl) :
    PF X E (.Call (.Attribute o name apos) (e :: es) [] cpos) (mthF knd g fo fa) := PE.of (pe_bm pa slot hty hm ho ha hbase hfew hline hs1 hplain) fun σ H Q h => by
  obtain ⟨ρ, env, st, rel, er, p⟩ := h
  refine ⟨ρ, env, st, rel, er, Post.seq p fun d st1 ρ1 H1 k1 l1 r1 p1 v rv => ?_⟩
  split at p1
  · rename_i hd
    exact ⟨hk ρ1 st1 H1 v d r1 rv hd, ρ1, env, st1, r1, er.mono k1 l1, Post.seq p1 fun es st2 ρ2 H2 k2 l2 r2 p2 us ru => hs ρ2 st2 H2 v d us es Q r2 (rv.mono k2 l2) ru p2⟩
  · exact p1.elim
def mth0F (knd : D → Store → Bool) (g : MF) (fo : EF) : EF := fun env st => bindR (fo env st) fun d st1 => if knd d st1 = true then g d [] st1 else none
theorem pf_m0 {T id : String} {name : Str} {o : Expr} {apos cpos : Pos} {r : V → List V → Hp → VK → Prop} {knd : D → Store → Bool} {g : MF} {fo : EF} (pa : PlainAttrs T) (slot : Slot T name id) (hty : typeOf (.builtin id) = pure (.type "method_descriptor")) (hm : MtR X id r)
    (hk : Knd X.K T knd) (hs : CallMS X.K E r g) (ho : PF X E o fo)
    (hbase : attributeBase o name X.env (eval o X.env) = eval o X.env := by rfl) (hline : (apos.endLine == cpos.line) = true := by rfl) :
    PF X E (.Call (.Attribute o name apos) [] [] cpos) (mth0F knd g fo) := PE.of (pe_bm0 pa slot hty hm ho hbase hline) fun σ H Q h => by
  obtain ⟨ρ, env, st, rel, er, p⟩ := h
  refine ⟨ρ, env, st, rel, er, Post.seq p fun d st1 ρ1 H1 k1 l1 r1 p1 v rv => ?_⟩
  split at p1
  · rename_i hd
    exact ⟨hk ρ1 st1 H1 v d r1 rv hd, hs ρ1 st1 H1 v d [] [] Q r1 rv .nil p1⟩
  · exact p1.elim
/-- a list written -/
theorem Post.setL {K : Frag} {H : Hp} {ρ : List Addr} {st : Store} {n : Nat} {a : Addr} {xs ys : List V} {ds : List D} {d : D} {v : V} {Q : VK} (p : Post K H ρ (some (.ok d (st.set n (.lst ds)))) (PQ K Q) E) (rel : Rel K ρ st H) (hn : ρ[n]? = some a) (ha : H a = some (.lst xs)) (r : RVs K ρ H ys ds) (rv : RV K ρ H v d) : Q v (upd H a (.lst ys)) :=
  p _ ρ (Keep.set ha rfl) (Le.refl ρ) (rel.set hn ha rfl ⟨ys, upd_same, RVs.mono (Keep.set ha rfl) (Le.refl ρ) r⟩) v (rv.mono (Keep.set ha rfl) (Le.refl ρ))
def appendD : MF := fun d es st => match d, es with
  | .cell n, [y] => match st[n]? with
    | some (.lst xs) => if xs.length < LIM then some (.ok .non (st.set n (.lst (xs ++ [y])))) else none
    | _ => none
  | _, _ => none
theorem cm_append {K : Frag} : CallMS K E rAppend appendD := fun ρ st H v d us es Q rel rv ru p => by
  unfold appendD at p
  split at p
  · split at p
    · rename_i hn
      split at p
      · rename_i hl
        obtain ⟨a, xs, rfl, ha, ea, ra⟩ := rel.lst hn rv
        obtain ⟨u, rfl, r⟩ := rvs1 ru
        exact ⟨a, xs, u, rfl, rfl, ea, by rw [ra.length]; exact Nat.lt_trans hl lim_lt, p.setL rel ha ea (ra.snoc r) .non⟩
      · exact p.elim
    · exact p.elim
  · exact p.elim
def extendD : MF := fun d es st => match d, es with
  | .cell n, [.cell m] => match st[n]?, st[m]? with
    | some (.lst xs), some (.lst ys) => if xs.length + ys.length ≤ LIM then some (.ok .non (st.set n (.lst (xs ++ ys)))) else none
    | _, _ => none
  | _, _ => none
theorem cm_extend {K : Frag} : CallMS K E rExtend extendD := fun ρ st H v d us es Q rel rv ru p => by
  unfold extendD at p
  split at p
  · split at p
    · rename_i hn hm
      split at p
      · rename_i hl
        obtain ⟨a, xs, rfl, ha, ea, ra⟩ := rel.lst hn rv
        obtain ⟨u, rfl, r⟩ := rvs1 ru
        obtain ⟨b, ys, rfl, hb, eb, rb⟩ := rel.lst hm r
        exact ⟨a, b, xs, ys, rfl, rfl, ea, eb, by rw [ra.length, rb.length]; exact Nat.le_trans hl lim_size, p.setL rel ha ea (ra.append rb) .non⟩
      · exact p.elim
    · exact p.elim
  · exact p.elim
def popAtD : MF := fun d es st => match d, es with
  | .cell n, [.int i] => match st[n]? with
    | some (.lst xs) => if 0 ≤ i ∧ i < 2 ^ 62 then match xs[i.toNat]? with
      | some y => some (.ok y (st.set n (.lst (xs.eraseIdx i.toNat))))
      | none => none else none
    | _ => none
  | _, _ => none
theorem seqIx {n : Nat} {i : Int} (h0 : 0 ≤ i) (h : i.toNat < n) : seqIndex? i n = some i.toNat := by
  have : ixN n i = some i.toNat := by
    unfold ixN
    rw [if_pos h0, if_pos (by omega)]
  exact (ixN_seq this).1
theorem cm_popAt {K : Frag} : CallMS K E rPopAt popAtD := fun ρ st H v d us es Q rel rv ru p => by
  unfold popAtD at p
  split at p
  · split at p
    · rename_i hn
      split at p
      · rename_i hi
        split at p
        · rename_i y hy
          obtain ⟨a, xs, rfl, ha, ea, ra⟩ := rel.lst hn rv
          obtain ⟨u, rfl, r⟩ := rvs1 ru
          cases r
          obtain ⟨w, e1, e2⟩ := ra.get hy
          have hl := (List.getElem?_eq_some_iff.mp e1).1
          exact ⟨a, xs, _, _, w, rfl, rfl, ea, by omega, by omega, seqIx hi.1 hl, e1, p.setL rel ha ea (ra.erase _) e2⟩
        · exact p.elim
      · exact p.elim
    · exact p.elim
  · exact p.elim
theorem pf_append {o e : Expr} {apos cpos : Pos} {fo : EF} {fa : AF} (ho : PF X E o fo) (ha : PFA X E [e] fa)
    (hbase : attributeBase o "append" X.env (eval o X.env) = eval o X.env := by rfl)
    (hfew : ((backTo cpos (starEach [e] X.env)).all (fun x => !x.1) && (backToKw cpos (keywordEach [] X.env)).all (fun x => x.1.isSome)
      && decide (([e] : List Expr).length + ([] : List Keyword).length + (if ([] : List Keyword).isEmpty then 0 else 1) < 30)) = true := by rfl)
    (hline : (apos.endLine == cpos.line) = true := by rfl) (hs1 : starEach [e] X.env = (false, eval e X.env) :: starEach [] X.env := by rfl) (hplain : (backTo cpos (starEach [] X.env)).any (·.1) = false := by rfl) :
    PF X E (.Call (.Attribute o "append" apos) [e] [] cpos) (mthF kLst appendD fo fa) := pf_m PySem.F.plainAttrs_list PySem.F.slot_list_append PySem.F.type_list_append mt_append knd_lst cm_append ho ha hbase hfew hline hs1 hplain
theorem pf_extend {o e : Expr} {apos cpos : Pos} {fo : EF} {fa : AF} (ho : PF X E o fo) (ha : PFA X E [e] fa)
    (hbase : attributeBase o "extend" X.env (eval o X.env) = eval o X.env := by rfl)
    (hfew : ((backTo cpos (starEach [e] X.env)).all (fun x => !x.1) && (backToKw cpos (keywordEach [] X.env)).all (fun x => x.1.isSome)
      && decide (([e] : List Expr).length + ([] : List Keyword).length + (if ([] : List Keyword).isEmpty then 0 else 1) < 30)) = true := by rfl)
    (hline : (apos.endLine == cpos.line) = true := by rfl) (hs1 : starEach [e] X.env = (false, eval e X.env) :: starEach [] X.env := by rfl) (hplain : (backTo cpos (starEach [] X.env)).any (·.1) = false := by rfl) :
    PF X E (.Call (.Attribute o "extend" apos) [e] [] cpos) (mthF kLst extendD fo fa) := pf_m PySem.F.plainAttrs_list PySem.F.slot_list_extend PySem.F.type_list_extend mt_extend knd_lst cm_extend ho ha hbase hfew hline hs1 hplain
theorem pf_popAt {o e : Expr} {apos cpos : Pos} {fo : EF} {fa : AF} (ho : PF X E o fo) (ha : PFA X E [e] fa)
    (hbase : attributeBase o "pop" X.env (eval o X.env) = eval o X.env := by rfl)
    (hfew : ((backTo cpos (starEach [e] X.env)).all (fun x => !x.1) && (backToKw cpos (keywordEach [] X.env)).all (fun x => x.1.isSome)
      && decide (([e] : List Expr).length + ([] : List Keyword).length + (if ([] : List Keyword).isEmpty then 0 else 1) < 30)) = true := by rfl)
    (hline : (apos.endLine == cpos.line) = true := by rfl) (hs1 : starEach [e] X.env = (false, eval e X.env) :: starEach [] X.env := by rfl) (hplain : (backTo cpos (starEach [] X.env)).any (·.1) = false := by rfl) :
    PF X E (.Call (.Attribute o "pop" apos) [e] [] cpos) (mthF kLst popAtD fo fa) := pf_m PySem.F.plainAttrs_list PySem.F.slot_list_pop PySem.F.type_list_pop mt_popAt knd_lst cm_popAt ho ha hbase hfew hline hs1 hplain

/-! texts -/
def strsOf : List D → Option (List Str)
  | [] => some []
  | .str b :: r => match strsOf r with
    | some bs => some (b :: bs)
    | none => none
  | _ :: _ => none
theorem strsOf_ok {K : Frag} {ρ : List Addr} {H : Hp} : ∀ {xs : List V} {ds : List D} {bs : List Str}, RVs K ρ H xs ds → strsOf ds = some bs → xs = bs.map V.str
  | _, _, _, .nil, h => by cases h; rfl
  | _, _, _, .cons r t, h => by
    unfold strsOf at h
    split at h
    · contradiction
    · split at h
      · rename_i e1 bs hb
        cases h
        rename_i b r' he
        cases he
        cases r
        rw [strsOf_ok t hb]
        rfl
      · cases h
    · cases h
theorem rvs_strs {K : Frag} {ρ : List Addr} {H : Hp} : ∀ l : List Str, RVs K ρ H (l.map V.str) (l.map D.str)
  | [] => .nil
  | x :: l => .cons (.str x) (rvs_strs l)
def splitD : MF := fun d es st => match d, es with
  | .str a, [.str b] => if (b.length == 0) = false ∧ a.length + 2 ≤ LIM then some (.ok (.cell st.length) (st ++ [.lst ((Txt.split a b).map D.str)])) else none
  | _, _ => none
def partitionD : MF := fun d es st => match d, es with
  | .str a, [.str b] => if (b.length == 0) = false ∧ a.length ≤ LIM then some (.ok (.tup [.str (Txt.partition a b).1, .str (Txt.partition a b).2.1, .str (Txt.partition a b).2.2]) st) else none
  | _, _ => none
def joinD : MF := fun d es st => match d, es with
  | .str a, [.cell n] => match st[n]? with
    | some (.lst ds) => match strsOf ds with
      | some ys => if (ys.map (·.length)).sum + ys.length * a.length ≤ LIM then some (.ok (.str (Txt.join a ys)) st) else none
      | none => none
    | _ => none
  | .str a, [.tup ds] => match strsOf ds with
    | some ys => if (ys.map (·.length)).sum + ys.length * a.length ≤ LIM then some (.ok (.str (Txt.join a ys)) st) else none
    | none => none
  | _, _ => none
def startswithD : MF := fun d es st => match d, es with
  | .str a, [.str b] => some (.ok (.bl (Txt.startswith a b)) st)
  | _, _ => none
def isdigitD : MF := fun d es st => match d, es with
  | .str a, [] => some (.ok (.bl (Txt.isdigit a)) st)
  | _, _ => none
def isasciiD : MF := fun d es st => match d, es with
  | .str a, [] => some (.ok (.bl (Txt.isascii a)) st)
  | _, _ => none
def upperD : MF := fun d es st => match d, es with
  | .str a, [] => if a.length ≤ LIM then some (.ok (.str (Txt.upper a)) st) else none
  | _, _ => none
theorem pf_split {o e : Expr} {apos cpos : Pos} {fo : EF} {fa : AF} (ho : PF X E o fo) (ha : PFA X E [e] fa)
    (hbase : attributeBase o "split" X.env (eval o X.env) = eval o X.env := by rfl)
    (hfew : ((backTo cpos (starEach [e] X.env)).all (fun x => !x.1) && (backToKw cpos (keywordEach [] X.env)).all (fun x => x.1.isSome)
      && decide (([e] : List Expr).length + ([] : List Keyword).length + (if ([] : List Keyword).isEmpty then 0 else 1) < 30)) = true := by rfl)
    (hline : (apos.endLine == cpos.line) = true := by rfl) (hs1 : starEach [e] X.env = (false, eval e X.env) :: starEach [] X.env := by rfl) (hplain : (backTo cpos (starEach [] X.env)).any (·.1) = false := by rfl) :
    PF X E (.Call (.Attribute o "split" apos) [e] [] cpos) (mthF kStr splitD fo fa) := pf_m PySem.F.plainAttrs_str PySem.F.slot_str_split PySem.F.type_str_split mt_split knd_str (fun ρ st H v d us es Q rel rv ru p => by
  unfold splitD at p
  split at p
  · split at p
    · rename_i h
      obtain ⟨u, rfl, r⟩ := rvs1 ru
      cases r; cases rv
      exact ⟨_, _, rfl, rfl, h.1, Nat.le_trans h.2 lim_size, p.lst rel (rvs_strs _)⟩
    · exact p.elim
  · exact p.elim) ho ha hbase hfew hline hs1 hplain
theorem pf_partition {o e : Expr} {apos cpos : Pos} {fo : EF} {fa : AF} (ho : PF X E o fo) (ha : PFA X E [e] fa)
    (hbase : attributeBase o "partition" X.env (eval o X.env) = eval o X.env := by rfl)
    (hfew : ((backTo cpos (starEach [e] X.env)).all (fun x => !x.1) && (backToKw cpos (keywordEach [] X.env)).all (fun x => x.1.isSome)
      && decide (([e] : List Expr).length + ([] : List Keyword).length + (if ([] : List Keyword).isEmpty then 0 else 1) < 30)) = true := by rfl)
    (hline : (apos.endLine == cpos.line) = true := by rfl) (hs1 : starEach [e] X.env = (false, eval e X.env) :: starEach [] X.env := by rfl) (hplain : (backTo cpos (starEach [] X.env)).any (·.1) = false := by rfl) :
    PF X E (.Call (.Attribute o "partition" apos) [e] [] cpos) (mthF kStr partitionD fo fa) := pf_m PySem.F.plainAttrs_str PySem.F.slot_str_partition PySem.F.type_str_partition mt_partition knd_str (fun ρ st H v d us es Q rel rv ru p => by
  unfold partitionD at p
  split at p
  · split at p
    · rename_i h
      obtain ⟨u, rfl, r⟩ := rvs1 ru
      cases r; cases rv
      exact ⟨_, _, rfl, rfl, h.1, Nat.le_trans h.2 lim_size, p.tup rel (.cons (.str _) (.cons (.str _) (.cons (.str _) .nil)))⟩
    · exact p.elim
  · exact p.elim) ho ha hbase hfew hline hs1 hplain
theorem lim_16 : LIM ≤ 16777216 := by decide
theorem pf_join {o e : Expr} {apos cpos : Pos} {fo : EF} {fa : AF} (ho : PF X E o fo) (ha : PFA X E [e] fa)
    (hbase : attributeBase o "join" X.env (eval o X.env) = eval o X.env := by rfl)
    (hfew : ((backTo cpos (starEach [e] X.env)).all (fun x => !x.1) && (backToKw cpos (keywordEach [] X.env)).all (fun x => x.1.isSome)
      && decide (([e] : List Expr).length + ([] : List Keyword).length + (if ([] : List Keyword).isEmpty then 0 else 1) < 30)) = true := by rfl)
    (hline : (apos.endLine == cpos.line) = true := by rfl) (hs1 : starEach [e] X.env = (false, eval e X.env) :: starEach [] X.env := by rfl) (hplain : (backTo cpos (starEach [] X.env)).any (·.1) = false := by rfl) :
    PF X E (.Call (.Attribute o "join" apos) [e] [] cpos) (mthF kStr joinD fo fa) := pf_m PySem.F.plainAttrs_str PySem.F.slot_str_join PySem.F.type_str_join mt_join knd_str (fun ρ st H v d us es Q rel rv ru p => by
  unfold joinD at p
  split at p
  · obtain ⟨u, rfl, r⟩ := rvs1 ru
    cases rv
    split at p
    · rename_i hn
      obtain ⟨a, xs, rfl, _, ea, ra⟩ := rel.lst hn r
      split at p
      · rename_i ys hy
        split at p
        · rename_i h
          exact ⟨_, a, ys, rfl, rfl, .inl (by rw [← strsOf_ok ra hy]; exact SqL.of ea), Nat.le_trans h lim_16, p.now rel (.str _)⟩
        · exact p.elim
      · exact p.elim
    · exact p.elim
  · obtain ⟨u, rfl, r⟩ := rvs1 ru
    cases rv
    cases r with
    | tup ht rs =>
      split at p
      · rename_i ys hy
        split at p
        · rename_i h
          exact ⟨_, _, ys, rfl, rfl, .inr (by rw [← strsOf_ok rs hy]; exact ht), Nat.le_trans h lim_16, p.now rel (.str _)⟩
        · exact p.elim
      · exact p.elim
  · exact p.elim) ho ha hbase hfew hline hs1 hplain
theorem pf_startswith {o e : Expr} {apos cpos : Pos} {fo : EF} {fa : AF} (ho : PF X E o fo) (ha : PFA X E [e] fa)
    (hbase : attributeBase o "startswith" X.env (eval o X.env) = eval o X.env := by rfl)
    (hfew : ((backTo cpos (starEach [e] X.env)).all (fun x => !x.1) && (backToKw cpos (keywordEach [] X.env)).all (fun x => x.1.isSome)
      && decide (([e] : List Expr).length + ([] : List Keyword).length + (if ([] : List Keyword).isEmpty then 0 else 1) < 30)) = true := by rfl)
    (hline : (apos.endLine == cpos.line) = true := by rfl) (hs1 : starEach [e] X.env = (false, eval e X.env) :: starEach [] X.env := by rfl) (hplain : (backTo cpos (starEach [] X.env)).any (·.1) = false := by rfl) :
    PF X E (.Call (.Attribute o "startswith" apos) [e] [] cpos) (mthF kStr startswithD fo fa) := pf_m PySem.F.plainAttrs_str PySem.F.slot_str_startswith PySem.F.type_str_startswith mt_startswith knd_str (fun ρ st H v d us es Q rel rv ru p => by
  unfold startswithD at p
  split at p
  · obtain ⟨u, rfl, r⟩ := rvs1 ru
    cases r; cases rv
    exact ⟨_, _, rfl, rfl, p.now rel (.bl _)⟩
  · exact p.elim) ho ha hbase hfew hline hs1 hplain
theorem pf_isdigit {o : Expr} {apos cpos : Pos} {fo : EF} (ho : PF X E o fo) (hbase : attributeBase o "isdigit" X.env (eval o X.env) = eval o X.env := by rfl) (hline : (apos.endLine == cpos.line) = true := by rfl) :
    PF X E (.Call (.Attribute o "isdigit" apos) [] [] cpos) (mth0F kStr isdigitD fo) := pf_m0 PySem.F.plainAttrs_str PySem.F.slot_str_isdigit PySem.F.type_str_isdigit mt_isdigit knd_str (fun ρ st H v d us es Q rel rv ru p => by
  unfold isdigitD at p
  split at p
  · cases ru; cases rv
    exact ⟨_, rfl, rfl, trivial, p.now rel (.bl _)⟩
  · exact p.elim) ho hbase hline
theorem pf_isascii {o : Expr} {apos cpos : Pos} {fo : EF} (ho : PF X E o fo) (hbase : attributeBase o "isascii" X.env (eval o X.env) = eval o X.env := by rfl) (hline : (apos.endLine == cpos.line) = true := by rfl) :
    PF X E (.Call (.Attribute o "isascii" apos) [] [] cpos) (mth0F kStr isasciiD fo) := pf_m0 PySem.F.plainAttrs_str PySem.F.slot_str_isascii PySem.F.type_str_isascii mt_isascii knd_str (fun ρ st H v d us es Q rel rv ru p => by
  unfold isasciiD at p
  split at p
  · cases ru; cases rv
    exact ⟨_, rfl, rfl, trivial, p.now rel (.bl _)⟩
  · exact p.elim) ho hbase hline
theorem pf_upper {o : Expr} {apos cpos : Pos} {fo : EF} (ho : PF X E o fo) (hbase : attributeBase o "upper" X.env (eval o X.env) = eval o X.env := by rfl) (hline : (apos.endLine == cpos.line) = true := by rfl) :
    PF X E (.Call (.Attribute o "upper" apos) [] [] cpos) (mth0F kStr upperD fo) := pf_m0 PySem.F.plainAttrs_str PySem.F.slot_str_upper PySem.F.type_str_upper mt_upper knd_str (fun ρ st H v d us es Q rel rv ru p => by
  unfold upperD at p
  split at p
  · split at p
    · rename_i h
      cases ru; cases rv
      exact ⟨_, rfl, rfl, Nat.le_trans h (by decide), p.now rel (.str _)⟩
    · exact p.elim
  · exact p.elim) ho hbase hline

/-! ### attributes -/
def fldF (C : Addr) (f : Str) (fo : EF) : EF := fun env st => bindR (fo env st) fun d st1 => match d with
  | .cell n => match st1[n]? with
    | some (.ins C' fs) => if C' = C then match fs.lookup f with
      | some y => some (.ok y st1)
      | none => none else none
    | _ => none
  | _ => none
theorem lookup_AL {K : Frag} {ρ : List Addr} {H : Hp} {f : Str} {y : D} : ∀ {ks : List (Str × V)} {kvs : List (Str × D)}, AL K ρ H ks kvs → kvs.lookup f = some y → ∃ v, ks.lookup f = some v ∧ RV K ρ H v y
  | _, _, .nil, h => by simp at h
  | _, _, .cons (a := p) (b := q) r t, h => by
    rw [List.lookup_cons] at h ⊢
    rw [r.1]
    cases e : f == q.1 with
    | true => rw [e] at h; cases h; exact ⟨_, rfl, r.2⟩
    | false => rw [e] at h; exact lookup_AL t h
theorem lookup_AL0 {K : Frag} {ρ : List Addr} {H : Hp} {f : Str} : ∀ {ks : List (Str × V)} {kvs : List (Str × D)}, AL K ρ H ks kvs → kvs.lookup f = none → ks.lookup f = none
  | _, _, .nil, _ => rfl
  | _, _, .cons (a := p) (b := q) r t, h => by
    rw [List.lookup_cons] at h ⊢
    rw [r.1]
    cases e : f == q.1 with
    | true => rw [e] at h; cases h
    | false => rw [e] at h; exact lookup_AL0 t h
theorem pf_fld {C : Addr} {e : Expr} {f : Str} {fo : EF} (c : Cls X.K C) (n : NoAttr X.K C f) (he : PF X E e fo) (hb : attributeBase e f X.env (eval e X.env) = eval e X.env := by rfl) : PF X E (.Attribute e f pos) (fldF C f fo) := PE.of (pe_fld he hb) fun σ H Q h => by
  obtain ⟨ρ, env, st, rel, er, p⟩ := h
  refine ⟨ρ, env, st, rel, er, Post.seq p fun d st1 ρ1 H1 k1 l1 r1 p1 v rv => ?_⟩
  split at p1
  · split at p1
    · rename_i hn
      obtain ⟨a, dx, gs, rfl, _, ea, ra⟩ := r1.ins hn rv
      split at p1
      · rename_i hC
        subst hC
        split at p1
        · rename_i y hy
          obtain ⟨w, e1, e2⟩ := lookup_AL ra hy
          exact ⟨a, _, dx, gs, w, rfl, ea, c, n, e1, p1.now r1 e2⟩
        · exact p1.elim
      · exact p1.elim
    · exact p1.elim
  · exact p1.elim

/-! ### defs -/
abbrev Mir := List D → Store → Option (Rs D)
/-- what a def is promised to do: its mirror -/
def spF (K : Frag) (n : Nat) (m : Mir) : Sp := fun vs H Q E => ∃ ρ ds st, Rel K ρ st H ∧ RVs K ρ H vs ds ∧ ds.length = n ∧ Post K H ρ (m ds st) (PQ K Q) E
/-- a def of the module's, by its name -/
structure Fn (P : Program) (w : World) (K : Frag) (mg : Str → Option Value) (base : Heap) (k : Nat) (x : Str) (ps : List Str) (m : Mir) : Prop where
  ex : ∃ f fd, FnOk P w K mg base (L2.CX P w) k f fd ps (spF K ps.length m) ∧ mg x = some (.ref f) ∧ PySem.W.keepIn K (.ref f) = true ∧ Binds K fd ps []
def dcallF (n : Nat) (m : Mir) (fa : AF) : EF := fun env st => bindR (fa env st) fun ds st1 => if ds.length = n then m ds st1 else none
theorem pf_call {k j : Nat} {x : Str} {p : Pos} {e : Expr} {es : List Expr} {ps : List Str} {m : Mir} {fa : AF} (F : Fn X.prog X.w X.K X.mg X.base k x ps m) (hr : Room j X.A) (hk : k ≤ j) (hx : Passes (L2.CX X.prog X.w) X E) (ha : PFA X E (e :: es) fa) (hg : Gl X x := by rfl)
    (hdb : (x == ("__debug__" : Str)) = false := by decide) (he : starEach (e :: es) X.env = (false, eval e X.env) :: starEach es X.env := by rfl) (hpl : (backTo pos (starEach es X.env)).any (·.1) = false := by rfl) {n : Nat} (hn : ps.length = n := by rfl) : PF X E (.Call (.Name x p) (e :: es) [] pos) (dcallF n m fa) := by
  subst hn
  obtain ⟨f, fd, F, hm, hkp, hb⟩ := F.ex
  refine PE.of (pe_call F (hr.mono hk) hg hm hkp hb .nil hx ha hdb he hpl) fun σ H Q h => ?_
  obtain ⟨ρ, env, st, rel, er, p⟩ := h
  refine ⟨ρ, env, st, rel, er, Post.seq p fun ds st1 ρ1 H1 k1 l1 r1 p1 vs rs => ?_⟩
  split at p1
  · rename_i hl
    exact ⟨ρ1, ds, st1, r1, by rw [List.append_nil]; exact rs, hl, p1⟩
  · exact p1.elim
/-- a method of a class of the module's -/
structure Mth (P : Program) (w : World) (K : Frag) (mg : Str → Option Value) (base : Heap) (k : Nat) (C : Addr) (x : Str) (ps : List Str) (m : Mir) : Prop where
  ex : ∃ f fd, FnOk P w K mg base (L2.CX P w) k f fd ps (spF K ps.length m) ∧ Meth K C x f ∧ Binds K fd ps []
def mcallF (C : Addr) (x : Str) (n : Nat) (m : Mir) (fo : EF) (fa : AF) : EF := fun env st => bindR (fo env st) fun d st1 => match d with
  | .cell i => match st1[i]? with
    | some (.ins C' fs) => if C' = C ∧ fs.lookup x = none then bindR (fa env st1) fun ds st2 => if ds.length + 1 = n then m (.cell i :: ds) st2 else none else none
    | _ => none
  | _ => none
theorem pf_mcall {k j : Nat} {C : Addr} {x : Str} {o e : Expr} {es : List Expr} {ps : List Str} {m : Mir} {fo : EF} {fa : AF} {apos : Pos} (c : Cls X.K C) (F : Mth X.prog X.w X.K X.mg X.base k C x ps m) (hr : Room j X.A) (hk : k ≤ j) (hx : Passes (L2.CX X.prog X.w) X E) (ho : PF X E o fo) (ha : PFA X E (e :: es) fa)
    (h : ∀ {f : Addr} {fd : FuncData} (hm : Meth X.K C x f) (F : FnOk X.prog X.w X.K X.mg X.base (L2.CX X.prog X.w) k f fd ps (spF X.K ps.length m)) (hb : Binds X.K fd ps []), PE X (.Call (.Attribute o x apos) (e :: es) [] pos) (tMeth C x (spF X.K ps.length m) [] E (tF X.K E fo) (tFA X.K E fa))) {n : Nat} (hn : ps.length = n := by rfl) :
    PF X E (.Call (.Attribute o x apos) (e :: es) [] pos) (mcallF C x n m fo fa) := by
  subst hn
  obtain ⟨f, fd, F, hm, hb⟩ := F.ex
  refine PE.of (h hm F hb) fun σ H Q h => ?_
  obtain ⟨ρ, env, st, rel, er, p⟩ := h
  refine ⟨ρ, env, st, rel, er, Post.seq p fun d st1 ρ1 H1 k1 l1 r1 p1 v rv => ?_⟩
  split at p1
  · split at p1
    · rename_i hn
      split at p1
      · rename_i hC
        obtain ⟨hC, hl⟩ := hC
        subst hC
        have rv0 := rv
        obtain ⟨a, dx, gs, rfl, _, ea, ra⟩ := r1.ins hn rv
        refine ⟨a, dx, gs, rfl, ea, lookup_AL0 ra hl, ρ1, env, st1, r1, er.mono k1 l1, Post.seq p1 fun ds st2 ρ2 H2 k2 l2 r2 p2 vs rs => ?_⟩
        split at p2
        · rename_i hl
          exact ⟨ρ2, _, st2, r2, by rw [List.append_nil]; exact .cons (rv0.mono k2 l2) rs, by simpa using hl, p2⟩
        · exact p2.elim
      · exact p1.elim
    · exact p1.elim
  · exact p1.elim
/-- a class of the module's whose making runs its __init__ -/
structure Mkr (P : Program) (w : World) (K : Frag) (mg : Str → Option Value) (base : Heap) (k : Nat) (C : Addr) (x : Str) (ps : List Str) (m : Mir) : Prop where
  ex : ∃ f fd, FnOk P w K mg base (L2.CX P w) k f fd ps (spF K ps.length m) ∧ L2.Mk K C f ∧ mg x = some (.ref C) ∧ Binds K fd ps []
def makeF (C : Addr) (n : Nat) (m : Mir) (fa : AF) : EF := fun env st => bindR (fa env st) fun ds st1 => if ds.length + 1 = n then bindR (m (.cell st1.length :: ds) (st1 ++ [.ins C []])) fun d st2 => match d with
  | .non => some (.ok (.cell st1.length) st2)
  | _ => none else none
theorem make_w {K : Frag} {C : Addr} {n : Nat} {m : Mir} {fa : AF} : ∀ σ H Q, tF K E (makeF C n m fa) σ H Q → tMake C (spF K n m) [] E (tFA K E fa) σ H Q := fun σ H Q h => by
  obtain ⟨ρ, env, st, rel, er, p⟩ := h
  refine ⟨ρ, env, st, rel, er, Post.seq p fun ds st1 ρ1 H1 k1 l1 r1 p1 vs rs x dx hx hdx hne => ?_⟩
  split at p1
  · rename_i hl
    have hx2 : upd H1 dx (.own x) x = none := by rw [upd_ne (Ne.symm hne)]; exact hx
    have ra := (r1.other (o := .own x) hdx)
    have kk : Keep H1 (upd (upd H1 dx (.own x)) x (.ins C dx [])) := (Keep.new hdx).trans (Keep.new hx2)
    have rb : Rel K (ρ1 ++ [x]) (st1 ++ [.ins C []]) (upd (upd H1 dx (.own x)) x (.ins C dx [])) := ra.new hx2 ⟨dx, [], upd_same, .nil⟩
    have hat : (ρ1 ++ [x])[st1.length]? = some x := by rw [← r1.len]; simp
    refine ⟨ρ1 ++ [x], .cell st1.length :: ds, st1 ++ [.ins C []], rb, by rw [List.append_nil]; exact .cons (.cell hat) (RVs.mono kk (Le.snoc _ _) rs), by simpa using hl, ?_⟩
    refine Post.imp (Post.bind (Post.mono kk (Le.snoc _ _) p1)) fun d st2 ρ2 H2 k2 l2 r2 p2 v rv => ?_
    split at p2
    · cases rv
      exact ⟨rfl, p2.now r2 (.cell (l2 _ _ hat))⟩
    · exact p2.elim
  · exact p1.elim
theorem pf_make {k j : Nat} {C : Addr} {x : Str} {p : Pos} {e : Expr} {es : List Expr} {ps : List Str} {m : Mir} {fa : AF} (F : Mkr X.prog X.w X.K X.mg X.base k C x ps m) (hr : Room j X.A) (hk : k + 1 ≤ j) (hx : Passes (L2.CX X.prog X.w) X E) (ha : PFA X E (e :: es) fa) (hg : Gl X x := by rfl)
    (hdb : (x == ("__debug__" : Str)) = false := by decide) (he : starEach (e :: es) X.env = (false, eval e X.env) :: starEach es X.env := by rfl) (hpl : (backTo pos (starEach es X.env)).any (·.1) = false := by rfl) {n : Nat} (hn : ps.length = n := by rfl) : PF X E (.Call (.Name x p) (e :: es) [] pos) (makeF C n m fa) := by
  subst hn
  obtain ⟨f, fd, F, M, hm, hb⟩ := F.ex
  exact PE.of (pe_make M F (hr.mono hk) hg hm hb .nil hx ha hdb he hpl) make_w
theorem pf_make0 {k j : Nat} {C : Addr} {x : Str} {p : Pos} {ps : List Str} {m : Mir} (F : Mkr X.prog X.w X.K X.mg X.base k C x ps m) (hr : Room j X.A) (hk : k + 1 ≤ j) (hx : Passes (L2.CX X.prog X.w) X E) (hg : Gl X x := by rfl)
    (hdb : (x == ("__debug__" : Str)) = false := by decide) {n : Nat} (hn : ps.length = n := by rfl) : PF X E (.Call (.Name x p) [] [] pos) (makeF C n m nilA) := by
  subst hn
  obtain ⟨f, fd, F, M, hm, hb⟩ := F.ex
  refine PE.of (pe_make0 M F (hr.mono hk) hg hm hb .nil hx hdb) fun σ H Q h => ?_
  obtain ⟨ρ, env, st, rel, er, p⟩ := make_w σ H Q h
  exact p H ρ (Keep.refl _) (Le.refl _) rel [] .nil
end
end PF
end
section
namespace PF
open PySem PySem.Spec PyProof.Rows L2
section
variable {X : Cx} {E : XK} {pos : Pos}
/-! ### targets -/
def gNameF (i : Nat) : GF := fun d env st => some (.ok (env.set i (some d)) st)
theorem pfg_name (i : Nat) {x : Str} (hN : X.N.Nodup) (hi : X.N[i]? = some x := by rfl) (hx : Loc X.env.scope x := by first | exact Or.inl rfl | exact Or.inr rfl) (hf : X.fn x = true ∨ X.env.scope.names.lookup x = some .local := by first | exact .inl rfl | exact .inr rfl) : PFG X E (.Name x pos) [i] (gNameF i) :=
  PG.of (pg_name hN hi hx hf) fun v σ H Q h => by
    obtain ⟨ρ, env, st, d, rel, er, rv, p⟩ := h
    exact p H ρ (Keep.refl _) (Le.refl _) rel _ (er.set rv) (Agr.set (by simp))
abbrev GFs := List D → Env → Store → Option (Rs Env)
def tFGs (K : Frag) (E : XK) (ix : List Nat) (f : GFs) : TGs := fun vs σ H Q => ∃ ρ env st ds, Rel K ρ st H ∧ EnvR K ρ H σ env ∧ RVs K ρ H vs ds ∧ Post K H ρ (f ds env st) (fun env' _ ρ' H' => ∀ σ', EnvR K ρ' H' σ' env' → Agr ix σ σ' → Q σ' H') E
theorem PGs.of {es : List Expr} {t t' : TGs} (h : PGs X es t) (w : ∀ vs σ H Q, t' vs σ H Q → t vs σ H Q) : PGs X es t' := ⟨fun pins s σ H vs us Q I r q => h.run pins s σ H vs us Q I r (w vs σ H Q q)⟩
abbrev PFGs (X : Cx) (E : XK) (es : List Expr) (ix : List Nat) (f : GFs) : Prop := PGs X es (tFGs X.K E ix f)
def gNilF : GFs := fun ds env st => match ds with
  | [] => some (.ok env st)
  | _ => none
def gConsF (f : GF) (g : GFs) : GFs := fun ds env st => match ds with
  | d :: r => bindR (f d env st) fun env1 st1 => g r env1 st1
  | [] => none
theorem Agr.sub {ix iy : List Nat} {σ σ' : L2.St} (a : Agr ix σ σ') (h : ∀ i ∈ ix, i ∈ iy) : Agr iy σ σ' := ⟨a.1, fun j hj => a.2 j fun z => hj (h j z)⟩
theorem pfgs_nil : PFGs X E [] [] gNilF := PGs.of pgs_nil fun vs σ H Q h => by
  obtain ⟨ρ, env, st, ds, rel, er, rv, p⟩ := h
  unfold gNilF at p
  split at p
  · cases rv
    exact ⟨rfl, p H ρ (Keep.refl _) (Le.refl _) rel σ er (Agr.refl _ _)⟩
  · exact p.elim
theorem pfgs_cons {e : Expr} {es : List Expr} {ix iy : List Nat} {f : GF} {g : GFs} (h1 : PFG X E e ix f) (h2 : PFGs X E es iy g)
    (hs : (assignEach (e :: es) X.env).map (·.2) = assign e X.env :: (assignEach es X.env).map (·.2) := by rfl) : PFGs X E (e :: es) (ix ++ iy) (gConsF f g) := PGs.of (pgs_cons h1 h2 hs) fun vs σ H Q h => by
  obtain ⟨ρ, env, st, ds, rel, er, rv, p⟩ := h
  unfold gConsF at p
  split at p
  · cases rv with
    | cons r1 r2 =>
      refine ⟨_, _, rfl, ρ, env, st, _, rel, er, r1, Post.seq p fun env1 st1 ρ1 H1 k1 l1 rel1 p1 σ1 er1 a1 => ?_⟩
      refine ⟨ρ1, env1, st1, _, rel1, er1, RVs.mono k1 l1 r2, Post.imp p1 fun env2 st2 ρ2 H2 k2 l2 rel2 q σ2 er2 a2 => ?_⟩
      exact q σ2 er2 ((a1.sub fun i hi => List.mem_append_left _ hi).trans (a2.sub fun i hi => List.mem_append_right _ hi))
  · exact p.elim
def gTupF (n : Nat) (g : GFs) : GF := fun d env st => match d with
  | .tup ds => if ds.length = n then g ds env st else none
  | .cell m => match st[m]? with
    | some (.lst ds) => if ds.length = n then g ds env st else none
    | _ => none
  | _ => none
theorem PG.or {X : Cx} {e : Expr} {t u : TG} (h1 : PG X e t) (h2 : PG X e u) : PG X e (fun v σ H Q => t v σ H Q ∨ u v σ H Q) :=
  ⟨fun pins s σ H v w Q I r h => h.elim (fun h => h1.run pins s σ H v w Q I r h) fun h => h2.run pins s σ H v w Q I r h⟩
theorem pfg_tup {es : List Expr} {k n : Nat} {ix : List Nat} {g : GFs} (hc : X.calm = true) (h : PFGs X E es ix g) (hn : (assignEach es X.env).length = n := by rfl) (hst : (assignEach es X.env).findIdx? (·.1) = none := by rfl) : PFG X E (.Tuple es k pos) ix (gTupF n g) := PG.of (PG.or (pg_tup hc h hn hst) (pg_lst hc h hn hst)) fun v σ H Q h => by
  obtain ⟨ρ, env, st, d, rel, er, rv, p⟩ := h
  unfold gTupF at p
  split at p
  · split at p
    · rename_i hl
      cases rv with
      | tup ht rs => exact .inl ⟨_, _, rfl, ht, by rw [rs.length]; exact hl, ρ, env, st, _, rel, er, rs, p⟩
    · exact p.elim
  · split at p
    · rename_i hn
      split at p
      · rename_i hl
        obtain ⟨a, xs, rfl, _, e, rs⟩ := rel.lst hn rv
        exact .inr ⟨_, _, rfl, SqL.of e, by rw [rs.length]; exact hl, ρ, env, st, _, rel, er, rs, p⟩
      · exact p.elim
    · exact p.elim
  · exact p.elim
/-- o[i] = v -/
def putKD (kvs : List (Key × D)) (k : Key) (v : D) : List (Key × D) :=
  if (kvs.any fun kv => decide (kv.1 = k)) = true then kvs.map (fun kv => if kv.1 = k then (kv.1, v) else kv) else kvs ++ [(k, v)]
def keyOf : D → Option Key
  | .int i => some (.inl i)
  | .str x => some (.inr x)
  | _ => none
def setI (o i d : D) (st : Store) : Option (Rs Unit) := match o with
  | .cell n => match st[n]? with
    | some (.lst ds) => match i with
      | .int k => match ixN ds.length k with
        | some j => some (.ok () (st.set n (.lst (ds.set j d))))
        | none => none
      | _ => none
    | some (.dct kvs) => match keyOf i with
      | some k => if kvs.length < LIM then some (.ok () (st.set n (.dct (putKD kvs k d)))) else none
      | none => none
    | _ => none
  | _ => none
theorem any_AL {K : Frag} {ρ : List Addr} {H : Hp} (k : Key) : ∀ {ks : List (Key × V)} {kvs : List (Key × D)}, AL K ρ H ks kvs → (ks.any fun kv => decide (kv.1 = k)) = kvs.any fun kv => decide (kv.1 = k)
  | _, _, .nil => rfl
  | _, _, .cons (a := p) (b := q) r t => by rw [List.any_cons, List.any_cons, any_AL k t, r.1]
theorem al_snoc {κ : Type} {K : Frag} {ρ : List Addr} {H : Hp} {k : κ} {v : V} {d : D} (r : RV K ρ H v d) : ∀ {ks : List (κ × V)} {kvs : List (κ × D)}, AL K ρ H ks kvs → AL K ρ H (ks ++ [(k, v)]) (kvs ++ [(k, d)])
  | _, _, .nil => .cons ⟨rfl, r⟩ .nil
  | _, _, .cons h t => .cons h (al_snoc r t)
theorem al_map {K : Frag} {ρ : List Addr} {H : Hp} {k : Key} {v : V} {d : D} (r : RV K ρ H v d) : ∀ {ks : List (Key × V)} {kvs : List (Key × D)}, AL K ρ H ks kvs → AL K ρ H (ks.map (fun kv => if kv.1 = k then (kv.1, v) else kv)) (kvs.map (fun kv => if kv.1 = k then (kv.1, d) else kv))
  | _, _, .nil => .nil
  | _, _, .cons (a := p) (b := q) h t => by
    rw [List.map_cons, List.map_cons]
    refine .cons ?_ (al_map r t)
    by_cases e : p.1 = k
    · rw [if_pos e, if_pos (h.1 ▸ e)]
      exact ⟨h.1, r⟩
    · rw [if_neg e, if_neg (fun z => e (h.1.trans z))]
      exact h
theorem put_AL {K : Frag} {ρ : List Addr} {H : Hp} {k : Key} {v : V} {d : D} {ks : List (Key × V)} {kvs : List (Key × D)} (a : AL K ρ H ks kvs) (r : RV K ρ H v d) : AL K ρ H (putK ks k v) (putKD kvs k d) := by
  unfold putK putKD
  rw [any_AL k a]
  split
  · exact al_map r a
  · exact al_snoc r a
/-- a store -/
def SetS (K : Frag) (o i v : V) (H : Hp) (Q : Hp → Prop) : Prop := rSetL o i v H Q ∨ rSetD o i v H Q
theorem set_any {k : Nat} (hr : Room k X.A) : PSet X (SetS X.K) := fun pins s σ H o i v ov iv u Q I ro ri rv h => by
  rcases h with h | h
  · exact set_list pins s σ H o i v ov iv u Q I ro ri rv h
  · exact set_dict (hu_of hr) pins s σ H o i v ov iv u Q I ro ri rv h
theorem kV_of {K : Frag} {ρ : List Addr} {H : Hp} {v : V} {d : D} {k : Key} (r : RV K ρ H v d) (h : keyOf d = some k) : v = kV k := by
  cases r <;> simp [keyOf] at h <;> subst h <;> rfl
theorem setI_ok {K : Frag} {ρ : List Addr} {H : Hp} {st : Store} {o i v : V} {a b d : D} {Q : Hp → Prop} {Q' : Unit → Store → List Addr → Hp → Prop} (rel : Rel K ρ st H) (ro : RV K ρ H o a) (ri : RV K ρ H i b) (rv : RV K ρ H v d) (p : Post K H ρ (setI a b d st) Q' E)
    (h : ∀ st' ρ' H', Keep H H' → Le ρ ρ' → Rel K ρ' st' H' → Q' () st' ρ' H' → Q H') : SetS K o i v H Q := by
  unfold setI at p
  split at p
  · split at p
    · rename_i hn
      obtain ⟨x, xs, rfl, hx, ex, rx⟩ := rel.lst hn ro
      split at p
      · cases ri
        split at p
        · rename_i j hj
          have kk : Keep H (upd H x (.lst (xs.set j v))) := Keep.set ex rfl
          have rr := rel.set hx ex rfl (c := .lst (_ : List D)) (o := .lst (xs.set j v)) ⟨_, upd_same, RVs.mono kk (Le.refl ρ) (rx.set rv j)⟩
          exact .inl ⟨x, xs, _, j, rfl, rfl, ex, by rw [rx.length]; exact hj, h _ _ _ kk (Le.refl ρ) rr (p _ ρ kk (Le.refl ρ) rr)⟩
        · exact p.elim
      · exact p.elim
    · rename_i hn
      obtain ⟨x, xs, rfl, hx, ex, rx⟩ := rel.dct hn ro
      split at p
      · rename_i k hk
        split at p
        · rename_i hl
          have e := kV_of ri hk
          subst e
          have kk : Keep H (upd H x (.dK (putK xs k v))) := Keep.set ex rfl
          have rr := rel.set hx ex rfl (c := .dct (_ : List (Key × D))) (o := .dK (putK xs k v)) ⟨_, upd_same, AL.mono kk (Le.refl ρ) (put_AL rx rv)⟩
          exact .inr ⟨x, _, rfl, DPut.k ex (by rw [al_length rx]; exact Nat.lt_trans hl lim_lt), h _ _ _ kk (Le.refl ρ) rr (p _ ρ kk (Le.refl ρ) rr)⟩
        · exact p.elim
      · exact p.elim
    · exact p.elim
  · exact p.elim
def gSubF (fo fi : EF) : GF := fun d env st => bindR (fo env st) fun o st1 => bindR (fi env st1) fun i st2 => bindR (setI o i d st2) fun _ st3 => some (.ok env st3)
theorem pfg_sub {k : Nat} {o i : Expr} {fo fi : EF} (hr : Room k X.A) (ho : PF X E o fo) (hi : PF X E i fi)
    (ha : ∀ v, assign (.Subscript o i pos) X.env v = (do
      let ov ← holding [v] (eval o X.env)
      let iv ← holding [v, ov] (eval i X.env)
      standAt pos
      holding [v, ov, iv] (setItem ov iv v)
      release [v, ov, iv] []) := by intro _; rfl) : PFG X E (.Subscript o i pos) [] (gSubF fo fi) := PG.of (pg_sub ho hi (set_any hr) ha) fun v σ H Q h => by
  obtain ⟨ρ, env, st, d, rel, er, rv, p⟩ := h
  refine ⟨ρ, env, st, rel, er, Post.seq p fun o1 st1 ρ1 H1 k1 l1 r1 p1 x rx => ⟨ρ1, env, st1, r1, er.mono k1 l1, Post.seq p1 fun i1 st2 ρ2 H2 k2 l2 r2 p2 y ry => ?_⟩⟩
  refine setI_ok r2 (rx.mono k2 l2) ry ((rv.mono k1 l1).mono k2 l2) (Post.bind p2) fun st3 ρ3 H3 k3 l3 r3 q => ?_
  exact q H3 ρ3 (Keep.refl _) (Le.refl _) r3 σ (((er.mono k1 l1).mono k2 l2).mono k3 l3) (Agr.refl _ _)

/-! ### statements -/
def nextS : SF := fun env st => some (.ok (.nx env) st)
def seqS (f g : SF) : SF := fun env st => bindR (f env st) fun fl st1 => match fl with
  | .nx env1 => g env1 st1
  | fl => some (.ok fl st1)
theorem pfs_nil : PFSs X E [] nextS := PSs.of pss_nil fun D σ H h => by
  obtain ⟨ρ, env, st, rel, er, p⟩ := h
  exact p H ρ (Keep.refl _) (Le.refl _) rel σ er
theorem pfs_cons {s : Stmt} {rest : List Stmt} {f g : SF} (h1 : PFS X E s f) (h2 : PFSs X E rest g) : PFSs X E (s :: rest) (seqS f g) := PSs.of (pss_cons h1 h2) fun D σ H h => by
  obtain ⟨ρ, env, st, rel, er, p⟩ := h
  refine ⟨ρ, env, st, rel, er, Post.seq p fun fl st1 ρ1 H1 k1 l1 r1 p1 => ?_⟩
  cases fl with
  | nx env1 => exact fun σ1 er1 => ⟨ρ1, env1, st1, r1, er1, p1⟩
  | rt d => exact p1 H1 ρ1 (Keep.refl _) (Le.refl _) r1
  | bk env1 => exact p1 H1 ρ1 (Keep.refl _) (Le.refl _) r1
  | ct env1 => exact p1 H1 ρ1 (Keep.refl _) (Le.refl _) r1
theorem pfs_one {s : Stmt} {f : SF} (h : PFS X E s f) : PFSs X E [s] f := pss_one h
theorem pfs_pass : PFS X E (.Pass pos) nextS := PS.of ps_pass fun D σ H h => by
  obtain ⟨ρ, env, st, rel, er, p⟩ := h
  exact p H ρ (Keep.refl _) (Le.refl _) rel σ er
def breakS : SF := fun env st => some (.ok (.bk env) st)
def contS : SF := fun env st => some (.ok (.ct env) st)
theorem pfs_break : PFS X E (.Break pos) breakS := PS.of ps_break fun D σ H h => by
  obtain ⟨ρ, env, st, rel, er, p⟩ := h
  exact p H ρ (Keep.refl _) (Le.refl _) rel σ er
theorem pfs_cont : PFS X E (.Continue pos) contS := PS.of ps_continue fun D σ H h => by
  obtain ⟨ρ, env, st, rel, er, p⟩ := h
  exact p H ρ (Keep.refl _) (Le.refl _) rel σ er
def retS (f : EF) : SF := fun env st => bindR (f env st) fun d st1 => some (.ok (.rt d) st1)
theorem pfs_ret {e : Expr} {f : EF} (h : PF X E e f) : PFS X E (.Return (some e) pos) (retS f) := PS.of (ps_ret h) fun D σ H h => by
  obtain ⟨ρ, env, st, rel, er, p⟩ := h
  exact ⟨ρ, env, st, rel, er, Post.seq p fun d st1 ρ1 H1 k1 l1 r1 p1 v rv => p1 H1 ρ1 (Keep.refl _) (Le.refl _) r1 v rv⟩
def retNS : SF := fun _ st => some (.ok (.rt .non) st)
theorem pfs_retN : PFS X E (.Return none pos) retNS := PS.of ps_retN fun D σ H h => by
  obtain ⟨ρ, env, st, rel, er, p⟩ := h
  exact p H ρ (Keep.refl _) (Le.refl _) rel _ .non
def exprS (f : EF) : SF := fun env st => bindR (f env st) fun _ st1 => some (.ok (.nx env) st1)
theorem pfs_expr {e : Expr} {f : EF} (h : PF X E e f) (hs : swapsWith e none pos.line X.env = pure false := by rfl) : PFS X E (.Expr e pos) (exprS f) := PS.of (ps_expr h hs) fun D σ H h => by
  obtain ⟨ρ, env, st, rel, er, p⟩ := h
  exact ⟨ρ, env, st, rel, er, Post.seq p fun d st1 ρ1 H1 k1 l1 r1 p1 v rv => p1 H1 ρ1 (Keep.refl _) (Le.refl _) r1 σ (er.mono k1 l1)⟩
def ifS (t : BF) (f g : SF) : SF := fun env st => bindR (t env st) fun b st1 => if b = true then f env st1 else g env st1
theorem pfs_if {c : Expr} {a b : List Stmt} {t : BF} {f g : SF} (hc : PFT X E c t) (ha : PFSs X E a f) (hb : PFSs X E b g) : PFS X E (.If c a b pos) (ifS t f g) := PS.of (ps_if hc ha hb) fun D σ H h => by
  obtain ⟨ρ, env, st, rel, er, p⟩ := h
  refine ⟨ρ, env, st, rel, er, Post.seq p fun d st1 ρ1 H1 k1 l1 r1 p1 => ?_⟩
  cases d with
  | true => exact ⟨ρ1, env, st1, r1, er.mono k1 l1, p1⟩
  | false => exact ⟨ρ1, env, st1, r1, er.mono k1 l1, p1⟩
def asgS (f : EF) (g : GF) : SF := fun env st => bindR (f env st) fun d st1 => bindR (g d env st1) fun env2 st2 => some (.ok (.nx env2) st2)
theorem pfs_asg {tg e : Expr} {ix : List Nat} {f : EF} {g : GF} (he : PF X E e f) (hg : PFG X E tg ix g) (hs : swapsWithSole [tg] e pos.line X.env = pure false := by rfl) (hw : swappedStores [tg] e X.env = pure none := by rfl)
    (h1 : (assignEach [tg] X.env).map (·.2) = [assign tg X.env] := by rfl) : PFS X E (.Assign [tg] e pos) (asgS f g) := PS.of (ps_asg he hg hs hw h1) fun D σ H h => by
  obtain ⟨ρ, env, st, rel, er, p⟩ := h
  exact ⟨ρ, env, st, rel, er, Post.seq p fun d st1 ρ1 H1 k1 l1 r1 p1 v rv => ⟨ρ1, env, st1, d, r1, er.mono k1 l1, rv, Post.seq p1 fun env2 st2 ρ2 H2 k2 l2 r2 p2 σ2 er2 _ => p2 H2 ρ2 (Keep.refl _) (Le.refl _) r2 σ2 er2⟩⟩
/-- a, b = x, y -/
def parS (i j : Nat) (g : AF) : SF := fun env st => bindR (g env st) fun ds st1 => match ds with
  | [d, e] => some (.ok (.nx ((env.set i (some d)).set j (some e))) st1)
  | _ => none
theorem pfs_par {i j : Nat} {x y : Str} {a b : Expr} {g : AF} {px py pt pt2 : Pos} {kt k2 : Nat} (hc : X.calm = true) (hN : X.N.Nodup) (ha : PFA X E [a, b] g) (hi : X.N[i]? = some x := by rfl) (hj : X.N[j]? = some y := by rfl) (hij : i ≠ j := by decide)
    (hx : X.env.scope.names.lookup x = some .local := by rfl) (hy : X.env.scope.names.lookup y = some .local := by rfl)
    (hw : swappedStores [.Tuple [.Name x px, .Name y py] kt pt] (.Tuple [a, b] k2 pt2) X.env = pure (some [x, y]) := by rfl)
    (hs : swapsWithSole [.Tuple [.Name x px, .Name y py] kt pt] (.Tuple [a, b] k2 pt2) pos.line X.env = pure false := by rfl) :
    PFS X E (.Assign [.Tuple [.Name x px, .Name y py] kt pt] (.Tuple [a, b] k2 pt2) pos) (parS i j g) := PS.of (ps_par hc hN hi hj hij hx hy ha hw hs) fun D σ H h => by
  obtain ⟨ρ, env, st, rel, er, p⟩ := h
  refine ⟨ρ, env, st, rel, er, Post.seq p fun ds st1 ρ1 H1 k1 l1 r1 p1 vs rs => ?_⟩
  split at p1
  · obtain ⟨v, u, rfl, ra, rb⟩ := rvs2 rs
    exact ⟨v, u, rfl, p1 H1 ρ1 (Keep.refl _) (Le.refl _) r1 _ (((er.mono k1 l1).set ra).set rb)⟩
  · exact p1.elim
/-- x op= e of a name -/
def augS (i : Nat) (g : OF) (f : EF) : SF := fun env st => match env[i]? with
  | some (some d) => bindR (f env st) fun e st1 => bindR (g d e st1) fun z st2 => some (.ok (.nx (env.set i (some z))) st2)
  | _ => none
theorem pfs_augI {i : Nat} {x : Str} {op : Operator} {e : Expr} {f : EF} {pos' : Pos} {ti : TIp} {g : OF} (hN : X.N.Nodup) (ho : PIp X op ti) (hs : OpS X.K E ti g) (he : PF X E e f) (hi : X.N[i]? = some x := by rfl) (hx : Loc X.env.scope x := by first | exact Or.inl rfl | exact Or.inr rfl)
    (h : PS X (.AugAssign (.Name x pos') op e pos) (tAug i (tF X.K E f) ti)) : PFS X E (.AugAssign (.Name x pos') op e pos) (augS i g f) := PS.of h fun D σ H h => by
  obtain ⟨ρ, env, st, rel, er, p⟩ := h
  unfold augS at p
  split at p
  · rename_i d hd
    obtain ⟨v, hv, rv⟩ := er.2 i d hd
    refine ⟨v, hv, ρ, env, st, rel, er, Post.seq p fun e1 st1 ρ1 H1 k1 l1 r1 p1 u ru => ?_⟩
    exact hs.q ρ1 st1 H1 v u d e1 _ _ r1 (rv.mono k1 l1) ru (Post.bind p1) fun z st2 ρ2 H2 w k2 l2 r2 rw p2 => p2 H2 ρ2 (Keep.refl _) (Le.refl _) r2 _ (((er.mono k1 l1).mono k2 l2).set rw)
  · exact p.elim
/-- o.f = e -/
def putFD (f : Str) (v : D) : List (Str × D) → List (Str × D)
  | [] => [(f, v)]
  | (g, x) :: r => if g = f then (g, v) :: r else (g, x) :: putFD f v r
theorem putF_AL {K : Frag} {ρ : List Addr} {H : Hp} {f : Str} {v : V} {d : D} (r : RV K ρ H v d) : ∀ {gs : List (Str × V)} {fs : List (Str × D)}, AL K ρ H gs fs → AL K ρ H (putF f v gs) (putFD f d fs)
  | _, _, .nil => .cons ⟨rfl, r⟩ .nil
  | _, _, .cons (a := (p1, p2)) (b := (q1, q2)) h t => by
    have e : p1 = q1 := h.1
    subst e
    unfold putF putFD
    by_cases z : p1 = f
    · rw [if_pos z, if_pos z]
      exact .cons ⟨rfl, r⟩ t
    · rw [if_neg z, if_neg z]
      exact .cons h (putF_AL r t)
def fldS (C : Addr) (f : Str) (fo fv : EF) : SF := fun env st => bindR (fv env st) fun d st1 => bindR (fo env st1) fun o st2 => match o with
  | .cell n => match st2[n]? with
    | some (.ins C' fs) => if C' = C ∧ fs.length < 1000 then some (.ok (.nx env) (st2.set n (.ins C (putFD f d fs)))) else none
    | _ => none
  | _ => none
theorem pfs_fld {C : Addr} {o value : Expr} {f : Str} {fo fv : EF} {pos' : Pos} (c : Cls X.K C) (n : NoAttr X.K C f) (ho : PF X E o fo) (hv : PF X E value fv) (hs : swapsWith value (some (.Attribute o f pos')) pos.line X.env = pure false := by rfl) : PFS X E (.Assign [.Attribute o f pos'] value pos) (fldS C f fo fv) := PS.of (ps_fld ho hv hs) fun D σ H h => by
  obtain ⟨ρ, env, st, rel, er, p⟩ := h
  refine ⟨ρ, env, st, rel, er, Post.seq p fun d st1 ρ1 H1 k1 l1 r1 p1 v rv => ⟨ρ1, env, st1, r1, er.mono k1 l1, Post.seq p1 fun o1 st2 ρ2 H2 k2 l2 r2 p2 x rx => ?_⟩⟩
  split at p2
  · split at p2
    · rename_i hn
      split at p2
      · rename_i hC
        obtain ⟨hC, hl⟩ := hC
        rw [hC] at hn
        obtain ⟨a, dx, gs, rfl, ha, ea, ra⟩ := r2.ins hn rx
        have kk : Keep H2 (upd H2 a (.ins C dx (putF f v gs))) := Keep.set ea rfl
        have rr := r2.set ha ea rfl (c := .ins C (putFD f d _)) (o := .ins C dx (putF f v gs)) ⟨dx, _, upd_same, AL.mono kk (Le.refl ρ2) (putF_AL (f := f) (rv.mono k2 l2) ra)⟩
        exact ⟨a, C, dx, gs, rfl, ea, c, n, by rw [al_length ra]; exact hl, p2 _ ρ2 kk (Le.refl _) rr σ (((er.mono k1 l1).mono k2 l2).mono kk (Le.refl _))⟩
      · exact p2.elim
    · exact p2.elim
  · exact p2.elim
/-- code that is not come to -/
def stuckS : SF := fun _ _ => none
theorem pfs_never {s : Stmt} : PFS X E s stuckS := PS.of ps_never fun D σ H h => by
  obtain ⟨ρ, env, st, rel, er, p⟩ := h
  exact p.elim

/-! ### what is walked -/
inductive ItV where
  | lst (n : Nat) | tup (ds : List D) | rng (lo : Int) (n : Nat) | str (x : Str) | enm (n : Nat) | zipL (n m : Nat) | zipT (ds es : List D) | enmK (k : Int) (n : Nat)
def pair2 (a b : Option D) : Option D := match a, b with
  | some x, some y => some (.tup [x, y])
  | _, _ => none
/-- the i-th item: none: not to be told; some none: no more -/
def ItV.nxt (it : ItV) (i : Nat) (st : Store) : Option (Option D) := match it with
  | .lst n => match st[n]? with
    | some (.lst ds) => some ds[i]?
    | _ => none
  | .tup ds => some ds[i]?
  | .rng lo n => some (if i < n then some (.int (lo + i)) else none)
  | .str x => some (x.cps[i]?.map fun c => .str ⟨#[c]⟩)
  | .enm n => match st[n]? with
    | some (.lst ds) => some (ds[i]?.map fun d => .tup [.int (i : Nat), d])
    | _ => none
  | .zipL n m => match st[n]?, st[m]? with
    | some (.lst ds), some (.lst es) => some (pair2 ds[i]? es[i]?)
    | _, _ => none
  | .zipT ds es => some (pair2 ds[i]? es[i]?)
  | .enmK k n => match st[n]? with
    | some (.lst ds) => some (ds[i]?.map fun d => .tup [.int (k + (i : Nat)), d])
    | _ => none
/-- what it walks by is what it tells -/
def JOk (K : Frag) (H0 : Hp) (ρ0 : List Addr) (J : It) (it : ItV) : Prop := ∀ i st H ρ, Keep H0 H → Le ρ0 ρ → Rel K ρ st H → match it.nxt i st with
  | none => True
  | some none => J.stop i H
  | some (some d) => J.go i H ∧ ∀ x H', J.yld i H x H' → Keep H H' ∧ Rel K ρ st H' ∧ RV K ρ H' x d
abbrev IF := Env → Store → Option (Rs ItV)
def tFI (K : Frag) (E : XK) (f : IF) : TI := fun σ H R => ∃ ρ env st, Rel K ρ st H ∧ EnvR K ρ H σ env ∧ Post K H ρ (f env st) (fun it _ ρ' H' => ∀ J, JOk K H' ρ' J it → R J H') E
theorem PI.of {tg e : Expr} {t t' : TI} (h : PI X tg e t) (w : ∀ σ H R, t' σ H R → t σ H R) : PI X tg e t' := ⟨fun pins s σ H R I q => h.run pins s σ H R I (w σ H R q)⟩
abbrev PFI (X : Cx) (E : XK) (tg e : Expr) (f : IF) : Prop := PI X tg e (tFI X.K E f)
theorem none_rvs {K : Frag} {ρ : List Addr} {H : Hp} {xs : List V} {ds : List D} {i : Nat} (r : RVs K ρ H xs ds) (h : ds[i]? = none) : xs.length ≤ i := by rw [r.length]; exact List.getElem?_eq_none_iff.mp h
theorem jok_lst {K : Frag} {H0 : Hp} {ρ0 : List Addr} {n : Nat} {a : Addr} (hn : ρ0[n]? = some a) : JOk K H0 ρ0 (Itl K a) (.lst n) := fun i st H ρ k l rel => by
  simp only [ItV.nxt]
  split
  · trivial
  · rename_i h
    split at h
    · rename_i ds hd
      obtain ⟨b, xs, e, _, ea, ra⟩ := rel.lst hd (.cell (l _ _ hn))
      cases e
      exact ⟨xs, SqL.of ea, none_rvs ra (Option.some.inj h)⟩
    · cases h
  · rename_i d h
    split at h
    · rename_i ds hd
      obtain ⟨b, xs, e, _, ea, ra⟩ := rel.lst hd (.cell (l _ _ hn))
      cases e
      obtain ⟨v, e1, e2⟩ := ra.get (Option.some.inj h)
      refine ⟨⟨xs, v, SqL.of ea, e1⟩, fun x H' y => ?_⟩
      obtain ⟨rfl, y⟩ := y
      have := (y xs (SqL.of ea)).symm.trans e1
      cases this
      exact ⟨Keep.refl _, rel, e2⟩
    · cases h
theorem jok_tup {K : Frag} {H0 : Hp} {ρ0 : List Addr} {a : Addr} {xs : List V} {ds : List D} (ht : SqT K H0 a xs) (rs : RVs K ρ0 H0 xs ds) : JOk K H0 ρ0 (Itt K a) (.tup ds) := fun i st H ρ k l rel => by
  simp only [ItV.nxt]
  have ht' := SqT.keep k ht
  have rs' := RVs.mono k l rs
  split
  · trivial
  · rename_i h
    exact ⟨xs, ht', none_rvs rs' (Option.some.inj h)⟩
  · rename_i d h
    obtain ⟨v, e1, e2⟩ := rs'.get (Option.some.inj h)
    refine ⟨⟨xs, v, ht', e1⟩, fun x H' y => ?_⟩
    obtain ⟨rfl, y⟩ := y
    have := (y xs ht').symm.trans e1
    cases this
    exact ⟨Keep.refl _, rel, e2⟩
theorem jok_rng {K : Frag} {H0 : Hp} {ρ0 : List Addr} {lo : Int} {n : Nat} : JOk K H0 ρ0 (Itr lo n) (.rng lo n) := fun i st H ρ k l rel => by
  simp only [ItV.nxt]
  by_cases h : i < n
  · rw [if_pos h]
    refine ⟨h, fun x H' y => ?_⟩
    obtain ⟨rfl, rfl⟩ := y
    exact ⟨Keep.refl _, rel, .int _⟩
  · rw [if_neg h]
    exact Nat.le_of_not_lt h
theorem jok_str {K : Frag} {H0 : Hp} {ρ0 : List Addr} {x : Str} : JOk K H0 ρ0 (Its x) (.str x) := fun i st H ρ k l rel => by
  simp only [ItV.nxt]
  cases h : x.cps[i]? with
  | none => exact Array.getElem?_eq_none_iff.mp h
  | some c =>
    refine ⟨(Array.getElem?_eq_some_iff.mp h).1, fun v H' y => ?_⟩
    obtain ⟨rfl, c', hc, rfl⟩ := y
    rw [h] at hc
    cases hc
    exact ⟨Keep.refl _, rel, .str _⟩
theorem jok_enm {K : Frag} {H0 : Hp} {ρ0 : List Addr} {n : Nat} {a : Addr} (hn : ρ0[n]? = some a) : JOk K H0 ρ0 (Ite K a) (.enm n) := fun i st H ρ k l rel => by
  simp only [ItV.nxt]
  split
  · trivial
  · rename_i h
    split at h
    · rename_i ds hd
      obtain ⟨b, xs, e, _, ea, ra⟩ := rel.lst hd (.cell (l _ _ hn))
      cases e
      exact ⟨xs, SqL.of ea, none_rvs ra (Option.map_eq_none_iff.mp (Option.some.inj h))⟩
    · cases h
  · rename_i d h
    split at h
    · rename_i ds hd
      obtain ⟨b, xs, e, _, ea, ra⟩ := rel.lst hd (.cell (l _ _ hn))
      cases e
      obtain ⟨d', h1, h2⟩ := Option.map_eq_some_iff.mp (Option.some.inj h)
      subst h2
      obtain ⟨v, e1, e2⟩ := ra.get h1
      refine ⟨⟨xs, v, SqL.of ea, e1⟩, fun x H' y => ?_⟩
      obtain ⟨T, x1, rfl, nT, rfl, y⟩ := y
      have := (y xs (SqL.of ea)).symm.trans e1
      cases this
      have kk : Keep H (upd H T (.tup [.int (i : Nat), v])) := Keep.new nT
      exact ⟨kk, rel.other nT, .tup (SqT.of upd_same) (.cons (.int _) (.cons (e2.mono kk (Le.refl _)) .nil))⟩
    · cases h
theorem pair2_some {a b : Option D} {d : D} (h : pair2 a b = some d) : ∃ x y, a = some x ∧ b = some y ∧ d = .tup [x, y] := by
  unfold pair2 at h
  split at h
  · cases h; exact ⟨_, _, rfl, rfl, rfl⟩
  · cases h
theorem pair2_none {a b : Option D} (h : pair2 a b = none) : a = none ∨ b = none := by
  cases a with
  | none => exact .inl rfl
  | some x => cases b with
    | none => exact .inr rfl
    | some y => cases h
theorem jok_zipL {K : Frag} {H0 : Hp} {ρ0 : List Addr} {n m : Nat} {a b : Addr} (hn : ρ0[n]? = some a) (hm : ρ0[m]? = some b) : JOk K H0 ρ0 (Itz K a b) (.zipL n m) := fun i st H ρ k l rel => by
  simp only [ItV.nxt]
  split
  · trivial
  · rename_i h
    split at h
    · rename_i ds es hd he
      obtain ⟨a', xs, e, _, ea, ra⟩ := rel.lst hd (.cell (l _ _ hn))
      cases e
      obtain ⟨b', ys, e, _, eb, rb⟩ := rel.lst he (.cell (l _ _ hm))
      cases e
      refine ⟨xs, ys, SqL.of ea, SqL.of eb, ?_⟩
      rcases pair2_none (Option.some.inj h) with z | z
      · exact .inl (none_rvs ra z)
      · exact .inr (none_rvs rb z)
    · cases h
  · rename_i d h
    split at h
    · rename_i ds es hd he
      obtain ⟨a', xs, e, _, ea, ra⟩ := rel.lst hd (.cell (l _ _ hn))
      cases e
      obtain ⟨b', ys, e, _, eb, rb⟩ := rel.lst he (.cell (l _ _ hm))
      cases e
      obtain ⟨x, y, h1, h2, rfl⟩ := pair2_some (Option.some.inj h)
      obtain ⟨v, e1, r1⟩ := ra.get h1
      obtain ⟨u, e2, r2⟩ := rb.get h2
      refine ⟨⟨xs, ys, v, u, SqL.of ea, SqL.of eb, e1, e2⟩, fun w H' q => ?_⟩
      obtain ⟨T, x1, x2, rfl, nT, rfl, q1, q2⟩ := q
      have z1 := (q1 xs (SqL.of ea)).symm.trans e1
      have z2 := (q2 ys (SqL.of eb)).symm.trans e2
      cases z1; cases z2
      have kk : Keep H (upd H T (.tup [v, u])) := Keep.new nT
      exact ⟨kk, rel.other nT, .tup (SqT.of upd_same) (.cons (r1.mono kk (Le.refl _)) (.cons (r2.mono kk (Le.refl _)) .nil))⟩
    · cases h
theorem jok_zipT {K : Frag} {H0 : Hp} {ρ0 : List Addr} {a b : Addr} {xs ys : List V} {ds es : List D} (ha : SqT K H0 a xs) (hb : SqT K H0 b ys) (ra : RVs K ρ0 H0 xs ds) (rb : RVs K ρ0 H0 ys es) : JOk K H0 ρ0 (RZ.ItzT K a b) (.zipT ds es) := fun i st H ρ k l rel => by
  simp only [ItV.nxt]
  have ha' := SqT.keep k ha
  have hb' := SqT.keep k hb
  have ra' := RVs.mono k l ra
  have rb' := RVs.mono k l rb
  split
  · trivial
  · rename_i h
    refine ⟨xs, ys, ha', hb', ?_⟩
    rcases pair2_none (Option.some.inj h) with z | z
    · exact .inl (none_rvs ra' z)
    · exact .inr (none_rvs rb' z)
  · rename_i d h
    obtain ⟨x, y, h1, h2, rfl⟩ := pair2_some (Option.some.inj h)
    obtain ⟨v, e1, r1⟩ := ra'.get h1
    obtain ⟨u, e2, r2⟩ := rb'.get h2
    refine ⟨⟨xs, ys, v, u, ha', hb', e1, e2⟩, fun w H' q => ?_⟩
    obtain ⟨T, x1, x2, rfl, nT, rfl, q1, q2⟩ := q
    have z1 := (q1 xs ha').symm.trans e1
    have z2 := (q2 ys hb').symm.trans e2
    cases z1; cases z2
    have kk : Keep H (upd H T (.tup [v, u])) := Keep.new nT
    exact ⟨kk, rel.other nT, .tup (SqT.of upd_same) (.cons (r1.mono kk (Le.refl _)) (.cons (r2.mono kk (Le.refl _)) .nil))⟩
end
end PF
end
section
namespace PF
open PySem PySem.Spec PyProof.Rows L2
section
variable {X : Cx} {E : XK} {pos : Pos}
/-! ### sources of loops -/
/-- a list, a tuple or a text -/
theorem pi_any {X : Cx} {tg e : Expr} {te : TE} (he : PE X e te) : PI X tg e (fun σ H R => te σ H fun x H1 =>
    (∃ a, x = .ref a ∧ (∃ xs, SqL X.K H1 a xs) ∧ R (Itl X.K a) H1) ∨ (∃ a, x = .ref a ∧ (∃ xs, SqT X.K H1 a xs) ∧ R (Itt X.K a) H1) ∨ ∃ z, x = .str z ∧ R (Its z) H1) := by
  refine ⟨fun pins s σ H R I h => ?_⟩
  refine thn (he.run pins s σ H _ I h) fun v s1 ⟨x, H1, I1, r1, q1⟩ => ?_
  rcases q1 with ⟨a, e, ⟨xs, hq⟩, q⟩ | ⟨a, e, ⟨xs, hq⟩, q⟩ | ⟨z, e, q⟩
  · subst e
    cases r1
    obtain ⟨its, rv, p, hz⟩ := I1.list hq
    refine wpAny_pyIter_list p.isList ?_
    refine ⟨s1.heap.objs.size, [s1.heap.objs.size], _, _, H1, rfl, I1.kept (t' := s1.toks) fun b o e => Heap.get?_push_of_some _ e, turn_list a _, ⟨_, Heap.get?_push_size _ rfl, rfl, rfl⟩, fun b hb => ?_, q⟩
    have e : b = s1.heap.objs.size := by simpa using hb
    subst e
    exact I1.fpOk (Nat.le_refl _) (I1.hok.fresh (Nat.le_refl _))
  · subst e
    cases r1
    obtain ⟨its, rv, p, hz⟩ := I1.tuple hq
    refine wpAny_pyIter_tuple (show s1.heap.IsTuple a its.toArray from p) ?_
    refine ⟨s1.heap.objs.size, [s1.heap.objs.size], _, _, H1, rfl, I1.kept (t' := s1.toks) fun b o e => Heap.get?_push_of_some _ e, turn_tuple a _, ⟨_, Heap.get?_push_size _ rfl, rfl, rfl⟩, fun b hb => ?_, q⟩
    have e : b = s1.heap.objs.size := by simpa using hb
    subst e
    exact I1.fpOk (Nat.le_refl _) (I1.hok.fresh (Nat.le_refl _))
  · subst e
    obtain ⟨t, rfl⟩ := r1
    cases ha : z.cps.all (· < 128)
    · exact wpAny_pyIter_wide ha (pi_one (tk := s1.toks) I1 _ (turn_str _ z t "str_iterator" (.inr rfl)) ⟨_, Heap.get?_push_size _ rfl, rfl, rfl⟩ q)
    · exact wpAny_pyIter_ascii ha (pi_one (tk := s1.toks) I1 _ (turn_str _ z t "str_ascii_iterator" (.inl rfl)) ⟨_, Heap.get?_push_size _ rfl, rfl, rfl⟩ q)
def iterF (f : EF) : IF := fun env st => bindR (f env st) fun d st1 => match d with
  | .tup ds => some (.ok (.tup ds) st1)
  | .str z => some (.ok (.str z) st1)
  | .cell n => match st1[n]? with
    | some (.lst _) => some (.ok (.lst n) st1)
    | _ => none
  | _ => none
theorem pfi_any {tg e : Expr} {f : EF} (he : PF X E e f) : PFI X E tg e (iterF f) := PI.of (pi_any he) fun σ H R h => by
  obtain ⟨ρ, env, st, rel, er, p⟩ := h
  refine ⟨ρ, env, st, rel, er, Post.seq p fun d st1 ρ1 H1 k1 l1 r1 p1 v rv => ?_⟩
  split at p1
  · cases rv with
    | tup ht rs => exact .inr (.inl ⟨_, rfl, ⟨_, ht⟩, p1 H1 ρ1 (Keep.refl _) (Le.refl _) r1 _ (jok_tup ht rs)⟩)
  · cases rv
    exact .inr (.inr ⟨_, rfl, p1 H1 ρ1 (Keep.refl _) (Le.refl _) r1 _ jok_str⟩)
  · split at p1
    · rename_i hn
      obtain ⟨a, xs, rfl, ha, ea, ra⟩ := r1.lst hn rv
      exact .inl ⟨a, rfl, ⟨xs, SqL.of ea⟩, p1 H1 ρ1 (Keep.refl _) (Le.refl _) r1 _ (jok_lst ha)⟩
    · exact p1.elim
  · exact p1.elim
def rng1F (g : AF) : IF := fun env st => bindR (g env st) fun ds st1 => match ds with
  | [.int j] => if j < 2 ^ 61 ∧ -(2 ^ 61) ≤ j then some (.ok (.rng 0 j.toNat) st1) else none
  | _ => none
theorem pfi_rng1 {tg a : Expr} {g : AF} {p : Pos} (hm : X.mg "range" = none) (ha : PFA X E [a] g) (hg : Gl X "range" := by rfl) (hs : starEach [a] X.env = [(false, eval a X.env)] := by rfl) : PFI X E tg (.Call (.Name "range" p) [a] [] pos) (rng1F g) := PI.of (pi_range1 hg hm ha hs) fun σ H R h => by
  obtain ⟨ρ, env, st, rel, er, p⟩ := h
  refine ⟨ρ, env, st, rel, er, Post.seq p fun ds st1 ρ1 H1 k1 l1 r1 p1 vs rs => ?_⟩
  split at p1
  · obtain ⟨v, rfl, r⟩ := rvs1 rs
    cases r
    split at p1
    · exact ⟨_, rfl, by omega, by omega, p1 H1 ρ1 (Keep.refl _) (Le.refl _) r1 _ jok_rng⟩
    · exact p1.elim
  · exact p1.elim
def rng2F (g : AF) : IF := fun env st => bindR (g env st) fun ds st1 => match ds with
  | [.int i, .int j] => if (i < 2 ^ 61 ∧ -(2 ^ 61) ≤ i) ∧ (j < 2 ^ 61 ∧ -(2 ^ 61) ≤ j) then some (.ok (.rng i (j - i).toNat) st1) else none
  | _ => none
theorem pfi_rng2 {tg a b : Expr} {g : AF} {p : Pos} (hm : X.mg "range" = none) (ha : PFA X E [a, b] g) (hg : Gl X "range" := by rfl) (hs : starEach [a, b] X.env = [(false, eval a X.env), (false, eval b X.env)] := by rfl) (hs2 : starEach [b] X.env = [(false, eval b X.env)] := by rfl) : PFI X E tg (.Call (.Name "range" p) [a, b] [] pos) (rng2F g) := PI.of (pi_range2 hg hm ha hs hs2) fun σ H R h => by
  obtain ⟨ρ, env, st, rel, er, p⟩ := h
  refine ⟨ρ, env, st, rel, er, Post.seq p fun ds st1 ρ1 H1 k1 l1 r1 p1 vs rs => ?_⟩
  split at p1
  · obtain ⟨v, u, rfl, ra, rb⟩ := rvs2 rs
    cases ra; cases rb
    split at p1
    · rename_i h
      exact ⟨_, _, rfl, ⟨by omega, by omega, by omega, by omega⟩, p1 H1 ρ1 (Keep.refl _) (Le.refl _) r1 _ jok_rng⟩
    · exact p1.elim
  · exact p1.elim
def enmF (g : AF) : IF := fun env st => bindR (g env st) fun ds st1 => match ds with
  | [.cell n] => match st1[n]? with
    | some (.lst _) => some (.ok (.enm n) st1)
    | _ => none
  | _ => none
theorem pfi_enm {e : Expr} {elts : List Expr} {kk : Nat} {g : AF} {p tpos : Pos} (hm : X.mg "enumerate" = none) (ha : PFA X E [e] g) (hg : Gl X "enumerate" := by rfl) (hs : starEach [e] X.env = [(false, eval e X.env)] := by rfl) : PFI X E (.Tuple elts kk tpos) (.Call (.Name "enumerate" p) [e] [] pos) (enmF g) := PI.of (pi_enum hg hm ha hs) fun σ H R h => by
  obtain ⟨ρ, env, st, rel, er, p⟩ := h
  refine ⟨ρ, env, st, rel, er, Post.seq p fun ds st1 ρ1 H1 k1 l1 r1 p1 vs rs => ?_⟩
  split at p1
  · obtain ⟨v, rfl, r⟩ := rvs1 rs
    split at p1
    · rename_i hn
      obtain ⟨a, xs, rfl, ha, ea, ra⟩ := r1.lst hn r
      exact ⟨a, xs, rfl, SqL.of ea, p1 H1 ρ1 (Keep.refl _) (Le.refl _) r1 _ (jok_enm ha)⟩
    · exact p1.elim
  · exact p1.elim
def zipF (g : AF) : IF := fun env st => bindR (g env st) fun ds st1 => match ds with
  | [.cell n, .cell m] => match st1[n]?, st1[m]? with
    | some (.lst _), some (.lst _) => some (.ok (.zipL n m) st1)
    | _, _ => none
  | [.tup xs, .tup ys] => some (.ok (.zipT xs ys) st1)
  | _ => none
theorem pfi_zip {e e2 : Expr} {elts : List Expr} {kk : Nat} {g : AF} {p tpos : Pos} (hm : X.mg "zip" = none) (ha : PFA X E [e, e2] g) (hg : Gl X "zip" := by rfl) (hs : starEach [e, e2] X.env = (false, eval e X.env) :: starEach [e2] X.env := by rfl) (hpl : (backTo pos (starEach [e2] X.env)).any (·.1) = false := by rfl) :
    PFI X E (.Tuple elts kk tpos) (.Call (.Name "zip" p) [e, e2] [] pos) (zipF g) := PI.of (RZ.pi_zipA hg hm ha hs hpl) fun σ H R h => by
  obtain ⟨ρ, env, st, rel, er, p⟩ := h
  refine ⟨ρ, env, st, rel, er, Post.seq p fun ds st1 ρ1 H1 k1 l1 r1 p1 vs rs => ?_⟩
  split at p1
  · obtain ⟨v, u, rfl, ra, rb⟩ := rvs2 rs
    split at p1
    · rename_i hn hm
      obtain ⟨a, xs, rfl, ha, ea, _⟩ := r1.lst hn ra
      obtain ⟨b, ys, rfl, hb, eb, _⟩ := r1.lst hm rb
      exact ⟨a, b, xs, ys, rfl, .inl ⟨SqL.of ea, SqL.of eb, p1 H1 ρ1 (Keep.refl _) (Le.refl _) r1 _ (jok_zipL ha hb)⟩⟩
    · exact p1.elim
  · obtain ⟨v, u, rfl, ra, rb⟩ := rvs2 rs
    cases ra with
    | tup ha xa =>
      cases rb with
      | tup hb xb => exact ⟨_, _, _, _, rfl, .inr ⟨ha, hb, p1 H1 ρ1 (Keep.refl _) (Le.refl _) r1 _ (jok_zipT ha hb xa xb)⟩⟩
  · exact p1.elim

/-! ### for, while -/
def FUEL : Nat := 100000
def forL (it : ItV) (g : GF) (b : SF) : Nat → Nat → Env → Store → Option (Rs Fl)
  | 0, _, _, _ => none
  | m + 1, i, env, st => match it.nxt i st with
    | none => none
    | some none => some (.ok (.nx env) st)
    | some (some d) => bindR (g d env st) fun env1 st1 => bindR (b env1 st1) fun fl st2 => match fl with
      | .nx e => forL it g b m (i + 1) e st2
      | .ct e => forL it g b m (i + 1) e st2
      | .bk e => some (.ok (.nx e) st2)
      | .rt v => some (.ok (.rt v) st2)
def forS (fi : IF) (g : GF) (b : SF) : SF := fun env st => bindR (fi env st) fun it st1 => forL it g b FUEL 0 env st1
theorem pfs_for {tg iter : Expr} {body : List Stmt} {fi : IF} {g : GF} {ix : List Nat} {b : SF} (hp : PassesOwn (model X.prog X.w) X.A X.env X.xe) (hc : X.calm = true) (hi : PFI X E tg iter fi) (hg : PFG X E tg ix g) (hb : PFSs X E body b)
    (hs : ∀ x, foldedSetIterable iter X.env x = pure x := by intro _; rfl) : PFS X E (.For tg iter body [] pos) (forS fi g b) := PS.of (ps_for hp hc hi hg hb hs) fun D σ H h => by
  obtain ⟨ρ, env, st, rel, er, p⟩ := h
  refine ⟨ρ, env, st, rel, er, Post.seq p fun it st1 ρ1 H1 k1 l1 r1 p1 J jok => ?_⟩
  refine ⟨fun i m σ' H' => ∃ ρ' env' st', Rel X.K ρ' st' H' ∧ EnvR X.K ρ' H' σ' env' ∧ Keep H1 H' ∧ Le ρ1 ρ' ∧ Post X.K H' ρ' (forL it g b m i env' st') (SQ X.K D) E, ⟨FUEL, ρ1, env, st1, r1, er.mono k1 l1, Keep.refl _, Le.refl _, p1⟩, ?_⟩
  rintro i m σ' H' ⟨ρ', env', st', rel', er', kk, ll, q⟩
  cases m with
  | zero => exact q.elim
  | succ m =>
    have j := jok i st' H' ρ' kk ll rel'
    unfold forL at q
    cases e : it.nxt i st' with
    | none => rw [e] at q; exact q.elim
    | some o =>
      rw [e] at q j
      cases o with
      | none => exact .inl ⟨j, q H' ρ' (Keep.refl _) (Le.refl _) rel' σ' er'⟩
      | some d =>
        refine .inr ⟨j.1, _, fun σ2 H2 w => ⟨m, Nat.lt_succ_self m, w⟩, fun x H2 y => ?_⟩
        obtain ⟨k2, rel2, rv⟩ := j.2 x H2 y
        refine ⟨ρ', env', st', d, rel2, er'.mono k2 (Le.refl _), rv, Post.seq (Post.mono k2 (Le.refl _) q) fun env1 st3 ρ3 H3 k3 l3 r3 p3 σ3 er3 _ => ?_⟩
        refine ⟨ρ3, env1, st3, r3, er3, Post.seq p3 fun fl st4 ρ4 H4 k4 l4 r4 p4 => ?_⟩
        have kA := ((kk.trans k2).trans k3).trans k4
        have lA := (ll.trans l3).trans l4
        cases fl with
        | nx e => exact fun σ5 er5 => ⟨ρ4, e, st4, r4, er5, kA, lA, p4⟩
        | ct e => exact fun σ5 er5 => ⟨ρ4, e, st4, r4, er5, kA, lA, p4⟩
        | bk e => exact fun σ5 er5 => p4 H4 ρ4 (Keep.refl _) (Le.refl _) r4 σ5 er5
        | rt v => exact fun v rv => p4 H4 ρ4 (Keep.refl _) (Le.refl _) r4 v rv
def whileL (t : BF) (b : SF) : Nat → Env → Store → Option (Rs Fl)
  | 0, _, _ => none
  | m + 1, env, st => bindR (t env st) fun c st1 => if c = true then bindR (b env st1) fun fl st2 => match fl with
      | .nx e => whileL t b m e st2
      | .ct e => whileL t b m e st2
      | .bk e => some (.ok (.nx e) st2)
      | .rt v => some (.ok (.rt v) st2)
    else some (.ok (.nx env) st1)
def whileS (n : Nat) (t : BF) (b : SF) : SF := whileL t b n
theorem pfs_while (n : Nat) {c : Expr} {body : List Stmt} {t : BF} {b : SF} (hp : PassesOwn (model X.prog X.w) X.A X.env X.xe) (hc : PFT X E c t) (hb : PFSs X E body b) : PFS X E (.While c body [] pos) (whileS n t b) := PS.of (ps_while hp hc hb) fun D σ H h => by
  obtain ⟨ρ, env, st, rel, er, p⟩ := h
  refine ⟨fun m σ' H' => ∃ ρ' env' st', Rel X.K ρ' st' H' ∧ EnvR X.K ρ' H' σ' env' ∧ Post X.K H' ρ' (whileL t b m env' st') (SQ X.K D) E, ⟨n, ρ, env, st, rel, er, p⟩, ?_⟩
  rintro m σ' H' ⟨ρ', env', st', rel', er', q⟩
  cases m with
  | zero => exact q.elim
  | succ m =>
    unfold whileL at q
    refine ⟨ρ', env', st', rel', er', Post.seq q fun c st1 ρ1 H1 k1 l1 r1 p1 => ?_⟩
    cases c with
    | false => exact p1 H1 ρ1 (Keep.refl _) (Le.refl _) r1 σ' (er'.mono k1 l1)
    | true =>
      refine ⟨_, fun σ2 H2 w => ⟨m, Nat.lt_succ_self m, w⟩, ?_⟩
      refine ⟨ρ1, env', st1, r1, er'.mono k1 l1, Post.seq p1 fun fl st4 ρ4 H4 k4 l4 r4 p4 => ?_⟩
      cases fl with
      | nx e => exact fun σ5 er5 => ⟨ρ4, e, st4, r4, er5, p4⟩
      | ct e => exact fun σ5 er5 => ⟨ρ4, e, st4, r4, er5, p4⟩
      | bk e => exact fun σ5 er5 => p4 H4 ρ4 (Keep.refl _) (Le.refl _) r4 σ5 er5
      | rt v => exact fun v rv => p4 H4 ρ4 (Keep.refl _) (Le.refl _) r4 v rv

/-! ### comprehensions -/
def noerr {α : Type} (r : Option (Rs α)) : Option (Rs α) := match r with
  | some (.ok a st) => some (.ok a st)
  | _ => none
@[simp] theorem noerr_ok {α : Type} (a : α) (st : Store) : noerr (some (.ok a st)) = some (.ok a st) := rfl
theorem Post.noerr {α β : Type} {K : Frag} {H : Hp} {ρ : List Addr} {r : Option (Rs α)} {g : α → Store → Option (Rs β)} {Q : β → Store → List Addr → Hp → Prop} (p : Post K H ρ (bindR (PF.noerr r) g) Q E) : Post K H ρ r (fun d st1 ρ1 H1 => Post K H1 ρ1 (g d st1) Q E) E0 := by
  match r, p with
  | some (.ok d st'), p => exact fun H2 ρ2 k2 l2 r2 => Post.mono k2 l2 p
def lcL (it : ItV) (g : GF) (t : BF) (f : EF) (n : Nat) (env : Env) : Nat → Nat → Store → Option (Rs D)
  | 0, _, _ => none
  | m + 1, i, st => match it.nxt i st with
    | none => none
    | some none => some (.ok (.cell n) st)
    | some (some d) => bindR (noerr (g d env st)) fun env1 st1 => bindR (noerr (t env1 st1)) fun b st2 => if b = true then bindR (noerr (f env1 st2)) fun y st3 => match st3[n]? with
        | some (.lst acc) => if acc.length < LIM then lcL it g t f n env m (i + 1) (st3.set n (.lst (acc ++ [y]))) else none
        | _ => none
      else lcL it g t f n env m (i + 1) st2
def yesT : BF := fun _ st => some (.ok true st)
def lcF (fi : IF) (g : GF) (t : BF) (f : EF) (vs : List Nat) : EF := fun env st => bindR (fi env st) fun it st1 => lcL it g t f st1.length (wipeE env vs) FUEL 0 (st1 ++ [.lst []])
abbrev PFTs (X : Cx) (E : XK) (ifs : List Expr) (t : BF) : Prop := PTs X ifs (tFT X.K E t)
theorem PTs.of {ifs : List Expr} {t t' : TT} (h : PTs X ifs t) (w : ∀ σ H Q, t' σ H Q → t σ H Q) : PTs X ifs t' := ⟨fun pins s σ H Q I q => h.run pins s σ H Q I (w σ H Q q)⟩
theorem pfts_nil : PFTs X E [] yesT := PTs.of pts_nil fun σ H Q h => by
  obtain ⟨ρ, env, st, rel, er, p⟩ := h
  exact p H ρ (Keep.refl _) (Le.refl _) rel
theorem pfts_one {c : Expr} {t : BF} (h : PFT X E c t) : PFTs X E [c] t := pts_one h
theorem lc_w {K : Frag} {fi : IF} {g : GF} {t : BF} {f : EF} {ix vs : List Nat} (hix : ∀ i ∈ ix, i ∈ vs) : ∀ σ H Q, tF K E (lcF fi g t f vs) σ H Q → tLc (tFI K E fi) (tFG K E0 ix g) (tFT K E0 t) (tF K E0 f) vs σ H Q := fun σ H Q h => by
  obtain ⟨ρ, env, st, rel, er, p⟩ := h
  refine ⟨ρ, env, st, rel, er, Post.seq p fun it st1 ρ1 H1 k1 l1 r1 p1 J jok Da hD => ?_⟩
  have kD : Keep H1 (upd H1 Da (.lst [])) := Keep.new hD
  have rD : Rel K (ρ1 ++ [Da]) (st1 ++ [.lst []]) (upd H1 Da (.lst [])) := r1.new hD ⟨[], upd_same, .nil⟩
  have hat : (ρ1 ++ [Da])[st1.length]? = some Da := by rw [← r1.len]; simp
  have erw := ((er.mono k1 l1).wipe vs)
  refine ⟨fun i m H' => ∃ ρ' st', Rel K ρ' st' H' ∧ Keep H1 H' ∧ Le (ρ1 ++ [Da]) ρ' ∧ Post K H' ρ' (lcL it g t f st1.length (wipeE env vs) m i st') (PQ K Q) E, ⟨FUEL, ρ1 ++ [Da], _, rD, kD, Le.refl _, Post.mono kD (Le.snoc _ _) p1⟩, ?_⟩
  rintro i m H' ⟨ρ', st', rel', kk, ll, q⟩
  have hat' := ll _ _ hat
  cases m with
  | zero => exact q.elim
  | succ m =>
    have j := jok i st' H' ρ' kk ((Le.snoc _ _).trans ll) rel'
    unfold lcL at q
    cases e : it.nxt i st' with
    | none => rw [e] at q; exact q.elim
    | some o =>
      rw [e] at q j
      cases o with
      | none => exact .inl ⟨j, q H' ρ' (Keep.refl _) (Le.refl _) rel' _ (.cell hat')⟩
      | some d =>
        refine .inr ⟨j.1, _, fun H2 w => ⟨m, Nat.lt_succ_self m, w⟩, fun x H2 y => ?_⟩
        obtain ⟨k2, rel2, rv⟩ := j.2 x H2 y
        have erw2 := (erw.mono (kk.trans k2) ((Le.snoc _ _).trans ll))
        refine ⟨ρ', wipeE env vs, st', d, rel2, erw2, rv, Post.imp (Post.noerr (Post.mono k2 (Le.refl _) q)) fun env1 st3 ρ3 H3 k3 l3 r3 p3 σ3 er3 ag => ⟨?_, ?_⟩⟩
        · rw [ag.wipe hix, wipe_wipe]
        · refine ⟨ρ3, env1, st3, r3, er3, Post.imp (Post.noerr p3) fun b st4 ρ4 H4 k4 l4 r4 p4 => ?_⟩
          have kA := ((kk.trans k2).trans k3).trans k4
          have lA := (ll.trans l3).trans l4
          cases b with
          | false => exact ⟨ρ4, st4, r4, kA, lA, p4⟩
          | true =>
            refine ⟨ρ4, env1, st4, r4, er3.mono k4 l4, Post.imp (Post.noerr p4) fun y st5 ρ5 H5 k5 l5 r5 p5 v rv5 => ?_⟩
            split at p5
            · rename_i acc hacc
              split at p5
              · rename_i hl
                have hat5 := (lA.trans l5) _ _ hat
                obtain ⟨a, xs, ea, _, eb, ra⟩ := r5.lst hacc (.cell hat5)
                cases ea
                have kx : Keep H5 (upd H5 Da (.lst (xs ++ [v]))) := Keep.set eb rfl
                refine ⟨xs, eb, by rw [ra.length]; exact Nat.lt_trans hl lim_lt, ρ5, _, r5.set hat5 eb rfl (c := .lst (acc ++ [y])) ⟨_, upd_same, RVs.mono kx (Le.refl _) (ra.snoc rv5)⟩, (kA.trans k5).trans kx, lA.trans l5, Post.mono kx (Le.refl _) p5⟩
              · exact p5.elim
            · exact p5.elim
theorem pf_lc {elt tg iter : Expr} {ifs : List Expr} {scope : Scope} {own : List (Str × Nat)} {fi : IF} {g : GF} {t : BF} {f : EF} {ix : List Nat} (hc : X.calm = true) (hN : X.N.Nodup) (hi : PFI X E tg iter fi) (ok : BlkOk X.N X.env.scope scope own) (hix : ∀ i ∈ ix, i ∈ own.map (·.2))
    (hg : ∀ (s : Shared) (H : Hp) (C : Addr) (cl : List (Str × Addr)) (fp : List Addr), PFG (X.blk s H scope (compEnvC scope cl C X.env) fp) E0 tg ix g) (ht : ∀ (s : Shared) (H : Hp) (C : Addr) (cl : List (Str × Addr)) (fp : List Addr), PFTs (X.blk s H scope (compEnvC scope cl C X.env) fp) E0 ifs t)
    (he : ∀ (s : Shared) (H : Hp) (C : Addr) (cl : List (Str × Addr)) (fp : List Addr), PF (X.blk s H scope (compEnvC scope cl C X.env) fp) E0 elt f) (hs : ∀ x, foldedSetIterable iter X.env x = pure x := by intro _; rfl)
    {vs : List Nat} (hv : own.map (·.2) = vs := by rfl) : PF X E (.ListComp elt [⟨tg, iter, ifs, 0⟩] scope pos) (lcF fi g t f vs) := by
  subst hv
  exact PE.of (pe_lc hc hN hi ok hg ht (fun s H C cl fp => he s H C cl fp) hs) (lc_w hix)
def setLcS (i : Nat) (f : EF) : SF := fun env st => bindR (f env st) fun d st1 => some (.ok (.nx (env.set i (some d))) st1)
theorem pfs_setLc {i : Nat} {y : Str} {py spos : Pos} {elt tg iter : Expr} {ifs : List Expr} {scope : Scope} {own : List (Str × Nat)} {fi : IF} {g : GF} {t : BF} {f : EF} {ix : List Nat} (hc : X.calm = true) (hN : X.N.Nodup) (hy : X.N[i]? = some y) (hyl : X.env.scope.names.lookup y = some .local)
    (hsw : swapsWith (.ListComp elt [⟨tg, iter, ifs, 0⟩] scope pos) (some (.Name y py)) spos.line X.env = pure true) (hi : PFI X E tg iter fi) (ok : BlkOk X.N X.env.scope scope own) (hix : ∀ i ∈ ix, i ∈ own.map (·.2))
    (hg : ∀ (s : Shared) (H : Hp) (C : Addr) (cl : List (Str × Addr)) (fp : List Addr), PFG (X.blk s H scope (compEnvC scope cl C X.env) fp) E0 tg ix g) (ht : ∀ (s : Shared) (H : Hp) (C : Addr) (cl : List (Str × Addr)) (fp : List Addr), PFTs (X.blk s H scope (compEnvC scope cl C X.env) fp) E0 ifs t)
    (he : ∀ (s : Shared) (H : Hp) (C : Addr) (cl : List (Str × Addr)) (fp : List Addr), PF (X.blk s H scope (compEnvC scope cl C X.env) fp) E0 elt f) (hs : ∀ x, foldedSetIterable iter X.env x = pure x := by intro _; rfl)
    {vs : List Nat} (hv : own.map (·.2) = vs := by rfl) : PFS X E (.Assign [.Name y py] (.ListComp elt [⟨tg, iter, ifs, 0⟩] scope pos) spos) (setLcS i (lcF fi g t f vs)) := by
  subst hv
  refine PS.of (ps_setLc (g := tFG X.K E0 ix g) (tt := tFT X.K E0 t) (te := tF X.K E0 f) hc hN hy hyl hsw hi ok hg ht he hs) fun D σ H h => ?_
  obtain ⟨ρ, env, st, rel, er, p⟩ := h
  refine lc_w hix σ H _ ⟨ρ, env, st, rel, er, Post.seq p fun d st1 ρ1 H1 k1 l1 r1 p1 v rv => ?_⟩
  exact p1 H1 ρ1 (Keep.refl _) (Le.refl _) r1 _ ((er.mono k1 l1).set rv)
end

/-! ### what a def leaves -/
mutual
/-- no cell within -/
def pureD : D → Bool
  | .tup ds => pureDs ds
  | .fl ds => pureDs ds
  | .cell _ => false
  | .exn _ d => pureD d
  | _ => true
def pureDs : List D → Bool
  | [] => true
  | d :: ds => pureD d && pureDs ds
end
mutual
theorem RV.pure {K : Frag} {ρ ρ' : List Addr} {H : Hp} : ∀ {v : V} {d : D}, RV K ρ H v d → pureD d = true → RV K ρ' H v d
  | _, _, .non, _ => .non
  | _, _, .bl b, _ => .bl b
  | _, _, .int i, _ => .int i
  | _, _, .str x, _ => .str x
  | _, _, .ref a, _ => .ref a
  | _, _, .ty n, _ => .ty n
  | _, _, .cell h, e => by simp [pureD] at e
  | _, _, .tup h r, e => .tup h (RVs.pure r (by simpa [pureD] using e))
  | _, _, .fl h r, e => .fl h (RVs.pure r (by simpa [pureD] using e))
  | _, _, .exn h g r, e => .exn h g (RV.pure r (by simpa [pureD] using e))
theorem RVs.pure {K : Frag} {ρ ρ' : List Addr} {H : Hp} : ∀ {vs : List V} {ds : List D}, RVs K ρ H vs ds → pureDs ds = true → RVs K ρ' H vs ds
  | _, _, .nil, _ => .nil
  | _, _, .cons r t, e => by
    simp [pureDs] at e
    exact .cons (RV.pure r e.1) (RVs.pure t e.2)
end
mutual
/-- what was told with fewer cells is told with them still -/
theorem RV.back {K : Frag} {ρ ρ' : List Addr} {H H' : Hp} (l : Le ρ ρ') : ∀ {v u : V} {d : D}, RV K ρ' H' v d → RV K ρ H u d → RV K ρ H' v d
  | _, _, _, .non, _ => .non
  | _, _, _, .bl b, _ => .bl b
  | _, _, _, .int i, _ => .int i
  | _, _, _, .str x, _ => .str x
  | _, _, _, .ref a, _ => .ref a
  | _, _, _, .ty n, _ => .ty n
  | _, _, _, .cell h, q => by
    cases q with
    | cell h0 =>
      have e := (l _ _ h0).symm.trans h
      cases e
      exact .cell h0
  | _, _, _, .tup h r, q => by
    cases q with
    | tup _ r0 => exact .tup h (RVs.back l r r0)
  | _, _, _, .fl h r, q => by
    cases q with
    | fl _ r0 => exact .fl h (RVs.back l r r0)
  | _, _, _, .exn h g r, q => by
    cases q with
    | exn _ _ r0 => exact .exn h g (RV.back l r r0)
theorem RVs.back {K : Frag} {ρ ρ' : List Addr} {H H' : Hp} (l : Le ρ ρ') : ∀ {vs us : List V} {ds : List D}, RVs K ρ' H' vs ds → RVs K ρ H us ds → RVs K ρ H' vs ds
  | _, _, _, .nil, _ => .nil
  | _, _, _, .cons r t, q => by
    cases q with
    | cons r0 t0 => exact .cons (RV.back l r r0) (RVs.back l t t0)
end
theorem AL.back {κ : Type} {K : Frag} {ρ ρ' : List Addr} {H H' : Hp} (l : Le ρ ρ') : ∀ {vs us : List (κ × V)} {ds : List (κ × D)}, AL K ρ' H' vs ds → AL K ρ H us ds → AL K ρ H' vs ds
  | _, _, _, .nil, _ => .nil
  | _, _, _, .cons r t, q => by
    cases q with
    | cons r0 t0 => exact .cons ⟨r.1, RV.back l r.2 r0.2⟩ (AL.back l t t0)
theorem CellOk.back {K : Frag} {ρ ρ' : List Addr} {H H' : Hp} {a b : Addr} {c : Cell} (l : Le ρ ρ') (h : CellOk K ρ' H' a c) (h0 : CellOk K ρ H b c) : CellOk K ρ H' a c := by
  cases c with
  | lst ds =>
    obtain ⟨xs, e, r⟩ := h
    obtain ⟨ys, _, r0⟩ := h0
    exact ⟨xs, e, RVs.back l r r0⟩
  | dct ds =>
    obtain ⟨xs, e, r⟩ := h
    obtain ⟨ys, _, r0⟩ := h0
    exact ⟨xs, e, AL.back l r r0⟩
  | ins C ds =>
    obtain ⟨dx, xs, e, r⟩ := h
    obtain ⟨dy, ys, _, r0⟩ := h0
    exact ⟨dx, xs, e, AL.back l r r0⟩
  | tab P q => exact h
open Classical in
/-- what a pure answer leaves behind, if the cells from ahead are as they were: nothing -/
noncomputable def trim (st : Store) (d : D) (st1 : Store) : Store := if pureD d = true ∧ st1.take st.length = st then st else st1
theorem trim_app {st g : Store} {d : D} (h : pureD d = true) : trim st d (st ++ g) = st := by
  unfold trim
  rw [if_pos ⟨h, by simp⟩]
theorem trim_self {st : Store} {d : D} : trim st d st = st := by
  unfold trim
  split <;> rfl
theorem trim_no {st st1 : Store} {d : D} (h : pureD d = false) : trim st d st1 = st1 := by
  unfold trim
  rw [if_neg (fun z => by rw [h] at z; exact absurd z.1 (by decide))]
theorem Rel.cut {K : Frag} {ρ ρ' : List Addr} {H H' : Hp} {st st1 : Store} (l : Le ρ ρ') (r0 : Rel K ρ st H) (r : Rel K ρ' st1 H') (h : st1.take st.length = st) : Rel K ρ st H' where
  len := r0.len
  nd := r0.nd
  at_ := fun i c a hc ha => by
    have hl : i < st.length := (List.getElem?_eq_some_iff.mp hc).1
    have h1 : st1[i]? = some c := by
      rw [← h, List.getElem?_take_of_lt hl] at hc
      exact hc
    exact (r.at_ i c a h1 (l _ _ ha)).back l (r0.at_ i c a hc ha)
noncomputable def runM (n : Nat) (b : SF) : Mir := fun ds st => bindR (b (ds.map some ++ List.replicate (n - ds.length) none) st) fun fl st1 => match fl with
  | .nx _ => some (.ok .non (trim st .non st1))
  | .rt d => some (.ok d (trim st d st1))
  | _ => none
theorem env_start {K : Frag} {ρ : List Addr} {H : Hp} {N : List Str} {vs : List V} {ds : List D} (r : RVs K ρ H vs ds) : EnvR K ρ H (L2.start N vs) (ds.map some ++ List.replicate (N.length - ds.length) none) := by
  unfold L2.start
  rw [r.length]
  refine ⟨by simp [r.length], fun i d h => ?_⟩
  by_cases hi : i < ds.length
  · rw [List.getElem?_append_left (by simpa using hi)] at h
    rw [List.getElem?_append_left (by rw [List.length_map, r.length]; exact hi)]
    rw [List.getElem?_map] at h
    cases e : ds[i]? with
    | none => rw [e] at h; cases h
    | some d' =>
      rw [e] at h
      cases h
      obtain ⟨v, e1, e2⟩ := r.get e
      exact ⟨v, by rw [List.getElem?_map, e1]; rfl, e2⟩
  · rw [List.getElem?_append_right (by simp; omega), List.getElem?_replicate] at h
    split at h
    · cases h
    · cases h
theorem trim_post {K : Frag} {E : XK} {ρ : List Addr} {H H1 : Hp} {ρ1 : List Addr} {st st1 : Store} {d : D} {v : V} {Q : VK} (rel : Rel K ρ st H) (k : Keep H H1) (l : Le ρ ρ1) (r : Rel K ρ1 st1 H1) (rv : RV K ρ1 H1 v d) (p : Post K H ρ (some (.ok d (trim st d st1))) (PQ K Q) E) : Q v H1 := by
  unfold trim at p
  split at p
  · rename_i h
    exact p H1 ρ k (Le.refl _) (rel.cut l r h.2) v (rv.pure h.1)
  · exact p H1 ρ1 k l r v rv
/-- a def's body, by its mirror, is the def -/
theorem fn_ok {P : Program} {w : World} {K : Frag} {mg : Str → Option Value} {base : Heap} {x qual : Str} {st : Stmt} {f : Addr} {fd : FuncData} {N ps : List Str} {k : Nat} {b : SF} (F : Fun K x qual st f fd) (S : FnScope N ps (defScope st))
    (body : ∀ (cdv : Value) (A : Around) (outer : List PySem.Env) (s : Shared) (H : Hp) (E : XK), Room k (A.deeper (envOfC qual (defScope st) s.heap.objs.size f cdv)) → PFSs (cxOf (L2.CX P w) P w K mg base N qual (defScope st) f cdv A outer s H E) E (defBody st) b) :
    FnOk P w K mg base (L2.CX P w) (k + 1) f fd ps (spF K ps.length (runM N.length b)) := by
  refine F.okX S (fun vs H Q E h => ?_) (fun cdv A outer s H vs Q E hr h => ⟨tFS K E b, body cdv A outer s H E hr, ?_⟩)
  · obtain ⟨ρ, ds, st, _, rs, hl, _⟩ := h
    rw [rs.length, hl]
  · obtain ⟨ρ, ds, st, rel, rs, hl, p⟩ := h
    refine ⟨ρ, _, st, rel, env_start rs, ?_⟩
    unfold runM at p
    generalize b (ds.map some ++ List.replicate (N.length - ds.length) none) st = r at p
    match r, p with
    | some (.err C x st1), p => exact p
    | some (.ok fl st1), p =>
      intro H1 ρ1 k1 l1 r1
      cases fl with
      | nx e => exact fun σ' _ => trim_post rel k1 l1 r1 .non p
      | rt d => exact fun v rv => trim_post rel k1 l1 r1 rv p
      | bk e => exact p.elim
      | ct e => exact p.elim
end PF
end
section
namespace PF
open PySem PySem.Spec PyProof.Rows L2
/-! ### a caught error that stays -/
section
variable {X : Cx} {pins : List (Addr × Obj)} {σ : L2.St} {H : Hp} {s : Shared}
theorem exH_ok {P : Program} {w : World} {H : Hp} {h : Heap} {a C d : Addr} {oe : Obj} {vs : Array Value} (e : h.get? a = some oe) (z : Zc (.ref C) (some d) oe) (hd : oe.data = .fields vs) : ObjOk P w H h a (ExH C d a) :=
  ⟨⟨oe, vs, e, z, hd⟩, ⟨oe, e⟩, fun _ _ ⟨o, v, q, r⟩ k => ⟨o, v, k o q, r⟩⟩
theorem Inv.track {a C d : Addr} {oe : Obj} {vs : Array Value} (I : Inv X ((a, oe) :: pins) σ H s) (z : Zc (.ref C) (some d) oe) (hd : oe.data = .fields vs) (h0 : X.s_0.heap.get? a = none) (hp : ∀ p ∈ X.pn ++ pins, p.1 ≠ a) : Inv X pins σ (upd H a (ExH C d a)) s := by
  obtain ⟨ea, na, nl, nf, nc⟩ := I.pin (a, oe) (List.mem_append_right _ List.mem_cons_self)
  have na : H a = none := na
  refine ⟨I.ok, I.os, I.bare, ⟨I.base.keep, I.base.slot, fun b o q n x => ?_, I.base.there, fun b xs q => ?_, fun b o xs q => ?_, fun b ps q => ?_⟩, I.loc, I.cell, ?_, fun x c e => ?_, fun p hpm => ?_, ?_, I.len⟩
  · rw [upd_ne (fun z => by rw [z, h0] at q; cases q)]
    exact I.base.free b o q n x
  · have := I.base.tups b xs q
    rw [upd_ne (ne_of_none this na)]; exact this
  · have := I.base.frzs b o xs q
    rw [upd_ne (ne_of_none this na)]; exact this
  · obtain ⟨more, this⟩ := I.base.tbls b ps q
    exact ⟨more, by rw [upd_ne (ne_of_none this na)]; exact this⟩
  · rw [upd_ne (Ne.symm nl)]; exact I.free
  · have e1 := I.freeC x c e
    obtain ⟨v, e2⟩ := I.cell x c e
    rw [upd_ne (fun z => by
      subst z
      obtain ⟨o, e3, e4⟩ := e2
      rw [ea] at e3
      cases e3
      exact nc _ e4)]
    exact e1
  · obtain ⟨p1, p2, p3, p4, p5⟩ := I.pin p (by
      rcases List.mem_append.mp hpm with h | h
      · exact List.mem_append_left _ h
      · exact List.mem_append_right _ (List.mem_cons_of_mem _ h))
    exact ⟨p1, by rw [upd_ne (hp p hpm)]; exact p2, p3, p4, p5⟩
  · exact HOk.laidN I.hok (fun b u e => e) na (exH_ok ea z hd)
end
/-- the ends of a suite that falls through -/
def fall (D : L2.St → Hp → Prop) : Ends := { nx := D, rt := fun _ _ => False, bk := fun _ _ => False, ct := fun _ _ => False }
/-- what the clause 'except c as ..: ..' makes of an error whose object stays behind it; it catches all that comes -/
def wKeep (K : Frag) (c : Value) (i : Nat) (ts : Addr → Value → Option Addr → TS) (D : Ends) : WX := fun cls d σ H => PySem.W.exmOne K cls c = some true ∧
  ∀ a, H a = none → ∃ C dd, cls = .ref C ∧ d = some dd ∧ ts a cls d (fall fun σ' H' => D.nx (σ'.set i none) (upd H' a (ExH C dd a))) (σ.set i (some (.ref a))) H
/-- what came down is new -/
theorem fresh_of {X : Cx} {pins : List (Addr × Obj)} {σ : L2.St} {H : Hp} {sI : Shared} {B : Heap} {a : Addr} (J : Inv X pins σ H sI) (hex : X.ex = []) (gb : B.get? a = none) (nf : a ∉ frs X.stack) (nb : ∀ b o, sI.heap.get? b = some o → b ∉ frs X.stack → B.get? b = some o) :
    X.s_0.heap.get? a = none ∧ ∀ p ∈ X.pn ++ pins, p.1 ≠ a := by
  have no : ∀ o, sI.heap.get? a ≠ some o := fun o e => by cases gb.symm.trans (nb a o e nf)
  constructor
  · match q : X.s_0.heap.get? a with
    | none => rfl
    | some o => exact absurd (J.base.there a o q (by rw [hex]; exact List.not_mem_nil)).choose_spec (no _)
  · rintro ⟨b, u⟩ hp rfl
    exact no u (J.pin _ hp).1
section
variable {X : Cx} {x n : Str} {c : Value} {i : Nat} {body suite : List Stmt} {b₀ : Stmt} {np pos pos' : Pos} {tb : WX → TS} {ts : Addr → Value → Option Addr → TS}
theorem ps_try_keep (hex : X.ex = []) (hs : X.stack = X.env :: X.outer) (hf : X.env.frame = some X.env.locals) (hN : X.N.Nodup) (hi : X.N[i]? = some n) (hl : X.env.kindOf n = some .local) (hc : Names X x c)
    (hb : ∀ (W : WX) (pn : List (Addr × Obj)) (xe : Value → Shared → Prop), Takes (X.tr pn xe) W → PSs (X.tr pn xe) body (tb W))
    (hu : ∀ (a : Addr) (o : Obj) (cls : Value) (d : Option Addr) (pn : List (Addr × Obj)), PSs (X.suite a ((a, o) :: pn)) (b₀ :: suite) (ts a cls d)) :
    PS X (.Try body [.ExceptHandler (some (.Name x np)) (some n) (b₀ :: suite) pos'] [] [] pos) (fun D σ H => tb (wKeep X.K c i ts D) (fall D.nx) σ H) := by
  constructor
  intro pins s σ H D I h
  have ok := I.ok
  refine wpAny_Try_except (wpAny_mono ((hb (wKeep X.K c i ts D) (X.pn ++ pins) _ fun u t up => ?_).run [] s σ H _ (I.toTry _) h) (fun f t q => ?_) fun _ _ z => z)
  · obtain ⟨a, B, t0, p0, σ1, H1, cls, d, rfl, J0, nb, ut, sky, na, os, bare, hx, hw⟩ := up
    have J : Inv X pins σ1 H1 t0 := J0.ofTry ok
    have fr : X.A.frames = some (X.env :: X.outer) := ok.frames.trans (congrArg some hs)
    rw [show (X.tr (X.pn ++ pins) _).stack = X.env :: X.outer from hs] at sky
    refine Sky.land Zc.steady fr hf sky fun g fl ug => ?_
    obtain ⟨o, vs, ho, hz, hd⟩ := fl.there
    have nf : a ∉ frs X.stack := fun m => by
      rw [hs] at m
      obtain ⟨_, o', e, z⟩ := fl.2.2.1.mem m
      rw [ho] at e
      cases e
      exact z _ hd
    have nL : a ≠ X.env.locals := fun e => nf (by rw [hs, e]; exact List.mem_filterMap.mpr ⟨_, .head _, hf⟩)
    have nF : a ∉ X.fs := fun m => nf (by
      rw [hs]
      obtain ⟨e, m, q⟩ := List.mem_filterMap.mp m
      exact List.mem_filterMap.mpr ⟨e, .tail _ m, q⟩)
    obtain ⟨h0, hp⟩ := fresh_of J hex fl.2.1 nf nb
    have S := (J.landed (s' := { t with heap := g }) nb fl.1 (ut.trans ug) os bare).suite ho hd na nL nF
    have lk : PySem.W.Looks (model X.prog X.w) g (typeOf (.ref a)) cls := fun _ _ _ _ k q => wpAny_typeOf_ref (k _ _ ho) (hz.1 ▸ q)
    have lm := PySem.W.exm_one (M := model X.prog X.w) S.kIn lk hx
    refine wpAny_handleBy_cons (codeAny_handlers_test ?_) fun q => nomatch q
    suffices q : _ by
      obtain ⟨hg, hdb, hm | ⟨hm, hv, hne⟩⟩ := hc
      · exact ld_glob S hg hm q hdb
      · exact ld_blt S hg hm hv q hne hdb
    refine lm.here (codeAny_handlers_suite_as (HandSPX.lands_againZ fl fun g1 fl1 ug1 => ?_))
    obtain ⟨o1, vs1, ho1, hz1, hd1⟩ := fl1.there
    have S1 := (J.landed (s' := { t with heap := g1 }) nb fl1.1 ((ut.trans ug).trans ug1) os bare).suite ho1 hd1 na nL nF
    refine store_ok (X := X.suite a ((a, o1) :: (X.pn ++ pins))) (v := .ref a) S1 hN hi (.inl hl) rfl (fun t1 S2 => ?_) (.inr hl)
    obtain ⟨C, dd, rfl, rfl, q⟩ := hw a na
    refine wpAny_mono ((hu a o1 _ _ (X.pn ++ pins)).run [] t1 _ H1 _ S2 q) (fun f t2 r => ?_) fun _ _ z => z.elim
    cases f with
    | next =>
      obtain ⟨σ2, H2, S3, r⟩ := r
      refine gone_ok (pins := (a, o1) :: pins) ⟨ok, S3.os, S3.bare, S3.base, S3.loc, S3.cell, S3.free, S3.freeC, fun p m => S3.pin p ?_, S3.hok, S3.len⟩ hN hi hl fun t3 J3 => ⟨_, _, Inv.track J3 hz1 hd1 h0 hp, r⟩
      simp only [List.mem_append, List.mem_cons, List.not_mem_nil, or_false] at m ⊢
      rcases m with m | m | m
      · exact .inr (.inl m)
      · exact .inl m
      · exact .inr (.inr m)
    | ret _ => obtain ⟨_, _, _, _, _, z⟩ := r; exact z.elim
    | brk => obtain ⟨_, _, _, z⟩ := r; exact z.elim
    | cont => obtain ⟨_, _, _, z⟩ := r; exact z.elim
  · cases f with
    | next =>
      obtain ⟨σ1, H1, J, r⟩ := q
      exact wpAny_execs_nil ⟨σ1, H1, J.ofTry ok, r⟩
    | ret _ => obtain ⟨_, _, _, _, _, z⟩ := q; exact z.elim
    | brk => obtain ⟨_, _, _, z⟩ := q; exact z.elim
    | cont => obtain ⟨_, _, _, z⟩ := q; exact z.elim
end

/-! ### a def that calls what it got, and tells the error or the answer -/
def heardE (K : Frag) (CS : Addr) (Q : VK) : XK := fun cls d H' => PySem.W.exmOne K cls (.ref CS) = some true ∧ ∀ a, H' a = none → ∃ C dd, cls = .ref C ∧ d = some dd ∧ ∀ t, upd H' a (ExH C dd a) t = none → Q (.ref t) (upd (upd H' a (ExH C dd a)) t (.tup [.ref a, .non]))
def heardQ (Q : VK) : VK := fun v H' => ∀ t, H' t = none → Q (.ref t) (upd H' t (.tup [.non, v]))
def TTheard (K : Frag) (CS : Addr) : (XK → Hp → VK → Prop) → Hp → VK → Prop := fun tl H Q => ∀ t0, H t0 = none → tl (heardE K CS Q) (upd H t0 (.tup [.non, .non])) (heardQ Q)
def hasTab (P : Addr) (q : Str) (st : Store) : Prop := ∃ i : Nat, st[i]? = some (Cell.tab P q)
open Classical in
noncomputable def heardF (P : Addr) (q : Str) (cats : List Addr) (f : EF) : EF := fun env st => if hasTab P q st then (match f env st with
  | some (.ok d st1) => some (.ok (.tup [.non, d]) st1)
  | some (.err C v st1) => if C ∈ cats then some (.ok (.tup [.exn C v, .non]) st1) else none
  | none => none) else none
def tabsOf (st : Store) : List (Addr × Str) := st.filterMap fun | .tab P q => some (P, q) | _ => none
theorem mem_tabs {st : Store} {P : Addr} {q : Str} : (P, q) ∈ tabsOf st ↔ hasTab P q st := by
  unfold tabsOf hasTab
  rw [List.mem_filterMap]
  constructor
  · rintro ⟨c, hc, e⟩
    obtain ⟨i, hi⟩ := List.getElem?_of_mem hc
    cases c <;> simp at e
    obtain ⟨rfl, rfl⟩ := e
    exact ⟨i, hi⟩
  · rintro ⟨i, hi⟩
    exact ⟨_, List.mem_of_getElem? hi, rfl⟩
section
variable {K : Frag} {ρ : List Addr} {st : Store} {H H1 : Hp}
theorem Rel.tab (r : Rel K ρ st H) {P : Addr} {q : Str} (h : hasTab P q st) : ∃ i : Nat, st[i]? = some (Cell.tab P q) ∧ ρ[i]? = some P ∧ LamX.TabS H P q := by
  obtain ⟨i, hi⟩ := h
  obtain ⟨a, ha, e, t⟩ := r.get hi
  subst e
  exact ⟨i, hi, ha, t⟩
theorem Rel.tabs (r : Rel K ρ st H) : LamX.Tabs (tabsOf st) H := fun ⟨P, q⟩ h => by
  obtain ⟨i, _, _, t⟩ := r.tab (mem_tabs.mp h)
  exact t
theorem Rel.tab1 (r : Rel K ρ st H) {P : Addr} {q q' : Str} (h : hasTab P q st) (h' : hasTab P q' st) : q' = q := by
  obtain ⟨i, hi, ai, _⟩ := r.tab h
  obtain ⟨j, hj, aj, _⟩ := r.tab h'
  have e := r.nd i j P ai aj
  subst e
  rw [hi] at hj
  cases hj
  rfl
theorem keep_extN (e : LamX.ExtN H H1) : Keep H H1 := fun a o f h => e a o h fun ps z => by subst z; cases f
theorem Rel.extN (r : Rel K ρ st H) (e : LamX.ExtN H H1) (t : LamX.Tabs (tabsOf st) H1) : Rel K ρ st H1 where
  len := r.len
  nd := r.nd
  at_ := fun i c a hi ha => by
    have h := r.at_ i c a hi ha
    have k := keep_extN e
    cases c with
    | lst ds =>
      obtain ⟨xs, h1, h2⟩ := h
      exact ⟨xs, e a _ h1 (fun _ z => by cases z), RVs.mono k (Le.refl _) h2⟩
    | dct kvs =>
      obtain ⟨xs, h1, h2⟩ := h
      exact ⟨xs, e a _ h1 (fun _ z => by cases z), AL.mono k (Le.refl _) h2⟩
    | ins C fs =>
      obtain ⟨dx, xs, h1, h2⟩ := h
      exact ⟨dx, xs, e a _ h1 (fun _ z => by cases z), AL.mono k (Le.refl _) h2⟩
    | tab P q =>
      obtain ⟨rfl, _⟩ := h
      exact ⟨rfl, t (a, q) (mem_tabs.mpr ⟨i, hi⟩)⟩
end
theorem SqT.new {K : Frag} {H : Hp} {t : Addr} {xs : List V} : SqT K (upd H t (.tup xs)) t xs := .inl (.inl upd_same)
section
variable {X : Cx} {E : XK}
theorem heard_w {K : Frag} {CS P : Addr} {q : Str} {cats : List Addr} {fb : EF} (hcat : ∀ C ∈ cats, PySem.W.exmOne K (.ref C) (.ref CS) = some true) : ∀ σ H Q, tF K E (heardF P q cats fb) σ H Q → ∃ T : List (Addr × Str), ((P, q) ∈ T ∧ ∀ p ∈ T, p.1 = P → p.2 = q) ∧ LamX.tLam T (TTheard K CS) (fun E => tF K E fb) σ H Q := fun σ H Q h => by
  obtain ⟨ρ, env, st, rel, er, p⟩ := h
  unfold heardF at p
  split at p
  · rename_i ht
    refine ⟨tabsOf st, ⟨mem_tabs.mpr ht, fun p hp e => ?_⟩, rel.tabs, fun H1 e t t0 h0 => ⟨ρ, env, st, (rel.extN e t).other h0, er.mono ((keep_extN e).trans (Keep.new h0)) (Le.refl _), ?_⟩⟩
    · obtain ⟨a, b⟩ := p
      dsimp only at e ⊢
      subst e
      exact rel.tab1 ht (mem_tabs.mp hp)
    · have k0 := (keep_extN e).trans (Keep.new (o := .tup [.non, .non]) h0)
      split at p
      · rename_i d st1 ef
        rw [ef]
        intro H2 ρ2 k2 l2 r2 v rv u hu
        have kx : Keep H2 (upd H2 u (.tup [.non, v])) := Keep.new hu
        exact p _ ρ2 ((k0.trans k2).trans kx) l2 (r2.other hu) _ (.tup SqT.new (.cons .non (.cons (rv.mono kx (Le.refl _)) .nil)))
      · rename_i C v st1 ef
        split at p
        · rename_i hm
          rw [ef]
          intro H2 ρ2 w dd k2 l2 r2 rw' hd
          refine ⟨hcat C hm, fun a ha => ⟨C, dd, rfl, rfl, fun u hu => ?_⟩⟩
          have ka : Keep H2 (upd H2 a (ExH C dd a)) := Keep.new ha
          have kx : Keep (upd H2 a (ExH C dd a)) (upd (upd H2 a (ExH C dd a)) u (.tup [.ref a, .non])) := Keep.new hu
          have ea : RV K ρ2 (upd H2 a (ExH C dd a)) (.ref a) (.exn C v) := .exn upd_same (ka _ _ rfl hd) (rw'.mono ka (Le.refl _))
          exact p _ ρ2 (((k0.trans k2).trans ka).trans kx) l2 ((r2.other ha).other hu) _ (.tup SqT.new (.cons (ea.mono kx (Le.refl _)) (.cons .non .nil)))
        · exact p.elim
      · exact p.elim
  · exact p.elim
end
/-- a def that makes functions: its own code object and the table of those is known -/
structure FunL (K : Frag) (mg : Str → Option Value) (base : Heap) (x qual : Str) (st : Stmt) (f : Addr) (fd : FuncData) (c P : Addr) : Prop where
  ex : ∃ (oc : Value) (od : Option Addr) (kV doc pm : Value) (an : Option Addr) (ct : Value) (osl : Array (Option Value)),
    fd = PySem.W.fnOf x qual (defArgs st) (defBody st) (defScope st) .none kV doc pm an (.ref c) ct ∧ K.lookup f = some ⟨oc, od, .func fd, osl⟩ ∧ PySem.W.codeIn K (.ref c) qual = true
  kp : PySem.W.keepIn K (.ref f) = true
  tb : LamX.TabB base mg c P
theorem runM_w {K : Frag} {E : XK} {n : Nat} {b : SF} {vs : List V} {H : Hp} {Q : VK} {N : List Str} (hn : N.length = n) {pn : Nat} (h : spF K pn (runM n b) vs H Q E) : tFS K E b { nx := fun _ H' => Q .non H', rt := Q } (L2.start N vs) H := by
  subst hn
  obtain ⟨ρ, ds, st, rel, rs, hl, p⟩ := h
  refine ⟨ρ, _, st, rel, env_start rs, ?_⟩
  unfold runM at p
  generalize b (ds.map some ++ List.replicate (N.length - ds.length) none) st = r at p
  match r, p with
  | some (.err C x st1), p => exact p
  | some (.ok fl st1), p =>
    intro H1 ρ1 k1 l1 r1
    cases fl with
    | nx e => exact fun σ' _ => trim_post rel k1 l1 r1 .non p
    | rt d => exact fun v rv => trim_post rel k1 l1 r1 rv p
    | bk e => exact p.elim
    | ct e => exact p.elim
theorem fn_okL {P : Program} {w : World} {K : Frag} {mg : Str → Option Value} {base : Heap} {x qual : Str} {st : Stmt} {f c Pt : Addr} {fd : FuncData} {N ps : List Str} {k : Nat} {b : SF} (F : FunL K mg base x qual st f fd c Pt) (S : FnScope N ps (defScope st))
    (body : ∀ (A : Around) (outer : List PySem.Env) (s : Shared) (H : Hp) (E : XK), Room k (A.deeper (envOfC qual (defScope st) s.heap.objs.size f (.ref c))) → PFSs (cxOf (L2.CX P w) P w K mg base N qual (defScope st) f (.ref c) A outer s H E) E (defBody st) b) :
    FnOk P w K mg base (L2.CX P w) (k + 1) f fd ps (spF K ps.length (runM N.length b)) := by
  obtain ⟨oc, od, kV, doc, pm, an, ct, osl, rfl, lk, hcd⟩ := F.ex
  refine fn_of lk hcd S (fun vs H Q E h => ?_) fun A outer s H vs Q E hr h => ⟨tFS K E b, body A outer s H E hr, runM_w rfl h⟩
  obtain ⟨ρ, ds, st, _, rs, hl, _⟩ := h
  rw [rs.length, hl]
end PF
end
section
namespace PF
open PySem PySem.Spec PyProof.Rows L2
/-! ### kinds -/
/-- the class of a value: built in, of an own class, of an own class of errors -/
inductive Ty where
  | b (n : String) | o (C : Addr) | x (C : Addr)
  deriving DecidableEq
def Ty.val : Ty → Value
  | .b n => .type n
  | .o C => .ref C
  | .x C => .ref C
/-- of an own class -/
structure OwnC (K : Frag) (C : Addr) : Prop where
  cl : Cls K C
  ha : PySem.W.findIn K (.ref C) "__class__" = some (some (.builtin "object.__class__"))
  hn : PySem.W.specialIn K (.builtin "object.__class__") "__get__" = some (some (.builtin "getset_descriptor.__get__"))
  ht : PySem.W.takesIn K (.builtin "object.__class__") = some true
  hm : PySem.W.mroIn K C (.type "object") = some true
/-- of an own class of errors that keeps a value -/
structure XnC (K : Frag) (C : Addr) : Prop where
  xf : XfC K C
  hc : (PySem.W.clsIn K C).isSome = true
  hv : PySem.W.findIn K (.ref C) valueN = some none
  ha : PySem.W.findIn K (.ref C) "__class__" = some (some (.builtin "object.__class__"))
  hn : PySem.W.specialIn K (.builtin "object.__class__") "__get__" = some (some (.builtin "getset_descriptor.__get__"))
  ht : PySem.W.takesIn K (.builtin "object.__class__") = some true
  hm : PySem.W.mroIn K C (.type "object") = some true
def TyF (K : Frag) : Ty → Prop
  | .b _ => True
  | .o C => OwnC K C
  | .x C => XnC K C
abbrev TyTab := List ((Ty × Ty) × Bool)
def TabK (K : Frag) (tb : TyTab) : Prop := ∀ e ∈ tb, TyF K e.1.1 ∧ PySem.W.kitOne K e.1.1.val e.1.2.val = some e.2
def tyOf (st : Store) : D → Option Ty
  | .non => some (.b "NoneType")
  | .bl _ => some (.b "bool")
  | .int _ => some (.b "int")
  | .str _ => some (.b "str")
  | .tup _ => some (.b "tuple")
  | .fl _ => some (.b "list")
  | .exn C _ => some (.x C)
  | .cell n => match st[n]? with
    | some (.lst _) => some (.b "list")
    | some (.dct _) => some (.b "dict")
    | some (.ins C _) => some (.o C)
    | _ => none
  | _ => none
def clOf : D → Option Ty
  | .ty n => some (.b n)
  | .ref C => some (.o C)
  | _ => none
def isiD (tb : TyTab) : CF := fun ds st => match ds with
  | [d, c] => match tyOf st d, clOf c with
    | some t, some u => match tb.lookup (t, u) with
      | some b => some (.ok (.bl b) st)
      | none => none
    | _, _ => none
  | _ => none
/-- an error's object and its dict -/
theorem exn_at {X : Cx} {pins : List (Addr × Obj)} {σ : L2.St} {H : Hp} {s : Shared} {a C d : Addr} {fs : List (Str × V)} (I : Inv X pins σ H s) (ha : H a = some (ExH C d a)) (hd : H d = some (.xd fs)) :
    ∃ (ox od : Obj) (mA : Str → Option Value), PySem.W.InstAt s.heap a ox C (some od) ∧ s.heap.Ns1 d mA ∧ (∀ f, RelO (fs.lookup f) (mA f)) ∧ ∀ n, PySem.W.lookIn n od = some (mA n) := by
  have hx : ObjOk X.prog X.w H s.heap a (ExH C d a) := I.hok a _ ha
  obtain ⟨⟨oe, vs, e, z, dd⟩, _⟩ := hx
  have hy : ObjOk X.prog X.w H s.heap d (.xd fs) := I.hok d _ hd
  obtain ⟨mA, hns, hr⟩ := hy
  obtain ⟨od, ho, hl⟩ := lookIn_ns hns
  exact ⟨oe, od, mA, ⟨e, z.1, by unfold PySem.W.notCls; rw [dd] <;> rfl, by rw [z.2]; exact ho⟩, hns, hr, hl⟩
/-- isinstance(x, c), x an error too -/
def rIsP (K : Frag) : List V → Hp → VK → Prop := fun xs H Q => ∃ (x c : V) (t u : Value) (b : Bool), xs = [x, c] ∧ ClsV c u ∧ (TyX K H x t ∨ ∃ a C d fs, x = .ref a ∧ t = .ref C ∧ H a = some (ExH C d a) ∧ H d = some (.xd fs) ∧ XnC K C) ∧ PySem.W.kitOne K t u = some b ∧ Q (.bl b) H
theorem call_isP {X : Cx} : CallR X (.builtin "isinstance") (rIsP X.K) := by
  intro pins s σ H xs us Q I r h
  obtain ⟨x, c, t, u, b, rfl, k, ty | ⟨a, C, d, fs, rfl, rfl, ha, hd, q⟩, e, hq⟩ := h
  · exact call_isi pins s σ H _ us Q I r ⟨x, c, t, u, b, rfl, k, ty, e, hq⟩
  · cases r with
    | cons r1 rr =>
      cases rr with
      | cons r2 rr =>
        cases rr
        have e2 := k.eq r2
        subst e2
        cases r1
        obtain ⟨ox, od, mA, J, _⟩ := exn_at I ha hd
        exact PySem.W.kia_one (PySem.W.kitx_exc q.hc q.xf.ga q.xf.gg q.xf.exC q.ha q.hn q.ht q.hm) I.kIn J e (fun z => nomatch z) fun tk => ⟨.bl b, H, I.tok tk, rfl, hq⟩
theorem ty_rv {K : Frag} {ρ : List Addr} {st : Store} {H : Hp} {v : V} {d : D} {t : Ty} (rel : Rel K ρ st H) (rv : RV K ρ H v d) (e : tyOf st d = some t) (f : TyF K t) : TyX K H v t.val ∨ ∃ a C d fs, v = .ref a ∧ t.val = .ref C ∧ H a = some (ExH C d a) ∧ H d = some (.xd fs) ∧ XnC K C := by
  cases rv with
  | non => cases e; exact .inl (.base .non)
  | bl b => cases e; exact .inl (.base (.bl b))
  | int i => cases e; exact .inl (.base (.int i))
  | str x => cases e; exact .inl (.base (.str x))
  | ref a => cases e
  | ty n => cases e
  | tup h r =>
    cases e
    rcases h with (h | ⟨o, h⟩) | ⟨o, its, n, h, h2, _⟩
    · exact .inl (.base (.tup h))
    · exact .inl (.fTuple h)
    · exact .inl (.kTuple h h2)
  | fl h r =>
    cases e
    rcases h with ⟨o, h⟩ | ⟨o, its, n, h, h2, _⟩
    · exact .inl (.base (.frz h))
    · exact .inl (.kList h h2)
  | exn h g r =>
    cases e
    exact .inr ⟨_, _, _, _, rfl, rfl, h, g, f⟩
  | @cell n a ha =>
    obtain ⟨c, hc, ok⟩ := rel.have ha
    simp only [tyOf, hc] at e
    cases c with
    | lst ds =>
      cases e
      obtain ⟨xs, h, _⟩ := ok
      exact .inl (.base (.lst h))
    | dct ds =>
      cases e
      obtain ⟨xs, h, _⟩ := ok
      exact .inl (.base (.dK h))
    | ins C fs =>
      cases e
      obtain ⟨dx, gs, h, _⟩ := ok
      exact .inl (.base (.ins h f.cl f.ha f.hn f.ht f.hm))
    | tab P q => cases e
theorem lookup_mem {α β : Type} [BEq α] [LawfulBEq α] {a : α} {b : β} : ∀ {l : List (α × β)}, l.lookup a = some b → (a, b) ∈ l
  | [], h => by cases h
  | (x, y) :: l, h => by
    by_cases e : a = x
    · subst e
      simp at h
      subst h
      exact .head _
    · have : (a == x) = false := by simpa using e
      rw [List.lookup, this] at h
      exact .tail _ (lookup_mem h)
section
variable {X : Cx} {E : XK} {pos : Pos}
theorem pf_isi {tb : TyTab} {p : Pos} {e : Expr} {es : List Expr} {fa : AF} (ht : TabK X.K tb) (hm : X.mg "isinstance" = none) (ha : PFA X E (e :: es) fa) (hg : Gl X "isinstance" := by rfl)
    (he : starEach (e :: es) X.env = (false, eval e X.env) :: starEach es X.env := by rfl) (hpl : (backTo pos (starEach es X.env)).any (·.1) = false := by rfl) : PF X E (.Call (.Name "isinstance" p) (e :: es) [] pos) (callF (isiD tb) fa) := by
  refine pf_callB call_isP (fun ρ st H vs ds Q rel rs p => ?_) hm (by rfl) ha hg (he := he) (hpl := hpl)
  unfold isiD at p
  split at p
  · obtain ⟨v, u, rfl, r1, r2⟩ := rvs2 rs
    split at p
    · rename_i t w e1 e2
      split at p
      · rename_i b hb
        obtain ⟨f, ek⟩ := ht _ (lookup_mem hb)
        have hc : ClsV u w.val := by
          cases r2 with
          | ref a => cases e2; exact .own _
          | ty n => cases e2; exact .ty _
          | _ => cases e2
        exact ⟨v, u, _, _, b, rfl, hc, ty_rv rel r1 e1 f, ek, p H ρ (Keep.refl _) (Le.refl _) rel _ (.bl b)⟩
      · exact p.elim
    · exact p.elim
  · exact p.elim
/-- e.value of an error -/
def xvalF (cats : List Addr) (fo : EF) : EF := fun env st => bindR (fo env st) fun d st1 => match d with
  | .exn C v => if C ∈ cats then some (.ok v st1) else none
  | _ => none
theorem pf_xval {e : Expr} {fo : EF} {cats : List Addr} (hx : ∀ C ∈ cats, XnC X.K C) (he : PF X E e fo) (hb : attributeBase e valueN X.env (eval e X.env) = eval e X.env := by rfl) : PF X E (.Attribute e valueN pos) (xvalF cats fo) := by
  refine ⟨fun pins s σ H Q I h => ?_⟩
  obtain ⟨ρ, env, st, rel, er, p⟩ := h
  refine attr_of hb (thn (he.run pins s σ H (fun x H1 => ∃ a C d u, x = .ref a ∧ H1 a = some (ExH C d a) ∧ H1 d = some (.xd [(valueN, u)]) ∧ XnC X.K C ∧ Q u H1) I ⟨ρ, env, st, rel, er, Post.seq p fun d st1 ρ1 H1 k1 l1 r1 p1 v rv => ?_⟩) fun u s1 hh => ?_)
  · split at p1
    · split at p1
      · rename_i hc
        cases rv with
        | exn h g r => exact ⟨_, _, _, _, rfl, h, g, hx _ hc, p1 H1 ρ1 (Keep.refl _) (Le.refl _) r1 _ r⟩
      · exact p1.elim
    · exact p1.elim
  · obtain ⟨x, H1, I1, rx, a, C, d, v, ex, ha, hd, T, q⟩ := hh
    subst ex
    cases rx
    obtain ⟨ox, od, mA, J, hns, hr, hl⟩ := exn_at I1 ha hd
    have l : List.lookup valueN [(valueN, v)] = some v := by simp
    obtain ⟨w, hw, rw'⟩ := RelO.some_of (v := v) (o := mA valueN) (by rw [← l]; exact hr valueN)
    exact HandSPX.exc_get I1.kIn J T.xf.ga T.xf.gg T.xf.exC (PySem.W.findObj_own T.xf.hdC T.hv rfl (by rw [hl, hw])) (handed_of rw') ⟨v, H1, I1.tok _, rw', q⟩
/-- a built-in type by its name -/
theorem pf_ty {x : Str} {n : String} (hm : X.mg x = none) (hv : bootBuiltins x = some (.type n)) (hg : Gl X x := by rfl) (hn : x ≠ "__name__" := by decide) (hd : (x == ("__debug__" : Str)) = false := by decide) : PF X E (.Name x pos) (conF (.ty n)) :=
  pf_con (pe_bltn (v := .ty n) hg hm hv rfl hn hd) fun _ _ => .ty n
end
/-- kinds of built-in types -/
def stdTab : TyTab := (["NoneType", "bool", "int", "str", "tuple", "list", "dict"].map fun a => ["bool", "int", "str", "tuple", "list", "dict"].map fun b => ((Ty.b a, Ty.b b), decide (a = b) || (decide (a = "bool") && decide (b = "int")))).flatten
theorem std_ok {K : Frag} : TabK K stdTab := by
  have h : (stdTab.all fun e => match e.1 with | (.b a, .b b) => decide (kitB a b = some e.2) | _ => false) = true := by decide +kernel
  intro e he
  have q := List.all_eq_true.mp h e he
  split at q
  · rename_i a b e1
    rw [e1]
    exact ⟨trivial, kit_ty (of_decide_eq_true q)⟩
  · cases q
theorem tab_app {K : Frag} {a b : TyTab} (ha : TabK K a) (hb : TabK K b) : TabK K (a ++ b) := fun e h => by
  rcases List.mem_append.mp h with h | h
  · exact ha e h
  · exact hb e h
end PF
end
section
namespace PF
open PySem PySem.Spec PyProof.Rows L2
/-! ### raising an own error that keeps a value -/
def spX (K : Frag) : Sp := fun vs H Q E => ∃ (a C : Addr) (u : V), vs = [.ref a, u] ∧ OexC K C ∧ PySem.W.findIn K (.ref C) valueN = some none ∧ H a = some (exo a C none) ∧ ∀ dx, H dx = none → dx ≠ a → Q .non (upd (upd H dx (exd dx [(valueN, u)])) a (exo a C (some dx)))
/-- the __init__ of a class of errors: self.value = value -/
theorem xinit_ok {P : Program} {w : World} {K : Frag} {mg : Str → Option Value} {base : Heap} {x qual : Str} {st : Stmt} {f : Addr} {fd : FuncData} {p1 p2 p3 p4 : Pos} (F : Fun K x qual st f fd) (S : FnScope ["self", "value"] ["self", "value"] (defScope st))
    (hb : defBody st = [.Assign [.Attribute (.Name "self" p1) valueN p2] (.Name "value" p3) p4]) (h0 : Vis (defScope st) "self" := by first | exact Or.inl rfl | exact Or.inr (Or.inl rfl) | exact Or.inr (Or.inr rfl)) (h1 : Vis (defScope st) "value" := by first | exact Or.inl rfl | exact Or.inr (Or.inl rfl) | exact Or.inr (Or.inr rfl)) :
    FnOk P w K mg base (L2.CX P w) 2 f fd ["self", "value"] (spX K) := by
  refine F.okX S (fun vs H Q E h => ?_) (fun cdv A outer s H vs Q E hr h => ?_)
  · obtain ⟨a, C, u, rfl, _⟩ := h
    rfl
  · rw [hb]
    refine ⟨_, pss_one (ps_ost (pv 0 (hv := h0)) (pv 1 (hv := h1))), ?_⟩
    obtain ⟨a, C, u, rfl, T, hv, ha, q⟩ := h
    exact ⟨u, rfl, .ref a, rfl, a, C, rfl, T, hv, .inl ⟨ha, q⟩⟩
/-- a class of errors as a raise wants it -/
structure RaiC (P : Program) (w : World) (K : Frag) (mg : Str → Option Value) (base : Heap) (x : Str) (C : Addr) : Prop where
  ox : OexC K C
  hv : PySem.W.findIn K (.ref C) valueN = some none
  hm : mg x = some (.ref C)
  ex : ∃ f fd, PySem.W.findIn K (.ref C) "__init__" = some (some (.ref f)) ∧ PySem.W.typeIn K (.ref f) = some (.type "function") ∧ FnOk P w K mg base (L2.CX P w) 2 f fd ["self", "value"] (spX K) ∧ Binds K fd ["self", "value"] []
def raiseS (C : Addr) (fo : EF) : SF := fun env st => bindR (fo env st) fun d st1 => some (.err C d st1)
theorem upd_mid {H : Hp} {a d : Addr} {o1 o2 o3 o4 : HO} (ha : H a = none) (n : d ≠ a) : upd (del (upd (upd (upd H a o1) d o2) a o3) a) d o4 = upd H d o4 := by
  funext b
  by_cases h : b = d
  · subst h
    rw [upd_same, upd_same]
  · rw [upd_ne h, upd_ne h]
    by_cases e : b = a
    · subst e
      rw [del_same, ha]
    · rw [del_ne e, upd_ne e, upd_ne h, upd_ne e]
section
variable {X : Cx} {E : XK} {pos : Pos}
theorem pfs_raise {j : Nat} {x : Str} {C : Addr} {e : Expr} {fo : EF} {p cpos : Pos} (T : RaiC X.prog X.w X.K X.mg X.base x C) (tk : Takes X (fun cls d _ H => E cls d H)) (hr : Room j X.A) (hj : 3 ≤ j) (he : PF X E e fo) (hc : X.calm = true := by rfl) (hg : Gl X x := by rfl)
    (hdb : (x == ("__debug__" : Str)) = false := by decide) (hs : starEach [e] X.env = (false, eval e X.env) :: starEach [] X.env := by rfl) (hpl : (backTo cpos (starEach [] X.env)).any (·.1) = false := by rfl) : PFS X E (.Raise (some (.Call (.Name x p) [e] [] cpos)) none pos) (raiseS C fo) := by
  obtain ⟨f, fd, i1, i2, F, hb⟩ := T.ex
  refine PS.of (ps_raise hc tk (pmk_oex T.ox i1 i2 F (hr.mono hj) hb .nil passL hg T.hm (pa_cons he pa_nil hs) hdb hs hpl)) fun D σ H h => ?_
  obtain ⟨ρ, env, st, rel, er, p⟩ := h
  refine ⟨ρ, env, st, rel, er, Post.seq p fun d st1 ρ1 H1 k1 l1 r1 p1 v rv => ⟨by simp, fun a ha => ⟨a, C, v, rfl, T.ox, T.hv, upd_same, fun dx hd hn => ⟨rfl, dx, [(valueN, v)], upd_same, ?_, ?_, ?_⟩⟩⟩⟩
  · rw [upd_ne hn, upd_same]
  · rw [upd_ne hn] at hd
    exact hd
  · rw [upd_ne hn] at hd
    rw [upd_mid ha hn]
    have kx : Keep H1 (upd H1 dx (.xd [(valueN, v)])) := Keep.new hd
    exact p1 _ ρ1 v dx kx (Le.refl _) (r1.other hd) (rv.mono kx (Le.refl _)) upd_same
end
end PF
end
section
namespace PF
open PySem PySem.Spec PyProof.Rows L2
/-! ### enumerate(list, start=k) -/
/-- a built-in type called with keywords -/
theorem callWith_tkw {M : Model} {A : Around} {E : Value → Shared → Prop} {s : Shared} {env : PySem.Env} {pos : Pos} {T : String} {e : Expr} {kws : List Keyword} {Q : Value → Shared → Prop} (he : starEach [e] env = [(false, eval e env)]) (hall : (backToKw pos (keywordEach kws env)).all (·.1.isSome) = true) (hkw : (backToKw pos (keywordEach kws env)).any (·.1.isNone) = false)
    (h : wpAny M A (spliced (backTo pos (starEach [e] env))) (fun vs s₁ => wpAny M A (evalAll ((backToKw pos (keywordEach kws env)).map (·.2))) (fun ks s₂ => wpAny M A (call (.type T) vs (((backToKw pos (keywordEach kws env)).filterMap (·.1)).zip ks)) Q E s₂) E s₁) E s) :
    wpAny M A (callWith pos (.type T) [] (backTo pos (starEach [e] env)) (backToKw pos (keywordEach kws env))) Q E s := by
  have e1 : backTo pos (starEach [e] env) = [(false, eval e env)] := by rw [he] <;> rfl
  rw [e1] at h ⊢
  unfold callWith
  refine wpAny_bind (wpAny_holding (wpAny_mono (evalArgs_kwB (Q := fun a t => wpAny M A (call (.type T) ([] ++ a.pos) a.kw) Q E t) hall h) (fun a t q => wpAny_bind (wpAny_standAt ?_)) fun _ _ z => z))
  have e2 : ([(false, eval e env)] : List (Bool × Sem Value)).any (·.1) = false := rfl
  rw [e2, hkw]
  exact wpAny_bind (wpAny_pure (wpAny_bind (wpAny_mono q (fun r t q => wpAny_bind (wpAny_holding (wpAny_point (wpAny_pure q)))) fun _ _ z => z)))
/-- the list at a as it stands at each turn, each item in a new pair behind k + its place -/
def Itk' (K : Frag) (k : Int) (a : Addr) : It :=
  ⟨fun i H => ∃ (xs : List V) (x : V), SqL K H a xs ∧ xs[i]? = some x, fun i H v H' => ∃ T x, v = .ref T ∧ H T = none ∧ H' = upd H T (.tup [.int (k + (i : Nat)), x]) ∧ ∀ xs, SqL K H a xs → xs[i]? = some x, fun i H => ∃ xs : List V, SqL K H a xs ∧ xs.length ≤ i⟩
theorem end_ {prog : Program} {w : World} {A : Around} {E : Value → Shared → Prop} {s : Shared} {e it l : Addr} {i : Nat} {c : Int} {items : Array Value} {old : Value} {Q : Option Value → Shared → Prop} (hh : A.handled = none) (he : IsEnum s.heap e it c old) (hi : s.heap.IsListIter it l i) (hl : s.heap.IsList l items) (hx : items[i]? = none)
    (h : ∀ g, Heap.ExtBut it s.heap g → Q none { s with heap := g }) : wpAny (model prog w) A (pyNext (.ref e)) Q E s := by
  have ht : s.TypeIs (.ref e) "enumerate" := ⟨_, he, rfl⟩
  unfold pyNext
  refine wpAny_bind (wpAny_attempt (wpAny_callSpecial?_slot (name := Str.ofString "__next__") ht F.slot_enumerate_next (wpAny_call_entry F.slot_enumerate_next ht F.entry_enumerate_next ?_ (F.args_enumerate_next_1 _))))
  show wpAny (model prog w) A.in1 (field (Value.ref e) 2 >>= _) _ _ s
  refine wpAny_bind (wpAny_field he rfl (x := .ref it) rfl (wpAny_bind ?_))
  refine wpAny_nextOf_list_end hh hi hl hx fun g x k ⟨o, ho, hc⟩ => ?_
  exact wpAny_bind (wpAny_isInstance (T := "StopIteration") (b := true) ⟨o, ho, hc⟩ isSubtype_stop (wpAny_pure (h _ k)))
theorem turn_enumK {P : Program} {w : World} {K : Frag} {elts : List Expr} {kk : Nat} {tpos : Pos} (k : Int) (a e it : Addr) :
    Turn P w K (.Tuple elts kk tpos) (Itk' K k a) [e, it] e (fun i h => (∃ old, IsEnum h e it (k + (i : Nat)) old) ∧ h.IsListIter it a i ∧ e ≠ it ∧ a ≠ it ∧ e ≠ a) where
  mem := .head _
  obj := fun i h st b hb => by
    obtain ⟨⟨_, he⟩, ⟨o, ho, _, hd⟩, _⟩ := st
    simp only [List.mem_cons, List.not_mem_nil, or_false] at hb
    rcases hb with rfl | rfl
    · exact ⟨_, he, fun v z => nomatch z⟩
    · exact ⟨o, ho, fun v z => by rw [hd] at z; cases z⟩
  keep := fun i h h' st g => ⟨st.1.imp fun _ he => g e (by simp) _ he, st.2.1.at fun o z => g it (by simp) o z, st.2.2⟩
  item := by
    intro X hP hw hK hc i pins s σ H E I hf st hg
    subst hP hw hK
    obtain ⟨⟨old, he⟩, hit, ne, na, nb⟩ := st
    obtain ⟨xs, x, hq, hx⟩ := hg
    obtain ⟨its, rv, p, hz⟩ := I.list hq
    obtain ⟨u, hu, ru⟩ := rv.get hx
    have el : e < s.heap.objs.size := Heap.lt_size he
    have il : it < s.heap.objs.size := let ⟨_, z, _⟩ := hit; Heap.lt_size z
    have hi : i < its.toArray.size := by
      have := (List.getElem?_eq_some_iff.mp hu).1
      simpa using this
    have nf : e ∉ [it, a] := by simp [ne, nb]
    refine wpAny_pyNext_enum_itemC (Draws.list (A := X.A.in1) (I.ok.hd hc) it a na its.toArray) he ⟨hit, p.isList⟩ hi ne nf fun y h' tk hy ho st' hT hsz hk => ?_
    obtain ⟨hit', _⟩ := st'
    have ey : y = u := by
      simp only [List.getElem?_toArray] at hy
      rw [hu] at hy
      exact (Option.some.inj hy).symm
    subst ey
    refine ⟨_, rfl, wpAny_letOwnedTupleGo_enum (s := { s with heap := h', toks := tk + 1 }) ho fun g he' sb => ?_⟩
    have hT' : g.get? s.heap.objs.size = some { cls := .type "tuple", data := .seq #[.int (k + (i : Nat)) tk, y] } := (sb.2 _ (Nat.ne_of_gt el)).trans hT
    have nw : ObjOk X.prog X.w (upd H s.heap.objs.size (.tup [.int (k + (i : Nat)), x])) g s.heap.objs.size (.tup [.int (k + (i : Nat)), x]) :=
      ⟨by show 2 ≤ sizeLine; decide, [.int (k + (i : Nat)) tk, y], .cons ⟨_, rfl⟩ (.cons ru .nil), _, hT', rfl, _, rfl⟩
    have J : Inv X pins σ (upd H s.heap.objs.size (.tup [.int (k + (i : Nat)), x])) { s with heap := g, toks := tk + 1 } :=
      I.turnedNew (ch := [e, it]) (fun b o hb q => by
        simp only [List.mem_cons, List.not_mem_nil, or_false, not_or] at hb
        exact (sb.2 b hb.1).trans (hk b o hb.1 hb.2 q)) hf (Nat.le_refl _) nw
    refine ⟨.ref s.heap.objs.size, _, J, rfl, ⟨_, x, rfl, I.hok.fresh (Nat.le_refl _), rfl, fun ys hy => by rw [I.list_inj hy hq]; exact hx⟩, ⟨⟨y, ?_⟩, hit'.at fun o z => (sb.2 it (Ne.symm ne)).trans z, ne, na, nb⟩, fun b hb => ?_⟩
    · rw [show k + ((i + 1 : Nat) : Int) = k + (i : Nat) + 1 by omega]
      exact he'
    · have hlt : b < s.heap.objs.size := by
        simp only [List.mem_cons, List.not_mem_nil, or_false] at hb
        rcases hb with rfl | rfl
        · exact el
        · exact il
      rw [upd_ne (Nat.ne_of_lt hlt)]
      exact (hf b hb).1
  done := by
    intro X hP hw hK hc i pins s σ H E I hf st hg
    subst hP hw hK
    obtain ⟨⟨old, he⟩, hit, _⟩ := st
    obtain ⟨xs, hq, hx⟩ := hg
    obtain ⟨its, rv, p, _⟩ := I.list hq
    obtain ⟨f0, f1, f2, f3, f4, f5⟩ := hf it (by simp)
    have hl := rv.length
    exact end_ (I.ok.hd hc) he hit p.isList (by simp; omega) fun h' eb => ⟨rfl, I.turned (t' := s.toks) (fun b o hb q => eb b o hb q) f0 f1 f3 f4 f5⟩
  self := fun A i s Q E st h => let ⟨⟨_, he⟩, _⟩ := st; wpAny_pyIter_enum he h
theorem jok_enmK {K : Frag} {k : Int} {H0 : Hp} {ρ0 : List Addr} {n : Nat} {a : Addr} (hn : ρ0[n]? = some a) : JOk K H0 ρ0 (Itk' K k a) (.enmK k n) := fun i st H ρ kp l rel => by
  simp only [ItV.nxt]
  split
  · trivial
  · rename_i h
    split at h
    · rename_i ds hd
      obtain ⟨b, xs, e, _, ea, ra⟩ := rel.lst hd (.cell (l _ _ hn))
      cases e
      exact ⟨xs, SqL.of ea, none_rvs ra (Option.map_eq_none_iff.mp (Option.some.inj h))⟩
    · cases h
  · rename_i d h
    split at h
    · rename_i ds hd
      obtain ⟨b, xs, e, _, ea, ra⟩ := rel.lst hd (.cell (l _ _ hn))
      cases e
      obtain ⟨d', h1, h2⟩ := Option.map_eq_some_iff.mp (Option.some.inj h)
      subst h2
      obtain ⟨v, e1, e2⟩ := ra.get h1
      refine ⟨⟨xs, v, SqL.of ea, e1⟩, fun x H' y => ?_⟩
      obtain ⟨T, x1, rfl, nT, rfl, y⟩ := y
      have := (y xs (SqL.of ea)).symm.trans e1
      cases this
      have kk : Keep H (upd H T (.tup [.int (k + (i : Nat)), v])) := Keep.new nT
      exact ⟨kk, rel.other nT, .tup (SqT.of upd_same) (.cons (.int _) (.cons (e2.mono kk (Le.refl _)) .nil))⟩
    · cases h
section
variable {X : Cx} {E : XK} {pos : Pos}
def iEnumK (K : Frag) (k : Int) (ta : TA) : TI := fun σ H R => ta σ H fun vs H1 => ∃ a xs, vs = [.ref a] ∧ SqL K H1 a xs ∧ R (Itk' K k a) H1
theorem pi_enumK {e : Expr} {ta : TA} {p tpos kpos cpos : Pos} {elts : List Expr} {kk j : Nat} {k : Int} (hk : -(2 ^ 63) ≤ k ∧ k < 2 ^ 63) (hg : Gl X "enumerate") (hm : X.mg "enumerate" = none) (ha : PA X [e] ta) (hs : starEach [e] X.env = [(false, eval e X.env)]) :
    PI X (.Tuple elts kk tpos) (.Call (.Name "enumerate" p) [e] [⟨some "start", .Constant (.int k) j cpos, kpos⟩] pos) (iEnumK X.K k ta) := by
  refine ⟨fun pins s σ H R I h => ?_⟩
  refine wpAny_Call_Name_kw (ld_blt I hg hm boot_enumerate (callWith_tkw hs rfl rfl (thn (ha.run pos pins s σ H _ I h) fun us s1 ⟨vs, H1, I1, r1, a, xs, ex, hq, q⟩ => kws_cons ?_)))
  refine thn (pe_int.run pins s1 σ H1 (fun v H => v = .int k ∧ H = H1) I1 ⟨rfl, rfl⟩) fun u s2 ⟨v, H2, I2, rv, ev, eh⟩ => kws_nil ?_
  subst ex ev eh
  obtain ⟨t, rfl⟩ := rv
  cases r1 with
  | cons r rr =>
    cases rr
    cases r
    obtain ⟨its, rv, p', hz⟩ := I2.list hq
    refine enum_begins_start (begins_list a its.toArray) p'.isList hk.1 hk.2 fun h' he hit hsz hkeep => wpAny_pyIter_enum he ?_
    have I3 : Inv X pins σ H2 { s2 with heap := h' } := I2.kept (t' := s2.toks) hkeep
    have la : a < s2.heap.objs.size := by
      obtain ⟨_, z, _⟩ := p'.isList
      exact Heap.lt_size z
    refine ⟨s2.heap.objs.size + 1, [s2.heap.objs.size + 1, s2.heap.objs.size], _, _, H2, rfl, I3, turn_enumK k a (s2.heap.objs.size + 1) s2.heap.objs.size, ⟨⟨.none, by simpa using he⟩, ⟨_, hit, rfl, rfl⟩, Nat.succ_ne_self _, Nat.ne_of_lt la, Nat.ne_of_gt (Nat.lt_succ_of_lt la)⟩, fun b hb => ?_, q⟩
    have hle : s2.heap.objs.size ≤ b := by
      simp only [List.mem_cons, List.not_mem_nil, or_false] at hb
      rcases hb with rfl | rfl
      · exact Nat.le_succ _
      · exact Nat.le_refl _
    exact I2.fpOk hle (I2.hok.fresh hle)
def enmKF (k : Int) (g : AF) : IF := fun env st => bindR (g env st) fun ds st1 => match ds with
  | [.cell n] => match st1[n]? with
    | some (.lst _) => some (.ok (.enmK k n) st1)
    | _ => none
  | _ => none
theorem pfi_enmK {e : Expr} {elts : List Expr} {kk j : Nat} {k : Int} {g : AF} {p tpos kpos cpos : Pos} (hm : X.mg "enumerate" = none) (ha : PFA X E [e] g) (hk : -(2 ^ 63) ≤ k ∧ k < 2 ^ 63 := by decide) (hg : Gl X "enumerate" := by rfl) (hs : starEach [e] X.env = [(false, eval e X.env)] := by rfl) :
    PFI X E (.Tuple elts kk tpos) (.Call (.Name "enumerate" p) [e] [⟨some "start", .Constant (.int k) j cpos, kpos⟩] pos) (enmKF k g) := PI.of (pi_enumK hk hg hm ha hs) fun σ H R h => by
  obtain ⟨ρ, env, st, rel, er, p⟩ := h
  refine ⟨ρ, env, st, rel, er, Post.seq p fun ds st1 ρ1 H1 k1 l1 r1 p1 vs rs => ?_⟩
  split at p1
  · obtain ⟨v, rfl, r⟩ := rvs1 rs
    split at p1
    · rename_i hn
      obtain ⟨a, xs, rfl, ha, ea, ra⟩ := r1.lst hn r
      exact ⟨a, xs, rfl, SqL.of ea, p1 H1 ρ1 (Keep.refl _) (Le.refl _) r1 _ (jok_enmK ha)⟩
    · exact p1.elim
  · exact p1.elim
end
end PF
end
section
namespace PF
open PySem PySem.Spec PyProof.Rows L2 LamX
/-! ### a lambda handed to a def, what it raises wished for at the def's slots -/
/-- the context of the def g that was called at s from X -/
abbrev inG (X : Cx) (Ng : List Str) (x : Str) (sg : Scope) (g : Addr) (cdg : Value) (s : Shared) (H : Hp) : Cx := cxOf C8.CX0 X.prog X.w X.K X.mg X.base Ng x sg g cdg X.A X.stack s H C8.E0
section
variable {X : Cx} {pins : List (Addr × Obj)} {σ : L2.St} {H : Hp} {s : Shared}
theorem act_at {Ng : List Str} {x : Str} {sg : Scope} {g f c' : Addr} {cdg pm ctv : Value} {params : Arguments} {body : Expr} {scope : Scope} {k i : Nat} {a : Str} {pn : List (Addr × Obj)} {xe : Value → Shared → Prop} {W : WX} {E : L2.St → XK} {tb : XK → TE} {p1 p2 : Pos} (I : Inv X pins σ H s) (L : LamS X.env.scope scope)
    (hf : s.heap.get? f = some (PySem.W.kla_obj "<lambda>" (X.env.qual ++ "<lambda>") params body scope (cloFrom X.env.cells scope.names []) pm c' ctv)) (hn : H f = none) (hr : f ∉ frs X.stack) (bind : bindArgs (PySem.W.kla_fn "<lambda>" (X.env.qual ++ "<lambda>") params body scope (cloFrom X.env.cells scope.names []) pm (.ref c') ctv) ⟨[], []⟩ = pure [])
    (tk : Takes ((inG X Ng x sg g cdg s H).tr pn xe) W) (hW : ∀ σ cls d H', E σ cls d H' → W cls d σ H') (rm : Room (k + 1) (X.A.deeper (envOfC x sg s.heap.objs.size g cdg)))
    (hb : ∀ (E : XK) (A : Around) (outer : List PySem.Env) (s : Shared) (H : Hp), Room k (A.deeper (lamEnv X scope s.heap.objs.size f c')) → PE (lamCx X A outer s H E scope f c') body (tb E)) (hN : Ng[i]? = some a) (hv : Vis sg a) (hd : (a == ("__debug__" : Str)) = false) (hc : (a == ("__classdict__" : Str)) = false) :
    PE ((inG X Ng x sg g cdg s H).tr pn xe) (.Call (.Name a p1) [] [] p2) (fun σZ HZ Q => σZ[i]? = some (some (.ref f)) ∧ HZ c' = some (CodeO c' (X.env.qual ++ "<lambda>")) ∧ tb (E σZ) σ HZ Q) := by
  constructor
  rintro pz sz σz Hz Q Iz ⟨sf, co, ht⟩
  refine wpAny_Call_Name_kw (thn ((pe_var hN hv hd hc).run pz sz σz Hz (fun v H1 => v = .ref f ∧ H1 = Hz) Iz ⟨_, sf, rfl, rfl⟩) fun u s1 ⟨v, H1, J, rv, e1, e2⟩ => ?_)
  subst e1 e2
  cases rv
  have of := J.base.keep f _ hf hn hr List.not_mem_nil
  obtain ⟨⟨oc, vs, t, oe, od, ov⟩, _⟩ := J.hok c' _ co
  refine PySem.W.callWith_F0 ⟨_, _, _, _, of⟩ (wpAny_call (codeAny_mono (R := CR (L2.CX X.prog X.w) (envOfC x sg s.heap.objs.size g cdg :: X.stack) X.prog X.w H1 s1 Q (E σz)) (PySem.W.kla_callFunE rm.depth of rfl L.co L.gen rfl ⟨c', oc, vs, t, rfl, oe, od, ov⟩ ?_) fun r s2 q => ?_))
  · refine wpAny_of_eq bind (wpAny_newFunctionEnv (fun y m => (L.own y m).2) (fun y m => nomatch m) (fun h1 ns sb => ⟨J.nolimit.fresh _ sb, ?_⟩) L.kind)
    have st := lam_start2 (tk := s1.toks + 0) (E := E σz) (f := f) (c' := c') I L J.env0 rm.hd J.base ns fun b o e => sb.extBut b o (Nat.ne_of_lt (Heap.lt_size e)) (Heap.get?_push_of_some _ e)
    refine PySem.W.kla_codeExpr (wpAny_mono ((hb (E σz) _ _ s1 H1 (rm.deeper _)).run [] _ _ H1 Q st ht) (fun v t ⟨w, H2, K2, r2, q2⟩ => ⟨w, H2, K2.os, K2.bare, K2.base, K2.hok, r2, q2⟩) fun _ _ z => z)
  · match r, q with
    | .error e, q => exact tk e s2 (XE.of_call J (fun cls d H2 z => hW σz cls d H2 z) q)
    | .ok (.ret u), q => exact J.after q
/-- what the def makes of the function that it got -/
def GivesAt (X : Cx) (Ng : List Str) (x : Str) (sg : Scope) (g : Addr) (cdg : Value) (bg : List Stmt) (a : Str) (q : Str) (TT : (XK → Hp → VK → Prop) → Hp → VK → Prop) : Prop :=
  ∀ (f c' : Addr) (s : Shared) (H : Hp) (Q : VK) (tl : XK → Hp → VK → Prop),
    (∀ (W : WX) (pn : List (Addr × Obj)) (xe : Value → Shared → Prop) (E : L2.St → XK) (p1 p2 : Pos), Takes ((inG X Ng x sg g cdg s H).tr pn xe) W → (∀ σ cls d H', E σ cls d H' → W cls d σ H') →
      PE ((inG X Ng x sg g cdg s H).tr pn xe) (.Call (.Name a p1) [] [] p2) (fun σZ HZ Q => σZ[0]? = some (some (.ref f)) ∧ HZ c' = some (CodeO c' q) ∧ tl (E σZ) HZ Q)) →
    H c' = some (CodeO c' q) → TT tl H Q → ∃ t, PSs (inG X Ng x sg g cdg s H).nox bg t ∧ t { nx := fun _ H' => Q .non H', rt := Q } (L2.start Ng [.ref f]) H
theorem pe_given {T : List (Addr × Str)} {TT : (XK → Hp → VK → Prop) → Hp → VK → Prop} {x a : Str} {st : Stmt} {g c P : Addr} {fd : FuncData} {k : Nat} {Ng : List Str} {params : Arguments} {body : Expr} {scope : Scope} {t : XK → TE} {p lpos pos : Pos}
    (F : Fun X.K x x st g fd) (hm : X.mg x = some (.ref g)) (hb : Binds X.K fd [a] []) (Sg : FnScope Ng [a] (defScope st)) (hN : Ng[0]? = some a) (hv : Vis (defScope st) a) (hG : ∀ cdg, GivesAt X Ng x (defScope st) g cdg (defBody st) a (X.env.qual ++ "<lambda>") TT) (TB : TabB X.base X.mg c P) (hcode : X.env.code = .ref c)
    (hT : (P, X.env.qual ++ "<lambda>") ∈ T) (hu : ∀ p ∈ T, p.1 = P → p.2 = X.env.qual ++ "<lambda>") (hr : Room (k + 2) X.A) (L : LamS X.env.scope scope) (hdef : defaultsOf params X.env = ([], [])) (bind : ∀ (q : Str) (cl : List (Str × Addr)) (pm cv ctv : Value), bindArgs (PySem.W.kla_fn "<lambda>" q params body scope cl pm cv ctv) ⟨[], []⟩ = pure [])
    (hbody : ∀ (A : Around) (outer : List PySem.Env) (s : Shared) (H : Hp) (E : XK) (f c' : Addr), Room k (A.deeper (lamEnv X scope s.heap.objs.size f c')) → PE (lamCx X A outer s H E scope f c') body (t E)) (hg : Gl X x) (hdb : (x == ("__debug__" : Str)) = false) (hd : (a == ("__debug__" : Str)) = false) (hc : (a == ("__classdict__" : Str)) = false) :
    PE X (.Call (.Name x p) [.Lambda params body scope lpos] [] pos) (tLam T TT t) := by
  obtain ⟨oc, od, kV, doc, pm, an, cdv, ct, osl, rfl, lk, hcg⟩ := F.ex
  constructor
  rintro pins s σ H Q I ⟨hT0, h⟩
  refine wpAny_Call_Name_kw (ld_glob I hg hm (PySem.W.callWith_K (h₀ := X.base) I.ok.mod.kin F.kp ?_ (by rfl) (by rfl)) hdb)
  refine Calls.spliced_cons (lam_make2 I TB hcode hT hu hT0 hdef (L.has I.ok) fun f c' pm' ctv H1 s1 J eN T1 hf hn hfr co => Calls.spliced_nil ⟨J.kIn, wpAny_call (codeAny_mono (R := CR C8.CX0 X.stack X.prog X.w H1 s1 Q C8.E0) ?_ fun r s2 z => ?_)⟩)
  · refine run_ofS (N := Ng) (ps := [a]) (us := [.ref f]) (vs := [.ref f]) lk hcg Sg hr J.env0 (hb s1 [.ref f] J.kIn rfl) (.cons rfl .nil) rfl fun rm => ?_
    obtain ⟨t1, h1, h2⟩ := hG cdv f c' s1 H1 Q (fun E H' Q' => t E σ H' Q') (fun W pn xe E p1 p2 tk hW => act_at J L hf hn hfr (bind _ _ _ _ _) tk hW rm (fun E A outer s H z => hbody A outer s H E f c' z) hN hv hd hc) co (h H1 eN T1)
    exact ⟨t1, h1.nox, h2⟩
  · match r, z with
    | .error e, z => exact (show False from z).elim
    | .ok (.ret u), z => exact J.after z
end
/-- a reading weakened by what it leads to -/
theorem PE.weak {X : Cx} {e : Expr} {te : TE} (he : PE X e te) : PE X e (fun σ H Q => ∃ Q1 : VK, te σ H Q1 ∧ ∀ v H1, Q1 v H1 → Q v H1) :=
  ⟨fun pins s σ H Q I ⟨Q1, h, w⟩ => thn (he.run pins s σ H Q1 I h) fun v s1 ⟨x, H1, I1, r1, q1⟩ => ⟨x, H1, I1, r1, w _ _ q1⟩⟩
section
variable {X : Cx} {E : XK}
/-- x(lambda: body), x a def that tells errors of CS -/
theorem pf_heard {x a : Str} {st : Stmt} {g CS c P : Addr} {fd : FuncData} {k j : Nat} {q : Str} {cats : List Addr} {Ng : List Str} {params : Arguments} {body : Expr} {scope : Scope} {fb : EF} {p lpos pos : Pos}
    (F : Fun X.K x x st g fd) (hm : X.mg x = some (.ref g)) (hb : Binds X.K fd [a] []) (Sg : FnScope Ng [a] (defScope st)) (hG : ∀ cdg, GivesAt X Ng x (defScope st) g cdg (defBody st) a q (TTheard X.K CS)) (hcat : ∀ C ∈ cats, PySem.W.exmOne X.K (.ref C) (.ref CS) = some true)
    (TB : TabB X.base X.mg c P) (hr : Room j X.A) (hk : k + 2 ≤ j) (L : LamS X.env.scope scope)
    (hbody : ∀ (A : Around) (outer : List PySem.Env) (s : Shared) (H : Hp) (E : XK) (f c' : Addr), Room k (A.deeper (lamEnv X scope s.heap.objs.size f c')) → PF (lamCx X A outer s H E scope f c') E body fb)
    (hNg : Ng[0]? = some a := by rfl) (hva : Vis (defScope st) a := by first | exact Or.inl rfl | exact Or.inr (Or.inl rfl) | exact Or.inr (Or.inr rfl)) (hg : Gl X x := by rfl) (hcode : X.env.code = .ref c := by rfl) (hq : X.env.qual ++ "<lambda>" = q := by rfl) (hdef : defaultsOf params X.env = ([], []) := by rfl)
    (hbind : ∀ (q : Str) (cl : List (Str × Addr)) (pm cv ctv : Value), bindArgs (PySem.W.kla_fn "<lambda>" q params body scope cl pm cv ctv) ⟨[], []⟩ = pure [] := by intros; rfl)
    (hdb : (x == ("__debug__" : Str)) = false := by decide) (hd : (a == ("__debug__" : Str)) = false := by decide) (hcd : (a == ("__classdict__" : Str)) = false := by decide) :
    PF X E (.Call (.Name x p) [.Lambda params body scope lpos] [] pos) (heardF P q cats fb) := by
  subst hq
  refine ⟨fun pins s σ H Q I h => ?_⟩
  obtain ⟨T, ⟨h1, h2⟩, h3⟩ := heard_w hcat σ H Q h
  exact (pe_given F hm hb Sg hNg hva hG TB hcode h1 h2 (hr.mono hk) L hdef hbind (fun A outer s H E f c' hr => hbody A outer s H E f c' hr) hg hdb hd hcd).run pins s σ H Q I h3
end
/-- the reading of given = call() in the def that tells errors -/
def tbH (f c' : Addr) (q : Str) (i : Nat) (tl : XK → Hp → VK → Prop) : WX → TS := fun W D σ H => ∃ (E : L2.St → XK) (Q1 : VK), (∀ σ cls d H', E σ cls d H' → W cls d σ H') ∧ σ[0]? = some (some (.ref f)) ∧ H c' = some (CodeO c' q) ∧ tl (E σ) H Q1 ∧ ∀ v H1, Q1 v H1 → D.nx (σ.set i (some v)) H1
end PF
end
section
namespace PF
open PySem PySem.Spec PyProof.Rows L2
section
variable {X : Cx} {E : XK} {pos : Pos}
/-! ### repr -/
def reprD : CF := fun ds st => match ds with
  | [.int i] => if i.natAbs.log2 < 1920 then some (.ok (.str (toString i)) st) else none
  | _ => none
theorem pf_repr {p : Pos} {e : Expr} {es : List Expr} {fa : AF} (hm : X.mg "repr" = none) (ha : PFA X E (e :: es) fa) (hg : Gl X "repr" := by rfl)
    (he : starEach (e :: es) X.env = (false, eval e X.env) :: starEach es X.env := by rfl) (hpl : (backTo pos (starEach es X.env)).any (·.1) = false := by rfl) : PF X E (.Call (.Name "repr" p) (e :: es) [] pos) (callF reprD fa) := by
  refine pf_callB SkE.call_repr_int (fun ρ st H vs ds Q rel rs p => ?_) hm (by rfl) ha hg (he := he) (hpl := hpl)
  unfold reprD at p
  split at p
  · obtain ⟨v, rfl, r⟩ := rvs1 rs
    cases r
    split at p
    · rename_i h
      exact ⟨_, rfl, h, p.now rel (.str _)⟩
    · exact p.elim
  · exact p.elim
/-! ### list(range(..)) -/
def rgD (a b : Int) : List D := (List.range (b - a).toNat).map fun i => D.int (a + (i : Nat))
theorem rg_rv {K : Frag} {ρ : List Addr} {H : Hp} {a b : Int} : RVs K ρ H (rgV a b) (rgD a b) := by
  unfold rgV rgD
  generalize List.range (b - a).toNat = l
  induction l with
  | nil => exact .nil
  | cons i l ih => exact .cons (.int _) ih
def listRng1F (f : EF) : EF := fun env st => bindR (f env st) fun d st1 => match d with
  | .int n => if -(2 ^ 20) ≤ n ∧ n ≤ 2 ^ 20 then some (.ok (.cell st1.length) (st1 ++ [.lst (rgD 0 n)])) else none
  | _ => none
theorem pf_listRng1 {a : Expr} {f : EF} {p p2 pos2 : Pos} (hl : X.mg "list" = none) (hm : X.mg "range" = none) (ha : PF X E a f) (hc : X.calm = true := by rfl) (hg : Gl X "list" := by rfl) (hg2 : Gl X "range" := by rfl) (na : starEach [a] X.env = (false, eval a X.env) :: starEach [] X.env := by rfl)
    (nb : starEach [.Call (.Name "range" p2) [a] [] pos2] X.env = (false, eval (.Call (.Name "range" p2) [a] [] pos2) X.env) :: starEach [] X.env := by rfl) : PF X E (.Call (.Name "list" p) [.Call (.Name "range" p2) [a] [] pos2] [] pos) (listRng1F f) :=
  PE.of (pe_listRg hc hg hl (prg_1 hg2 hm ha na) nb) fun σ H Q h => by
    obtain ⟨ρ, env, st, rel, er, p⟩ := h
    refine ⟨ρ, env, st, rel, er, Post.seq p fun d st1 ρ1 H1 k1 l1 r1 p1 v rv => ?_⟩
    split at p1
    · split at p1
      · rename_i n h
        cases rv
        exact ⟨n, rfl, ⟨by omega, by omega, by omega, by omega, by omega⟩, p1.lst r1 rg_rv⟩
      · exact p1.elim
    · exact p1.elim
end
end PF
end
section
/-! the program's defs as functions -/
namespace Cr
open PySem PySem.Spec PyProof.Rows L2 PF
/-- where the program's classes stand -/
structure Pc where
  Draft : Addr
  RestError : Addr
  BadNet : Addr
  Net : Addr
noncomputable def b_is_name (c : Pc) : SF := (retS (andF (chainF leD leD (conF (.int 1)) (callF (lenD) (consA (varF 0) nilA)) (conF (.int 6))) (callF (allD false) (consA (lcF (iterF (varF 0)) (gNameF 1) yesT (binF (inD false) (varF 1) (conF (.str "abcdefghijklmnopqrstuvwxyz"))) [1]) nilA))))
noncomputable def m_is_name (c : Pc) : Mir := runM 2 (b_is_name c)

noncomputable def b_read_integer (c : Pc) : SF := (seqS (asgS (ifF (truF (mthF kStr startswithD (varF 0) (consA (conF (.str "-")) nilA))) (sliceF (varF 0) (partF (conF (.int 1))) noPart) (varF 0)) (gNameF 1)) (seqS (ifS (orT (notT (truF (mth0F kStr isasciiD (varF 1)))) (notT (truF (mth0F kStr isdigitD (varF 1))))) (retS (conF .non)) nextS) (seqS (asgS (callF (intD) (consA (varF 0) nilA)) (gNameF 2)) (retS (ifF (bolF (binF (eqD false) (callF (strD) (consA (varF 2) nilA)) (varF 0))) (varF 2) (conF .non))))))
noncomputable def m_read_integer (c : Pc) : Mir := runM 3 (b_read_integer c)

noncomputable def b_read_fraction (c : Pc) : SF := (seqS (asgS (mthF kStr partitionD (varF 0) (consA (conF (.str "/")) nilA)) (gTupF 3 (gConsF (gNameF 3) (gConsF (gNameF 4) (gConsF (gNameF 5) gNilF))))) (seqS (asgS (dcallF 1 (m_read_integer c) (consA (varF 3) nilA)) (gNameF 1)) (seqS (ifS (orT (isNT false (varF 1)) (bolF (binF (eqD false) (varF 4) (conF (.str ""))))) (retS (ifF (isNT false (varF 1)) (conF .non) (tupF (consA (varF 1) (consA (conF (.int 1)) nilA))))) nextS) (seqS (asgS (dcallF 1 (m_read_integer c) (consA (varF 5) nilA)) (gNameF 2)) (seqS (ifS (orT (isNT false (varF 2)) (orT (bolF (binF ltD (varF 2) (conF (.int 2)))) (bolF (binF (eqD true) (callF gcdD (consA (varF 1) (consA (varF 2) nilA))) (conF (.int 1)))))) (retS (conF .non)) nextS) (retS (tupF (consA (varF 1) (consA (varF 2) nilA)))))))))
noncomputable def m_read_fraction (c : Pc) : Mir := runM 6 (b_read_fraction c)

noncomputable def b_fits (c : Pc) : SF := (seqS (asgS (varF 0) (gTupF 2 (gConsF (gNameF 1) (gConsF (gNameF 2) gNilF)))) (retS (andF (chainF leD leD (negF (conF (.int 1000))) (varF 1) (conF (.int 1000))) (binF leD (varF 2) (conF (.int 60))))))
noncomputable def m_fits (c : Pc) : Mir := runM 3 (b_fits c)

noncomputable def b_read_row (c : Pc) : SF := (seqS (setLcS 1 (lcF (iterF (varF 0)) (gNameF 2) yesT (dcallF 1 (m_read_fraction c) (consA (varF 2) nilA)) [2])) (seqS (ifS (notT (truF (callF (allD false) (consA (lcF (iterF (varF 1)) (gNameF 3) yesT (andF (isNF true (varF 3)) (dcallF 1 (m_fits c) (consA (varF 3) nilA))) [3]) nilA)))) (retS (conF .non)) nextS) (retS (callF (tupleD) (consA (varF 1) nilA)))))
noncomputable def m_read_row (c : Pc) : Mir := runM 4 (b_read_row c)

noncomputable def b_DraftU_initU (c : Pc) : SF := (seqS (fldS c.Draft "coords" (varF 0) (conF (.int 0))) (seqS (fldS c.Draft "pegs" (varF 0) (lstF nilA)) (seqS (fldS c.Draft "rings" (varF 0) (lstF nilA)) (seqS (fldS c.Draft "cords" (varF 0) (lstF nilA)) (seqS (fldS c.Draft "places" (varF 0) dctF0) (fldS c.Draft "weights" (varF 0) dctF0))))))
noncomputable def m_DraftU_initU (c : Pc) : Mir := runM 1 (b_DraftU_initU c)

noncomputable def b_Draft_take_head (c : Pc) : SF := (seqS (ifS (orT (bolF (binF (eqD true) (callF (lenD) (consA (varF 1) nilA)) (conF (.int 2)))) (orT (bolF (binF (eqD true) (binF ixqD (varF 1) (conF (.int 0))) (conF (.str "net")))) (bolF (binF (inD true) (binF ixqD (varF 1) (conF (.int 1))) (tupF (consA (conF (.str "1")) (consA (conF (.str "2")) (consA (conF (.str "3")) nilA)))))))) (retS (conF (.bl false))) nextS) (seqS (fldS c.Draft "coords" (varF 0) (callF (intD) (consA (binF ixqD (varF 1) (conF (.int 1))) nilA))) (retS (conF (.bl true)))))
noncomputable def m_Draft_take_head (c : Pc) : Mir := runM 2 (b_Draft_take_head c)

noncomputable def b_Draft_new_row (c : Pc) : SF := (seqS (ifS (orT (bolF (binF (eqD true) (callF (lenD) (consA (varF 1) nilA)) (binF addD (conF (.int 2)) (varF 2)))) (orT (notT (truF (dcallF 1 (m_is_name c) (consA (binF ixqD (varF 1) (conF (.int 1))) nilA)))) (bolF (binF (inD false) (binF ixqD (varF 1) (conF (.int 1))) (fldF c.Draft "places" (varF 0)))))) (retS (conF .non)) nextS) (retS (dcallF 1 (m_read_row c) (consA (sliceF (varF 1) (partF (conF (.int 2))) noPart) nilA))))
noncomputable def m_Draft_new_row (c : Pc) : Mir := runM 3 (b_Draft_new_row c)

noncomputable def b_Draft_can_tie (c : Pc) : SF := (seqS (ifS (orT (bolF (binF (inD true) (varF 1) (fldF c.Draft "places" (varF 0)))) (orT (bolF (binF (inD true) (varF 2) (fldF c.Draft "places" (varF 0)))) (bolF (binF (eqD false) (binF ixdD (fldF c.Draft "places" (varF 0)) (varF 1)) (binF ixdD (fldF c.Draft "places" (varF 0)) (varF 2)))))) (retS (conF (.bl false))) nextS) (seqS (ifS (andT (bolF (binF (inD true) (varF 1) (fldF c.Draft "weights" (varF 0)))) (bolF (binF (inD true) (varF 2) (fldF c.Draft "weights" (varF 0))))) (retS (conF (.bl false))) nextS) (retS (andF (binF (inD true) (tupF (consA (varF 1) (consA (varF 2) nilA))) (fldF c.Draft "cords" (varF 0))) (binF (inD true) (tupF (consA (varF 2) (consA (varF 1) nilA))) (fldF c.Draft "cords" (varF 0)))))))
noncomputable def m_Draft_can_tie (c : Pc) : Mir := runM 3 (b_Draft_can_tie c)

noncomputable def b_Draft_take_peg (c : Pc) : SF := (seqS (ifS (orT (truF (fldF c.Draft "rings" (varF 0))) (orT (truF (fldF c.Draft "cords" (varF 0))) (bolF (binF geD (callF (lenD) (consA (fldF c.Draft "pegs" (varF 0)) nilA)) (conF (.int 16)))))) (retS (conF (.bl false))) nextS) (seqS (asgS (mcallF c.Draft "new_row" 3 (m_Draft_new_row c) (varF 0) (consA (varF 1) (consA (fldF c.Draft "coords" (varF 0)) nilA))) (gNameF 2)) (seqS (ifS (isNT false (varF 2)) (retS (conF (.bl false))) nextS) (seqS (exprS (mthF kLst appendD (fldF c.Draft "pegs" (varF 0)) (consA (binF ixqD (varF 1) (conF (.int 1))) nilA))) (seqS (asgS (varF 2) (gSubF (fldF c.Draft "places" (varF 0)) (binF ixqD (varF 1) (conF (.int 1))))) (retS (conF (.bl true))))))))
noncomputable def m_Draft_take_peg (c : Pc) : Mir := runM 3 (b_Draft_take_peg c)

noncomputable def b_Draft_take_ring (c : Pc) : SF := (seqS (ifS (orT (notT (truF (fldF c.Draft "pegs" (varF 0)))) (orT (truF (fldF c.Draft "cords" (varF 0))) (bolF (binF geD (callF (lenD) (consA (fldF c.Draft "rings" (varF 0)) nilA)) (conF (.int 8)))))) (retS (conF (.bl false))) nextS) (seqS (asgS (mcallF c.Draft "new_row" 3 (m_Draft_new_row c) (varF 0) (consA (varF 1) (consA (binF mulD (conF (.int 2)) (fldF c.Draft "coords" (varF 0))) nilA))) (gNameF 2)) (seqS (ifS (isNT false (varF 2)) (retS (conF (.bl false))) nextS) (seqS (exprS (mthF kLst appendD (fldF c.Draft "rings" (varF 0)) (consA (binF ixqD (varF 1) (conF (.int 1))) nilA))) (seqS (asgS (sliceF (varF 2) noPart (partF (fldF c.Draft "coords" (varF 0)))) (gSubF (fldF c.Draft "places" (varF 0)) (binF ixqD (varF 1) (conF (.int 1))))) (seqS (asgS (sliceF (varF 2) (partF (fldF c.Draft "coords" (varF 0))) noPart) (gSubF (fldF c.Draft "weights" (varF 0)) (binF ixqD (varF 1) (conF (.int 1))))) (retS (conF (.bl true)))))))))
noncomputable def m_Draft_take_ring (c : Pc) : Mir := runM 3 (b_Draft_take_ring c)

noncomputable def b_Draft_take_cord (c : Pc) : SF := (seqS (ifS (orT (bolF (binF (eqD true) (callF (lenD) (consA (varF 1) nilA)) (conF (.int 3)))) (bolF (binF geD (callF (lenD) (consA (fldF c.Draft "cords" (varF 0)) nilA)) (conF (.int 20))))) (retS (conF (.bl false))) nextS) (seqS (parS 2 3 (consA (binF ixqD (varF 1) (conF (.int 1))) (consA (binF ixqD (varF 1) (conF (.int 2))) nilA))) (seqS (ifS (notT (truF (mcallF c.Draft "can_tie" 3 (m_Draft_can_tie c) (varF 0) (consA (varF 2) (consA (varF 3) nilA))))) (retS (conF (.bl false))) nextS) (seqS (exprS (mthF kLst appendD (fldF c.Draft "cords" (varF 0)) (consA (tupF (consA (varF 2) (consA (varF 3) nilA))) nilA))) (retS (conF (.bl true)))))))
noncomputable def m_Draft_take_cord (c : Pc) : Mir := runM 4 (b_Draft_take_cord c)

noncomputable def b_Draft_take (c : Pc) : SF := (seqS (asgS (mthF kStr splitD (varF 1) (consA (conF (.str " ")) nilA)) (gNameF 2)) (seqS (ifS (bolF (binF (eqD false) (fldF c.Draft "coords" (varF 0)) (conF (.int 0)))) (retS (mcallF c.Draft "take_head" 2 (m_Draft_take_head c) (varF 0) (consA (varF 2) nilA))) nextS) (seqS (ifS (bolF (binF (eqD false) (binF ixqD (varF 2) (conF (.int 0))) (conF (.str "peg")))) (retS (mcallF c.Draft "take_peg" 2 (m_Draft_take_peg c) (varF 0) (consA (varF 2) nilA))) nextS) (seqS (ifS (bolF (binF (eqD false) (binF ixqD (varF 2) (conF (.int 0))) (conF (.str "ring")))) (retS (mcallF c.Draft "take_ring" 2 (m_Draft_take_ring c) (varF 0) (consA (varF 2) nilA))) nextS) (retS (andF (binF (eqD false) (binF ixqD (varF 2) (conF (.int 0))) (conF (.str "cord"))) (mcallF c.Draft "take_cord" 2 (m_Draft_take_cord c) (varF 0) (consA (varF 2) nilA))))))))
noncomputable def m_Draft_take (c : Pc) : Mir := runM 3 (b_Draft_take c)

noncomputable def b_read_draft (c : Pc) : SF := (seqS (ifS (notT (truF (callF (isiD stdTab) (consA (varF 0) (consA (conF (.ty "str")) nilA))))) (raiseS c.BadNet (conF (.int 0))) nextS) (seqS (asgS (mthF kStr splitD (varF 0) (consA (conF (.str "\n")) nilA)) (gNameF 1)) (seqS (asgS (makeF c.Draft 1 (m_DraftU_initU c) nilA) (gNameF 2)) (seqS (forS (enmKF 1 (consA (varF 1) nilA)) (gTupF 2 (gConsF (gNameF 3) (gConsF (gNameF 4) gNilF))) (ifS (notT (truF (mcallF c.Draft "take" 2 (m_Draft_take c) (varF 2) (consA (varF 4) nilA)))) (raiseS c.BadNet (varF 3)) nextS)) (seqS (ifS (notT (truF (fldF c.Draft "pegs" (varF 2)))) (raiseS c.BadNet (binF addD (callF (lenD) (consA (varF 1) nilA)) (conF (.int 1)))) nextS) (retS (varF 2)))))))
noncomputable def m_read_draft (c : Pc) : Mir := runM 5 (b_read_draft c)

noncomputable def b_NetU_initU (c : Pc) : SF := (seqS (asgS (dcallF 1 (m_read_draft c) (consA (varF 1) nilA)) (gNameF 2)) (seqS (fldS c.Net "text" (varF 0) (varF 1)) (seqS (fldS c.Net "coords" (varF 0) (fldF c.Draft "coords" (varF 2))) (seqS (fldS c.Net "pegs" (varF 0) (callF (tupleD) (consA (fldF c.Draft "pegs" (varF 2)) nilA))) (seqS (fldS c.Net "rings" (varF 0) (callF (tupleD) (consA (fldF c.Draft "rings" (varF 2)) nilA))) (seqS (fldS c.Net "cords" (varF 0) (callF (tupleD) (consA (fldF c.Draft "cords" (varF 2)) nilA))) (seqS (fldS c.Net "_places" (varF 0) (fldF c.Draft "places" (varF 2))) (fldS c.Net "_weights" (varF 0) (fldF c.Draft "weights" (varF 2))))))))))
noncomputable def m_NetU_initU (c : Pc) : Mir := runM 3 (b_NetU_initU c)
end Cr
end
section
namespace Cr
open PySem PySem.Spec PyProof.Rows L2 PF
def topS (i : Nat) : Stmt := PySem.Challenge.pw_cordsatrest_k03_bounds_of_nets_by_hand.main.body.getD i (.Pass ⟨0, 0, 0, 0⟩)
structure Cs extends Pc where
  k__law_is_due : Addr
  t__law_is_due : Addr
def cats (c : Cs) : List Addr := [c.BadNet]
def isiT_BadNet (c : Cs) : TyTab := [((.b "NoneType", .o c.BadNet), false), ((.b "bool", .o c.BadNet), false), ((.b "int", .o c.BadNet), false), ((.b "str", .o c.BadNet), false), ((.b "tuple", .o c.BadNet), false), ((.b "list", .o c.BadNet), false), ((.b "dict", .o c.BadNet), false), ((.x c.BadNet, .o c.BadNet), true)]

/-! is_name -/
abbrev s_is_name : Stmt := topS 6
theorem sc_is_name : FnScope [("word" : Str), ("letter" : Str)] [("word" : Str)] (defScope s_is_name) := ⟨rfl, rfl, rfl, by decide +kernel, rfl, by decide +kernel, by decide +kernel⟩

/-! read_integer -/
abbrev s_read_integer : Stmt := topS 7
theorem sc_read_integer : FnScope [("word" : Str), ("figures" : Str), ("number" : Str)] [("word" : Str)] (defScope s_read_integer) := ⟨rfl, rfl, rfl, by decide +kernel, rfl, by decide +kernel, by decide +kernel⟩

/-! read_fraction -/
abbrev s_read_fraction : Stmt := topS 8
theorem sc_read_fraction : FnScope [("word" : Str), ("top" : Str), ("bottom" : Str), ("head" : Str), ("slash" : Str), ("tail" : Str)] [("word" : Str)] (defScope s_read_fraction) := ⟨rfl, rfl, rfl, by decide +kernel, rfl, by decide +kernel, by decide +kernel⟩

/-! fits -/
abbrev s_fits : Stmt := topS 9
theorem sc_fits : FnScope [("fraction" : Str), ("top" : Str), ("bottom" : Str)] [("fraction" : Str)] (defScope s_fits) := ⟨rfl, rfl, rfl, by decide +kernel, rfl, by decide +kernel, by decide +kernel⟩

/-! read_row -/
abbrev s_read_row : Stmt := topS 10
theorem sc_read_row : FnScope [("words" : Str), ("row" : Str), ("word" : Str), ("part" : Str)] [("words" : Str)] (defScope s_read_row) := ⟨rfl, rfl, rfl, by decide +kernel, rfl, by decide +kernel, by decide +kernel⟩

/-! Draft.__init__ -/
abbrev s_DraftU_initU : Stmt := inClass (topS 15) 0
theorem sc_DraftU_initU : FnScope [("self" : Str)] [("self" : Str)] (defScope s_DraftU_initU) := ⟨rfl, rfl, rfl, by decide +kernel, rfl, by decide +kernel, by decide +kernel⟩

/-! Draft.take_head -/
abbrev s_Draft_take_head : Stmt := inClass (topS 15) 2
theorem sc_Draft_take_head : FnScope [("self" : Str), ("words" : Str)] [("self" : Str), ("words" : Str)] (defScope s_Draft_take_head) := ⟨rfl, rfl, rfl, by decide +kernel, rfl, by decide +kernel, by decide +kernel⟩

/-! Draft.new_row -/
abbrev s_Draft_new_row : Stmt := inClass (topS 15) 6
theorem sc_Draft_new_row : FnScope [("self" : Str), ("words" : Str), ("many" : Str)] [("self" : Str), ("words" : Str), ("many" : Str)] (defScope s_Draft_new_row) := ⟨rfl, rfl, rfl, by decide +kernel, rfl, by decide +kernel, by decide +kernel⟩

/-! Draft.can_tie -/
abbrev s_Draft_can_tie : Stmt := inClass (topS 15) 7
theorem sc_Draft_can_tie : FnScope [("self" : Str), ("one" : Str), ("other" : Str)] [("self" : Str), ("one" : Str), ("other" : Str)] (defScope s_Draft_can_tie) := ⟨rfl, rfl, rfl, by decide +kernel, rfl, by decide +kernel, by decide +kernel⟩

/-! _law_pot -/
abbrev s__law_pot : Stmt := topS 23
theorem sc__law_pot : FnScope [("script" : Str), ("at" : Str), ("cell" : Str), ("own" : Str), ("small" : Str)] [("script" : Str), ("at" : Str)] (defScope s__law_pot) := ⟨rfl, rfl, rfl, by decide +kernel, rfl, by decide +kernel, by decide +kernel⟩
noncomputable def b__law_pot (c : Cs) : SF := (seqS (asgS (ifF (bolF (binF ltD (varF 1) (callF (lenD) (consA (varF 0) nilA)))) (binF ixqD (varF 0) (varF 1)) (binF addD (binF addD (binF modD (callF (sumD) (consA (sliceF (varF 0) noPart (partF (conF (.int 1)))) nilA)) (conF (.int 1000003))) (binF mulD (conF (.int 1510)) (varF 1))) (conF (.int 778)))) (gNameF 2)) (seqS (asgS (binF mulD (binF modD (callF (intD) (consA (callF (absD) (consA (varF 2) nilA)) nilA)) (binF powD (binF powD (conF (.int 10)) (conF (.int 60))) (conF (.int 5)))) (callF (intD) (consA (binF geD (callF (absD) (consA (varF 2) nilA)) (binF powD (conF (.int 10)) (conF (.int 18)))) nilA))) (gNameF 3)) (seqS (asgS (binF modD (callF (intD) (consA (varF 2) nilA)) (conF (.int 2305843009213693951))) (gNameF 4)) (retS (lstF (consA (varF 3) (consA (binF modD (callF (intD) (consA (binF addD (binF addD (binF mulD (varF 4) (conF (.int 72772))) (binF mulD (binF mulD (conF (.int 8080)) (varF 1)) (varF 1))) (conF (.int 700))) nilA)) (conF (.int 2305843009213693921))) (consA (conF (.int 0)) nilA))))))))
noncomputable def m__law_pot (c : Cs) : Mir := runM 5 (b__law_pot c)


/-! _law_take -/
abbrev s__law_take : Stmt := topS 24
theorem sc__law_take : FnScope [("pot" : Str), ("upto" : Str), ("prime" : Str), ("blend" : Str), ("digit" : Str)] [("pot" : Str), ("upto" : Str)] (defScope s__law_take) := ⟨rfl, rfl, rfl, by decide +kernel, rfl, by decide +kernel, by decide +kernel⟩
noncomputable def b__law_take (c : Cs) : SF := (seqS (ifS (bolF (binF gtD (binF ixqD (varF 0) (conF (.int 0))) (conF (.int 0)))) (seqS (asgS (binF modD (callF (intD) (consA (binF ixqD (varF 0) (conF (.int 0))) nilA)) (varF 1)) (gNameF 4)) (seqS (asgS (binF fdivD (binF ixqD (varF 0) (conF (.int 0))) (varF 1)) (gSubF (varF 0) (conF (.int 0)))) (retS (varF 4)))) nextS) (seqS (asgS (binF addD (binF ixqD (varF 0) (conF (.int 2))) (conF (.int 1))) (gSubF (varF 0) (conF (.int 2)))) (seqS (asgS (binF ixqD (lstF (consA (conF (.int 2147483647)) (consA (conF (.int 2147483629)) (consA (conF (.int 2147483587)) (consA (conF (.int 2147483579)) (consA (conF (.int 2147483563)) nilA)))))) (binF modD (callF (intD) (consA (binF ixqD (varF 0) (conF (.int 2))) nilA)) (conF (.int 5)))) (gNameF 2)) (seqS (asgS (binF modD (callF (intD) (consA (binF powD (callF (intD) (consA (binF addD (binF addD (binF ixqD (varF 0) (conF (.int 1))) (binF mulD (binF mulD (conF (.int 99064)) (binF ixqD (varF 0) (conF (.int 2)))) (binF ixqD (varF 0) (conF (.int 2))))) (conF (.int 934))) nilA)) (conF (.int 3))) nilA)) (varF 2)) (gNameF 3)) (seqS (asgS (binF modD (callF (intD) (consA (binF mulD (varF 3) (binF addD (binF modD (callF (intD) (consA (varF 3) nilA)) (conF (.int 10682))) (binF mulD (conF (.int 374)) (binF ixqD (varF 0) (conF (.int 2)))))) nilA)) (conF (.int 2305843009213693907))) (gNameF 3)) (retS (binF modD (callF (intD) (consA (binF fdivD (varF 3) (conF (.int 167))) nilA)) (varF 1))))))))
noncomputable def m__law_take (c : Cs) : Mir := runM 5 (b__law_take c)


/-! _law_of -/
abbrev s__law_of : Stmt := topS 25
theorem sc__law_of : FnScope [("pot" : Str), ("some" : Str)] [("pot" : Str), ("some" : Str)] (defScope s__law_of) := ⟨rfl, rfl, rfl, by decide +kernel, rfl, by decide +kernel, by decide +kernel⟩
noncomputable def b__law_of (c : Cs) : SF := (retS (binF ixqD (varF 1) (dcallF 2 (m__law_take c) (consA (varF 0) (consA (callF (lenD) (consA (varF 1) nilA)) nilA)))))
noncomputable def m__law_of (c : Cs) : Mir := runM 2 (b__law_of c)


/-! _law_some -/
abbrev s__law_some : Stmt := topS 26
theorem sc__law_some : FnScope [("pot" : Str), ("pool" : Str), ("many" : Str), ("lap" : Str), ("rests" : Str), ("found" : Str)] [("pot" : Str), ("pool" : Str), ("many" : Str)] (defScope s__law_some) := ⟨rfl, rfl, rfl, by decide +kernel, rfl, by decide +kernel, by decide +kernel⟩
noncomputable def b__law_some (c : Cs) : SF := (seqS (parS 4 5 (consA (callF (listD) (consA (varF 1) nilA)) (consA (lstF nilA) nilA))) (seqS (forS (rng1F (consA (varF 2) nilA)) (gNameF 3) (exprS (mthF kLst appendD (varF 5) (consA (mthF kLst popAtD (varF 4) (consA (dcallF 2 (m__law_take c) (consA (varF 0) (consA (callF (lenD) (consA (varF 4) nilA)) nilA))) nilA)) nilA)))) (retS (varF 5))))
noncomputable def m__law_some (c : Cs) : Mir := runM 6 (b__law_some c)


/-! _law_heard -/
abbrev s__law_heard : Stmt := topS 27
theorem sc__law_heard : FnScope [("call" : Str), ("error" : Str), ("caught" : Str), ("given" : Str)] [("call" : Str)] (defScope s__law_heard) := ⟨rfl, rfl, rfl, by decide +kernel, rfl, by decide +kernel, by decide +kernel⟩
theorem gv__law_heard {X : Cx} {c : Cs} {g : Addr} (hm : X.mg "RestError" = some (.ref c.RestError)) (q : Str) : ∀ cdg, GivesAt X [("call" : Str), ("error" : Str), ("caught" : Str), ("given" : Str)] "_law_heard" (defScope s__law_heard) g cdg (defBody s__law_heard) "call" q (TTheard X.K c.RestError) := by
  intro cdg f c' s H Q tl act hc h
  have nd := sc__law_heard.nd
  refine ⟨_, pss_cons (ps_asg (pe_tup (pa_cons pe_non (pa_cons pe_non pa_nil))) (pg_tup rfl (pgs_cons (pg_name (i := 2) nd rfl (.inl rfl)) (pgs_cons (pg_name (i := 3) nd rfl (.inl rfl)) pgs_nil)))) (pss_cons (ps_try_keep (i := 1) (c := .ref c.RestError) (tb := tbH f c' q 3 tl) rfl rfl rfl nd rfl rfl ⟨rfl, by decide, .inl hm⟩ (fun W pn xe tk => ?_) (fun a o cls d pn => pss_one (ps_set (i := 2) nd rfl (.inl rfl) (pv 1)))) (pss_one (ps_ret (pe_tup (pa_cons (pv 2) (pa_cons (pv 3) pa_nil)))))), ?_⟩
  · exact ⟨fun pins s' σ H' D I ⟨E, Q1, hW, h1, h2, h3, h4⟩ => (pss_one (ps_set (i := 3) nd rfl (.inl rfl) (PE.weak (act W pn xe E _ _ tk hW)))).run pins s' σ H' D I ⟨Q1, ⟨h1, h2, h3⟩, h4⟩⟩
  · let σ1 : L2.St := [some (.ref f), none, some .non, some .non]
    refine ⟨by simp [sizeLine_eq], fun t0 h0 => ⟨t0, _, rfl, PF.SqT.new, rfl, .non, [.non], rfl, .non, [], rfl, rfl, ?_⟩⟩
    refine ⟨fun σ cls d H' => σ = σ1 ∧ heardE X.K c.RestError Q cls d H', heardQ Q, fun σ cls d H' e => ?_, rfl, ?_, (cast (congrArg (fun E => tl E (upd H t0 (.tup [.non, .non])) _) (funext fun cls => funext fun d => funext fun H' => propext ⟨fun z => ⟨rfl, z⟩, fun z => z.2⟩)) (h t0 h0)), fun v H1 q => ⟨.non, rfl, v, rfl, by simp [sizeLine_eq], q⟩⟩
    · obtain ⟨e1, e2, e3⟩ := e
      subst e1
      refine ⟨e2, fun a ha => ?_⟩
      obtain ⟨C, dd, rfl, rfl, q⟩ := e3 a ha
      exact ⟨C, dd, rfl, rfl, .ref a, rfl, .ref a, rfl, .non, rfl, by simp [sizeLine_eq], q⟩
    · rw [upd_ne (ne_of_none hc h0)]
      exact hc

/-! _law_wide_names -/
abbrev s__law_wide_names : Stmt := topS 28
theorem sc__law_wide_names : FnScope [("pot" : Str), ("many" : Str), ("at" : Str), ("signs" : Str), ("found" : Str), ("lap" : Str)] [("pot" : Str), ("many" : Str)] (defScope s__law_wide_names) := ⟨rfl, rfl, rfl, by decide +kernel, rfl, by decide +kernel, by decide +kernel⟩
noncomputable def b__law_wide_names (c : Cs) : SF := (seqS (asgS (tupF (consA (conF (.str "abcdefghijklmnopqrstuvwxyz")) (consA (lstF nilA) nilA))) (gTupF 2 (gConsF (gNameF 3) (gConsF (gNameF 4) gNilF)))) (seqS (forS (iterF (dcallF 3 (m__law_some c) (consA (varF 0) (consA (listRng1F (conF (.int 26))) (consA (varF 1) nilA))))) (gNameF 2) (exprS (mthF kLst appendD (varF 4) (consA (binF addD (binF ixqD (varF 3) (varF 2)) (mthF kStr joinD (conF (.str "")) (consA (lcF (rng1F (consA (dcallF 2 (m__law_take c) (consA (varF 0) (consA (conF (.int 6)) nilA))) nilA)) (gNameF 5) yesT (dcallF 2 (m__law_of c) (consA (varF 0) (consA (varF 3) nilA))) [5]) nilA))) nilA)))) (retS (varF 4))))
noncomputable def m__law_wide_names (c : Cs) : Mir := runM 6 (b__law_wide_names c)


/-! Draft.take_peg -/
abbrev s_Draft_take_peg : Stmt := inClass (topS 15) 3
theorem sc_Draft_take_peg : FnScope [("self" : Str), ("words" : Str), ("row" : Str)] [("self" : Str), ("words" : Str)] (defScope s_Draft_take_peg) := ⟨rfl, rfl, rfl, by decide +kernel, rfl, by decide +kernel, by decide +kernel⟩

/-! Draft.take_ring -/
abbrev s_Draft_take_ring : Stmt := inClass (topS 15) 4
theorem sc_Draft_take_ring : FnScope [("self" : Str), ("words" : Str), ("row" : Str)] [("self" : Str), ("words" : Str)] (defScope s_Draft_take_ring) := ⟨rfl, rfl, rfl, by decide +kernel, rfl, by decide +kernel, by decide +kernel⟩

/-! Draft.take_cord -/
abbrev s_Draft_take_cord : Stmt := inClass (topS 15) 5
theorem sc_Draft_take_cord : FnScope [("self" : Str), ("words" : Str), ("one" : Str), ("other" : Str)] [("self" : Str), ("words" : Str)] (defScope s_Draft_take_cord) := ⟨rfl, rfl, rfl, by decide +kernel, rfl, by decide +kernel, by decide +kernel⟩

/-! Draft.take -/
abbrev s_Draft_take : Stmt := inClass (topS 15) 1
theorem sc_Draft_take : FnScope [("self" : Str), ("line" : Str), ("words" : Str)] [("self" : Str), ("line" : Str)] (defScope s_Draft_take) := ⟨rfl, rfl, rfl, by decide +kernel, rfl, by decide +kernel, by decide +kernel⟩

/-! read_draft -/
abbrev s_read_draft : Stmt := topS 20
theorem sc_read_draft : FnScope [("text" : Str), ("lines" : Str), ("draft" : Str), ("number" : Str), ("line" : Str)] [("text" : Str)] (defScope s_read_draft) := ⟨rfl, rfl, rfl, by decide +kernel, rfl, by decide +kernel, by decide +kernel⟩

/-! Net.__init__ -/
abbrev s_NetU_initU : Stmt := inClass (topS 21) 0
theorem sc_NetU_initU : FnScope [("self" : Str), ("text" : Str), ("draft" : Str)] [("self" : Str), ("text" : Str)] (defScope s_NetU_initU) := ⟨rfl, rfl, rfl, by decide +kernel, rfl, by decide +kernel, by decide +kernel⟩

/-! _law_is_due -/
abbrev s__law_is_due : Stmt := topS 29
theorem sc__law_is_due : FnScope [("lines" : Str), ("number" : Str), ("caught" : Str), ("net" : Str)] [("lines" : Str), ("number" : Str)] (defScope s__law_is_due) := ⟨rfl, rfl, rfl, by decide +kernel, rfl, by decide +kernel, by decide +kernel⟩
def q__law_is_due : Str := (envOfC "_law_is_due" (defScope s__law_is_due) 0 0 .none).qual ++ "<lambda>"
noncomputable def b__law_is_due (c : Cs) : SF := (seqS (asgS (heardF c.t__law_is_due q__law_is_due (cats c) (makeF c.Net 2 (m_NetU_initU c.toPc) (consA (mthF kStr joinD (conF (.str "\n")) (consA (varF 0) nilA)) nilA))) (gTupF 2 (gConsF (gNameF 2) (gConsF (gNameF 3) gNilF)))) (seqS (ifS (isNT false (varF 1)) (retS (andF (isNF false (varF 2)) (binF (eqD false) (fldF c.Net "text" (varF 3)) (mthF kStr joinD (conF (.str "\n")) (consA (varF 0) nilA))))) nextS) (retS (andF (callF (isiD (isiT_BadNet c)) (consA (varF 2) (consA (conF (.ref c.BadNet)) nilA))) (binF (eqD false) (callF (reprD) (consA (xvalF (cats c) (varF 2)) nilA)) (callF (reprD) (consA (varF 1) nilA)))))))
noncomputable def m__law_is_due (c : Cs) : Mir := runM 4 (b__law_is_due c)


/-! _law_are_counts_right -/
abbrev s__law_are_counts_right : Stmt := topS 30
theorem sc__law_are_counts_right : FnScope [("names" : Str), ("pegs" : Str), ("rings" : Str), ("cords" : Str), ("ring" : Str), ("head" : Str), ("name" : Str), ("at" : Str), ("peg" : Str)] [("names" : Str)] (defScope s__law_are_counts_right) := ⟨rfl, rfl, rfl, by decide +kernel, rfl, by decide +kernel, by decide +kernel⟩
noncomputable def b__law_are_counts_right (c : Cs) : SF := (seqS (setLcS 1 (lcF (enmF (consA (sliceF (varF 0) noPart (partF (conF (.int 17)))) nilA)) (gTupF 2 (gConsF (gNameF 7) (gConsF (gNameF 6) gNilF))) yesT (binF addD (binF addD (binF addD (conF (.str "peg ")) (varF 6)) (conF (.str " "))) (callF (strD) (consA (callF (intD) (consA (varF 7) nilA)) nilA))) [6, 7])) (seqS (setLcS 2 (lcF (iterF (sliceF (varF 0) (partF (conF (.int 17))) noPart)) (gNameF 6) yesT (binF addD (binF addD (conF (.str "ring ")) (varF 6)) (conF (.str " 0 0"))) [6])) (seqS (ifS (orT (notT (truF (dcallF 2 (m__law_is_due c) (consA (binF addD (binF addD (lstF (consA (conF (.str "net 1")) nilA)) (sliceF (varF 1) noPart (partF (conF (.int 16))))) (sliceF (varF 2) noPart (partF (conF (.int 8))))) (consA (conF .non) nilA))))) (notT (truF (dcallF 2 (m__law_is_due c) (consA (binF addD (lstF (consA (conF (.str "net 1")) nilA)) (varF 1)) (consA (conF (.int 18)) nilA)))))) (retS (conF (.bl false))) nextS) (seqS (ifS (notT (truF (dcallF 2 (m__law_is_due c) (consA (binF addD (binF addD (lstF (consA (conF (.str "net 1")) nilA)) (sliceF (varF 1) noPart (partF (conF (.int 2))))) (sliceF (varF 2) noPart (partF (conF (.int 9))))) (consA (conF (.int 12)) nilA))))) (retS (conF (.bl false))) nextS) (seqS (asgS (lstF nilA) (gNameF 3)) (seqS (forS (iterF (sliceF (varF 0) (partF (conF (.int 17))) (partF (conF (.int 20))))) (gNameF 4) (exprS (mthF kLst extendD (varF 3) (consA (lcF (iterF (sliceF (varF 0) (partF (conF (.int 1))) (partF (conF (.int 8))))) (gNameF 8) yesT (binF addD (binF addD (binF addD (conF (.str "cord ")) (varF 4)) (conF (.str " "))) (varF 8)) [8]) nilA)))) (seqS (asgS (binF addD (binF addD (lstF (consA (conF (.str "net 1")) nilA)) (sliceF (varF 1) noPart (partF (conF (.int 8))))) (sliceF (varF 2) noPart (partF (conF (.int 3))))) (gNameF 5)) (retS (andF (dcallF 2 (m__law_is_due c) (consA (binF addD (varF 5) (sliceF (varF 3) noPart (partF (conF (.int 20))))) (consA (conF .non) nilA))) (dcallF 2 (m__law_is_due c) (consA (binF addD (varF 5) (varF 3)) (consA (conF (.int 33)) nilA))))))))))))
noncomputable def m__law_are_counts_right (c : Cs) : Mir := runM 9 (b__law_are_counts_right c)


/-! _law_are_numbers_right -/
abbrev s__law_are_numbers_right : Stmt := topS 31
theorem sc__law_are_numbers_right : FnScope [("a" : Str), ("b" : Str), ("word" : Str), ("bad" : Str)] [("a" : Str), ("b" : Str)] (defScope s__law_are_numbers_right) := ⟨rfl, rfl, rfl, by decide +kernel, rfl, by decide +kernel, by decide +kernel⟩
noncomputable def b__law_are_numbers_right (c : Cs) : SF := (seqS (forS (iterF (tupF (consA (conF (.str "1000")) (consA (conF (.str "-1000")) (consA (conF (.str "1/60")) (consA (conF (.str "-1/60")) (consA (conF (.str "999/59")) (consA (conF (.str "0")) (consA (conF (.str "-1")) (consA (conF (.str "1000/59")) (consA (conF (.str "1/2")) nilA))))))))))) (gNameF 2) (ifS (notT (truF (dcallF 2 (m__law_is_due c) (consA (lstF (consA (conF (.str "net 2")) (consA (binF addD (binF addD (binF addD (binF addD (conF (.str "peg ")) (varF 0)) (conF (.str " "))) (varF 2)) (conF (.str " 0"))) (consA (binF addD (binF addD (binF addD (binF addD (binF addD (conF (.str "ring ")) (varF 1)) (conF (.str " 7 "))) (varF 2)) (conF (.str " 0 "))) (varF 2)) nilA)))) (consA (conF .non) nilA))))) (retS (conF (.bl false))) nextS)) (seqS (asgS (lstF (consA (conF (.str "1001")) (consA (conF (.str "-1001")) (consA (conF (.str "1/61")) (consA (conF (.str "2/4")) (consA (conF (.str "0/1")) (consA (conF (.str "1/1")) (consA (conF (.str "-0")) (consA (conF (.str "+1")) (consA (conF (.str "01")) (consA (conF (.str "1/-2")) (consA (conF (.str "1/0")) (consA (conF (.str "")) (consA (conF (.str "x")) (consA (conF (.str "1.0")) (consA (conF (.str "1/2/3")) nilA)))))))))))))))) (gNameF 3)) (seqS (forS (iterF (binF addD (varF 3) (lstF (consA (conF (.str "1/02")) nilA)))) (gNameF 2) (seqS (ifS (notT (truF (dcallF 2 (m__law_is_due c) (consA (lstF (consA (conF (.str "net 2")) (consA (binF addD (binF addD (binF addD (binF addD (conF (.str "peg ")) (varF 0)) (conF (.str " "))) (varF 2)) (conF (.str " 0"))) nilA))) (consA (conF (.int 2)) nilA))))) (retS (conF (.bl false))) nextS) (ifS (notT (truF (dcallF 2 (m__law_is_due c) (consA (lstF (consA (conF (.str "net 2")) (consA (binF addD (binF addD (conF (.str "peg ")) (varF 0)) (conF (.str " 0 0"))) (consA (binF addD (binF addD (binF addD (conF (.str "ring ")) (varF 1)) (conF (.str " 7 7 0 "))) (varF 2)) nilA)))) (consA (conF (.int 3)) nilA))))) (retS (conF (.bl false))) nextS))) (retS (conF (.bl true))))))
noncomputable def m__law_are_numbers_right (c : Cs) : Mir := runM 4 (b__law_are_numbers_right c)


/-! _law_are_lines_right -/
abbrev s__law_are_lines_right : Stmt := topS 32
theorem sc__law_are_lines_right : FnScope [("a" : Str), ("b" : Str), ("c" : Str), ("head" : Str), ("rows" : Str), ("ends" : Str), ("tied" : Str), ("near" : Str), ("name" : Str), ("lines" : Str), ("due" : Str)] [("a" : Str), ("b" : Str), ("c" : Str)] (defScope s__law_are_lines_right) := ⟨rfl, rfl, rfl, by decide +kernel, rfl, by decide +kernel, by decide +kernel⟩
noncomputable def b__law_are_lines_right (c : Cs) : SF := (seqS (asgS (lstF (consA (conF (.str "net 1")) (consA (binF addD (binF addD (conF (.str "peg ")) (varF 0)) (conF (.str " 0"))) (consA (binF addD (binF addD (conF (.str "peg ")) (varF 1)) (conF (.str " 4"))) (consA (binF addD (binF addD (conF (.str "ring ")) (varF 2)) (conF (.str " 1 0"))) nilA))))) (gNameF 3)) (seqS (asgS (lstF (consA (tupF (consA (varF 3) (consA (conF .non) nilA))) (consA (tupF (consA (lstF (consA (conF (.str "net 1")) nilA)) (consA (conF (.int 2)) nilA))) (consA (tupF (consA (lstF (consA (conF (.str "net 4")) (consA (conF (.str "peg a 0")) nilA))) (consA (conF (.int 1)) nilA))) (consA (tupF (consA (lstF (consA (conF (.str "net 1 ")) (consA (conF (.str "peg a 0")) nilA))) (consA (conF (.int 1)) nilA))) nilA))))) (gNameF 4)) (seqS (exprS (mthF kLst extendD (varF 4) (consA (lstF (consA (tupF (consA (lstF (consA (conF (.str "Net 1")) nilA)) (consA (conF (.int 1)) nilA))) (consA (tupF (consA (lstF (consA (conF (.str "")) nilA)) (consA (conF (.int 1)) nilA))) (consA (tupF (consA (lstF (consA (conF (.str "net 0")) (consA (conF (.str "peg a")) nilA))) (consA (conF (.int 1)) nilA))) nilA)))) nilA))) (seqS (exprS (mthF kLst extendD (varF 4) (consA (lstF (consA (tupF (consA (lstF (consA (conF (.str "net 1")) (consA (binF addD (binF addD (conF (.str "ring ")) (varF 2)) (conF (.str " 1 0"))) nilA))) (consA (conF (.int 2)) nilA))) (consA (tupF (consA (binF addD (varF 3) (lstF (consA (conF (.str "peg d 2")) nilA))) (consA (conF (.int 5)) nilA))) (consA (tupF (consA (binF addD (sliceF (varF 3) noPart (partF (conF (.int 2)))) (lstF (consA (binF addD (binF addD (conF (.str "peg ")) (varF 0)) (conF (.str " 3"))) nilA))) (consA (conF (.int 3)) nilA))) nilA)))) nilA))) (seqS (exprS (mthF kLst extendD (varF 4) (consA (lstF (consA (tupF (consA (binF addD (varF 3) (lstF (consA (binF addD (binF addD (conF (.str "ring ")) (varF 1)) (conF (.str " 3 0"))) nilA))) (consA (conF (.int 5)) nilA))) (consA (tupF (consA (binF addD (varF 3) (lstF (consA (conF (.str "")) nilA))) (consA (conF (.int 5)) nilA))) (consA (tupF (consA (binF addD (varF 3) (lstF (consA (binF addD (binF addD (binF addD (conF (.str "cords ")) (varF 0)) (conF (.str " "))) (varF 2)) nilA))) (consA (conF (.int 5)) nilA))) nilA)))) nilA))) (seqS (forS (iterF (tupF (consA (lstF (consA (varF 0) (consA (varF 1) nilA))) (consA (lstF (consA (varF 2) (consA (varF 2) nilA))) (consA (lstF (consA (varF 0) nilA)) (consA (lstF (consA (varF 0) (consA (varF 2) (consA (varF 1) nilA)))) (consA (lstF (consA (varF 0) (consA (conF (.str "qq")) nilA))) (consA (lstF (consA (varF 2) (consA (conF (.str "")) nilA))) (consA (lstF nilA) nilA))))))))) (gNameF 5) (exprS (mthF kLst appendD (varF 4) (consA (tupF (consA (binF addD (varF 3) (lstF (consA (mthF kStr joinD (conF (.str " ")) (consA (binF addD (lstF (consA (conF (.str "cord")) nilA)) (varF 5)) nilA)) nilA))) (consA (conF (.int 5)) nilA))) nilA)))) (seqS (asgS (binF addD (varF 3) (lstF (consA (binF addD (binF addD (binF addD (conF (.str "cord ")) (varF 0)) (conF (.str " "))) (varF 2)) nilA))) (gNameF 6)) (seqS (exprS (mthF kLst extendD (varF 4) (consA (lstF (consA (tupF (consA (varF 6) (consA (conF .non) nilA))) (consA (tupF (consA (binF addD (varF 6) (lstF (consA (binF addD (binF addD (binF addD (conF (.str "cord ")) (varF 0)) (conF (.str " "))) (varF 2)) nilA))) (consA (conF (.int 6)) nilA))) (consA (tupF (consA (binF addD (varF 6) (lstF (consA (binF addD (binF addD (binF addD (conF (.str "cord ")) (varF 2)) (conF (.str " "))) (varF 0)) nilA))) (consA (conF (.int 6)) nilA))) nilA)))) nilA))) (seqS (exprS (mthF kLst extendD (varF 4) (consA (lstF (consA (tupF (consA (binF addD (varF 6) (lstF (consA (conF (.str "ring zz 1 0")) nilA))) (consA (conF (.int 6)) nilA))) (consA (tupF (consA (binF addD (varF 6) (lstF (consA (conF (.str "peg zz 1")) nilA))) (consA (conF (.int 6)) nilA))) (consA (tupF (consA (binF addD (varF 6) (lstF (consA (binF addD (binF addD (binF addD (conF (.str "cord ")) (varF 2)) (conF (.str " "))) (varF 1)) nilA))) (consA (conF .non) nilA))) nilA)))) nilA))) (seqS (asgS (binF addD (sliceF (varF 3) noPart (partF (conF (.int 3)))) (lstF (consA (binF addD (binF addD (conF (.str "ring ")) (varF 2)) (conF (.str " 4 0"))) nilA))) (gNameF 7)) (seqS (exprS (mthF kLst extendD (varF 4) (consA (lstF (consA (tupF (consA (binF addD (varF 7) (lstF (consA (binF addD (binF addD (binF addD (conF (.str "cord ")) (varF 2)) (conF (.str " "))) (varF 1)) nilA))) (consA (conF (.int 5)) nilA))) (consA (tupF (consA (binF addD (varF 7) (lstF (consA (binF addD (binF addD (binF addD (conF (.str "cord ")) (varF 2)) (conF (.str " "))) (varF 0)) nilA))) (consA (conF .non) nilA))) nilA))) nilA))) (seqS (forS (iterF (tupF (consA (conF (.str "abcdefg")) (consA (conF (.str "Abc")) (consA (conF (.str "a1")) (consA (conF (.str "a_")) (consA (conF (.str "")) nilA))))))) (gNameF 8) (exprS (mthF kLst appendD (varF 4) (consA (tupF (consA (lstF (consA (conF (.str "net 1")) (consA (binF addD (binF addD (conF (.str "peg ")) (varF 8)) (conF (.str " 0"))) nilA))) (consA (conF (.int 2)) nilA))) nilA)))) (seqS (forS (iterF (tupF (consA (conF (.str "abcdef")) (consA (conF (.str "net")) (consA (conF (.str "cord")) (consA (conF (.str "x")) nilA)))))) (gNameF 8) (exprS (mthF kLst appendD (varF 4) (consA (tupF (consA (lstF (consA (conF (.str "net 1")) (consA (binF addD (binF addD (conF (.str "peg ")) (varF 8)) (conF (.str " 0"))) nilA))) (consA (conF .non) nilA))) nilA)))) (retS (callF (allD false) (consA (lcF (iterF (varF 4)) (gTupF 2 (gConsF (gNameF 9) (gConsF (gNameF 10) gNilF))) yesT (dcallF 2 (m__law_is_due c) (consA (varF 9) (consA (varF 10) nilA))) [9, 10]) nilA))))))))))))))))
noncomputable def m__law_are_lines_right (c : Cs) : Mir := runM 11 (b__law_are_lines_right c)


/-! _law_right -/
abbrev s__law_right : Stmt := topS 33
theorem sc__law_right : FnScope [("pot" : Str), ("names" : Str), ("a" : Str), ("b" : Str), ("c" : Str)] [("pot" : Str)] (defScope s__law_right) := ⟨rfl, rfl, rfl, by decide +kernel, rfl, by decide +kernel, by decide +kernel⟩
noncomputable def b__law_right (c : Cs) : SF := (seqS (asgS (dcallF 2 (m__law_wide_names c) (consA (varF 0) (consA (conF (.int 26)) nilA))) (gNameF 1)) (seqS (asgS (dcallF 3 (m__law_some c) (consA (varF 0) (consA (lstF (consA (conF (.str "moon")) (consA (conF (.str "x")) (consA (conF (.str "net")) (consA (conF (.str "peg")) (consA (conF (.str "ring")) (consA (conF (.str "zzzzzz")) (consA (conF (.str "cord")) (consA (conF (.str "k")) nilA))))))))) (consA (conF (.int 3)) nilA)))) (gTupF 3 (gConsF (gNameF 2) (gConsF (gNameF 3) (gConsF (gNameF 4) gNilF))))) (retS (andF (dcallF 1 (m__law_are_counts_right c) (consA (varF 1) nilA)) (andF (dcallF 2 (m__law_are_numbers_right c) (consA (varF 2) (consA (varF 3) nilA))) (dcallF 3 (m__law_are_lines_right c) (consA (varF 2) (consA (varF 3) (consA (varF 4) nilA)))))))))
noncomputable def m__law_right (c : Cs) : Mir := runM 5 (b__law_right c)


/-! law -/
abbrev s_law : Stmt := topS 34
theorem sc_law : FnScope [("script" : Str)] [("script" : Str)] (defScope s_law) := ⟨rfl, rfl, rfl, by decide +kernel, rfl, by decide +kernel, by decide +kernel⟩
noncomputable def b_law (c : Cs) : SF := (retS (dcallF 1 (m__law_right c) (consA (dcallF 2 (m__law_pot c) (consA (varF 0) (consA (conF (.int 0)) nilA))) nilA)))
noncomputable def m_law (c : Cs) : Mir := runM 1 (b_law c)


structure Tx (P : Program) (w : World) (K : Frag) (mg : Str → Option Value) (base : Heap) (c : Cs) : Prop where
  b_len : mg "len" = none
  g_LONGEST_NAME : GlC K mg "LONGEST_NAME" (.int 6)
  g_LETTERS : GlC K mg "LETTERS" (.str "abcdefghijklmnopqrstuvwxyz")
  b_all : mg "all" = none
  f_is_name : ∃ f fd, Fun K "is_name" "is_name" s_is_name f fd ∧ mg "is_name" = some (.ref f) ∧ Binds K fd [("word" : Str)] []
  b_int : mg "int" = none
  b_str : mg "str" = none
  f_read_integer : ∃ f fd, Fun K "read_integer" "read_integer" s_read_integer f fd ∧ mg "read_integer" = some (.ref f) ∧ Binds K fd [("word" : Str)] []
  gcd : mg "gcd" = some (.builtin "math.gcd")
  f_read_fraction : ∃ f fd, Fun K "read_fraction" "read_fraction" s_read_fraction f fd ∧ mg "read_fraction" = some (.ref f) ∧ Binds K fd [("word" : Str)] []
  g_GREATEST_TOP : GlC K mg "GREATEST_TOP" (.int 1000)
  g_GREATEST_BOTTOM : GlC K mg "GREATEST_BOTTOM" (.int 60)
  f_fits : ∃ f fd, Fun K "fits" "fits" s_fits f fd ∧ mg "fits" = some (.ref f) ∧ Binds K fd [("fraction" : Str)] []
  b_tuple : mg "tuple" = none
  f_read_row : ∃ f fd, Fun K "read_row" "read_row" s_read_row f fd ∧ mg "read_row" = some (.ref f) ∧ Binds K fd [("words" : Str)] []
  cls_Draft : Cls K c.Draft
  na_Draft_coords : NoAttr K c.Draft "coords"
  na_Draft_pegs : NoAttr K c.Draft "pegs"
  na_Draft_rings : NoAttr K c.Draft "rings"
  na_Draft_cords : NoAttr K c.Draft "cords"
  na_Draft_places : NoAttr K c.Draft "places"
  na_Draft_weights : NoAttr K c.Draft "weights"
  f_DraftU_initU : ∃ f fd, Fun K "__init__" "Draft.__init__" s_DraftU_initU f fd ∧ L2.Mk K c.Draft f ∧ mg "Draft" = some (.ref c.Draft) ∧ Binds K fd [("self" : Str)] []
  f_Draft_take_head : ∃ f fd, Fun K "take_head" "Draft.take_head" s_Draft_take_head f fd ∧ Meth K c.Draft "take_head" f ∧ Binds K fd [("self" : Str), ("words" : Str)] []
  f_Draft_new_row : ∃ f fd, Fun K "new_row" "Draft.new_row" s_Draft_new_row f fd ∧ Meth K c.Draft "new_row" f ∧ Binds K fd [("self" : Str), ("words" : Str), ("many" : Str)] []
  f_Draft_can_tie : ∃ f fd, Fun K "can_tie" "Draft.can_tie" s_Draft_can_tie f fd ∧ Meth K c.Draft "can_tie" f ∧ Binds K fd [("self" : Str), ("one" : Str), ("other" : Str)] []
  b_sum : mg "sum" = none
  b_abs : mg "abs" = none
  f__law_pot : ∃ f fd, Fun K "_law_pot" "_law_pot" s__law_pot f fd ∧ mg "_law_pot" = some (.ref f) ∧ Binds K fd [("script" : Str), ("at" : Str)] []
  f__law_take : ∃ f fd, Fun K "_law_take" "_law_take" s__law_take f fd ∧ mg "_law_take" = some (.ref f) ∧ Binds K fd [("pot" : Str), ("upto" : Str)] []
  f__law_of : ∃ f fd, Fun K "_law_of" "_law_of" s__law_of f fd ∧ mg "_law_of" = some (.ref f) ∧ Binds K fd [("pot" : Str), ("some" : Str)] []
  b_list : mg "list" = none
  b_range : mg "range" = none
  f__law_some : ∃ f fd, Fun K "_law_some" "_law_some" s__law_some f fd ∧ mg "_law_some" = some (.ref f) ∧ Binds K fd [("pot" : Str), ("pool" : Str), ("many" : Str)] []
  f__law_wide_names : ∃ f fd, Fun K "_law_wide_names" "_law_wide_names" s__law_wide_names f fd ∧ mg "_law_wide_names" = some (.ref f) ∧ Binds K fd [("pot" : Str), ("many" : Str)] []
  g_MOST_PEGS : GlC K mg "MOST_PEGS" (.int 16)
  f_Draft_take_peg : ∃ f fd, Fun K "take_peg" "Draft.take_peg" s_Draft_take_peg f fd ∧ Meth K c.Draft "take_peg" f ∧ Binds K fd [("self" : Str), ("words" : Str)] []
  g_MOST_RINGS : GlC K mg "MOST_RINGS" (.int 8)
  f_Draft_take_ring : ∃ f fd, Fun K "take_ring" "Draft.take_ring" s_Draft_take_ring f fd ∧ Meth K c.Draft "take_ring" f ∧ Binds K fd [("self" : Str), ("words" : Str)] []
  g_MOST_CORDS : GlC K mg "MOST_CORDS" (.int 20)
  f_Draft_take_cord : ∃ f fd, Fun K "take_cord" "Draft.take_cord" s_Draft_take_cord f fd ∧ Meth K c.Draft "take_cord" f ∧ Binds K fd [("self" : Str), ("words" : Str)] []
  f_Draft_take : ∃ f fd, Fun K "take" "Draft.take" s_Draft_take f fd ∧ Meth K c.Draft "take" f ∧ Binds K fd [("self" : Str), ("line" : Str)] []
  b_isinstance : mg "isinstance" = none
  rai_BadNet : RaiC P w K mg base "BadNet" c.BadNet
  b_enumerate : mg "enumerate" = none
  f_read_draft : ∃ f fd, Fun K "read_draft" "read_draft" s_read_draft f fd ∧ mg "read_draft" = some (.ref f) ∧ Binds K fd [("text" : Str)] []
  cls_Net : Cls K c.Net
  na_Net_text : NoAttr K c.Net "text"
  na_Net_coords : NoAttr K c.Net "coords"
  na_Net_pegs : NoAttr K c.Net "pegs"
  na_Net_rings : NoAttr K c.Net "rings"
  na_Net_cords : NoAttr K c.Net "cords"
  na_Net__places : NoAttr K c.Net "_places"
  na_Net__weights : NoAttr K c.Net "_weights"
  f_NetU_initU : ∃ f fd, Fun K "__init__" "Net.__init__" s_NetU_initU f fd ∧ L2.Mk K c.Net f ∧ mg "Net" = some (.ref c.Net) ∧ Binds K fd [("self" : Str), ("text" : Str)] []
  f__law_heard : ∃ f fd, Fun K "_law_heard" "_law_heard" s__law_heard f fd ∧ mg "_law_heard" = some (.ref f) ∧ Binds K fd [("call" : Str)] []
  m_RestError : mg "RestError" = some (.ref c.RestError)
  cat_ex : ∀ C ∈ cats c, PySem.W.exmOne K (.ref C) (.ref c.RestError) = some true
  gc_BadNet : GlC K mg "BadNet" (.ref c.BadNet)
  isi_BadNet : TabK K (isiT_BadNet c)
  cat_x : ∀ C ∈ cats c, XnC K C
  b_repr : mg "repr" = none
  f__law_is_due : ∃ f fd, FunL K mg base "_law_is_due" "_law_is_due" s__law_is_due f fd c.k__law_is_due c.t__law_is_due ∧ mg "_law_is_due" = some (.ref f) ∧ Binds K fd [("lines" : Str), ("number" : Str)] []
  f__law_are_counts_right : ∃ f fd, Fun K "_law_are_counts_right" "_law_are_counts_right" s__law_are_counts_right f fd ∧ mg "_law_are_counts_right" = some (.ref f) ∧ Binds K fd [("names" : Str)] []
  f__law_are_numbers_right : ∃ f fd, Fun K "_law_are_numbers_right" "_law_are_numbers_right" s__law_are_numbers_right f fd ∧ mg "_law_are_numbers_right" = some (.ref f) ∧ Binds K fd [("a" : Str), ("b" : Str)] []
  f__law_are_lines_right : ∃ f fd, Fun K "_law_are_lines_right" "_law_are_lines_right" s__law_are_lines_right f fd ∧ mg "_law_are_lines_right" = some (.ref f) ∧ Binds K fd [("a" : Str), ("b" : Str), ("c" : Str)] []
  f__law_right : ∃ f fd, Fun K "_law_right" "_law_right" s__law_right f fd ∧ mg "_law_right" = some (.ref f) ∧ Binds K fd [("pot" : Str)] []
  f_law : ∃ f fd, Fun K "law" "law" s_law f fd ∧ mg "law" = some (.ref f) ∧ Binds K fd [("script" : Str)] []
theorem ok_is_name {P : Program} {w : World} {K : Frag} {mg : Str → Option Value} {base : Heap} {c : Cs} (T : Tx P w K mg base c) : Fn P w K mg base 2 "is_name" [("word" : Str)] (m_is_name c.toPc) := by
  obtain ⟨f, fd, F, hm, hb⟩ := T.f_is_name
  have nd := sc_is_name.nd
  refine ⟨f, fd, ?_, hm, F.kp, hb⟩
  refine fn_ok (k := 1) F sc_is_name fun cdv A outer s H E hr => ?_
  have tk := takes_of (X := cxOf (L2.CX P w) P w K mg base [("word" : Str), ("letter" : Str)] "is_name" (defScope s_is_name) f cdv A outer s H E) rfl rfl rfl rfl
  have px := passes_call (X := cxOf (L2.CX P w) P w K mg base [("word" : Str), ("letter" : Str)] "is_name" (defScope s_is_name) f cdv A outer s H E) tk (fun _ _ _ _ h => h)
  have po := passes_of (X := cxOf (L2.CX P w) P w K mg base [("word" : Str), ("letter" : Str)] "is_name" (defScope s_is_name) f cdv A outer s H E) rfl
  exact (pfs_one (pfs_ret (pf_and (pf_chainII op_le op_le pf_int (pf_len T.b_len (pfa_cons (pf_var 0) pfa_nil)) (pf_glob T.g_LONGEST_NAME)) (pf_one (pf_all rfl T.b_all (pfa_cons (pf_lc rfl nd (pfi_any (pf_var 0)) (blkOk_by (N := [("word" : Str), ("letter" : Str)]) (sc := defScope s_is_name) (own := [(("letter" : Str), 1)]) (by decide +kernel)) (by decide) (fun _ _ _ _ _ => (pfg_name 1 nd)) (fun _ _ _ _ _ => pfts_nil) (fun _ _ _ _ _ => (pf_in hr (pf_var 1) (pf_glob T.g_LETTERS)))) pfa_nil))))))

theorem ok_read_integer {P : Program} {w : World} {K : Frag} {mg : Str → Option Value} {base : Heap} {c : Cs} (T : Tx P w K mg base c) : Fn P w K mg base 2 "read_integer" [("word" : Str)] (m_read_integer c.toPc) := by
  obtain ⟨f, fd, F, hm, hb⟩ := T.f_read_integer
  have nd := sc_read_integer.nd
  refine ⟨f, fd, ?_, hm, F.kp, hb⟩
  refine fn_ok (k := 1) F sc_read_integer fun cdv A outer s H E hr => ?_
  have tk := takes_of (X := cxOf (L2.CX P w) P w K mg base [("word" : Str), ("figures" : Str), ("number" : Str)] "read_integer" (defScope s_read_integer) f cdv A outer s H E) rfl rfl rfl rfl
  have px := passes_call (X := cxOf (L2.CX P w) P w K mg base [("word" : Str), ("figures" : Str), ("number" : Str)] "read_integer" (defScope s_read_integer) f cdv A outer s H E) tk (fun _ _ _ _ h => h)
  have po := passes_of (X := cxOf (L2.CX P w) P w K mg base [("word" : Str), ("figures" : Str), ("number" : Str)] "read_integer" (defScope s_read_integer) f cdv A outer s H E) rfl
  exact (pfs_cons (pfs_asg (pf_if (pft_tru (pf_startswith (pf_var 0) (pfa_cons pf_str pfa_nil))) (pf_slice (pf_var 0) (pfo_some pf_int) pfo_none) (pf_var 0)) (pfg_name 1 nd))
    (pfs_cons (pfs_if (pfw_or (pft_not (pft_tru (pf_isascii (pf_var 1)))) (pfw_or1 (pft_not (pft_tru (pf_isdigit (pf_var 1)))))).pt (pfs_one (pfs_ret pf_non)) pfs_nil)
    (pfs_cons (pfs_asg (pf_intC T.b_int (pfa_cons (pf_var 0) pfa_nil)) (pfg_name 2 nd))
    (pfs_one (pfs_ret (pf_if (pft_eq hr (pf_strC T.b_str (pfa_cons (pf_var 2) pfa_nil)) (pf_var 0)) (pf_var 2) pf_non))))))

theorem ok_read_fraction {P : Program} {w : World} {K : Frag} {mg : Str → Option Value} {base : Heap} {c : Cs} (T : Tx P w K mg base c) (h_read_integer : Fn P w K mg base 2 "read_integer" [("word" : Str)] (m_read_integer c.toPc)) : Fn P w K mg base 3 "read_fraction" [("word" : Str)] (m_read_fraction c.toPc) := by
  obtain ⟨f, fd, F, hm, hb⟩ := T.f_read_fraction
  have nd := sc_read_fraction.nd
  refine ⟨f, fd, ?_, hm, F.kp, hb⟩
  refine fn_ok (k := 2) F sc_read_fraction fun cdv A outer s H E hr => ?_
  have tk := takes_of (X := cxOf (L2.CX P w) P w K mg base [("word" : Str), ("top" : Str), ("bottom" : Str), ("head" : Str), ("slash" : Str), ("tail" : Str)] "read_fraction" (defScope s_read_fraction) f cdv A outer s H E) rfl rfl rfl rfl
  have px := passes_call (X := cxOf (L2.CX P w) P w K mg base [("word" : Str), ("top" : Str), ("bottom" : Str), ("head" : Str), ("slash" : Str), ("tail" : Str)] "read_fraction" (defScope s_read_fraction) f cdv A outer s H E) tk (fun _ _ _ _ h => h)
  have po := passes_of (X := cxOf (L2.CX P w) P w K mg base [("word" : Str), ("top" : Str), ("bottom" : Str), ("head" : Str), ("slash" : Str), ("tail" : Str)] "read_fraction" (defScope s_read_fraction) f cdv A outer s H E) rfl
  exact (pfs_cons (pfs_asg (pf_partition (pf_var 0) (pfa_cons pf_str pfa_nil)) (pfg_tup rfl (pfgs_cons (pfg_name 3 nd) (pfgs_cons (pfg_name 4 nd) (pfgs_cons (pfg_name 5 nd) pfgs_nil)))))
    (pfs_cons (pfs_asg (pf_call h_read_integer hr (by decide) px (pfa_cons (pf_var 3) pfa_nil)) (pfg_name 1 nd))
    (pfs_cons (pfs_if (pfw_or (pft_isN (pf_var 1)) (pfw_or1 (pft_eq hr (pf_var 4) pf_str))).pt (pfs_one (pfs_ret (pf_if (pft_isN (pf_var 1)) pf_non (pf_tup (pfa_cons (pf_var 1) (pfa_cons pf_int pfa_nil)))))) pfs_nil)
    (pfs_cons (pfs_asg (pf_call h_read_integer hr (by decide) px (pfa_cons (pf_var 5) pfa_nil)) (pfg_name 2 nd))
    (pfs_cons (pfs_if (pfw_or (pft_isN (pf_var 2)) (pfw_or (pft_lt (pf_var 2) pf_int) (pfw_or1 (pft_ne hr (pf_gcd T.gcd (pfa_cons (pf_var 1) (pfa_cons (pf_var 2) pfa_nil))) pf_int)))).pt (pfs_one (pfs_ret pf_non)) pfs_nil)
    (pfs_one (pfs_ret (pf_tup (pfa_cons (pf_var 1) (pfa_cons (pf_var 2) pfa_nil))))))))))

theorem ok_fits {P : Program} {w : World} {K : Frag} {mg : Str → Option Value} {base : Heap} {c : Cs} (T : Tx P w K mg base c) : Fn P w K mg base 2 "fits" [("fraction" : Str)] (m_fits c.toPc) := by
  obtain ⟨f, fd, F, hm, hb⟩ := T.f_fits
  have nd := sc_fits.nd
  refine ⟨f, fd, ?_, hm, F.kp, hb⟩
  refine fn_ok (k := 1) F sc_fits fun cdv A outer s H E hr => ?_
  have tk := takes_of (X := cxOf (L2.CX P w) P w K mg base [("fraction" : Str), ("top" : Str), ("bottom" : Str)] "fits" (defScope s_fits) f cdv A outer s H E) rfl rfl rfl rfl
  have px := passes_call (X := cxOf (L2.CX P w) P w K mg base [("fraction" : Str), ("top" : Str), ("bottom" : Str)] "fits" (defScope s_fits) f cdv A outer s H E) tk (fun _ _ _ _ h => h)
  have po := passes_of (X := cxOf (L2.CX P w) P w K mg base [("fraction" : Str), ("top" : Str), ("bottom" : Str)] "fits" (defScope s_fits) f cdv A outer s H E) rfl
  exact (pfs_cons (pfs_asg (pf_var 0) (pfg_tup rfl (pfgs_cons (pfg_name 1 nd) (pfgs_cons (pfg_name 2 nd) pfgs_nil))))
    (pfs_one (pfs_ret (pf_and (pf_chainII op_le op_le (pf_neg (pf_glob T.g_GREATEST_TOP)) (pf_var 1) (pf_glob T.g_GREATEST_TOP)) (pf_one (pf_le (pf_var 2) (pf_glob T.g_GREATEST_BOTTOM)))))))

theorem ok_read_row {P : Program} {w : World} {K : Frag} {mg : Str → Option Value} {base : Heap} {c : Cs} (T : Tx P w K mg base c) (h_fits : Fn P w K mg base 2 "fits" [("fraction" : Str)] (m_fits c.toPc)) (h_read_fraction : Fn P w K mg base 3 "read_fraction" [("word" : Str)] (m_read_fraction c.toPc)) : Fn P w K mg base 4 "read_row" [("words" : Str)] (m_read_row c.toPc) := by
  obtain ⟨f, fd, F, hm, hb⟩ := T.f_read_row
  have nd := sc_read_row.nd
  refine ⟨f, fd, ?_, hm, F.kp, hb⟩
  refine fn_ok (k := 3) F sc_read_row fun cdv A outer s H E hr => ?_
  have tk := takes_of (X := cxOf (L2.CX P w) P w K mg base [("words" : Str), ("row" : Str), ("word" : Str), ("part" : Str)] "read_row" (defScope s_read_row) f cdv A outer s H E) rfl rfl rfl rfl
  have px := passes_call (X := cxOf (L2.CX P w) P w K mg base [("words" : Str), ("row" : Str), ("word" : Str), ("part" : Str)] "read_row" (defScope s_read_row) f cdv A outer s H E) tk (fun _ _ _ _ h => h)
  have po := passes_of (X := cxOf (L2.CX P w) P w K mg base [("words" : Str), ("row" : Str), ("word" : Str), ("part" : Str)] "read_row" (defScope s_read_row) f cdv A outer s H E) rfl
  exact (pfs_cons (pfs_setLc (i := 1) rfl nd rfl rfl (sw_true rfl rfl rfl (by decide +kernel)) (pfi_any (pf_var 0)) (blkOk_by (N := [("words" : Str), ("row" : Str), ("word" : Str), ("part" : Str)]) (sc := defScope s_read_row) (own := [(("word" : Str), 2)]) (by decide +kernel)) (by decide) (fun _ _ _ _ _ => (pfg_name 2 nd)) (fun _ _ _ _ _ => pfts_nil) (fun _ _ _ _ _ => (pf_call h_read_fraction hr (by decide) passL (pfa_cons (pf_var 2) pfa_nil))))
    (pfs_cons (pfs_if (pft_not (pft_tru (pf_all rfl T.b_all (pfa_cons (pf_lc rfl nd (pfi_any (pf_var 1)) (blkOk_by (N := [("words" : Str), ("row" : Str), ("word" : Str), ("part" : Str)]) (sc := defScope s_read_row) (own := [(("part" : Str), 3)]) (by decide +kernel)) (by decide) (fun _ _ _ _ _ => (pfg_name 3 nd)) (fun _ _ _ _ _ => pfts_nil) (fun _ _ _ _ _ => (pf_and (pf_notN (pf_var 3)) (pf_one (pf_call h_fits hr (by decide) passL (pfa_cons (pf_var 3) pfa_nil)))))) pfa_nil)))) (pfs_one (pfs_ret pf_non)) pfs_nil)
    (pfs_one (pfs_ret (pf_tupleC T.b_tuple (pfa_cons (pf_var 1) pfa_nil))))))

theorem ok_DraftU_initU {P : Program} {w : World} {K : Frag} {mg : Str → Option Value} {base : Heap} {c : Cs} (T : Tx P w K mg base c) : Mkr P w K mg base 2 c.Draft "Draft" [("self" : Str)] (m_DraftU_initU c.toPc) := by
  obtain ⟨f, fd, F, hM, hm, hb⟩ := T.f_DraftU_initU
  have nd := sc_DraftU_initU.nd
  refine ⟨f, fd, ?_, hM, hm, hb⟩
  refine fn_ok (k := 1) F sc_DraftU_initU fun cdv A outer s H E hr => ?_
  have tk := takes_of (X := cxOf (L2.CX P w) P w K mg base [("self" : Str)] "Draft.__init__" (defScope s_DraftU_initU) f cdv A outer s H E) rfl rfl rfl rfl
  have px := passes_call (X := cxOf (L2.CX P w) P w K mg base [("self" : Str)] "Draft.__init__" (defScope s_DraftU_initU) f cdv A outer s H E) tk (fun _ _ _ _ h => h)
  have po := passes_of (X := cxOf (L2.CX P w) P w K mg base [("self" : Str)] "Draft.__init__" (defScope s_DraftU_initU) f cdv A outer s H E) rfl
  exact (pfs_cons (pfs_fld T.cls_Draft T.na_Draft_coords (pf_var 0) pf_int)
    (pfs_cons (pfs_fld T.cls_Draft T.na_Draft_pegs (pf_var 0) (pf_lst pfa_nil))
    (pfs_cons (pfs_fld T.cls_Draft T.na_Draft_rings (pf_var 0) (pf_lst pfa_nil))
    (pfs_cons (pfs_fld T.cls_Draft T.na_Draft_cords (pf_var 0) (pf_lst pfa_nil))
    (pfs_cons (pfs_fld T.cls_Draft T.na_Draft_places (pf_var 0) pf_dct0)
    (pfs_one (pfs_fld T.cls_Draft T.na_Draft_weights (pf_var 0) pf_dct0)))))))

theorem ok_Draft_take_head {P : Program} {w : World} {K : Frag} {mg : Str → Option Value} {base : Heap} {c : Cs} (T : Tx P w K mg base c) : Mth P w K mg base 2 c.Draft "take_head" [("self" : Str), ("words" : Str)] (m_Draft_take_head c.toPc) := by
  obtain ⟨f, fd, F, hm, hb⟩ := T.f_Draft_take_head
  have nd := sc_Draft_take_head.nd
  refine ⟨f, fd, ?_, hm, hb⟩
  refine fn_ok (k := 1) F sc_Draft_take_head fun cdv A outer s H E hr => ?_
  have tk := takes_of (X := cxOf (L2.CX P w) P w K mg base [("self" : Str), ("words" : Str)] "Draft.take_head" (defScope s_Draft_take_head) f cdv A outer s H E) rfl rfl rfl rfl
  have px := passes_call (X := cxOf (L2.CX P w) P w K mg base [("self" : Str), ("words" : Str)] "Draft.take_head" (defScope s_Draft_take_head) f cdv A outer s H E) tk (fun _ _ _ _ h => h)
  have po := passes_of (X := cxOf (L2.CX P w) P w K mg base [("self" : Str), ("words" : Str)] "Draft.take_head" (defScope s_Draft_take_head) f cdv A outer s H E) rfl
  exact (pfs_cons (pfs_if (pfw_or (pft_ne hr (pf_len T.b_len (pfa_cons (pf_var 1) pfa_nil)) pf_int) (pfw_or (pft_ne hr (pf_ix (pf_var 1) pf_int) pf_str) (pfw_or1 (pft_notIn hr (pf_ix (pf_var 1) pf_int) (pf_tup (pfa_cons pf_str (pfa_cons pf_str (pfa_cons pf_str pfa_nil)))))))).pt (pfs_one (pfs_ret pf_bl)) pfs_nil)
    (pfs_cons (pfs_fld T.cls_Draft T.na_Draft_coords (pf_var 0) (pf_intC T.b_int (pfa_cons (pf_ix (pf_var 1) pf_int) pfa_nil)))
    (pfs_one (pfs_ret pf_bl))))

theorem ok_Draft_new_row {P : Program} {w : World} {K : Frag} {mg : Str → Option Value} {base : Heap} {c : Cs} (T : Tx P w K mg base c) (h_is_name : Fn P w K mg base 2 "is_name" [("word" : Str)] (m_is_name c.toPc)) (h_read_row : Fn P w K mg base 4 "read_row" [("words" : Str)] (m_read_row c.toPc)) : Mth P w K mg base 5 c.Draft "new_row" [("self" : Str), ("words" : Str), ("many" : Str)] (m_Draft_new_row c.toPc) := by
  obtain ⟨f, fd, F, hm, hb⟩ := T.f_Draft_new_row
  have nd := sc_Draft_new_row.nd
  refine ⟨f, fd, ?_, hm, hb⟩
  refine fn_ok (k := 4) F sc_Draft_new_row fun cdv A outer s H E hr => ?_
  have tk := takes_of (X := cxOf (L2.CX P w) P w K mg base [("self" : Str), ("words" : Str), ("many" : Str)] "Draft.new_row" (defScope s_Draft_new_row) f cdv A outer s H E) rfl rfl rfl rfl
  have px := passes_call (X := cxOf (L2.CX P w) P w K mg base [("self" : Str), ("words" : Str), ("many" : Str)] "Draft.new_row" (defScope s_Draft_new_row) f cdv A outer s H E) tk (fun _ _ _ _ h => h)
  have po := passes_of (X := cxOf (L2.CX P w) P w K mg base [("self" : Str), ("words" : Str), ("many" : Str)] "Draft.new_row" (defScope s_Draft_new_row) f cdv A outer s H E) rfl
  exact (pfs_cons (pfs_if (pfw_or (pft_ne hr (pf_len T.b_len (pfa_cons (pf_var 1) pfa_nil)) (pf_add pf_int (pf_var 2))) (pfw_or (pft_not (pft_tru (pf_call h_is_name hr (by decide) px (pfa_cons (pf_ix (pf_var 1) pf_int) pfa_nil)))) (pfw_or1 (pft_in hr (pf_ix (pf_var 1) pf_int) (pf_fld T.cls_Draft T.na_Draft_places (pf_var 0)))))).pt (pfs_one (pfs_ret pf_non)) pfs_nil)
    (pfs_one (pfs_ret (pf_call h_read_row hr (by decide) px (pfa_cons (pf_slice (pf_var 1) (pfo_some pf_int) pfo_none) pfa_nil)))))

theorem ok_Draft_can_tie {P : Program} {w : World} {K : Frag} {mg : Str → Option Value} {base : Heap} {c : Cs} (T : Tx P w K mg base c) : Mth P w K mg base 2 c.Draft "can_tie" [("self" : Str), ("one" : Str), ("other" : Str)] (m_Draft_can_tie c.toPc) := by
  obtain ⟨f, fd, F, hm, hb⟩ := T.f_Draft_can_tie
  have nd := sc_Draft_can_tie.nd
  refine ⟨f, fd, ?_, hm, hb⟩
  refine fn_ok (k := 1) F sc_Draft_can_tie fun cdv A outer s H E hr => ?_
  have tk := takes_of (X := cxOf (L2.CX P w) P w K mg base [("self" : Str), ("one" : Str), ("other" : Str)] "Draft.can_tie" (defScope s_Draft_can_tie) f cdv A outer s H E) rfl rfl rfl rfl
  have px := passes_call (X := cxOf (L2.CX P w) P w K mg base [("self" : Str), ("one" : Str), ("other" : Str)] "Draft.can_tie" (defScope s_Draft_can_tie) f cdv A outer s H E) tk (fun _ _ _ _ h => h)
  have po := passes_of (X := cxOf (L2.CX P w) P w K mg base [("self" : Str), ("one" : Str), ("other" : Str)] "Draft.can_tie" (defScope s_Draft_can_tie) f cdv A outer s H E) rfl
  exact (pfs_cons (pfs_if (pfw_or (pft_notIn hr (pf_var 1) (pf_fld T.cls_Draft T.na_Draft_places (pf_var 0))) (pfw_or (pft_notIn hr (pf_var 2) (pf_fld T.cls_Draft T.na_Draft_places (pf_var 0))) (pfw_or1 (pft_eq hr (pf_dget hr (pf_fld T.cls_Draft T.na_Draft_places (pf_var 0)) (pf_var 1)) (pf_dget hr (pf_fld T.cls_Draft T.na_Draft_places (pf_var 0)) (pf_var 2)))))).pt (pfs_one (pfs_ret pf_bl)) pfs_nil)
    (pfs_cons (pfs_if (pfw_and (pft_notIn hr (pf_var 1) (pf_fld T.cls_Draft T.na_Draft_weights (pf_var 0))) (pfw_and1 (pft_notIn hr (pf_var 2) (pf_fld T.cls_Draft T.na_Draft_weights (pf_var 0))))).pt (pfs_one (pfs_ret pf_bl)) pfs_nil)
    (pfs_one (pfs_ret (pf_and (pf_notIn hr (pf_tup (pfa_cons (pf_var 1) (pfa_cons (pf_var 2) pfa_nil))) (pf_fld T.cls_Draft T.na_Draft_cords (pf_var 0))) (pf_one (pf_notIn hr (pf_tup (pfa_cons (pf_var 2) (pfa_cons (pf_var 1) pfa_nil))) (pf_fld T.cls_Draft T.na_Draft_cords (pf_var 0)))))))))

theorem ok__law_pot {P : Program} {w : World} {K : Frag} {mg : Str → Option Value} {base : Heap} {c : Cs} (T : Tx P w K mg base c) : Fn P w K mg base 2 "_law_pot" [("script" : Str), ("at" : Str)] (m__law_pot c) := by
  obtain ⟨f, fd, F, hm, hb⟩ := T.f__law_pot
  have nd := sc__law_pot.nd
  refine ⟨f, fd, ?_, hm, F.kp, hb⟩
  refine fn_ok (k := 1) F sc__law_pot fun cdv A outer s H E hr => ?_
  have tk := takes_of (X := cxOf (L2.CX P w) P w K mg base [("script" : Str), ("at" : Str), ("cell" : Str), ("own" : Str), ("small" : Str)] "_law_pot" (defScope s__law_pot) f cdv A outer s H E) rfl rfl rfl rfl
  have px := passes_call (X := cxOf (L2.CX P w) P w K mg base [("script" : Str), ("at" : Str), ("cell" : Str), ("own" : Str), ("small" : Str)] "_law_pot" (defScope s__law_pot) f cdv A outer s H E) tk (fun _ _ _ _ h => h)
  have po := passes_of (X := cxOf (L2.CX P w) P w K mg base [("script" : Str), ("at" : Str), ("cell" : Str), ("own" : Str), ("small" : Str)] "_law_pot" (defScope s__law_pot) f cdv A outer s H E) rfl
  exact (pfs_cons (pfs_asg (pf_if (pft_lt (pf_var 1) (pf_len T.b_len (pfa_cons (pf_var 0) pfa_nil))) (pf_ix (pf_var 0) (pf_var 1)) (pf_add (pf_add (pf_mod (pf_sum rfl T.b_sum (pfa_cons (pf_slice (pf_var 0) pfo_none (pfo_some pf_int)) pfa_nil)) pf_int) (pf_mul pf_int (pf_var 1))) pf_int)) (pfg_name 2 nd))
    (pfs_cons (pfs_asg (pf_mul (pf_mod (pf_intC T.b_int (pfa_cons (pf_abs T.b_abs (pfa_cons (pf_var 2) pfa_nil)) pfa_nil)) (pf_pow (pf_pow pf_int pf_int) pf_int)) (pf_intC T.b_int (pfa_cons (pf_ge (pf_abs T.b_abs (pfa_cons (pf_var 2) pfa_nil)) (pf_pow pf_int pf_int)) pfa_nil))) (pfg_name 3 nd))
    (pfs_cons (pfs_asg (pf_mod (pf_intC T.b_int (pfa_cons (pf_var 2) pfa_nil)) pf_int) (pfg_name 4 nd))
    (pfs_one (pfs_ret (pf_lst (pfa_cons (pf_var 3) (pfa_cons (pf_mod (pf_intC T.b_int (pfa_cons (pf_add (pf_add (pf_mul (pf_var 4) pf_int) (pf_mul (pf_mul pf_int (pf_var 1)) (pf_var 1))) pf_int) pfa_nil)) pf_int) (pfa_cons pf_int pfa_nil)))))))))

theorem ok__law_take {P : Program} {w : World} {K : Frag} {mg : Str → Option Value} {base : Heap} {c : Cs} (T : Tx P w K mg base c) : Fn P w K mg base 2 "_law_take" [("pot" : Str), ("upto" : Str)] (m__law_take c) := by
  obtain ⟨f, fd, F, hm, hb⟩ := T.f__law_take
  have nd := sc__law_take.nd
  refine ⟨f, fd, ?_, hm, F.kp, hb⟩
  refine fn_ok (k := 1) F sc__law_take fun cdv A outer s H E hr => ?_
  have tk := takes_of (X := cxOf (L2.CX P w) P w K mg base [("pot" : Str), ("upto" : Str), ("prime" : Str), ("blend" : Str), ("digit" : Str)] "_law_take" (defScope s__law_take) f cdv A outer s H E) rfl rfl rfl rfl
  have px := passes_call (X := cxOf (L2.CX P w) P w K mg base [("pot" : Str), ("upto" : Str), ("prime" : Str), ("blend" : Str), ("digit" : Str)] "_law_take" (defScope s__law_take) f cdv A outer s H E) tk (fun _ _ _ _ h => h)
  have po := passes_of (X := cxOf (L2.CX P w) P w K mg base [("pot" : Str), ("upto" : Str), ("prime" : Str), ("blend" : Str), ("digit" : Str)] "_law_take" (defScope s__law_take) f cdv A outer s H E) rfl
  exact (pfs_cons (pfs_if (pft_gt (pf_ix (pf_var 0) pf_int) pf_int) (pfs_cons (pfs_asg (pf_mod (pf_intC T.b_int (pfa_cons (pf_ix (pf_var 0) pf_int) pfa_nil)) (pf_var 1)) (pfg_name 4 nd))
    (pfs_cons (pfs_asg (pf_fdiv (pf_ix (pf_var 0) pf_int) (pf_var 1)) (pfg_sub hr (pf_var 0) pf_int))
    (pfs_one (pfs_ret (pf_var 4))))) pfs_nil)
    (pfs_cons (pfs_asg (pf_add (pf_ix (pf_var 0) pf_int) pf_int) (pfg_sub hr (pf_var 0) pf_int))
    (pfs_cons (pfs_asg (pf_ix (pf_lst (pfa_cons pf_int (pfa_cons pf_int (pfa_cons pf_int (pfa_cons pf_int (pfa_cons pf_int pfa_nil)))))) (pf_mod (pf_intC T.b_int (pfa_cons (pf_ix (pf_var 0) pf_int) pfa_nil)) pf_int)) (pfg_name 2 nd))
    (pfs_cons (pfs_asg (pf_mod (pf_intC T.b_int (pfa_cons (pf_pow (pf_intC T.b_int (pfa_cons (pf_add (pf_add (pf_ix (pf_var 0) pf_int) (pf_mul (pf_mul pf_int (pf_ix (pf_var 0) pf_int)) (pf_ix (pf_var 0) pf_int))) pf_int) pfa_nil)) pf_int) pfa_nil)) (pf_var 2)) (pfg_name 3 nd))
    (pfs_cons (pfs_asg (pf_mod (pf_intC T.b_int (pfa_cons (pf_mul (pf_var 3) (pf_add (pf_mod (pf_intC T.b_int (pfa_cons (pf_var 3) pfa_nil)) pf_int) (pf_mul pf_int (pf_ix (pf_var 0) pf_int)))) pfa_nil)) pf_int) (pfg_name 3 nd))
    (pfs_one (pfs_ret (pf_mod (pf_intC T.b_int (pfa_cons (pf_fdiv (pf_var 3) pf_int) pfa_nil)) (pf_var 1)))))))))

theorem ok__law_of {P : Program} {w : World} {K : Frag} {mg : Str → Option Value} {base : Heap} {c : Cs} (T : Tx P w K mg base c) (h__law_take : Fn P w K mg base 2 "_law_take" [("pot" : Str), ("upto" : Str)] (m__law_take c)) : Fn P w K mg base 3 "_law_of" [("pot" : Str), ("some" : Str)] (m__law_of c) := by
  obtain ⟨f, fd, F, hm, hb⟩ := T.f__law_of
  have nd := sc__law_of.nd
  refine ⟨f, fd, ?_, hm, F.kp, hb⟩
  refine fn_ok (k := 2) F sc__law_of fun cdv A outer s H E hr => ?_
  have tk := takes_of (X := cxOf (L2.CX P w) P w K mg base [("pot" : Str), ("some" : Str)] "_law_of" (defScope s__law_of) f cdv A outer s H E) rfl rfl rfl rfl
  have px := passes_call (X := cxOf (L2.CX P w) P w K mg base [("pot" : Str), ("some" : Str)] "_law_of" (defScope s__law_of) f cdv A outer s H E) tk (fun _ _ _ _ h => h)
  have po := passes_of (X := cxOf (L2.CX P w) P w K mg base [("pot" : Str), ("some" : Str)] "_law_of" (defScope s__law_of) f cdv A outer s H E) rfl
  exact (pfs_one (pfs_ret (pf_ix (pf_var 1) (pf_call h__law_take hr (by decide) px (pfa_cons (pf_var 0) (pfa_cons (pf_len T.b_len (pfa_cons (pf_var 1) pfa_nil)) pfa_nil))))))

theorem ok__law_some {P : Program} {w : World} {K : Frag} {mg : Str → Option Value} {base : Heap} {c : Cs} (T : Tx P w K mg base c) (h__law_take : Fn P w K mg base 2 "_law_take" [("pot" : Str), ("upto" : Str)] (m__law_take c)) : Fn P w K mg base 3 "_law_some" [("pot" : Str), ("pool" : Str), ("many" : Str)] (m__law_some c) := by
  obtain ⟨f, fd, F, hm, hb⟩ := T.f__law_some
  have nd := sc__law_some.nd
  refine ⟨f, fd, ?_, hm, F.kp, hb⟩
  refine fn_ok (k := 2) F sc__law_some fun cdv A outer s H E hr => ?_
  have tk := takes_of (X := cxOf (L2.CX P w) P w K mg base [("pot" : Str), ("pool" : Str), ("many" : Str), ("lap" : Str), ("rests" : Str), ("found" : Str)] "_law_some" (defScope s__law_some) f cdv A outer s H E) rfl rfl rfl rfl
  have px := passes_call (X := cxOf (L2.CX P w) P w K mg base [("pot" : Str), ("pool" : Str), ("many" : Str), ("lap" : Str), ("rests" : Str), ("found" : Str)] "_law_some" (defScope s__law_some) f cdv A outer s H E) tk (fun _ _ _ _ h => h)
  have po := passes_of (X := cxOf (L2.CX P w) P w K mg base [("pot" : Str), ("pool" : Str), ("many" : Str), ("lap" : Str), ("rests" : Str), ("found" : Str)] "_law_some" (defScope s__law_some) f cdv A outer s H E) rfl
  exact (pfs_cons (pfs_par (i := 4) (j := 5) rfl nd (pfa_cons (pf_listC T.b_list (pfa_cons (pf_var 1) pfa_nil)) (pfa_cons (pf_lst pfa_nil) pfa_nil)))
    (pfs_cons (pfs_for po rfl (pfi_rng1 T.b_range (pfa_cons (pf_var 2) pfa_nil)) (pfg_name 3 nd) (pfs_one (pfs_expr (pf_append (pf_var 5) (pfa_cons (pf_popAt (pf_var 4) (pfa_cons (pf_call h__law_take hr (by decide) px (pfa_cons (pf_var 0) (pfa_cons (pf_len T.b_len (pfa_cons (pf_var 4) pfa_nil)) pfa_nil))) pfa_nil)) pfa_nil)))))
    (pfs_one (pfs_ret (pf_var 5)))))


theorem ok__law_wide_names {P : Program} {w : World} {K : Frag} {mg : Str → Option Value} {base : Heap} {c : Cs} (T : Tx P w K mg base c) (h__law_of : Fn P w K mg base 3 "_law_of" [("pot" : Str), ("some" : Str)] (m__law_of c)) (h__law_some : Fn P w K mg base 3 "_law_some" [("pot" : Str), ("pool" : Str), ("many" : Str)] (m__law_some c)) (h__law_take : Fn P w K mg base 2 "_law_take" [("pot" : Str), ("upto" : Str)] (m__law_take c)) : Fn P w K mg base 4 "_law_wide_names" [("pot" : Str), ("many" : Str)] (m__law_wide_names c) := by
  obtain ⟨f, fd, F, hm, hb⟩ := T.f__law_wide_names
  have nd := sc__law_wide_names.nd
  refine ⟨f, fd, ?_, hm, F.kp, hb⟩
  refine fn_ok (k := 3) F sc__law_wide_names fun cdv A outer s H E hr => ?_
  have tk := takes_of (X := cxOf (L2.CX P w) P w K mg base [("pot" : Str), ("many" : Str), ("at" : Str), ("signs" : Str), ("found" : Str), ("lap" : Str)] "_law_wide_names" (defScope s__law_wide_names) f cdv A outer s H E) rfl rfl rfl rfl
  have px := passes_call (X := cxOf (L2.CX P w) P w K mg base [("pot" : Str), ("many" : Str), ("at" : Str), ("signs" : Str), ("found" : Str), ("lap" : Str)] "_law_wide_names" (defScope s__law_wide_names) f cdv A outer s H E) tk (fun _ _ _ _ h => h)
  have po := passes_of (X := cxOf (L2.CX P w) P w K mg base [("pot" : Str), ("many" : Str), ("at" : Str), ("signs" : Str), ("found" : Str), ("lap" : Str)] "_law_wide_names" (defScope s__law_wide_names) f cdv A outer s H E) rfl
  exact (pfs_cons (pfs_asg (pf_tup (pfa_cons pf_str (pfa_cons (pf_lst pfa_nil) pfa_nil))) (pfg_tup rfl (pfgs_cons (pfg_name 3 nd) (pfgs_cons (pfg_name 4 nd) pfgs_nil))))
    (pfs_cons (pfs_for po rfl (pfi_any (pf_call h__law_some hr (by decide) px (pfa_cons (pf_var 0) (pfa_cons (pf_listRng1 T.b_list T.b_range pf_int) (pfa_cons (pf_var 1) pfa_nil))))) (pfg_name 2 nd) (pfs_one (pfs_expr (pf_append (pf_var 4) (pfa_cons (pf_add (pf_ix (pf_var 3) (pf_var 2)) (pf_join pf_str (pfa_cons (pf_lc rfl nd (pfi_rng1 T.b_range (pfa_cons (pf_call h__law_take hr (by decide) px (pfa_cons (pf_var 0) (pfa_cons pf_int pfa_nil))) pfa_nil)) (blkOk_by (N := [("pot" : Str), ("many" : Str), ("at" : Str), ("signs" : Str), ("found" : Str), ("lap" : Str)]) (sc := defScope s__law_wide_names) (own := [(("lap" : Str), 5)]) (by decide +kernel)) (by decide) (fun _ _ _ _ _ => (pfg_name 5 nd)) (fun _ _ _ _ _ => pfts_nil) (fun _ _ _ _ _ => (pf_call h__law_of hr (by decide) passL (pfa_cons (pf_var 0) (pfa_cons (pf_var 3) pfa_nil))))) pfa_nil))) pfa_nil)))))
    (pfs_one (pfs_ret (pf_var 4)))))

theorem ok_Draft_take_peg {P : Program} {w : World} {K : Frag} {mg : Str → Option Value} {base : Heap} {c : Cs} (T : Tx P w K mg base c) (h_Draft_new_row : Mth P w K mg base 5 c.Draft "new_row" [("self" : Str), ("words" : Str), ("many" : Str)] (m_Draft_new_row c.toPc)) : Mth P w K mg base 6 c.Draft "take_peg" [("self" : Str), ("words" : Str)] (m_Draft_take_peg c.toPc) := by
  obtain ⟨f, fd, F, hm, hb⟩ := T.f_Draft_take_peg
  have nd := sc_Draft_take_peg.nd
  refine ⟨f, fd, ?_, hm, hb⟩
  refine fn_ok (k := 5) F sc_Draft_take_peg fun cdv A outer s H E hr => ?_
  have tk := takes_of (X := cxOf (L2.CX P w) P w K mg base [("self" : Str), ("words" : Str), ("row" : Str)] "Draft.take_peg" (defScope s_Draft_take_peg) f cdv A outer s H E) rfl rfl rfl rfl
  have px := passes_call (X := cxOf (L2.CX P w) P w K mg base [("self" : Str), ("words" : Str), ("row" : Str)] "Draft.take_peg" (defScope s_Draft_take_peg) f cdv A outer s H E) tk (fun _ _ _ _ h => h)
  have po := passes_of (X := cxOf (L2.CX P w) P w K mg base [("self" : Str), ("words" : Str), ("row" : Str)] "Draft.take_peg" (defScope s_Draft_take_peg) f cdv A outer s H E) rfl
  exact (pfs_cons (pfs_if (pfw_or (pft_tru (pf_fld T.cls_Draft T.na_Draft_rings (pf_var 0))) (pfw_or (pft_tru (pf_fld T.cls_Draft T.na_Draft_cords (pf_var 0))) (pfw_or1 (pft_ge (pf_len T.b_len (pfa_cons (pf_fld T.cls_Draft T.na_Draft_pegs (pf_var 0)) pfa_nil)) (pf_glob T.g_MOST_PEGS))))).pt (pfs_one (pfs_ret pf_bl)) pfs_nil)
    (pfs_cons (pfs_asg (pf_mcall T.cls_Draft h_Draft_new_row hr (by decide) px (pf_var 0) (pfa_cons (pf_var 1) (pfa_cons (pf_fld T.cls_Draft T.na_Draft_coords (pf_var 0)) pfa_nil)) (fun hm F hb => pe_meth (pf_var 0) T.cls_Draft hm F (hr.mono (by decide)) hb .nil px (pfa_cons (pf_var 1) (pfa_cons (pf_fld T.cls_Draft T.na_Draft_coords (pf_var 0)) pfa_nil)))) (pfg_name 2 nd))
    (pfs_cons (pfs_if (pft_isN (pf_var 2)) (pfs_one (pfs_ret pf_bl)) pfs_nil)
    (pfs_cons (pfs_expr (pf_append (pf_fld T.cls_Draft T.na_Draft_pegs (pf_var 0)) (pfa_cons (pf_ix (pf_var 1) pf_int) pfa_nil)))
    (pfs_cons (pfs_asg (pf_var 2) (pfg_sub hr (pf_fld T.cls_Draft T.na_Draft_places (pf_var 0)) (pf_ix (pf_var 1) pf_int)))
    (pfs_one (pfs_ret pf_bl)))))))

theorem ok_Draft_take_ring {P : Program} {w : World} {K : Frag} {mg : Str → Option Value} {base : Heap} {c : Cs} (T : Tx P w K mg base c) (h_Draft_new_row : Mth P w K mg base 5 c.Draft "new_row" [("self" : Str), ("words" : Str), ("many" : Str)] (m_Draft_new_row c.toPc)) : Mth P w K mg base 6 c.Draft "take_ring" [("self" : Str), ("words" : Str)] (m_Draft_take_ring c.toPc) := by
  obtain ⟨f, fd, F, hm, hb⟩ := T.f_Draft_take_ring
  have nd := sc_Draft_take_ring.nd
  refine ⟨f, fd, ?_, hm, hb⟩
  refine fn_ok (k := 5) F sc_Draft_take_ring fun cdv A outer s H E hr => ?_
  have tk := takes_of (X := cxOf (L2.CX P w) P w K mg base [("self" : Str), ("words" : Str), ("row" : Str)] "Draft.take_ring" (defScope s_Draft_take_ring) f cdv A outer s H E) rfl rfl rfl rfl
  have px := passes_call (X := cxOf (L2.CX P w) P w K mg base [("self" : Str), ("words" : Str), ("row" : Str)] "Draft.take_ring" (defScope s_Draft_take_ring) f cdv A outer s H E) tk (fun _ _ _ _ h => h)
  have po := passes_of (X := cxOf (L2.CX P w) P w K mg base [("self" : Str), ("words" : Str), ("row" : Str)] "Draft.take_ring" (defScope s_Draft_take_ring) f cdv A outer s H E) rfl
  exact (pfs_cons (pfs_if (pfw_or (pft_not (pft_tru (pf_fld T.cls_Draft T.na_Draft_pegs (pf_var 0)))) (pfw_or (pft_tru (pf_fld T.cls_Draft T.na_Draft_cords (pf_var 0))) (pfw_or1 (pft_ge (pf_len T.b_len (pfa_cons (pf_fld T.cls_Draft T.na_Draft_rings (pf_var 0)) pfa_nil)) (pf_glob T.g_MOST_RINGS))))).pt (pfs_one (pfs_ret pf_bl)) pfs_nil)
    (pfs_cons (pfs_asg (pf_mcall T.cls_Draft h_Draft_new_row hr (by decide) px (pf_var 0) (pfa_cons (pf_var 1) (pfa_cons (pf_mul pf_int (pf_fld T.cls_Draft T.na_Draft_coords (pf_var 0))) pfa_nil)) (fun hm F hb => pe_meth (pf_var 0) T.cls_Draft hm F (hr.mono (by decide)) hb .nil px (pfa_cons (pf_var 1) (pfa_cons (pf_mul pf_int (pf_fld T.cls_Draft T.na_Draft_coords (pf_var 0))) pfa_nil)))) (pfg_name 2 nd))
    (pfs_cons (pfs_if (pft_isN (pf_var 2)) (pfs_one (pfs_ret pf_bl)) pfs_nil)
    (pfs_cons (pfs_expr (pf_append (pf_fld T.cls_Draft T.na_Draft_rings (pf_var 0)) (pfa_cons (pf_ix (pf_var 1) pf_int) pfa_nil)))
    (pfs_cons (pfs_asg (pf_slice (pf_var 2) pfo_none (pfo_some (pf_fld T.cls_Draft T.na_Draft_coords (pf_var 0)))) (pfg_sub hr (pf_fld T.cls_Draft T.na_Draft_places (pf_var 0)) (pf_ix (pf_var 1) pf_int)))
    (pfs_cons (pfs_asg (pf_slice (pf_var 2) (pfo_some (pf_fld T.cls_Draft T.na_Draft_coords (pf_var 0))) pfo_none) (pfg_sub hr (pf_fld T.cls_Draft T.na_Draft_weights (pf_var 0)) (pf_ix (pf_var 1) pf_int)))
    (pfs_one (pfs_ret pf_bl))))))))

theorem ok_Draft_take_cord {P : Program} {w : World} {K : Frag} {mg : Str → Option Value} {base : Heap} {c : Cs} (T : Tx P w K mg base c) (h_Draft_can_tie : Mth P w K mg base 2 c.Draft "can_tie" [("self" : Str), ("one" : Str), ("other" : Str)] (m_Draft_can_tie c.toPc)) : Mth P w K mg base 3 c.Draft "take_cord" [("self" : Str), ("words" : Str)] (m_Draft_take_cord c.toPc) := by
  obtain ⟨f, fd, F, hm, hb⟩ := T.f_Draft_take_cord
  have nd := sc_Draft_take_cord.nd
  refine ⟨f, fd, ?_, hm, hb⟩
  refine fn_ok (k := 2) F sc_Draft_take_cord fun cdv A outer s H E hr => ?_
  have tk := takes_of (X := cxOf (L2.CX P w) P w K mg base [("self" : Str), ("words" : Str), ("one" : Str), ("other" : Str)] "Draft.take_cord" (defScope s_Draft_take_cord) f cdv A outer s H E) rfl rfl rfl rfl
  have px := passes_call (X := cxOf (L2.CX P w) P w K mg base [("self" : Str), ("words" : Str), ("one" : Str), ("other" : Str)] "Draft.take_cord" (defScope s_Draft_take_cord) f cdv A outer s H E) tk (fun _ _ _ _ h => h)
  have po := passes_of (X := cxOf (L2.CX P w) P w K mg base [("self" : Str), ("words" : Str), ("one" : Str), ("other" : Str)] "Draft.take_cord" (defScope s_Draft_take_cord) f cdv A outer s H E) rfl
  exact (pfs_cons (pfs_if (pfw_or (pft_ne hr (pf_len T.b_len (pfa_cons (pf_var 1) pfa_nil)) pf_int) (pfw_or1 (pft_ge (pf_len T.b_len (pfa_cons (pf_fld T.cls_Draft T.na_Draft_cords (pf_var 0)) pfa_nil)) (pf_glob T.g_MOST_CORDS)))).pt (pfs_one (pfs_ret pf_bl)) pfs_nil)
    (pfs_cons (pfs_par (i := 2) (j := 3) rfl nd (pfa_cons (pf_ix (pf_var 1) pf_int) (pfa_cons (pf_ix (pf_var 1) pf_int) pfa_nil)))
    (pfs_cons (pfs_if (pft_not (pft_tru (pf_mcall T.cls_Draft h_Draft_can_tie hr (by decide) px (pf_var 0) (pfa_cons (pf_var 2) (pfa_cons (pf_var 3) pfa_nil)) (fun hm F hb => pe_meth (pf_var 0) T.cls_Draft hm F (hr.mono (by decide)) hb .nil px (pfa_cons (pf_var 2) (pfa_cons (pf_var 3) pfa_nil)))))) (pfs_one (pfs_ret pf_bl)) pfs_nil)
    (pfs_cons (pfs_expr (pf_append (pf_fld T.cls_Draft T.na_Draft_cords (pf_var 0)) (pfa_cons (pf_tup (pfa_cons (pf_var 2) (pfa_cons (pf_var 3) pfa_nil))) pfa_nil)))
    (pfs_one (pfs_ret pf_bl))))))

theorem ok_Draft_take {P : Program} {w : World} {K : Frag} {mg : Str → Option Value} {base : Heap} {c : Cs} (T : Tx P w K mg base c) (h_Draft_take_cord : Mth P w K mg base 3 c.Draft "take_cord" [("self" : Str), ("words" : Str)] (m_Draft_take_cord c.toPc)) (h_Draft_take_head : Mth P w K mg base 2 c.Draft "take_head" [("self" : Str), ("words" : Str)] (m_Draft_take_head c.toPc)) (h_Draft_take_peg : Mth P w K mg base 6 c.Draft "take_peg" [("self" : Str), ("words" : Str)] (m_Draft_take_peg c.toPc)) (h_Draft_take_ring : Mth P w K mg base 6 c.Draft "take_ring" [("self" : Str), ("words" : Str)] (m_Draft_take_ring c.toPc)) : Mth P w K mg base 7 c.Draft "take" [("self" : Str), ("line" : Str)] (m_Draft_take c.toPc) := by
  obtain ⟨f, fd, F, hm, hb⟩ := T.f_Draft_take
  have nd := sc_Draft_take.nd
  refine ⟨f, fd, ?_, hm, hb⟩
  refine fn_ok (k := 6) F sc_Draft_take fun cdv A outer s H E hr => ?_
  have tk := takes_of (X := cxOf (L2.CX P w) P w K mg base [("self" : Str), ("line" : Str), ("words" : Str)] "Draft.take" (defScope s_Draft_take) f cdv A outer s H E) rfl rfl rfl rfl
  have px := passes_call (X := cxOf (L2.CX P w) P w K mg base [("self" : Str), ("line" : Str), ("words" : Str)] "Draft.take" (defScope s_Draft_take) f cdv A outer s H E) tk (fun _ _ _ _ h => h)
  have po := passes_of (X := cxOf (L2.CX P w) P w K mg base [("self" : Str), ("line" : Str), ("words" : Str)] "Draft.take" (defScope s_Draft_take) f cdv A outer s H E) rfl
  exact (pfs_cons (pfs_asg (pf_split (pf_var 1) (pfa_cons pf_str pfa_nil)) (pfg_name 2 nd))
    (pfs_cons (pfs_if (pft_eq hr (pf_fld T.cls_Draft T.na_Draft_coords (pf_var 0)) pf_int) (pfs_one (pfs_ret (pf_mcall T.cls_Draft h_Draft_take_head hr (by decide) px (pf_var 0) (pfa_cons (pf_var 2) pfa_nil) (fun hm F hb => pe_meth (pf_var 0) T.cls_Draft hm F (hr.mono (by decide)) hb .nil px (pfa_cons (pf_var 2) pfa_nil))))) pfs_nil)
    (pfs_cons (pfs_if (pft_eq hr (pf_ix (pf_var 2) pf_int) pf_str) (pfs_one (pfs_ret (pf_mcall T.cls_Draft h_Draft_take_peg hr (by decide) px (pf_var 0) (pfa_cons (pf_var 2) pfa_nil) (fun hm F hb => pe_meth (pf_var 0) T.cls_Draft hm F (hr.mono (by decide)) hb .nil px (pfa_cons (pf_var 2) pfa_nil))))) pfs_nil)
    (pfs_cons (pfs_if (pft_eq hr (pf_ix (pf_var 2) pf_int) pf_str) (pfs_one (pfs_ret (pf_mcall T.cls_Draft h_Draft_take_ring hr (by decide) px (pf_var 0) (pfa_cons (pf_var 2) pfa_nil) (fun hm F hb => pe_meth (pf_var 0) T.cls_Draft hm F (hr.mono (by decide)) hb .nil px (pfa_cons (pf_var 2) pfa_nil))))) pfs_nil)
    (pfs_one (pfs_ret (pf_and (pf_eq hr (pf_ix (pf_var 2) pf_int) pf_str) (pf_one (pf_mcall T.cls_Draft h_Draft_take_cord hr (by decide) px (pf_var 0) (pfa_cons (pf_var 2) pfa_nil) (fun hm F hb => pe_meth (pf_var 0) T.cls_Draft hm F (hr.mono (by decide)) hb .nil px (pfa_cons (pf_var 2) pfa_nil)))))))))))

theorem ok_read_draft {P : Program} {w : World} {K : Frag} {mg : Str → Option Value} {base : Heap} {c : Cs} (T : Tx P w K mg base c) (h_DraftU_initU : Mkr P w K mg base 2 c.Draft "Draft" [("self" : Str)] (m_DraftU_initU c.toPc)) (h_Draft_take : Mth P w K mg base 7 c.Draft "take" [("self" : Str), ("line" : Str)] (m_Draft_take c.toPc)) : Fn P w K mg base 8 "read_draft" [("text" : Str)] (m_read_draft c.toPc) := by
  obtain ⟨f, fd, F, hm, hb⟩ := T.f_read_draft
  have nd := sc_read_draft.nd
  refine ⟨f, fd, ?_, hm, F.kp, hb⟩
  refine fn_ok (k := 7) F sc_read_draft fun cdv A outer s H E hr => ?_
  have tk := takes_of (X := cxOf (L2.CX P w) P w K mg base [("text" : Str), ("lines" : Str), ("draft" : Str), ("number" : Str), ("line" : Str)] "read_draft" (defScope s_read_draft) f cdv A outer s H E) rfl rfl rfl rfl
  have px := passes_call (X := cxOf (L2.CX P w) P w K mg base [("text" : Str), ("lines" : Str), ("draft" : Str), ("number" : Str), ("line" : Str)] "read_draft" (defScope s_read_draft) f cdv A outer s H E) tk (fun _ _ _ _ h => h)
  have po := passes_of (X := cxOf (L2.CX P w) P w K mg base [("text" : Str), ("lines" : Str), ("draft" : Str), ("number" : Str), ("line" : Str)] "read_draft" (defScope s_read_draft) f cdv A outer s H E) rfl
  exact (pfs_cons (pfs_if (pft_not (pft_tru (pf_isi std_ok T.b_isinstance (pfa_cons (pf_var 0) (pfa_cons (pf_ty T.b_str (by decide +kernel)) pfa_nil))))) (pfs_one (pfs_raise T.rai_BadNet tk hr (by decide) pf_int)) pfs_nil)
    (pfs_cons (pfs_asg (pf_split (pf_var 0) (pfa_cons pf_str pfa_nil)) (pfg_name 1 nd))
    (pfs_cons (pfs_asg (pf_make0 h_DraftU_initU hr (by decide) px) (pfg_name 2 nd))
    (pfs_cons (pfs_for po rfl (pfi_enmK (k := 1) T.b_enumerate (pfa_cons (pf_var 1) pfa_nil)) (pfg_tup rfl (pfgs_cons (pfg_name 3 nd) (pfgs_cons (pfg_name 4 nd) pfgs_nil))) (pfs_one (pfs_if (pft_not (pft_tru (pf_mcall T.cls_Draft h_Draft_take hr (by decide) px (pf_var 2) (pfa_cons (pf_var 4) pfa_nil) (fun hm F hb => pe_meth (pf_var 2) T.cls_Draft hm F (hr.mono (by decide)) hb .nil px (pfa_cons (pf_var 4) pfa_nil))))) (pfs_one (pfs_raise T.rai_BadNet tk hr (by decide) (pf_var 3))) pfs_nil)))
    (pfs_cons (pfs_if (pft_not (pft_tru (pf_fld T.cls_Draft T.na_Draft_pegs (pf_var 2)))) (pfs_one (pfs_raise T.rai_BadNet tk hr (by decide) (pf_add (pf_len T.b_len (pfa_cons (pf_var 1) pfa_nil)) pf_int))) pfs_nil)
    (pfs_one (pfs_ret (pf_var 2))))))))

theorem ok_NetU_initU {P : Program} {w : World} {K : Frag} {mg : Str → Option Value} {base : Heap} {c : Cs} (T : Tx P w K mg base c) (h_read_draft : Fn P w K mg base 8 "read_draft" [("text" : Str)] (m_read_draft c.toPc)) : Mkr P w K mg base 9 c.Net "Net" [("self" : Str), ("text" : Str)] (m_NetU_initU c.toPc) := by
  obtain ⟨f, fd, F, hM, hm, hb⟩ := T.f_NetU_initU
  have nd := sc_NetU_initU.nd
  refine ⟨f, fd, ?_, hM, hm, hb⟩
  refine fn_ok (k := 8) F sc_NetU_initU fun cdv A outer s H E hr => ?_
  have tk := takes_of (X := cxOf (L2.CX P w) P w K mg base [("self" : Str), ("text" : Str), ("draft" : Str)] "Net.__init__" (defScope s_NetU_initU) f cdv A outer s H E) rfl rfl rfl rfl
  have px := passes_call (X := cxOf (L2.CX P w) P w K mg base [("self" : Str), ("text" : Str), ("draft" : Str)] "Net.__init__" (defScope s_NetU_initU) f cdv A outer s H E) tk (fun _ _ _ _ h => h)
  have po := passes_of (X := cxOf (L2.CX P w) P w K mg base [("self" : Str), ("text" : Str), ("draft" : Str)] "Net.__init__" (defScope s_NetU_initU) f cdv A outer s H E) rfl
  exact (pfs_cons (pfs_asg (pf_call h_read_draft hr (by decide) px (pfa_cons (pf_var 1) pfa_nil)) (pfg_name 2 nd))
    (pfs_cons (pfs_fld T.cls_Net T.na_Net_text (pf_var 0) (pf_var 1))
    (pfs_cons (pfs_fld T.cls_Net T.na_Net_coords (pf_var 0) (pf_fld T.cls_Draft T.na_Draft_coords (pf_var 2)))
    (pfs_cons (pfs_fld T.cls_Net T.na_Net_pegs (pf_var 0) (pf_tupleC T.b_tuple (pfa_cons (pf_fld T.cls_Draft T.na_Draft_pegs (pf_var 2)) pfa_nil)))
    (pfs_cons (pfs_fld T.cls_Net T.na_Net_rings (pf_var 0) (pf_tupleC T.b_tuple (pfa_cons (pf_fld T.cls_Draft T.na_Draft_rings (pf_var 2)) pfa_nil)))
    (pfs_cons (pfs_fld T.cls_Net T.na_Net_cords (pf_var 0) (pf_tupleC T.b_tuple (pfa_cons (pf_fld T.cls_Draft T.na_Draft_cords (pf_var 2)) pfa_nil)))
    (pfs_cons (pfs_fld T.cls_Net T.na_Net__places (pf_var 0) (pf_fld T.cls_Draft T.na_Draft_places (pf_var 2)))
    (pfs_one (pfs_fld T.cls_Net T.na_Net__weights (pf_var 0) (pf_fld T.cls_Draft T.na_Draft_weights (pf_var 2)))))))))))

theorem ok__law_is_due {P : Program} {w : World} {K : Frag} {mg : Str → Option Value} {base : Heap} {c : Cs} (T : Tx P w K mg base c) (h_NetU_initU : Mkr P w K mg base 9 c.Net "Net" [("self" : Str), ("text" : Str)] (m_NetU_initU c.toPc)) : Fn P w K mg base 13 "_law_is_due" [("lines" : Str), ("number" : Str)] (m__law_is_due c) := by
  obtain ⟨f, fd, F, hm, hb⟩ := T.f__law_is_due
  have nd := sc__law_is_due.nd
  refine ⟨f, fd, ?_, hm, F.kp, hb⟩
  obtain ⟨hf, hfd, hF, hhm, hhb⟩ := T.f__law_heard
  refine fn_okL (k := 12) F sc__law_is_due fun A outer s H E hr => ?_
  have tk := takes_of (X := cxOf (L2.CX P w) P w K mg base [("lines" : Str), ("number" : Str), ("caught" : Str), ("net" : Str)] "_law_is_due" (defScope s__law_is_due) f (.ref c.k__law_is_due) A outer s H E) rfl rfl rfl rfl
  have px := passes_call (X := cxOf (L2.CX P w) P w K mg base [("lines" : Str), ("number" : Str), ("caught" : Str), ("net" : Str)] "_law_is_due" (defScope s__law_is_due) f (.ref c.k__law_is_due) A outer s H E) tk (fun _ _ _ _ h => h)
  have po := passes_of (X := cxOf (L2.CX P w) P w K mg base [("lines" : Str), ("number" : Str), ("caught" : Str), ("net" : Str)] "_law_is_due" (defScope s__law_is_due) f (.ref c.k__law_is_due) A outer s H E) rfl
  exact (pfs_cons (pfs_asg (pf_heard (k := 10) (q := q__law_is_due) hF hhm hhb sc__law_heard (gv__law_heard T.m_RestError q__law_is_due) T.cat_ex F.tb hr (by decide) (LamX.lamS_by (sc := defScope s__law_is_due) (by decide +kernel)) (fun A outer s H E f c' hr => (pf_make h_NetU_initU hr (by decide) (by exact passes_call (takes_of rfl rfl rfl rfl) (fun _ _ _ _ h => h)) (pfa_cons (pf_join pf_str (pfa_cons (pf_var 0) pfa_nil)) pfa_nil)))) (pfg_tup rfl (pfgs_cons (pfg_name 2 nd) (pfgs_cons (pfg_name 3 nd) pfgs_nil))))
    (pfs_cons (pfs_if (pft_isN (pf_var 1)) (pfs_one (pfs_ret (pf_and (pf_isN (pf_var 2)) (pf_one (pf_eq hr (pf_fld T.cls_Net T.na_Net_text (pf_var 3)) (pf_join pf_str (pfa_cons (pf_var 0) pfa_nil))))))) pfs_nil)
    (pfs_one (pfs_ret (pf_and (pf_isi T.isi_BadNet T.b_isinstance (pfa_cons (pf_var 2) (pfa_cons (pf_glob T.gc_BadNet) pfa_nil))) (pf_one (pf_eq hr (pf_repr T.b_repr (pfa_cons (pf_xval T.cat_x (pf_var 2)) pfa_nil)) (pf_repr T.b_repr (pfa_cons (pf_var 1) pfa_nil)))))))))

theorem ok__law_are_counts_right {P : Program} {w : World} {K : Frag} {mg : Str → Option Value} {base : Heap} {c : Cs} (T : Tx P w K mg base c) (h__law_is_due : Fn P w K mg base 13 "_law_is_due" [("lines" : Str), ("number" : Str)] (m__law_is_due c)) : Fn P w K mg base 14 "_law_are_counts_right" [("names" : Str)] (m__law_are_counts_right c) := by
  obtain ⟨f, fd, F, hm, hb⟩ := T.f__law_are_counts_right
  have nd := sc__law_are_counts_right.nd
  refine ⟨f, fd, ?_, hm, F.kp, hb⟩
  refine fn_ok (k := 13) F sc__law_are_counts_right fun cdv A outer s H E hr => ?_
  have tk := takes_of (X := cxOf (L2.CX P w) P w K mg base [("names" : Str), ("pegs" : Str), ("rings" : Str), ("cords" : Str), ("ring" : Str), ("head" : Str), ("name" : Str), ("at" : Str), ("peg" : Str)] "_law_are_counts_right" (defScope s__law_are_counts_right) f cdv A outer s H E) rfl rfl rfl rfl
  have px := passes_call (X := cxOf (L2.CX P w) P w K mg base [("names" : Str), ("pegs" : Str), ("rings" : Str), ("cords" : Str), ("ring" : Str), ("head" : Str), ("name" : Str), ("at" : Str), ("peg" : Str)] "_law_are_counts_right" (defScope s__law_are_counts_right) f cdv A outer s H E) tk (fun _ _ _ _ h => h)
  have po := passes_of (X := cxOf (L2.CX P w) P w K mg base [("names" : Str), ("pegs" : Str), ("rings" : Str), ("cords" : Str), ("ring" : Str), ("head" : Str), ("name" : Str), ("at" : Str), ("peg" : Str)] "_law_are_counts_right" (defScope s__law_are_counts_right) f cdv A outer s H E) rfl
  exact (pfs_cons (pfs_setLc (i := 1) rfl nd rfl rfl (sw_true rfl rfl rfl (by decide +kernel)) (pfi_enm T.b_enumerate (pfa_cons (pf_slice (pf_var 0) pfo_none (pfo_some pf_int)) pfa_nil)) (blkOk_by (N := [("names" : Str), ("pegs" : Str), ("rings" : Str), ("cords" : Str), ("ring" : Str), ("head" : Str), ("name" : Str), ("at" : Str), ("peg" : Str)]) (sc := defScope s__law_are_counts_right) (own := [(("name" : Str), 6), (("at" : Str), 7)]) (by decide +kernel)) (by decide) (fun _ _ _ _ _ => (pfg_tup rfl (pfgs_cons (pfg_name 7 nd) (pfgs_cons (pfg_name 6 nd) pfgs_nil)))) (fun _ _ _ _ _ => pfts_nil) (fun _ _ _ _ _ => (pf_add (pf_add (pf_add pf_str (pf_var 6)) pf_str) (pf_strC T.b_str (pfa_cons (pf_intC T.b_int (pfa_cons (pf_var 7) pfa_nil)) pfa_nil)))))
    (pfs_cons (pfs_setLc (i := 2) rfl nd rfl rfl (sw_true rfl rfl rfl (by decide +kernel)) (pfi_any (pf_slice (pf_var 0) (pfo_some pf_int) pfo_none)) (blkOk_by (N := [("names" : Str), ("pegs" : Str), ("rings" : Str), ("cords" : Str), ("ring" : Str), ("head" : Str), ("name" : Str), ("at" : Str), ("peg" : Str)]) (sc := defScope s__law_are_counts_right) (own := [(("name" : Str), 6)]) (by decide +kernel)) (by decide) (fun _ _ _ _ _ => (pfg_name 6 nd)) (fun _ _ _ _ _ => pfts_nil) (fun _ _ _ _ _ => (pf_add (pf_add pf_str (pf_var 6)) pf_str)))
    (pfs_cons (pfs_if (pfw_or (pft_not (pft_tru (pf_call h__law_is_due hr (by decide) px (pfa_cons (pf_add (pf_add (pf_lst (pfa_cons pf_str pfa_nil)) (pf_slice (pf_var 1) pfo_none (pfo_some pf_int))) (pf_slice (pf_var 2) pfo_none (pfo_some pf_int))) (pfa_cons pf_non pfa_nil))))) (pfw_or1 (pft_not (pft_tru (pf_call h__law_is_due hr (by decide) px (pfa_cons (pf_add (pf_lst (pfa_cons pf_str pfa_nil)) (pf_var 1)) (pfa_cons pf_int pfa_nil))))))).pt (pfs_one (pfs_ret pf_bl)) pfs_nil)
    (pfs_cons (pfs_if (pft_not (pft_tru (pf_call h__law_is_due hr (by decide) px (pfa_cons (pf_add (pf_add (pf_lst (pfa_cons pf_str pfa_nil)) (pf_slice (pf_var 1) pfo_none (pfo_some pf_int))) (pf_slice (pf_var 2) pfo_none (pfo_some pf_int))) (pfa_cons pf_int pfa_nil))))) (pfs_one (pfs_ret pf_bl)) pfs_nil)
    (pfs_cons (pfs_asg (pf_lst pfa_nil) (pfg_name 3 nd))
    (pfs_cons (pfs_for po rfl (pfi_any (pf_slice (pf_var 0) (pfo_some pf_int) (pfo_some pf_int))) (pfg_name 4 nd) (pfs_one (pfs_expr (pf_extend (pf_var 3) (pfa_cons (pf_lc rfl nd (pfi_any (pf_slice (pf_var 0) (pfo_some pf_int) (pfo_some pf_int))) (blkOk_by (N := [("names" : Str), ("pegs" : Str), ("rings" : Str), ("cords" : Str), ("ring" : Str), ("head" : Str), ("name" : Str), ("at" : Str), ("peg" : Str)]) (sc := defScope s__law_are_counts_right) (own := [(("peg" : Str), 8)]) (by decide +kernel)) (by decide) (fun _ _ _ _ _ => (pfg_name 8 nd)) (fun _ _ _ _ _ => pfts_nil) (fun _ _ _ _ _ => (pf_add (pf_add (pf_add pf_str (pf_var 4)) pf_str) (pf_var 8)))) pfa_nil)))))
    (pfs_cons (pfs_asg (pf_add (pf_add (pf_lst (pfa_cons pf_str pfa_nil)) (pf_slice (pf_var 1) pfo_none (pfo_some pf_int))) (pf_slice (pf_var 2) pfo_none (pfo_some pf_int))) (pfg_name 5 nd))
    (pfs_one (pfs_ret (pf_and (pf_call h__law_is_due hr (by decide) px (pfa_cons (pf_add (pf_var 5) (pf_slice (pf_var 3) pfo_none (pfo_some pf_int))) (pfa_cons pf_non pfa_nil))) (pf_one (pf_call h__law_is_due hr (by decide) px (pfa_cons (pf_add (pf_var 5) (pf_var 3)) (pfa_cons pf_int pfa_nil))))))))))))))

theorem ok__law_are_numbers_right {P : Program} {w : World} {K : Frag} {mg : Str → Option Value} {base : Heap} {c : Cs} (T : Tx P w K mg base c) (h__law_is_due : Fn P w K mg base 13 "_law_is_due" [("lines" : Str), ("number" : Str)] (m__law_is_due c)) : Fn P w K mg base 14 "_law_are_numbers_right" [("a" : Str), ("b" : Str)] (m__law_are_numbers_right c) := by
  obtain ⟨f, fd, F, hm, hb⟩ := T.f__law_are_numbers_right
  have nd := sc__law_are_numbers_right.nd
  refine ⟨f, fd, ?_, hm, F.kp, hb⟩
  refine fn_ok (k := 13) F sc__law_are_numbers_right fun cdv A outer s H E hr => ?_
  have tk := takes_of (X := cxOf (L2.CX P w) P w K mg base [("a" : Str), ("b" : Str), ("word" : Str), ("bad" : Str)] "_law_are_numbers_right" (defScope s__law_are_numbers_right) f cdv A outer s H E) rfl rfl rfl rfl
  have px := passes_call (X := cxOf (L2.CX P w) P w K mg base [("a" : Str), ("b" : Str), ("word" : Str), ("bad" : Str)] "_law_are_numbers_right" (defScope s__law_are_numbers_right) f cdv A outer s H E) tk (fun _ _ _ _ h => h)
  have po := passes_of (X := cxOf (L2.CX P w) P w K mg base [("a" : Str), ("b" : Str), ("word" : Str), ("bad" : Str)] "_law_are_numbers_right" (defScope s__law_are_numbers_right) f cdv A outer s H E) rfl
  exact (pfs_cons (pfs_for po rfl (pfi_any (pf_tup (pfa_cons pf_str (pfa_cons pf_str (pfa_cons pf_str (pfa_cons pf_str (pfa_cons pf_str (pfa_cons pf_str (pfa_cons pf_str (pfa_cons pf_str (pfa_cons pf_str pfa_nil))))))))))) (pfg_name 2 nd) (pfs_one (pfs_if (pft_not (pft_tru (pf_call h__law_is_due hr (by decide) px (pfa_cons (pf_lst (pfa_cons pf_str (pfa_cons (pf_add (pf_add (pf_add (pf_add pf_str (pf_var 0)) pf_str) (pf_var 2)) pf_str) (pfa_cons (pf_add (pf_add (pf_add (pf_add (pf_add pf_str (pf_var 1)) pf_str) (pf_var 2)) pf_str) (pf_var 2)) pfa_nil)))) (pfa_cons pf_non pfa_nil))))) (pfs_one (pfs_ret pf_bl)) pfs_nil)))
    (pfs_cons (pfs_asg (pf_lst (pfa_cons pf_str (pfa_cons pf_str (pfa_cons pf_str (pfa_cons pf_str (pfa_cons pf_str (pfa_cons pf_str (pfa_cons pf_str (pfa_cons pf_str (pfa_cons pf_str (pfa_cons pf_str (pfa_cons pf_str (pfa_cons pf_str (pfa_cons pf_str (pfa_cons pf_str (pfa_cons pf_str pfa_nil)))))))))))))))) (pfg_name 3 nd))
    (pfs_cons (pfs_for po rfl (pfi_any (pf_add (pf_var 3) (pf_lst (pfa_cons pf_str pfa_nil)))) (pfg_name 2 nd) (pfs_cons (pfs_if (pft_not (pft_tru (pf_call h__law_is_due hr (by decide) px (pfa_cons (pf_lst (pfa_cons pf_str (pfa_cons (pf_add (pf_add (pf_add (pf_add pf_str (pf_var 0)) pf_str) (pf_var 2)) pf_str) pfa_nil))) (pfa_cons pf_int pfa_nil))))) (pfs_one (pfs_ret pf_bl)) pfs_nil)
    (pfs_one (pfs_if (pft_not (pft_tru (pf_call h__law_is_due hr (by decide) px (pfa_cons (pf_lst (pfa_cons pf_str (pfa_cons (pf_add (pf_add pf_str (pf_var 0)) pf_str) (pfa_cons (pf_add (pf_add (pf_add pf_str (pf_var 1)) pf_str) (pf_var 2)) pfa_nil)))) (pfa_cons pf_int pfa_nil))))) (pfs_one (pfs_ret pf_bl)) pfs_nil))))
    (pfs_one (pfs_ret pf_bl)))))

theorem ok__law_are_lines_right {P : Program} {w : World} {K : Frag} {mg : Str → Option Value} {base : Heap} {c : Cs} (T : Tx P w K mg base c) (h__law_is_due : Fn P w K mg base 13 "_law_is_due" [("lines" : Str), ("number" : Str)] (m__law_is_due c)) : Fn P w K mg base 14 "_law_are_lines_right" [("a" : Str), ("b" : Str), ("c" : Str)] (m__law_are_lines_right c) := by
  obtain ⟨f, fd, F, hm, hb⟩ := T.f__law_are_lines_right
  have nd := sc__law_are_lines_right.nd
  refine ⟨f, fd, ?_, hm, F.kp, hb⟩
  refine fn_ok (k := 13) F sc__law_are_lines_right fun cdv A outer s H E hr => ?_
  have tk := takes_of (X := cxOf (L2.CX P w) P w K mg base [("a" : Str), ("b" : Str), ("c" : Str), ("head" : Str), ("rows" : Str), ("ends" : Str), ("tied" : Str), ("near" : Str), ("name" : Str), ("lines" : Str), ("due" : Str)] "_law_are_lines_right" (defScope s__law_are_lines_right) f cdv A outer s H E) rfl rfl rfl rfl
  have px := passes_call (X := cxOf (L2.CX P w) P w K mg base [("a" : Str), ("b" : Str), ("c" : Str), ("head" : Str), ("rows" : Str), ("ends" : Str), ("tied" : Str), ("near" : Str), ("name" : Str), ("lines" : Str), ("due" : Str)] "_law_are_lines_right" (defScope s__law_are_lines_right) f cdv A outer s H E) tk (fun _ _ _ _ h => h)
  have po := passes_of (X := cxOf (L2.CX P w) P w K mg base [("a" : Str), ("b" : Str), ("c" : Str), ("head" : Str), ("rows" : Str), ("ends" : Str), ("tied" : Str), ("near" : Str), ("name" : Str), ("lines" : Str), ("due" : Str)] "_law_are_lines_right" (defScope s__law_are_lines_right) f cdv A outer s H E) rfl
  exact (pfs_cons (pfs_asg (pf_lst (pfa_cons pf_str (pfa_cons (pf_add (pf_add pf_str (pf_var 0)) pf_str) (pfa_cons (pf_add (pf_add pf_str (pf_var 1)) pf_str) (pfa_cons (pf_add (pf_add pf_str (pf_var 2)) pf_str) pfa_nil))))) (pfg_name 3 nd))
    (pfs_cons (pfs_asg (pf_lst (pfa_cons (pf_tup (pfa_cons (pf_var 3) (pfa_cons pf_non pfa_nil))) (pfa_cons (pf_tup (pfa_cons (pf_lst (pfa_cons pf_str pfa_nil)) (pfa_cons pf_int pfa_nil))) (pfa_cons (pf_tup (pfa_cons (pf_lst (pfa_cons pf_str (pfa_cons pf_str pfa_nil))) (pfa_cons pf_int pfa_nil))) (pfa_cons (pf_tup (pfa_cons (pf_lst (pfa_cons pf_str (pfa_cons pf_str pfa_nil))) (pfa_cons pf_int pfa_nil))) pfa_nil))))) (pfg_name 4 nd))
    (pfs_cons (pfs_expr (pf_extend (pf_var 4) (pfa_cons (pf_lst (pfa_cons (pf_tup (pfa_cons (pf_lst (pfa_cons pf_str pfa_nil)) (pfa_cons pf_int pfa_nil))) (pfa_cons (pf_tup (pfa_cons (pf_lst (pfa_cons pf_str pfa_nil)) (pfa_cons pf_int pfa_nil))) (pfa_cons (pf_tup (pfa_cons (pf_lst (pfa_cons pf_str (pfa_cons pf_str pfa_nil))) (pfa_cons pf_int pfa_nil))) pfa_nil)))) pfa_nil)))
    (pfs_cons (pfs_expr (pf_extend (pf_var 4) (pfa_cons (pf_lst (pfa_cons (pf_tup (pfa_cons (pf_lst (pfa_cons pf_str (pfa_cons (pf_add (pf_add pf_str (pf_var 2)) pf_str) pfa_nil))) (pfa_cons pf_int pfa_nil))) (pfa_cons (pf_tup (pfa_cons (pf_add (pf_var 3) (pf_lst (pfa_cons pf_str pfa_nil))) (pfa_cons pf_int pfa_nil))) (pfa_cons (pf_tup (pfa_cons (pf_add (pf_slice (pf_var 3) pfo_none (pfo_some pf_int)) (pf_lst (pfa_cons (pf_add (pf_add pf_str (pf_var 0)) pf_str) pfa_nil))) (pfa_cons pf_int pfa_nil))) pfa_nil)))) pfa_nil)))
    (pfs_cons (pfs_expr (pf_extend (pf_var 4) (pfa_cons (pf_lst (pfa_cons (pf_tup (pfa_cons (pf_add (pf_var 3) (pf_lst (pfa_cons (pf_add (pf_add pf_str (pf_var 1)) pf_str) pfa_nil))) (pfa_cons pf_int pfa_nil))) (pfa_cons (pf_tup (pfa_cons (pf_add (pf_var 3) (pf_lst (pfa_cons pf_str pfa_nil))) (pfa_cons pf_int pfa_nil))) (pfa_cons (pf_tup (pfa_cons (pf_add (pf_var 3) (pf_lst (pfa_cons (pf_add (pf_add (pf_add pf_str (pf_var 0)) pf_str) (pf_var 2)) pfa_nil))) (pfa_cons pf_int pfa_nil))) pfa_nil)))) pfa_nil)))
    (pfs_cons (pfs_for po rfl (pfi_any (pf_tup (pfa_cons (pf_lst (pfa_cons (pf_var 0) (pfa_cons (pf_var 1) pfa_nil))) (pfa_cons (pf_lst (pfa_cons (pf_var 2) (pfa_cons (pf_var 2) pfa_nil))) (pfa_cons (pf_lst (pfa_cons (pf_var 0) pfa_nil)) (pfa_cons (pf_lst (pfa_cons (pf_var 0) (pfa_cons (pf_var 2) (pfa_cons (pf_var 1) pfa_nil)))) (pfa_cons (pf_lst (pfa_cons (pf_var 0) (pfa_cons pf_str pfa_nil))) (pfa_cons (pf_lst (pfa_cons (pf_var 2) (pfa_cons pf_str pfa_nil))) (pfa_cons (pf_lst pfa_nil) pfa_nil))))))))) (pfg_name 5 nd) (pfs_one (pfs_expr (pf_append (pf_var 4) (pfa_cons (pf_tup (pfa_cons (pf_add (pf_var 3) (pf_lst (pfa_cons (pf_join pf_str (pfa_cons (pf_add (pf_lst (pfa_cons pf_str pfa_nil)) (pf_var 5)) pfa_nil)) pfa_nil))) (pfa_cons pf_int pfa_nil))) pfa_nil)))))
    (pfs_cons (pfs_asg (pf_add (pf_var 3) (pf_lst (pfa_cons (pf_add (pf_add (pf_add pf_str (pf_var 0)) pf_str) (pf_var 2)) pfa_nil))) (pfg_name 6 nd))
    (pfs_cons (pfs_expr (pf_extend (pf_var 4) (pfa_cons (pf_lst (pfa_cons (pf_tup (pfa_cons (pf_var 6) (pfa_cons pf_non pfa_nil))) (pfa_cons (pf_tup (pfa_cons (pf_add (pf_var 6) (pf_lst (pfa_cons (pf_add (pf_add (pf_add pf_str (pf_var 0)) pf_str) (pf_var 2)) pfa_nil))) (pfa_cons pf_int pfa_nil))) (pfa_cons (pf_tup (pfa_cons (pf_add (pf_var 6) (pf_lst (pfa_cons (pf_add (pf_add (pf_add pf_str (pf_var 2)) pf_str) (pf_var 0)) pfa_nil))) (pfa_cons pf_int pfa_nil))) pfa_nil)))) pfa_nil)))
    (pfs_cons (pfs_expr (pf_extend (pf_var 4) (pfa_cons (pf_lst (pfa_cons (pf_tup (pfa_cons (pf_add (pf_var 6) (pf_lst (pfa_cons pf_str pfa_nil))) (pfa_cons pf_int pfa_nil))) (pfa_cons (pf_tup (pfa_cons (pf_add (pf_var 6) (pf_lst (pfa_cons pf_str pfa_nil))) (pfa_cons pf_int pfa_nil))) (pfa_cons (pf_tup (pfa_cons (pf_add (pf_var 6) (pf_lst (pfa_cons (pf_add (pf_add (pf_add pf_str (pf_var 2)) pf_str) (pf_var 1)) pfa_nil))) (pfa_cons pf_non pfa_nil))) pfa_nil)))) pfa_nil)))
    (pfs_cons (pfs_asg (pf_add (pf_slice (pf_var 3) pfo_none (pfo_some pf_int)) (pf_lst (pfa_cons (pf_add (pf_add pf_str (pf_var 2)) pf_str) pfa_nil))) (pfg_name 7 nd))
    (pfs_cons (pfs_expr (pf_extend (pf_var 4) (pfa_cons (pf_lst (pfa_cons (pf_tup (pfa_cons (pf_add (pf_var 7) (pf_lst (pfa_cons (pf_add (pf_add (pf_add pf_str (pf_var 2)) pf_str) (pf_var 1)) pfa_nil))) (pfa_cons pf_int pfa_nil))) (pfa_cons (pf_tup (pfa_cons (pf_add (pf_var 7) (pf_lst (pfa_cons (pf_add (pf_add (pf_add pf_str (pf_var 2)) pf_str) (pf_var 0)) pfa_nil))) (pfa_cons pf_non pfa_nil))) pfa_nil))) pfa_nil)))
    (pfs_cons (pfs_for po rfl (pfi_any (pf_tup (pfa_cons pf_str (pfa_cons pf_str (pfa_cons pf_str (pfa_cons pf_str (pfa_cons pf_str pfa_nil))))))) (pfg_name 8 nd) (pfs_one (pfs_expr (pf_append (pf_var 4) (pfa_cons (pf_tup (pfa_cons (pf_lst (pfa_cons pf_str (pfa_cons (pf_add (pf_add pf_str (pf_var 8)) pf_str) pfa_nil))) (pfa_cons pf_int pfa_nil))) pfa_nil)))))
    (pfs_cons (pfs_for po rfl (pfi_any (pf_tup (pfa_cons pf_str (pfa_cons pf_str (pfa_cons pf_str (pfa_cons pf_str pfa_nil)))))) (pfg_name 8 nd) (pfs_one (pfs_expr (pf_append (pf_var 4) (pfa_cons (pf_tup (pfa_cons (pf_lst (pfa_cons pf_str (pfa_cons (pf_add (pf_add pf_str (pf_var 8)) pf_str) pfa_nil))) (pfa_cons pf_non pfa_nil))) pfa_nil)))))
    (pfs_one (pfs_ret (pf_all rfl T.b_all (pfa_cons (pf_lc rfl nd (pfi_any (pf_var 4)) (blkOk_by (N := [("a" : Str), ("b" : Str), ("c" : Str), ("head" : Str), ("rows" : Str), ("ends" : Str), ("tied" : Str), ("near" : Str), ("name" : Str), ("lines" : Str), ("due" : Str)]) (sc := defScope s__law_are_lines_right) (own := [(("lines" : Str), 9), (("due" : Str), 10)]) (by decide +kernel)) (by decide) (fun _ _ _ _ _ => (pfg_tup rfl (pfgs_cons (pfg_name 9 nd) (pfgs_cons (pfg_name 10 nd) pfgs_nil)))) (fun _ _ _ _ _ => pfts_nil) (fun _ _ _ _ _ => (pf_call h__law_is_due hr (by decide) passL (pfa_cons (pf_var 9) (pfa_cons (pf_var 10) pfa_nil))))) pfa_nil)))))))))))))))))

theorem ok__law_right {P : Program} {w : World} {K : Frag} {mg : Str → Option Value} {base : Heap} {c : Cs} (T : Tx P w K mg base c) (h__law_are_counts_right : Fn P w K mg base 14 "_law_are_counts_right" [("names" : Str)] (m__law_are_counts_right c)) (h__law_are_lines_right : Fn P w K mg base 14 "_law_are_lines_right" [("a" : Str), ("b" : Str), ("c" : Str)] (m__law_are_lines_right c)) (h__law_are_numbers_right : Fn P w K mg base 14 "_law_are_numbers_right" [("a" : Str), ("b" : Str)] (m__law_are_numbers_right c)) (h__law_some : Fn P w K mg base 3 "_law_some" [("pot" : Str), ("pool" : Str), ("many" : Str)] (m__law_some c)) (h__law_wide_names : Fn P w K mg base 4 "_law_wide_names" [("pot" : Str), ("many" : Str)] (m__law_wide_names c)) : Fn P w K mg base 15 "_law_right" [("pot" : Str)] (m__law_right c) := by
  obtain ⟨f, fd, F, hm, hb⟩ := T.f__law_right
  have nd := sc__law_right.nd
  refine ⟨f, fd, ?_, hm, F.kp, hb⟩
  refine fn_ok (k := 14) F sc__law_right fun cdv A outer s H E hr => ?_
  have tk := takes_of (X := cxOf (L2.CX P w) P w K mg base [("pot" : Str), ("names" : Str), ("a" : Str), ("b" : Str), ("c" : Str)] "_law_right" (defScope s__law_right) f cdv A outer s H E) rfl rfl rfl rfl
  have px := passes_call (X := cxOf (L2.CX P w) P w K mg base [("pot" : Str), ("names" : Str), ("a" : Str), ("b" : Str), ("c" : Str)] "_law_right" (defScope s__law_right) f cdv A outer s H E) tk (fun _ _ _ _ h => h)
  have po := passes_of (X := cxOf (L2.CX P w) P w K mg base [("pot" : Str), ("names" : Str), ("a" : Str), ("b" : Str), ("c" : Str)] "_law_right" (defScope s__law_right) f cdv A outer s H E) rfl
  exact (pfs_cons (pfs_asg (pf_call h__law_wide_names hr (by decide) px (pfa_cons (pf_var 0) (pfa_cons pf_int pfa_nil))) (pfg_name 1 nd))
    (pfs_cons (pfs_asg (pf_call h__law_some hr (by decide) px (pfa_cons (pf_var 0) (pfa_cons (pf_lst (pfa_cons pf_str (pfa_cons pf_str (pfa_cons pf_str (pfa_cons pf_str (pfa_cons pf_str (pfa_cons pf_str (pfa_cons pf_str (pfa_cons pf_str pfa_nil))))))))) (pfa_cons pf_int pfa_nil)))) (pfg_tup rfl (pfgs_cons (pfg_name 2 nd) (pfgs_cons (pfg_name 3 nd) (pfgs_cons (pfg_name 4 nd) pfgs_nil)))))
    (pfs_one (pfs_ret (pf_and (pf_call h__law_are_counts_right hr (by decide) px (pfa_cons (pf_var 1) pfa_nil)) (pf_and (pf_call h__law_are_numbers_right hr (by decide) px (pfa_cons (pf_var 2) (pfa_cons (pf_var 3) pfa_nil))) (pf_one (pf_call h__law_are_lines_right hr (by decide) px (pfa_cons (pf_var 2) (pfa_cons (pf_var 3) (pfa_cons (pf_var 4) pfa_nil)))))))))))

theorem ok_law {P : Program} {w : World} {K : Frag} {mg : Str → Option Value} {base : Heap} {c : Cs} (T : Tx P w K mg base c) (h__law_pot : Fn P w K mg base 2 "_law_pot" [("script" : Str), ("at" : Str)] (m__law_pot c)) (h__law_right : Fn P w K mg base 15 "_law_right" [("pot" : Str)] (m__law_right c)) : Fn P w K mg base 16 "law" [("script" : Str)] (m_law c) := by
  obtain ⟨f, fd, F, hm, hb⟩ := T.f_law
  have nd := sc_law.nd
  refine ⟨f, fd, ?_, hm, F.kp, hb⟩
  refine fn_ok (k := 15) F sc_law fun cdv A outer s H E hr => ?_
  have tk := takes_of (X := cxOf (L2.CX P w) P w K mg base [("script" : Str)] "law" (defScope s_law) f cdv A outer s H E) rfl rfl rfl rfl
  have px := passes_call (X := cxOf (L2.CX P w) P w K mg base [("script" : Str)] "law" (defScope s_law) f cdv A outer s H E) tk (fun _ _ _ _ h => h)
  have po := passes_of (X := cxOf (L2.CX P w) P w K mg base [("script" : Str)] "law" (defScope s_law) f cdv A outer s H E) rfl
  exact (pfs_one (pfs_ret (pf_call h__law_right hr (by decide) px (pfa_cons (pf_call h__law_pot hr (by decide) px (pfa_cons (pf_var 0) (pfa_cons pf_int pfa_nil))) pfa_nil))))
end Cr
end
section
/-! PG: what the functions come to -/
namespace PF
open PySem
@[simp] theorem noerr_map {α : Type} (a : α) (st : Store) : noerr (some (.ok a st)) = some (.ok a st) := rfl
/-- a comprehension over what stays, its items told without a change of the store -/
theorem lcL_map {it : ItV} {g : GF} {t : BF} {f : EF} {env : Env} {base : Store} {ds : List D} {p : D → Bool} {y : D → D} (hn : ∀ i acc, it.nxt i (base ++ [Cell.lst acc]) = some ds[i]?)
    (hs : ∀ d ∈ ds, ∀ acc, ∃ env1, g d env (base ++ [Cell.lst acc]) = some (.ok env1 (base ++ [Cell.lst acc])) ∧ t env1 (base ++ [Cell.lst acc]) = some (.ok (p d) (base ++ [Cell.lst acc])) ∧ (p d = true → f env1 (base ++ [Cell.lst acc]) = some (.ok (y d) (base ++ [Cell.lst acc])))) (hl : ds.length < LIM) :
    ∀ (r : Nat) (m i : Nat) (acc : List D), i + r = ds.length → r < m → acc.length ≤ i → lcL it g t f base.length env m i (base ++ [Cell.lst acc]) = some (.ok (D.cell base.length) (base ++ [Cell.lst (acc ++ ((ds.drop i).filter p).map y)]))
  | 0, m + 1, i, acc, e, _, _ => by
    unfold lcL
    rw [hn, List.getElem?_eq_none (by omega)]
    simp [List.drop_eq_nil_of_le (show ds.length ≤ i by omega)]
  | r + 1, m + 1, i, acc, e, hm, ha => by
    have hi : i < ds.length := by omega
    unfold lcL
    rw [hn, List.getElem?_eq_getElem hi]
    obtain ⟨env1, h1, h2, h3⟩ := hs ds[i] (List.getElem_mem hi) acc
    simp only [h1, noerr_ok, bindR_ok, h2]
    rw [List.drop_eq_getElem_cons hi, List.filter_cons]
    cases hp : p ds[i] with
    | false =>
      simp only [Bool.false_eq_true, if_false]
      exact lcL_map hn hs hl r m (i + 1) acc (by omega) (by omega) (by omega)
    | true =>
      simp only [if_true, h3 hp, noerr_ok, bindR_ok]
      have e1 : (base ++ [Cell.lst acc])[base.length]? = some (.lst acc) := by simp
      rw [e1]
      simp only
      rw [if_pos (show acc.length < LIM by omega)]
      have e2 : (base ++ [Cell.lst acc]).set base.length (.lst (acc ++ [y ds[i]])) = base ++ [Cell.lst (acc ++ [y ds[i]])] := by simp
      rw [e2, lcL_map hn hs hl r m (i + 1) (acc ++ [y ds[i]]) (by omega) (by omega) (by rw [List.length_append]; exact Nat.add_le_add_right ha 1)]
      rw [List.map_cons, List.append_assoc]
      rfl
theorem lcF_map {fi : IF} {g : GF} {t : BF} {f : EF} {vs : List Nat} {env : Env} {st base : Store} {it : ItV} {ds : List D} {p : D → Bool} {y : D → D} (hi : fi env st = some (.ok it base)) (hn : ∀ i acc, it.nxt i (base ++ [Cell.lst acc]) = some ds[i]?)
    (hs : ∀ d ∈ ds, ∀ acc, ∃ env1, g d (wipeE env vs) (base ++ [Cell.lst acc]) = some (.ok env1 (base ++ [Cell.lst acc])) ∧ t env1 (base ++ [Cell.lst acc]) = some (.ok (p d) (base ++ [Cell.lst acc])) ∧ (p d = true → f env1 (base ++ [Cell.lst acc]) = some (.ok (y d) (base ++ [Cell.lst acc])))) (hl : ds.length < FUEL) :
    lcF fi g t f vs env st = some (.ok (D.cell base.length) (base ++ [Cell.lst ((ds.filter p).map y)])) := by
  unfold lcF
  rw [hi]
  simp only [bindR_ok]
  rw [lcL_map hn hs (Nat.lt_trans hl (by unfold FUEL LIM; omega)) ds.length FUEL 0 [] (by omega) hl (Nat.zero_le _)]
  simp
/-- .. without a test -/
theorem lcF_all {fi : IF} {g : GF} {f : EF} {vs : List Nat} {env : Env} {st base : Store} {it : ItV} {ds : List D} {y : D → D} (hi : fi env st = some (.ok it base)) (hn : ∀ i acc, it.nxt i (base ++ [Cell.lst acc]) = some ds[i]?)
    (hs : ∀ d ∈ ds, ∀ acc, ∃ env1, g d (wipeE env vs) (base ++ [Cell.lst acc]) = some (.ok env1 (base ++ [Cell.lst acc])) ∧ f env1 (base ++ [Cell.lst acc]) = some (.ok (y d) (base ++ [Cell.lst acc]))) (hl : ds.length < FUEL) :
    lcF fi g yesT f vs env st = some (.ok (D.cell base.length) (base ++ [Cell.lst (ds.map y)])) := by
  have h := lcF_map (t := yesT) (p := fun _ => true) hi hn (fun d hd acc => by
    obtain ⟨env1, h1, h2⟩ := hs d hd acc
    exact ⟨env1, h1, rfl, fun _ => h2⟩) hl
  rw [List.filter_eq_self.mpr fun _ _ => rfl] at h
  exact h
end PF
end
section
/-! PG2: texts of nets, one def after another -/
namespace Cr
open PySem PF
theorem tru_bl (b : Bool) (st : Store) : truD (D.bl b) st = some b := rfl
theorem tru_non (st : Store) : truD D.non st = some false := rfl
theorem tru_int (i : Int) (st : Store) : truD (D.int i) st = some (i != 0) := rfl
theorem tru_tup (ds : List D) (st : Store) : truD (D.tup ds) st = some (!ds.isEmpty) := rfl
theorem cmp_int (r : Int → Int → Bool) (i j : Int) (st : Store) : cmpD r (D.int i) (D.int j) st = some (Rs.ok (D.bl (r i j)) st) := rfl
theorem eq_str (x y : Str) (st : Store) : eqD false (D.str x) (D.str y) st = some (Rs.ok (D.bl (decide (x = y))) st) := rfl
theorem ne_str (x y : Str) (st : Store) : eqD true (D.str x) (D.str y) st = some (Rs.ok (D.bl (!decide (x = y))) st) := rfl
theorem eq_int (x y : Int) (st : Store) : eqD false (D.int x) (D.int y) st = some (Rs.ok (D.bl (decide (x = y))) st) := rfl
theorem ne_int (x y : Int) (st : Store) : eqD true (D.int x) (D.int y) st = some (Rs.ok (D.bl (!decide (x = y))) st) := rfl
theorem isN_non : isNonD D.non = true := rfl
theorem isN_int (i : Int) : isNonD (D.int i) = false := rfl
theorem isN_tup (l : List D) : isNonD (D.tup l) = false := rfl
theorem isN_str (x : Str) : isNonD (D.str x) = false := rfl
theorem bools_map {α : Type} (l : List α) (f : α → Bool) : bools (l.map fun x => D.bl (f x)) = some (l.map f) := by
  induction l with
  | nil => rfl
  | cons x l ih => simp [bools, ih]
def letters : List Nat := ("abcdefghijklmnopqrstuvwxyz" : Str).cps.toList
def isName (w : Str) : Bool := decide (1 ≤ w.length) && decide (w.length ≤ 6) && w.cps.toList.all fun x => decide (x ∈ letters)
theorem trim_more {st : Store} {d : D} (h : pureD d = true) (c : Cell) : trim st d (st ++ [c]) = st := trim_app h
/-- a text walked -/
theorem nxt_str (w : Str) (i : Nat) (st : Store) : ItV.nxt (.str w) i st = some ((w.cps.toList.map fun c => D.str ⟨#[c]⟩)[i]?) := by
  simp [ItV.nxt]
theorem is_name_ok (c : Pc) (w : Str) (st : Store) (hw : w.length ≤ 1000) : m_is_name c [D.str w] st = some (Rs.ok (D.bl (isName w)) st) := by
  have hl : w.length ≤ LIM := by unfold LIM; omega
  unfold m_is_name b_is_name isName
  simp only [runM, seqS, asgS, retS, exprS, ifS, nextS, varF, conF, binF, consA, nilA, callF, chainF, negF, andF, orF, notF, ifF, truF, bolF, isNT, isNF, notT, andT, orT, gNameF, gTupF, gConsF, gNilF, parS, sliceF, partF, noPart, tupF, lstF, mthF, mth0F, kStr, bindR_ok, bindR_err, bindR_none, List.map_cons, List.map_nil, List.length_cons, List.length_nil, List.append_eq, List.cons_append, List.nil_append, List.replicate_succ, List.replicate_zero, Nat.reduceSub, Nat.reduceAdd, List.getElem?_cons_zero, List.getElem?_cons_succ, List.set_cons_zero, List.set_cons_succ, if_true, if_false, Bool.false_eq_true, reduceIte, lenD, leD, ltD, geD, gtD, addD, subD, isN_non, isN_int, isN_tup, isN_str, tru_bl, tru_non, tru_int, cmp_int, eq_str, ne_str, eq_int, ne_int, Bool.not_true, Bool.not_false, wipeE, Option.some.injEq]
  rw [if_pos hl]
  simp only [runM, seqS, asgS, retS, exprS, ifS, nextS, varF, conF, binF, consA, nilA, callF, chainF, negF, andF, orF, notF, ifF, truF, bolF, isNT, isNF, notT, andT, orT, gNameF, gTupF, gConsF, gNilF, parS, sliceF, partF, noPart, tupF, lstF, mthF, mth0F, kStr, bindR_ok, bindR_err, bindR_none, List.map_cons, List.map_nil, List.length_cons, List.length_nil, List.append_eq, List.cons_append, List.nil_append, List.replicate_succ, List.replicate_zero, Nat.reduceSub, Nat.reduceAdd, List.getElem?_cons_zero, List.getElem?_cons_succ, List.set_cons_zero, List.set_cons_succ, if_true, if_false, Bool.false_eq_true, reduceIte, lenD, leD, ltD, geD, gtD, addD, subD, isN_non, isN_int, isN_tup, isN_str, tru_bl, tru_non, tru_int, cmp_int, eq_str, ne_str, eq_int, ne_int, Bool.not_true, Bool.not_false, wipeE, Option.some.injEq]
  have e1 : ((1 : Int) ≤ (w.length : Int)) ↔ 1 ≤ w.length := by omega
  have e2 : ((w.length : Int) ≤ 6) ↔ w.length ≤ 6 := by omega
  simp only [e1, e2]
  cases h1 : decide (1 ≤ w.length) with
  | false => simp only [runM, seqS, asgS, retS, exprS, ifS, nextS, varF, conF, binF, consA, nilA, callF, chainF, negF, andF, orF, notF, ifF, truF, bolF, isNT, isNF, notT, andT, orT, gNameF, gTupF, gConsF, gNilF, parS, sliceF, partF, noPart, tupF, lstF, mthF, mth0F, kStr, bindR_ok, bindR_err, bindR_none, List.map_cons, List.map_nil, List.length_cons, List.length_nil, List.append_eq, List.cons_append, List.nil_append, List.replicate_succ, List.replicate_zero, Nat.reduceSub, Nat.reduceAdd, List.getElem?_cons_zero, List.getElem?_cons_succ, List.set_cons_zero, List.set_cons_succ, if_true, if_false, Bool.false_eq_true, reduceIte, lenD, leD, ltD, geD, gtD, addD, subD, isN_non, isN_int, isN_tup, isN_str, tru_bl, tru_non, tru_int, cmp_int, eq_str, ne_str, eq_int, ne_int, Bool.not_true, Bool.not_false, wipeE, Option.some.injEq]; simp [trim_self]
  | true =>
    simp only [runM, seqS, asgS, retS, exprS, ifS, nextS, varF, conF, binF, consA, nilA, callF, chainF, negF, andF, orF, notF, ifF, truF, bolF, isNT, isNF, notT, andT, orT, gNameF, gTupF, gConsF, gNilF, parS, sliceF, partF, noPart, tupF, lstF, mthF, mth0F, kStr, bindR_ok, bindR_err, bindR_none, List.map_cons, List.map_nil, List.length_cons, List.length_nil, List.append_eq, List.cons_append, List.nil_append, List.replicate_succ, List.replicate_zero, Nat.reduceSub, Nat.reduceAdd, List.getElem?_cons_zero, List.getElem?_cons_succ, List.set_cons_zero, List.set_cons_succ, if_true, if_false, Bool.false_eq_true, reduceIte, lenD, leD, ltD, geD, gtD, addD, subD, isN_non, isN_int, isN_tup, isN_str, tru_bl, tru_non, tru_int, cmp_int, eq_str, ne_str, eq_int, ne_int, Bool.not_true, Bool.not_false, wipeE, Option.some.injEq]
    cases h2 : decide (w.length ≤ 6) with
    | false => simp only [runM, seqS, asgS, retS, exprS, ifS, nextS, varF, conF, binF, consA, nilA, callF, chainF, negF, andF, orF, notF, ifF, truF, bolF, isNT, isNF, notT, andT, orT, gNameF, gTupF, gConsF, gNilF, parS, sliceF, partF, noPart, tupF, lstF, mthF, mth0F, kStr, bindR_ok, bindR_err, bindR_none, List.map_cons, List.map_nil, List.length_cons, List.length_nil, List.append_eq, List.cons_append, List.nil_append, List.replicate_succ, List.replicate_zero, Nat.reduceSub, Nat.reduceAdd, List.getElem?_cons_zero, List.getElem?_cons_succ, List.set_cons_zero, List.set_cons_succ, if_true, if_false, Bool.false_eq_true, reduceIte, lenD, leD, ltD, geD, gtD, addD, subD, isN_non, isN_int, isN_tup, isN_str, tru_bl, tru_non, tru_int, cmp_int, eq_str, ne_str, eq_int, ne_int, Bool.not_true, Bool.not_false, wipeE, Option.some.injEq]; simp [trim_self]
    | true =>
      simp only [runM, seqS, asgS, retS, exprS, ifS, nextS, varF, conF, binF, consA, nilA, callF, chainF, negF, andF, orF, notF, ifF, truF, bolF, isNT, isNF, notT, andT, orT, gNameF, gTupF, gConsF, gNilF, parS, sliceF, partF, noPart, tupF, lstF, mthF, mth0F, kStr, bindR_ok, bindR_err, bindR_none, List.map_cons, List.map_nil, List.length_cons, List.length_nil, List.append_eq, List.cons_append, List.nil_append, List.replicate_succ, List.replicate_zero, Nat.reduceSub, Nat.reduceAdd, List.getElem?_cons_zero, List.getElem?_cons_succ, List.set_cons_zero, List.set_cons_succ, if_true, if_false, Bool.false_eq_true, reduceIte, lenD, leD, ltD, geD, gtD, addD, subD, isN_non, isN_int, isN_tup, isN_str, tru_bl, tru_non, tru_int, cmp_int, eq_str, ne_str, eq_int, ne_int, Bool.not_true, Bool.not_false, wipeE, Option.some.injEq]
      have hlen : (w.cps.toList.map fun c => D.str ⟨#[c]⟩).length < FUEL := by
        have : w.cps.toList.length = w.length := rfl
        rw [List.length_map, this]; unfold FUEL; omega
      rw [lcF_all (base := st) (it := .str w) (ds := w.cps.toList.map fun c => D.str ⟨#[c]⟩) (y := fun d => match d with | .str x => D.bl (decide (x.cps.toList.headD 0 ∈ letters)) | d => d) (by simp [iterF, varF]) (fun i acc => nxt_str w i _) (fun d hd acc => ?_) hlen]
      · simp only [runM, seqS, asgS, retS, exprS, ifS, nextS, varF, conF, binF, consA, nilA, callF, chainF, negF, andF, orF, notF, ifF, truF, bolF, isNT, isNF, notT, andT, orT, gNameF, gTupF, gConsF, gNilF, parS, sliceF, partF, noPart, tupF, lstF, mthF, mth0F, kStr, bindR_ok, bindR_err, bindR_none, List.map_cons, List.map_nil, List.length_cons, List.length_nil, List.append_eq, List.cons_append, List.nil_append, List.replicate_succ, List.replicate_zero, Nat.reduceSub, Nat.reduceAdd, List.getElem?_cons_zero, List.getElem?_cons_succ, List.set_cons_zero, List.set_cons_succ, if_true, if_false, Bool.false_eq_true, reduceIte, lenD, leD, ltD, geD, gtD, addD, subD, isN_non, isN_int, isN_tup, isN_str, tru_bl, tru_non, tru_int, cmp_int, eq_str, ne_str, eq_int, ne_int, Bool.not_true, Bool.not_false, wipeE, Option.some.injEq]
        have e3 : (st ++ [Cell.lst ((w.cps.toList.map fun c => D.str ⟨#[c]⟩).map fun d => match d with | .str x => D.bl (decide (x.cps.toList.headD 0 ∈ letters)) | d => d)])[st.length]? = some (Cell.lst (w.cps.toList.map fun c => D.bl (decide (c ∈ letters)))) := by
          simp only [List.map_map, Function.comp_def, List.getElem?_append_right (Nat.le_refl _), Nat.sub_self, List.getElem?_cons_zero, Option.some.injEq, Cell.lst.injEq]
          exact List.map_congr_left fun x _ => rfl
        simp only [allD, e3, bools_map, bindR_ok]
        rw [trim_more rfl]
        simp
      · obtain ⟨x, hx, rfl⟩ := List.mem_map.mp hd
        refine ⟨[some (D.str w), some (D.str ⟨#[x]⟩)], rfl, ?_⟩
        simp only [runM, seqS, asgS, retS, exprS, ifS, nextS, varF, conF, binF, consA, nilA, callF, chainF, negF, andF, orF, notF, ifF, truF, bolF, isNT, isNF, notT, andT, orT, gNameF, gTupF, gConsF, gNilF, parS, sliceF, partF, noPart, tupF, lstF, mthF, mth0F, kStr, bindR_ok, bindR_err, bindR_none, List.map_cons, List.map_nil, List.length_cons, List.length_nil, List.append_eq, List.cons_append, List.nil_append, List.replicate_succ, List.replicate_zero, Nat.reduceSub, Nat.reduceAdd, List.getElem?_cons_zero, List.getElem?_cons_succ, List.set_cons_zero, List.set_cons_succ, if_true, if_false, Bool.false_eq_true, reduceIte, lenD, leD, ltD, geD, gtD, addD, subD, isN_non, isN_int, isN_tup, isN_str, tru_bl, tru_non, tru_int, cmp_int, eq_str, ne_str, eq_int, ne_int, Bool.not_true, Bool.not_false, wipeE, Option.some.injEq]
        rfl
/-! ### numbers -/
def intO : Option Int → D
  | none => D.non
  | some i => D.int i
def figs (w : Str) : Str := if Txt.startswith w "-" = true then Txt.slice w (some 1) none else w
def readInt (w : Str) : Option (Option Int) := if 1000 < w.length then none else
  if Txt.isascii (figs w) && Txt.isdigit (figs w) then (match PySem.intText? w with
    | none => none
    | some n => if w.length ≤ 640 ∧ n.natAbs.log2 < 1920 then some (if (toString n : Str) = w then some n else none) else none) else some none
theorem read_integer_ok (c : Pc) (w : Str) (o : Option Int) (st : Store) (h : readInt w = some o) : m_read_integer c [D.str w] st = some (Rs.ok (intO o) st) := by
  unfold readInt at h
  split at h
  · cases h
  rename_i hw
  have hl : w.length ≤ LIM := by unfold LIM; omega
  unfold m_read_integer b_read_integer
  simp only [runM, seqS, asgS, retS, exprS, ifS, nextS, varF, conF, binF, consA, nilA, callF, chainF, negF, andF, orF, notF, ifF, truF, bolF, isNT, isNF, notT, andT, orT, gNameF, gTupF, gConsF, gNilF, parS, sliceF, partF, noPart, tupF, lstF, mthF, mth0F, kStr, bindR_ok, bindR_err, bindR_none, List.map_cons, List.map_nil, List.length_cons, List.length_nil, List.append_eq, List.cons_append, List.nil_append, List.replicate_succ, List.replicate_zero, Nat.reduceSub, Nat.reduceAdd, List.getElem?_cons_zero, List.getElem?_cons_succ, List.set_cons_zero, List.set_cons_succ, if_true, if_false, Bool.false_eq_true, reduceIte, lenD, leD, ltD, geD, gtD, addD, subD, isN_non, isN_int, isN_tup, isN_str, tru_bl, tru_non, tru_int, cmp_int, eq_str, ne_str, eq_int, ne_int, Bool.not_true, Bool.not_false, wipeE, Option.some.injEq]
  simp only [startswithD, bindR_ok, tru_bl]
  generalize hf : figs w = f at h
  have e1 : (if Txt.startswith w "-" = true then slD (D.str w) (some 1) none st else some (Rs.ok (D.str w) st)) = some (Rs.ok (D.str f) st) := by
    subst hf
    unfold figs
    split
    · simp only [slD]; rw [if_pos hl]
    · rfl
  rw [e1]
  simp only [runM, seqS, asgS, retS, exprS, ifS, nextS, varF, conF, binF, consA, nilA, callF, chainF, negF, andF, orF, notF, ifF, truF, bolF, isNT, isNF, notT, andT, orT, gNameF, gTupF, gConsF, gNilF, parS, sliceF, partF, noPart, tupF, lstF, mthF, mth0F, kStr, bindR_ok, bindR_err, bindR_none, List.map_cons, List.map_nil, List.length_cons, List.length_nil, List.append_eq, List.cons_append, List.nil_append, List.replicate_succ, List.replicate_zero, Nat.reduceSub, Nat.reduceAdd, List.getElem?_cons_zero, List.getElem?_cons_succ, List.set_cons_zero, List.set_cons_succ, if_true, if_false, Bool.false_eq_true, reduceIte, lenD, leD, ltD, geD, gtD, addD, subD, isN_non, isN_int, isN_tup, isN_str, tru_bl, tru_non, tru_int, cmp_int, eq_str, ne_str, eq_int, ne_int, Bool.not_true, Bool.not_false, wipeE, Option.some.injEq]
  simp only [isasciiD, bindR_ok, tru_bl]
  cases ha : Txt.isascii f with
  | false =>
    rw [ha] at h
    simp at h
    subst h
    simp only [runM, seqS, asgS, retS, exprS, ifS, nextS, varF, conF, binF, consA, nilA, callF, chainF, negF, andF, orF, notF, ifF, truF, bolF, isNT, isNF, notT, andT, orT, gNameF, gTupF, gConsF, gNilF, parS, sliceF, partF, noPart, tupF, lstF, mthF, mth0F, kStr, bindR_ok, bindR_err, bindR_none, List.map_cons, List.map_nil, List.length_cons, List.length_nil, List.append_eq, List.cons_append, List.nil_append, List.replicate_succ, List.replicate_zero, Nat.reduceSub, Nat.reduceAdd, List.getElem?_cons_zero, List.getElem?_cons_succ, List.set_cons_zero, List.set_cons_succ, if_true, if_false, Bool.false_eq_true, reduceIte, lenD, leD, ltD, geD, gtD, addD, subD, isN_non, isN_int, isN_tup, isN_str, tru_bl, tru_non, tru_int, cmp_int, eq_str, ne_str, eq_int, ne_int, Bool.not_true, Bool.not_false, wipeE, Option.some.injEq]
    simp [trim_self, intO]
  | true =>
    simp only [runM, seqS, asgS, retS, exprS, ifS, nextS, varF, conF, binF, consA, nilA, callF, chainF, negF, andF, orF, notF, ifF, truF, bolF, isNT, isNF, notT, andT, orT, gNameF, gTupF, gConsF, gNilF, parS, sliceF, partF, noPart, tupF, lstF, mthF, mth0F, kStr, bindR_ok, bindR_err, bindR_none, List.map_cons, List.map_nil, List.length_cons, List.length_nil, List.append_eq, List.cons_append, List.nil_append, List.replicate_succ, List.replicate_zero, Nat.reduceSub, Nat.reduceAdd, List.getElem?_cons_zero, List.getElem?_cons_succ, List.set_cons_zero, List.set_cons_succ, if_true, if_false, Bool.false_eq_true, reduceIte, lenD, leD, ltD, geD, gtD, addD, subD, isN_non, isN_int, isN_tup, isN_str, tru_bl, tru_non, tru_int, cmp_int, eq_str, ne_str, eq_int, ne_int, Bool.not_true, Bool.not_false, wipeE, Option.some.injEq]
    simp only [isdigitD, bindR_ok, tru_bl]
    cases hd : Txt.isdigit f with
    | false =>
      rw [ha, hd] at h
      simp at h
      subst h
      simp only [runM, seqS, asgS, retS, exprS, ifS, nextS, varF, conF, binF, consA, nilA, callF, chainF, negF, andF, orF, notF, ifF, truF, bolF, isNT, isNF, notT, andT, orT, gNameF, gTupF, gConsF, gNilF, parS, sliceF, partF, noPart, tupF, lstF, mthF, mth0F, kStr, bindR_ok, bindR_err, bindR_none, List.map_cons, List.map_nil, List.length_cons, List.length_nil, List.append_eq, List.cons_append, List.nil_append, List.replicate_succ, List.replicate_zero, Nat.reduceSub, Nat.reduceAdd, List.getElem?_cons_zero, List.getElem?_cons_succ, List.set_cons_zero, List.set_cons_succ, if_true, if_false, Bool.false_eq_true, reduceIte, lenD, leD, ltD, geD, gtD, addD, subD, isN_non, isN_int, isN_tup, isN_str, tru_bl, tru_non, tru_int, cmp_int, eq_str, ne_str, eq_int, ne_int, Bool.not_true, Bool.not_false, wipeE, Option.some.injEq]
      simp [trim_self, intO]
    | true =>
      rw [ha, hd] at h
      simp only [Bool.and_self, if_true] at h
      simp only [runM, seqS, asgS, retS, exprS, ifS, nextS, varF, conF, binF, consA, nilA, callF, chainF, negF, andF, orF, notF, ifF, truF, bolF, isNT, isNF, notT, andT, orT, gNameF, gTupF, gConsF, gNilF, parS, sliceF, partF, noPart, tupF, lstF, mthF, mth0F, kStr, bindR_ok, bindR_err, bindR_none, List.map_cons, List.map_nil, List.length_cons, List.length_nil, List.append_eq, List.cons_append, List.nil_append, List.replicate_succ, List.replicate_zero, Nat.reduceSub, Nat.reduceAdd, List.getElem?_cons_zero, List.getElem?_cons_succ, List.set_cons_zero, List.set_cons_succ, if_true, if_false, Bool.false_eq_true, reduceIte, lenD, leD, ltD, geD, gtD, addD, subD, isN_non, isN_int, isN_tup, isN_str, tru_bl, tru_non, tru_int, cmp_int, eq_str, ne_str, eq_int, ne_int, Bool.not_true, Bool.not_false, wipeE, Option.some.injEq]
      split at h
      · cases h
      · rename_i n hn
        split at h
        · rename_i hs
          simp only [Option.some.injEq] at h
          simp only [intD, hn]
          rw [if_pos hs.1]
          simp only [runM, seqS, asgS, retS, exprS, ifS, nextS, varF, conF, binF, consA, nilA, callF, chainF, negF, andF, orF, notF, ifF, truF, bolF, isNT, isNF, notT, andT, orT, gNameF, gTupF, gConsF, gNilF, parS, sliceF, partF, noPart, tupF, lstF, mthF, mth0F, kStr, bindR_ok, bindR_err, bindR_none, List.map_cons, List.map_nil, List.length_cons, List.length_nil, List.append_eq, List.cons_append, List.nil_append, List.replicate_succ, List.replicate_zero, Nat.reduceSub, Nat.reduceAdd, List.getElem?_cons_zero, List.getElem?_cons_succ, List.set_cons_zero, List.set_cons_succ, if_true, if_false, Bool.false_eq_true, reduceIte, lenD, leD, ltD, geD, gtD, addD, subD, isN_non, isN_int, isN_tup, isN_str, tru_bl, tru_non, tru_int, cmp_int, eq_str, ne_str, eq_int, ne_int, Bool.not_true, Bool.not_false, wipeE, Option.some.injEq]
          simp only [strD]
          rw [if_pos hs.2]
          simp only [runM, seqS, asgS, retS, exprS, ifS, nextS, varF, conF, binF, consA, nilA, callF, chainF, negF, andF, orF, notF, ifF, truF, bolF, isNT, isNF, notT, andT, orT, gNameF, gTupF, gConsF, gNilF, parS, sliceF, partF, noPart, tupF, lstF, mthF, mth0F, kStr, bindR_ok, bindR_err, bindR_none, List.map_cons, List.map_nil, List.length_cons, List.length_nil, List.append_eq, List.cons_append, List.nil_append, List.replicate_succ, List.replicate_zero, Nat.reduceSub, Nat.reduceAdd, List.getElem?_cons_zero, List.getElem?_cons_succ, List.set_cons_zero, List.set_cons_succ, if_true, if_false, Bool.false_eq_true, reduceIte, lenD, leD, ltD, geD, gtD, addD, subD, isN_non, isN_int, isN_tup, isN_str, tru_bl, tru_non, tru_int, cmp_int, eq_str, ne_str, eq_int, ne_int, Bool.not_true, Bool.not_false, wipeE, Option.some.injEq]
          by_cases he : (toString n : Str) = w
          · rw [if_pos he] at h
            subst h
            simp only [decide_eq_true_eq]
            rw [if_pos he]
            simp only [runM, seqS, asgS, retS, exprS, ifS, nextS, varF, conF, binF, consA, nilA, callF, chainF, negF, andF, orF, notF, ifF, truF, bolF, isNT, isNF, notT, andT, orT, gNameF, gTupF, gConsF, gNilF, parS, sliceF, partF, noPart, tupF, lstF, mthF, mth0F, kStr, bindR_ok, bindR_err, bindR_none, List.map_cons, List.map_nil, List.length_cons, List.length_nil, List.append_eq, List.cons_append, List.nil_append, List.replicate_succ, List.replicate_zero, Nat.reduceSub, Nat.reduceAdd, List.getElem?_cons_zero, List.getElem?_cons_succ, List.set_cons_zero, List.set_cons_succ, if_true, if_false, Bool.false_eq_true, reduceIte, lenD, leD, ltD, geD, gtD, addD, subD, isN_non, isN_int, isN_tup, isN_str, tru_bl, tru_non, tru_int, cmp_int, eq_str, ne_str, eq_int, ne_int, Bool.not_true, Bool.not_false, wipeE, Option.some.injEq]
            simp [trim_self, intO]
          · rw [if_neg he] at h
            subst h
            simp only [decide_eq_true_eq]
            rw [if_neg he]
            simp only [runM, seqS, asgS, retS, exprS, ifS, nextS, varF, conF, binF, consA, nilA, callF, chainF, negF, andF, orF, notF, ifF, truF, bolF, isNT, isNF, notT, andT, orT, gNameF, gTupF, gConsF, gNilF, parS, sliceF, partF, noPart, tupF, lstF, mthF, mth0F, kStr, bindR_ok, bindR_err, bindR_none, List.map_cons, List.map_nil, List.length_cons, List.length_nil, List.append_eq, List.cons_append, List.nil_append, List.replicate_succ, List.replicate_zero, Nat.reduceSub, Nat.reduceAdd, List.getElem?_cons_zero, List.getElem?_cons_succ, List.set_cons_zero, List.set_cons_succ, if_true, if_false, Bool.false_eq_true, reduceIte, lenD, leD, ltD, geD, gtD, addD, subD, isN_non, isN_int, isN_tup, isN_str, tru_bl, tru_non, tru_int, cmp_int, eq_str, ne_str, eq_int, ne_int, Bool.not_true, Bool.not_false, wipeE, Option.some.injEq]
            simp [trim_self, intO]
        · cases h
/-! ### fractions -/
abbrev Fr := Int × Int
def frD (f : Fr) : D := D.tup [D.int f.1, D.int f.2]
def frO : Option Fr → D
  | none => D.non
  | some f => frD f
def readFrac (w : Str) : Option (Option Fr) := if 1000 < w.length then none else
  match readInt (Txt.partition w "/").1 with
  | none => none
  | some none => some none
  | some (some t) => if (Txt.partition w "/").2.1 = "" then some (some (t, 1)) else match readInt (Txt.partition w "/").2.2 with
    | none => none
    | some none => some none
    | some (some b) => some (if b < 2 then none else if Nat.gcd t.natAbs b.natAbs = 1 then some (t, b) else none)
theorem dcall1 {m : Mir} {f : EF} {env : PF.Env} {st st1 : Store} {d : D} (h : f env st = some (Rs.ok d st1)) : dcallF 1 m (consA f nilA) env st = m [d] st1 := by
  unfold dcallF consA nilA
  rw [h]
  rfl
theorem read_fraction_ok (c : Pc) (w : Str) (o : Option Fr) (st : Store) (h : readFrac w = some o) : m_read_fraction c [D.str w] st = some (Rs.ok (frO o) st) := by
  unfold readFrac at h
  split at h
  · cases h
  rename_i hw
  have hl : w.length ≤ LIM := by unfold LIM; omega
  unfold m_read_fraction b_read_fraction
  simp only [runM, seqS, asgS, retS, exprS, ifS, nextS, varF, conF, binF, consA, nilA, callF, chainF, negF, andF, orF, notF, ifF, truF, bolF, isNT, isNF, notT, andT, orT, gNameF, gTupF, gConsF, gNilF, parS, sliceF, partF, noPart, tupF, lstF, mthF, mth0F, kStr, bindR_ok, bindR_err, bindR_none, List.map_cons, List.map_nil, List.length_cons, List.length_nil, List.append_eq, List.cons_append, List.nil_append, List.replicate_succ, List.replicate_zero, Nat.reduceSub, Nat.reduceAdd, List.getElem?_cons_zero, List.getElem?_cons_succ, List.set_cons_zero, List.set_cons_succ, if_true, if_false, Bool.false_eq_true, reduceIte, lenD, leD, ltD, geD, gtD, addD, subD, isN_non, isN_int, isN_tup, isN_str, tru_bl, tru_non, tru_int, cmp_int, eq_str, ne_str, eq_int, ne_int, Bool.not_true, Bool.not_false, wipeE, Option.some.injEq]
  simp only [partitionD]
  rw [if_pos ⟨by decide +kernel, hl⟩]
  simp only [runM, seqS, asgS, retS, exprS, ifS, nextS, varF, conF, binF, consA, nilA, callF, chainF, negF, andF, orF, notF, ifF, truF, bolF, isNT, isNF, notT, andT, orT, gNameF, gTupF, gConsF, gNilF, parS, sliceF, partF, noPart, tupF, lstF, mthF, mth0F, kStr, bindR_ok, bindR_err, bindR_none, List.map_cons, List.map_nil, List.length_cons, List.length_nil, List.append_eq, List.cons_append, List.nil_append, List.replicate_succ, List.replicate_zero, Nat.reduceSub, Nat.reduceAdd, List.getElem?_cons_zero, List.getElem?_cons_succ, List.set_cons_zero, List.set_cons_succ, if_true, if_false, Bool.false_eq_true, reduceIte, lenD, leD, ltD, geD, gtD, addD, subD, isN_non, isN_int, isN_tup, isN_str, tru_bl, tru_non, tru_int, cmp_int, eq_str, ne_str, eq_int, ne_int, Bool.not_true, Bool.not_false, wipeE, Option.some.injEq]
  rw [dcall1 (d := D.str (Txt.partition w "/").1) rfl]
  split at h
  · cases h
  · rename_i e1
    rw [read_integer_ok c _ _ _ e1]
    cases h
    simp only [intO]
    simp only [runM, seqS, asgS, retS, exprS, ifS, nextS, varF, conF, binF, consA, nilA, callF, chainF, negF, andF, orF, notF, ifF, truF, bolF, isNT, isNF, notT, andT, orT, gNameF, gTupF, gConsF, gNilF, parS, sliceF, partF, noPart, tupF, lstF, mthF, mth0F, kStr, bindR_ok, bindR_err, bindR_none, List.map_cons, List.map_nil, List.length_cons, List.length_nil, List.append_eq, List.cons_append, List.nil_append, List.replicate_succ, List.replicate_zero, Nat.reduceSub, Nat.reduceAdd, List.getElem?_cons_zero, List.getElem?_cons_succ, List.set_cons_zero, List.set_cons_succ, if_true, if_false, Bool.false_eq_true, reduceIte, lenD, leD, ltD, geD, gtD, addD, subD, isN_non, isN_int, isN_tup, isN_str, tru_bl, tru_non, tru_int, cmp_int, eq_str, ne_str, eq_int, ne_int, Bool.not_true, Bool.not_false, wipeE, Option.some.injEq]
    simp [trim_self, frO]
  · rename_i t e1
    rw [read_integer_ok c _ _ _ e1]
    simp only [intO]
    simp only [runM, seqS, asgS, retS, exprS, ifS, nextS, varF, conF, binF, consA, nilA, callF, chainF, negF, andF, orF, notF, ifF, truF, bolF, isNT, isNF, notT, andT, orT, gNameF, gTupF, gConsF, gNilF, parS, sliceF, partF, noPart, tupF, lstF, mthF, mth0F, kStr, bindR_ok, bindR_err, bindR_none, List.map_cons, List.map_nil, List.length_cons, List.length_nil, List.append_eq, List.cons_append, List.nil_append, List.replicate_succ, List.replicate_zero, Nat.reduceSub, Nat.reduceAdd, List.getElem?_cons_zero, List.getElem?_cons_succ, List.set_cons_zero, List.set_cons_succ, if_true, if_false, Bool.false_eq_true, reduceIte, lenD, leD, ltD, geD, gtD, addD, subD, isN_non, isN_int, isN_tup, isN_str, tru_bl, tru_non, tru_int, cmp_int, eq_str, ne_str, eq_int, ne_int, Bool.not_true, Bool.not_false, wipeE, Option.some.injEq]
    by_cases e2 : (Txt.partition w "/").2.1 = ""
    · rw [if_pos e2] at h
      cases h
      simp only [e2, decide_true]
      simp only [runM, seqS, asgS, retS, exprS, ifS, nextS, varF, conF, binF, consA, nilA, callF, chainF, negF, andF, orF, notF, ifF, truF, bolF, isNT, isNF, notT, andT, orT, gNameF, gTupF, gConsF, gNilF, parS, sliceF, partF, noPart, tupF, lstF, mthF, mth0F, kStr, bindR_ok, bindR_err, bindR_none, List.map_cons, List.map_nil, List.length_cons, List.length_nil, List.append_eq, List.cons_append, List.nil_append, List.replicate_succ, List.replicate_zero, Nat.reduceSub, Nat.reduceAdd, List.getElem?_cons_zero, List.getElem?_cons_succ, List.set_cons_zero, List.set_cons_succ, if_true, if_false, Bool.false_eq_true, reduceIte, lenD, leD, ltD, geD, gtD, addD, subD, isN_non, isN_int, isN_tup, isN_str, tru_bl, tru_non, tru_int, cmp_int, eq_str, ne_str, eq_int, ne_int, Bool.not_true, Bool.not_false, wipeE, Option.some.injEq]
      rw [if_pos (by decide)]
      simp [trim_self, frO, frD]
    · rw [if_neg e2] at h
      simp only [decide_eq_false e2]
      simp only [runM, seqS, asgS, retS, exprS, ifS, nextS, varF, conF, binF, consA, nilA, callF, chainF, negF, andF, orF, notF, ifF, truF, bolF, isNT, isNF, notT, andT, orT, gNameF, gTupF, gConsF, gNilF, parS, sliceF, partF, noPart, tupF, lstF, mthF, mth0F, kStr, bindR_ok, bindR_err, bindR_none, List.map_cons, List.map_nil, List.length_cons, List.length_nil, List.append_eq, List.cons_append, List.nil_append, List.replicate_succ, List.replicate_zero, Nat.reduceSub, Nat.reduceAdd, List.getElem?_cons_zero, List.getElem?_cons_succ, List.set_cons_zero, List.set_cons_succ, if_true, if_false, Bool.false_eq_true, reduceIte, lenD, leD, ltD, geD, gtD, addD, subD, isN_non, isN_int, isN_tup, isN_str, tru_bl, tru_non, tru_int, cmp_int, eq_str, ne_str, eq_int, ne_int, Bool.not_true, Bool.not_false, wipeE, Option.some.injEq]
      rw [dcall1 (d := D.str (Txt.partition w "/").2.2) rfl]
      split at h
      · cases h
      · rename_i e3
        rw [read_integer_ok c _ _ _ e3]
        cases h
        simp only [intO]
        simp only [runM, seqS, asgS, retS, exprS, ifS, nextS, varF, conF, binF, consA, nilA, callF, chainF, negF, andF, orF, notF, ifF, truF, bolF, isNT, isNF, notT, andT, orT, gNameF, gTupF, gConsF, gNilF, parS, sliceF, partF, noPart, tupF, lstF, mthF, mth0F, kStr, bindR_ok, bindR_err, bindR_none, List.map_cons, List.map_nil, List.length_cons, List.length_nil, List.append_eq, List.cons_append, List.nil_append, List.replicate_succ, List.replicate_zero, Nat.reduceSub, Nat.reduceAdd, List.getElem?_cons_zero, List.getElem?_cons_succ, List.set_cons_zero, List.set_cons_succ, if_true, if_false, Bool.false_eq_true, reduceIte, lenD, leD, ltD, geD, gtD, addD, subD, isN_non, isN_int, isN_tup, isN_str, tru_bl, tru_non, tru_int, cmp_int, eq_str, ne_str, eq_int, ne_int, Bool.not_true, Bool.not_false, wipeE, Option.some.injEq]
        simp [trim_self, frO]
      · rename_i b e3
        rw [read_integer_ok c _ _ _ e3]
        simp only [intO]
        simp only [runM, seqS, asgS, retS, exprS, ifS, nextS, varF, conF, binF, consA, nilA, callF, chainF, negF, andF, orF, notF, ifF, truF, bolF, isNT, isNF, notT, andT, orT, gNameF, gTupF, gConsF, gNilF, parS, sliceF, partF, noPart, tupF, lstF, mthF, mth0F, kStr, bindR_ok, bindR_err, bindR_none, List.map_cons, List.map_nil, List.length_cons, List.length_nil, List.append_eq, List.cons_append, List.nil_append, List.replicate_succ, List.replicate_zero, Nat.reduceSub, Nat.reduceAdd, List.getElem?_cons_zero, List.getElem?_cons_succ, List.set_cons_zero, List.set_cons_succ, if_true, if_false, Bool.false_eq_true, reduceIte, lenD, leD, ltD, geD, gtD, addD, subD, isN_non, isN_int, isN_tup, isN_str, tru_bl, tru_non, tru_int, cmp_int, eq_str, ne_str, eq_int, ne_int, Bool.not_true, Bool.not_false, wipeE, Option.some.injEq]
        by_cases hb : b < 2
        · rw [if_pos hb] at h
          cases h
          simp only [decide_eq_true hb]
          simp only [runM, seqS, asgS, retS, exprS, ifS, nextS, varF, conF, binF, consA, nilA, callF, chainF, negF, andF, orF, notF, ifF, truF, bolF, isNT, isNF, notT, andT, orT, gNameF, gTupF, gConsF, gNilF, parS, sliceF, partF, noPart, tupF, lstF, mthF, mth0F, kStr, bindR_ok, bindR_err, bindR_none, List.map_cons, List.map_nil, List.length_cons, List.length_nil, List.append_eq, List.cons_append, List.nil_append, List.replicate_succ, List.replicate_zero, Nat.reduceSub, Nat.reduceAdd, List.getElem?_cons_zero, List.getElem?_cons_succ, List.set_cons_zero, List.set_cons_succ, if_true, if_false, Bool.false_eq_true, reduceIte, lenD, leD, ltD, geD, gtD, addD, subD, isN_non, isN_int, isN_tup, isN_str, tru_bl, tru_non, tru_int, cmp_int, eq_str, ne_str, eq_int, ne_int, Bool.not_true, Bool.not_false, wipeE, Option.some.injEq]
          simp [trim_self, frO]
        · rw [if_neg hb] at h
          simp only [decide_eq_false hb]
          simp only [runM, seqS, asgS, retS, exprS, ifS, nextS, varF, conF, binF, consA, nilA, callF, chainF, negF, andF, orF, notF, ifF, truF, bolF, isNT, isNF, notT, andT, orT, gNameF, gTupF, gConsF, gNilF, parS, sliceF, partF, noPart, tupF, lstF, mthF, mth0F, kStr, bindR_ok, bindR_err, bindR_none, List.map_cons, List.map_nil, List.length_cons, List.length_nil, List.append_eq, List.cons_append, List.nil_append, List.replicate_succ, List.replicate_zero, Nat.reduceSub, Nat.reduceAdd, List.getElem?_cons_zero, List.getElem?_cons_succ, List.set_cons_zero, List.set_cons_succ, if_true, if_false, Bool.false_eq_true, reduceIte, lenD, leD, ltD, geD, gtD, addD, subD, isN_non, isN_int, isN_tup, isN_str, tru_bl, tru_non, tru_int, cmp_int, eq_str, ne_str, eq_int, ne_int, Bool.not_true, Bool.not_false, wipeE, Option.some.injEq]
          simp only [gcdD, bindR_ok, ne_int]
          by_cases hg : Nat.gcd t.natAbs b.natAbs = 1
          · rw [if_pos hg] at h
            cases h
            rw [hg]
            have e5 : ((1 : Nat) : Int) = 1 := rfl
            simp only [e5, decide_true]
            simp only [runM, seqS, asgS, retS, exprS, ifS, nextS, varF, conF, binF, consA, nilA, callF, chainF, negF, andF, orF, notF, ifF, truF, bolF, isNT, isNF, notT, andT, orT, gNameF, gTupF, gConsF, gNilF, parS, sliceF, partF, noPart, tupF, lstF, mthF, mth0F, kStr, bindR_ok, bindR_err, bindR_none, List.map_cons, List.map_nil, List.length_cons, List.length_nil, List.append_eq, List.cons_append, List.nil_append, List.replicate_succ, List.replicate_zero, Nat.reduceSub, Nat.reduceAdd, List.getElem?_cons_zero, List.getElem?_cons_succ, List.set_cons_zero, List.set_cons_succ, if_true, if_false, Bool.false_eq_true, reduceIte, lenD, leD, ltD, geD, gtD, addD, subD, isN_non, isN_int, isN_tup, isN_str, tru_bl, tru_non, tru_int, cmp_int, eq_str, ne_str, eq_int, ne_int, Bool.not_true, Bool.not_false, wipeE, Option.some.injEq]
            rw [if_pos (by decide)]
            simp [trim_self, frO, frD]
          · rw [if_neg hg] at h
            cases h
            have : ¬ ((Nat.gcd t.natAbs b.natAbs : Nat) : Int) = 1 := by omega
            simp only [decide_eq_false this]
            simp only [runM, seqS, asgS, retS, exprS, ifS, nextS, varF, conF, binF, consA, nilA, callF, chainF, negF, andF, orF, notF, ifF, truF, bolF, isNT, isNF, notT, andT, orT, gNameF, gTupF, gConsF, gNilF, parS, sliceF, partF, noPart, tupF, lstF, mthF, mth0F, kStr, bindR_ok, bindR_err, bindR_none, List.map_cons, List.map_nil, List.length_cons, List.length_nil, List.append_eq, List.cons_append, List.nil_append, List.replicate_succ, List.replicate_zero, Nat.reduceSub, Nat.reduceAdd, List.getElem?_cons_zero, List.getElem?_cons_succ, List.set_cons_zero, List.set_cons_succ, if_true, if_false, Bool.false_eq_true, reduceIte, lenD, leD, ltD, geD, gtD, addD, subD, isN_non, isN_int, isN_tup, isN_str, tru_bl, tru_non, tru_int, cmp_int, eq_str, ne_str, eq_int, ne_int, Bool.not_true, Bool.not_false, wipeE, Option.some.injEq]
            simp [trim_self, frO]
def fits (f : Fr) : Bool := decide (-1000 ≤ f.1) && decide (f.1 ≤ 1000) && decide (f.2 ≤ 60)
theorem fits_ok (c : Pc) (f : Fr) (st : Store) : m_fits c [frD f] st = some (Rs.ok (D.bl (fits f)) st) := by
  unfold m_fits b_fits frD fits
  simp only [runM, seqS, asgS, retS, exprS, ifS, nextS, varF, conF, binF, consA, nilA, callF, chainF, negF, andF, orF, notF, ifF, truF, bolF, isNT, isNF, notT, andT, orT, gNameF, gTupF, gConsF, gNilF, parS, sliceF, partF, noPart, tupF, lstF, mthF, mth0F, kStr, bindR_ok, bindR_err, bindR_none, List.map_cons, List.map_nil, List.length_cons, List.length_nil, List.append_eq, List.cons_append, List.nil_append, List.replicate_succ, List.replicate_zero, Nat.reduceSub, Nat.reduceAdd, List.getElem?_cons_zero, List.getElem?_cons_succ, List.set_cons_zero, List.set_cons_succ, if_true, if_false, Bool.false_eq_true, reduceIte, lenD, leD, ltD, geD, gtD, addD, subD, isN_non, isN_int, isN_tup, isN_str, tru_bl, tru_non, tru_int, cmp_int, eq_str, ne_str, eq_int, ne_int, Bool.not_true, Bool.not_false, wipeE, Option.some.injEq]
  cases h1 : decide (-1000 ≤ f.1) with
  | false => simp only [runM, seqS, asgS, retS, exprS, ifS, nextS, varF, conF, binF, consA, nilA, callF, chainF, negF, andF, orF, notF, ifF, truF, bolF, isNT, isNF, notT, andT, orT, gNameF, gTupF, gConsF, gNilF, parS, sliceF, partF, noPart, tupF, lstF, mthF, mth0F, kStr, bindR_ok, bindR_err, bindR_none, List.map_cons, List.map_nil, List.length_cons, List.length_nil, List.append_eq, List.cons_append, List.nil_append, List.replicate_succ, List.replicate_zero, Nat.reduceSub, Nat.reduceAdd, List.getElem?_cons_zero, List.getElem?_cons_succ, List.set_cons_zero, List.set_cons_succ, if_true, if_false, Bool.false_eq_true, reduceIte, lenD, leD, ltD, geD, gtD, addD, subD, isN_non, isN_int, isN_tup, isN_str, tru_bl, tru_non, tru_int, cmp_int, eq_str, ne_str, eq_int, ne_int, Bool.not_true, Bool.not_false, wipeE, Option.some.injEq]; simp [trim_self]
  | true =>
    simp only [runM, seqS, asgS, retS, exprS, ifS, nextS, varF, conF, binF, consA, nilA, callF, chainF, negF, andF, orF, notF, ifF, truF, bolF, isNT, isNF, notT, andT, orT, gNameF, gTupF, gConsF, gNilF, parS, sliceF, partF, noPart, tupF, lstF, mthF, mth0F, kStr, bindR_ok, bindR_err, bindR_none, List.map_cons, List.map_nil, List.length_cons, List.length_nil, List.append_eq, List.cons_append, List.nil_append, List.replicate_succ, List.replicate_zero, Nat.reduceSub, Nat.reduceAdd, List.getElem?_cons_zero, List.getElem?_cons_succ, List.set_cons_zero, List.set_cons_succ, if_true, if_false, Bool.false_eq_true, reduceIte, lenD, leD, ltD, geD, gtD, addD, subD, isN_non, isN_int, isN_tup, isN_str, tru_bl, tru_non, tru_int, cmp_int, eq_str, ne_str, eq_int, ne_int, Bool.not_true, Bool.not_false, wipeE, Option.some.injEq]
    cases h2 : decide (f.1 ≤ 1000) with
    | false => simp only [runM, seqS, asgS, retS, exprS, ifS, nextS, varF, conF, binF, consA, nilA, callF, chainF, negF, andF, orF, notF, ifF, truF, bolF, isNT, isNF, notT, andT, orT, gNameF, gTupF, gConsF, gNilF, parS, sliceF, partF, noPart, tupF, lstF, mthF, mth0F, kStr, bindR_ok, bindR_err, bindR_none, List.map_cons, List.map_nil, List.length_cons, List.length_nil, List.append_eq, List.cons_append, List.nil_append, List.replicate_succ, List.replicate_zero, Nat.reduceSub, Nat.reduceAdd, List.getElem?_cons_zero, List.getElem?_cons_succ, List.set_cons_zero, List.set_cons_succ, if_true, if_false, Bool.false_eq_true, reduceIte, lenD, leD, ltD, geD, gtD, addD, subD, isN_non, isN_int, isN_tup, isN_str, tru_bl, tru_non, tru_int, cmp_int, eq_str, ne_str, eq_int, ne_int, Bool.not_true, Bool.not_false, wipeE, Option.some.injEq]; simp [trim_self]
    | true => simp only [runM, seqS, asgS, retS, exprS, ifS, nextS, varF, conF, binF, consA, nilA, callF, chainF, negF, andF, orF, notF, ifF, truF, bolF, isNT, isNF, notT, andT, orT, gNameF, gTupF, gConsF, gNilF, parS, sliceF, partF, noPart, tupF, lstF, mthF, mth0F, kStr, bindR_ok, bindR_err, bindR_none, List.map_cons, List.map_nil, List.length_cons, List.length_nil, List.append_eq, List.cons_append, List.nil_append, List.replicate_succ, List.replicate_zero, Nat.reduceSub, Nat.reduceAdd, List.getElem?_cons_zero, List.getElem?_cons_succ, List.set_cons_zero, List.set_cons_succ, if_true, if_false, Bool.false_eq_true, reduceIte, lenD, leD, ltD, geD, gtD, addD, subD, isN_non, isN_int, isN_tup, isN_str, tru_bl, tru_non, tru_int, cmp_int, eq_str, ne_str, eq_int, ne_int, Bool.not_true, Bool.not_false, wipeE, Option.some.injEq]; simp [trim_self]
end Cr
end
section
namespace Cr
open PySem PF
/-! ### rows -/
def rowD (r : List Fr) : D := D.tup (r.map frD)
def rowO : Option (List Fr) → D
  | none => D.non
  | some r => rowD r
def okFr : Option Fr → Bool
  | none => false
  | some f => fits f
def rowOf (os : List (Option Fr)) : Option (List Fr) := if os.all okFr then some (os.filterMap id) else none
theorem nxt_cell {n i : Nat} {st : Store} {ds : List D} (h : st[n]? = some (Cell.lst ds)) : ItV.nxt (.lst n) i st = some ds[i]? := by
  simp only [ItV.nxt, h]
theorem get_app {st : Store} {n : Nat} {c : Cell} (h : st[n]? = some c) (g : Store) : (st ++ g)[n]? = some c := by
  rw [List.getElem?_append_left (List.getElem?_eq_some_iff.mp h).1]; exact h
theorem get_end (st : Store) (c : Cell) : (st ++ [c])[st.length]? = some c := by simp
theorem get_end1 (st : Store) (c c' : Cell) : (st ++ [c] ++ [c'])[st.length]? = some c := by simp
theorem iter_cell {env : PF.Env} {st : Store} {i n : Nat} {ds : List D} (h : env[i]? = some (some (D.cell n))) (hn : st[n]? = some (Cell.lst ds)) : iterF (varF i) env st = some (Rs.ok (.lst n) st) := by
  simp only [iterF, varF, h, bindR_ok, hn]
theorem frO_all {os : List (Option Fr)} (h : os.all okFr = true) : os.map frO = (os.filterMap id).map frD := by
  induction os with
  | nil => rfl
  | cons o os ih =>
    simp only [List.all_cons, Bool.and_eq_true] at h
    cases o with
    | none => cases h.1
    | some f => simp [ih h.2, frO]
theorem pure_row (r : List Fr) : pureD (rowD r) = true := by
  unfold rowD
  simp only [pureD]
  induction r with
  | nil => rfl
  | cons f r ih => simp [pureDs, ih, frD, pureD]
theorem isNon_fr (o : Option Fr) : isNonD (frO o) = o.isNone := by
  cases o <;> rfl
theorem read_row_ok (c : Pc) (ws : List Str) (os : List (Option Fr)) (n : Nat) (st : Store) (hn : st[n]? = some (Cell.lst (ws.map D.str))) (h : ws.map readFrac = os.map some) (hl : ws.length ≤ 1000) : m_read_row c [D.cell n] st = some (Rs.ok (rowO (rowOf os)) st) := by
  have hlo : os.length = ws.length := by have := congrArg List.length h; simpa using this.symm
  unfold m_read_row b_read_row
  simp only [runM, seqS, setLcS, ifS, retS, bindR_ok, List.map_cons, List.map_nil, List.length_cons, List.length_nil, List.cons_append, List.nil_append, List.replicate_succ, List.replicate_zero, Nat.reduceSub, Nat.reduceAdd]
  rw [lcF_all (base := st) (it := .lst n) (ds := ws.map D.str) (y := fun d => match d with | .str w => frO ((readFrac w).getD none) | d => d) (iter_cell rfl hn) (fun i acc => nxt_cell (get_app hn _)) (fun d hd acc => ?_) (by rw [List.length_map]; unfold FUEL; omega)]
  · have em : (ws.map D.str).map (fun d => match d with | .str w => frO ((readFrac w).getD none) | d => d) = os.map frO := by
      rw [List.map_map]
      have : ws.map (fun w => frO ((readFrac w).getD none)) = (ws.map readFrac).map fun o => frO (o.getD none) := by rw [List.map_map]; rfl
      show ws.map (fun w => frO ((readFrac w).getD none)) = _
      rw [this, h, List.map_map]
      rfl
    rw [em]
    simp only [runM, seqS, asgS, retS, exprS, ifS, nextS, varF, conF, binF, consA, nilA, callF, chainF, negF, andF, orF, notF, ifF, truF, bolF, isNT, isNF, notT, andT, orT, gNameF, gTupF, gConsF, gNilF, parS, sliceF, partF, noPart, tupF, lstF, mthF, mth0F, kStr, bindR_ok, bindR_err, bindR_none, List.map_cons, List.map_nil, List.length_cons, List.length_nil, List.append_eq, List.cons_append, List.nil_append, List.replicate_succ, List.replicate_zero, Nat.reduceSub, Nat.reduceAdd, List.getElem?_cons_zero, List.getElem?_cons_succ, List.set_cons_zero, List.set_cons_succ, if_true, if_false, Bool.false_eq_true, reduceIte, lenD, leD, ltD, geD, gtD, addD, subD, isN_non, isN_int, isN_tup, isN_str, tru_bl, tru_non, tru_int, cmp_int, eq_str, ne_str, eq_int, ne_int, Bool.not_true, Bool.not_false, wipeE, Option.some.injEq]
    rw [lcF_all (base := st ++ [Cell.lst (os.map frO)]) (it := .lst st.length) (ds := os.map frO) (y := fun d => match d with | .tup [.int t, .int b] => D.bl (fits (t, b)) | d => D.bl false) (iter_cell rfl (get_end _ _)) (fun i acc => nxt_cell (get_end1 _ _ _)) (fun d hd acc => ?_) (by rw [List.length_map, hlo]; unfold FUEL; omega)]
    · have e2 : (os.map frO).map (fun d => match d with | .tup [.int t, .int b] => D.bl (fits (t, b)) | d => D.bl false) = os.map fun o => D.bl (okFr o) := by
        rw [List.map_map]
        exact List.map_congr_left fun o _ => by cases o <;> rfl
      rw [e2]
      simp only [runM, seqS, asgS, retS, exprS, ifS, nextS, varF, conF, binF, consA, nilA, callF, chainF, negF, andF, orF, notF, ifF, truF, bolF, isNT, isNF, notT, andT, orT, gNameF, gTupF, gConsF, gNilF, parS, sliceF, partF, noPart, tupF, lstF, mthF, mth0F, kStr, bindR_ok, bindR_err, bindR_none, List.map_cons, List.map_nil, List.length_cons, List.length_nil, List.append_eq, List.cons_append, List.nil_append, List.replicate_succ, List.replicate_zero, Nat.reduceSub, Nat.reduceAdd, List.getElem?_cons_zero, List.getElem?_cons_succ, List.set_cons_zero, List.set_cons_succ, if_true, if_false, Bool.false_eq_true, reduceIte, lenD, leD, ltD, geD, gtD, addD, subD, isN_non, isN_int, isN_tup, isN_str, tru_bl, tru_non, tru_int, cmp_int, eq_str, ne_str, eq_int, ne_int, Bool.not_true, Bool.not_false, wipeE, Option.some.injEq]
      simp only [allD, get_end, bools_map, bindR_ok, tru_bl, Bool.false_eq_true, if_false]
      have e3 : (os.map okFr).all id = os.all okFr := by simp [List.all_map, Function.comp_def]
      rw [e3]
      have e4 : st ++ [Cell.lst (os.map frO)] ++ [Cell.lst (os.map fun o => D.bl (okFr o))] = st ++ ([Cell.lst (os.map frO)] ++ [Cell.lst (os.map fun o => D.bl (okFr o))]) := List.append_assoc ..
      cases ha : os.all okFr with
      | false =>
        first | simp only [runM, seqS, asgS, retS, exprS, ifS, nextS, varF, conF, binF, consA, nilA, callF, chainF, negF, andF, orF, notF, ifF, truF, bolF, isNT, isNF, notT, andT, orT, gNameF, gTupF, gConsF, gNilF, parS, sliceF, partF, noPart, tupF, lstF, mthF, mth0F, kStr, bindR_ok, bindR_err, bindR_none, List.map_cons, List.map_nil, List.length_cons, List.length_nil, List.append_eq, List.cons_append, List.nil_append, List.replicate_succ, List.replicate_zero, Nat.reduceSub, Nat.reduceAdd, List.getElem?_cons_zero, List.getElem?_cons_succ, List.set_cons_zero, List.set_cons_succ, if_true, if_false, Bool.false_eq_true, reduceIte, lenD, leD, ltD, geD, gtD, addD, subD, isN_non, isN_int, isN_tup, isN_str, tru_bl, tru_non, tru_int, cmp_int, eq_str, ne_str, eq_int, ne_int, Bool.not_true, Bool.not_false, wipeE, Option.some.injEq] | skip
        rw [e4, trim_app rfl]
        simp [rowOf, ha, rowO]
      | true =>
        simp only [runM, seqS, asgS, retS, exprS, ifS, nextS, varF, conF, binF, consA, nilA, callF, chainF, negF, andF, orF, notF, ifF, truF, bolF, isNT, isNF, notT, andT, orT, gNameF, gTupF, gConsF, gNilF, parS, sliceF, partF, noPart, tupF, lstF, mthF, mth0F, kStr, bindR_ok, bindR_err, bindR_none, List.map_cons, List.map_nil, List.length_cons, List.length_nil, List.append_eq, List.cons_append, List.nil_append, List.replicate_succ, List.replicate_zero, Nat.reduceSub, Nat.reduceAdd, List.getElem?_cons_zero, List.getElem?_cons_succ, List.set_cons_zero, List.set_cons_succ, if_true, if_false, Bool.false_eq_true, reduceIte, lenD, leD, ltD, geD, gtD, addD, subD, isN_non, isN_int, isN_tup, isN_str, tru_bl, tru_non, tru_int, cmp_int, eq_str, ne_str, eq_int, ne_int, Bool.not_true, Bool.not_false, wipeE, Option.some.injEq]
        simp only [tupleD, get_end1, bindR_ok]
        rw [e4, frO_all ha]
        have e5 := pure_row (os.filterMap id)
        unfold rowD at e5
        rw [trim_app e5]
        simp [rowOf, ha, rowO, rowD]
    · obtain ⟨o, ho, rfl⟩ := List.mem_map.mp hd
      refine ⟨[some (D.cell n), some (D.cell st.length), none, some (frO o)], rfl, ?_⟩
      simp only [runM, seqS, asgS, retS, exprS, ifS, nextS, varF, conF, binF, consA, nilA, callF, chainF, negF, andF, orF, notF, ifF, truF, bolF, isNT, isNF, notT, andT, orT, gNameF, gTupF, gConsF, gNilF, parS, sliceF, partF, noPart, tupF, lstF, mthF, mth0F, kStr, bindR_ok, bindR_err, bindR_none, List.map_cons, List.map_nil, List.length_cons, List.length_nil, List.append_eq, List.cons_append, List.nil_append, List.replicate_succ, List.replicate_zero, Nat.reduceSub, Nat.reduceAdd, List.getElem?_cons_zero, List.getElem?_cons_succ, List.set_cons_zero, List.set_cons_succ, if_true, if_false, Bool.false_eq_true, reduceIte, lenD, leD, ltD, geD, gtD, addD, subD, isN_non, isN_int, isN_tup, isN_str, tru_bl, tru_non, tru_int, cmp_int, eq_str, ne_str, eq_int, ne_int, Bool.not_true, Bool.not_false, wipeE, Option.some.injEq]
      cases o with
      | none => rfl
      | some f =>
        have e7 : dcallF 1 (m_fits c) (consA (varF 3) nilA) [some (D.cell n), some (D.cell st.length), none, some (frO (some f))] (st ++ [Cell.lst (os.map frO)] ++ [Cell.lst acc]) = some (Rs.ok (D.bl (fits f)) (st ++ [Cell.lst (os.map frO)] ++ [Cell.lst acc])) := by
          rw [dcall1 (d := frD f) rfl, fits_ok]
        exact e7
  · obtain ⟨w, hw, rfl⟩ := List.mem_map.mp hd
    refine ⟨[some (D.cell n), none, some (D.str w), none], rfl, ?_⟩
    rw [dcall1 (d := D.str w) rfl]
    have : (readFrac w) ∈ os.map some := by rw [← h]; exact List.mem_map.mpr ⟨w, hw, rfl⟩
    obtain ⟨o, _, e⟩ := List.mem_map.mp this
    rw [read_fraction_ok c w o _ e.symm]
    have e9 : frO ((readFrac w).getD none) = frO o := by rw [← e]; rfl
    rw [← e9]
end Cr
end
section
namespace Cr
open PySem PF
/-! ### == of rows, of cords -/
def frP (f : Fr) : PyData := PyData.tuple [PyData.int f.1, PyData.int f.2]
def rowP (r : List Fr) : PyData := PyData.tuple (r.map frP)
def cdD (p : Str × Str) : D := D.tup [D.str p.1, D.str p.2]
def cdP (p : Str × Str) : PyData := PyData.tuple [PyData.str p.1, PyData.str p.2]
theorem dp_fr (st : Store) (k : Nat) (f : Fr) : dp st (k + 2) (frD f) = some (frP f) := rfl
theorem omap_map {α β : Type} {g : D → Option β} {f : α → D} {h : α → β} (l : List α) (e : ∀ x, g (f x) = some (h x)) : omap g (l.map f) = some (l.map h) := by
  induction l with
  | nil => rfl
  | cons x l ih => simp [omap, e, ih]
theorem dp_row (st : Store) (k : Nat) (r : List Fr) : dp st (k + 3) (rowD r) = some (rowP r) := by
  unfold rowD dp
  simp only [omap_map r (fun f => dp_fr st k f)]
  rfl
theorem can_row (r : List Fr) : (rowP r).canLay0 = true := by
  unfold rowP
  simp only [PyData.canLay0]
  induction r with
  | nil => rfl
  | cons f r ih => simp [PyData.canLayAll0, ih, frP, PyData.canLay0]
theorem dep_row (r : List Fr) : (rowP r).depth ≤ 2 := by
  unfold rowP
  simp only [PyData.depth]
  induction r with
  | nil => simp [PyData.depthAll]
  | cons f r ih =>
    have : (frP f).depth = 1 := rfl
    simp only [List.map_cons, PyData.depthAll, this]
    omega
theorem shaped_row (r : List Fr) : SeqAt.shaped (rowP r) = true := by
  unfold SeqAt.shaped
  rw [can_row]
  have := dep_row r
  simp; omega
theorem eqv_fr (f g : Fr) : PyData.eqv (frP f) (frP g) = decide (f = g) := by
  obtain ⟨a, b⟩ := f
  obtain ⟨c, d⟩ := g
  simp only [frP, PyData.eqv, PyData.eqvAll, Bool.and_true, Prod.mk.injEq, Bool.decide_and]
  rfl
theorem eqv_row : ∀ r s : List Fr, PyData.eqv (rowP r) (rowP s) = decide (r = s)
  | [], [] => by simp [rowP, PyData.eqv, PyData.eqvAll]
  | [], _ :: _ => by simp [rowP, PyData.eqv, PyData.eqvAll]
  | _ :: _, [] => by simp [rowP, PyData.eqv, PyData.eqvAll]
  | f :: r, g :: s => by
    have ih := eqv_row r s
    simp only [rowP, PyData.eqv] at ih ⊢
    simp only [List.map_cons, PyData.eqvAll, ih, eqv_fr, List.cons.injEq, Bool.decide_and]
theorem eq_row (r s : List Fr) (st : Store) : eqD false (rowD r) (rowD s) st = some (Rs.ok (D.bl (decide (r = s))) st) := by
  have e1 : eqS (rowD r) (rowD s) = none := rfl
  unfold eqD eqDD
  rw [e1]
  simp only [dp_row st 57]
  rw [if_pos ⟨shaped_row r, shaped_row s⟩]
  simp only [eqv_row]
  rfl
theorem dp_cd (st : Store) (k : Nat) (p : Str × Str) : dp st (k + 2) (cdD p) = some (cdP p) := rfl
theorem eqv_cd (p q : Str × Str) : PyData.eqv (cdP p) (cdP q) = decide (p = q) := by
  obtain ⟨a, b⟩ := p
  obtain ⟨c, d⟩ := q
  simp only [cdP, PyData.eqv, PyData.eqvAll, Bool.and_true, Prod.mk.injEq, Bool.decide_and]
  rfl
end Cr
end
section
namespace Cr
open PySem PF
/-! ### what a draft holds -/
structure DR where
  co : Int
  pg : List Str
  rg : List Str
  cd : List (Str × Str)
  pl : List (Str × List Fr)
  wt : List (Str × List Fr)
def drF (k : Nat) (co : Int) : List (Str × D) := [("coords", D.int co), ("pegs", D.cell (k + 1)), ("rings", D.cell (k + 2)), ("cords", D.cell (k + 3)), ("places", D.cell (k + 4)), ("weights", D.cell (k + 5))]
def plD (l : List (Str × List Fr)) : List (L2.Key × D) := l.map fun p => (Sum.inr p.1, rowD p.2)
structure DrAt (c : Pc) (st : Store) (k : Nat) (r : DR) : Prop where
  h0 : st[k]? = some (Cell.ins c.Draft (drF k r.co))
  h1 : st[k + 1]? = some (Cell.lst (r.pg.map D.str))
  h2 : st[k + 2]? = some (Cell.lst (r.rg.map D.str))
  h3 : st[k + 3]? = some (Cell.lst (r.cd.map cdD))
  h4 : st[k + 4]? = some (Cell.dct (plD r.pl))
  h5 : st[k + 5]? = some (Cell.dct (plD r.wt))
theorem DrAt.more {c : Pc} {st : Store} {k : Nat} {r : DR} (h : DrAt c st k r) (g : Store) : DrAt c (st ++ g) k r :=
  ⟨get_app h.h0 g, get_app h.h1 g, get_app h.h2 g, get_app h.h3 g, get_app h.h4 g, get_app h.h5 g⟩
section
variable {c : Pc} {st : Store} {k i : Nat} {r : DR} {env : PF.Env}
theorem fld_of {C : Addr} {f : Str} {fs : List (Str × D)} {d : D} (he : env[i]? = some (some (D.cell k))) (h : st[k]? = some (Cell.ins C fs)) (l : fs.lookup f = some d) : fldF C f (varF i) env st = some (Rs.ok d st) := by
  simp only [fldF, varF, he, bindR_ok, h, if_true, l]
theorem f_coords (he : env[i]? = some (some (D.cell k))) (h : DrAt c st k r) : fldF c.Draft "coords" (varF i) env st = some (Rs.ok (D.int r.co) st) := fld_of he h.h0 rfl
theorem f_pegs (he : env[i]? = some (some (D.cell k))) (h : DrAt c st k r) : fldF c.Draft "pegs" (varF i) env st = some (Rs.ok (D.cell (k + 1)) st) := fld_of he h.h0 rfl
theorem f_rings (he : env[i]? = some (some (D.cell k))) (h : DrAt c st k r) : fldF c.Draft "rings" (varF i) env st = some (Rs.ok (D.cell (k + 2)) st) := fld_of he h.h0 rfl
theorem f_cords (he : env[i]? = some (some (D.cell k))) (h : DrAt c st k r) : fldF c.Draft "cords" (varF i) env st = some (Rs.ok (D.cell (k + 3)) st) := fld_of he h.h0 rfl
theorem f_places (he : env[i]? = some (some (D.cell k))) (h : DrAt c st k r) : fldF c.Draft "places" (varF i) env st = some (Rs.ok (D.cell (k + 4)) st) := fld_of he h.h0 rfl
theorem f_weights (he : env[i]? = some (some (D.cell k))) (h : DrAt c st k r) : fldF c.Draft "weights" (varF i) env st = some (Rs.ok (D.cell (k + 5)) st) := fld_of he h.h0 rfl
end
def has (l : List (Str × List Fr)) (x : Str) : Bool := l.any fun p => decide (p.1 = x)
def at_ (l : List (Str × List Fr)) (x : Str) : Option (List Fr) := (l.find? fun p => decide (p.1 = x)).map (·.2)
theorem in_dict {st : Store} {n : Nat} {l : List (Str × List Fr)} (h : st[n]? = some (Cell.dct (plD l))) (x : Str) (neg : Bool) : inD neg (D.str x) (D.cell n) st = some (Rs.ok (D.bl (if neg then !has l x else has l x)) st) := by
  simp only [inD, inDD, h, plD, has, List.any_map, Function.comp_def, Sum.inr.injEq]
theorem get_dict {st : Store} {n : Nat} {l : List (Str × List Fr)} (h : st[n]? = some (Cell.dct (plD l))) {x : Str} {r : List Fr} (e : at_ l x = some r) : ixdD (D.cell n) (D.str x) st = some (Rs.ok (rowD r) st) := by
  unfold at_ at e
  obtain ⟨p, hp, rfl⟩ := Option.map_eq_some_iff.mp e
  have : (plD l).find? (fun kv => decide (kv.1 = Sum.inr x)) = some (Sum.inr p.1, rowD p.2) := by
    unfold plD
    rw [List.find?_map]
    simp only [Function.comp_def, Sum.inr.injEq, hp, Option.map_some]
  simp only [ixdD, isDct, h, if_true, ixD, this]
theorem has_at {l : List (Str × List Fr)} {x : Str} (h : has l x = true) : ∃ r, at_ l x = some r := by
  unfold has at h
  unfold at_
  cases e : l.find? fun p => decide (p.1 = x) with
  | some p => exact ⟨p.2, rfl⟩
  | none =>
    rw [List.find?_eq_none] at e
    rw [List.any_eq_true] at h
    obtain ⟨p, hp, q⟩ := h
    exact absurd q (e p hp)
theorem in_cords {st : Store} {n : Nat} {cd : List (Str × Str)} (h : st[n]? = some (Cell.lst (cd.map cdD))) (x y : Str) (ox : PyData.strOk x = true) (oy : PyData.strOk y = true) (oc : ∀ p ∈ cd, PyData.strOk p.1 = true ∧ PyData.strOk p.2 = true) (neg : Bool) :
    inD neg (D.tup [D.str x, D.str y]) (D.cell n) st = some (Rs.ok (D.bl (if neg then !decide ((x, y) ∈ cd) else decide ((x, y) ∈ cd))) st) := by
  have e1 : anyFl (D.tup [D.str x, D.str y]) (cd.map cdD) = none := by
    cases cd <;> rfl
  have e2 : dp st 61 (D.cell n) = some (PyData.list (cd.map cdP)) := by
    unfold dp
    simp only [h, omap_map cd (fun p => dp_cd st 58 p)]
    rfl
  have e3 : dp st 60 (D.tup [D.str x, D.str y]) = some (cdP (x, y)) := dp_cd st 58 (x, y)
  have s1 : ∀ p : Str × Str, PyData.strOk p.1 = true ∧ PyData.strOk p.2 = true → (cdP p).canLay0 = true := fun p q => by
    simp [cdP, PyData.canLay0, PyData.canLayAll0, q.1, q.2]
  have s2 : (PyData.list (cd.map cdP)).canLay0 = true := by
    simp only [PyData.canLay0]
    clear h e1 e2
    induction cd with
    | nil => rfl
    | cons p cd ih =>
      simp only [List.map_cons, PyData.canLayAll0, s1 p (oc p List.mem_cons_self), Bool.true_and]
      exact ih fun q hq => oc q (List.mem_cons_of_mem _ hq)
  have s3 : (PyData.list (cd.map cdP)).depth ≤ 2 := by
    simp only [PyData.depth]
    clear h e1 e2 s2 oc
    induction cd with
    | nil => simp [PyData.depthAll]
    | cons p cd ih =>
      have : (cdP p).depth = 1 := rfl
      simp only [List.map_cons, PyData.depthAll, this]
      omega
  have s4 : SeqAt.shaped (cdP (x, y)) = true ∧ SeqAt.shaped (PyData.list (cd.map cdP)) = true := by
    have : (cdP (x, y)).depth = 1 := rfl
    unfold SeqAt.shaped
    rw [s1 (x, y) ⟨ox, oy⟩, s2, this]
    simp; omega
  have e4 : ((cd.map cdP).any fun z => PyData.eqv z (cdP (x, y))) = decide ((x, y) ∈ cd) := by
    rw [List.any_map]
    simp only [Function.comp_def, eqv_cd]
    rw [Bool.eq_iff_iff]
    simp only [List.any_eq_true, decide_eq_true_eq]
    exact ⟨fun ⟨p, hp, e⟩ => e ▸ hp, fun hp => ⟨_, hp, rfl⟩⟩
  simp only [inD, inDD, h, e1, e2, e3]
  rw [if_pos s4, e4]
end Cr
end
section
namespace Cr
open PySem PF
/-! ### the draft's methods -/
theorem trim_get {st st1 : Store} {d : D} {j : Nat} (h : st.length ≤ st1.length) (hj : j < st.length) : (trim st d st1)[j]? = st1[j]? := by
  unfold trim
  split
  · rename_i q
    have := congrArg (fun l : Store => l[j]?) q.2
    simp only [List.getElem?_take_of_lt hj] at this
    exact this.symm
  · rfl
theorem trim_len {st st1 : Store} {d : D} (h : st.length ≤ st1.length) : st.length ≤ (trim st d st1).length := by
  unfold trim
  split
  · exact Nat.le_refl _
  · exact h
theorem DrAt.lt {c : Pc} {st : Store} {k : Nat} {r : DR} (h : DrAt c st k r) : k + 5 < st.length := (List.getElem?_eq_some_iff.mp h.h5).1
theorem DrAt.of {c : Pc} {st st' : Store} {k : Nat} {r : DR} (h : DrAt c st k r) (e : ∀ j, k ≤ j → j ≤ k + 5 → st'[j]? = st[j]?) : DrAt c st' k r :=
  ⟨(e k (by omega) (by omega)).trans h.h0, (e _ (by omega) (by omega)).trans h.h1, (e _ (by omega) (by omega)).trans h.h2, (e _ (by omega) (by omega)).trans h.h3, (e _ (by omega) (by omega)).trans h.h4, (e _ (by omega) (by omega)).trans h.h5⟩
theorem DrAt.trim {c : Pc} {st st1 : Store} {k : Nat} {r : DR} {d : D} (h : DrAt c st1 k r) (hl : st.length ≤ st1.length) (hk : k + 5 < st.length) : DrAt c (PF.trim st d st1) k r :=
  h.of fun j _ h2 => trim_get hl (by omega)
theorem mcall_of {c : Pc} {st : Store} {k i n : Nat} {r : DR} {env : PF.Env} {x : Str} {m : Mir} {fa : AF} (he : env[i]? = some (some (D.cell k))) (h : DrAt c st k r) (l : (drF k r.co).lookup x = none) : mcallF c.Draft x n m (varF i) fa env st = bindR (fa env st) fun ds st2 => if ds.length + 1 = n then m (D.cell k :: ds) st2 else none := by
  simp only [mcallF, varF, he, bindR_ok, h.h0, l, and_self, if_true]
/-- names that can be compared -/
def Sound (r : DR) : Prop := (∀ p ∈ r.pl, PyData.strOk p.1 = true) ∧ ∀ p ∈ r.cd, PyData.strOk p.1 = true ∧ PyData.strOk p.2 = true
theorem Sound.has {r : DR} (s : Sound r) {x : Str} (h : has r.pl x = true) : PyData.strOk x = true := by
  unfold Cr.has at h
  obtain ⟨p, hp, e⟩ := List.any_eq_true.mp h
  have := of_decide_eq_true e
  rw [← this]
  exact s.1 p hp
def canTie (r : DR) (x y : Str) : Bool := has r.pl x && (has r.pl y && (!decide (at_ r.pl x = at_ r.pl y) && ((has r.wt x || has r.wt y) && (!decide ((x, y) ∈ r.cd) && !decide ((y, x) ∈ r.cd)))))
theorem can_tie_ok (c : Pc) (st : Store) (k : Nat) (r : DR) (h : DrAt c st k r) (s : Sound r) (x y : Str) : m_Draft_can_tie c [D.cell k, D.str x, D.str y] st = some (Rs.ok (D.bl (canTie r x y)) st) := by
  unfold m_Draft_can_tie b_Draft_can_tie canTie
  let E0 : PF.Env := [some (D.cell k), some (D.str x), some (D.str y)]
  have p0 : fldF c.Draft "places" (varF 0) E0 st = some (Rs.ok (D.cell (k + 4)) st) := f_places rfl h
  have p1 : fldF c.Draft "weights" (varF 0) E0 st = some (Rs.ok (D.cell (k + 5)) st) := f_weights rfl h
  have p2 : fldF c.Draft "cords" (varF 0) E0 st = some (Rs.ok (D.cell (k + 3)) st) := f_cords rfl h
  simp only [E0] at p0 p1 p2
  simp only [runM, seqS, asgS, retS, exprS, ifS, nextS, varF, conF, binF, consA, nilA, callF, chainF, negF, andF, orF, notF, ifF, truF, bolF, isNT, isNF, notT, andT, orT, gNameF, gTupF, gConsF, gNilF, parS, sliceF, partF, noPart, tupF, lstF, mthF, mth0F, kStr, bindR_ok, bindR_err, bindR_none, List.map_cons, List.map_nil, List.length_cons, List.length_nil, List.append_eq, List.cons_append, List.nil_append, List.replicate_succ, List.replicate_zero, Nat.reduceSub, Nat.reduceAdd, List.getElem?_cons_zero, List.getElem?_cons_succ, List.set_cons_zero, List.set_cons_succ, if_true, if_false, Bool.false_eq_true, reduceIte, lenD, leD, ltD, geD, gtD, addD, subD, isN_non, isN_int, isN_tup, isN_str, tru_bl, tru_non, tru_int, cmp_int, eq_str, ne_str, eq_int, ne_int, Bool.not_true, Bool.not_false, wipeE, Option.some.injEq, p0, in_dict h.h4]
  cases hx : has r.pl x with
  | false => simp only [runM, seqS, asgS, retS, exprS, ifS, nextS, varF, conF, binF, consA, nilA, callF, chainF, negF, andF, orF, notF, ifF, truF, bolF, isNT, isNF, notT, andT, orT, gNameF, gTupF, gConsF, gNilF, parS, sliceF, partF, noPart, tupF, lstF, mthF, mth0F, kStr, bindR_ok, bindR_err, bindR_none, List.map_cons, List.map_nil, List.length_cons, List.length_nil, List.append_eq, List.cons_append, List.nil_append, List.replicate_succ, List.replicate_zero, Nat.reduceSub, Nat.reduceAdd, List.getElem?_cons_zero, List.getElem?_cons_succ, List.set_cons_zero, List.set_cons_succ, if_true, if_false, Bool.false_eq_true, reduceIte, lenD, leD, ltD, geD, gtD, addD, subD, isN_non, isN_int, isN_tup, isN_str, tru_bl, tru_non, tru_int, cmp_int, eq_str, ne_str, eq_int, ne_int, Bool.not_true, Bool.not_false, wipeE, Option.some.injEq]; simp [trim_self]
  | true =>
    simp only [runM, seqS, asgS, retS, exprS, ifS, nextS, varF, conF, binF, consA, nilA, callF, chainF, negF, andF, orF, notF, ifF, truF, bolF, isNT, isNF, notT, andT, orT, gNameF, gTupF, gConsF, gNilF, parS, sliceF, partF, noPart, tupF, lstF, mthF, mth0F, kStr, bindR_ok, bindR_err, bindR_none, List.map_cons, List.map_nil, List.length_cons, List.length_nil, List.append_eq, List.cons_append, List.nil_append, List.replicate_succ, List.replicate_zero, Nat.reduceSub, Nat.reduceAdd, List.getElem?_cons_zero, List.getElem?_cons_succ, List.set_cons_zero, List.set_cons_succ, if_true, if_false, Bool.false_eq_true, reduceIte, lenD, leD, ltD, geD, gtD, addD, subD, isN_non, isN_int, isN_tup, isN_str, tru_bl, tru_non, tru_int, cmp_int, eq_str, ne_str, eq_int, ne_int, Bool.not_true, Bool.not_false, wipeE, Option.some.injEq, p0, in_dict h.h4]
    cases hy : has r.pl y with
    | false => simp only [runM, seqS, asgS, retS, exprS, ifS, nextS, varF, conF, binF, consA, nilA, callF, chainF, negF, andF, orF, notF, ifF, truF, bolF, isNT, isNF, notT, andT, orT, gNameF, gTupF, gConsF, gNilF, parS, sliceF, partF, noPart, tupF, lstF, mthF, mth0F, kStr, bindR_ok, bindR_err, bindR_none, List.map_cons, List.map_nil, List.length_cons, List.length_nil, List.append_eq, List.cons_append, List.nil_append, List.replicate_succ, List.replicate_zero, Nat.reduceSub, Nat.reduceAdd, List.getElem?_cons_zero, List.getElem?_cons_succ, List.set_cons_zero, List.set_cons_succ, if_true, if_false, Bool.false_eq_true, reduceIte, lenD, leD, ltD, geD, gtD, addD, subD, isN_non, isN_int, isN_tup, isN_str, tru_bl, tru_non, tru_int, cmp_int, eq_str, ne_str, eq_int, ne_int, Bool.not_true, Bool.not_false, wipeE, Option.some.injEq]; simp [trim_self]
    | true =>
      obtain ⟨rx, ex⟩ := has_at hx
      obtain ⟨ry, ey⟩ := has_at hy
      simp only [runM, seqS, asgS, retS, exprS, ifS, nextS, varF, conF, binF, consA, nilA, callF, chainF, negF, andF, orF, notF, ifF, truF, bolF, isNT, isNF, notT, andT, orT, gNameF, gTupF, gConsF, gNilF, parS, sliceF, partF, noPart, tupF, lstF, mthF, mth0F, kStr, bindR_ok, bindR_err, bindR_none, List.map_cons, List.map_nil, List.length_cons, List.length_nil, List.append_eq, List.cons_append, List.nil_append, List.replicate_succ, List.replicate_zero, Nat.reduceSub, Nat.reduceAdd, List.getElem?_cons_zero, List.getElem?_cons_succ, List.set_cons_zero, List.set_cons_succ, if_true, if_false, Bool.false_eq_true, reduceIte, lenD, leD, ltD, geD, gtD, addD, subD, isN_non, isN_int, isN_tup, isN_str, tru_bl, tru_non, tru_int, cmp_int, eq_str, ne_str, eq_int, ne_int, Bool.not_true, Bool.not_false, wipeE, Option.some.injEq, p0, get_dict h.h4 ex, get_dict h.h4 ey, eq_row]
      by_cases he : rx = ry
      · simp only [decide_eq_true he]
        simp only [runM, seqS, asgS, retS, exprS, ifS, nextS, varF, conF, binF, consA, nilA, callF, chainF, negF, andF, orF, notF, ifF, truF, bolF, isNT, isNF, notT, andT, orT, gNameF, gTupF, gConsF, gNilF, parS, sliceF, partF, noPart, tupF, lstF, mthF, mth0F, kStr, bindR_ok, bindR_err, bindR_none, List.map_cons, List.map_nil, List.length_cons, List.length_nil, List.append_eq, List.cons_append, List.nil_append, List.replicate_succ, List.replicate_zero, Nat.reduceSub, Nat.reduceAdd, List.getElem?_cons_zero, List.getElem?_cons_succ, List.set_cons_zero, List.set_cons_succ, if_true, if_false, Bool.false_eq_true, reduceIte, lenD, leD, ltD, geD, gtD, addD, subD, isN_non, isN_int, isN_tup, isN_str, tru_bl, tru_non, tru_int, cmp_int, eq_str, ne_str, eq_int, ne_int, Bool.not_true, Bool.not_false, wipeE, Option.some.injEq]
        simp [trim_self, ex, ey, he]
      · simp only [decide_eq_false he]
        simp only [runM, seqS, asgS, retS, exprS, ifS, nextS, varF, conF, binF, consA, nilA, callF, chainF, negF, andF, orF, notF, ifF, truF, bolF, isNT, isNF, notT, andT, orT, gNameF, gTupF, gConsF, gNilF, parS, sliceF, partF, noPart, tupF, lstF, mthF, mth0F, kStr, bindR_ok, bindR_err, bindR_none, List.map_cons, List.map_nil, List.length_cons, List.length_nil, List.append_eq, List.cons_append, List.nil_append, List.replicate_succ, List.replicate_zero, Nat.reduceSub, Nat.reduceAdd, List.getElem?_cons_zero, List.getElem?_cons_succ, List.set_cons_zero, List.set_cons_succ, if_true, if_false, Bool.false_eq_true, reduceIte, lenD, leD, ltD, geD, gtD, addD, subD, isN_non, isN_int, isN_tup, isN_str, tru_bl, tru_non, tru_int, cmp_int, eq_str, ne_str, eq_int, ne_int, Bool.not_true, Bool.not_false, wipeE, Option.some.injEq, p1, in_dict h.h5]
        have e1 : decide (at_ r.pl x = at_ r.pl y) = false := by rw [ex, ey]; simpa using he
        rw [e1]
        have ox := s.has hx
        have oy := s.has hy
        have lim : (2 : Nat) ≤ LIM := by unfold LIM; omega
        cases hwx : has r.wt x with
        | true =>
          simp only [runM, seqS, asgS, retS, exprS, ifS, nextS, varF, conF, binF, consA, nilA, callF, chainF, negF, andF, orF, notF, ifF, truF, bolF, isNT, isNF, notT, andT, orT, gNameF, gTupF, gConsF, gNilF, parS, sliceF, partF, noPart, tupF, lstF, mthF, mth0F, kStr, bindR_ok, bindR_err, bindR_none, List.map_cons, List.map_nil, List.length_cons, List.length_nil, List.append_eq, List.cons_append, List.nil_append, List.replicate_succ, List.replicate_zero, Nat.reduceSub, Nat.reduceAdd, List.getElem?_cons_zero, List.getElem?_cons_succ, List.set_cons_zero, List.set_cons_succ, if_true, if_false, Bool.false_eq_true, reduceIte, lenD, leD, ltD, geD, gtD, addD, subD, isN_non, isN_int, isN_tup, isN_str, tru_bl, tru_non, tru_int, cmp_int, eq_str, ne_str, eq_int, ne_int, Bool.not_true, Bool.not_false, wipeE, Option.some.injEq, p2, lim, in_cords h.h3 x y ox oy s.2, in_cords h.h3 y x oy ox s.2]
          cases decide ((x, y) ∈ r.cd) <;> (first | simp only [runM, seqS, asgS, retS, exprS, ifS, nextS, varF, conF, binF, consA, nilA, callF, chainF, negF, andF, orF, notF, ifF, truF, bolF, isNT, isNF, notT, andT, orT, gNameF, gTupF, gConsF, gNilF, parS, sliceF, partF, noPart, tupF, lstF, mthF, mth0F, kStr, bindR_ok, bindR_err, bindR_none, List.map_cons, List.map_nil, List.length_cons, List.length_nil, List.append_eq, List.cons_append, List.nil_append, List.replicate_succ, List.replicate_zero, Nat.reduceSub, Nat.reduceAdd, List.getElem?_cons_zero, List.getElem?_cons_succ, List.set_cons_zero, List.set_cons_succ, if_true, if_false, Bool.false_eq_true, reduceIte, lenD, leD, ltD, geD, gtD, addD, subD, isN_non, isN_int, isN_tup, isN_str, tru_bl, tru_non, tru_int, cmp_int, eq_str, ne_str, eq_int, ne_int, Bool.not_true, Bool.not_false, wipeE, Option.some.injEq, p2, lim, in_cords h.h3 y x oy ox s.2] | skip) <;> simp [trim_self]
        | false =>
          simp only [runM, seqS, asgS, retS, exprS, ifS, nextS, varF, conF, binF, consA, nilA, callF, chainF, negF, andF, orF, notF, ifF, truF, bolF, isNT, isNF, notT, andT, orT, gNameF, gTupF, gConsF, gNilF, parS, sliceF, partF, noPart, tupF, lstF, mthF, mth0F, kStr, bindR_ok, bindR_err, bindR_none, List.map_cons, List.map_nil, List.length_cons, List.length_nil, List.append_eq, List.cons_append, List.nil_append, List.replicate_succ, List.replicate_zero, Nat.reduceSub, Nat.reduceAdd, List.getElem?_cons_zero, List.getElem?_cons_succ, List.set_cons_zero, List.set_cons_succ, if_true, if_false, Bool.false_eq_true, reduceIte, lenD, leD, ltD, geD, gtD, addD, subD, isN_non, isN_int, isN_tup, isN_str, tru_bl, tru_non, tru_int, cmp_int, eq_str, ne_str, eq_int, ne_int, Bool.not_true, Bool.not_false, wipeE, Option.some.injEq, p1, in_dict h.h5]
          cases hwy : has r.wt y with
          | true =>
            simp only [runM, seqS, asgS, retS, exprS, ifS, nextS, varF, conF, binF, consA, nilA, callF, chainF, negF, andF, orF, notF, ifF, truF, bolF, isNT, isNF, notT, andT, orT, gNameF, gTupF, gConsF, gNilF, parS, sliceF, partF, noPart, tupF, lstF, mthF, mth0F, kStr, bindR_ok, bindR_err, bindR_none, List.map_cons, List.map_nil, List.length_cons, List.length_nil, List.append_eq, List.cons_append, List.nil_append, List.replicate_succ, List.replicate_zero, Nat.reduceSub, Nat.reduceAdd, List.getElem?_cons_zero, List.getElem?_cons_succ, List.set_cons_zero, List.set_cons_succ, if_true, if_false, Bool.false_eq_true, reduceIte, lenD, leD, ltD, geD, gtD, addD, subD, isN_non, isN_int, isN_tup, isN_str, tru_bl, tru_non, tru_int, cmp_int, eq_str, ne_str, eq_int, ne_int, Bool.not_true, Bool.not_false, wipeE, Option.some.injEq, p2, lim, in_cords h.h3 x y ox oy s.2, in_cords h.h3 y x oy ox s.2]
            cases decide ((x, y) ∈ r.cd) <;> (first | simp only [runM, seqS, asgS, retS, exprS, ifS, nextS, varF, conF, binF, consA, nilA, callF, chainF, negF, andF, orF, notF, ifF, truF, bolF, isNT, isNF, notT, andT, orT, gNameF, gTupF, gConsF, gNilF, parS, sliceF, partF, noPart, tupF, lstF, mthF, mth0F, kStr, bindR_ok, bindR_err, bindR_none, List.map_cons, List.map_nil, List.length_cons, List.length_nil, List.append_eq, List.cons_append, List.nil_append, List.replicate_succ, List.replicate_zero, Nat.reduceSub, Nat.reduceAdd, List.getElem?_cons_zero, List.getElem?_cons_succ, List.set_cons_zero, List.set_cons_succ, if_true, if_false, Bool.false_eq_true, reduceIte, lenD, leD, ltD, geD, gtD, addD, subD, isN_non, isN_int, isN_tup, isN_str, tru_bl, tru_non, tru_int, cmp_int, eq_str, ne_str, eq_int, ne_int, Bool.not_true, Bool.not_false, wipeE, Option.some.injEq, p2, lim, in_cords h.h3 y x oy ox s.2] | skip) <;> simp [trim_self]
          | false =>
            simp only [runM, seqS, asgS, retS, exprS, ifS, nextS, varF, conF, binF, consA, nilA, callF, chainF, negF, andF, orF, notF, ifF, truF, bolF, isNT, isNF, notT, andT, orT, gNameF, gTupF, gConsF, gNilF, parS, sliceF, partF, noPart, tupF, lstF, mthF, mth0F, kStr, bindR_ok, bindR_err, bindR_none, List.map_cons, List.map_nil, List.length_cons, List.length_nil, List.append_eq, List.cons_append, List.nil_append, List.replicate_succ, List.replicate_zero, Nat.reduceSub, Nat.reduceAdd, List.getElem?_cons_zero, List.getElem?_cons_succ, List.set_cons_zero, List.set_cons_succ, if_true, if_false, Bool.false_eq_true, reduceIte, lenD, leD, ltD, geD, gtD, addD, subD, isN_non, isN_int, isN_tup, isN_str, tru_bl, tru_non, tru_int, cmp_int, eq_str, ne_str, eq_int, ne_int, Bool.not_true, Bool.not_false, wipeE, Option.some.injEq]
            simp [trim_self]
end Cr
end
section
namespace Cr
open PySem PF
/-- what a method of the draft at k leaves: the draft r', all other cells as they were -/
structure Out (c : Pc) (st st' : Store) (k : Nat) (r : DR) : Prop where
  dr : DrAt c st' k r
  le : st.length ≤ st'.length
  same : ∀ j, j < st.length → (j < k ∨ k + 5 < j) → st'[j]? = st[j]?
theorem Out.refl {c : Pc} {st : Store} {k : Nat} {r : DR} (h : DrAt c st k r) : Out c st st k r := ⟨h, Nat.le_refl _, fun _ _ _ => rfl⟩
theorem Out.trans {c : Pc} {st st1 st2 : Store} {k : Nat} {r r' : DR} (a : Out c st st1 k r) (b : Out c st1 st2 k r') : Out c st st2 k r' :=
  ⟨b.dr, Nat.le_trans a.le b.le, fun j h1 h2 => (b.same j (Nat.lt_of_lt_of_le h1 a.le) h2).trans (a.same j h1 h2)⟩
theorem Out.trim {c : Pc} {st st1 : Store} {k : Nat} {r : DR} {d : D} (a : Out c st st1 k r) (hk : k + 5 < st.length) : Out c st (PF.trim st d st1) k r :=
  ⟨a.dr.trim a.le hk, trim_len a.le, fun j h1 h2 => (trim_get a.le h1).trans (a.same j h1 h2)⟩
theorem get_set {st : Store} {i j : Nat} {c : Cell} (h : i ≠ j) : (st.set i c)[j]? = st[j]? := List.getElem?_set_ne h
theorem get_set_eq {st : Store} {i : Nat} {c : Cell} (h : i < st.length) : (st.set i c)[i]? = some c := List.getElem?_set_self h
theorem Out.pegs {c : Pc} {st : Store} {k : Nat} {r : DR} (h : DrAt c st k r) (l : List Str) : Out c st (st.set (k + 1) (Cell.lst (l.map D.str))) k { r with pg := l } := by
  have := h.lt
  exact ⟨⟨(get_set (by omega)).trans h.h0, get_set_eq (by omega), (get_set (by omega)).trans h.h2, (get_set (by omega)).trans h.h3, (get_set (by omega)).trans h.h4, (get_set (by omega)).trans h.h5⟩, by simp, fun j _ h2 => get_set (by omega)⟩
theorem Out.rings {c : Pc} {st : Store} {k : Nat} {r : DR} (h : DrAt c st k r) (l : List Str) : Out c st (st.set (k + 2) (Cell.lst (l.map D.str))) k { r with rg := l } := by
  have := h.lt
  exact ⟨⟨(get_set (by omega)).trans h.h0, (get_set (by omega)).trans h.h1, get_set_eq (by omega), (get_set (by omega)).trans h.h3, (get_set (by omega)).trans h.h4, (get_set (by omega)).trans h.h5⟩, by simp, fun j _ h2 => get_set (by omega)⟩
theorem Out.cords {c : Pc} {st : Store} {k : Nat} {r : DR} (h : DrAt c st k r) (l : List (Str × Str)) : Out c st (st.set (k + 3) (Cell.lst (l.map cdD))) k { r with cd := l } := by
  have := h.lt
  exact ⟨⟨(get_set (by omega)).trans h.h0, (get_set (by omega)).trans h.h1, (get_set (by omega)).trans h.h2, get_set_eq (by omega), (get_set (by omega)).trans h.h4, (get_set (by omega)).trans h.h5⟩, by simp, fun j _ h2 => get_set (by omega)⟩
theorem Out.places {c : Pc} {st : Store} {k : Nat} {r : DR} (h : DrAt c st k r) (l : List (Str × List Fr)) : Out c st (st.set (k + 4) (Cell.dct (plD l))) k { r with pl := l } := by
  have := h.lt
  exact ⟨⟨(get_set (by omega)).trans h.h0, (get_set (by omega)).trans h.h1, (get_set (by omega)).trans h.h2, (get_set (by omega)).trans h.h3, get_set_eq (by omega), (get_set (by omega)).trans h.h5⟩, by simp, fun j _ h2 => get_set (by omega)⟩
theorem Out.weights {c : Pc} {st : Store} {k : Nat} {r : DR} (h : DrAt c st k r) (l : List (Str × List Fr)) : Out c st (st.set (k + 5) (Cell.dct (plD l))) k { r with wt := l } := by
  have := h.lt
  exact ⟨⟨(get_set (by omega)).trans h.h0, (get_set (by omega)).trans h.h1, (get_set (by omega)).trans h.h2, (get_set (by omega)).trans h.h3, (get_set (by omega)).trans h.h4, get_set_eq (by omega)⟩, by simp, fun j _ h2 => get_set (by omega)⟩
theorem Out.coords {c : Pc} {st : Store} {k : Nat} {r : DR} (h : DrAt c st k r) (i : Int) : Out c st (st.set k (Cell.ins c.Draft (drF k i))) k { r with co := i } := by
  have := h.lt
  exact ⟨⟨get_set_eq (by omega), (get_set (by omega)).trans h.h1, (get_set (by omega)).trans h.h2, (get_set (by omega)).trans h.h3, (get_set (by omega)).trans h.h4, (get_set (by omega)).trans h.h5⟩, by simp, fun j _ h2 => get_set (by omega)⟩
/-! ### words of a line -/
def Words (st : Store) (n : Nat) (ws : List Str) : Prop := st[n]? = some (Cell.lst (ws.map D.str))
theorem ix_words {st : Store} {n : Nat} {ws : List Str} (h : Words st n ws) {i : Nat} {w : Str} (e : ws[i]? = some w) : ixqD (D.cell n) (D.int (i : Int)) st = some (Rs.ok (D.str w) st) := by
  unfold Words at h
  have : (ws.map D.str)[i]? = some (D.str w) := by rw [List.getElem?_map, e]; rfl
  simp only [ixqD, isDct, h, Bool.false_eq_true, if_false, ixD, L2.atI_nat this]
theorem len_lst {st : Store} {n : Nat} {ds : List D} (h : st[n]? = some (Cell.lst ds)) : lenD [D.cell n] st = some (Rs.ok (D.int ds.length) st) := by
  simp only [lenD, h]
/-! ### a cord -/
def takeCord (r : DR) (ws : List Str) : Option DR := if ws.length = 3 then (if r.cd.length < 20 then (if canTie r (ws.getD 1 "") (ws.getD 2 "") = true then some { r with cd := r.cd ++ [(ws.getD 1 "", ws.getD 2 "")] } else none) else none) else none
theorem append_at {st : Store} {n : Nat} {ds : List D} (h : st[n]? = some (Cell.lst ds)) (hl : ds.length < 1000) (d : D) : appendD (D.cell n) [d] st = some (Rs.ok D.non (st.set n (Cell.lst (ds ++ [d])))) := by
  simp only [appendD, h]
  rw [if_pos (by unfold LIM; omega)]
theorem kLst_at {st : Store} {n : Nat} {ds : List D} (h : st[n]? = some (Cell.lst ds)) : kLst (D.cell n) st = true := by
  simp only [kLst, h]
def Ans (c : Pc) (st : Store) (k : Nat) (r : DR) (o : Option DR) (res : Option (Rs D)) : Prop := ∃ st', res = some (Rs.ok (D.bl o.isSome) st') ∧ Out c st st' k (o.getD r)
theorem Ans.no {c : Pc} {st : Store} {k : Nat} {r : DR} (h : DrAt c st k r) : Ans c st k r none (some (Rs.ok (D.bl false) st)) := ⟨st, rfl, Out.refl h⟩
theorem getD_of {ws : List Str} {i : Nat} (h : i < ws.length) : ws[i]? = some (ws.getD i "") := by
  rw [List.getElem?_eq_getElem h]
  simp [List.getD, List.getElem?_eq_getElem h]
theorem take_cord_ok (c : Pc) (st : Store) (k n : Nat) (r : DR) (ws : List Str) (h : DrAt c st k r) (s : Sound r) (hw : Words st n ws) : Ans c st k r (takeCord r ws) (m_Draft_take_cord c [D.cell k, D.cell n] st) := by
  unfold m_Draft_take_cord b_Draft_take_cord takeCord
  let E0 : PF.Env := [some (D.cell k), some (D.cell n), none, none]
  have p2 : fldF c.Draft "cords" (varF 0) E0 st = some (Rs.ok (D.cell (k + 3)) st) := f_cords rfl h
  simp only [E0] at p2
  have l1 : lenD [D.cell n] st = some (Rs.ok (D.int ws.length) st) := by rw [len_lst hw, List.length_map]
  have l2 : lenD [D.cell (k + 3)] st = some (Rs.ok (D.int r.cd.length) st) := by rw [len_lst h.h3, List.length_map]
  simp only [runM, seqS, ifS, orT, bolF, binF, varF, conF, callF, consA, nilA, List.map_cons, List.map_nil, List.length_cons, List.length_nil, List.cons_append, List.nil_append, Nat.reduceSub, Nat.reduceAdd, List.replicate_succ, List.replicate_zero, List.getElem?_cons_zero, List.getElem?_cons_succ, bindR_ok, l1, ne_int]
  by_cases h3 : ws.length = 3
  · have e3 : ((ws.length : Nat) : Int) = 3 := by omega
    rw [if_pos h3]
    simp only [e3, decide_true, Bool.not_true, Bool.false_eq_true, if_false, p2, bindR_ok, l2, geD, cmp_int]
    by_cases h20 : r.cd.length < 20
    · have e20 : decide ((20 : Int) ≤ (r.cd.length : Int)) = false := decide_eq_false (by omega)
      rw [if_pos h20]
      have x1 : ixqD (D.cell n) (D.int 1) st = some (Rs.ok (D.str (ws.getD 1 "")) st) := ix_words hw (i := 1) (getD_of (by omega))
      have x2 : ixqD (D.cell n) (D.int 2) st = some (Rs.ok (D.str (ws.getD 2 "")) st) := ix_words hw (i := 2) (getD_of (by omega))
      generalize hx : ws.getD 1 "" = x at x1
      generalize hy : ws.getD 2 "" = y at x2
      let E1 : PF.Env := [some (D.cell k), some (D.cell n), some (D.str x), some (D.str y)]
      have p3 : fldF c.Draft "cords" (varF 0) E1 st = some (Rs.ok (D.cell (k + 3)) st) := f_cords rfl h
      have p4 : mcallF c.Draft "can_tie" 3 (m_Draft_can_tie c) (varF 0) (consA (varF 2) (consA (varF 3) nilA)) E1 st = some (Rs.ok (D.bl (canTie r x y)) st) := by
        rw [mcall_of rfl h rfl]
        simp only [E1, consA, varF, nilA, bindR_ok, List.getElem?_cons_zero, List.getElem?_cons_succ, List.length_cons, List.length_nil, Nat.reduceAdd, if_true]
        exact can_tie_ok c st k r h s x y
      simp only [E1] at p3 p4
      simp only [runM, seqS, asgS, retS, exprS, ifS, nextS, varF, conF, binF, consA, nilA, callF, chainF, negF, andF, orF, notF, ifF, truF, bolF, isNT, isNF, notT, andT, orT, gNameF, gTupF, gConsF, gNilF, parS, sliceF, partF, noPart, tupF, lstF, mthF, mth0F, kStr, bindR_ok, bindR_err, bindR_none, List.map_cons, List.map_nil, List.length_cons, List.length_nil, List.append_eq, List.cons_append, List.nil_append, List.replicate_succ, List.replicate_zero, Nat.reduceSub, Nat.reduceAdd, List.getElem?_cons_zero, List.getElem?_cons_succ, List.set_cons_zero, List.set_cons_succ, if_true, if_false, Bool.false_eq_true, reduceIte, lenD, leD, ltD, geD, gtD, addD, subD, isN_non, isN_int, isN_tup, isN_str, tru_bl, tru_non, tru_int, cmp_int, eq_str, ne_str, eq_int, ne_int, Bool.not_true, Bool.not_false, wipeE, Option.some.injEq, e20, x1, x2, p4]
      cases ht : canTie r x y with
      | false =>
        simp only [runM, seqS, asgS, retS, exprS, ifS, nextS, varF, conF, binF, consA, nilA, callF, chainF, negF, andF, orF, notF, ifF, truF, bolF, isNT, isNF, notT, andT, orT, gNameF, gTupF, gConsF, gNilF, parS, sliceF, partF, noPart, tupF, lstF, mthF, mth0F, kStr, bindR_ok, bindR_err, bindR_none, List.map_cons, List.map_nil, List.length_cons, List.length_nil, List.append_eq, List.cons_append, List.nil_append, List.replicate_succ, List.replicate_zero, Nat.reduceSub, Nat.reduceAdd, List.getElem?_cons_zero, List.getElem?_cons_succ, List.set_cons_zero, List.set_cons_succ, if_true, if_false, Bool.false_eq_true, reduceIte, lenD, leD, ltD, geD, gtD, addD, subD, isN_non, isN_int, isN_tup, isN_str, tru_bl, tru_non, tru_int, cmp_int, eq_str, ne_str, eq_int, ne_int, Bool.not_true, Bool.not_false, wipeE, Option.some.injEq]
        rw [trim_self]
        exact Ans.no h
      | true =>
        have lim : (2 : Nat) ≤ LIM := by unfold LIM; omega
        simp only [runM, seqS, asgS, retS, exprS, ifS, nextS, varF, conF, binF, consA, nilA, callF, chainF, negF, andF, orF, notF, ifF, truF, bolF, isNT, isNF, notT, andT, orT, gNameF, gTupF, gConsF, gNilF, parS, sliceF, partF, noPart, tupF, lstF, mthF, mth0F, kStr, bindR_ok, bindR_err, bindR_none, List.map_cons, List.map_nil, List.length_cons, List.length_nil, List.append_eq, List.cons_append, List.nil_append, List.replicate_succ, List.replicate_zero, Nat.reduceSub, Nat.reduceAdd, List.getElem?_cons_zero, List.getElem?_cons_succ, List.set_cons_zero, List.set_cons_succ, if_true, if_false, Bool.false_eq_true, reduceIte, lenD, leD, ltD, geD, gtD, addD, subD, isN_non, isN_int, isN_tup, isN_str, tru_bl, tru_non, tru_int, cmp_int, eq_str, ne_str, eq_int, ne_int, Bool.not_true, Bool.not_false, wipeE, Option.some.injEq, p3, kLst_at h.h3, lim]
        rw [append_at h.h3 (by rw [List.length_map]; omega)]
        simp only [runM, seqS, asgS, retS, exprS, ifS, nextS, varF, conF, binF, consA, nilA, callF, chainF, negF, andF, orF, notF, ifF, truF, bolF, isNT, isNF, notT, andT, orT, gNameF, gTupF, gConsF, gNilF, parS, sliceF, partF, noPart, tupF, lstF, mthF, mth0F, kStr, bindR_ok, bindR_err, bindR_none, List.map_cons, List.map_nil, List.length_cons, List.length_nil, List.append_eq, List.cons_append, List.nil_append, List.replicate_succ, List.replicate_zero, Nat.reduceSub, Nat.reduceAdd, List.getElem?_cons_zero, List.getElem?_cons_succ, List.set_cons_zero, List.set_cons_succ, if_true, if_false, Bool.false_eq_true, reduceIte, lenD, leD, ltD, geD, gtD, addD, subD, isN_non, isN_int, isN_tup, isN_str, tru_bl, tru_non, tru_int, cmp_int, eq_str, ne_str, eq_int, ne_int, Bool.not_true, Bool.not_false, wipeE, Option.some.injEq]
        have e9 : r.cd.map cdD ++ [D.tup [D.str x, D.str y]] = (r.cd ++ [(x, y)]).map cdD := by simp [cdD]
        rw [e9]
        exact ⟨_, rfl, (Out.cords h _).trim h.lt⟩
    · have e20 : decide ((20 : Int) ≤ (r.cd.length : Int)) = true := decide_eq_true (by omega)
      rw [if_neg h20]
      simp only [runM, seqS, asgS, retS, exprS, ifS, nextS, varF, conF, binF, consA, nilA, callF, chainF, negF, andF, orF, notF, ifF, truF, bolF, isNT, isNF, notT, andT, orT, gNameF, gTupF, gConsF, gNilF, parS, sliceF, partF, noPart, tupF, lstF, mthF, mth0F, kStr, bindR_ok, bindR_err, bindR_none, List.map_cons, List.map_nil, List.length_cons, List.length_nil, List.append_eq, List.cons_append, List.nil_append, List.replicate_succ, List.replicate_zero, Nat.reduceSub, Nat.reduceAdd, List.getElem?_cons_zero, List.getElem?_cons_succ, List.set_cons_zero, List.set_cons_succ, if_true, if_false, Bool.false_eq_true, reduceIte, lenD, leD, ltD, geD, gtD, addD, subD, isN_non, isN_int, isN_tup, isN_str, tru_bl, tru_non, tru_int, cmp_int, eq_str, ne_str, eq_int, ne_int, Bool.not_true, Bool.not_false, wipeE, Option.some.injEq, e20]
      rw [trim_self]
      exact Ans.no h
  · have e3 : decide (((ws.length : Nat) : Int) = 3) = false := decide_eq_false (by omega)
    rw [if_neg h3]
    simp only [runM, seqS, asgS, retS, exprS, ifS, nextS, varF, conF, binF, consA, nilA, callF, chainF, negF, andF, orF, notF, ifF, truF, bolF, isNT, isNF, notT, andT, orT, gNameF, gTupF, gConsF, gNilF, parS, sliceF, partF, noPart, tupF, lstF, mthF, mth0F, kStr, bindR_ok, bindR_err, bindR_none, List.map_cons, List.map_nil, List.length_cons, List.length_nil, List.append_eq, List.cons_append, List.nil_append, List.replicate_succ, List.replicate_zero, Nat.reduceSub, Nat.reduceAdd, List.getElem?_cons_zero, List.getElem?_cons_succ, List.set_cons_zero, List.set_cons_succ, if_true, if_false, Bool.false_eq_true, reduceIte, lenD, leD, ltD, geD, gtD, addD, subD, isN_non, isN_int, isN_tup, isN_str, tru_bl, tru_non, tru_int, cmp_int, eq_str, ne_str, eq_int, ne_int, Bool.not_true, Bool.not_false, wipeE, Option.some.injEq, e3]
    rw [trim_self]
    exact Ans.no h
end Cr
end
section
namespace Cr
open PySem PF
/-! ### rows of a line -/
theorem cut_from {ds : List D} (j : Nat) : cutD ds (some (j : Int)) none = ds.drop j := by
  unfold cutD
  rw [HT.sIx_nat, HT.sIx_none]
  by_cases h : j ≤ ds.length
  · rw [Nat.min_eq_left h, List.take_of_length_le (by simp)]
  · rw [Nat.min_eq_right (by omega), List.drop_eq_nil_of_le (Nat.le_refl _), List.drop_eq_nil_of_le (by omega)]
    simp
theorem cut_to {ds : List D} (j : Nat) : cutD ds none (some (j : Int)) = ds.take j := by
  unfold cutD
  rw [HT.sIx_nat, HT.sIx_none]
  simp only [List.drop_zero, Nat.sub_zero]
  by_cases h : j ≤ ds.length
  · rw [Nat.min_eq_left h]
  · rw [Nat.min_eq_right (by omega), List.take_of_length_le (Nat.le_refl _), List.take_of_length_le (by omega)]
def rfs (ws : List Str) : List (Option Fr) := ws.map fun w => (readFrac w).getD none
/-- what can be told of the words -/
structure Fine (ws : List Str) : Prop where
  nums : ∀ w ∈ ws.drop 2, ∃ o, readFrac w = some o
  name : (ws.getD 1 "").length ≤ 1000
  few : ws.length ≤ 1000
theorem rfs_ok {ws : List Str} (h : ∀ w ∈ ws, ∃ o, readFrac w = some o) : ws.map readFrac = (rfs ws).map some := by
  unfold rfs
  rw [List.map_map]
  refine List.map_congr_left fun w hw => ?_
  obtain ⟨o, e⟩ := h w hw
  simp [e]
def newRow (r : DR) (ws : List Str) (many : Int) : Option (List Fr) := if (ws.length : Int) = 2 + many then (if isName (ws.getD 1 "") = true then (if has r.pl (ws.getD 1 "") = true then none else rowOf (rfs (ws.drop 2))) else none) else none
theorem new_row_ok (c : Pc) (st : Store) (k n : Nat) (r : DR) (ws : List Str) (many : Int) (h : DrAt c st k r) (hw : Words st n ws) (f : Fine ws) (hm : 0 ≤ many) : m_Draft_new_row c [D.cell k, D.cell n, D.int many] st = some (Rs.ok (rowO (newRow r ws many)) st) := by
  unfold m_Draft_new_row b_Draft_new_row newRow
  let E0 : PF.Env := [some (D.cell k), some (D.cell n), some (D.int many)]
  have p2 : fldF c.Draft "places" (varF 0) E0 st = some (Rs.ok (D.cell (k + 4)) st) := f_places rfl h
  simp only [E0] at p2
  have l1 : lenD [D.cell n] st = some (Rs.ok (D.int ws.length) st) := by rw [len_lst hw, List.length_map]
  simp only [runM, seqS, ifS, orT, bolF, binF, varF, conF, callF, consA, nilA, List.map_cons, List.map_nil, List.length_cons, List.length_nil, List.cons_append, List.nil_append, Nat.reduceSub, Nat.reduceAdd, List.replicate_succ, List.replicate_zero, List.getElem?_cons_zero, List.getElem?_cons_succ, bindR_ok, l1, ne_int, addD]
  by_cases h3 : (ws.length : Int) = 2 + many
  · rw [if_pos h3]
    simp only [h3, decide_true]
    have x1 : ixqD (D.cell n) (D.int 1) st = some (Rs.ok (D.str (ws.getD 1 "")) st) := ix_words hw (i := 1) (getD_of (by omega))
    generalize hx : ws.getD 1 "" = x at x1
    have ev : binF ixqD (varF 1) (conF (D.int 1)) E0 st = some (Rs.ok (D.str x) st) := by
      simp only [E0, binF, varF, conF, List.getElem?_cons_succ, List.getElem?_cons_zero, bindR_ok, x1]
    have p4 : dcallF 1 (m_is_name c) (consA (binF ixqD (varF 1) (conF (D.int 1))) nilA) E0 st = some (Rs.ok (D.bl (isName x)) st) := by
      rw [dcall1 ev]
      exact is_name_ok c x st (hx ▸ f.name)
    simp only [E0] at p4 ev
    simp only [notT, truF, p4, bindR_ok, tru_bl, Bool.not_true, Bool.false_eq_true, if_false]
    cases hn : isName x with
    | false =>
      simp only [runM, seqS, asgS, retS, exprS, ifS, nextS, varF, conF, binF, consA, nilA, callF, chainF, negF, andF, orF, notF, ifF, truF, bolF, isNT, isNF, notT, andT, orT, gNameF, gTupF, gConsF, gNilF, parS, sliceF, partF, noPart, tupF, lstF, mthF, mth0F, kStr, bindR_ok, bindR_err, bindR_none, List.map_cons, List.map_nil, List.length_cons, List.length_nil, List.append_eq, List.cons_append, List.nil_append, List.replicate_succ, List.replicate_zero, Nat.reduceSub, Nat.reduceAdd, List.getElem?_cons_zero, List.getElem?_cons_succ, List.set_cons_zero, List.set_cons_succ, if_true, if_false, Bool.false_eq_true, reduceIte, lenD, leD, ltD, geD, gtD, addD, subD, isN_non, isN_int, isN_tup, isN_str, tru_bl, tru_non, tru_int, cmp_int, eq_str, ne_str, eq_int, ne_int, Bool.not_true, Bool.not_false, wipeE, Option.some.injEq]
      simp [trim_self, rowO]
    | true =>
      simp only [Bool.not_true, Bool.false_eq_true, if_false, x1, p2, bindR_ok, in_dict h.h4, if_true]
      cases hp : has r.pl x with
      | true =>
        simp only [runM, seqS, asgS, retS, exprS, ifS, nextS, varF, conF, binF, consA, nilA, callF, chainF, negF, andF, orF, notF, ifF, truF, bolF, isNT, isNF, notT, andT, orT, gNameF, gTupF, gConsF, gNilF, parS, sliceF, partF, noPart, tupF, lstF, mthF, mth0F, kStr, bindR_ok, bindR_err, bindR_none, List.map_cons, List.map_nil, List.length_cons, List.length_nil, List.append_eq, List.cons_append, List.nil_append, List.replicate_succ, List.replicate_zero, Nat.reduceSub, Nat.reduceAdd, List.getElem?_cons_zero, List.getElem?_cons_succ, List.set_cons_zero, List.set_cons_succ, if_true, if_false, Bool.false_eq_true, reduceIte, lenD, leD, ltD, geD, gtD, addD, subD, isN_non, isN_int, isN_tup, isN_str, tru_bl, tru_non, tru_int, cmp_int, eq_str, ne_str, eq_int, ne_int, Bool.not_true, Bool.not_false, wipeE, Option.some.injEq]
        simp [trim_self, rowO]
      | false =>
        simp only [Bool.false_eq_true, if_false, nextS, bindR_ok, retS]
        have sl : sliceF (varF 1) (partF (conF (D.int 2))) noPart E0 st = some (Rs.ok (D.cell st.length) (st ++ [Cell.lst ((ws.drop 2).map D.str)])) := by
          simp only [E0, sliceF, partF, noPart, varF, conF, List.getElem?_cons_succ, List.getElem?_cons_zero, bindR_ok, slD, show st[n]? = _ from hw]
          rw [show (some (2 : Int)) = some ((2 : Nat) : Int) from rfl, cut_from, List.map_drop]
        simp only [E0] at sl
        rw [dcall1 sl, read_row_ok c (ws.drop 2) (rfs (ws.drop 2)) st.length _ (get_end _ _) (rfs_ok f.nums) (by have := f.few; simp; omega)]
        simp only [bindR_ok]
        have pr : pureD (rowO (rowOf (rfs (ws.drop 2)))) = true := by
          cases rowOf (rfs (ws.drop 2)) with
          | none => rfl
          | some q => exact pure_row q
        rw [trim_more pr]
  · rw [if_neg h3]
    simp only [decide_eq_false h3]
    simp only [runM, seqS, asgS, retS, exprS, ifS, nextS, varF, conF, binF, consA, nilA, callF, chainF, negF, andF, orF, notF, ifF, truF, bolF, isNT, isNF, notT, andT, orT, gNameF, gTupF, gConsF, gNilF, parS, sliceF, partF, noPart, tupF, lstF, mthF, mth0F, kStr, bindR_ok, bindR_err, bindR_none, List.map_cons, List.map_nil, List.length_cons, List.length_nil, List.append_eq, List.cons_append, List.nil_append, List.replicate_succ, List.replicate_zero, Nat.reduceSub, Nat.reduceAdd, List.getElem?_cons_zero, List.getElem?_cons_succ, List.set_cons_zero, List.set_cons_succ, if_true, if_false, Bool.false_eq_true, reduceIte, lenD, leD, ltD, geD, gtD, addD, subD, isN_non, isN_int, isN_tup, isN_str, tru_bl, tru_non, tru_int, cmp_int, eq_str, ne_str, eq_int, ne_int, Bool.not_true, Bool.not_false, wipeE, Option.some.injEq]
    simp [trim_self, rowO]
end Cr
end
section
namespace Cr
open PySem PF
theorem name_sound {x : Str} (h : isName x = true) : PyData.strOk x = true := by
  unfold isName at h
  simp only [Bool.and_eq_true, List.all_eq_true, decide_eq_true_eq] at h
  unfold PyData.strOk
  rw [Array.all_eq_true_iff_forall_mem]
  intro y hy
  have h1 := h.2 y (Array.mem_toList_iff.mpr hy)
  have h2 : ∀ z ∈ letters, z < 0x110000 := by decide +kernel
  exact decide_eq_true (h2 y h1)
theorem newRow_some {r : DR} {ws : List Str} {many : Int} {row : List Fr} (h : newRow r ws many = some row) : (ws.length : Int) = 2 + many ∧ isName (ws.getD 1 "") = true ∧ has r.pl (ws.getD 1 "") = false := by
  unfold newRow at h
  split at h
  · split at h
    · split at h
      · cases h
      · rename_i a b d
        exact ⟨a, b, by simpa using d⟩
    · cases h
  · cases h
theorem put_new {l : List (Str × List Fr)} {x : Str} (h : has l x = false) (row : List Fr) : putKD (plD l) (Sum.inr x) (rowD row) = plD (l ++ [(x, row)]) := by
  have e : ((plD l).any fun kv => decide (kv.1 = Sum.inr x)) = false := by
    unfold plD has at *
    rw [List.any_map]
    simpa [Function.comp_def] using h
  unfold putKD
  rw [e]
  simp [plD]
theorem set_dict {st : Store} {n : Nat} {l : List (Str × List Fr)} (h : st[n]? = some (Cell.dct (plD l))) (hl : l.length < 1000) {x : Str} (hx : has l x = false) (row : List Fr) : setI (D.cell n) (D.str x) (rowD row) st = some (Rs.ok () (st.set n (Cell.dct (plD (l ++ [(x, row)]))))) := by
  simp only [setI, h, keyOf]
  rw [if_pos (by unfold plD LIM; rw [List.length_map]; omega), put_new hx]
def takePeg (r : DR) (ws : List Str) : Option DR := if r.rg = [] then (if r.cd = [] then (if r.pg.length < 16 then (match newRow r ws r.co with
  | none => none
  | some row => some { r with pg := r.pg ++ [ws.getD 1 ""], pl := r.pl ++ [(ws.getD 1 "", row)] }) else none) else none) else none
theorem tru_lst {st : Store} {n : Nat} {ds : List D} (h : st[n]? = some (Cell.lst ds)) : truD (D.cell n) st = some (!ds.isEmpty) := by
  simp only [truD, h]
theorem take_peg_ok (c : Pc) (st : Store) (k n : Nat) (r : DR) (ws : List Str) (h : DrAt c st k r) (hw : Words st n ws) (hn : n < k ∨ k + 5 < n) (f : Fine ws) (hc : 0 ≤ r.co) (hl : r.pl.length < 1000) : Ans c st k r (takePeg r ws) (m_Draft_take_peg c [D.cell k, D.cell n] st) := by
  unfold m_Draft_take_peg b_Draft_take_peg takePeg
  let E0 : PF.Env := [some (D.cell k), some (D.cell n), none]
  have p1 : fldF c.Draft "rings" (varF 0) E0 st = some (Rs.ok (D.cell (k + 2)) st) := f_rings rfl h
  have p2 : fldF c.Draft "cords" (varF 0) E0 st = some (Rs.ok (D.cell (k + 3)) st) := f_cords rfl h
  have p3 : fldF c.Draft "pegs" (varF 0) E0 st = some (Rs.ok (D.cell (k + 1)) st) := f_pegs rfl h
  have p4 : mcallF c.Draft "new_row" 3 (m_Draft_new_row c) (varF 0) (consA (varF 1) (consA (fldF c.Draft "coords" (varF 0)) nilA)) E0 st = some (Rs.ok (rowO (newRow r ws r.co)) st) := by
    rw [mcall_of rfl h rfl]
    have q : fldF c.Draft "coords" (varF 0) E0 st = some (Rs.ok (D.int r.co) st) := f_coords rfl h
    simp only [E0] at q
    simp only [E0, consA, varF, nilA, bindR_ok, List.getElem?_cons_zero, List.getElem?_cons_succ, q, List.length_cons, List.length_nil, Nat.reduceAdd, if_true]
    exact new_row_ok c st k n r ws r.co h hw f hc
  have l2 : lenD [D.cell (k + 1)] st = some (Rs.ok (D.int r.pg.length) st) := by rw [len_lst h.h1, List.length_map]
  simp only [E0] at p1 p2 p3 p4
  simp only [runM, seqS, asgS, retS, exprS, ifS, nextS, varF, conF, binF, consA, nilA, callF, chainF, negF, andF, orF, notF, ifF, truF, bolF, isNT, isNF, notT, andT, orT, gNameF, gTupF, gConsF, gNilF, parS, sliceF, partF, noPart, tupF, lstF, mthF, mth0F, kStr, bindR_ok, bindR_err, bindR_none, List.map_cons, List.map_nil, List.length_cons, List.length_nil, List.append_eq, List.cons_append, List.nil_append, List.replicate_succ, List.replicate_zero, Nat.reduceSub, Nat.reduceAdd, List.getElem?_cons_zero, List.getElem?_cons_succ, List.set_cons_zero, List.set_cons_succ, if_true, if_false, Bool.false_eq_true, reduceIte, lenD, leD, ltD, geD, gtD, addD, subD, isN_non, isN_int, isN_tup, isN_str, tru_bl, tru_non, tru_int, cmp_int, eq_str, ne_str, eq_int, ne_int, Bool.not_true, Bool.not_false, wipeE, Option.some.injEq, p1, tru_lst h.h2]
  by_cases h1 : r.rg = []
  · rw [if_pos h1]
    have b1 : (r.rg.map D.str).isEmpty = true := by simp [h1]
    simp only [b1, Bool.not_true, Bool.false_eq_true, if_false, p2, bindR_ok, tru_lst h.h3]
    by_cases h2 : r.cd = []
    · rw [if_pos h2]
      have b2 : (r.cd.map cdD).isEmpty = true := by simp [h2]
      simp only [b2, Bool.not_true, Bool.false_eq_true, if_false, p3, bindR_ok, h.h1, List.length_map, cmp_int]
      by_cases h3 : r.pg.length < 16
      · rw [if_pos h3]
        simp only [decide_eq_false (show ¬ ((16 : Int) ≤ (r.pg.length : Int)) by omega), p4, Bool.false_eq_true, if_false, bindR_ok, List.set_cons_succ, List.set_cons_zero]
        cases hr : newRow r ws r.co with
        | none =>
          simp only [runM, seqS, asgS, retS, exprS, ifS, nextS, varF, conF, binF, consA, nilA, callF, chainF, negF, andF, orF, notF, ifF, truF, bolF, isNT, isNF, notT, andT, orT, gNameF, gTupF, gConsF, gNilF, parS, sliceF, partF, noPart, tupF, lstF, mthF, mth0F, kStr, bindR_ok, bindR_err, bindR_none, List.map_cons, List.map_nil, List.length_cons, List.length_nil, List.append_eq, List.cons_append, List.nil_append, List.replicate_succ, List.replicate_zero, Nat.reduceSub, Nat.reduceAdd, List.getElem?_cons_zero, List.getElem?_cons_succ, List.set_cons_zero, List.set_cons_succ, if_true, if_false, Bool.false_eq_true, reduceIte, lenD, leD, ltD, geD, gtD, addD, subD, isN_non, isN_int, isN_tup, isN_str, tru_bl, tru_non, tru_int, cmp_int, eq_str, ne_str, eq_int, ne_int, Bool.not_true, Bool.not_false, wipeE, Option.some.injEq, rowO]
          rw [trim_self]
          exact Ans.no h
        | some row =>
          obtain ⟨a1, a2, a3⟩ := newRow_some hr
          have x1 : ixqD (D.cell n) (D.int 1) st = some (Rs.ok (D.str (ws.getD 1 "")) st) := ix_words hw (i := 1) (getD_of (by omega))
          generalize hx : ws.getD 1 "" = x at *
          let E1 : PF.Env := [some (D.cell k), some (D.cell n), some (rowD row)]
          have p5 : fldF c.Draft "pegs" (varF 0) E1 st = some (Rs.ok (D.cell (k + 1)) st) := f_pegs rfl h
          have o1 := Out.pegs h (r.pg ++ [x])
          have e1 : r.pg.map D.str ++ [D.str x] = (r.pg ++ [x]).map D.str := by simp
          generalize hs : st.set (k + 1) (Cell.lst ((r.pg ++ [x]).map D.str)) = st1 at o1
          have p6 : fldF c.Draft "places" (varF 0) E1 st1 = some (Rs.ok (D.cell (k + 4)) st1) := f_places rfl o1.dr
          have hw1 : Words st1 n ws := (o1.same n (List.getElem?_eq_some_iff.mp hw).1 hn).trans hw
          have x2 : ixqD (D.cell n) (D.int 1) st1 = some (Rs.ok (D.str x) st1) := hx ▸ ix_words hw1 (i := 1) (getD_of (by omega))
          simp only [E1] at p5 p6
          simp only [rowO]
          have nn : isNonD (rowD row) = false := rfl
          simp only [List.getElem?_cons_succ, List.getElem?_cons_zero, nn, Bool.false_eq_true, if_false, bindR_ok, exprS, mthF, p5, kLst_at h.h1, if_true, x1, append_at h.h1 (show (r.pg.map D.str).length < 1000 by rw [List.length_map]; omega), e1, hs]
          simp only [gSubF, binF, varF, conF, List.getElem?_cons_succ, List.getElem?_cons_zero, p6, bindR_ok, x2, set_dict o1.dr.h4 hl a3]
          have o2 := Out.places o1.dr (r.pl ++ [(x, row)])
          exact ⟨_, rfl, (o1.trans o2).trim h.lt⟩
      · rw [if_neg h3]
        simp only [decide_eq_true (show (16 : Int) ≤ (r.pg.length : Int) by omega)]
        simp only [runM, seqS, asgS, retS, exprS, ifS, nextS, varF, conF, binF, consA, nilA, callF, chainF, negF, andF, orF, notF, ifF, truF, bolF, isNT, isNF, notT, andT, orT, gNameF, gTupF, gConsF, gNilF, parS, sliceF, partF, noPart, tupF, lstF, mthF, mth0F, kStr, bindR_ok, bindR_err, bindR_none, List.map_cons, List.map_nil, List.length_cons, List.length_nil, List.append_eq, List.cons_append, List.nil_append, List.replicate_succ, List.replicate_zero, Nat.reduceSub, Nat.reduceAdd, List.getElem?_cons_zero, List.getElem?_cons_succ, List.set_cons_zero, List.set_cons_succ, if_true, if_false, Bool.false_eq_true, reduceIte, lenD, leD, ltD, geD, gtD, addD, subD, isN_non, isN_int, isN_tup, isN_str, tru_bl, tru_non, tru_int, cmp_int, eq_str, ne_str, eq_int, ne_int, Bool.not_true, Bool.not_false, wipeE, Option.some.injEq]
        rw [trim_self]
        exact Ans.no h
    · rw [if_neg h2]
      have : (r.cd.map cdD).isEmpty = false := by simpa using h2
      simp only [this, Bool.not_false]
      simp only [runM, seqS, asgS, retS, exprS, ifS, nextS, varF, conF, binF, consA, nilA, callF, chainF, negF, andF, orF, notF, ifF, truF, bolF, isNT, isNF, notT, andT, orT, gNameF, gTupF, gConsF, gNilF, parS, sliceF, partF, noPart, tupF, lstF, mthF, mth0F, kStr, bindR_ok, bindR_err, bindR_none, List.map_cons, List.map_nil, List.length_cons, List.length_nil, List.append_eq, List.cons_append, List.nil_append, List.replicate_succ, List.replicate_zero, Nat.reduceSub, Nat.reduceAdd, List.getElem?_cons_zero, List.getElem?_cons_succ, List.set_cons_zero, List.set_cons_succ, if_true, if_false, Bool.false_eq_true, reduceIte, lenD, leD, ltD, geD, gtD, addD, subD, isN_non, isN_int, isN_tup, isN_str, tru_bl, tru_non, tru_int, cmp_int, eq_str, ne_str, eq_int, ne_int, Bool.not_true, Bool.not_false, wipeE, Option.some.injEq]
      rw [trim_self]
      exact Ans.no h
  · rw [if_neg h1]
    have : (r.rg.map D.str).isEmpty = false := by simpa using h1
    simp only [this, Bool.not_false]
    simp only [runM, seqS, asgS, retS, exprS, ifS, nextS, varF, conF, binF, consA, nilA, callF, chainF, negF, andF, orF, notF, ifF, truF, bolF, isNT, isNF, notT, andT, orT, gNameF, gTupF, gConsF, gNilF, parS, sliceF, partF, noPart, tupF, lstF, mthF, mth0F, kStr, bindR_ok, bindR_err, bindR_none, List.map_cons, List.map_nil, List.length_cons, List.length_nil, List.append_eq, List.cons_append, List.nil_append, List.replicate_succ, List.replicate_zero, Nat.reduceSub, Nat.reduceAdd, List.getElem?_cons_zero, List.getElem?_cons_succ, List.set_cons_zero, List.set_cons_succ, if_true, if_false, Bool.false_eq_true, reduceIte, lenD, leD, ltD, geD, gtD, addD, subD, isN_non, isN_int, isN_tup, isN_str, tru_bl, tru_non, tru_int, cmp_int, eq_str, ne_str, eq_int, ne_int, Bool.not_true, Bool.not_false, wipeE, Option.some.injEq]
    rw [trim_self]
    exact Ans.no h
end Cr
end
section
namespace Cr
open PySem PF
/-- weights are those of places -/
def Under (r : DR) : Prop := ∀ x, has r.pl x = false → has r.wt x = false
def takeRing (r : DR) (ws : List Str) : Option DR := if r.pg = [] then none else (if r.cd = [] then (if r.rg.length < 8 then (match newRow r ws (2 * r.co) with
  | none => none
  | some row => some { r with rg := r.rg ++ [ws.getD 1 ""], pl := r.pl ++ [(ws.getD 1 "", row.take r.co.toNat)], wt := r.wt ++ [(ws.getD 1 "", row.drop r.co.toNat)] }) else none) else none)
theorem sl_to {row : List Fr} {j : Nat} {st : Store} : slD (rowD row) none (some (j : Int)) st = some (Rs.ok (rowD (row.take j)) st) := by
  unfold rowD slD
  simp only [cut_to, List.map_take]
theorem sl_from {row : List Fr} {j : Nat} {st : Store} : slD (rowD row) (some (j : Int)) none st = some (Rs.ok (rowD (row.drop j)) st) := by
  unfold rowD slD
  simp only [cut_from, List.map_drop]
theorem take_ring_ok (c : Pc) (st : Store) (k n : Nat) (r : DR) (ws : List Str) (h : DrAt c st k r) (hw : Words st n ws) (hn : n < k ∨ k + 5 < n) (f : Fine ws) (hc : 0 ≤ r.co ∧ r.co ≤ 3) (hl : r.pl.length < 1000) (hl2 : r.wt.length < 1000) (hu : Under r) : Ans c st k r (takeRing r ws) (m_Draft_take_ring c [D.cell k, D.cell n] st) := by
  unfold m_Draft_take_ring b_Draft_take_ring takeRing
  let E0 : PF.Env := [some (D.cell k), some (D.cell n), none]
  have p1 : fldF c.Draft "pegs" (varF 0) E0 st = some (Rs.ok (D.cell (k + 1)) st) := f_pegs rfl h
  have p2 : fldF c.Draft "cords" (varF 0) E0 st = some (Rs.ok (D.cell (k + 3)) st) := f_cords rfl h
  have p3 : fldF c.Draft "rings" (varF 0) E0 st = some (Rs.ok (D.cell (k + 2)) st) := f_rings rfl h
  have p4 : mcallF c.Draft "new_row" 3 (m_Draft_new_row c) (varF 0) (consA (varF 1) (consA (binF mulD (conF (D.int 2)) (fldF c.Draft "coords" (varF 0))) nilA)) E0 st = some (Rs.ok (rowO (newRow r ws (2 * r.co))) st) := by
    rw [mcall_of rfl h rfl]
    have q : fldF c.Draft "coords" (varF 0) E0 st = some (Rs.ok (D.int r.co) st) := f_coords rfl h
    have e2 : mulD (D.int 2) (D.int r.co) st = some (Rs.ok (D.int (2 * r.co)) st) := by
      have : r.co.natAbs.log2 ≤ r.co.natAbs := Nat.log2_le_self _
      have : (2 : Int).natAbs.log2 = 1 := by decide +kernel
      simp only [mulD]
      rw [if_pos (by omega)]
    simp only [E0] at q
    simp only [E0, consA, binF, conF, varF, nilA, bindR_ok, List.getElem?_cons_zero, List.getElem?_cons_succ, q, e2, List.length_cons, List.length_nil, Nat.reduceAdd, if_true]
    exact new_row_ok c st k n r ws (2 * r.co) h hw f (by omega)
  simp only [E0] at p1 p2 p3 p4
  simp only [runM, seqS, asgS, retS, exprS, ifS, nextS, varF, conF, binF, consA, nilA, callF, chainF, negF, andF, orF, notF, ifF, truF, bolF, isNT, isNF, notT, andT, orT, gNameF, gTupF, gConsF, gNilF, parS, sliceF, partF, noPart, tupF, lstF, mthF, mth0F, kStr, bindR_ok, bindR_err, bindR_none, List.map_cons, List.map_nil, List.length_cons, List.length_nil, List.append_eq, List.cons_append, List.nil_append, List.replicate_succ, List.replicate_zero, Nat.reduceSub, Nat.reduceAdd, List.getElem?_cons_zero, List.getElem?_cons_succ, List.set_cons_zero, List.set_cons_succ, if_true, if_false, Bool.false_eq_true, reduceIte, lenD, leD, ltD, geD, gtD, addD, subD, isN_non, isN_int, isN_tup, isN_str, tru_bl, tru_non, tru_int, cmp_int, eq_str, ne_str, eq_int, ne_int, Bool.not_true, Bool.not_false, wipeE, Option.some.injEq, p1, tru_lst h.h1]
  by_cases h1 : r.pg = []
  · rw [if_pos h1]
    have b1 : (r.pg.map D.str).isEmpty = true := by simp [h1]
    simp only [b1, Bool.not_true, Bool.not_false]
    simp only [runM, seqS, asgS, retS, exprS, ifS, nextS, varF, conF, binF, consA, nilA, callF, chainF, negF, andF, orF, notF, ifF, truF, bolF, isNT, isNF, notT, andT, orT, gNameF, gTupF, gConsF, gNilF, parS, sliceF, partF, noPart, tupF, lstF, mthF, mth0F, kStr, bindR_ok, bindR_err, bindR_none, List.map_cons, List.map_nil, List.length_cons, List.length_nil, List.append_eq, List.cons_append, List.nil_append, List.replicate_succ, List.replicate_zero, Nat.reduceSub, Nat.reduceAdd, List.getElem?_cons_zero, List.getElem?_cons_succ, List.set_cons_zero, List.set_cons_succ, if_true, if_false, Bool.false_eq_true, reduceIte, lenD, leD, ltD, geD, gtD, addD, subD, isN_non, isN_int, isN_tup, isN_str, tru_bl, tru_non, tru_int, cmp_int, eq_str, ne_str, eq_int, ne_int, Bool.not_true, Bool.not_false, wipeE, Option.some.injEq]
    rw [trim_self]
    exact Ans.no h
  · rw [if_neg h1]
    have b1 : (r.pg.map D.str).isEmpty = false := by simpa using h1
    simp only [b1, Bool.not_false, Bool.not_true, Bool.false_eq_true, if_false, p2, bindR_ok, tru_lst h.h3]
    by_cases h2 : r.cd = []
    · rw [if_pos h2]
      have b2 : (r.cd.map cdD).isEmpty = true := by simp [h2]
      simp only [b2, Bool.not_true, Bool.false_eq_true, if_false, p3, bindR_ok, h.h2, List.length_map, cmp_int]
      by_cases h3 : r.rg.length < 8
      · rw [if_pos h3]
        simp only [decide_eq_false (show ¬ ((8 : Int) ≤ (r.rg.length : Int)) by omega), p4, Bool.false_eq_true, if_false, bindR_ok, List.set_cons_succ, List.set_cons_zero]
        cases hr : newRow r ws (2 * r.co) with
        | none =>
          simp only [runM, seqS, asgS, retS, exprS, ifS, nextS, varF, conF, binF, consA, nilA, callF, chainF, negF, andF, orF, notF, ifF, truF, bolF, isNT, isNF, notT, andT, orT, gNameF, gTupF, gConsF, gNilF, parS, sliceF, partF, noPart, tupF, lstF, mthF, mth0F, kStr, bindR_ok, bindR_err, bindR_none, List.map_cons, List.map_nil, List.length_cons, List.length_nil, List.append_eq, List.cons_append, List.nil_append, List.replicate_succ, List.replicate_zero, Nat.reduceSub, Nat.reduceAdd, List.getElem?_cons_zero, List.getElem?_cons_succ, List.set_cons_zero, List.set_cons_succ, if_true, if_false, Bool.false_eq_true, reduceIte, lenD, leD, ltD, geD, gtD, addD, subD, isN_non, isN_int, isN_tup, isN_str, tru_bl, tru_non, tru_int, cmp_int, eq_str, ne_str, eq_int, ne_int, Bool.not_true, Bool.not_false, wipeE, Option.some.injEq, rowO]
          rw [trim_self]
          exact Ans.no h
        | some row =>
          obtain ⟨a1, a2, a3⟩ := newRow_some hr
          have x1 : ixqD (D.cell n) (D.int 1) st = some (Rs.ok (D.str (ws.getD 1 "")) st) := ix_words hw (i := 1) (getD_of (by omega))
          generalize hx : ws.getD 1 "" = x at *
          let E1 : PF.Env := [some (D.cell k), some (D.cell n), some (rowD row)]
          have p5 : fldF c.Draft "rings" (varF 0) E1 st = some (Rs.ok (D.cell (k + 2)) st) := f_rings rfl h
          have o1 := Out.rings h (r.rg ++ [x])
          have e1 : r.rg.map D.str ++ [D.str x] = (r.rg ++ [x]).map D.str := by simp
          generalize hs : st.set (k + 2) (Cell.lst ((r.rg ++ [x]).map D.str)) = st1 at o1
          have ln := (List.getElem?_eq_some_iff.mp hw).1
          have ec : r.co = (r.co.toNat : Int) := by omega
          have p6 : fldF c.Draft "places" (varF 0) E1 st1 = some (Rs.ok (D.cell (k + 4)) st1) := f_places rfl o1.dr
          have q6 : fldF c.Draft "coords" (varF 0) E1 st1 = some (Rs.ok (D.int r.co) st1) := by have z := f_coords (env := E1) (i := 0) rfl o1.dr; exact z
          have hw1 : Words st1 n ws := (o1.same n ln hn).trans hw
          have x2 : ixqD (D.cell n) (D.int 1) st1 = some (Rs.ok (D.str x) st1) := hx ▸ ix_words hw1 (i := 1) (getD_of (by omega))
          have s1 : slD (rowD row) none (some r.co) st1 = some (Rs.ok (rowD (row.take r.co.toNat)) st1) := by
            rw [ec, sl_to]; rfl
          have o2 := Out.places o1.dr (r.pl ++ [(x, row.take r.co.toNat)])
          have g4 := o1.dr.h4
          generalize hs2 : st1.set (k + 4) (Cell.dct (plD (r.pl ++ [(x, row.take r.co.toNat)]))) = st2 at o2
          have p7 : fldF c.Draft "weights" (varF 0) E1 st2 = some (Rs.ok (D.cell (k + 5)) st2) := f_weights rfl o2.dr
          have q7 : fldF c.Draft "coords" (varF 0) E1 st2 = some (Rs.ok (D.int r.co) st2) := by have z := f_coords (env := E1) (i := 0) rfl o2.dr; exact z
          have o12 := o1.trans o2
          have hw2 : Words st2 n ws := (o12.same n ln hn).trans hw
          have x3 : ixqD (D.cell n) (D.int 1) st2 = some (Rs.ok (D.str x) st2) := hx ▸ ix_words hw2 (i := 1) (getD_of (by omega))
          have s2 : slD (rowD row) (some r.co) none st2 = some (Rs.ok (rowD (row.drop r.co.toNat)) st2) := by
            rw [ec, sl_from]; rfl
          have o3 := Out.weights o2.dr (r.wt ++ [(x, row.drop r.co.toNat)])
          have g5 := o2.dr.h5
          simp only [E1] at p5 p6 q6 p7 q7
          simp only [rowO]
          have nn : isNonD (rowD row) = false := rfl
          simp only [List.getElem?_cons_succ, List.getElem?_cons_zero, nn, Bool.false_eq_true, if_false, bindR_ok, exprS, mthF, p5, kLst_at h.h2, if_true, x1, append_at h.h2 (show (r.rg.map D.str).length < 1000 by rw [List.length_map]; omega), e1, hs, q6, s1, gSubF, p6, x2, set_dict g4 hl a3, hs2, q7, s2, p7, x3, set_dict g5 hl2 (hu x a3), binF, varF, conF]
          exact ⟨_, rfl, (o12.trans o3).trim h.lt⟩
      · rw [if_neg h3]
        simp only [decide_eq_true (show (8 : Int) ≤ (r.rg.length : Int) by omega)]
        simp only [runM, seqS, asgS, retS, exprS, ifS, nextS, varF, conF, binF, consA, nilA, callF, chainF, negF, andF, orF, notF, ifF, truF, bolF, isNT, isNF, notT, andT, orT, gNameF, gTupF, gConsF, gNilF, parS, sliceF, partF, noPart, tupF, lstF, mthF, mth0F, kStr, bindR_ok, bindR_err, bindR_none, List.map_cons, List.map_nil, List.length_cons, List.length_nil, List.append_eq, List.cons_append, List.nil_append, List.replicate_succ, List.replicate_zero, Nat.reduceSub, Nat.reduceAdd, List.getElem?_cons_zero, List.getElem?_cons_succ, List.set_cons_zero, List.set_cons_succ, if_true, if_false, Bool.false_eq_true, reduceIte, lenD, leD, ltD, geD, gtD, addD, subD, isN_non, isN_int, isN_tup, isN_str, tru_bl, tru_non, tru_int, cmp_int, eq_str, ne_str, eq_int, ne_int, Bool.not_true, Bool.not_false, wipeE, Option.some.injEq]
        rw [trim_self]
        exact Ans.no h
    · rw [if_neg h2]
      have : (r.cd.map cdD).isEmpty = false := by simpa using h2
      simp only [this, Bool.not_false]
      simp only [runM, seqS, asgS, retS, exprS, ifS, nextS, varF, conF, binF, consA, nilA, callF, chainF, negF, andF, orF, notF, ifF, truF, bolF, isNT, isNF, notT, andT, orT, gNameF, gTupF, gConsF, gNilF, parS, sliceF, partF, noPart, tupF, lstF, mthF, mth0F, kStr, bindR_ok, bindR_err, bindR_none, List.map_cons, List.map_nil, List.length_cons, List.length_nil, List.append_eq, List.cons_append, List.nil_append, List.replicate_succ, List.replicate_zero, Nat.reduceSub, Nat.reduceAdd, List.getElem?_cons_zero, List.getElem?_cons_succ, List.set_cons_zero, List.set_cons_succ, if_true, if_false, Bool.false_eq_true, reduceIte, lenD, leD, ltD, geD, gtD, addD, subD, isN_non, isN_int, isN_tup, isN_str, tru_bl, tru_non, tru_int, cmp_int, eq_str, ne_str, eq_int, ne_int, Bool.not_true, Bool.not_false, wipeE, Option.some.injEq]
      rw [trim_self]
      exact Ans.no h
end Cr
end
section
namespace Cr
open PySem PF
def coOf (w : Str) : Option Int := if w = "1" then some 1 else if w = "2" then some 2 else if w = "3" then some 3 else none
theorem in_123 (w : Str) (st : Store) : inD true (D.str w) (D.tup [D.str "1", D.str "2", D.str "3"]) st = some (Rs.ok (D.bl (coOf w).isNone) st) := by
  have e : inDD (D.str w) (D.tup [D.str "1", D.str "2", D.str "3"]) st = some ((coOf w).isSome) := by
    show some ((("1" : Str) == w) || ((("2" : Str) == w) || ((("3" : Str) == w) || false))) = _
    unfold coOf
    by_cases h1 : w = "1"
    · subst h1; rfl
    · by_cases h2 : w = "2"
      · subst h2; rfl
      · by_cases h3 : w = "3"
        · subst h3; rfl
        · have n1 : (("1" : Str) == w) = false := beq_false_of_ne (Ne.symm h1)
          have n2 : (("2" : Str) == w) = false := beq_false_of_ne (Ne.symm h2)
          have n3 : (("3" : Str) == w) = false := beq_false_of_ne (Ne.symm h3)
          simp [h1, h2, h3, n1, n2, n3]
  simp only [inD, e]
  cases coOf w <;> rfl
theorem int_lit {w : Str} {i : Int} (q : PySem.intText? w = some i) (l : w.length ≤ 640) (st : Store) : intD [D.str w] st = some (Rs.ok (D.int i) st) := by
  simp only [intD, q]
  rw [if_pos l]
theorem int_123 {w : Str} {i : Int} (h : coOf w = some i) (st : Store) : intD [D.str w] st = some (Rs.ok (D.int i) st) := by
  unfold coOf at h
  split at h
  · rename_i e; subst e; cases h; exact int_lit (by decide +kernel) (by decide +kernel) st
  · split at h
    · rename_i e; subst e; cases h; exact int_lit (by decide +kernel) (by decide +kernel) st
    · split at h
      · rename_i e; subst e; cases h; exact int_lit (by decide +kernel) (by decide +kernel) st
      · cases h
theorem put_coords (k : Nat) (a b : Int) : putFD "coords" (D.int a) (drF k b) = drF k a := by
  simp [drF, putFD]
def takeHead (r : DR) (ws : List Str) : Option DR := if ws.length = 2 then (if ws.getD 0 "" = "net" then (match coOf (ws.getD 1 "") with
  | none => none
  | some i => some { r with co := i }) else none) else none
theorem take_head_ok (c : Pc) (st : Store) (k n : Nat) (r : DR) (ws : List Str) (h : DrAt c st k r) (hw : Words st n ws) : Ans c st k r (takeHead r ws) (m_Draft_take_head c [D.cell k, D.cell n] st) := by
  unfold m_Draft_take_head b_Draft_take_head takeHead
  have l1 : lenD [D.cell n] st = some (Rs.ok (D.int ws.length) st) := by rw [len_lst hw, List.length_map]
  simp only [runM, seqS, ifS, orT, bolF, binF, varF, conF, callF, consA, nilA, tupF, List.map_cons, List.map_nil, List.length_cons, List.length_nil, List.cons_append, List.nil_append, Nat.reduceSub, Nat.reduceAdd, List.replicate_succ, List.replicate_zero, List.getElem?_cons_zero, List.getElem?_cons_succ, bindR_ok, l1, ne_int]
  have lim : (3 : Nat) ≤ LIM := by unfold LIM; omega
  by_cases h3 : ws.length = 2
  · have e3 : ((ws.length : Nat) : Int) = 2 := by omega
    rw [if_pos h3]
    have x0 : ixqD (D.cell n) (D.int 0) st = some (Rs.ok (D.str (ws.getD 0 "")) st) := ix_words hw (i := 0) (getD_of (by omega))
    have x1 : ixqD (D.cell n) (D.int 1) st = some (Rs.ok (D.str (ws.getD 1 "")) st) := ix_words hw (i := 1) (getD_of (by omega))
    generalize hx : ws.getD 0 "" = x at x0
    generalize hy : ws.getD 1 "" = y at x1
    simp only [e3, decide_true, Bool.not_true, Bool.false_eq_true, if_false, x0, bindR_ok, ne_str]
    by_cases hn : x = "net"
    · rw [if_pos hn]
      simp only [decide_eq_true hn, Bool.not_true, Bool.false_eq_true, if_false, x1, bindR_ok, lim, if_true, in_123]
      cases hc : coOf y with
      | none =>
        simp only [Option.isNone_none]
        simp only [runM, seqS, asgS, retS, exprS, ifS, nextS, varF, conF, binF, consA, nilA, callF, chainF, negF, andF, orF, notF, ifF, truF, bolF, isNT, isNF, notT, andT, orT, gNameF, gTupF, gConsF, gNilF, parS, sliceF, partF, noPart, tupF, lstF, mthF, mth0F, kStr, bindR_ok, bindR_err, bindR_none, List.map_cons, List.map_nil, List.length_cons, List.length_nil, List.append_eq, List.cons_append, List.nil_append, List.replicate_succ, List.replicate_zero, Nat.reduceSub, Nat.reduceAdd, List.getElem?_cons_zero, List.getElem?_cons_succ, List.set_cons_zero, List.set_cons_succ, if_true, if_false, Bool.false_eq_true, reduceIte, lenD, leD, ltD, geD, gtD, addD, subD, isN_non, isN_int, isN_tup, isN_str, tru_bl, tru_non, tru_int, cmp_int, eq_str, ne_str, eq_int, ne_int, Bool.not_true, Bool.not_false, wipeE, Option.some.injEq]
        rw [trim_self]
        exact Ans.no h
      | some i =>
        simp only [Option.isNone_some]
        have l0 : (drF k r.co).length < 1000 := by simp [drF]
        simp only [Bool.false_eq_true, if_false, nextS, bindR_ok, fldS, callF, consA, nilA, binF, varF, conF, List.getElem?_cons_zero, List.getElem?_cons_succ, x1, int_123 hc, h.h0, true_and, l0, if_true, put_coords, retS]
        exact ⟨_, rfl, (Out.coords h i).trim h.lt⟩
    · rw [if_neg hn]
      simp only [decide_eq_false hn, Bool.not_false]
      simp only [runM, seqS, asgS, retS, exprS, ifS, nextS, varF, conF, binF, consA, nilA, callF, chainF, negF, andF, orF, notF, ifF, truF, bolF, isNT, isNF, notT, andT, orT, gNameF, gTupF, gConsF, gNilF, parS, sliceF, partF, noPart, tupF, lstF, mthF, mth0F, kStr, bindR_ok, bindR_err, bindR_none, List.map_cons, List.map_nil, List.length_cons, List.length_nil, List.append_eq, List.cons_append, List.nil_append, List.replicate_succ, List.replicate_zero, Nat.reduceSub, Nat.reduceAdd, List.getElem?_cons_zero, List.getElem?_cons_succ, List.set_cons_zero, List.set_cons_succ, if_true, if_false, Bool.false_eq_true, reduceIte, lenD, leD, ltD, geD, gtD, addD, subD, isN_non, isN_int, isN_tup, isN_str, tru_bl, tru_non, tru_int, cmp_int, eq_str, ne_str, eq_int, ne_int, Bool.not_true, Bool.not_false, wipeE, Option.some.injEq]
      rw [trim_self]
      exact Ans.no h
  · have e3 : decide (((ws.length : Nat) : Int) = 2) = false := decide_eq_false (by omega)
    rw [if_neg h3]
    simp only [runM, seqS, asgS, retS, exprS, ifS, nextS, varF, conF, binF, consA, nilA, callF, chainF, negF, andF, orF, notF, ifF, truF, bolF, isNT, isNF, notT, andT, orT, gNameF, gTupF, gConsF, gNilF, parS, sliceF, partF, noPart, tupF, lstF, mthF, mth0F, kStr, bindR_ok, bindR_err, bindR_none, List.map_cons, List.map_nil, List.length_cons, List.length_nil, List.append_eq, List.cons_append, List.nil_append, List.replicate_succ, List.replicate_zero, Nat.reduceSub, Nat.reduceAdd, List.getElem?_cons_zero, List.getElem?_cons_succ, List.set_cons_zero, List.set_cons_succ, if_true, if_false, Bool.false_eq_true, reduceIte, lenD, leD, ltD, geD, gtD, addD, subD, isN_non, isN_int, isN_tup, isN_str, tru_bl, tru_non, tru_int, cmp_int, eq_str, ne_str, eq_int, ne_int, Bool.not_true, Bool.not_false, wipeE, Option.some.injEq, e3]
    rw [trim_self]
    exact Ans.no h
end Cr
end
section
namespace Cr
open PySem PF
/-- what holds of a draft as lines are taken -/
structure Good (r : DR) : Prop where
  sound : Sound r
  under : Under r
  co0 : 0 ≤ r.co
  co3 : r.co ≤ 3
  pg : r.pg.length ≤ 16
  rg : r.rg.length ≤ 8
  pl : r.pl.length = r.pg.length + r.rg.length
  wt : r.wt.length = r.rg.length
def wordsOf (line : Str) : List Str := Txt.split line " "
/-- what can be told of the line -/
structure FineL (line : Str) : Prop where
  len : line.length ≤ 100000
  ws : Fine (wordsOf line)
  ne : wordsOf line ≠ []
def takeLine (r : DR) (line : Str) : Option DR := if r.co = 0 then takeHead r (wordsOf line) else (if (wordsOf line).getD 0 "" = "peg" then takePeg r (wordsOf line) else (if (wordsOf line).getD 0 "" = "ring" then takeRing r (wordsOf line) else (if (wordsOf line).getD 0 "" = "cord" then takeCord r (wordsOf line) else none)))
theorem Out.app {c : Pc} {st : Store} {k : Nat} {r : DR} (h : DrAt c st k r) (g : Store) : Out c st (st ++ g) k r := ⟨h.more g, by simp, fun j hj _ => List.getElem?_append_left hj⟩
theorem take_ok (c : Pc) (st : Store) (k : Nat) (r : DR) (line : Str) (h : DrAt c st k r) (g : Good r) (f : FineL line) : Ans c st k r (takeLine r line) (m_Draft_take c [D.cell k, D.str line] st) := by
  unfold m_Draft_take b_Draft_take takeLine
  have hl := h.lt
  let ws := wordsOf line
  have sp : splitD (D.str line) [D.str " "] st = some (Rs.ok (D.cell st.length) (st ++ [Cell.lst (ws.map D.str)])) := by
    simp only [splitD]
    rw [if_pos ⟨by decide +kernel, by have := f.len; unfold LIM; omega⟩]
    rfl
  generalize hn : st.length = n at sp
  have o1 := Out.app h [Cell.lst (ws.map D.str)]
  have hw : Words (st ++ [Cell.lst (ws.map D.str)]) n ws := hn ▸ get_end _ _
  generalize hs : st ++ [Cell.lst (ws.map D.str)] = st1 at *
  let E1 : PF.Env := [some (D.cell k), some (D.str line), some (D.cell n)]
  have h1 := o1.dr
  have hk : n < k ∨ k + 5 < n := by omega
  have p1 : fldF c.Draft "coords" (varF 0) E1 st1 = some (Rs.ok (D.int r.co) st1) := f_coords rfl h1
  have mc : ∀ {x : Str} {m : Mir}, (drF k r.co).lookup x = none → mcallF c.Draft x 2 m (varF 0) (consA (varF 2) nilA) E1 st1 = m [D.cell k, D.cell n] st1 := fun l => by
    rw [mcall_of rfl h1 l]
    simp only [E1, consA, varF, nilA, bindR_ok, List.getElem?_cons_zero, List.getElem?_cons_succ, List.length_cons, List.length_nil, Nat.reduceAdd, if_true]
  have m1 : mcallF c.Draft "take_head" 2 (m_Draft_take_head c) (varF 0) (consA (varF 2) nilA) E1 st1 = m_Draft_take_head c [D.cell k, D.cell n] st1 := mc rfl
  have m2 : mcallF c.Draft "take_peg" 2 (m_Draft_take_peg c) (varF 0) (consA (varF 2) nilA) E1 st1 = m_Draft_take_peg c [D.cell k, D.cell n] st1 := mc rfl
  have m3 : mcallF c.Draft "take_ring" 2 (m_Draft_take_ring c) (varF 0) (consA (varF 2) nilA) E1 st1 = m_Draft_take_ring c [D.cell k, D.cell n] st1 := mc rfl
  have m4 : mcallF c.Draft "take_cord" 2 (m_Draft_take_cord c) (varF 0) (consA (varF 2) nilA) E1 st1 = m_Draft_take_cord c [D.cell k, D.cell n] st1 := mc rfl
  simp only [E1] at p1 m1 m2 m3 m4
  simp only [runM, seqS, asgS, ifS, mthF, kStr, varF, conF, consA, nilA, gNameF, List.map_cons, List.map_nil, List.length_cons, List.length_nil, List.cons_append, List.nil_append, Nat.reduceSub, Nat.reduceAdd, List.replicate_succ, List.replicate_zero, List.getElem?_cons_zero, List.getElem?_cons_succ, List.set_cons_zero, List.set_cons_succ, bindR_ok, if_true, sp]
  have x0 : ixqD (D.cell n) (D.int 0) st1 = some (Rs.ok (D.str (ws.getD 0 "")) st1) := ix_words hw (i := 0) (getD_of (List.length_pos_iff.mpr f.ne))
  show Ans c st k r (if r.co = 0 then takeHead r ws else (if ws.getD 0 "" = "peg" then takePeg r ws else (if ws.getD 0 "" = "ring" then takeRing r ws else (if ws.getD 0 "" = "cord" then takeCord r ws else none)))) _
  have a1 := take_head_ok c st1 k n r ws h1 hw
  have a2 := take_peg_ok c st1 k n r ws h1 hw hk f.ws g.co0 (by have := g.pl; have := g.pg; have := g.rg; omega)
  have a3 := take_ring_ok c st1 k n r ws h1 hw hk f.ws ⟨g.co0, g.co3⟩ (by have := g.pl; have := g.pg; have := g.rg; omega) (by have := g.wt; have := g.rg; omega) g.under
  have a4 := take_cord_ok c st1 k n r ws h1 g.sound hw
  simp only [bolF, binF, p1, bindR_ok, conF, eq_int]
  by_cases hc : r.co = 0
  · obtain ⟨st', e, q⟩ := a1
    rw [if_pos hc]
    simp only [decide_eq_true hc, if_true, retS, m1, e, bindR_ok]
    exact ⟨_, rfl, (o1.trans q).trim hl⟩
  · rw [if_neg hc]
    generalize ws.getD 0 "" = w0 at x0
    simp only [decide_eq_false hc, Bool.false_eq_true, if_false, nextS, bindR_ok, varF, List.getElem?_cons_zero, List.getElem?_cons_succ, x0, eq_str]
    by_cases hp : w0 = "peg"
    · obtain ⟨st', e, q⟩ := a2
      rw [if_pos hp]
      simp only [decide_eq_true hp, if_true, retS, m2, e, bindR_ok]
      exact ⟨_, rfl, (o1.trans q).trim hl⟩
    · rw [if_neg hp]
      simp only [decide_eq_false hp, Bool.false_eq_true, if_false, bindR_ok, List.getElem?_cons_zero, List.getElem?_cons_succ, x0, eq_str]
      by_cases hr : w0 = "ring"
      · obtain ⟨st', e, q⟩ := a3
        rw [if_pos hr]
        simp only [decide_eq_true hr, if_true, retS, m3, e, bindR_ok]
        exact ⟨_, rfl, (o1.trans q).trim hl⟩
      · rw [if_neg hr]
        simp only [decide_eq_false hr, Bool.false_eq_true, if_false, bindR_ok, retS, andF, binF, varF, conF, List.getElem?_cons_zero, List.getElem?_cons_succ, x0, eq_str]
        by_cases hd : w0 = "cord"
        · obtain ⟨st', e, q⟩ := a4
          rw [if_pos hd]
          simp only [decide_eq_true hd, bindR_ok, tru_bl, m4, e]
          exact ⟨_, rfl, (o1.trans q).trim hl⟩
        · rw [if_neg hd]
          simp only [decide_eq_false hd, bindR_ok, tru_bl]
          exact ⟨_, rfl, o1.trim hl⟩
end Cr
end
section
namespace Cr
open PySem PF
theorem has_app {l : List (Str × List Fr)} {x y : Str} {row : List Fr} : has (l ++ [(x, row)]) y = (has l y || decide (x = y)) := by
  simp [has, List.any_append]
theorem Good.take {r r' : DR} {line : Str} (g : Good r) (h : takeLine r line = some r') : Good r' := by
  unfold takeLine at h
  split at h
  · -- head
    unfold takeHead at h
    split at h
    · split at h
      · split at h
        · cases h
        · rename_i i e
          cases h
          have : 0 ≤ i ∧ i ≤ 3 := by
            unfold coOf at e
            split at e
            · cases e; omega
            · split at e
              · cases e; omega
              · split at e
                · cases e; omega
                · cases e
          exact ⟨g.sound, g.under, this.1, this.2, g.pg, g.rg, g.pl, g.wt⟩
      · cases h
    · cases h
  · split at h
    · -- peg
      unfold takePeg at h
      split at h
      · rename_i e1
        split at h
        · split at h
          · rename_i e3
            split at h
            · cases h
            · rename_i row e
              cases h
              obtain ⟨a1, a2, a3⟩ := newRow_some e
              have h1 := g.pg
              have h2 := g.pl
              refine ⟨⟨fun p hp => ?_, g.sound.2⟩, fun y hy => ?_, g.co0, g.co3, by simp; omega, g.rg, by simp; omega, g.wt⟩
              · rcases List.mem_append.mp hp with q | q
                · exact g.sound.1 p q
                · simp only [List.mem_singleton] at q
                  subst q
                  exact name_sound a2
              · rw [has_app, Bool.or_eq_false_iff] at hy
                exact g.under y hy.1
          · cases h
        · cases h
      · cases h
    · split at h
      · unfold takeRing at h
        split at h
        · cases h
        · split at h
          · split at h
            · split at h
              · cases h
              · rename_i row e
                cases h
                obtain ⟨a1, a2, a3⟩ := newRow_some e
                have h1 := g.rg
                have h2 := g.pl
                have h3 := g.wt
                refine ⟨⟨fun p hp => ?_, g.sound.2⟩, fun y hy => ?_, g.co0, g.co3, g.pg, by simp; omega, by simp; omega, by simp; omega⟩
                · rcases List.mem_append.mp hp with q | q
                  · exact g.sound.1 p q
                  · simp only [List.mem_singleton] at q
                    subst q
                    exact name_sound a2
                · rw [has_app, Bool.or_eq_false_iff] at hy
                  rw [has_app, Bool.or_eq_false_iff]
                  exact ⟨g.under y hy.1, hy.2⟩
            · cases h
          · cases h
      · split at h
        · unfold takeCord at h
          split at h
          · split at h
            · split at h
              · rename_i e
                cases h
                unfold canTie at e
                simp only [Bool.and_eq_true] at e
                refine ⟨⟨g.sound.1, fun p hp => ?_⟩, g.under, g.co0, g.co3, g.pg, g.rg, g.pl, g.wt⟩
                rcases List.mem_append.mp hp with q | q
                · exact g.sound.2 p q
                · simp only [List.mem_singleton] at q
                  subst q
                  exact ⟨g.sound.has e.1, g.sound.has e.2.1⟩
              · cases h
            · cases h
          · cases h
        · cases h
/-! ### a text -/
def dr0 : DR := ⟨0, [], [], [], [], []⟩
theorem good0 : Good dr0 := ⟨⟨fun _ h => (nomatch h), fun _ h => (nomatch h)⟩, fun _ _ => rfl, by decide, by decide, by decide, by decide, rfl, rfl⟩
def runLines : DR → List Str → Nat → Nat ⊕ DR
  | r, [], _ => .inr r
  | r, l :: ls, i => match takeLine r l with
    | none => .inl i
    | some r' => runLines r' ls (i + 1)
/-- all that is told of a draft at k: the cells ahead of it are as they were -/
structure Kept (st st' : Store) (k : Nat) : Prop where
  le : k ≤ st'.length
  same : ∀ j, j < k → st'[j]? = st[j]?
theorem put_len (f : Str) (d : D) : ∀ fs : List (Str × D), (putFD f d fs).length ≤ fs.length + 1
  | [] => by simp [putFD]
  | (g, x) :: r => by
    unfold putFD
    split
    · simp
    · have := put_len f d r
      simp; omega
theorem put_lt {f : Str} {d : D} {fs : List (Str × D)} {n : Nat} (h : fs.length < n) : (putFD f d fs).length < n + 1 := Nat.lt_of_le_of_lt (put_len f d fs) (by omega)
theorem fld_step {C : Addr} {f : Str} {fv : EF} {env : PF.Env} {st g g' : Store} {fs : List (Str × D)} {d : D} (he : env[0]? = some (some (D.cell st.length))) (hv : fv env (st ++ Cell.ins C fs :: g) = some (Rs.ok d (st ++ Cell.ins C fs :: g'))) (hl : fs.length < 1000) :
    fldS C f (varF 0) fv env (st ++ Cell.ins C fs :: g) = some (Rs.ok (Fl.nx env) (st ++ Cell.ins C (putFD f d fs) :: g')) := by
  have e1 : (st ++ Cell.ins C fs :: g')[st.length]? = some (Cell.ins C fs) := by simp
  have e2 : ∀ q : Cell, (st ++ Cell.ins C fs :: g').set st.length q = st ++ q :: g' := fun q => by simp
  simp only [fldS, hv, bindR_ok, varF, he, e1, true_and, hl, if_true, e2]
theorem lst_step {env : PF.Env} {st g : Store} {q : Cell} : lstF nilA env (st ++ q :: g) = some (Rs.ok (D.cell (st.length + 1 + g.length)) (st ++ q :: (g ++ [Cell.lst []]))) := by
  simp only [lstF, nilA, bindR_ok, List.length_nil]
  rw [if_pos (Nat.zero_le _)]
  simp; omega
theorem dct_step {env : PF.Env} {st g : Store} {q : Cell} : dctF0 env (st ++ q :: g) = some (Rs.ok (D.cell (st.length + 1 + g.length)) (st ++ q :: (g ++ [Cell.dct []]))) := by
  simp only [dctF0]
  simp; omega
theorem make_draft (c : Pc) (st : Store) (env : PF.Env) : ∃ st', makeF c.Draft 1 (m_DraftU_initU c) nilA env st = some (Rs.ok (D.cell st.length) st') ∧ DrAt c st' st.length dr0 ∧ Kept st st' st.length := by
  have e0 : m_DraftU_initU c [D.cell st.length] (st ++ [Cell.ins c.Draft []]) = some (Rs.ok D.non (PF.trim (st ++ [Cell.ins c.Draft []]) D.non (st ++ [Cell.ins c.Draft (drF st.length 0), Cell.lst [], Cell.lst [], Cell.lst [], Cell.dct [], Cell.dct []]))) := by
    unfold m_DraftU_initU b_DraftU_initU
    simp only [runM, seqS, List.map_cons, List.map_nil, List.length_cons, List.length_nil, List.cons_append, List.nil_append, Nat.reduceSub, Nat.reduceAdd, List.replicate_zero]
    have hz : ([some (D.cell st.length)] : PF.Env)[0]? = some (some (D.cell st.length)) := rfl
    rw [fld_step (g := []) (g' := []) hz rfl (by simp)]
    simp only [bindR_ok]
    rw [fld_step hz lst_step (Nat.lt_of_lt_of_le (put_lt (show ([] : List (Str × D)).length < 1 from Nat.zero_lt_one)) (by omega))]
    simp only [bindR_ok]
    rw [fld_step hz lst_step (Nat.lt_of_lt_of_le (put_lt (put_lt (show ([] : List (Str × D)).length < 1 from Nat.zero_lt_one))) (by omega))]
    simp only [bindR_ok]
    rw [fld_step hz lst_step (Nat.lt_of_lt_of_le (put_lt (put_lt (put_lt (show ([] : List (Str × D)).length < 1 from Nat.zero_lt_one)))) (by omega))]
    simp only [bindR_ok]
    rw [fld_step hz dct_step (Nat.lt_of_lt_of_le (put_lt (put_lt (put_lt (put_lt (show ([] : List (Str × D)).length < 1 from Nat.zero_lt_one))))) (by omega))]
    simp only [bindR_ok]
    rw [fld_step hz dct_step (Nat.lt_of_lt_of_le (put_lt (put_lt (put_lt (put_lt (put_lt (show ([] : List (Str × D)).length < 1 from Nat.zero_lt_one)))))) (by omega))]
    simp only [bindR_ok]
    rfl
  have e1 : PF.trim (st ++ [Cell.ins c.Draft []]) D.non (st ++ [Cell.ins c.Draft (drF st.length 0), Cell.lst [], Cell.lst [], Cell.lst [], Cell.dct [], Cell.dct []]) = st ++ [Cell.ins c.Draft (drF st.length 0), Cell.lst [], Cell.lst [], Cell.lst [], Cell.dct [], Cell.dct []] := by
    unfold PF.trim
    rw [if_neg]
    intro z
    have := z.2
    simp [List.take_append, drF] at this
  have e : makeF c.Draft 1 (m_DraftU_initU c) nilA env st = some (Rs.ok (D.cell st.length) (st ++ [Cell.ins c.Draft (drF st.length 0), Cell.lst [], Cell.lst [], Cell.lst [], Cell.dct [], Cell.dct []])) := by
    simp only [makeF, nilA, bindR_ok, List.length_nil, Nat.zero_add, if_true, e0, e1]
  refine ⟨_, e, ⟨?_, ?_, ?_, ?_, ?_, ?_⟩, ?_⟩
  · simp [dr0]
  · simp [dr0]
  · simp [dr0]
  · simp [dr0]
  · simp [dr0, plD]
  · simp [dr0, plD]
  · exact ⟨by simp, fun j hj => List.getElem?_append_left hj⟩
end Cr
end
section
namespace Cr
open PySem PF
theorem Kept.trans {st st1 st2 : Store} {k : Nat} (a : Kept st st1 k) (b : Kept st1 st2 k) : Kept st st2 k := ⟨b.le, fun j h => (b.same j h).trans (a.same j h)⟩
theorem Out.kept {c : Pc} {st st' : Store} {k : Nat} {r r0 : DR} (h : Out c st st' k r) (h0 : DrAt c st k r0) : Kept st st' k := by
  have l := h.dr.lt
  have l0 := h0.lt
  exact ⟨by omega, fun j hj => h.same j (by omega) (.inl hj)⟩
noncomputable abbrev bodyS (c : Pc) : SF := ifS (notT (truF (mcallF c.Draft "take" 2 (m_Draft_take c) (varF 2) (consA (varF 4) nilA)))) (raiseS c.BadNet (varF 3)) nextS
abbrev tgt : GF := gTupF 2 (gConsF (gNameF 3) (gConsF (gNameF 4) gNilF))
theorem loop_ok (c : Pc) (nl k : Nat) (ls : List Str) (t l : Option D) (hf : ∀ x ∈ ls, FineL x) (hk : nl < k) : ∀ (ls' : List Str) (m i : Nat) (r : DR) (st : Store) (a b : Option D), ls.drop i = ls' → ls'.length < m → DrAt c st k r → Good r → st[nl]? = some (Cell.lst (ls.map D.str)) →
    ∃ st', Kept st st' k ∧ (match runLines r ls' (i + 1) with
      | .inl num => forL (.enmK 1 nl) tgt (bodyS c) m i [t, l, some (D.cell k), a, b] st = some (Rs.err c.BadNet (D.int (num : Nat)) st')
      | .inr r' => ∃ a' b', forL (.enmK 1 nl) tgt (bodyS c) m i [t, l, some (D.cell k), a, b] st = some (Rs.ok (Fl.nx [t, l, some (D.cell k), a', b']) st') ∧ DrAt c st' k r' ∧ Good r')
  | [], m + 1, i, r, st, a, b, e, _, h, g, hl => by
    have hi : ls.length ≤ i := List.drop_eq_nil_iff.mp e
    refine ⟨st, ⟨by have := h.lt; omega, fun _ _ => rfl⟩, a, b, ?_, h, g⟩
    unfold forL
    have : (ls.map D.str)[i]? = none := List.getElem?_eq_none (by simpa using hi)
    simp only [ItV.nxt, hl, this, Option.map_none]
  | x :: ls', m + 1, i, r, st, a, b, e, hm, h, g, hl => by
    have hi : i < ls.length := by
      by_cases z : i < ls.length
      · exact z
      · rw [List.drop_eq_nil_of_le (by omega)] at e; cases e
    rw [List.drop_eq_getElem_cons hi] at e
    obtain ⟨e1, e2⟩ := List.cons.inj e
    have hx : (ls.map D.str)[i]? = some (D.str x) := by rw [List.getElem?_map, List.getElem?_eq_getElem hi, e1]; rfl
    have fx : FineL x := hf x (e1 ▸ List.getElem_mem hi)
    obtain ⟨st1, q, o⟩ := take_ok c st k r x h g fx
    have ee : (1 : Int) + ((i : Nat) : Int) = ((i + 1 : Nat) : Int) := by omega
    have mc : mcallF c.Draft "take" 2 (m_Draft_take c) (varF 2) (consA (varF 4) nilA) [t, l, some (D.cell k), some (D.int ((i + 1 : Nat) : Int)), some (D.str x)] st = some (Rs.ok (D.bl (takeLine r x).isSome) st1) := by
      rw [mcall_of rfl h rfl]
      simp only [consA, varF, nilA, bindR_ok, List.getElem?_cons_zero, List.getElem?_cons_succ, List.length_cons, List.length_nil, Nat.reduceAdd, if_true]
      exact q
    have kp := o.kept h
    unfold forL
    simp only [ItV.nxt, hl, hx, Option.map_some, ee, tgt, gTupF, gConsF, gNameF, gNilF, List.length_cons, List.length_nil, Nat.reduceAdd, if_true, bindR_ok, List.set_cons_succ, List.set_cons_zero, bodyS, ifS, notT, truF, mc, tru_bl]
    unfold runLines
    cases hr : takeLine r x with
    | none =>
      simp only [Option.isSome_none, Bool.not_false, if_true, raiseS, varF, List.getElem?_cons_zero, List.getElem?_cons_succ, bindR_ok, bindR_err]
      exact ⟨st1, kp, rfl⟩
    | some r' =>
      rw [hr] at o
      simp only [Option.isSome_some, Bool.not_true, Bool.false_eq_true, if_false, nextS, bindR_ok]
      have hl1 : st1[nl]? = some (Cell.lst (ls.map D.str)) := (kp.same nl hk).trans hl
      obtain ⟨st2, k2, fin⟩ := loop_ok c nl k ls t l hf hk ls' m (i + 1) r' st1 (some (D.int ((i + 1 : Nat) : Int))) (some (D.str x)) e2 (by simp at hm; omega) o.dr (g.take hr) hl1
      exact ⟨st2, kp.trans k2, fin⟩
end Cr
end
section
namespace Cr
open PySem PF
def linesOf (text : Str) : List Str := Txt.split text "\n"
def netOf (ls : List Str) : Nat ⊕ DR := match runLines dr0 ls 1 with
  | .inl n => .inl n
  | .inr r => if r.pg = [] then .inl (ls.length + 1) else .inr r
structure FineT (text : Str) : Prop where
  len : text.length ≤ 500000
  few : (linesOf text).length < 1000
  ls : ∀ x ∈ linesOf text, FineL x
theorem isi_str (x : Str) (st : Store) : isiD stdTab [D.str x, D.ty "str"] st = some (Rs.ok (D.bl true) st) := by
  have : stdTab.lookup (Ty.b "str", Ty.b "str") = some true := by decide +kernel
  simp only [isiD, tyOf, clOf, this]
theorem read_draft_ok (c : Pc) (st : Store) (text : Str) (f : FineT text) : ∃ st', Kept st st' st.length ∧ (match netOf (linesOf text) with
    | .inl num => m_read_draft c [D.str text] st = some (Rs.err c.BadNet (D.int (num : Nat)) st')
    | .inr r => ∃ k, st.length ≤ k ∧ m_read_draft c [D.str text] st = some (Rs.ok (D.cell k) st') ∧ DrAt c st' k r ∧ Good r) := by
  have sp : splitD (D.str text) [D.str "\n"] st = some (Rs.ok (D.cell st.length) (st ++ [Cell.lst ((linesOf text).map D.str)])) := by
    simp only [splitD]
    rw [if_pos ⟨by decide +kernel, by have := f.len; unfold LIM; omega⟩]
    rfl
  have ffew := f.few
  have fls := f.ls
  clear f
  generalize linesOf text = ls at *
  generalize hs : st ++ [Cell.lst (ls.map D.str)] = st1 at sp
  have hl1 : st1.length = st.length + 1 := by rw [← hs]; simp
  have g1 : st1[st.length]? = some (Cell.lst (ls.map D.str)) := by rw [← hs]; exact get_end _ _
  have k01 : Kept st st1 st.length := ⟨by omega, fun j hj => by rw [← hs]; exact List.getElem?_append_left hj⟩
  obtain ⟨st2, md, dr, kp⟩ := make_draft c st1 [some (D.str text), some (D.cell st.length), none, none, none]
  have g2 : st2[st.length]? = some (Cell.lst (ls.map D.str)) := (kp.same _ (by omega)).trans g1
  have k12 : Kept st1 st2 st.length := ⟨by have := kp.le; omega, fun j hj => kp.same j (by omega)⟩
  obtain ⟨st3, k23, lp⟩ := loop_ok c st.length st1.length ls (some (D.str text)) (some (D.cell st.length)) fls (by omega) ls FUEL 0 dr0 st2 none none rfl (by unfold FUEL; exact Nat.lt_of_lt_of_le ffew (by omega)) dr good0 g2
  have k23' : Kept st2 st3 st.length := ⟨by have := k23.le; omega, fun j hj => k23.same j (by omega)⟩
  have g3 : st3[st.length]? = some (Cell.lst (ls.map D.str)) := (k23.same _ (by omega)).trans g2
  have kall := (k01.trans k12).trans k23'
  have fs : forS (enmKF 1 (consA (varF 1) nilA)) tgt (bodyS c) [some (D.str text), some (D.cell st.length), some (D.cell st1.length), none, none] st2 = forL (.enmK 1 st.length) tgt (bodyS c) FUEL 0 [some (D.str text), some (D.cell st.length), some (D.cell st1.length), none, none] st2 := by
    simp only [forS, enmKF, consA, varF, nilA, List.getElem?_cons_zero, List.getElem?_cons_succ, bindR_ok, g2]
  unfold m_read_draft b_read_draft
  simp only [runM, seqS, asgS, ifS, notT, truF, mthF, kStr, callF, varF, conF, consA, nilA, gNameF, List.map_cons, List.map_nil, List.length_cons, List.length_nil, List.cons_append, List.nil_append, Nat.reduceSub, Nat.reduceAdd, List.replicate_succ, List.replicate_zero, List.getElem?_cons_zero, List.getElem?_cons_succ, List.set_cons_zero, List.set_cons_succ, bindR_ok, if_true, isi_str, tru_bl, Bool.not_true, Bool.false_eq_true, if_false, nextS, sp]
  simp only [md, bindR_ok]
  rw [show forS (enmKF 1 (consA (varF 1) nilA)) (gTupF 2 (gConsF (gNameF 3) (gConsF (gNameF 4) gNilF))) (ifS (notT (truF (mcallF c.Draft "take" 2 (m_Draft_take c) (varF 2) (consA (varF 4) nilA)))) (raiseS c.BadNet (varF 3)) nextS) [some (D.str text), some (D.cell st.length), some (D.cell st1.length), none, none] st2 = _ from fs]
  unfold netOf
  cases hr : runLines dr0 ls 1 with
  | inl num =>
    rw [hr] at lp
    simp only at lp ⊢
    rw [lp]
    exact ⟨st3, kall, rfl⟩
  | inr r =>
    rw [hr] at lp
    simp only at lp ⊢
    obtain ⟨a', b', e, d3, gd⟩ := lp
    rw [e]
    have p1 : fldF c.Draft "pegs" (varF 2) [some (D.str text), some (D.cell st.length), some (D.cell st1.length), a', b'] st3 = some (Rs.ok (D.cell (st1.length + 1)) st3) := f_pegs rfl d3
    simp only [bindR_ok, p1, tru_lst d3.h1]
    by_cases hp : r.pg = []
    · rw [if_pos hp]
      have b1 : (r.pg.map D.str).isEmpty = true := by simp [hp]
      have ll : (ls.map D.str).length = ls.length := List.length_map ..
      simp only [b1, Bool.not_true, Bool.not_false, if_true, raiseS, binF, callF, consA, varF, nilA, conF, List.getElem?_cons_zero, List.getElem?_cons_succ, bindR_ok, len_lst g3, addD, ll, bindR_err]
      exact ⟨st3, kall, by simp⟩
    · rw [if_neg hp]
      have b1 : (r.pg.map D.str).isEmpty = false := by simpa using hp
      simp only [b1, Bool.not_false, Bool.not_true, Bool.false_eq_true, if_false, retS, varF, List.getElem?_cons_zero, List.getElem?_cons_succ, bindR_ok]
      rw [trim_no rfl]
      exact ⟨st3, kall, st1.length, by omega, rfl, d3, gd⟩
end Cr
end
section
namespace Cr
open PySem PF
def netF (k : Nat) (text : Str) (r : DR) : List (Str × D) := [("text", D.str text), ("coords", D.int r.co), ("pegs", D.tup (r.pg.map D.str)), ("rings", D.tup (r.rg.map D.str)), ("cords", D.tup (r.cd.map cdD)), ("_places", D.cell (k + 4)), ("_weights", D.cell (k + 5))]
theorem fld_at {C : Addr} {f : Str} {fv : EF} {env : PF.Env} {st : Store} {n : Nat} {fs : List (Str × D)} {d : D} (he : env[0]? = some (some (D.cell n))) (hn : n < st.length) (hv : fv env (st.set n (Cell.ins C fs)) = some (Rs.ok d (st.set n (Cell.ins C fs)))) (hl : fs.length < 1000) :
    fldS C f (varF 0) fv env (st.set n (Cell.ins C fs)) = some (Rs.ok (Fl.nx env) (st.set n (Cell.ins C (putFD f d fs)))) := by
  have e1 : (st.set n (Cell.ins C fs))[n]? = some (Cell.ins C fs) := get_set_eq hn
  simp only [fldS, hv, bindR_ok, varF, he, e1, true_and, hl, if_true, List.set_set]
theorem tup_of {f : EF} {env : PF.Env} {st : Store} {m : Nat} {ds : List D} (h : f env st = some (Rs.ok (D.cell m) st)) (g : st[m]? = some (Cell.lst ds)) : callF tupleD (consA f nilA) env st = some (Rs.ok (D.tup ds) st) := by
  simp only [callF, consA, nilA, h, bindR_ok, tupleD, g]
theorem net_ok (c : Pc) (st : Store) (text : Str) (f : FineT text) (env : PF.Env) (fa : AF) (hfa : fa env st = some (Rs.ok [D.str text] st)) : ∃ st', Kept st st' st.length ∧ (match netOf (linesOf text) with
    | .inl num => makeF c.Net 2 (m_NetU_initU c) fa env st = some (Rs.err c.BadNet (D.int (num : Nat)) st')
    | .inr r => ∃ k, st.length < k ∧ makeF c.Net 2 (m_NetU_initU c) fa env st = some (Rs.ok (D.cell st.length) st') ∧ st'[st.length]? = some (Cell.ins c.Net (netF k text r)) ∧ DrAt c st' k r ∧ Good r) := by
  have mk : makeF c.Net 2 (m_NetU_initU c) fa env st = bindR (m_NetU_initU c [D.cell st.length, D.str text] (st ++ [Cell.ins c.Net []])) fun d st2 => match d with
      | .non => some (Rs.ok (D.cell st.length) st2)
      | _ => none := by
    simp only [makeF, hfa, bindR_ok, List.length_cons, List.length_nil, Nat.zero_add, Nat.reduceAdd, if_true] <;> rfl
  rw [mk]
  have hl1 : (st ++ [Cell.ins c.Net []]).length = st.length + 1 := by simp
  have g1 : (st ++ [Cell.ins c.Net []])[st.length]? = some (Cell.ins c.Net []) := get_end _ _
  have k01 : Kept st (st ++ [Cell.ins c.Net []]) st.length := ⟨by omega, fun j hj => List.getElem?_append_left hj⟩
  generalize st ++ [Cell.ins c.Net []] = st1 at *
  obtain ⟨st2, k12, rd⟩ := read_draft_ok c st1 text f
  have k12' : Kept st1 st2 st.length := ⟨by have := k12.le; omega, fun j hj => k12.same j (by omega)⟩
  have g2 : st2[st.length]? = some (Cell.ins c.Net []) := (k12.same _ (by omega)).trans g1
  have hn2 : st.length < st2.length := (List.getElem?_eq_some_iff.mp g2).1
  generalize hn : st.length = n at *
  have dc : dcallF 1 (m_read_draft c) (consA (varF 1) nilA) [some (D.cell n), some (D.str text), none] st1 = m_read_draft c [D.str text] st1 := dcall1 rfl
  unfold m_NetU_initU b_NetU_initU
  simp only [runM, seqS, asgS, gNameF, List.map_cons, List.map_nil, List.length_cons, List.length_nil, List.cons_append, List.nil_append, Nat.reduceSub, Nat.reduceAdd, List.replicate_succ, List.replicate_zero, dc]
  cases hr : netOf (linesOf text) with
  | inl num =>
    rw [hr] at rd
    simp only at rd ⊢
    rw [rd]
    exact ⟨st2, k01.trans k12', rfl⟩
  | inr r =>
    rw [hr] at rd
    simp only at rd ⊢
    obtain ⟨k, hk, e, dr, gd⟩ := rd
    rw [e]
    simp only [bindR_ok, List.set_cons_succ, List.set_cons_zero]
    have s0 : st2 = st2.set n (Cell.ins c.Net []) := by
      apply List.ext_getElem?
      intro j
      by_cases hj : n = j
      · subst hj; rw [get_set_eq hn2]; exact g2
      · rw [get_set hj]
    let E : PF.Env := [some (D.cell n), some (D.str text), some (D.cell k)]
    have hd : ∀ fs, DrAt c (st2.set n (Cell.ins c.Net fs)) k r := fun fs => dr.of fun j h1 _ => get_set (by omega)
    have he : E[0]? = some (some (D.cell n)) := rfl
    have he2 : E[2]? = some (some (D.cell k)) := rfl
    have t1 : (st2.set n (Cell.ins c.Net [])) = st2 := s0.symm
    have q1 := fld_at (C := c.Net) (f := "text") (fv := varF 1) (env := E) (st := st2) (fs := []) (d := D.str text) he hn2 rfl (by simp)
    rw [t1] at q1
    have q2 := fun fs hl => fld_at (C := c.Net) (f := "coords") (fv := fldF c.Draft "coords" (varF 2)) (env := E) (st := st2) (fs := fs) he hn2 (f_coords he2 (hd fs)) hl
    have q3 := fun fs hl => fld_at (C := c.Net) (f := "pegs") (fv := callF tupleD (consA (fldF c.Draft "pegs" (varF 2)) nilA)) (env := E) (st := st2) (fs := fs) he hn2 (tup_of (f_pegs he2 (hd fs)) (hd fs).h1) hl
    have q4 := fun fs hl => fld_at (C := c.Net) (f := "rings") (fv := callF tupleD (consA (fldF c.Draft "rings" (varF 2)) nilA)) (env := E) (st := st2) (fs := fs) he hn2 (tup_of (f_rings he2 (hd fs)) (hd fs).h2) hl
    have q5 := fun fs hl => fld_at (C := c.Net) (f := "cords") (fv := callF tupleD (consA (fldF c.Draft "cords" (varF 2)) nilA)) (env := E) (st := st2) (fs := fs) he hn2 (tup_of (f_cords he2 (hd fs)) (hd fs).h3) hl
    have q6 := fun fs hl => fld_at (C := c.Net) (f := "_places") (fv := fldF c.Draft "places" (varF 2)) (env := E) (st := st2) (fs := fs) he hn2 (f_places he2 (hd fs)) hl
    have q7 := fun fs hl => fld_at (C := c.Net) (f := "_weights") (fv := fldF c.Draft "weights" (varF 2)) (env := E) (st := st2) (fs := fs) he hn2 (f_weights he2 (hd fs)) hl
    simp only [E] at q1 q2 q3 q4 q5 q6 q7
    rw [q1]
    simp only [bindR_ok]
    rw [q2 _ (Nat.lt_of_lt_of_le (put_lt (show ([] : List (Str × D)).length < 1 from Nat.zero_lt_one)) (by omega))]
    simp only [bindR_ok]
    rw [q3 _ (Nat.lt_of_lt_of_le (put_lt (put_lt (show ([] : List (Str × D)).length < 1 from Nat.zero_lt_one))) (by omega))]
    simp only [bindR_ok]
    rw [q4 _ (Nat.lt_of_lt_of_le (put_lt (put_lt (put_lt (show ([] : List (Str × D)).length < 1 from Nat.zero_lt_one)))) (by omega))]
    simp only [bindR_ok]
    rw [q5 _ (Nat.lt_of_lt_of_le (put_lt (put_lt (put_lt (put_lt (show ([] : List (Str × D)).length < 1 from Nat.zero_lt_one))))) (by omega))]
    simp only [bindR_ok]
    rw [q6 _ (Nat.lt_of_lt_of_le (put_lt (put_lt (put_lt (put_lt (put_lt (show ([] : List (Str × D)).length < 1 from Nat.zero_lt_one)))))) (by omega))]
    simp only [bindR_ok]
    rw [q7 _ (Nat.lt_of_lt_of_le (put_lt (put_lt (put_lt (put_lt (put_lt (put_lt (show ([] : List (Str × D)).length < 1 from Nat.zero_lt_one))))))) (by omega))]
    simp only [bindR_ok]
    have ef : putFD "_weights" (D.cell (k + 5)) (putFD "_places" (D.cell (k + 4)) (putFD "cords" (D.tup (r.cd.map cdD)) (putFD "rings" (D.tup (r.rg.map D.str)) (putFD "pegs" (D.tup (r.pg.map D.str)) (putFD "coords" (D.int r.co) (putFD "text" (D.str text) [])))))) = netF k text r := rfl
    rw [ef]
    have et : PF.trim st1 D.non (st2.set n (Cell.ins c.Net (netF k text r))) = st2.set n (Cell.ins c.Net (netF k text r)) := by
      unfold PF.trim
      rw [if_neg]
      intro z
      have z2 := congrArg (fun l : Store => l[n]?) z.2
      simp only [List.getElem?_take_of_lt (show n < st1.length by omega), get_set_eq hn2, g1] at z2
      simp [netF] at z2
    rw [et]
    refine ⟨_, ?_, k, by omega, rfl, get_set_eq hn2, hd _, gd⟩
    have k3 : Kept st2 (st2.set n (Cell.ins c.Net (netF k text r))) n := ⟨by simp; omega, fun j hj => get_set (by omega)⟩
    exact (k01.trans k12').trans k3
end Cr
end
section
/-! PH1: what the top has left, read by Bools -/
namespace PF
open PySem PySem.Spec PyProof.Rows L2
abbrev dB {p : Prop} [Decidable p] (_ : p) : Prop := p
/-- a class of errors over ValueError -/
def oexB (K : Frag) (C : Addr) : Bool := (match K.lookup C with
  | some ⟨.type "type", _, .cls cd, sl⟩ => (match cd.mro, sl.toList with
    | .ref C' :: bm, [_, _, _, _, some (.builtin n), _] => C' == C && n == "ValueError.__new__" && !cd.hasDel && cd.hasDict && PySem.HandSPX.refsVE bm
    | _, _ => false)
  | _ => false) && (decide (PySem.W.findIn K (.ref C) "__setattr__" = some (some (.builtin "object.__setattr__"))) && (decide (PySem.W.subIn K (.ref C) (.type "BaseException") = some true) && (decide (PySem.W.typeIn K (.ref C) = some (.type "type")) && PySem.W.keepIn K (.ref C))))
theorem oexB_ok {K : Frag} {C : Addr} (q : oexB K C = true) : OexC K C := by
  unfold oexB at q
  simp only [Bool.and_eq_true, decide_eq_true_eq] at q
  obtain ⟨q, h1, h2, h3, h4⟩ := q
  refine ⟨?_, h1, h2, h3, h4⟩
  split at q
  · rename_i dd cd sl ho
    split at q
    · rename_i C' bm k0 k1 k2 k3 n k5 hm hs
      simp only [Bool.and_eq_true, beq_iff_eq, Bool.not_eq_true'] at q
      obtain ⟨⟨⟨⟨e1, e2⟩, e3⟩, e4⟩, e5⟩ := q
      obtain ⟨nm, bs, mro, ns, qn, hd, sn, sub, ab, col, del⟩ := cd
      dsimp only at hm e3 e4
      subst e1 e2 hm e3 e4
      obtain ⟨l⟩ := sl
      dsimp only at hs
      subst hs
      exact ⟨nm, qn, ns, bs, bm, sn, sub, ab, col, dd, k0, k1, k2, k3, k5, ho, e5⟩
    · cases q
  · cases q
def cls0B (K : Frag) (C : Addr) : Bool := decide (PySem.W.findIn K (.ref C) "__class__" = some (some (.builtin "object.__class__"))) && (decide (PySem.W.specialIn K (.builtin "object.__class__") "__get__" = some (some (.builtin "getset_descriptor.__get__"))) && (decide (PySem.W.takesIn K (.builtin "object.__class__") = some true) && decide (PySem.W.mroIn K C (.type "object") = some true)))
def xnB (K : Frag) (C : Addr) : Bool := xfB K C && ((PySem.W.clsIn K C).isSome && (decide (PySem.W.findIn K (.ref C) valueN = some none) && cls0B K C))
theorem xnB_ok {K : Frag} {C : Addr} (q : xnB K C = true) : XnC K C := by
  unfold xnB cls0B at q
  simp only [Bool.and_eq_true, decide_eq_true_eq] at q
  obtain ⟨h1, h2, h3, h4, h5, h6, h7⟩ := q
  exact ⟨xfB_ok h1, h2, h3, h4, h5, h6, h7⟩
def ownB (K : Frag) (C : Addr) : Bool := (PySem.W.plainGet K C Str.empty && (PySem.W.hasDictIn K C && (PySem.W.plainOver K C && decide (PySem.W.findIn K (.ref C) "__setattr__" = some (some (.builtin "object.__setattr__")))))) && cls0B K C
theorem ownB_ok {K : Frag} {C : Addr} (q : ownB K C = true) : OwnC K C := by
  unfold ownB cls0B at q
  simp only [Bool.and_eq_true, decide_eq_true_eq] at q
  obtain ⟨⟨a1, a2, a3, a4⟩, h4, h5, h6, h7⟩ := q
  exact ⟨⟨a1, a2, a3, a4⟩, h4, h5, h6, h7⟩
def tyB (K : Frag) : Ty → Bool
  | .b _ => true
  | .o C => ownB K C
  | .x C => xnB K C
def tabB (K : Frag) (tb : TyTab) : Bool := tb.all fun e => tyB K e.1.1 && decide (PySem.W.kitOne K e.1.1.val e.1.2.val = some e.2)
theorem tabB_ok {K : Frag} {tb : TyTab} (q : tabB K tb = true) : TabK K tb := fun e he => by
  have h := List.all_eq_true.mp q e he
  simp only [Bool.and_eq_true, decide_eq_true_eq] at h
  refine ⟨?_, h.2⟩
  have h1 := h.1
  cases he1 : e.1.1 with
  | b n => trivial
  | o C => rw [he1] at h1; exact ownB_ok h1
  | x C => rw [he1] at h1; exact xnB_ok h1
def raiB (K : Frag) (C f : Addr) : Bool := oexB K C && (decide (PySem.W.findIn K (.ref C) valueN = some none) && (decide (PySem.W.findIn K (.ref C) "__init__" = some (some (.ref f))) && decide (PySem.W.typeIn K (.ref f) = some (.type "function"))))
theorem fun_of {K : Frag} {x qual : Str} {st : Stmt} {f : Addr} {fd : FuncData} (F : FunD K x qual (defArgs st) (defBody st) (defScope st) [] [] f fd) : Fun K x qual st f fd := by
  obtain ⟨oc, od, dV, kV, doc, pm, an, cdv, ct, osl, e, lk, hc, hd, hk⟩ := F.ex
  rcases hd with ⟨_, hd⟩ | ⟨hd, _⟩
  · subst hd
    exact ⟨⟨oc, od, kV, doc, pm, an, cdv, ct, osl, e, lk, hc⟩, F.kp⟩
  · exact absurd rfl hd
theorem rai_of {P : Program} {w : World} {K : Frag} {mg : Str → Option Value} {base : Heap} {x qual : Str} {C f : Addr} {st : Stmt} {fd : FuncData} {p1 p2 p3 p4 : Pos} (q : raiB K C f = true) (hm : mg x = some (.ref C)) (F : Fun K "__init__" qual st f fd) (b : Binds K fd ["self", "value"] []) (S : FnScope ["self", "value"] ["self", "value"] (defScope st))
    (hb : defBody st = [.Assign [.Attribute (.Name "self" p1) valueN p2] (.Name "value" p3) p4]) (h0 : Vis (defScope st) "self" := by first | exact Or.inl rfl | exact Or.inr (Or.inl rfl) | exact Or.inr (Or.inr rfl)) (h1 : Vis (defScope st) "value" := by first | exact Or.inl rfl | exact Or.inr (Or.inl rfl) | exact Or.inr (Or.inr rfl)) : RaiC P w K mg base x C := by
  unfold raiB at q
  simp only [Bool.and_eq_true, decide_eq_true_eq] at q
  obtain ⟨q1, q2, q3, q4⟩ := q
  exact ⟨oexB_ok q1, q2, hm, f, fd, q3, q4, xinit_ok F S hb h0 h1, b⟩
theorem funL_of {K : Frag} {mg : Str → Option Value} {base : Heap} {x qual : Str} {st : Stmt} {fd : FuncData} {p : He.Defn} (F : Fun K x qual st (He.fAd K p) fd) (tb : LamX.TabB base mg (He.cT K p).1 (He.cT K p).2) : FunL K mg base x qual st (He.fAd K p) fd (He.cT K p).1 (He.cT K p).2 := by
  obtain ⟨oc, od, kV, doc, pm, an, cdv, ct, osl, e, lk, hc⟩ := F.ex
  obtain ⟨cc, rfl⟩ := He.codeIn_ref hc
  have ec : (He.cT K p).1 = cc := He.codeOf_eq lk (by rw [e] <;> rfl)
  rw [ec]
  exact ⟨⟨oc, od, kV, doc, pm, an, ct, osl, e, lk, hc⟩, F.kp, ec ▸ tb⟩
end PF
end
section
namespace Cr
open PySem PySem.Spec PyProof.Rows L2 PF
def bgB (o : Option (Option Value)) (x : String) : Bool := match o with
  | some (some (.builtin n)) => n == x
  | _ => false
theorem bgB_ok {o : Option (Option Value)} {x : String} (h : bgB o x = true) : o = some (some (.builtin x)) := by
  unfold bgB at h
  split at h
  · rw [beq_iff_eq.mp h]
  · cases h
abbrev s_RestErrorU_initU : Stmt := inClass (topS 17) 0
theorem sc_RestErr : FnScope [("self" : Str), ("value" : Str)] [("self" : Str), ("value" : Str)] (defScope s_RestErrorU_initU) := ⟨rfl, rfl, rfl, by decide +kernel, rfl, by decide +kernel, by decide +kernel⟩
def fnL : List He.DefD := [⟨("is_name", none), "is_name", "is_name", defArgs s_is_name, defBody s_is_name, defScope s_is_name, [], []⟩,
  ⟨("read_integer", none), "read_integer", "read_integer", defArgs s_read_integer, defBody s_read_integer, defScope s_read_integer, [], []⟩,
  ⟨("read_fraction", none), "read_fraction", "read_fraction", defArgs s_read_fraction, defBody s_read_fraction, defScope s_read_fraction, [], []⟩,
  ⟨("fits", none), "fits", "fits", defArgs s_fits, defBody s_fits, defScope s_fits, [], []⟩,
  ⟨("read_row", none), "read_row", "read_row", defArgs s_read_row, defBody s_read_row, defScope s_read_row, [], []⟩,
  ⟨("Draft", some "__init__"), "__init__", "Draft.__init__", defArgs s_DraftU_initU, defBody s_DraftU_initU, defScope s_DraftU_initU, [], []⟩,
  ⟨("Draft", some "take_head"), "take_head", "Draft.take_head", defArgs s_Draft_take_head, defBody s_Draft_take_head, defScope s_Draft_take_head, [], []⟩,
  ⟨("Draft", some "new_row"), "new_row", "Draft.new_row", defArgs s_Draft_new_row, defBody s_Draft_new_row, defScope s_Draft_new_row, [], []⟩,
  ⟨("Draft", some "can_tie"), "can_tie", "Draft.can_tie", defArgs s_Draft_can_tie, defBody s_Draft_can_tie, defScope s_Draft_can_tie, [], []⟩,
  ⟨("_law_pot", none), "_law_pot", "_law_pot", defArgs s__law_pot, defBody s__law_pot, defScope s__law_pot, [], []⟩,
  ⟨("_law_take", none), "_law_take", "_law_take", defArgs s__law_take, defBody s__law_take, defScope s__law_take, [], []⟩,
  ⟨("_law_of", none), "_law_of", "_law_of", defArgs s__law_of, defBody s__law_of, defScope s__law_of, [], []⟩,
  ⟨("_law_some", none), "_law_some", "_law_some", defArgs s__law_some, defBody s__law_some, defScope s__law_some, [], []⟩,
  ⟨("_law_heard", none), "_law_heard", "_law_heard", defArgs s__law_heard, defBody s__law_heard, defScope s__law_heard, [], []⟩,
  ⟨("_law_wide_names", none), "_law_wide_names", "_law_wide_names", defArgs s__law_wide_names, defBody s__law_wide_names, defScope s__law_wide_names, [], []⟩,
  ⟨("Draft", some "take_peg"), "take_peg", "Draft.take_peg", defArgs s_Draft_take_peg, defBody s_Draft_take_peg, defScope s_Draft_take_peg, [], []⟩,
  ⟨("Draft", some "take_ring"), "take_ring", "Draft.take_ring", defArgs s_Draft_take_ring, defBody s_Draft_take_ring, defScope s_Draft_take_ring, [], []⟩,
  ⟨("Draft", some "take_cord"), "take_cord", "Draft.take_cord", defArgs s_Draft_take_cord, defBody s_Draft_take_cord, defScope s_Draft_take_cord, [], []⟩,
  ⟨("Draft", some "take"), "take", "Draft.take", defArgs s_Draft_take, defBody s_Draft_take, defScope s_Draft_take, [], []⟩,
  ⟨("read_draft", none), "read_draft", "read_draft", defArgs s_read_draft, defBody s_read_draft, defScope s_read_draft, [], []⟩,
  ⟨("Net", some "__init__"), "__init__", "Net.__init__", defArgs s_NetU_initU, defBody s_NetU_initU, defScope s_NetU_initU, [], []⟩,
  ⟨("_law_is_due", none), "_law_is_due", "_law_is_due", defArgs s__law_is_due, defBody s__law_is_due, defScope s__law_is_due, [], []⟩,
  ⟨("_law_are_counts_right", none), "_law_are_counts_right", "_law_are_counts_right", defArgs s__law_are_counts_right, defBody s__law_are_counts_right, defScope s__law_are_counts_right, [], []⟩,
  ⟨("_law_are_numbers_right", none), "_law_are_numbers_right", "_law_are_numbers_right", defArgs s__law_are_numbers_right, defBody s__law_are_numbers_right, defScope s__law_are_numbers_right, [], []⟩,
  ⟨("_law_are_lines_right", none), "_law_are_lines_right", "_law_are_lines_right", defArgs s__law_are_lines_right, defBody s__law_are_lines_right, defScope s__law_are_lines_right, [], []⟩,
  ⟨("_law_right", none), "_law_right", "_law_right", defArgs s__law_right, defBody s__law_right, defScope s__law_right, [], []⟩,
  ⟨("law", none), "law", "law", defArgs s_law, defBody s_law, defScope s_law, [], []⟩,
  ⟨("RestError", some "__init__"), "__init__", "RestError.__init__", defArgs s_RestErrorU_initU, defBody s_RestErrorU_initU, defScope s_RestErrorU_initU, [], []⟩]
def faL : List He.Fa := [.glo "is_name", .glo "read_integer", .glo "read_fraction", .glo "fits", .glo "read_row", .mkr "Draft", .meth "Draft" "take_head", .meth "Draft" "new_row", .meth "Draft" "can_tie", .glo "_law_pot", .glo "_law_take", .glo "_law_of", .glo "_law_some", .glo "_law_heard", .glo "_law_wide_names", .meth "Draft" "take_peg", .meth "Draft" "take_ring", .meth "Draft" "take_cord", .meth "Draft" "take", .glo "read_draft", .mkr "Net", .glo "_law_is_due", .glo "_law_are_counts_right", .glo "_law_are_numbers_right", .glo "_law_are_lines_right", .glo "_law_right", .glo "law", .free "len", .int "LONGEST_NAME" 6, .str "LETTERS" "abcdefghijklmnopqrstuvwxyz", .free "all", .free "int", .free "str", .int "GREATEST_TOP" 1000, .int "GREATEST_BOTTOM" 60, .free "tuple", .cls "Draft", .noat "Draft" "coords", .noat "Draft" "pegs", .noat "Draft" "rings", .noat "Draft" "cords", .noat "Draft" "places", .noat "Draft" "weights", .glo "Draft", .free "sum", .free "abs", .free "list", .free "range", .int "MOST_PEGS" 16, .int "MOST_RINGS" 8, .int "MOST_CORDS" 20, .free "isinstance", .glo "BadNet", .free "enumerate", .cls "Net", .noat "Net" "text", .noat "Net" "coords", .noat "Net" "pegs", .noat "Net" "rings", .noat "Net" "cords", .noat "Net" "_places", .noat "Net" "_weights", .glo "Net", .glo "RestError", .free "repr"]
def tfL : List He.Defn := [("_law_is_due", none)]
def csOf (K : Frag) : Cs := { Draft := He.ga K "Draft", RestError := He.ga K "RestError", BadNet := He.ga K "BadNet", Net := He.ga K "Net", k__law_is_due := (He.cT K ("_law_is_due", none)).1, t__law_is_due := (He.cT K ("_law_is_due", none)).2 }
def ex0 (K : Frag) : Bool := bgB (PySem.W.nsIn K mainGlobals "gcd") "math.gcd"
def ex1 (K : Frag) : Bool := raiB K (He.ga K "BadNet") (He.fAd K ("RestError", some "__init__"))
def ex2 (K : Frag) : Bool := (cats (csOf K)).all fun C => decide (PySem.W.exmOne K (.ref C) (.ref (csOf K).RestError) = some true)
def ex3 (K : Frag) : Bool := tabB K (isiT_BadNet (csOf K))
def ex4 (K : Frag) : Bool := (cats (csOf K)).all fun C => xnB K C
def exL (K : Frag) : Bool := ex0 K && (ex1 K && (ex2 K && (ex3 K && (ex4 K))))
abbrev Rw : PySem.W.OpenRow := PySem.W.OpenLaw.row PySem.Challenge.rw_cordsatrest_k03_bounds_of_nets_by_hand
def depth : Nat := 8
abbrev hkL : PySem.W.Hook := He.hookX depth faL fnL [] tfL exL
def looseL : List Str := ["gcd", "LETTERS", "LONGEST_NAME", "GREATEST_TOP", "GREATEST_BOTTOM", "is_name", "read_integer", "read_fraction", "fits", "read_row", "MOST_PEGS", "MOST_RINGS", "MOST_CORDS", "Draft", "RestError", "BadNet", "read_draft", "Net", "_law_pot", "_law_take", "_law_of", "_law_some", "_law_heard", "_law_wide_names", "_law_is_due", "_law_are_counts_right", "_law_are_numbers_right", "_law_are_lines_right", "_law_right"]
def fn2 : List He.DefD := (fnL.drop 0).take 28
def valL : He.AlX := (((true, fn2.map He.DefD.val), []), true)
theorem valL_eq (w : World) : valL = hkL.val w := rfl
def frL (s : PySem.W.SharedT) : Frag := He.frT (HandSHeadRun.getT s) (He.asD (HandSHeadRun.getT s) depth)
def obL (s : PySem.W.SharedT) : He.AlX := ((((faL.all fun f => f.ok (frL s)) && fn2.all fun d => d.ok (frL s), fn2.map fun d => He.fnW (frL s) d.at_), []), exL (frL s) && He.tabsB (HandSHeadRun.getT s) tfL (frL s))
theorem obL_eq (s : PySem.W.SharedT) : obL s = hkL.obs s.abs := (show obL s = He.obsX depth faL fnL [] tfL exL (HandSHeadRun.getT s) from rfl).trans (He.obsX_eq (HandSHeadRun.getT_eq s))
@[irreducible] noncomputable def endL (w : World) : Option (Shared × PySem.W.SharedT) := HandSHeadRun.wholeF (fun p => HandSHeadRun.stepQ (HandSHeadRun.denQ HandSHeadRun.tabQ) p w) HandSHeadRun.fenceQ 4000 Rw.prog
theorem endL_eq (w : World) : endL w = HandSHeadRun.wholeF (fun p => HandSHeadRun.stepQ (HandSHeadRun.denQ HandSHeadRun.tabQ) p w) HandSHeadRun.fenceQ 4000 Rw.prog := by kernel_rfl
abbrev vwL : Program := PySem.W.view Rw.prog [34]
noncomputable abbrev kL (w : World) : Option Frag := (endL w).map fun x => frL x.2
end Cr
end
section
namespace Cr
open PySem PySem.Spec PyProof.Rows L2 PF
theorem u1 (w : World) : (endL w).map (fun x => HandSHeadRun.looksF Rw.prog x.1.heap x.2.abs) = some true := by kernel_rfl
end Cr
end
section
namespace Cr
open PySem PySem.Spec PyProof.Rows L2 PF
theorem u2 (w : World) : (endL w).map (fun x => HandSHeadRun.seenQ vwL looseL (importedModules Rw.prog.main.body) (fun s => PySem.W.xlAt vwL [] s && PySem.W.recOk Rw.toRowW.records s) x.2.abs) = some (PySem.W.openGood vwL looseL) := by kernel_rfl
end Cr
end
section
namespace Cr
open PySem PySem.Spec PyProof.Rows L2 PF
theorem u3 (w : World) : (kL w).map (fun K => faL.all fun f => f.ok K) = some true := by kernel_rfl
end Cr
end
section
namespace Cr
open PySem PySem.Spec PyProof.Rows L2 PF
theorem u4 (w : World) : (kL w).map (fun K => fnL.all fun f => f.ok K) = some true := by kernel_rfl
end Cr
end
section
namespace Cr
open PySem PySem.Spec PyProof.Rows L2 PF
theorem u5 (w : World) : (kL w).map (fun K => ((fnL.drop 0).take 28).map fun d => He.fnW K d.at_) = some (((fnL.drop 0).take 28).map He.DefD.val) := by kernel_rfl
end Cr
end
section
namespace Cr
open PySem PySem.Spec PyProof.Rows L2 PF
theorem u7 (w : World) : (endL w).map (fun x => He.tabsB (HandSHeadRun.getT x.2) tfL (frL x.2)) = some true := by kernel_rfl
end Cr
end
section
namespace Cr
open PySem PySem.Spec PyProof.Rows L2 PF
theorem u6_0 (w : World) : (kL w).map (fun K => ex0 K && true) = some true := by kernel_rfl
end Cr
end
section
namespace Cr
open PySem PySem.Spec PyProof.Rows L2 PF
theorem u6_1 (w : World) : (kL w).map (fun K => ex1 K && true) = some true := by kernel_rfl
end Cr
end
section
namespace Cr
open PySem PySem.Spec PyProof.Rows L2 PF
theorem u6_2 (w : World) : (kL w).map (fun K => ex2 K && true) = some true := by kernel_rfl
end Cr
end
section
namespace Cr
open PySem PySem.Spec PyProof.Rows L2 PF
theorem u6_3 (w : World) : (kL w).map (fun K => ex3 K && true) = some true := by kernel_rfl
end Cr
end
section
namespace Cr
open PySem PySem.Spec PyProof.Rows L2 PF
theorem u6_4 (w : World) : (kL w).map (fun K => ex4 K && true) = some true := by kernel_rfl
end Cr
end
section
namespace Cr
open PySem PySem.Spec PyProof.Rows L2 PF
theorem runL (w : World) : HandSHeadRun.RunEqI Rw vwL hkL obL 4000 looseL w := by
  have a1 := u1 w
  have a2 := u2 w
  have a3 := u3 w
  have a4 := u4 w
  have a5 := u5 w
  have a7 := u7 w
  have a6_0 := u6_0 w
  have a6_1 := u6_1 w
  have a6_2 := u6_2 w
  have a6_3 := u6_3 w
  have a6_4 := u6_4 w
  unfold HandSHeadRun.RunEqI
  rw [← valL_eq w, ← endL_eq w]
  unfold kL at *
  generalize endL w = o at *
  cases o with
  | none => cases a1
  | some s =>
    obtain ⟨s0, s⟩ := s
    simp only [Option.map_some, Option.some.injEq, Bool.and_true] at a1 a2 a3 a4 a5 a7 a6_0 a6_1 a6_2 a6_3 a6_4 ⊢
    have b5 : fn2.map (fun d => He.fnW (frL s) d.at_) = fn2.map He.DefD.val := a5
    have b4 : (fn2.all fun d => d.ok (frL s)) = true := a4
    have b6 : exL (frL s) = true := by unfold exL; simp only [a6_0, a6_1, a6_2, a6_3, a6_4, Bool.and_self]
    have bo : obL s = valL := by unfold obL valL; rw [a3, b4, b5, b6, a7]; rfl
    rw [bo]
    exact congrArg (fun z => (z, _)) a1 |>.trans (by rw [a2])
end Cr
end
section
namespace Cr
open PySem PySem.Spec PyProof.Rows L2 PF
theorem glc_int {K : Frag} {mg : Str → Option Value} {x : Str} {i : Int} (h : ∃ t, mg x = some (.int i t)) : GlC K mg x (.int i) := let ⟨t, e⟩ := h; ⟨⟨_, .int i, e, ⟨t, rfl⟩, fun _ _ => .int i⟩⟩
theorem glc_str {K : Frag} {mg : Str → Option Value} {x z : Str} (h : ∃ t, mg x = some (.str z t)) : GlC K mg x (.str z) := let ⟨t, e⟩ := h; ⟨⟨_, .str z, e, ⟨t, rfl⟩, fun _ _ => .str z⟩⟩
theorem glc_ref {K : Frag} {mg : Str → Option Value} {x : Str} {a : Addr} (h : mg x = some (.ref a)) : GlC K mg x (.ref a) := ⟨⟨_, .ref a, h, rfl, fun _ _ => .ref a⟩⟩
theorem tx_of {P : Program} {w : World} {K : Frag} {h base : Heap} {mg : Str → Option Value} (X : K.In h) (G : h.Ns mainGlobals mg) (c : He.SaysX faL fnL [] tfL exL w h K) (TB : ∀ p ∈ tfL, LamX.TabB base mg (He.cT K p).1 (He.cT K p).2) : Tx P w K mg base (csOf K) := by
  obtain ⟨fd_is_name, E_is_name⟩ := c.t.d.def_ 0 (d := ⟨("is_name", none), "is_name", "is_name", defArgs s_is_name, defBody s_is_name, defScope s_is_name, [], []⟩) rfl
  have D_is_name : FunD K "is_name" "is_name" (defArgs s_is_name) (defBody s_is_name) (defScope s_is_name) [] [] (He.fAd K ("is_name", none)) fd_is_name := E_is_name
  have F_is_name := fun_of D_is_name
  have b_is_name : Binds K fd_is_name [("word" : Str)] [] := F_is_name.binds (ps := [("word" : Str)]) fun _ _ _ _ _ _ us hl => match us, hl with | [_], _ => rfl
  obtain ⟨fd_read_integer, E_read_integer⟩ := c.t.d.def_ 1 (d := ⟨("read_integer", none), "read_integer", "read_integer", defArgs s_read_integer, defBody s_read_integer, defScope s_read_integer, [], []⟩) rfl
  have D_read_integer : FunD K "read_integer" "read_integer" (defArgs s_read_integer) (defBody s_read_integer) (defScope s_read_integer) [] [] (He.fAd K ("read_integer", none)) fd_read_integer := E_read_integer
  have F_read_integer := fun_of D_read_integer
  have b_read_integer : Binds K fd_read_integer [("word" : Str)] [] := F_read_integer.binds (ps := [("word" : Str)]) fun _ _ _ _ _ _ us hl => match us, hl with | [_], _ => rfl
  obtain ⟨fd_read_fraction, E_read_fraction⟩ := c.t.d.def_ 2 (d := ⟨("read_fraction", none), "read_fraction", "read_fraction", defArgs s_read_fraction, defBody s_read_fraction, defScope s_read_fraction, [], []⟩) rfl
  have D_read_fraction : FunD K "read_fraction" "read_fraction" (defArgs s_read_fraction) (defBody s_read_fraction) (defScope s_read_fraction) [] [] (He.fAd K ("read_fraction", none)) fd_read_fraction := E_read_fraction
  have F_read_fraction := fun_of D_read_fraction
  have b_read_fraction : Binds K fd_read_fraction [("word" : Str)] [] := F_read_fraction.binds (ps := [("word" : Str)]) fun _ _ _ _ _ _ us hl => match us, hl with | [_], _ => rfl
  obtain ⟨fd_fits, E_fits⟩ := c.t.d.def_ 3 (d := ⟨("fits", none), "fits", "fits", defArgs s_fits, defBody s_fits, defScope s_fits, [], []⟩) rfl
  have D_fits : FunD K "fits" "fits" (defArgs s_fits) (defBody s_fits) (defScope s_fits) [] [] (He.fAd K ("fits", none)) fd_fits := E_fits
  have F_fits := fun_of D_fits
  have b_fits : Binds K fd_fits [("fraction" : Str)] [] := F_fits.binds (ps := [("fraction" : Str)]) fun _ _ _ _ _ _ us hl => match us, hl with | [_], _ => rfl
  obtain ⟨fd_read_row, E_read_row⟩ := c.t.d.def_ 4 (d := ⟨("read_row", none), "read_row", "read_row", defArgs s_read_row, defBody s_read_row, defScope s_read_row, [], []⟩) rfl
  have D_read_row : FunD K "read_row" "read_row" (defArgs s_read_row) (defBody s_read_row) (defScope s_read_row) [] [] (He.fAd K ("read_row", none)) fd_read_row := E_read_row
  have F_read_row := fun_of D_read_row
  have b_read_row : Binds K fd_read_row [("words" : Str)] [] := F_read_row.binds (ps := [("words" : Str)]) fun _ _ _ _ _ _ us hl => match us, hl with | [_], _ => rfl
  obtain ⟨fd_DraftU_initU, E_DraftU_initU⟩ := c.t.d.def_ 5 (d := ⟨("Draft", some "__init__"), "__init__", "Draft.__init__", defArgs s_DraftU_initU, defBody s_DraftU_initU, defScope s_DraftU_initU, [], []⟩) rfl
  have D_DraftU_initU : FunD K "__init__" "Draft.__init__" (defArgs s_DraftU_initU) (defBody s_DraftU_initU) (defScope s_DraftU_initU) [] [] (He.fAd K ("Draft", some "__init__")) fd_DraftU_initU := E_DraftU_initU
  have F_DraftU_initU := fun_of D_DraftU_initU
  have b_DraftU_initU : Binds K fd_DraftU_initU [("self" : Str)] [] := F_DraftU_initU.binds (ps := [("self" : Str)]) fun _ _ _ _ _ _ us hl => match us, hl with | [_], _ => rfl
  obtain ⟨fd_Draft_take_head, E_Draft_take_head⟩ := c.t.d.def_ 6 (d := ⟨("Draft", some "take_head"), "take_head", "Draft.take_head", defArgs s_Draft_take_head, defBody s_Draft_take_head, defScope s_Draft_take_head, [], []⟩) rfl
  have D_Draft_take_head : FunD K "take_head" "Draft.take_head" (defArgs s_Draft_take_head) (defBody s_Draft_take_head) (defScope s_Draft_take_head) [] [] (He.fAd K ("Draft", some "take_head")) fd_Draft_take_head := E_Draft_take_head
  have F_Draft_take_head := fun_of D_Draft_take_head
  have b_Draft_take_head : Binds K fd_Draft_take_head [("self" : Str), ("words" : Str)] [] := F_Draft_take_head.binds (ps := [("self" : Str), ("words" : Str)]) fun _ _ _ _ _ _ us hl => match us, hl with | [_, _], _ => rfl
  obtain ⟨fd_Draft_new_row, E_Draft_new_row⟩ := c.t.d.def_ 7 (d := ⟨("Draft", some "new_row"), "new_row", "Draft.new_row", defArgs s_Draft_new_row, defBody s_Draft_new_row, defScope s_Draft_new_row, [], []⟩) rfl
  have D_Draft_new_row : FunD K "new_row" "Draft.new_row" (defArgs s_Draft_new_row) (defBody s_Draft_new_row) (defScope s_Draft_new_row) [] [] (He.fAd K ("Draft", some "new_row")) fd_Draft_new_row := E_Draft_new_row
  have F_Draft_new_row := fun_of D_Draft_new_row
  have b_Draft_new_row : Binds K fd_Draft_new_row [("self" : Str), ("words" : Str), ("many" : Str)] [] := F_Draft_new_row.binds (ps := [("self" : Str), ("words" : Str), ("many" : Str)]) fun _ _ _ _ _ _ us hl => match us, hl with | [_, _, _], _ => rfl
  obtain ⟨fd_Draft_can_tie, E_Draft_can_tie⟩ := c.t.d.def_ 8 (d := ⟨("Draft", some "can_tie"), "can_tie", "Draft.can_tie", defArgs s_Draft_can_tie, defBody s_Draft_can_tie, defScope s_Draft_can_tie, [], []⟩) rfl
  have D_Draft_can_tie : FunD K "can_tie" "Draft.can_tie" (defArgs s_Draft_can_tie) (defBody s_Draft_can_tie) (defScope s_Draft_can_tie) [] [] (He.fAd K ("Draft", some "can_tie")) fd_Draft_can_tie := E_Draft_can_tie
  have F_Draft_can_tie := fun_of D_Draft_can_tie
  have b_Draft_can_tie : Binds K fd_Draft_can_tie [("self" : Str), ("one" : Str), ("other" : Str)] [] := F_Draft_can_tie.binds (ps := [("self" : Str), ("one" : Str), ("other" : Str)]) fun _ _ _ _ _ _ us hl => match us, hl with | [_, _, _], _ => rfl
  obtain ⟨fd__law_pot, E__law_pot⟩ := c.t.d.def_ 9 (d := ⟨("_law_pot", none), "_law_pot", "_law_pot", defArgs s__law_pot, defBody s__law_pot, defScope s__law_pot, [], []⟩) rfl
  have D__law_pot : FunD K "_law_pot" "_law_pot" (defArgs s__law_pot) (defBody s__law_pot) (defScope s__law_pot) [] [] (He.fAd K ("_law_pot", none)) fd__law_pot := E__law_pot
  have F__law_pot := fun_of D__law_pot
  have b__law_pot : Binds K fd__law_pot [("script" : Str), ("at" : Str)] [] := F__law_pot.binds (ps := [("script" : Str), ("at" : Str)]) fun _ _ _ _ _ _ us hl => match us, hl with | [_, _], _ => rfl
  obtain ⟨fd__law_take, E__law_take⟩ := c.t.d.def_ 10 (d := ⟨("_law_take", none), "_law_take", "_law_take", defArgs s__law_take, defBody s__law_take, defScope s__law_take, [], []⟩) rfl
  have D__law_take : FunD K "_law_take" "_law_take" (defArgs s__law_take) (defBody s__law_take) (defScope s__law_take) [] [] (He.fAd K ("_law_take", none)) fd__law_take := E__law_take
  have F__law_take := fun_of D__law_take
  have b__law_take : Binds K fd__law_take [("pot" : Str), ("upto" : Str)] [] := F__law_take.binds (ps := [("pot" : Str), ("upto" : Str)]) fun _ _ _ _ _ _ us hl => match us, hl with | [_, _], _ => rfl
  obtain ⟨fd__law_of, E__law_of⟩ := c.t.d.def_ 11 (d := ⟨("_law_of", none), "_law_of", "_law_of", defArgs s__law_of, defBody s__law_of, defScope s__law_of, [], []⟩) rfl
  have D__law_of : FunD K "_law_of" "_law_of" (defArgs s__law_of) (defBody s__law_of) (defScope s__law_of) [] [] (He.fAd K ("_law_of", none)) fd__law_of := E__law_of
  have F__law_of := fun_of D__law_of
  have b__law_of : Binds K fd__law_of [("pot" : Str), ("some" : Str)] [] := F__law_of.binds (ps := [("pot" : Str), ("some" : Str)]) fun _ _ _ _ _ _ us hl => match us, hl with | [_, _], _ => rfl
  obtain ⟨fd__law_some, E__law_some⟩ := c.t.d.def_ 12 (d := ⟨("_law_some", none), "_law_some", "_law_some", defArgs s__law_some, defBody s__law_some, defScope s__law_some, [], []⟩) rfl
  have D__law_some : FunD K "_law_some" "_law_some" (defArgs s__law_some) (defBody s__law_some) (defScope s__law_some) [] [] (He.fAd K ("_law_some", none)) fd__law_some := E__law_some
  have F__law_some := fun_of D__law_some
  have b__law_some : Binds K fd__law_some [("pot" : Str), ("pool" : Str), ("many" : Str)] [] := F__law_some.binds (ps := [("pot" : Str), ("pool" : Str), ("many" : Str)]) fun _ _ _ _ _ _ us hl => match us, hl with | [_, _, _], _ => rfl
  obtain ⟨fd__law_heard, E__law_heard⟩ := c.t.d.def_ 13 (d := ⟨("_law_heard", none), "_law_heard", "_law_heard", defArgs s__law_heard, defBody s__law_heard, defScope s__law_heard, [], []⟩) rfl
  have D__law_heard : FunD K "_law_heard" "_law_heard" (defArgs s__law_heard) (defBody s__law_heard) (defScope s__law_heard) [] [] (He.fAd K ("_law_heard", none)) fd__law_heard := E__law_heard
  have F__law_heard := fun_of D__law_heard
  have b__law_heard : Binds K fd__law_heard [("call" : Str)] [] := F__law_heard.binds (ps := [("call" : Str)]) fun _ _ _ _ _ _ us hl => match us, hl with | [_], _ => rfl
  obtain ⟨fd__law_wide_names, E__law_wide_names⟩ := c.t.d.def_ 14 (d := ⟨("_law_wide_names", none), "_law_wide_names", "_law_wide_names", defArgs s__law_wide_names, defBody s__law_wide_names, defScope s__law_wide_names, [], []⟩) rfl
  have D__law_wide_names : FunD K "_law_wide_names" "_law_wide_names" (defArgs s__law_wide_names) (defBody s__law_wide_names) (defScope s__law_wide_names) [] [] (He.fAd K ("_law_wide_names", none)) fd__law_wide_names := E__law_wide_names
  have F__law_wide_names := fun_of D__law_wide_names
  have b__law_wide_names : Binds K fd__law_wide_names [("pot" : Str), ("many" : Str)] [] := F__law_wide_names.binds (ps := [("pot" : Str), ("many" : Str)]) fun _ _ _ _ _ _ us hl => match us, hl with | [_, _], _ => rfl
  obtain ⟨fd_Draft_take_peg, E_Draft_take_peg⟩ := c.t.d.def_ 15 (d := ⟨("Draft", some "take_peg"), "take_peg", "Draft.take_peg", defArgs s_Draft_take_peg, defBody s_Draft_take_peg, defScope s_Draft_take_peg, [], []⟩) rfl
  have D_Draft_take_peg : FunD K "take_peg" "Draft.take_peg" (defArgs s_Draft_take_peg) (defBody s_Draft_take_peg) (defScope s_Draft_take_peg) [] [] (He.fAd K ("Draft", some "take_peg")) fd_Draft_take_peg := E_Draft_take_peg
  have F_Draft_take_peg := fun_of D_Draft_take_peg
  have b_Draft_take_peg : Binds K fd_Draft_take_peg [("self" : Str), ("words" : Str)] [] := F_Draft_take_peg.binds (ps := [("self" : Str), ("words" : Str)]) fun _ _ _ _ _ _ us hl => match us, hl with | [_, _], _ => rfl
  obtain ⟨fd_Draft_take_ring, E_Draft_take_ring⟩ := c.t.d.def_ 16 (d := ⟨("Draft", some "take_ring"), "take_ring", "Draft.take_ring", defArgs s_Draft_take_ring, defBody s_Draft_take_ring, defScope s_Draft_take_ring, [], []⟩) rfl
  have D_Draft_take_ring : FunD K "take_ring" "Draft.take_ring" (defArgs s_Draft_take_ring) (defBody s_Draft_take_ring) (defScope s_Draft_take_ring) [] [] (He.fAd K ("Draft", some "take_ring")) fd_Draft_take_ring := E_Draft_take_ring
  have F_Draft_take_ring := fun_of D_Draft_take_ring
  have b_Draft_take_ring : Binds K fd_Draft_take_ring [("self" : Str), ("words" : Str)] [] := F_Draft_take_ring.binds (ps := [("self" : Str), ("words" : Str)]) fun _ _ _ _ _ _ us hl => match us, hl with | [_, _], _ => rfl
  obtain ⟨fd_Draft_take_cord, E_Draft_take_cord⟩ := c.t.d.def_ 17 (d := ⟨("Draft", some "take_cord"), "take_cord", "Draft.take_cord", defArgs s_Draft_take_cord, defBody s_Draft_take_cord, defScope s_Draft_take_cord, [], []⟩) rfl
  have D_Draft_take_cord : FunD K "take_cord" "Draft.take_cord" (defArgs s_Draft_take_cord) (defBody s_Draft_take_cord) (defScope s_Draft_take_cord) [] [] (He.fAd K ("Draft", some "take_cord")) fd_Draft_take_cord := E_Draft_take_cord
  have F_Draft_take_cord := fun_of D_Draft_take_cord
  have b_Draft_take_cord : Binds K fd_Draft_take_cord [("self" : Str), ("words" : Str)] [] := F_Draft_take_cord.binds (ps := [("self" : Str), ("words" : Str)]) fun _ _ _ _ _ _ us hl => match us, hl with | [_, _], _ => rfl
  obtain ⟨fd_Draft_take, E_Draft_take⟩ := c.t.d.def_ 18 (d := ⟨("Draft", some "take"), "take", "Draft.take", defArgs s_Draft_take, defBody s_Draft_take, defScope s_Draft_take, [], []⟩) rfl
  have D_Draft_take : FunD K "take" "Draft.take" (defArgs s_Draft_take) (defBody s_Draft_take) (defScope s_Draft_take) [] [] (He.fAd K ("Draft", some "take")) fd_Draft_take := E_Draft_take
  have F_Draft_take := fun_of D_Draft_take
  have b_Draft_take : Binds K fd_Draft_take [("self" : Str), ("line" : Str)] [] := F_Draft_take.binds (ps := [("self" : Str), ("line" : Str)]) fun _ _ _ _ _ _ us hl => match us, hl with | [_, _], _ => rfl
  obtain ⟨fd_read_draft, E_read_draft⟩ := c.t.d.def_ 19 (d := ⟨("read_draft", none), "read_draft", "read_draft", defArgs s_read_draft, defBody s_read_draft, defScope s_read_draft, [], []⟩) rfl
  have D_read_draft : FunD K "read_draft" "read_draft" (defArgs s_read_draft) (defBody s_read_draft) (defScope s_read_draft) [] [] (He.fAd K ("read_draft", none)) fd_read_draft := E_read_draft
  have F_read_draft := fun_of D_read_draft
  have b_read_draft : Binds K fd_read_draft [("text" : Str)] [] := F_read_draft.binds (ps := [("text" : Str)]) fun _ _ _ _ _ _ us hl => match us, hl with | [_], _ => rfl
  obtain ⟨fd_NetU_initU, E_NetU_initU⟩ := c.t.d.def_ 20 (d := ⟨("Net", some "__init__"), "__init__", "Net.__init__", defArgs s_NetU_initU, defBody s_NetU_initU, defScope s_NetU_initU, [], []⟩) rfl
  have D_NetU_initU : FunD K "__init__" "Net.__init__" (defArgs s_NetU_initU) (defBody s_NetU_initU) (defScope s_NetU_initU) [] [] (He.fAd K ("Net", some "__init__")) fd_NetU_initU := E_NetU_initU
  have F_NetU_initU := fun_of D_NetU_initU
  have b_NetU_initU : Binds K fd_NetU_initU [("self" : Str), ("text" : Str)] [] := F_NetU_initU.binds (ps := [("self" : Str), ("text" : Str)]) fun _ _ _ _ _ _ us hl => match us, hl with | [_, _], _ => rfl
  obtain ⟨fd__law_is_due, E__law_is_due⟩ := c.t.d.def_ 21 (d := ⟨("_law_is_due", none), "_law_is_due", "_law_is_due", defArgs s__law_is_due, defBody s__law_is_due, defScope s__law_is_due, [], []⟩) rfl
  have D__law_is_due : FunD K "_law_is_due" "_law_is_due" (defArgs s__law_is_due) (defBody s__law_is_due) (defScope s__law_is_due) [] [] (He.fAd K ("_law_is_due", none)) fd__law_is_due := E__law_is_due
  have F__law_is_due := fun_of D__law_is_due
  have b__law_is_due : Binds K fd__law_is_due [("lines" : Str), ("number" : Str)] [] := F__law_is_due.binds (ps := [("lines" : Str), ("number" : Str)]) fun _ _ _ _ _ _ us hl => match us, hl with | [_, _], _ => rfl
  obtain ⟨fd__law_are_counts_right, E__law_are_counts_right⟩ := c.t.d.def_ 22 (d := ⟨("_law_are_counts_right", none), "_law_are_counts_right", "_law_are_counts_right", defArgs s__law_are_counts_right, defBody s__law_are_counts_right, defScope s__law_are_counts_right, [], []⟩) rfl
  have D__law_are_counts_right : FunD K "_law_are_counts_right" "_law_are_counts_right" (defArgs s__law_are_counts_right) (defBody s__law_are_counts_right) (defScope s__law_are_counts_right) [] [] (He.fAd K ("_law_are_counts_right", none)) fd__law_are_counts_right := E__law_are_counts_right
  have F__law_are_counts_right := fun_of D__law_are_counts_right
  have b__law_are_counts_right : Binds K fd__law_are_counts_right [("names" : Str)] [] := F__law_are_counts_right.binds (ps := [("names" : Str)]) fun _ _ _ _ _ _ us hl => match us, hl with | [_], _ => rfl
  obtain ⟨fd__law_are_numbers_right, E__law_are_numbers_right⟩ := c.t.d.def_ 23 (d := ⟨("_law_are_numbers_right", none), "_law_are_numbers_right", "_law_are_numbers_right", defArgs s__law_are_numbers_right, defBody s__law_are_numbers_right, defScope s__law_are_numbers_right, [], []⟩) rfl
  have D__law_are_numbers_right : FunD K "_law_are_numbers_right" "_law_are_numbers_right" (defArgs s__law_are_numbers_right) (defBody s__law_are_numbers_right) (defScope s__law_are_numbers_right) [] [] (He.fAd K ("_law_are_numbers_right", none)) fd__law_are_numbers_right := E__law_are_numbers_right
  have F__law_are_numbers_right := fun_of D__law_are_numbers_right
  have b__law_are_numbers_right : Binds K fd__law_are_numbers_right [("a" : Str), ("b" : Str)] [] := F__law_are_numbers_right.binds (ps := [("a" : Str), ("b" : Str)]) fun _ _ _ _ _ _ us hl => match us, hl with | [_, _], _ => rfl
  obtain ⟨fd__law_are_lines_right, E__law_are_lines_right⟩ := c.t.d.def_ 24 (d := ⟨("_law_are_lines_right", none), "_law_are_lines_right", "_law_are_lines_right", defArgs s__law_are_lines_right, defBody s__law_are_lines_right, defScope s__law_are_lines_right, [], []⟩) rfl
  have D__law_are_lines_right : FunD K "_law_are_lines_right" "_law_are_lines_right" (defArgs s__law_are_lines_right) (defBody s__law_are_lines_right) (defScope s__law_are_lines_right) [] [] (He.fAd K ("_law_are_lines_right", none)) fd__law_are_lines_right := E__law_are_lines_right
  have F__law_are_lines_right := fun_of D__law_are_lines_right
  have b__law_are_lines_right : Binds K fd__law_are_lines_right [("a" : Str), ("b" : Str), ("c" : Str)] [] := F__law_are_lines_right.binds (ps := [("a" : Str), ("b" : Str), ("c" : Str)]) fun _ _ _ _ _ _ us hl => match us, hl with | [_, _, _], _ => rfl
  obtain ⟨fd__law_right, E__law_right⟩ := c.t.d.def_ 25 (d := ⟨("_law_right", none), "_law_right", "_law_right", defArgs s__law_right, defBody s__law_right, defScope s__law_right, [], []⟩) rfl
  have D__law_right : FunD K "_law_right" "_law_right" (defArgs s__law_right) (defBody s__law_right) (defScope s__law_right) [] [] (He.fAd K ("_law_right", none)) fd__law_right := E__law_right
  have F__law_right := fun_of D__law_right
  have b__law_right : Binds K fd__law_right [("pot" : Str)] [] := F__law_right.binds (ps := [("pot" : Str)]) fun _ _ _ _ _ _ us hl => match us, hl with | [_], _ => rfl
  obtain ⟨fd_law, E_law⟩ := c.t.d.def_ 26 (d := ⟨("law", none), "law", "law", defArgs s_law, defBody s_law, defScope s_law, [], []⟩) rfl
  have D_law : FunD K "law" "law" (defArgs s_law) (defBody s_law) (defScope s_law) [] [] (He.fAd K ("law", none)) fd_law := E_law
  have F_law := fun_of D_law
  have b_law : Binds K fd_law [("script" : Str)] [] := F_law.binds (ps := [("script" : Str)]) fun _ _ _ _ _ _ us hl => match us, hl with | [_], _ => rfl
  obtain ⟨fd_RestErr, E_RestErr⟩ := c.t.d.def_ 27 (d := ⟨("RestError", some "__init__"), "__init__", "RestError.__init__", defArgs s_RestErrorU_initU, defBody s_RestErrorU_initU, defScope s_RestErrorU_initU, [], []⟩) rfl
  have D_RestErr : FunD K "__init__" "RestError.__init__" (defArgs s_RestErrorU_initU) (defBody s_RestErrorU_initU) (defScope s_RestErrorU_initU) [] [] (He.fAd K ("RestError", some "__init__")) fd_RestErr := E_RestErr
  have F_RestErr := fun_of D_RestErr
  have b_RestErr : Binds K fd_RestErr [("self" : Str), ("value" : Str)] [] := F_RestErr.binds (ps := [("self" : Str), ("value" : Str)]) fun _ _ _ _ _ _ us hl => match us, hl with | [_, _], _ => rfl
  have mo : exL K = true := c.more
  unfold exL at mo
  simp only [Bool.and_eq_true] at mo
  obtain ⟨m0, m1, m2, m3, m4⟩ := mo
  exact {
    b_len := He.free_ok X G (c.t.d.fact 27 (f := .free "len") rfl)
    g_LONGEST_NAME := glc_int (He.int_ok X G (c.t.d.fact 28 (f := .int "LONGEST_NAME" 6) rfl))
    g_LETTERS := glc_str (He.str_ok X G (c.t.d.fact 29 (f := .str "LETTERS" "abcdefghijklmnopqrstuvwxyz") rfl))
    b_all := He.free_ok X G (c.t.d.fact 30 (f := .free "all") rfl)
    f_is_name := ⟨_, _, F_is_name, He.glo_ok X G (c.t.d.fact 0 (f := .glo "is_name") rfl), b_is_name⟩
    b_int := He.free_ok X G (c.t.d.fact 31 (f := .free "int") rfl)
    b_str := He.free_ok X G (c.t.d.fact 32 (f := .free "str") rfl)
    f_read_integer := ⟨_, _, F_read_integer, He.glo_ok X G (c.t.d.fact 1 (f := .glo "read_integer") rfl), b_read_integer⟩
    gcd := PySem.W.mg_of X G (bgB_ok m0)
    f_read_fraction := ⟨_, _, F_read_fraction, He.glo_ok X G (c.t.d.fact 2 (f := .glo "read_fraction") rfl), b_read_fraction⟩
    g_GREATEST_TOP := glc_int (He.int_ok X G (c.t.d.fact 33 (f := .int "GREATEST_TOP" 1000) rfl))
    g_GREATEST_BOTTOM := glc_int (He.int_ok X G (c.t.d.fact 34 (f := .int "GREATEST_BOTTOM" 60) rfl))
    f_fits := ⟨_, _, F_fits, He.glo_ok X G (c.t.d.fact 3 (f := .glo "fits") rfl), b_fits⟩
    b_tuple := He.free_ok X G (c.t.d.fact 35 (f := .free "tuple") rfl)
    f_read_row := ⟨_, _, F_read_row, He.glo_ok X G (c.t.d.fact 4 (f := .glo "read_row") rfl), b_read_row⟩
    cls_Draft := He.cls_ok (c.t.d.fact 36 (f := .cls "Draft") rfl)
    na_Draft_coords := He.noat_ok (c.t.d.fact 37 (f := .noat "Draft" "coords") rfl)
    na_Draft_pegs := He.noat_ok (c.t.d.fact 38 (f := .noat "Draft" "pegs") rfl)
    na_Draft_rings := He.noat_ok (c.t.d.fact 39 (f := .noat "Draft" "rings") rfl)
    na_Draft_cords := He.noat_ok (c.t.d.fact 40 (f := .noat "Draft" "cords") rfl)
    na_Draft_places := He.noat_ok (c.t.d.fact 41 (f := .noat "Draft" "places") rfl)
    na_Draft_weights := He.noat_ok (c.t.d.fact 42 (f := .noat "Draft" "weights") rfl)
    f_DraftU_initU := ⟨_, _, F_DraftU_initU, He.mkr_ok (c.t.d.fact 5 (f := .mkr "Draft") rfl), He.glo_ok X G (c.t.d.fact 43 (f := .glo "Draft") rfl), b_DraftU_initU⟩
    f_Draft_take_head := ⟨_, _, F_Draft_take_head, He.meth_ok (c.t.d.fact 6 (f := .meth "Draft" "take_head") rfl), b_Draft_take_head⟩
    f_Draft_new_row := ⟨_, _, F_Draft_new_row, He.meth_ok (c.t.d.fact 7 (f := .meth "Draft" "new_row") rfl), b_Draft_new_row⟩
    f_Draft_can_tie := ⟨_, _, F_Draft_can_tie, He.meth_ok (c.t.d.fact 8 (f := .meth "Draft" "can_tie") rfl), b_Draft_can_tie⟩
    b_sum := He.free_ok X G (c.t.d.fact 44 (f := .free "sum") rfl)
    b_abs := He.free_ok X G (c.t.d.fact 45 (f := .free "abs") rfl)
    f__law_pot := ⟨_, _, F__law_pot, He.glo_ok X G (c.t.d.fact 9 (f := .glo "_law_pot") rfl), b__law_pot⟩
    f__law_take := ⟨_, _, F__law_take, He.glo_ok X G (c.t.d.fact 10 (f := .glo "_law_take") rfl), b__law_take⟩
    f__law_of := ⟨_, _, F__law_of, He.glo_ok X G (c.t.d.fact 11 (f := .glo "_law_of") rfl), b__law_of⟩
    b_list := He.free_ok X G (c.t.d.fact 46 (f := .free "list") rfl)
    b_range := He.free_ok X G (c.t.d.fact 47 (f := .free "range") rfl)
    f__law_some := ⟨_, _, F__law_some, He.glo_ok X G (c.t.d.fact 12 (f := .glo "_law_some") rfl), b__law_some⟩
    f__law_wide_names := ⟨_, _, F__law_wide_names, He.glo_ok X G (c.t.d.fact 14 (f := .glo "_law_wide_names") rfl), b__law_wide_names⟩
    g_MOST_PEGS := glc_int (He.int_ok X G (c.t.d.fact 48 (f := .int "MOST_PEGS" 16) rfl))
    f_Draft_take_peg := ⟨_, _, F_Draft_take_peg, He.meth_ok (c.t.d.fact 15 (f := .meth "Draft" "take_peg") rfl), b_Draft_take_peg⟩
    g_MOST_RINGS := glc_int (He.int_ok X G (c.t.d.fact 49 (f := .int "MOST_RINGS" 8) rfl))
    f_Draft_take_ring := ⟨_, _, F_Draft_take_ring, He.meth_ok (c.t.d.fact 16 (f := .meth "Draft" "take_ring") rfl), b_Draft_take_ring⟩
    g_MOST_CORDS := glc_int (He.int_ok X G (c.t.d.fact 50 (f := .int "MOST_CORDS" 20) rfl))
    f_Draft_take_cord := ⟨_, _, F_Draft_take_cord, He.meth_ok (c.t.d.fact 17 (f := .meth "Draft" "take_cord") rfl), b_Draft_take_cord⟩
    f_Draft_take := ⟨_, _, F_Draft_take, He.meth_ok (c.t.d.fact 18 (f := .meth "Draft" "take") rfl), b_Draft_take⟩
    b_isinstance := He.free_ok X G (c.t.d.fact 51 (f := .free "isinstance") rfl)
    rai_BadNet := rai_of m1 (He.glo_ok X G (c.t.d.fact 52 (f := .glo "BadNet") rfl)) F_RestErr b_RestErr sc_RestErr rfl
    b_enumerate := He.free_ok X G (c.t.d.fact 53 (f := .free "enumerate") rfl)
    f_read_draft := ⟨_, _, F_read_draft, He.glo_ok X G (c.t.d.fact 19 (f := .glo "read_draft") rfl), b_read_draft⟩
    cls_Net := He.cls_ok (c.t.d.fact 54 (f := .cls "Net") rfl)
    na_Net_text := He.noat_ok (c.t.d.fact 55 (f := .noat "Net" "text") rfl)
    na_Net_coords := He.noat_ok (c.t.d.fact 56 (f := .noat "Net" "coords") rfl)
    na_Net_pegs := He.noat_ok (c.t.d.fact 57 (f := .noat "Net" "pegs") rfl)
    na_Net_rings := He.noat_ok (c.t.d.fact 58 (f := .noat "Net" "rings") rfl)
    na_Net_cords := He.noat_ok (c.t.d.fact 59 (f := .noat "Net" "cords") rfl)
    na_Net__places := He.noat_ok (c.t.d.fact 60 (f := .noat "Net" "_places") rfl)
    na_Net__weights := He.noat_ok (c.t.d.fact 61 (f := .noat "Net" "_weights") rfl)
    f_NetU_initU := ⟨_, _, F_NetU_initU, He.mkr_ok (c.t.d.fact 20 (f := .mkr "Net") rfl), He.glo_ok X G (c.t.d.fact 62 (f := .glo "Net") rfl), b_NetU_initU⟩
    f__law_heard := ⟨_, _, F__law_heard, He.glo_ok X G (c.t.d.fact 13 (f := .glo "_law_heard") rfl), b__law_heard⟩
    m_RestError := He.glo_ok X G (c.t.d.fact 63 (f := .glo "RestError") rfl)
    cat_ex := fun C hC => of_decide_eq_true (List.all_eq_true.mp m2 C hC)
    gc_BadNet := glc_ref (He.glo_ok X G (c.t.d.fact 52 (f := .glo "BadNet") rfl))
    isi_BadNet := tabB_ok m3
    cat_x := fun C hC => xnB_ok (List.all_eq_true.mp m4 C hC)
    b_repr := He.free_ok X G (c.t.d.fact 64 (f := .free "repr") rfl)
    f__law_is_due := ⟨_, _, funL_of F__law_is_due (TB _ (by decide +kernel)), He.glo_ok X G (c.t.d.fact 21 (f := .glo "_law_is_due") rfl), b__law_is_due⟩
    f__law_are_counts_right := ⟨_, _, F__law_are_counts_right, He.glo_ok X G (c.t.d.fact 22 (f := .glo "_law_are_counts_right") rfl), b__law_are_counts_right⟩
    f__law_are_numbers_right := ⟨_, _, F__law_are_numbers_right, He.glo_ok X G (c.t.d.fact 23 (f := .glo "_law_are_numbers_right") rfl), b__law_are_numbers_right⟩
    f__law_are_lines_right := ⟨_, _, F__law_are_lines_right, He.glo_ok X G (c.t.d.fact 24 (f := .glo "_law_are_lines_right") rfl), b__law_are_lines_right⟩
    f__law_right := ⟨_, _, F__law_right, He.glo_ok X G (c.t.d.fact 25 (f := .glo "_law_right") rfl), b__law_right⟩
    f_law := ⟨_, _, F_law, He.glo_ok X G (c.t.d.fact 26 (f := .glo "law") rfl), b_law⟩
  }
end Cr
end
section
/-! PI1: nets by ids in place of names: what the lines of a text come to does not lean on what the names are -/
namespace Cr
open PySem PF
structure DRa (N : Nat) where
  co : Int
  pg : List (Fin N)
  rg : List (Fin N)
  cd : List (Fin N × Fin N)
  pl : List (Fin N × List Fr)
  wt : List (Fin N × List Fr)
inductive La (N : Nat) where
  | head (co : Int)
  | peg (i : Fin N) (row : List (Option Fr))
  | ring (i : Fin N) (row : List (Option Fr))
  | cord (i j : Fin N)
  | bad
section
variable {N : Nat}
def hasA (l : List (Fin N × List Fr)) (x : Fin N) : Bool := l.any fun p => decide (p.1 = x)
def atA (l : List (Fin N × List Fr)) (x : Fin N) : Option (List Fr) := (l.find? fun p => decide (p.1 = x)).map (·.2)
def newRowA (ok : Fin N → Bool) (r : DRa N) (i : Fin N) (row : List (Option Fr)) (many : Int) : Option (List Fr) := if (row.length : Int) = many then (if ok i = true then (if hasA r.pl i = true then none else rowOf row) else none) else none
def canTieA (r : DRa N) (x y : Fin N) : Bool := hasA r.pl x && (hasA r.pl y && (!decide (atA r.pl x = atA r.pl y) && ((hasA r.wt x || hasA r.wt y) && (!decide ((x, y) ∈ r.cd) && !decide ((y, x) ∈ r.cd)))))
def takeA (ok : Fin N → Bool) (r : DRa N) : La N → Option (DRa N)
  | .head co => if r.co = 0 then some { r with co := co } else none
  | .peg i row => if r.co = 0 then none else if r.rg = [] then (if r.cd = [] then (if r.pg.length < 16 then (match newRowA ok r i row r.co with
    | none => none
    | some row => some { r with pg := r.pg ++ [i], pl := r.pl ++ [(i, row)] }) else none) else none) else none
  | .ring i row => if r.co = 0 then none else if r.pg = [] then none else (if r.cd = [] then (if r.rg.length < 8 then (match newRowA ok r i row (2 * r.co) with
    | none => none
    | some row => some { r with rg := r.rg ++ [i], pl := r.pl ++ [(i, row.take r.co.toNat)], wt := r.wt ++ [(i, row.drop r.co.toNat)] }) else none) else none)
  | .cord i j => if r.co = 0 then none else if r.cd.length < 20 then (if canTieA r i j = true then some { r with cd := r.cd ++ [(i, j)] } else none) else none
  | .bad => none
def cvP (val : Fin N → Str) (l : List (Fin N × List Fr)) : List (Str × List Fr) := l.map fun p => (val p.1, p.2)
def cv (val : Fin N → Str) (r : DRa N) : DR := ⟨r.co, r.pg.map val, r.rg.map val, r.cd.map fun p => (val p.1, val p.2), cvP val r.pl, cvP val r.wt⟩
/-- what a line is by ids -/
def LineIs (val : Fin N → Str) (line : Str) : La N → Prop
  | .head co => ∃ w : Str, wordsOf line = (["net", w] : List Str) ∧ coOf w = some co
  | .peg i row => ∃ ws : List Str, wordsOf line = ("peg" : Str) :: val i :: ws ∧ rfs ws = row
  | .ring i row => ∃ ws : List Str, wordsOf line = ("ring" : Str) :: val i :: ws ∧ rfs ws = row
  | .cord i j => wordsOf line = (["cord", val i, val j] : List Str)
  | .bad => ∀ r, takeLine r line = none
variable {val : Fin N → Str} {ok : Fin N → Bool} (inj : ∀ i j, val i = val j → i = j) (hok : ∀ i, isName (val i) = ok i)
include inj in
theorem has_cv (l : List (Fin N × List Fr)) (x : Fin N) : has (cvP val l) (val x) = hasA l x := by
  unfold has hasA cvP
  rw [List.any_map]
  congr 1
  funext p
  show decide (val p.1 = val x) = decide (p.1 = x)
  by_cases h : p.1 = x
  · simp [h]
  · have : val p.1 ≠ val x := fun z => h (inj _ _ z)
    simp [h, this]
include inj in
theorem at_cv (l : List (Fin N × List Fr)) (x : Fin N) : at_ (cvP val l) (val x) = atA l x := by
  unfold at_ atA cvP
  rw [List.find?_map, Option.map_map]
  have e : ((fun p : Str × List Fr => decide (p.1 = val x)) ∘ fun p : Fin N × List Fr => (val p.1, p.2)) = fun p => decide (p.1 = x) := by
    funext p
    show decide (val p.1 = val x) = decide (p.1 = x)
    by_cases h : p.1 = x
    · simp [h]
    · have : val p.1 ≠ val x := fun z => h (inj _ _ z)
      simp [h, this]
  rw [e]
  rfl
include inj in
theorem mem_cv (l : List (Fin N × Fin N)) (x y : Fin N) : ((val x, val y) ∈ l.map fun p => (val p.1, val p.2)) ↔ (x, y) ∈ l := by
  rw [List.mem_map]
  constructor
  · rintro ⟨p, hp, e⟩
    have e1 := inj _ _ (congrArg Prod.fst e)
    have e2 := inj _ _ (congrArg Prod.snd e)
    obtain ⟨a, b⟩ := p
    simp only at e1 e2
    subst e1 e2
    exact hp
  · intro h
    exact ⟨_, h, rfl⟩
include inj in
theorem canTie_cv (r : DRa N) (x y : Fin N) : canTie (cv val r) (val x) (val y) = canTieA r x y := by
  unfold canTie canTieA cv
  simp only [has_cv inj, at_cv inj, mem_cv inj]
include inj hok in
theorem newRow_cv (r : DRa N) (w : Str) (i : Fin N) (ws : List Str) (many : Int) : newRow (cv val r) (w :: val i :: ws) (many) = newRowA ok r i (rfs ws) many := by
  unfold newRow newRowA
  have e1 : (((w :: val i :: ws).length : Int) = 2 + many) ↔ (((rfs ws).length : Int) = many) := by
    simp [rfs]
    omega
  have e2 : (w :: val i :: ws).getD 1 "" = val i := rfl
  have e3 : (w :: val i :: ws).drop 2 = ws := rfl
  rw [e2, e3, hok, has_cv inj (val := val) r.pl i |> (fun h => (show has (cv val r).pl (val i) = hasA r.pl i from h))]
  by_cases h : ((rfs ws).length : Int) = many
  · rw [if_pos h, if_pos (e1.mpr h)]
  · rw [if_neg h, if_neg (fun z => h (e1.mp z))]
theorem cv_nil {β γ : Type} (f : β → γ) (l : List β) : (l.map f = []) = (l = []) := by simp
include inj hok in
theorem take_cv (r : DRa N) (line : Str) (al : La N) (h : LineIs val line al) : takeLine (cv val r) line = (takeA ok r al).map (cv val) := by
  cases al with
  | bad => rw [h]; rfl
  | head co =>
    obtain ⟨w, e, hw⟩ := h
    unfold takeLine takeA
    dsimp only
    rw [e]
    have c0 : (cv val r).co = r.co := rfl
    rw [c0]
    by_cases h0 : r.co = 0
    · rw [if_pos h0, if_pos h0]
      have t1 : (["net", w] : List Str).getD 0 "" = "net" := rfl
      have t2 : (["net", w] : List Str).getD 1 "" = w := rfl
      unfold takeHead
      rw [t1, t2, if_pos (show (((["net", w] : List Str)).length = 2) from rfl), if_pos rfl, hw]
      rfl
    · rw [if_neg h0, if_neg h0]
      have t1 : (["net", w] : List Str).getD 0 "" = "net" := rfl
      rw [t1, if_neg (by decide +kernel), if_neg (by decide +kernel), if_neg (by decide +kernel)]
      rfl
  | peg i row =>
    obtain ⟨ws, e, hw⟩ := h
    unfold takeLine takeA
    dsimp only
    rw [e]
    have c0 : (cv val r).co = r.co := rfl
    have t1 : (("peg" : Str) :: val i :: ws).getD 0 "" = "peg" := rfl
    have t2 : (("peg" : Str) :: val i :: ws).getD 1 "" = val i := rfl
    rw [c0]
    by_cases h0 : r.co = 0
    · rw [if_pos h0, if_pos h0]
      unfold takeHead
      rw [t1, if_neg (show ("peg" : Str) ≠ "net" by decide +kernel)]
      split <;> rfl
    · rw [if_neg h0, if_neg h0, t1, if_pos rfl]
      unfold takePeg
      have c1 : ((cv val r).rg = []) = (r.rg = []) := cv_nil _ _
      have c2 : ((cv val r).cd = []) = (r.cd = []) := cv_nil _ _
      have c3 : (cv val r).pg.length = r.pg.length := List.length_map _
      rw [c0, newRow_cv inj hok, hw, t2, c3]
      simp only [c1, c2]
      split
      · split
        · split
          · cases newRowA ok r i row r.co with
            | none => rfl
            | some row => simp only [Option.map_some, cv, cvP, List.map_append, List.map_cons, List.map_nil]
          · rfl
        · rfl
      · rfl
  | ring i row =>
    obtain ⟨ws, e, hw⟩ := h
    unfold takeLine takeA
    dsimp only
    rw [e]
    have c0 : (cv val r).co = r.co := rfl
    have t1 : (("ring" : Str) :: val i :: ws).getD 0 "" = "ring" := rfl
    have t2 : (("ring" : Str) :: val i :: ws).getD 1 "" = val i := rfl
    rw [c0]
    by_cases h0 : r.co = 0
    · rw [if_pos h0, if_pos h0]
      unfold takeHead
      rw [t1, if_neg (show ("ring" : Str) ≠ "net" by decide +kernel)]
      split <;> rfl
    · rw [if_neg h0, if_neg h0, t1, if_neg (show ("ring" : Str) ≠ "peg" by decide +kernel), if_pos rfl]
      unfold takeRing
      have c1 : ((cv val r).pg = []) = (r.pg = []) := cv_nil _ _
      have c2 : ((cv val r).cd = []) = (r.cd = []) := cv_nil _ _
      have c3 : (cv val r).rg.length = r.rg.length := List.length_map _
      rw [c0, newRow_cv inj hok, hw, t2, c3]
      simp only [c1, c2]
      split
      · rfl
      · split
        · split
          · cases newRowA ok r i row (2 * r.co) with
            | none => rfl
            | some row => simp only [Option.map_some, cv, cvP, List.map_append, List.map_cons, List.map_nil]
          · rfl
        · rfl
  | cord i j =>
    have e : wordsOf line = (["cord", val i, val j] : List Str) := h
    unfold takeLine takeA
    dsimp only
    rw [e]
    have c0 : (cv val r).co = r.co := rfl
    have t1 : (["cord", val i, val j] : List Str).getD 0 "" = "cord" := rfl
    have t2 : (["cord", val i, val j] : List Str).getD 1 "" = val i := rfl
    have t3 : (["cord", val i, val j] : List Str).getD 2 "" = val j := rfl
    rw [c0]
    by_cases h0 : r.co = 0
    · rw [if_pos h0, if_pos h0]
      unfold takeHead
      rw [t1, if_neg (show ("cord" : Str) ≠ "net" by decide +kernel)]
      split <;> rfl
    · rw [if_neg h0, if_neg h0, t1, if_neg (show ("cord" : Str) ≠ "peg" by decide +kernel), if_neg (show ("cord" : Str) ≠ "ring" by decide +kernel), if_pos rfl]
      unfold takeCord
      have c3 : (cv val r).cd.length = r.cd.length := List.length_map _
      rw [if_pos (show (((["cord", val i, val j] : List Str)).length = 3) from rfl), t2, t3, canTie_cv inj, c3]
      split
      · split
        · simp only [Option.map_some, cv, List.map_append, List.map_cons, List.map_nil]
        · rfl
      · rfl
def runA (ok : Fin N → Bool) : DRa N → List (La N) → Nat → Nat ⊕ DRa N
  | r, [], _ => .inr r
  | r, l :: ls, i => match takeA ok r l with
    | none => .inl i
    | some r' => runA ok r' ls (i + 1)
def drA0 : DRa N := ⟨0, [], [], [], [], []⟩
/-- none: it is a net; some k: the k-th line cannot stand -/
def netA (ok : Fin N → Bool) (ls : List (La N)) : Option Nat := match runA ok drA0 ls 1 with
  | .inl n => some n
  | .inr r => if r.pg = [] then some (ls.length + 1) else none
inductive Lines (val : Fin N → Str) : List Str → List (La N) → Prop where
  | nil : Lines val [] []
  | cons {l : Str} {a : La N} {ls : List Str} {as : List (La N)} : LineIs val l a → Lines val ls as → Lines val (l :: ls) (a :: as)
theorem Lines.length {ls : List Str} {as : List (La N)} (h : Lines val ls as) : ls.length = as.length := by
  induction h with
  | nil => rfl
  | cons _ _ ih => simp [ih]
include inj hok in
theorem run_cv : ∀ {ls : List Str} {as : List (La N)}, Lines val ls as → ∀ (r : DRa N) (i : Nat), runLines (cv val r) ls i = match runA ok r as i with
    | .inl n => .inl n
    | .inr r' => .inr (cv val r')
  | _, _, .nil, r, i => rfl
  | _, _, .cons (l := l) (a := a) h t, r, i => by
    unfold runLines runA
    rw [take_cv inj hok r l a h]
    cases e : takeA ok r a with
    | none => rfl
    | some r' => exact run_cv t r' (i + 1)
include inj hok in
theorem net_cv {ls : List Str} {as : List (La N)} (h : Lines val ls as) : (match netOf ls with
    | .inl n => some n
    | .inr _ => none) = netA ok as := by
  unfold netOf netA
  have e := run_cv inj hok h drA0 1
  have e0 : cv val (drA0 (N := N)) = dr0 := rfl
  rw [e0] at e
  rw [e]
  cases runA ok drA0 as 1 with
  | inl n => rfl
  | inr r =>
    simp only [cv, cv_nil, h.length]
    split
    · rename_i q; split at q <;> simp_all
    · rename_i q; split at q <;> simp_all
end
end Cr
end
section
/-! PI2: frames of stores, loops by what stays, places of lists -/
namespace Cr
open PySem PF
/-- what stood is as it was but at S -/
structure Frm (st st' : Store) (S : List Nat) : Prop where
  le : st.length ≤ st'.length
  same : ∀ j, j < st.length → j ∉ S → st'[j]? = st[j]?
theorem Frm.refl (st : Store) (S : List Nat) : Frm st st S := ⟨Nat.le_refl _, fun _ _ _ => rfl⟩
theorem Frm.trans {a b c : Store} {S : List Nat} (h : Frm a b S) (g : Frm b c S) : Frm a c S :=
  ⟨Nat.le_trans h.le g.le, fun j hj hn => (g.same j (Nat.lt_of_lt_of_le hj h.le) hn).trans (h.same j hj hn)⟩
theorem Frm.app (st g : Store) (S : List Nat) : Frm st (st ++ g) S := ⟨by simp, fun j hj _ => List.getElem?_append_left hj⟩
theorem Frm.set {st : Store} {S : List Nat} {n : Nat} (h : n ∈ S) (c : Cell) : Frm st (st.set n c) S :=
  ⟨by simp, fun j _ hn => List.getElem?_set_ne (fun e : n = j => hn (by rw [← e]; exact h))⟩
theorem Frm.get {st st' : Store} {S : List Nat} {n : Nat} {c : Cell} (h : Frm st st' S) (g : st[n]? = some c) (hn : n ∉ S := by simp) : st'[n]? = some c :=
  (h.same n (List.getElem?_eq_some_iff.mp g).1 hn).trans g
theorem Frm.more {st st' : Store} {S S' : List Nat} (h : Frm st st' S) (hs : ∀ x ∈ S, x ∈ S') : Frm st st' S' := ⟨h.le, fun j hj hn => h.same j hj fun z => hn (hs j z)⟩
/-- a change of a cell that is new does not count -/
theorem Frm.less {st st' : Store} {S : List Nat} {n : Nat} (h : Frm st st' (n :: S)) (hn : st.length ≤ n) : Frm st st' S :=
  ⟨h.le, fun j hj hs => h.same j hj fun z => by rcases List.mem_cons.mp z with e | e; exact absurd hj (by omega); exact hs e⟩
theorem Frm.trim {st st' : Store} {S : List Nat} {d : D} (h : Frm st st' S) : Frm st (PF.trim st d st') S :=
  ⟨trim_len h.le, fun j hj hn => (trim_get h.le hj).trans (h.same j hj hn)⟩
theorem Frm.lt {st st' : Store} {S : List Nat} {n : Nat} (h : Frm st st' S) (g : n < st.length) : n < st'.length := Nat.lt_of_lt_of_le g h.le
theorem lt_of {st : Store} {n : Nat} {c : Cell} (g : st[n]? = some c) : n < st.length := (List.getElem?_eq_some_iff.mp g).1
theorem ixq_at {st : Store} {n : Nat} {ds : List D} (h : st[n]? = some (Cell.lst ds)) {i : Nat} {d : D} (e : ds[i]? = some d) : ixqD (D.cell n) (D.int (i : Int)) st = some (Rs.ok d st) := by
  simp only [ixqD, isDct, h, Bool.false_eq_true, if_false, ixD, L2.atI_nat e]
theorem seti_at {st : Store} {n : Nat} {ds : List D} (h : st[n]? = some (Cell.lst ds)) {i : Nat} {d : D} (e : i < ds.length) : setI (D.cell n) (D.int (i : Int)) d st = some (Rs.ok () (st.set n (Cell.lst (ds.set i d)))) := by
  have : L2.ixN ds.length (i : Int) = some i := by
    unfold L2.ixN
    rw [if_pos (by omega), if_pos (by omega)]
    simp
  simp only [setI, h, this]
theorem append_to {st : Store} {n : Nat} {ds : List D} (h : st[n]? = some (Cell.lst ds)) (hl : ds.length < LIM) (d : D) : appendD (D.cell n) [d] st = some (Rs.ok D.non (st.set n (Cell.lst (ds ++ [d])))) := by
  simp only [appendD, h]
  rw [if_pos hl]
/-- a loop by what stays -/
theorem forL_inv {it : ItV} {g : GF} {b : SF} (n : Nat) (I : Nat → PF.Env → Store → Prop)
    (hs : ∀ i env st, i < n → I i env st → ∃ d env1 st1 env2 st2, it.nxt i st = some (some d) ∧ g d env st = some (Rs.ok env1 st1) ∧ b env1 st1 = some (Rs.ok (Fl.nx env2) st2) ∧ I (i + 1) env2 st2)
    (he : ∀ env st, I n env st → it.nxt n st = some none) : ∀ (k m i : Nat) (env : PF.Env) (st : Store), i + k = n → k < m → I i env st → ∃ env' st', forL it g b m i env st = some (Rs.ok (Fl.nx env') st') ∧ I n env' st'
  | 0, m + 1, i, env, st, e, _, hI => by
    have : i = n := by omega
    subst this
    refine ⟨env, st, ?_, hI⟩
    unfold forL
    rw [he env st hI]
  | k + 1, m + 1, i, env, st, e, hm, hI => by
    obtain ⟨d, env1, st1, env2, st2, h1, h2, h3, h4⟩ := hs i env st (by omega) hI
    obtain ⟨env', st', h5, h6⟩ := forL_inv n I hs he k m (i + 1) env2 st2 (by omega) (by omega) h4
    refine ⟨env', st', ?_, h6⟩
    unfold forL
    rw [h1]
    simp only [h2, bindR_ok, h3]
    exact h5
/-- a comprehension by what stays: R what was told so far -/
theorem lcL_inv {it : ItV} {g : GF} {f : EF} {env : PF.Env} (n q : Nat) (I : Nat → List D → Store → Prop)
    (hs : ∀ i acc st, i < n → I i acc st → ∃ d env1 st1 y st2, it.nxt i st = some (some d) ∧ g d env st = some (Rs.ok env1 st1) ∧ f env1 st1 = some (Rs.ok y st2) ∧ st2[q]? = some (Cell.lst acc) ∧ acc.length < LIM ∧ I (i + 1) (acc ++ [y]) (st2.set q (Cell.lst (acc ++ [y]))))
    (he : ∀ acc st, I n acc st → it.nxt n st = some none) : ∀ (k m i : Nat) (acc : List D) (st : Store), i + k = n → k < m → I i acc st → ∃ acc' st', lcL it g yesT f q env m i st = some (Rs.ok (D.cell q) st') ∧ I n acc' st'
  | 0, m + 1, i, acc, st, e, _, hI => by
    have : i = n := by omega
    subst this
    refine ⟨acc, st, ?_, hI⟩
    unfold lcL
    rw [he acc st hI]
  | k + 1, m + 1, i, acc, st, e, hm, hI => by
    obtain ⟨d, env1, st1, y, st2, h1, h2, h3, h4, h5, h6⟩ := hs i acc st (by omega) hI
    obtain ⟨acc', st', h7, h8⟩ := lcL_inv n q I hs he k m (i + 1) _ _ (by omega) (by omega) h6
    refine ⟨acc', st', ?_, h8⟩
    unfold lcL
    rw [h1]
    simp only [h2, noerr_ok, bindR_ok, yesT, if_true, h3, h4, h5]
    exact h7
end Cr
end
section
namespace Cr
open PySem PF
/-- a pot of numbers at p, of which at most n were made -/
def PotAt (st : Store) (p : Nat) (n : Int) : Prop := ∃ a b m : Int, st[p]? = some (Cell.lst [D.int a, D.int b, D.int m]) ∧ 0 ≤ b ∧ b < 2 ^ 62 ∧ 0 ≤ m ∧ m ≤ n
theorem PotAt.frm {st st' : Store} {S : List Nat} {p : Nat} {n : Int} (h : PotAt st p n) (f : Frm st st' S) (hp : p ∉ S) : PotAt st' p n := by
  obtain ⟨a, b, m, e, r⟩ := h
  exact ⟨a, b, m, f.get e hp, r⟩
theorem fmod_in (a : Int) {b : Int} (h : 0 < b) : 0 ≤ a.fmod b ∧ a.fmod b < b := ⟨Int.fmod_nonneg_of_pos a h, Int.fmod_lt_of_pos a h⟩
theorem log_lt {x : Int} (k : Nat) (h0 : -(2 ^ k) < x) (h1 : x < 2 ^ k) : x.natAbs.log2 < k + 1 := by
  have h2 : x.natAbs < 2 ^ k := by
    have e : ((2 ^ k : Nat) : Int) = (2 : Int) ^ k := by simp
    omega
  by_cases hz : x.natAbs = 0
  · rw [hz]; simp
  · have := (Nat.log2_lt hz).mpr h2
    omega
theorem take_law (c : Cs) (st : Store) (p : Nat) (n u : Int) (h : PotAt st p n) (hn : n < 100000) (h0 : 0 < u) (h1 : u < 1000) :
    ∃ v st', m__law_take c [D.cell p, D.int u] st = some (Rs.ok (D.int v) st') ∧ 0 ≤ v ∧ v < u ∧ Frm st st' [p] ∧ PotAt st' p (n + 1) := by
  obtain ⟨a, b, m, e, hb0, hb1, hm0, hm1⟩ := h
  have x0 : ∀ (s : Store) {a b m : Int}, s[p]? = some (Cell.lst [D.int a, D.int b, D.int m]) → ixqD (D.cell p) (D.int 0) s = some (Rs.ok (D.int a) s) := fun s _ _ _ h => ixq_at h (i := 0) rfl
  have x1 : ∀ (s : Store) {a b m : Int}, s[p]? = some (Cell.lst [D.int a, D.int b, D.int m]) → ixqD (D.cell p) (D.int 1) s = some (Rs.ok (D.int b) s) := fun s _ _ _ h => ixq_at h (i := 1) rfl
  have x2 : ∀ (s : Store) {a b m : Int}, s[p]? = some (Cell.lst [D.int a, D.int b, D.int m]) → ixqD (D.cell p) (D.int 2) s = some (Rs.ok (D.int m) s) := fun s _ _ _ h => ixq_at h (i := 2) rfl
  have hp := lt_of e
  by_cases ha : 0 < a
  · let st1 := st.set p (Cell.lst [D.int (a.fdiv u), D.int b, D.int m])
    have s0 : setI (D.cell p) (D.int 0) (D.int (a.fdiv u)) st = some (Rs.ok () st1) := seti_at e (i := 0) (by simp)
    have fr : Frm st st1 [p] := Frm.set (by simp) _
    have e1 : st1[p]? = some (Cell.lst [D.int (a.fdiv u), D.int b, D.int m]) := get_set_eq hp
    refine ⟨a.fmod u, PF.trim st (D.int (a.fmod u)) st1, ?_, (fmod_in a h0).1, (fmod_in a h0).2, fr.trim, a.fdiv u, b, m, (trim_get fr.le hp).trans e1, hb0, hb1, hm0, by omega⟩
    unfold m__law_take b__law_take runM
    simp only [List.map_cons, List.map_nil, List.length_cons, List.length_nil, List.cons_append, List.nil_append, Nat.reduceSub, Nat.reduceAdd, List.replicate_succ, List.replicate_zero,
      seqS, ifS, bolF, binF, asgS, gNameF, gSubF, retS, nextS, callF, consA, nilA, conF, varF, intD, bindR_ok, List.getElem?_cons_zero, List.getElem?_cons_succ, List.set_cons_zero, List.set_cons_succ,
      x0 st e, cmpD, ha, decide_true, if_true, modD, fdivD, show u ≠ 0 by omega, show u.natAbs < 1073741824 by omega, ne_eq, not_false_eq_true, and_self, s0]
  · let st1 := st.set p (Cell.lst [D.int a, D.int b, D.int (m + 1)])
    let ps : List Int := [2147483647, 2147483629, 2147483587, 2147483579, 2147483563]
    obtain ⟨st2, h2⟩ : ∃ x : Store, st1 ++ [Cell.lst (ps.map D.int)] = x := ⟨_, rfl⟩
    have s0 : setI (D.cell p) (D.int 2) (D.int (m + 1)) st = some (Rs.ok () st1) := seti_at e (i := 2) (by simp)
    have fr1 : Frm st st1 [p] := Frm.set (by simp) _
    have e1 : st1[p]? = some (Cell.lst [D.int a, D.int b, D.int (m + 1)]) := get_set_eq hp
    have fr2 : Frm st1 st2 [] := h2 ▸ Frm.app _ _ _
    have e2 : st2[p]? = some (Cell.lst [D.int a, D.int b, D.int (m + 1)]) := fr2.get e1
    have fr : Frm st st2 [p] := fr1.trans (fr2.more (by simp))
    have el : st2[st1.length]? = some (Cell.lst (ps.map D.int)) := h2 ▸ get_end _ _
    have ll : lstF (consA (conF (D.int 2147483647)) (consA (conF (D.int 2147483629)) (consA (conF (D.int 2147483587)) (consA (conF (D.int 2147483579)) (consA (conF (D.int 2147483563)) nilA))))) = fun env s => some (Rs.ok (D.cell s.length) (s ++ [Cell.lst (ps.map D.int)])) := rfl
    have q := fmod_in (m + 1) (b := 5) (by omega)
    obtain ⟨P, hP, hP0, hP1⟩ : ∃ P : Int, ixqD (D.cell st1.length) (D.int ((m + 1).fmod 5)) st2 = some (Rs.ok (D.int P) st2) ∧ 0 < P ∧ P < 2 ^ 31 := by
      obtain ⟨i, hi⟩ := Int.eq_ofNat_of_zero_le q.1
      have hi5 : i < 5 := by omega
      rw [hi]
      match i, hi5 with
      | 0, _ => exact ⟨2147483647, ixq_at el rfl, by decide, by decide⟩
      | 1, _ => exact ⟨2147483629, ixq_at el rfl, by decide, by decide⟩
      | 2, _ => exact ⟨2147483587, ixq_at el rfl, by decide, by decide⟩
      | 3, _ => exact ⟨2147483579, ixq_at el rfl, by decide, by decide⟩
      | 4, _ => exact ⟨2147483563, ixq_at el rfl, by decide, by decide⟩
    obtain ⟨w1, hw1⟩ : ∃ x : Int, b + 99064 * (m + 1) * (m + 1) + 934 = x := ⟨_, rfl⟩
    have m0 : (m + 1).natAbs.log2 < 21 := log_lt 20 (by omega) (by omega)
    have mm : (99064 * (m + 1) : Int) < 2 ^ 40 := by omega
    have mm0 : 0 ≤ (99064 * (m + 1) : Int) := by omega
    have m1 : (99064 * (m + 1) : Int).natAbs.log2 < 41 := log_lt 40 (by omega) mm
    have mq0 : 0 ≤ (99064 * (m + 1) * (m + 1) : Int) := Int.mul_nonneg mm0 (by omega)
    have mq : (99064 * (m + 1) * (m + 1) : Int) < 2 ^ 60 := by
      have : (99064 * (m + 1) * (m + 1) : Int) ≤ 2 ^ 40 * (m + 1) := Int.mul_le_mul_of_nonneg_right (by omega) (by omega)
      omega
    have c1 : ((99064 : Int).natAbs.log2 + (m + 1).natAbs.log2 < 1000000) = True := eq_true (by have : (99064 : Int).natAbs.log2 < 100 := (by decide +kernel); omega)
    have c2 : ((99064 * (m + 1) : Int).natAbs.log2 + (m + 1).natAbs.log2 < 1000000) = True := eq_true (by omega)
    have c3 : (w1.natAbs.log2 < 9000) = True := eq_true (by have := log_lt (x := w1) 63 (by omega) (by omega); omega)
    have b2 := fmod_in (w1 ^ (3 : Int).toNat) hP0
    obtain ⟨w2, hw2⟩ : ∃ x : Int, (w1 ^ (3 : Int).toNat).fmod P = x := ⟨_, rfl⟩
    rw [hw2] at b2
    have b3 := fmod_in w2 (b := 10682) (by omega)
    have c4 : ((374 : Int).natAbs.log2 + (m + 1).natAbs.log2 < 1000000) = True := eq_true (by have : (374 : Int).natAbs.log2 < 100 := (by decide +kernel); omega)
    obtain ⟨w3, hw3⟩ : ∃ x : Int, w2.fmod 10682 + 374 * (m + 1) = x := ⟨_, rfl⟩
    have c5 : (w2.natAbs.log2 + w3.natAbs.log2 < 1000000) = True := eq_true (by
      have h1 := log_lt (x := w2) 31 (by omega) (by omega)
      have h2 := log_lt (x := w3) 60 (by omega) (by omega)
      omega)
    let w4 : Int := (w2 * w3).fmod 2305843009213693907
    let v : Int := (w4.fdiv 167).fmod u
    refine ⟨v, PF.trim st (D.int v) st2, ?_, (fmod_in _ h0).1, (fmod_in _ h0).2, fr.trim, a, b, m + 1, (trim_get fr.le hp).trans e2, hb0, hb1, by omega, by omega⟩
    unfold m__law_take b__law_take runM
    simp only [ll, List.map_cons, List.map_nil, List.length_cons, List.length_nil, List.cons_append, List.nil_append, Nat.reduceSub, Nat.reduceAdd, List.replicate_succ, List.replicate_zero,
      seqS, ifS, bolF, binF, asgS, gNameF, gSubF, retS, nextS, callF, consA, nilA, conF, varF, intD, bindR_ok, List.getElem?_cons_zero, List.getElem?_cons_succ, List.set_cons_zero, List.set_cons_succ,
      x0 st e, x2 st e, cmpD, ha, decide_false, Bool.false_eq_true, if_false, addD, s0, h2, x2 st2 e2, x1 st2 e2, modD, ne_eq, show (5 : Int) ≠ 0 by decide, not_false_eq_true, if_true, hP, mulD, c1, c2, powD, show (0 : Int) ≤ 3 by decide, show (3 : Int) ≤ 1000 by decide, true_and, hw1, c3, hw2, hw3, show P ≠ 0 by omega, c4, show (10682 : Int) ≠ 0 by decide, show (2305843009213693907 : Int) ≠ 0 by decide, c5, fdivD, show u ≠ 0 by omega, show (167 : Int) ≠ 0 by decide, show (167 : Int).natAbs < 1073741824 by decide, and_self]
    rfl
end Cr
end
section
namespace Cr
open PySem PF
theorem pot_law (c : Cs) (st : Store) (d : D) (ns : List Int) (h1 : lenD [d] st = some (Rs.ok (D.int ns.length) st)) (h2 : ∀ x, ns[0]? = some x → ixqD d (D.int 0) st = some (Rs.ok (D.int x) st)) (h3 : ns = [] → slD d none (some 1) st = some (Rs.ok (D.cell st.length) (st ++ [Cell.lst []]))) :
    ∃ k st', m__law_pot c [d, D.int 0] st = some (Rs.ok (D.cell k) st') ∧ PotAt st' k 0 ∧ Frm st st' [] ∧ st.length ≤ k := by
  obtain ⟨cell, st1, f1, e1⟩ : ∃ (cell : Int) (st1 : Store), Frm st st1 [] ∧ (ifF (bolF (binF ltD (varF 1) (callF (lenD) (consA (varF 0) nilA)))) (binF ixqD (varF 0) (varF 1)) (binF addD (binF addD (binF modD (callF (sumD) (consA (sliceF (varF 0) noPart (partF (conF (.int 1)))) nilA)) (conF (.int 1000003))) (binF mulD (conF (.int 1510)) (varF 1))) (conF (.int 778)))) [some d, some (D.int 0), none, none, none] st = some (Rs.ok (D.int cell) st1) := by
    cases ns with
    | nil =>
      have g : (st ++ [Cell.lst []])[st.length]? = some (Cell.lst []) := get_end _ _
      refine ⟨778, st ++ [Cell.lst []], Frm.app _ _ _, ?_⟩
      simp only [ifF, bolF, binF, callF, consA, nilA, varF, conF, bindR_ok, List.getElem?_cons_zero, List.getElem?_cons_succ, h1, List.length_nil, cmpD, Int.natCast_zero, Int.lt_irrefl, decide_false, Bool.false_eq_true, if_false, sliceF, noPart, partF, h3 rfl, sumD, g, intsOf, modD, mulD, addD]
      rfl
    | cons x l =>
      refine ⟨x, st, Frm.refl _ _, ?_⟩
      have t : decide ((0 : Int) < ((x :: l).length : Int)) = true := by simp
      simp only [ifF, bolF, binF, callF, consA, nilA, varF, conF, bindR_ok, List.getElem?_cons_zero, List.getElem?_cons_succ, h1, cmpD, t, if_true, h2 x rfl]
  have ab := f1
  obtain ⟨z, hz⟩ : ∃ z : Int, (if cell < 0 then -cell else cell) = z := ⟨_, rfl⟩
  obtain ⟨T, hT⟩ : ∃ T : Int, ((10 : Int) ^ (60 : Int).toNat) ^ (5 : Int).toNat = T := ⟨_, rfl⟩
  have hT0 : 0 < T := by rw [← hT]; decide +kernel
  have hT1 : T < 2 ^ 1000 := by rw [← hT]; decide +kernel
  have q1 := fmod_in z hT0
  obtain ⟨y, hy⟩ : ∃ y : Int, z.fmod T = y := ⟨_, rfl⟩
  rw [hy] at q1
  obtain ⟨bz, hbz⟩ : ∃ b : Bool, decide ((10 : Int) ^ (18 : Int).toNat ≤ z) = b := ⟨_, rfl⟩
  obtain ⟨bi, hbi⟩ : ∃ i : Int, (if bz = true then 1 else 0) = i := ⟨_, rfl⟩
  have hb2 : bi.natAbs.log2 < 100 := by cases bz <;> (subst hbi; decide)
  have k1 : (y.natAbs.log2 + bi.natAbs.log2 < 1000000) = True := eq_true (by
    have := log_lt (x := y) 1000 (by omega) (by omega)
    omega)
  have q2 := fmod_in cell (b := 2305843009213693951) (by decide)
  obtain ⟨s, hs⟩ : ∃ s : Int, cell.fmod 2305843009213693951 = s := ⟨_, rfl⟩
  rw [hs] at q2
  have k2 : (s.natAbs.log2 + (72772 : Int).natAbs.log2 < 1000000) = True := eq_true (by
    have := log_lt (x := s) 62 (by omega) (by omega)
    have : (72772 : Int).natAbs.log2 < 100 := (by decide +kernel)
    omega)
  have q3 := fmod_in (s * 72772 + 8080 * 0 * 0 + 700) (b := 2305843009213693921) (by decide)
  obtain ⟨t, ht⟩ : ∃ s' : Int, (s * 72772 + 8080 * 0 * 0 + 700).fmod 2305843009213693921 = s' := ⟨_, rfl⟩
  rw [ht] at q3
  refine ⟨st1.length, st1 ++ [Cell.lst [D.int (y * bi), D.int t, D.int 0]], ?_, ⟨y * bi, t, 0, get_end _ _, q3.1, by omega, by decide, by decide⟩, f1.trans (Frm.app _ _ _), f1.le⟩
  unfold m__law_pot b__law_pot runM
  simp only [List.map_cons, List.map_nil, List.length_cons, List.length_nil, List.cons_append, List.nil_append, Nat.reduceSub, Nat.reduceAdd, List.replicate_succ, List.replicate_zero, seqS, asgS, e1, bindR_ok, gNameF, List.set_cons_succ, List.set_cons_zero]
  simp only [binF, callF, consA, nilA, varF, conF, bindR_ok, List.getElem?_cons_zero, List.getElem?_cons_succ, absD, hz, intD, powD, show (0 : Int) ≤ 60 by decide, show (60 : Int) ≤ 1000 by decide, show (10 : Int).natAbs.log2 < 9000 by decide, and_self, if_true,
    show (0 : Int) ≤ 5 by decide, show (5 : Int) ≤ 1000 by decide, show ((10 : Int) ^ (60 : Int).toNat).natAbs.log2 < 9000 by decide +kernel, show (0 : Int) ≤ 18 by decide, show (18 : Int) ≤ 1000 by decide, hT, modD, show T ≠ 0 by omega, ne_eq, not_false_eq_true, hy, cmpD, hbz, hbi, mulD, k1, List.set_cons_succ, List.set_cons_zero, show (2305843009213693951 : Int) ≠ 0 by decide, hs, k2, addD,
    show (2305843009213693921 : Int) ≠ 0 by decide, show ((8080 : Int).natAbs.log2 + (0 : Int).natAbs.log2 < 1000000) by decide +kernel, show ((8080 * 0 : Int).natAbs.log2 + (0 : Int).natAbs.log2 < 1000000) by decide +kernel, ht, retS, lstF, List.length_cons, List.length_nil, Nat.reduceAdd, show (3 : Nat) ≤ LIM by decide]
  rw [trim_no rfl]
end Cr
end
section
namespace Cr
open PySem PF
theorem z1 {i : Nat} (hi : i < 100000) : ((i : Int) < 2 ^ 61 ∧ -(2 ^ 61) ≤ (i : Int)) := by omega
theorem z3 {j : Int} {st : Store} (hi : (j < 2 ^ 61 ∧ -(2 ^ 61) ≤ j)) : (if j < 2 ^ 61 ∧ -(2 ^ 61) ≤ j then some (Rs.ok (ItV.rng 0 j.toNat) st) else none) = some (Rs.ok (ItV.rng 0 j.toNat) st) := by
  rw [if_pos hi]
theorem z4 {j : Int} {env : PF.Env} {st0 st : Store} {f : EF} (h : f env st0 = some (Rs.ok (D.int j) st)) (hi : (j < 2 ^ 61 ∧ -(2 ^ 61) ≤ j)) : rng1F (consA f nilA) env st0 = some (Rs.ok (ItV.rng 0 j.toNat) st) := by
  unfold rng1F consA nilA
  rw [h]
  exact z3 hi
theorem rng1_ok {i : Nat} {env : PF.Env} {st0 st : Store} {f : EF} (h : f env st0 = some (Rs.ok (D.int (i : Int)) st)) (hi : i < 100000) : rng1F (consA f nilA) env st0 = some (Rs.ok (ItV.rng 0 i) st) := z4 h (z1 hi)
theorem y1 {i : Nat} (hi : i < 100000) : (0 ≤ (i : Int) ∧ (i : Int) < 2 ^ 62) := by omega
theorem y3 {j : Int} {x : Option (Rs D)} (hi : (0 ≤ j ∧ j < 2 ^ 62)) : (if 0 ≤ j ∧ j < 2 ^ 62 then x else none) = x := by
  rw [if_pos hi]
theorem y4 {j : Int} {r : Nat} {rest : List D} {st : Store} {y : D} (hr : st[r]? = some (Cell.lst rest)) (hi : (0 ≤ j ∧ j < 2 ^ 62)) (ey : rest[j.toNat]? = some y) : popAtD (D.cell r) [D.int j] st = some (Rs.ok y (st.set r (Cell.lst (rest.eraseIdx j.toNat)))) := by
  simp only [popAtD, hr]
  rw [y3 hi, ey]
theorem pop_at {i r : Nat} {rest : List D} {st : Store} {y : D} (hr : st[r]? = some (Cell.lst rest)) (hi : i < 100000) (ey : rest[i]? = some y) : popAtD (D.cell r) [D.int (i : Int)] st = some (Rs.ok y (st.set r (Cell.lst (rest.eraseIdx i)))) := y4 hr (y1 hi) ey
theorem erase_perm {α : Type} (l : List α) {j : Nat} (h : j < l.length) : (l[j] :: l.eraseIdx j).Perm l := by
  rw [List.eraseIdx_eq_take_drop_succ]
  refine List.perm_middle.symm.trans ?_
  rw [List.getElem_cons_drop, List.take_append_drop]
theorem rng_nxt {n i : Nat} (st : Store) (h : i < n) : ItV.nxt (.rng 0 n) i st = some (some (D.int (i : Int))) := by
  simp only [ItV.nxt, h, if_true, Int.zero_add]
theorem rng_end {n : Nat} (st : Store) : ItV.nxt (.rng 0 n) n st = some none := by
  simp only [ItV.nxt, Nat.lt_irrefl, if_false]
/-- some of a pool, none twice -/
theorem some_law (c : Cs) (st : Store) (p q m : Nat) (n : Int) (ds : List D) (h : PotAt st p n) (hq : st[q]? = some (Cell.lst ds)) (hm : m ≤ ds.length) (hd : ds.length < 1000) (hn0 : 0 ≤ n) (hn : n + m < 100000) :
    ∃ k st' found rest, m__law_some c [D.cell p, D.cell q, D.int (m : Int)] st = some (Rs.ok (D.cell k) st') ∧ st'[k]? = some (Cell.lst found) ∧ found.length = m ∧ (found ++ rest).Perm ds ∧ Frm st st' [p] ∧ PotAt st' p (n + m) ∧ st.length ≤ k := by
  have hp : p < st.length := by obtain ⟨_, _, _, e, _⟩ := h; exact lt_of e
  let st1 := st ++ [Cell.lst ds] ++ [Cell.lst []]
  let r := st.length
  let f := st.length + 1
  have f01 : Frm st st1 [] := (Frm.app st [Cell.lst ds] []).trans (Frm.app _ _ _)
  have er : st1[r]? = some (Cell.lst ds) := get_end1 _ _ _
  have ef : st1[f]? = some (Cell.lst []) := by
    have := get_end (st ++ [Cell.lst ds]) (Cell.lst [])
    rwa [List.length_append] at this
  let I : Nat → PF.Env → Store → Prop := fun i env s => ∃ (x : Option D) (found rest : List D), env = [some (D.cell p), some (D.cell q), some (D.int (m : Int)), x, some (D.cell r), some (D.cell f)] ∧ s[r]? = some (Cell.lst rest) ∧ s[f]? = some (Cell.lst found) ∧ found.length = i ∧ (found ++ rest).Perm ds ∧ PotAt s p (n + i) ∧ Frm st s [p]
  have step : ∀ i env s, i < m → I i env s → ∃ d env1 s1 env2 s2, (ItV.rng 0 m).nxt i s = some (some d) ∧ gNameF 3 d env s = some (Rs.ok env1 s1) ∧ (exprS (mthF kLst appendD (varF 5) (consA (mthF kLst popAtD (varF 4) (consA (dcallF 2 (m__law_take c) (consA (varF 0) (consA (callF (lenD) (consA (varF 4) nilA)) nilA))) nilA)) nilA))) env1 s1 = some (Rs.ok (Fl.nx env2) s2) ∧ I (i + 1) env2 s2 := by
    rintro i env s hi ⟨x, found, rest, rfl, hr, hf, hl, hperm, hpot, hfrm⟩
    have hlen : i + rest.length = ds.length := by
      have := hperm.length_eq
      rw [List.length_append, hl] at this
      exact this
    obtain ⟨v, s1, ev, hv0, hv1, fr1, pot1⟩ := take_law c s p (n + i) rest.length hpot (by omega) (by omega) (by omega)
    have hpr : r ∉ [p] := by simp; omega
    have hpf : f ∉ [p] := by simp; omega
    have hr1 := fr1.get hr hpr
    have hf1 := fr1.get hf hpf
    obtain ⟨j, hj⟩ := Int.eq_ofNat_of_zero_le hv0
    subst hj
    have hj : j < rest.length := by omega
    have ey : rest[j]? = some rest[j] := List.getElem?_eq_getElem hj
    let s2 := s1.set r (Cell.lst (rest.eraseIdx j))
    let s3 := s2.set f (Cell.lst (found ++ [rest[j]]))
    have pop : popAtD (D.cell r) [D.int (j : Int)] s1 = some (Rs.ok rest[j] s2) := pop_at hr1 (by omega) ey
    have hf2 : s2[f]? = some (Cell.lst found) := (get_set (show r ≠ f by omega)).trans hf1
    have hr2 : s2[r]? = some (Cell.lst (rest.eraseIdx j)) := get_set_eq (lt_of hr1)
    have app : appendD (D.cell f) [rest[j]] s2 = some (Rs.ok D.non s3) := append_to hf2 (by unfold LIM; omega) _
    have kf : kLst (D.cell f) s = true := kLst_at hf
    have kr : kLst (D.cell r) s = true := kLst_at hr
    refine ⟨D.int (i : Int), _, s, _, s3, rng_nxt s hi, rfl, ?_, some (D.int (i : Int)), found ++ [rest[j]], rest.eraseIdx j, rfl, ?_, ?_, ?_, ?_, ?_, ?_⟩
    · simp only [exprS, mthF, varF, consA, nilA, dcallF, callF, bindR_ok, List.getElem?_cons_zero, List.getElem?_cons_succ, List.set_cons_succ, List.set_cons_zero, kf, kr, if_true, len_lst hr, List.length_cons, List.length_nil, Nat.reduceAdd, ev, pop, app]
    · exact (get_set (show f ≠ r by omega)).trans hr2
    · exact get_set_eq (lt_of hf2)
    · simp [hl]
    · rw [List.append_assoc]
      refine List.Perm.trans (List.Perm.append_left found ?_) hperm
      exact erase_perm rest hj
    · have g : PotAt s1 p (n + i + 1) := pot1
      have e : n + ((i + 1 : Nat) : Int) = n + i + 1 := by omega
      rw [e]
      have fs : Frm s1 s3 [r, f] := (Frm.set (S := [r, f]) (by simp) _).trans (Frm.set (by simp) _)
      exact g.frm fs (by simp; omega)
    · have a : Frm s s3 [r, f, p] := (fr1.more (by simp)).trans ((Frm.set (S := [r, f, p]) (by simp) _).trans (Frm.set (by simp) _))
      have b : Frm st s3 [r, f, p] := (hfrm.more (by simp)).trans a
      exact (b.less (Nat.le_refl _)).less (by omega)
  have start : I 0 [some (D.cell p), some (D.cell q), some (D.int (m : Int)), none, some (D.cell r), some (D.cell f)] st1 := ⟨none, [], ds, rfl, er, ef, rfl, List.Perm.refl _, by simpa using h.frm f01 (by simp), f01.more (by simp)⟩
  obtain ⟨env', st', hrun, x, found, rest, rfl, hr, hf, hl, hperm, hpot, hfrm⟩ := forL_inv m I step (fun env s _ => rng_end s) m FUEL 0 _ _ (by omega) (by unfold FUEL; omega) start
  refine ⟨f, st', found, rest, ?_, hf, hl, hperm, hfrm, hpot, by omega⟩
  have pl : listD [D.cell q] st = some (Rs.ok (D.cell r) (st ++ [Cell.lst ds])) := by simp only [listD, hq]; rfl
  have el : (st ++ [Cell.lst ds]).length = f := by simp [f]
  have ln : lstF nilA [some (D.cell p), some (D.cell q), some (D.int (m : Int)), none, none, none] (st ++ [Cell.lst ds]) = some (Rs.ok (D.cell f) st1) := by
    rw [← el]; rfl
  have e1 : parS 4 5 (consA (callF (listD) (consA (varF 1) nilA)) (consA (lstF nilA) nilA)) [some (D.cell p), some (D.cell q), some (D.int (m : Int)), none, none, none] st = some (Rs.ok (Fl.nx [some (D.cell p), some (D.cell q), some (D.int (m : Int)), none, some (D.cell r), some (D.cell f)]) st1) := by
    have h2 : consA (callF (listD) (consA (varF 1) nilA)) (consA (lstF nilA) nilA) [some (D.cell p), some (D.cell q), some (D.int (m : Int)), none, none, none] st = some (Rs.ok [D.cell r, D.cell f] st1) := by
      unfold consA
      have h3 : callF (listD) (consA (varF 1) nilA) [some (D.cell p), some (D.cell q), some (D.int (m : Int)), none, none, none] st = some (Rs.ok (D.cell r) (st ++ [Cell.lst ds])) := pl
      unfold consA at h3
      rw [h3, bindR_ok, ln]
      rfl
    unfold parS
    rw [h2]
    rfl
  have rg : rng1F (consA (varF 2) nilA) [some (D.cell p), some (D.cell q), some (D.int (m : Int)), none, some (D.cell r), some (D.cell f)] st1 = some (Rs.ok (ItV.rng 0 m) st1) := rng1_ok rfl (by omega)
  have e2 : forS (rng1F (consA (varF 2) nilA)) (gNameF 3) (exprS (mthF kLst appendD (varF 5) (consA (mthF kLst popAtD (varF 4) (consA (dcallF 2 (m__law_take c) (consA (varF 0) (consA (callF (lenD) (consA (varF 4) nilA)) nilA))) nilA)) nilA))) [some (D.cell p), some (D.cell q), some (D.int (m : Int)), none, some (D.cell r), some (D.cell f)] st1 = some (Rs.ok (Fl.nx [some (D.cell p), some (D.cell q), some (D.int (m : Int)), x, some (D.cell r), some (D.cell f)]) st') := by
    unfold forS
    rw [rg, bindR_ok]
    exact hrun
  unfold m__law_some b__law_some runM
  have e0 : (([D.cell p, D.cell q, D.int (m : Int)] : List D).map some ++ List.replicate (6 - ([D.cell p, D.cell q, D.int (m : Int)] : List D).length) none : PF.Env) = [some (D.cell p), some (D.cell q), some (D.int (m : Int)), none, none, none] := rfl
  rw [e0]
  unfold seqS
  rw [e1]
  rw [bindR_ok]
  simp only [e2, bindR_ok, retS, varF, List.getElem?_cons_zero, List.getElem?_cons_succ]
  rw [trim_no rfl]
end Cr
end
section
namespace Cr
open PySem PF
abbrev abc : Str := "abcdefghijklmnopqrstuvwxyz"
theorem abc_len : abc.length = 26 := by decide +kernel
theorem abc_lim : (abc.length ≤ LIM) = True := eq_true (by rw [abc_len]; unfold LIM; omega)
theorem abc_at {j : Nat} (h : j < 26) : ∃ ch, abc.cps.toList[j]? = some ch ∧ letters[j]? = some ch ∧ ch ∈ letters := by
  have hl : letters.length = 26 := by decide +kernel
  have hj : j < letters.length := by omega
  exact ⟨letters[j], List.getElem?_eq_getElem hj, List.getElem?_eq_getElem hj, List.getElem_mem hj⟩
theorem ixq_abc {j : Nat} {ch : Nat} (st : Store) (h : abc.cps.toList[j]? = some ch) : ixqD (D.str abc) (D.int (j : Int)) st = some (Rs.ok (D.str ⟨#[ch]⟩) st) := by
  simp only [ixqD, isDct, Bool.false_eq_true, if_false, ixD, abc_lim, if_true, L2.atI_nat h]
theorem of_law (c : Cs) (st : Store) (p : Nat) (n : Int) (h : PotAt st p n) (hn : n < 100000) :
    ∃ ch st', m__law_of c [D.cell p, D.str abc] st = some (Rs.ok (D.str ⟨#[ch]⟩) st') ∧ ch ∈ letters ∧ Frm st st' [p] ∧ PotAt st' p (n + 1) := by
  obtain ⟨v, st1, e, h0, h1, fr, pot⟩ := take_law c st p n 26 h hn (by decide) (by decide)
  obtain ⟨j, rfl⟩ := Int.eq_ofNat_of_zero_le h0
  obtain ⟨ch, ha, _, hm⟩ := abc_at (j := j) (by omega)
  have hp : p < st.length := by obtain ⟨_, _, _, e, _⟩ := h; exact lt_of e
  have e26 : ((abc.length : Nat) : Int) = 26 := by rw [abc_len]; rfl
  refine ⟨ch, PF.trim st (D.str ⟨#[ch]⟩) st1, ?_, hm, fr.trim, ?_⟩
  · unfold m__law_of b__law_of runM
    simp only [List.map_cons, List.map_nil, List.length_cons, List.length_nil, List.cons_append, List.nil_append, Nat.reduceSub, Nat.reduceAdd, List.replicate_succ, List.replicate_zero, retS, binF, dcallF, callF, consA, nilA, varF, bindR_ok, List.getElem?_cons_zero, List.getElem?_cons_succ, lenD, abc_lim, if_true, e26, e, ixq_abc st1 ha]
  · obtain ⟨a, b, m, e1, r⟩ := pot
    exact ⟨a, b, m, (trim_get fr.le hp).trans e1, r⟩
theorem strs_map (l : List Str) : strsOf (l.map D.str) = some l := by
  induction l with
  | nil => rfl
  | cons x l ih => simp only [List.map_cons, strsOf, ih]
/-- so many letters -/
theorem letters_law (c : Cs) (st : Store) (p m : Nat) (n : Int) (env : PF.Env) (h : PotAt st p n) (hn : n + m < 100000) (h0 : env[0]? = some (some (D.cell p))) (h3 : env[3]? = some (some (D.str abc))) (h5 : 5 < env.length) (it : IF) (st0 : Store) (hit : it env st0 = some (Rs.ok (ItV.rng 0 m) st)) (hm : m < 1000) :
    ∃ (cs : List Nat) (st' : Store), lcF it (gNameF 5) yesT (dcallF 2 (m__law_of c) (consA (varF 0) (consA (varF 3) nilA))) [5] env st0 = some (Rs.ok (D.cell st.length) st') ∧ st'[st.length]? = some (Cell.lst (cs.map fun ch => D.str ⟨#[ch]⟩)) ∧ cs.length = m ∧ (∀ ch ∈ cs, ch ∈ letters) ∧ Frm st st' [p] ∧ PotAt st' p (n + m) := by
  have hp : p < st.length := by obtain ⟨_, _, _, e, _⟩ := h; exact lt_of e
  let I : Nat → List D → Store → Prop := fun i acc s => ∃ cs : List Nat, acc = cs.map (fun ch => D.str ⟨#[ch]⟩) ∧ cs.length = i ∧ (∀ ch ∈ cs, ch ∈ letters) ∧ s[st.length]? = some (Cell.lst acc) ∧ PotAt s p (n + i) ∧ Frm st s [p]
  have w0 : (wipeE env [5])[0]? = some (some (D.cell p)) := by simp only [wipeE]; rw [List.getElem?_set_ne (by decide)]; exact h0
  have w3 : (wipeE env [5])[3]? = some (some (D.str abc)) := by simp only [wipeE]; rw [List.getElem?_set_ne (by decide)]; exact h3
  have step : ∀ i acc s, i < m → I i acc s → ∃ d env1 s1 y s2, (ItV.rng 0 m).nxt i s = some (some d) ∧ gNameF 5 d (wipeE env [5]) s = some (Rs.ok env1 s1) ∧ dcallF 2 (m__law_of c) (consA (varF 0) (consA (varF 3) nilA)) env1 s1 = some (Rs.ok y s2) ∧ s2[st.length]? = some (Cell.lst acc) ∧ acc.length < LIM ∧ I (i + 1) (acc ++ [y]) (s2.set st.length (Cell.lst (acc ++ [y]))) := by
    rintro i acc s hi ⟨cs, rfl, hl, hc, hs, pot, fr⟩
    obtain ⟨ch, s2, e, hch, fr2, pot2⟩ := of_law c s p (n + i) pot (by omega)
    have hne : st.length ∉ [p] := by simp; omega
    have hs2 := fr2.get hs hne
    have v0 : ((wipeE env [5]).set 5 (some (D.int (i : Int))))[0]? = some (some (D.cell p)) := by rw [List.getElem?_set_ne (by decide)]; exact w0
    have v3 : ((wipeE env [5]).set 5 (some (D.int (i : Int))))[3]? = some (some (D.str abc)) := by rw [List.getElem?_set_ne (by decide)]; exact w3
    refine ⟨D.int (i : Int), _, s, D.str ⟨#[ch]⟩, s2, rng_nxt s hi, rfl, ?_, hs2, by simp [hl]; unfold LIM; omega, cs ++ [ch], by simp, by simp [hl], ?_, ?_, ?_, ?_⟩
    · simp only [dcallF, consA, nilA, varF, v0, v3, bindR_ok, List.length_cons, List.length_nil, Nat.reduceAdd, if_true, e]
    · intro x hx
      rcases List.mem_append.mp hx with hx | hx
      · exact hc x hx
      · rw [List.mem_singleton.mp hx]; exact hch
    · exact get_set_eq (lt_of hs2)
    · have e' : n + ((i + 1 : Nat) : Int) = n + i + 1 := by omega
      rw [e']
      exact pot2.frm (Frm.set (S := [st.length]) (by simp) _) (by simp; omega)
    · have a : Frm s (s2.set st.length (Cell.lst (cs.map (fun ch => D.str ⟨#[ch]⟩) ++ [D.str ⟨#[ch]⟩]))) [st.length, p] := (fr2.more (by simp)).trans (Frm.set (by simp) _)
      exact ((fr.more (by simp)).trans a).less (Nat.le_refl _)
  have start : I 0 [] (st ++ [Cell.lst []]) := ⟨[], rfl, rfl, by simp, get_end _ _, by simpa using h.frm (Frm.app st [Cell.lst []] []) (by simp), Frm.app _ _ _⟩
  obtain ⟨acc', st', hrun, cs, rfl, hl, hc, hs, pot, fr⟩ := lcL_inv m st.length I step (fun acc s _ => rng_end s) m FUEL 0 [] _ (by omega) (by unfold FUEL; omega) start
  refine ⟨cs, st', ?_, hs, hl, hc, fr, pot⟩
  unfold lcF
  rw [hit, bindR_ok]
  exact hrun
end Cr
end
section
namespace Cr
open PySem PF
theorem join_letters : ∀ cs : List Nat, TL.tl (Txt.join "" (cs.map fun ch => (⟨#[ch]⟩ : Str))) = cs := fun cs => by
  rw [TL.join_eq, TL.tl_join, List.map_map]
  have e : TL.tl ("" : Str) = [] := by decide +kernel
  rw [e]
  have : ∀ cs : List Nat, TL.joinL [] (cs.map fun c => [c]) = cs := fun cs => by
    induction cs with
    | nil => rfl
    | cons x l ih => cases l with
      | nil => rfl
      | cons y l =>
        show [x] ++ ([] ++ TL.joinL [] ((y :: l).map fun c => [c])) = _
        rw [ih]
        rfl
  exact this cs
theorem name_of {ch : Nat} {cs : List Nat} (h : ch ∈ letters) (hc : ∀ x ∈ cs, x ∈ letters) (hl : cs.length ≤ 5) {w : Str} (e : TL.tl w = ch :: cs) : isName w = true := by
  unfold isName
  have hlen : w.length = cs.length + 1 := by rw [TL.len_tl, e]; rfl
  have e2 : w.cps.toList = ch :: cs := e
  rw [hlen, e2]
  simp only [Bool.and_eq_true, decide_eq_true_eq, List.all_eq_true]
  refine ⟨⟨by omega, by omega⟩, fun x hx => ?_⟩
  rcases List.mem_cons.mp hx with rfl | hx
  · exact h
  · exact hc x hx
theorem rg_nodup : (rgD 0 26).Nodup ∧ ∀ d ∈ rgD 0 26, ∃ j : Nat, j < 26 ∧ d = D.int (j : Int) := by
  constructor
  · have e : rgD 0 26 = (List.range 26).map fun i => D.int (0 + (i : Nat)) := rfl
    rw [e]
    unfold List.Nodup
    rw [List.pairwise_map]
    have := List.nodup_range (n := 26)
    unfold List.Nodup at this
    refine this.imp fun {a b} h z => h ?_
    have := D.int.inj z
    omega
  · intro d hd
    obtain ⟨j, hj, rfl⟩ := List.mem_map.mp hd
    have hj : j < 26 := by simpa using hj
    exact ⟨j, hj, by simp⟩
/-- what is told of names: valid, unlike -/
theorem wide_law (c : Cs) (st : Store) (p : Nat) (n : Int) (h : PotAt st p n) (hn0 : 0 ≤ n) (hn : n < 50000) :
    ∃ (k : Nat) (st' : Store) (names : List Str), m__law_wide_names c [D.cell p, D.int 26] st = some (Rs.ok (D.cell k) st') ∧ st'[k]? = some (Cell.lst (names.map D.str)) ∧ names.length = 26 ∧ names.Nodup ∧ (∀ x ∈ names, isName x = true) ∧ Frm st st' [p] ∧ PotAt st' p (n + 1000) ∧ st.length ≤ k := by
  have hp : p < st.length := by obtain ⟨_, _, _, e, _⟩ := h; exact lt_of e
  let k0 := st.length
  let st1 := st ++ [Cell.lst []]
  let st2 := st1 ++ [Cell.lst (rgD 0 26)]
  have f1 : Frm st st1 [] := Frm.app _ _ _
  have f2 : Frm st1 st2 [] := Frm.app _ _ _
  have hk0 : st1[k0]? = some (Cell.lst []) := get_end _ _
  have hq : st2[st1.length]? = some (Cell.lst (rgD 0 26)) := get_end _ _
  have p2 : PotAt st2 p n := (h.frm f1 (by simp)).frm f2 (by simp)
  obtain ⟨k, st3, found, rest, es, hk, hlen, hperm, f3, p3, hk3⟩ := some_law c st2 p st1.length 26 n (rgD 0 26) p2 hq (by decide +kernel) (by decide +kernel) hn0 (by omega)
  have hk03 : st3[k0]? = some (Cell.lst []) := f3.get (f2.get hk0) (by simp; omega)
  have l1 : st1.length = k0 + 1 := by simp [st1, k0]
  have l2 : st2.length = k0 + 2 := by simp [st2, l1]
  have nd : found.Nodup := by
    have := (hperm.nodup_iff).mpr rg_nodup.1
    exact (List.nodup_append.mp this).1
  have mem : ∀ d ∈ found, ∃ j : Nat, j < 26 ∧ d = D.int (j : Int) := fun d hd => rg_nodup.2 d (hperm.mem_iff.mp (List.mem_append_left _ hd))
  let ats : List Nat := found.map fun d => match d with | D.int i => i.toNat | _ => 0
  have hat : ∀ i d, found[i]? = some d → ∃ j : Nat, j < 26 ∧ d = D.int (j : Int) ∧ ats[i]? = some j := fun i d e => by
    obtain ⟨j, hj, rfl⟩ := mem d (List.mem_of_getElem? e)
    refine ⟨j, hj, rfl, ?_⟩
    show (found.map _)[i]? = _
    rw [List.getElem?_map, e]
    simp
  let E : Option D → PF.Env := fun x => [some (D.cell p), some (D.int 26), x, some (D.str abc), some (D.cell k0), none]
  let body : SF := exprS (mthF kLst appendD (varF 4) (consA (binF addD (binF ixqD (varF 3) (varF 2)) (mthF kStr joinD (conF (.str "")) (consA (lcF (rng1F (consA (dcallF 2 (m__law_take c) (consA (varF 0) (consA (conF (.int 6)) nilA))) nilA)) (gNameF 5) yesT (dcallF 2 (m__law_of c) (consA (varF 0) (consA (varF 3) nilA))) [5]) nilA))) nilA))
  let I : Nat → PF.Env → Store → Prop := fun i env s => ∃ (x : Option D) (names : List Str), env = E x ∧ s[k]? = some (Cell.lst found) ∧ s[k0]? = some (Cell.lst (names.map D.str)) ∧ names.map (fun w => (TL.tl w).head?) = (ats.take i).map (fun j => letters[j]?) ∧ names.length = i ∧ (∀ x ∈ names, isName x = true) ∧ PotAt s p (n + 26 + 6 * i) ∧ Frm st s [p]
  have step : ∀ i env s, i < 26 → I i env s → ∃ d env1 s1 env2 s2, (ItV.lst k).nxt i s = some (some d) ∧ gNameF 2 d env s = some (Rs.ok env1 s1) ∧ body env1 s1 = some (Rs.ok (Fl.nx env2) s2) ∧ I (i + 1) env2 s2 := by
    rintro i env s hi ⟨x, names, rfl, hks, hk0s, hmap, hl, hnm, pot, fr⟩
    have hif : i < found.length := by omega
    have ed : found[i]? = some found[i] := List.getElem?_eq_getElem hif
    obtain ⟨j, hj, ej, eat⟩ := hat i _ ed
    obtain ⟨ch, hch1, hch2, hch3⟩ := abc_at hj
    obtain ⟨v, s1, ev, hv0, hv1, fr1, pot1⟩ := take_law c s p (n + 26 + 6 * i) 6 pot (by omega) (by decide) (by decide)
    obtain ⟨m, rfl⟩ := Int.eq_ofNat_of_zero_le hv0
    have it1 : rng1F (consA (dcallF 2 (m__law_take c) (consA (varF 0) (consA (conF (.int 6)) nilA))) nilA) (E (some (D.int (j : Int)))) s = some (Rs.ok (ItV.rng 0 m) s1) := by
      refine rng1_ok ?_ (by omega)
      simp only [dcallF, consA, nilA, varF, conF, E, List.getElem?_cons_zero, bindR_ok, List.length_cons, List.length_nil, Nat.reduceAdd, if_true]
      exact ev
    obtain ⟨cs, s2, el, hcs, hcl, hcm, fr2, pot2⟩ := letters_law c s1 p m (n + 26 + 6 * i + 1) (E (some (D.int (j : Int)))) pot1 (by omega) rfl rfl (by simp [E]) _ s it1 (by omega)
    let w : Str := (⟨#[ch]⟩ : Str) ++ Txt.join "" (cs.map fun ch => (⟨#[ch]⟩ : Str))
    have tw : TL.tl w = ch :: cs := by
      show TL.tl ((⟨#[ch]⟩ : Str) ++ Txt.join "" (cs.map fun ch => (⟨#[ch]⟩ : Str))) = _
      rw [TL.tl_append, join_letters]
      rfl
    have lw : w.length = cs.length + 1 := by rw [TL.len_tl, tw]; rfl
    have hne : ∀ {y}, p < y → y ∉ [p] := fun {y} hy => by simp; omega
    have hk0s2 : s2[k0]? = some (Cell.lst (names.map D.str)) := fr2.get (fr1.get hk0s (hne hp)) (hne hp)
    have hks2 : s2[k]? = some (Cell.lst found) := fr2.get (fr1.get hks (hne (by omega))) (hne (by omega))
    have jn : joinD (D.str "") [D.cell s1.length] s2 = some (Rs.ok (D.str (Txt.join "" (cs.map fun ch => (⟨#[ch]⟩ : Str)))) s2) := by
      have e1 : (cs.map fun ch => D.str ⟨#[ch]⟩) = (cs.map fun ch => (⟨#[ch]⟩ : Str)).map D.str := by rw [List.map_map]; rfl
      simp only [joinD, hcs, e1, strs_map]
      rw [if_pos]
      have e2 : ∀ l : List Nat, ((l.map fun ch => (⟨#[ch]⟩ : Str)).map (·.length)).sum = l.length := fun l => by
        induction l with
        | nil => rfl
        | cons a l ih => rw [List.map_cons, List.map_cons, List.sum_cons, ih]; show 1 + _ = _; rw [List.length_cons]; omega
      rw [e2]
      have : ("" : Str).length = 0 := by decide +kernel
      rw [this, Nat.mul_zero]
      unfold LIM
      omega
    have ad : addD (D.str ⟨#[ch]⟩) (D.str (Txt.join "" (cs.map fun ch => (⟨#[ch]⟩ : Str)))) s2 = some (Rs.ok (D.str w) s2) := by
      simp only [addD]
      rw [if_pos]
      have : w.length = (⟨#[ch]⟩ : Str).length + (Txt.join "" (cs.map fun ch => (⟨#[ch]⟩ : Str))).length := by
        rw [TL.len_tl, TL.len_tl (Txt.join _ _), tw, join_letters, TL.len_tl]
        show _ = 1 + _
        rw [List.length_cons]; omega
      rw [← this, lw]
      unfold LIM
      omega
    have kl : kLst (D.cell k0) s = true := kLst_at hk0s
    have ap := append_to hk0s2 (by simp only [List.length_map]; unfold LIM; omega) (D.str w)
    refine ⟨D.int (j : Int), E (some (D.int (j : Int))), s, E (some (D.int (j : Int))), s2.set k0 (Cell.lst (names.map D.str ++ [D.str w])), ?_, rfl, ?_, some (D.int (j : Int)), names ++ [w], rfl, ?_, ?_, ?_, ?_, ?_, ?_, ?_⟩
    · simp only [ItV.nxt, hks, ed, ej]
    · have v4 : varF 4 (E (some (D.int (j : Int)))) s = some (Rs.ok (D.cell k0) s) := rfl
      have v3 : varF 3 (E (some (D.int (j : Int)))) s = some (Rs.ok (D.str abc) s) := rfl
      have v2 : varF 2 (E (some (D.int (j : Int)))) s = some (Rs.ok (D.int (j : Int)) s) := rfl
      have c0 : ∀ env s, conF (D.str "") env s = some (Rs.ok (D.str "") s) := fun _ _ => rfl
      have kk : kStr (D.str "") s = true := rfl
      simp only [body, exprS, mthF, v4, kl, bindR_ok, if_true, consA, nilA, binF, v3, v2, ixq_abc s hch1, c0, kk]
      simp only [el, bindR_ok, jn, ad, ap]
    · exact (get_set (show k0 ≠ k by omega)).trans hks2
    · rw [List.map_append]
      exact get_set_eq (lt_of hk0s2)
    · rw [List.map_append, hmap, List.take_add_one, List.map_append, eat]
      simp only [List.map_cons, List.map_nil, tw, List.head?_cons, Option.toList_some, hch2]
    · simp [hl]
    · intro y hy
      rcases List.mem_append.mp hy with hy | hy
      · exact hnm y hy
      · rw [List.mem_singleton.mp hy]; exact name_of hch3 hcm (by omega) tw
    · have f : Frm s2 (s2.set k0 (Cell.lst (names.map D.str ++ [D.str w]))) [k0] := Frm.set (by simp) _
      obtain ⟨a, b, m', e1, r1, r2, r3, r4⟩ := pot2.frm f (by simp; omega)
      exact ⟨a, b, m', e1, r1, r2, r3, by omega⟩
    · have f : Frm st (s2.set k0 (Cell.lst (names.map D.str ++ [D.str w]))) [k0, p] := ((fr.trans (fr1.trans fr2)).more (by simp)).trans (Frm.set (by simp) _)
      exact f.less (Nat.le_refl _)
  have start : I 0 (E none) st3 := ⟨none, [], rfl, hk, hk03, by simp, rfl, by simp, by simpa using p3, ((f1.trans f2).more (by simp)).trans f3⟩
  obtain ⟨env', st', hrun, x, names, rfl, hks, hk0s, hmap, hl, hnm, pot, fr⟩ := forL_inv 26 I step (fun env s hI => by
    obtain ⟨x, names, _, hks, _⟩ := hI
    simp only [ItV.nxt, hks]
    rw [List.getElem?_eq_none (by omega)]) 26 FUEL 0 _ _ (by omega) (by unfold FUEL; omega) start
  refine ⟨k0, st', names, ?_, hk0s, hl, ?_, hnm, fr, ?_, Nat.le_refl _⟩
  · unfold m__law_wide_names b__law_wide_names runM
    have e0 : (([D.cell p, D.int 26] : List D).map some ++ List.replicate (6 - ([D.cell p, D.int 26] : List D).length) none : PF.Env) = [some (D.cell p), some (D.int 26), none, none, none, none] := rfl
    have t1 : asgS (tupF (consA (conF (.str abc)) (consA (lstF nilA) nilA))) (gTupF 2 (gConsF (gNameF 3) (gConsF (gNameF 4) gNilF))) [some (D.cell p), some (D.int 26), none, none, none, none] st = some (Rs.ok (Fl.nx (E none)) st1) := rfl
    have t2 : iterF (dcallF 3 (m__law_some c) (consA (varF 0) (consA (listRng1F (conF (.int 26))) (consA (varF 1) nilA)))) (E none) st1 = some (Rs.ok (.lst k) st3) := by
      have hr : listRng1F (conF (.int 26)) (E none) st1 = some (Rs.ok (D.cell st1.length) st2) := rfl
      have v0 : ∀ s, varF 0 (E none) s = some (Rs.ok (D.cell p) s) := fun _ => rfl
      have v1 : ∀ s, varF 1 (E none) s = some (Rs.ok (D.int 26) s) := fun _ => rfl
      have es' : m__law_some c [D.cell p, D.cell st1.length, D.int 26] st2 = some (Rs.ok (D.cell k) st3) := es
      simp only [iterF, dcallF, consA, nilA, v0, v1, hr, bindR_ok, List.length_cons, List.length_nil, Nat.reduceAdd, if_true, es', hk]
    have t3 : forS (iterF (dcallF 3 (m__law_some c) (consA (varF 0) (consA (listRng1F (conF (.int 26))) (consA (varF 1) nilA))))) (gNameF 2) body (E none) st1 = some (Rs.ok (Fl.nx (E x)) st') := by
      unfold forS
      rw [t2, bindR_ok]
      exact hrun
    rw [e0]
    unfold seqS
    rw [t1, bindR_ok]
    simp only [body] at t3
    simp only [t3, bindR_ok, retS, varF, E, List.getElem?_cons_zero, List.getElem?_cons_succ]
    rw [trim_no rfl]
  · have la : ats.length = 26 := by simp [ats, hlen]
    have nda : ats.Nodup := by
      have : found = ats.map fun j : Nat => D.int (j : Int) := by
        apply List.ext_getElem?
        intro i
        rw [List.getElem?_map]
        cases e : found[i]? with
        | none =>
          have : ats[i]? = none := by
            rw [List.getElem?_eq_none_iff] at e ⊢
            omega
          rw [this]; rfl
        | some d =>
          obtain ⟨j, _, rfl, e2⟩ := hat i d e
          rw [e2]; rfl
      rw [this] at nd
      unfold List.Nodup at nd ⊢
      rw [List.pairwise_map] at nd
      exact nd.imp fun {a b} h (z : a = b) => h (by rw [z])
    have lt : ∀ j ∈ ats, j < 26 := fun j hj => by
      obtain ⟨i, hi, e⟩ := List.mem_iff_getElem.mp hj
      have hif : i < found.length := by omega
      obtain ⟨j', hj', _, e2⟩ := hat i _ (List.getElem?_eq_getElem hif)
      rw [List.getElem?_eq_getElem hi, e] at e2
      cases e2
      exact hj'
    have nl : letters.Nodup := by decide +kernel
    have ll : letters.length = 26 := by decide +kernel
    have nm : (names.map (fun w => (TL.tl w).head?)).Nodup := by
      rw [hmap, List.take_of_length_le (by omega)]
      unfold List.Nodup at nda ⊢
      rw [List.pairwise_map]
      refine List.Pairwise.imp_of_mem (fun {a b} ha hb h z => h ?_) nda
      have h1 := lt a ha
      have h2 := lt b hb
      exact (List.getElem?_inj (by omega) nl).mp z
    unfold List.Nodup at nm ⊢
    rw [List.pairwise_map] at nm
    exact nm.imp fun {a b} h (z : a = b) => h (by rw [z])
  · obtain ⟨a, b, m', e1, r1, r2, r3, r4⟩ := pot
    exact ⟨a, b, m', e1, r1, r2, r3, by omega⟩
end Cr
end
section
namespace Cr
open PySem PF
structure LinesOk (ls : List Str) : Prop where
  ne : ls ≠ []
  few : ls.length < 1000
  nl : ∀ l ∈ ls, 10 ∉ TL.tl l
  fine : ∀ l ∈ ls, FineL l
  len : ∀ l ∈ ls, l.length ≤ 400
def numD : Option Nat → D
  | none => D.non
  | some k => D.int (k : Int)
theorem nl_tl : TL.tl ("\n" : Str) = [10] := by decide +kernel
theorem sum_le {ls : List Str} (h : ∀ l ∈ ls, l.length ≤ 400) : (ls.map (·.length)).sum ≤ 400 * ls.length := by
  induction ls with
  | nil => simp
  | cons x l ih =>
    have h1 := h x List.mem_cons_self
    have h2 := ih fun y hy => h y (List.mem_cons_of_mem _ hy)
    simp only [List.map_cons, List.sum_cons, List.length_cons]
    omega
theorem LinesOk.total {ls : List Str} (h : LinesOk ls) : (ls.map (·.length)).sum + ls.length * ("\n" : Str).length ≤ 500000 := by
  have h1 := sum_le h.len
  have h2 : ("\n" : Str).length = 1 := by decide +kernel
  have := h.few
  rw [h2]
  omega
theorem LinesOk.split {ls : List Str} (h : LinesOk ls) : linesOf (Txt.join "\n" ls) = ls :=
  TL.split_join (s := 10) (S := []) nl_tl (by decide +kernel) h.ne h.nl
theorem LinesOk.text {ls : List Str} (h : LinesOk ls) : FineT (Txt.join "\n" ls) where
  len := by
    rw [TL.join_eq]
    exact Nat.le_trans (StrLaws.join_length_le "\n" ls) h.total
  few := by rw [h.split]; exact h.few
  ls := fun x hx => by rw [h.split] at hx; exact h.fine x hx
theorem join_lines {ls : List Str} (h : LinesOk ls) {st : Store} {n : Nat} (hn : st[n]? = some (Cell.lst (ls.map D.str))) : joinD (D.str "\n") [D.cell n] st = some (Rs.ok (D.str (Txt.join "\n" ls)) st) := by
  simp only [joinD, hn, strs_map]
  rw [if_pos (Nat.le_trans h.total (by unfold LIM; omega))]
theorem isi_BadNet (c : Cs) (v : D) (st : Store) : isiD (isiT_BadNet c) [D.exn c.BadNet v, D.ref c.BadNet] st = some (Rs.ok (D.bl true) st) := by
  have : (isiT_BadNet c).lookup (Ty.x c.BadNet, Ty.o c.BadNet) = some true := by
    have hb : ∀ (a b : Addr) (s : String), ((Ty.x a, Ty.o b) == (Ty.b s, Ty.o b)) = false := fun a b s => by
      rw [beq_eq_false_iff_ne]
      intro h
      cases h
    simp only [isiT_BadNet, List.lookup, hb, BEq.rfl]
  simp only [isiD, tyOf, clOf, this]
theorem is_due_ok (c : Cs) (st : Store) (n : Nat) (ls : List Str) (q : Option Nat) (hl : st[n]? = some (Cell.lst (ls.map D.str))) (ht : hasTab c.t__law_is_due q__law_is_due st) (ok : LinesOk ls) (hk : ∀ k, q = some k → k < 1000)
    (hd : (match netOf ls with
      | .inl n => some n
      | .inr _ => none) = q) : ∃ st', m__law_is_due c [D.cell n, numD q] st = some (Rs.ok (D.bl true) st') ∧ Frm st st' [] := by
  let E0 : PF.Env := [some (D.cell n), some (numD q), none, none]
  let fa : AF := consA (mthF kStr joinD (conF (.str "\n")) (consA (varF 0) nilA)) nilA
  have hfa : fa E0 st = some (Rs.ok [D.str (Txt.join "\n" ls)] st) := by
    have v0 : varF 0 E0 st = some (Rs.ok (D.cell n) st) := rfl
    have c0 : conF (D.str "\n") E0 st = some (Rs.ok (D.str "\n") st) := rfl
    have kk : kStr (D.str "\n") st = true := rfl
    simp only [fa, consA, nilA, mthF, c0, bindR_ok, kk, if_true, v0, join_lines ok hl]
  obtain ⟨st1, kp, nt⟩ := net_ok c.toPc st (Txt.join "\n" ls) ok.text E0 fa hfa
  have fr : Frm st st1 [] := ⟨kp.le, fun j hj _ => kp.same j hj⟩
  rw [ok.split] at nt
  have hl1 := fr.get hl
  unfold m__law_is_due b__law_is_due runM
  have e0 : (([D.cell n, numD q] : List D).map some ++ List.replicate (4 - ([D.cell n, numD q] : List D).length) none : PF.Env) = E0 := rfl
  rw [e0]
  unfold seqS
  cases hn : netOf ls with
  | inl num =>
    rw [hn] at nt hd
    simp only at nt hd
    subst hd
    have hnum := hk num rfl
    have t1 : asgS (heardF c.t__law_is_due q__law_is_due (cats c) (makeF c.Net 2 (m_NetU_initU c.toPc) fa)) (gTupF 2 (gConsF (gNameF 2) (gConsF (gNameF 3) gNilF))) E0 st = some (Rs.ok (Fl.nx [some (D.cell n), some (D.int (num : Int)), some (D.exn c.BadNet (D.int (num : Int))), some D.non]) st1) := by
      unfold asgS heardF
      rw [if_pos ht, nt]
      simp only []
      rw [if_pos (show c.BadNet ∈ cats c by simp [cats])]
      rfl
    have lg : (num : Int).natAbs.log2 < 1920 := by
      have := log_lt (x := (num : Int)) 10 (by omega) (by omega)
      omega
    refine ⟨PF.trim st (D.bl true) st1, ?_, fr.trim⟩
    rw [t1, bindR_ok]
    simp only [ifS, isNT, varF, List.getElem?_cons_succ, List.getElem?_cons_zero, bindR_ok, isNonD, Bool.false_eq_true, if_false, nextS, retS, andF, callF, consA, nilA, conF, isi_BadNet, truD, binF, xvalF, cats, List.mem_singleton, if_true, reprD, lg, eqD, eqDD, eqS, decide_true, Bool.not_false]
  | inr r =>
    rw [hn] at nt hd
    simp only at nt hd
    subst hd
    obtain ⟨k, _, mk, cl, _, _⟩ := nt
    have t1 : asgS (heardF c.t__law_is_due q__law_is_due (cats c) (makeF c.Net 2 (m_NetU_initU c.toPc) fa)) (gTupF 2 (gConsF (gNameF 2) (gConsF (gNameF 3) gNilF))) E0 st = some (Rs.ok (Fl.nx [some (D.cell n), some D.non, some D.non, some (D.cell st.length)]) st1) := by
      unfold asgS heardF
      rw [if_pos ht, mk]
      rfl
    refine ⟨PF.trim st (D.bl true) st1, ?_, fr.trim⟩
    rw [t1, bindR_ok]
    have ft : fldF c.Net "text" (varF 3) [some (D.cell n), some D.non, some D.non, some (D.cell st.length)] st1 = some (Rs.ok (D.str (Txt.join "\n" ls)) st1) := fld_of rfl cl rfl
    have jn : mthF kStr joinD (conF (D.str "\n")) (consA (varF 0) nilA) [some (D.cell n), some D.non, some D.non, some (D.cell st.length)] st1 = some (Rs.ok (D.str (Txt.join "\n" ls)) st1) := by
      have v0 : varF 0 [some (D.cell n), some D.non, some D.non, some (D.cell st.length)] st1 = some (Rs.ok (D.cell n) st1) := rfl
      have c0 : ∀ env, conF (D.str "\n") env st1 = some (Rs.ok (D.str "\n") st1) := fun _ => rfl
      have kk : kStr (D.str "\n") st1 = true := rfl
      simp only [consA, nilA, mthF, c0, bindR_ok, kk, if_true, v0, join_lines ok hl1]
    simp only [ifS, isNT, varF, List.getElem?_cons_succ, List.getElem?_cons_zero, bindR_ok, isNonD, if_true, Bool.false_eq_true, if_false, retS, andF, isNF, truD, binF]
    simp only [ft, jn, bindR_ok, eq_str, decide_true]
end Cr
end
section
/-! PI3: lines of words, by ids -/
namespace Cr
open PySem PF
theorem isName_cases {w : Str} (h : isName w = true) : ∃ ch cs, TL.tl w = ch :: cs ∧ ch ∈ letters ∧ (∀ x ∈ cs, x ∈ letters) ∧ cs.length ≤ 5 := by
  unfold isName at h
  simp only [Bool.and_eq_true, decide_eq_true_eq, List.all_eq_true] at h
  obtain ⟨⟨h1, h2⟩, h3⟩ := h
  rw [TL.len_tl] at h1 h2
  cases e : TL.tl w with
  | nil => rw [e] at h1; simp at h1
  | cons ch cs =>
    rw [e] at h2
    have e2 : w.cps.toList = ch :: cs := e
    rw [e2] at h3
    refine ⟨ch, cs, rfl, h3 ch List.mem_cons_self, fun x hx => h3 x (List.mem_cons_of_mem _ hx), by simpa using h2⟩
theorem lets_not {n : Nat} (h : n ∉ letters) {w : Str} (hw : isName w = true) : n ∉ TL.tl w := by
  obtain ⟨ch, cs, e, h1, h2, _⟩ := isName_cases hw
  rw [e]
  intro z
  rcases List.mem_cons.mp z with z | z
  · exact h (z ▸ h1)
  · exact h (h2 _ z)
theorem lets_digit : ∀ ch ∈ letters, Unicode.isDigit ch = false := by decide +kernel
theorem slash_tl : TL.tl ("/" : Str) = [47] := by decide +kernel
theorem frac_name {w : Str} (hw : isName w = true) : readFrac w = some none := by
  obtain ⟨ch, cs, e, h1, h2, h3⟩ := isName_cases hw
  have hl : ¬ 1000 < w.length := by rw [TL.len_tl, e, List.length_cons]; omega
  have hp : Txt.partition w "/" = (w, Str.empty, Str.empty) := TL.partition_none (s := 47) (S := []) slash_tl (lets_not (by decide +kernel) hw)
  have hs : Txt.startswith w "-" = false := by
    unfold Txt.startswith
    rw [StrLaws.subAt_eq]
    have e1 : ("-" : Str).length = 1 := by decide +kernel
    have e2 : ("-" : Str).cps.toList = [45] := by decide +kernel
    have e3 : w.cps.toList = ch :: cs := e
    rw [e1, e2, e3]
    have : ch ≠ 45 := fun z => absurd h1 (by rw [z]; decide +kernel)
    simp [this]
  have hi : readInt w = some none := by
    unfold readInt figs
    rw [if_neg hl, hs]
    simp only [Bool.false_eq_true, if_false]
    have : Txt.isdigit w = false := by
      unfold Txt.isdigit
      rw [← Array.all_toList]
      have e3 : w.cps.toList = ch :: cs := e
      rw [e3, List.all_cons, lets_digit ch h1]
      simp
    rw [this]
    simp
  unfold readFrac
  rw [if_neg hl, hp, hi]
/-- a word of a line -/
structure WordOk (w : Str) : Prop where
  len : w.length ≤ 40
  bl : 32 ∉ TL.tl w
  nl : 10 ∉ TL.tl w
  num : ∃ o, readFrac w = some o
theorem word_name {w : Str} (hw : isName w = true) : WordOk w := by
  obtain ⟨ch, cs, e, h1, h2, h3⟩ := isName_cases hw
  exact ⟨by rw [TL.len_tl, e, List.length_cons]; omega, lets_not (by decide +kernel) hw, lets_not (by decide +kernel) hw, none, frac_name hw⟩
def wordB (w : Str) : Bool := decide (w.length ≤ 40) && (!decide (32 ∈ w.cps.toList) && (!decide (10 ∈ w.cps.toList) && (readFrac w).isSome))
theorem word_lit {w : Str} (h : wordB w = true) : WordOk w := by
  unfold wordB at h
  simp only [Bool.and_eq_true, decide_eq_true_eq, Bool.not_eq_true', decide_eq_false_iff_not, Option.isSome_iff_exists] at h
  obtain ⟨h1, h2, h3, h4⟩ := h
  exact ⟨h1, h2, h3, h4⟩
theorem sp_tl : TL.tl (" " : Str) = [32] := by decide +kernel
theorem mem_joinL {S : List Nat} {x : Nat} : ∀ {ps : List (List Nat)}, x ∈ TL.joinL S ps → x ∈ S ∨ ∃ p ∈ ps, x ∈ p
  | [], h => absurd h List.not_mem_nil
  | [p], h => .inr ⟨p, List.mem_singleton.mpr rfl, h⟩
  | p :: q :: r, h => by
    rcases List.mem_append.mp h with h | h
    · exact .inr ⟨p, List.mem_cons_self, h⟩
    · rcases List.mem_append.mp h with h | h
      · exact .inl h
      · rcases mem_joinL h with h | ⟨z, hz, h⟩
        · exact .inl h
        · exact .inr ⟨z, List.mem_cons_of_mem _ hz, h⟩
/-- a line made of words -/
structure LineW (l : Str) (ws : List Str) : Prop where
  ws : wordsOf l = ws
  fine : FineL l
  nl : 10 ∉ TL.tl l
  len : l.length ≤ 400
theorem sum_le' {k : Nat} {ls : List Str} (h : ∀ l ∈ ls, l.length ≤ k) : (ls.map (·.length)).sum ≤ k * ls.length := by
  induction ls with
  | nil => simp
  | cons x l ih =>
    have h1 := h x List.mem_cons_self
    have h2 := ih fun y hy => h y (List.mem_cons_of_mem _ hy)
    simp only [List.map_cons, List.sum_cons, List.length_cons, Nat.mul_add, Nat.mul_one]
    omega
theorem line_of {l : Str} {ws : List Str} (e : l = Str.join " " ws) (hne : ws ≠ []) (hl : ws.length ≤ 9) (h : ∀ w ∈ ws, WordOk w) : LineW l ws := by
  have ew : wordsOf l = ws := by
    unfold wordsOf
    rw [e, ← TL.join_eq]
    exact TL.split_join (s := 32) (S := []) sp_tl (by decide +kernel) hne fun p hp => (h p hp).bl
  have hlen : l.length ≤ 400 := by
    have h1 := StrLaws.join_length_le " " ws
    have h2 : (" " : Str).length = 1 := by decide +kernel
    have h3 := sum_le' fun w hw => (h w hw).len
    rw [e]
    rw [h2] at h1
    omega
  have getD_mem : ∀ i, i < ws.length → ws.getD i "" ∈ ws := fun i hi => by
    have : ws.getD i "" = ws[i] := by simp [List.getD, List.getElem?_eq_getElem hi]
    rw [this]
    exact List.getElem_mem hi
  refine ⟨ew, ⟨by omega, ⟨?_, ?_, ?_⟩, ?_⟩, ?_, hlen⟩
  · rw [ew]; exact fun w hw => (h w (List.mem_of_mem_drop hw)).num
  · rw [ew]
    by_cases hi : 1 < ws.length
    · have := (h _ (getD_mem 1 hi)).len
      omega
    · have : ws.getD 1 "" = "" := by simp [List.getD, List.getElem?_eq_none (show ws.length ≤ 1 by omega)]
      rw [this]; decide +kernel
  · rw [ew]; omega
  · rw [ew]; exact hne
  · rw [e, TL.tl_join, sp_tl]
    intro z
    rcases mem_joinL z with z | ⟨p, hp, z⟩
    · simp at z
    · obtain ⟨w, hw, rfl⟩ := List.mem_map.mp hp
      exact (h w hw).nl z
section
variable {N : Nat}
/-- a line by ids, all told of it -/
structure Ln (val : Fin N → Str) (l : Str) (a : La N) : Prop where
  isl : LineIs val l a
  fine : FineL l
  nl : 10 ∉ TL.tl l
  len : l.length ≤ 400
inductive Lns (val : Fin N → Str) : List Str → List (La N) → Prop where
  | nil : Lns val [] []
  | cons {l : Str} {a : La N} {ls : List Str} {as : List (La N)} : Ln val l a → Lns val ls as → Lns val (l :: ls) (a :: as)
theorem Lns.append {val : Fin N → Str} {ls ms : List Str} {as bs : List (La N)} (h : Lns val ls as) (g : Lns val ms bs) : Lns val (ls ++ ms) (as ++ bs) := by
  induction h with
  | nil => exact g
  | cons a _ ih => exact .cons a ih
theorem Lns.lines {val : Fin N → Str} {ls : List Str} {as : List (La N)} (h : Lns val ls as) : Lines val ls as := by
  induction h with
  | nil => exact .nil
  | cons a _ ih => exact .cons a.isl ih
theorem Lns.all {val : Fin N → Str} {ls : List Str} {as : List (La N)} (h : Lns val ls as) : ∀ l ∈ ls, FineL l ∧ 10 ∉ TL.tl l ∧ l.length ≤ 400 := by
  induction h with
  | nil => exact fun _ h => absurd h List.not_mem_nil
  | cons a _ ih =>
    intro l hl
    rcases List.mem_cons.mp hl with rfl | hl
    · exact ⟨a.fine, a.nl, a.len⟩
    · exact ih l hl
theorem Lns.map {val : Fin N → Str} {α : Type} (f : α → Str) (g : α → La N) : ∀ l : List α, (∀ x ∈ l, Ln val (f x) (g x)) → Lns val (l.map f) (l.map g)
  | [], _ => .nil
  | x :: l, h => .cons (h x List.mem_cons_self) (Lns.map f g l fun y hy => h y (List.mem_cons_of_mem _ hy))
variable {val : Fin N → Str}
theorem LineW.ln {l : Str} {ws : List Str} {a : La N} (h : LineW l ws) (i : LineIs val l a) : Ln val l a := ⟨i, h.fine, h.nl, h.len⟩
theorem ln_peg {l : Str} {i : Fin N} {ws : List Str} {row : List (Option Fr)} (e : l = Str.join " " (("peg" : Str) :: val i :: ws)) (hl : ws.length ≤ 7) (hi : WordOk (val i)) (h : ∀ w ∈ ws, WordOk w) (hr : rfs ws = row) : Ln val l (.peg i row) := by
  have w := line_of e (by simp) (by simpa using hl) (by
    intro w hw
    rcases List.mem_cons.mp hw with rfl | hw
    · exact word_lit (by decide +kernel)
    · rcases List.mem_cons.mp hw with rfl | hw
      · exact hi
      · exact h w hw)
  exact w.ln ⟨ws, w.ws, hr⟩
theorem ln_ring {l : Str} {i : Fin N} {ws : List Str} {row : List (Option Fr)} (e : l = Str.join " " (("ring" : Str) :: val i :: ws)) (hl : ws.length ≤ 7) (hi : WordOk (val i)) (h : ∀ w ∈ ws, WordOk w) (hr : rfs ws = row) : Ln val l (.ring i row) := by
  have w := line_of e (by simp) (by simpa using hl) (by
    intro w hw
    rcases List.mem_cons.mp hw with rfl | hw
    · exact word_lit (by decide +kernel)
    · rcases List.mem_cons.mp hw with rfl | hw
      · exact hi
      · exact h w hw)
  exact w.ln ⟨ws, w.ws, hr⟩
theorem ln_cord {l : Str} {i j : Fin N} (e : l = Str.join " " [("cord" : Str), val i, val j]) (hi : WordOk (val i)) (hj : WordOk (val j)) : Ln val l (.cord i j) := by
  have w := line_of e (by simp) (by simp) (by
    intro w hw
    rcases List.mem_cons.mp hw with rfl | hw
    · exact word_lit (by decide +kernel)
    · rcases List.mem_cons.mp hw with rfl | hw
      · exact hi
      · rw [List.mem_singleton.mp hw]; exact hj)
  exact w.ln w.ws
theorem ln_head {l w1 : Str} {co : Int} (e : l = Str.join " " [("net" : Str), w1]) (h : WordOk w1) (hc : coOf w1 = some co) : Ln val l (.head co) := by
  have w := line_of e (by simp) (by simp) (by
    intro w hw
    rcases List.mem_cons.mp hw with rfl | hw
    · exact word_lit (by decide +kernel)
    · rw [List.mem_singleton.mp hw]; exact h)
  exact w.ln ⟨w1, w.ws, hc⟩
theorem ln_bad {l : Str} {ws : List Str} (w : LineW l ws) (h1 : takeHead dr0 ws = none) (h2 : ws.getD 0 "" ≠ "peg") (h3 : ws.getD 0 "" ≠ "ring") (h4 : ws.getD 0 "" = "cord" → ws.length ≠ 3) : Ln val l .bad := by
  refine w.ln fun r => ?_
  unfold takeLine
  rw [w.ws]
  have h0 : takeHead r ws = none := by
    unfold takeHead at h1 ⊢
    split
    · rename_i q1
      rw [if_pos q1] at h1
      split
      · rename_i q2
        rw [if_pos q2] at h1
        split at h1
        · rfl
        · cases h1
      · rfl
    · rfl
  by_cases q0 : r.co = 0
  · rw [if_pos q0]; exact h0
  · rw [if_neg q0, if_neg h2, if_neg h3]
    by_cases q : ws.getD 0 "" = "cord"
    · rw [if_pos q]
      unfold takeCord
      rw [if_neg (h4 q)]
    · rw [if_neg q]
end
end Cr
end
section
/-! PI4: readings from any later store: texts, lists of texts, pairs of them and a number; r: a cell that none of these is -/
namespace Cr
open PySem PF
theorem strs_map' (l : List Str) : strsOf (l.map D.str) = some l := by
  induction l with
  | nil => rfl
  | cons x l ih => simp only [List.map_cons, strsOf, ih]
def SAt (k : Nat) (x : Str) (d : D) (_ : Store) : Prop := d = D.str x ∧ x.length ≤ k
def LAt (r : Nat) (ls : List Str) (d : D) (st : Store) : Prop := ∃ k, k ≠ r ∧ d = D.cell k ∧ st[k]? = some (Cell.lst (ls.map D.str))
abbrev Item := List Str × Option Nat
def numO : Option Nat → D
  | none => D.non
  | some k => D.int (k : Int)
def TAt (r : Nat) (it : Item) (d : D) (st : Store) : Prop := ∃ k, k ≠ r ∧ d = D.tup [D.cell k, numO it.2] ∧ st[k]? = some (Cell.lst (it.1.map D.str))
inductive Its (r : Nat) (st : Store) : List D → List Item → Prop where
  | nil : Its r st [] []
  | cons {d : D} {it : Item} {ds : List D} {its : List Item} : TAt r it d st → Its r st ds its → Its r st (d :: ds) (it :: its)
theorem LAt.mono {r : Nat} {ls : List Str} {d : D} {st st' : Store} (h : LAt r ls d st) (f : Frm st st' [r]) : LAt r ls d st' := by
  obtain ⟨k, h1, h2, h3⟩ := h
  exact ⟨k, h1, h2, f.get h3 (by simpa using h1)⟩
theorem TAt.mono {r : Nat} {it : Item} {d : D} {st st' : Store} (h : TAt r it d st) (f : Frm st st' [r]) : TAt r it d st' := by
  obtain ⟨k, h1, h2, h3⟩ := h
  exact ⟨k, h1, h2, f.get h3 (by simpa using h1)⟩
theorem Its.mono {r : Nat} {ds : List D} {its : List Item} {st st' : Store} (h : Its r st ds its) (f : Frm st st' [r]) : Its r st' ds its := by
  induction h with
  | nil => exact .nil
  | cons a _ ih => exact .cons (a.mono f) ih
theorem Its.append {r : Nat} {ds es : List D} {its jts : List Item} {st : Store} (h : Its r st ds its) (g : Its r st es jts) : Its r st (ds ++ es) (its ++ jts) := by
  induction h with
  | nil => exact g
  | cons a _ ih => exact .cons a ih
theorem Its.length {r : Nat} {ds : List D} {its : List Item} {st : Store} (h : Its r st ds its) : ds.length = its.length := by
  induction h with
  | nil => rfl
  | cons _ _ ih => simp [ih]
theorem Its.get {r : Nat} {ds : List D} {its : List Item} {st : Store} (h : Its r st ds its) : ∀ {i : Nat} {it : Item}, its[i]? = some it → ∃ d, ds[i]? = some d ∧ TAt r it d st := by
  induction h with
  | nil => intro i it e; simp at e
  | cons a _ ih =>
    intro i it e
    cases i with
    | zero => simp at e; subst e; exact ⟨_, rfl, a⟩
    | succ i => exact ih (by simpa using e)
theorem Frm.e1 {st st' : Store} {r : Nat} (f : Frm st st' []) : Frm st st' [r] := f.more (by simp)
/-- f's value, from every later store -/
def Ev (st0 : Store) (env : PF.Env) (R : D → Store → Prop) (f : EF) : Prop := ∀ st1, Frm st0 st1 [] → ∃ d st', f env st1 = some (Rs.ok d st') ∧ Frm st1 st' [] ∧ R d st'
/-- texts, one behind the other -/
def EvS (st0 : Store) (env : PF.Env) (xs : List Str) (g : AF) : Prop := ∀ st1, Frm st0 st1 [] → ∃ st', g env st1 = some (Rs.ok (xs.map D.str) st') ∧ Frm st1 st' []
def EvT (st0 : Store) (env : PF.Env) (r : Nat) (its : List Item) (g : AF) : Prop := ∀ st1, Frm st0 st1 [] → ∃ ds st', g env st1 = some (Rs.ok ds st') ∧ Frm st1 st' [] ∧ Its r st' ds its
section
variable {st0 : Store} {env : PF.Env} {r : Nat}
theorem Ev.lit (z : Str) {k : Nat} (h : z.length ≤ k := by decide +kernel) : Ev st0 env (SAt k z) (conF (.str z)) := fun st1 _ => ⟨_, st1, rfl, Frm.refl _ _, rfl, h⟩
theorem Ev.varS (i : Nat) {x : Str} {k : Nat} (h : env[i]? = some (some (D.str x))) (hk : x.length ≤ k) : Ev st0 env (SAt k x) (varF i) := fun st1 _ => ⟨_, st1, by simp only [varF, h], Frm.refl _ _, rfl, hk⟩
theorem Ev.varL (i : Nat) {d : D} {ls : List Str} (h : env[i]? = some (some d)) (hl : LAt r ls d st0) : Ev st0 env (LAt r ls) (varF i) := fun st1 f => ⟨d, st1, by simp only [varF, h], Frm.refl _ _, hl.mono f.e1⟩
theorem Ev.cat {f g : EF} {x y : Str} {k m : Nat} (hf : Ev st0 env (SAt k x) f) (hg : Ev st0 env (SAt m y) g) (h : k + m ≤ 1000 := by decide) : Ev st0 env (SAt (k + m) (x ++ y)) (binF addD f g) := fun st1 f1 => by
  obtain ⟨_, st2, e1, f2, rfl, l1⟩ := hf st1 f1
  obtain ⟨_, st3, e2, f3, rfl, l2⟩ := hg st2 (f1.trans f2)
  refine ⟨_, st3, ?_, f2.trans f3, rfl, by rw [Str.length_append]; omega⟩
  simp only [binF, e1, bindR_ok, e2, addD]
  rw [if_pos (by unfold LIM; omega)]
theorem EvS.nil : EvS st0 env [] nilA := fun st1 _ => ⟨st1, rfl, Frm.refl _ _⟩
theorem EvS.cons {f : EF} {g : AF} {x : Str} {xs : List Str} {k : Nat} (hf : Ev st0 env (SAt k x) f) (hg : EvS st0 env xs g) : EvS st0 env (x :: xs) (consA f g) := fun st1 f1 => by
  obtain ⟨_, st2, e1, f2, rfl, l1⟩ := hf st1 f1
  obtain ⟨st3, e2, f3⟩ := hg st2 (f1.trans f2)
  refine ⟨st3, ?_, f2.trans f3⟩
  simp only [consA, e1, bindR_ok, e2, List.map_cons]
theorem Ev.lst {g : AF} {xs : List Str} (h : EvS st0 env xs g) (hr : r < st0.length) (hl : xs.length ≤ 1000 := by simp) : Ev st0 env (LAt r xs) (lstF g) := fun st1 f1 => by
  obtain ⟨st2, e1, f2⟩ := h st1 f1
  refine ⟨D.cell st2.length, st2 ++ [Cell.lst (xs.map D.str)], ?_, f2.trans (Frm.app _ _ _), st2.length, ?_, rfl, get_end _ _⟩
  · simp only [lstF, e1, bindR_ok, List.length_map]
    rw [if_pos (by unfold LIM; omega)]
  · have := (f1.trans f2).lt hr
    omega
theorem Ev.app {f g : EF} {xs ys : List Str} (hf : Ev st0 env (LAt r xs) f) (hg : Ev st0 env (LAt r ys) g) (hr : r < st0.length) (hl : xs.length + ys.length ≤ 1000) : Ev st0 env (LAt r (xs ++ ys)) (binF addD f g) := fun st1 f1 => by
  obtain ⟨_, st2, e1, f2, a, ha, rfl, ga⟩ := hf st1 f1
  obtain ⟨_, st3, e2, f3, b, hb, rfl, gb⟩ := hg st2 (f1.trans f2)
  have ga3 := f3.get ga
  refine ⟨D.cell st3.length, st3 ++ [Cell.lst ((xs ++ ys).map D.str)], ?_, (f2.trans f3).trans (Frm.app _ _ _), st3.length, ?_, rfl, get_end _ _⟩
  · simp only [binF, e1, bindR_ok, e2, addD, ga3, gb, List.length_map]
    rw [if_pos (by unfold LIM; omega), List.map_append]
  · have := (f1.trans (f2.trans f3)).lt hr
    omega
theorem Ev.take {f : EF} {xs : List Str} (n : Nat) (hf : Ev st0 env (LAt r xs) f) (hr : r < st0.length) : Ev st0 env (LAt r (xs.take n)) (sliceF f noPart (partF (conF (.int (n : Int))))) := fun st1 f1 => by
  obtain ⟨_, st2, e1, f2, a, ha, rfl, ga⟩ := hf st1 f1
  refine ⟨D.cell st2.length, st2 ++ [Cell.lst ((xs.take n).map D.str)], ?_, f2.trans (Frm.app _ _ _), st2.length, ?_, rfl, get_end _ _⟩
  · simp only [sliceF, e1, bindR_ok, noPart, partF, conF, slD, ga, cut_to, List.map_take]
  · have := (f1.trans f2).lt hr
    omega
theorem Ev.drop {f : EF} {xs : List Str} (n : Nat) (hf : Ev st0 env (LAt r xs) f) (hr : r < st0.length) : Ev st0 env (LAt r (xs.drop n)) (sliceF f (partF (conF (.int (n : Int)))) noPart) := fun st1 f1 => by
  obtain ⟨_, st2, e1, f2, a, ha, rfl, ga⟩ := hf st1 f1
  refine ⟨D.cell st2.length, st2 ++ [Cell.lst ((xs.drop n).map D.str)], ?_, f2.trans (Frm.app _ _ _), st2.length, ?_, rfl, get_end _ _⟩
  · simp only [sliceF, e1, bindR_ok, noPart, partF, conF, slD, ga, cut_from, List.map_drop]
  · have := (f1.trans f2).lt hr
    omega
theorem Ev.join {f : EF} {xs : List Str} {k : Nat} (hf : Ev st0 env (LAt r xs) f) (hl : ∀ x ∈ xs, x.length ≤ k) (hb : (k + 1) * xs.length ≤ 1000) : Ev st0 env (SAt ((k + 1) * xs.length) (Str.join " " xs)) (mthF kStr joinD (conF (.str " ")) (consA f nilA)) := fun st1 f1 => by
  obtain ⟨_, st2, e1, f2, a, ha, rfl, ga⟩ := hf st1 f1
  have h1 := StrLaws.join_length_le " " xs
  have h2 : (" " : Str).length = 1 := by decide +kernel
  have h3 := sum_le' hl
  rw [h2] at h1
  have h4 : k * xs.length + xs.length * 1 = (k + 1) * xs.length := by rw [Nat.add_mul]; omega
  refine ⟨_, st2, ?_, f2, rfl, by omega⟩
  have c0 : conF (D.str " ") env st1 = some (Rs.ok (D.str " ") st1) := rfl
  have kk : kStr (D.str " ") st1 = true := rfl
  simp only [mthF, c0, bindR_ok, kk, if_true, consA, e1, nilA, joinD, ga, strs_map', h2]
  rw [if_pos (by unfold LIM; omega), TL.join_eq]
theorem Ev.pair {f : EF} {xs : List Str} {q : Option Nat} {d : D} (hf : Ev st0 env (LAt r xs) f) (hd : d = numO q := by rfl) : Ev st0 env (TAt r (xs, q)) (tupF (consA f (consA (conF d) nilA))) := fun st1 f1 => by
  obtain ⟨_, st2, e1, f2, a, ha, rfl, ga⟩ := hf st1 f1
  refine ⟨_, st2, ?_, f2, a, ha, rfl, ga⟩
  subst hd
  simp only [tupF, consA, e1, bindR_ok, conF, nilA, List.length_cons, List.length_nil]
  rw [if_pos (by unfold LIM; omega)]
theorem EvT.nil : EvT st0 env r [] nilA := fun st1 _ => ⟨[], st1, rfl, Frm.refl _ _, .nil⟩
theorem EvT.cons {f : EF} {g : AF} {it : Item} {its : List Item} (hf : Ev st0 env (TAt r it) f) (hg : EvT st0 env r its g) : EvT st0 env r (it :: its) (consA f g) := fun st1 f1 => by
  obtain ⟨d, st2, e1, f2, t⟩ := hf st1 f1
  obtain ⟨ds, st3, e2, f3, ts⟩ := hg st2 (f1.trans f2)
  refine ⟨d :: ds, st3, ?_, f2.trans f3, .cons (t.mono f3.e1) ts⟩
  simp only [consA, e1, bindR_ok, e2]
/-- a name for a list of texts -/
theorem Ev.set {f : EF} {ls : List Str} (h : Ev st0 env (LAt r ls) f) (i : Nat) : ∃ d st', asgS f (gNameF i) env st0 = some (Rs.ok (Fl.nx (env.set i (some d))) st') ∧ Frm st0 st' [] ∧ LAt r ls d st' := by
  obtain ⟨d, st', e, f1, l⟩ := h st0 (Frm.refl _ _)
  refine ⟨d, st', ?_, f1, l⟩
  simp only [asgS, e, bindR_ok, gNameF]
/-- pairs put behind the list at r -/
theorem EvT.extend {g : AF} {its jts : List Item} {i : Nat} {ds : List D} (h : EvT st0 env r jts g) (hi : env[i]? = some (some (D.cell r))) (hd : st0[r]? = some (Cell.lst ds)) (hits : Its r st0 ds its) (hl : its.length + jts.length ≤ 1000) :
    ∃ es st', exprS (mthF kLst extendD (varF i) (consA (lstF g) nilA)) env st0 = some (Rs.ok (Fl.nx env) st') ∧ Frm st0 st' [r] ∧ st'[r]? = some (Cell.lst es) ∧ Its r st' es (its ++ jts) := by
  obtain ⟨es, st1, e, f1, ts⟩ := h st0 (Frm.refl _ _)
  have l1 := hits.length
  have l2 := ts.length
  let st2 := st1 ++ [Cell.lst es]
  have f2 : Frm st1 st2 [] := Frm.app _ _ _
  have d1 := f2.get (f1.get hd)
  have g2 : st2[st1.length]? = some (Cell.lst es) := get_end _ _
  have f3 : Frm st2 (st2.set r (Cell.lst (ds ++ es))) [r] := Frm.set (by simp) _
  have fa : Frm st0 (st2.set r (Cell.lst (ds ++ es))) [r] := ((f1.trans f2).e1).trans f3
  refine ⟨ds ++ es, st2.set r (Cell.lst (ds ++ es)), ?_, fa, get_set_eq (lt_of d1), (hits.mono fa).append (ts.mono (f2.e1.trans f3))⟩
  have kl : kLst (D.cell r) st0 = true := kLst_at hd
  simp only [exprS, mthF, varF, hi, bindR_ok, kl, if_true, consA, lstF, e, nilA]
  rw [if_pos (by unfold LIM; omega)]
  simp only [bindR_ok]
  have hst : st1 ++ [Cell.lst es] = st2 := rfl
  rw [hst]
  simp only [extendD, d1, g2]
  rw [if_pos (by unfold LIM; omega)]
  rfl
theorem Ev.append {f : EF} {it : Item} {its : List Item} {i : Nat} {ds : List D} (h : Ev st0 env (TAt r it) f) (hi : env[i]? = some (some (D.cell r))) (hd : st0[r]? = some (Cell.lst ds)) (hits : Its r st0 ds its) (hl : its.length ≤ 1000) :
    ∃ es st', exprS (mthF kLst appendD (varF i) (consA f nilA)) env st0 = some (Rs.ok (Fl.nx env) st') ∧ Frm st0 st' [r] ∧ st'[r]? = some (Cell.lst es) ∧ Its r st' es (its ++ [it]) := by
  obtain ⟨d, st1, e, f1, t⟩ := h st0 (Frm.refl _ _)
  have l1 := hits.length
  have d1 := f1.get hd
  have f3 : Frm st1 (st1.set r (Cell.lst (ds ++ [d]))) [r] := Frm.set (by simp) _
  have fa : Frm st0 (st1.set r (Cell.lst (ds ++ [d]))) [r] := f1.e1.trans f3
  refine ⟨ds ++ [d], st1.set r (Cell.lst (ds ++ [d])), ?_, fa, get_set_eq (lt_of d1), (hits.mono fa).append (.cons (t.mono f3) .nil)⟩
  have kl : kLst (D.cell r) st0 = true := kLst_at hd
  have ap := append_to d1 (by unfold LIM; omega) d
  simp only [exprS, mthF, varF, hi, bindR_ok, kl, if_true, consA, e, nilA, ap]
end
end Cr
end
section
namespace Cr
open PySem PF
def Due (ls : List Str) (q : Option Nat) : Prop := LinesOk ls ∧ (∀ k, q = some k → k < 1000) ∧ (match netOf ls with
  | .inl n => some n
  | .inr _ => none) = q
theorem due_of {N : Nat} {val : Fin N → Str} {ok : Fin N → Bool} (inj : ∀ i j, val i = val j → i = j) (hok : ∀ i, isName (val i) = ok i) {ls : List Str} {as : List (La N)} {q : Option Nat} (h : Lns val ls as) (hq : netA ok as = q) (hk : ∀ k, q = some k → k < 1000 := by decide) (hne : as.length ≠ 0 := by simp) (few : as.length < 1000 := by simp) : Due ls q := by
  have hl := h.lines.length
  refine ⟨⟨?_, by omega, fun l hl => (h.all l hl).2.1, fun l hl => (h.all l hl).1, fun l hl => (h.all l hl).2.2⟩, hk, ?_⟩
  · intro z
    rw [z] at hl
    simp at hl
    omega
  · exact (net_cv inj hok h.lines).trans hq
abbrev tabAt (c : Cs) (st : Store) : Prop := st[0]? = some (Cell.tab c.t__law_is_due q__law_is_due)
theorem numD_numO (q : Option Nat) : numD q = numO q := by cases q <;> rfl
theorem due_law (c : Cs) (st : Store) (n : Nat) (ls : List Str) (q : Option Nat) (h0 : tabAt c st) (hl : st[n]? = some (Cell.lst (ls.map D.str))) (hd : Due ls q) : ∃ st', m__law_is_due c [D.cell n, numO q] st = some (Rs.ok (D.bl true) st') ∧ Frm st st' [] := by
  rw [← numD_numO]
  exact is_due_ok c st n ls q hl ⟨0, h0⟩ hd.1 hd.2.1 hd.2.2
theorem tl_0 : TL.tl ("peg " : Str) = [112, 101, 103, 32] := by decide +kernel
theorem tl_1 : TL.tl ("ring " : Str) = [114, 105, 110, 103, 32] := by decide +kernel
theorem tl_2 : TL.tl ("cord " : Str) = [99, 111, 114, 100, 32] := by decide +kernel
theorem tl_3 : TL.tl ("cords " : Str) = [99, 111, 114, 100, 115, 32] := by decide +kernel
theorem tl_4 : TL.tl (" " : Str) = [32] := by decide +kernel
theorem tl_5 : TL.tl (" 0" : Str) = [32, 48] := by decide +kernel
theorem tl_6 : TL.tl (" 1" : Str) = [32, 49] := by decide +kernel
theorem tl_7 : TL.tl (" 2" : Str) = [32, 50] := by decide +kernel
theorem tl_8 : TL.tl (" 3" : Str) = [32, 51] := by decide +kernel
theorem tl_9 : TL.tl (" 4" : Str) = [32, 52] := by decide +kernel
theorem tl_10 : TL.tl (" 1 0" : Str) = [32, 49, 32, 48] := by decide +kernel
theorem tl_11 : TL.tl (" 4 0" : Str) = [32, 52, 32, 48] := by decide +kernel
theorem tl_12 : TL.tl (" 3 0" : Str) = [32, 51, 32, 48] := by decide +kernel
theorem tl_13 : TL.tl (" 0 0" : Str) = [32, 48, 32, 48] := by decide +kernel
theorem tl_14 : TL.tl (" 7 " : Str) = [32, 55, 32] := by decide +kernel
theorem tl_15 : TL.tl (" 0 " : Str) = [32, 48, 32] := by decide +kernel
theorem tl_16 : TL.tl (" 7 7 0 " : Str) = [32, 55, 32, 55, 32, 48, 32] := by decide +kernel
theorem tl_17 : TL.tl ("peg" : Str) = [112, 101, 103] := by decide +kernel
theorem tl_18 : TL.tl ("ring" : Str) = [114, 105, 110, 103] := by decide +kernel
theorem tl_19 : TL.tl ("cord" : Str) = [99, 111, 114, 100] := by decide +kernel
theorem tl_20 : TL.tl ("cords" : Str) = [99, 111, 114, 100, 115] := by decide +kernel
theorem tl_21 : TL.tl ("net" : Str) = [110, 101, 116] := by decide +kernel
theorem tl_22 : TL.tl ("0" : Str) = [48] := by decide +kernel
theorem tl_23 : TL.tl ("1" : Str) = [49] := by decide +kernel
theorem tl_24 : TL.tl ("2" : Str) = [50] := by decide +kernel
theorem tl_25 : TL.tl ("3" : Str) = [51] := by decide +kernel
theorem tl_26 : TL.tl ("4" : Str) = [52] := by decide +kernel
theorem tl_27 : TL.tl ("7" : Str) = [55] := by decide +kernel
theorem tl_28 : TL.tl ("" : Str) = [] := by decide +kernel
/-! ### lines of names and words -/
theorem j_peg1 (a w : Str) : ("peg " : Str) ++ a ++ " " ++ w ++ " 0" = Str.join " " ["peg", a, w, "0"] := (by refine TL.ext_tl ?_; simp only [Str.join, TL.tl_append, tl_0, tl_1, tl_2, tl_3, tl_4, tl_5, tl_6, tl_7, tl_8, tl_9, tl_10, tl_11, tl_12, tl_13, tl_14, tl_15, tl_16, tl_17, tl_18, tl_19, tl_20, tl_21, tl_22, tl_23, tl_24, tl_25, tl_26, tl_27, tl_28, List.append_assoc, List.cons_append, List.nil_append])
theorem j_ring1 (b w : Str) : ("ring " : Str) ++ b ++ " 7 " ++ w ++ " 0 " ++ w = Str.join " " ["ring", b, "7", w, "0", w] := (by refine TL.ext_tl ?_; simp only [Str.join, TL.tl_append, tl_0, tl_1, tl_2, tl_3, tl_4, tl_5, tl_6, tl_7, tl_8, tl_9, tl_10, tl_11, tl_12, tl_13, tl_14, tl_15, tl_16, tl_17, tl_18, tl_19, tl_20, tl_21, tl_22, tl_23, tl_24, tl_25, tl_26, tl_27, tl_28, List.append_assoc, List.cons_append, List.nil_append])
theorem j_peg2 (a : Str) : ("peg " : Str) ++ a ++ " 0 0" = Str.join " " ["peg", a, "0", "0"] := (by refine TL.ext_tl ?_; simp only [Str.join, TL.tl_append, tl_0, tl_1, tl_2, tl_3, tl_4, tl_5, tl_6, tl_7, tl_8, tl_9, tl_10, tl_11, tl_12, tl_13, tl_14, tl_15, tl_16, tl_17, tl_18, tl_19, tl_20, tl_21, tl_22, tl_23, tl_24, tl_25, tl_26, tl_27, tl_28, List.append_assoc, List.cons_append, List.nil_append])
theorem j_ring2 (b w : Str) : ("ring " : Str) ++ b ++ " 7 7 0 " ++ w = Str.join " " ["ring", b, "7", "7", "0", w] := (by refine TL.ext_tl ?_; simp only [Str.join, TL.tl_append, tl_0, tl_1, tl_2, tl_3, tl_4, tl_5, tl_6, tl_7, tl_8, tl_9, tl_10, tl_11, tl_12, tl_13, tl_14, tl_15, tl_16, tl_17, tl_18, tl_19, tl_20, tl_21, tl_22, tl_23, tl_24, tl_25, tl_26, tl_27, tl_28, List.append_assoc, List.cons_append, List.nil_append])
theorem j_net1 : ("net 1" : Str) = Str.join " " ["net", "1"] := by decide +kernel
theorem j_net2 : ("net 2" : Str) = Str.join " " ["net", "2"] := by decide +kernel
section
variable {st0 : Store} {env : PF.Env} {r : Nat}
theorem chk (c : Cs) {f : EF} {ls : List Str} {q : Option Nat} {d : D} (hf : Ev st0 env (LAt r ls) f) (h0 : tabAt c st0) (hd : Due ls q) (e : d = numO q := by rfl) : ∀ st1, Frm st0 st1 [] → ∃ st', dcallF 2 (m__law_is_due c) (consA f (consA (conF d) nilA)) env st1 = some (Rs.ok (D.bl true) st') ∧ Frm st1 st' [] := fun st1 f1 => by
  obtain ⟨_, st2, e1, f2, a, _, rfl, ga⟩ := hf st1 f1
  obtain ⟨st3, e3, f3⟩ := due_law c st2 a ls q (f2.get (f1.get h0)) ga hd
  refine ⟨st3, ?_, f2.trans f3⟩
  subst e
  simp only [dcallF, consA, e1, bindR_ok, conF, nilA, List.length_cons, List.length_nil, Nat.reduceAdd, if_true, e3]
end

def ws9 : List Str := ["1000", "-1000", "1/60", "-1/60", "999/59", "0", "-1", "1000/59", "1/2"]
def ws15 : List Str := ["1001", "-1001", "1/61", "2/4", "0/1", "1/1", "-0", "+1", "01", "1/-2", "1/0", "", "x", "1.0", "1/2/3"]
def ws16 : List Str := ws15 ++ (["1/02"] : List Str)
theorem word0 : WordOk "0" := word_lit (by decide +kernel)
theorem word7 : WordOk "7" := word_lit (by decide +kernel)
theorem h2 {val : Fin 2 → Str} : Ln val "net 2" (.head 2) := ln_head j_net2 (word_lit (by decide +kernel)) (by decide +kernel)
section
variable (a b : Str)
def val2 : Fin 2 → Str := fun i => match i with
  | 0 => a
  | 1 => b
theorem ok2 {a b : Str} (ha : isName a = true) (hb : isName b = true) : ∀ i : Fin 2, isName (val2 a b i) = true := fun i => match i with
  | 0 => ha
  | 1 => hb
theorem inj2 {a b : Str} (hab : a ≠ b) : ∀ i j : Fin 2, val2 a b i = val2 a b j → i = j := fun i j e => match i, j, e with
  | 0, 0, _ => rfl
  | 1, 1, _ => rfl
  | 0, 1, e => absurd e hab
  | 1, 0, e => absurd e.symm hab
end
theorem n9 : ∀ w ∈ ws9, wordB w = true ∧ netA (fun _ : Fin 2 => true) [.head 2, .peg 0 (rfs [w, "0"]), .ring 1 (rfs ["7", w, "0", w])] = none := by decide +kernel
theorem n16 : ∀ w ∈ ws16, wordB w = true ∧ netA (fun _ : Fin 2 => true) [.head 2, .peg 0 (rfs [w, "0"])] = some 2 ∧ netA (fun _ : Fin 2 => true) [.head 2, .peg 0 (rfs ["0", "0"]), .ring 1 (rfs ["7", "7", "0", w])] = some 3 := by decide +kernel
theorem mem3 {x a b c : Str} (h : x ∈ [a, b, c]) : x = a ∨ x = b ∨ x = c := by simpa using h
section
variable {a b : Str} (ha : isName a = true) (hb : isName b = true) (hab : a ≠ b)
include ha hb hab
theorem d9 {w : Str} (hw : w ∈ ws9) : Due ["net 2", "peg " ++ a ++ " " ++ w ++ " 0", "ring " ++ b ++ " 7 " ++ w ++ " 0 " ++ w] none := by
  obtain ⟨h1, h3⟩ := n9 w hw
  have h1 := word_lit h1
  have p : Ln (val2 a b) ("peg " ++ a ++ " " ++ w ++ " 0") (.peg 0 (rfs [w, "0"])) := ln_peg (i := 0) (ws := [w, "0"]) (j_peg1 a w) (by simp) (word_name ha) (by
    intro x hx
    rcases List.mem_cons.mp hx with rfl | hx
    · exact h1
    · rw [List.mem_singleton.mp hx]; exact word0) rfl
  have q : Ln (val2 a b) ("ring " ++ b ++ " 7 " ++ w ++ " 0 " ++ w) (.ring 1 (rfs ["7", w, "0", w])) := ln_ring (i := 1) (ws := ["7", w, "0", w]) (j_ring1 b w) (by simp) (word_name hb) (by
    intro x hx
    have : x = "7" ∨ x = w ∨ x = "0" ∨ x = w := by simpa using hx
    rcases this with rfl | rfl | rfl | rfl
    · exact word7
    · exact h1
    · exact word0
    · exact h1) rfl
  exact due_of (inj2 hab) (ok2 ha hb) (.cons h2 (.cons p (.cons q .nil))) h3
theorem d16a {w : Str} (hw : w ∈ ws16) : Due ["net 2", "peg " ++ a ++ " " ++ w ++ " 0"] (some 2) := by
  obtain ⟨h1, h3, _⟩ := n16 w hw
  have h1 := word_lit h1
  have p : Ln (val2 a b) ("peg " ++ a ++ " " ++ w ++ " 0") (.peg 0 (rfs [w, "0"])) := ln_peg (i := 0) (ws := [w, "0"]) (j_peg1 a w) (by simp) (word_name ha) (by
    intro x hx
    rcases List.mem_cons.mp hx with rfl | hx
    · exact h1
    · rw [List.mem_singleton.mp hx]; exact word0) rfl
  exact due_of (inj2 hab) (ok2 ha hb) (.cons h2 (.cons p .nil)) h3 (by intro k e; cases e; decide)
theorem d16b {w : Str} (hw : w ∈ ws16) : Due ["net 2", "peg " ++ a ++ " 0 0", "ring " ++ b ++ " 7 7 0 " ++ w] (some 3) := by
  obtain ⟨h1, _, h3⟩ := n16 w hw
  have h1 := word_lit h1
  have p : Ln (val2 a b) ("peg " ++ a ++ " 0 0") (.peg 0 (rfs ["0", "0"])) := ln_peg (i := 0) (ws := ["0", "0"]) (j_peg2 a) (by simp) (word_name ha) (by
    intro x hx
    have : x = "0" ∨ x = "0" := by simpa using hx
    rcases this with rfl | rfl <;> exact word0) rfl
  have q : Ln (val2 a b) ("ring " ++ b ++ " 7 7 0 " ++ w) (.ring 1 (rfs ["7", "7", "0", w])) := ln_ring (i := 1) (ws := ["7", "7", "0", w]) (j_ring2 b w) (by simp) (word_name hb) (by
    intro x hx
    have : x = "7" ∨ x = "7" ∨ x = "0" ∨ x = w := by simpa using hx
    rcases this with rfl | rfl | rfl | rfl
    · exact word7
    · exact word7
    · exact word0
    · exact h1) rfl
  exact due_of (inj2 hab) (ok2 ha hb) (.cons h2 (.cons p (.cons q .nil))) h3 (by intro k e; cases e; decide)
end
end Cr
end
section
namespace Cr
open PySem PF
theorem name_len {w : Str} (h : isName w = true) : w.length ≤ 6 := by
  obtain ⟨ch, cs, e, _, _, h3⟩ := isName_cases h
  rw [TL.len_tl, e, List.length_cons]; omega
theorem frm_tab {c : Cs} {st st' : Store} {S : List Nat} (h : tabAt c st) (f : Frm st st' S) (hS : 0 ∉ S) : tabAt c st' := f.get h hS
theorem seqS_nx {f g : SF} {env env1 : PF.Env} {st st1 : Store} (h : f env st = some (Rs.ok (Fl.nx env1) st1)) : seqS f g env st = g env1 st1 := by
  simp only [seqS, h, bindR_ok]
/-- a check that holds goes on -/
theorem if_chk {f : EF} {env : PF.Env} {st st' : Store} (h : f env st = some (Rs.ok (D.bl true) st')) (g : SF) : ifS (notT (truF f)) g nextS env st = some (Rs.ok (Fl.nx env) st') := by
  simp only [ifS, notT, truF, h, bindR_ok, truD, Bool.not_true, Bool.false_eq_true, if_false, nextS]
theorem numbers_law (c : Cs) (st : Store) (a b : Str) (h0 : tabAt c st) (ha : isName a = true) (hb : isName b = true) (hab : a ≠ b) : ∃ st', m__law_are_numbers_right c [D.str a, D.str b] st = some (Rs.ok (D.bl true) st') ∧ Frm st st' [] := by
  let E : Option D → Option D → PF.Env := fun x y => [some (D.str a), some (D.str b), x, y]
  have la := name_len ha
  have lb := name_len hb
  have hr : 0 < st.length := lt_of h0
  let L1 : AF := consA (conF (.str "net 2")) (consA (binF addD (binF addD (binF addD (binF addD (conF (.str "peg ")) (varF 0)) (conF (.str " "))) (varF 2)) (conF (.str " 0"))) (consA (binF addD (binF addD (binF addD (binF addD (binF addD (conF (.str "ring ")) (varF 1)) (conF (.str " 7 "))) (varF 2)) (conF (.str " 0 "))) (varF 2)) nilA))
  let B1 : SF := ifS (notT (truF (dcallF 2 (m__law_is_due c) (consA (lstF L1) (consA (conF .non) nilA))))) (retS (conF (.bl false))) nextS
  let I1 : Nat → PF.Env → Store → Prop := fun i env s => ∃ x, env = E x none ∧ Frm st s []
  have s1 : ∀ i env s, i < 9 → I1 i env s → ∃ d env1 s1 env2 s2, (ItV.tup (ws9.map D.str)).nxt i s = some (some d) ∧ gNameF 2 d env s = some (Rs.ok env1 s1) ∧ B1 env1 s1 = some (Rs.ok (Fl.nx env2) s2) ∧ I1 (i + 1) env2 s2 := by
    rintro i env s hi ⟨x, rfl, fr⟩
    have hi' : i < ws9.length := hi
    have hw : ws9[i] ∈ ws9 := List.getElem_mem hi'
    obtain ⟨w, hw'⟩ : ∃ w, ws9[i] = w := ⟨_, rfl⟩
    rw [hw'] at hw
    have lw := (word_lit (n9 w hw).1).len
    have ht := frm_tab h0 fr (by simp)
    have ev : Ev s (E (some (D.str w)) none) (LAt 0 ["net 2", "peg " ++ a ++ " " ++ w ++ " 0", "ring " ++ b ++ " 7 " ++ w ++ " 0 " ++ w]) (lstF L1) :=
      Ev.lst (EvS.cons (Ev.lit _ (k := 20)) (EvS.cons (Ev.cat (Ev.cat (Ev.cat (Ev.cat (Ev.lit _ (k := 20)) (Ev.varS 0 rfl la)) (Ev.lit _ (k := 20))) (Ev.varS 2 rfl lw)) (Ev.lit _ (k := 20))) (EvS.cons (Ev.cat (Ev.cat (Ev.cat (Ev.cat (Ev.cat (Ev.lit _ (k := 20)) (Ev.varS 1 rfl lb)) (Ev.lit _ (k := 20))) (Ev.varS 2 rfl lw)) (Ev.lit _ (k := 20))) (Ev.varS 2 rfl lw)) EvS.nil))) (fr.lt hr)
    obtain ⟨s2, e2, f2⟩ := chk c (d := D.non) ev ht (d9 ha hb hab hw) rfl s (Frm.refl _ _)
    refine ⟨D.str w, _, s, _, s2, ?_, rfl, if_chk e2 _, some (D.str w), rfl, fr.trans f2⟩
    simp only [ItV.nxt, List.getElem?_map, List.getElem?_eq_getElem hi', hw', Option.map_some]
  obtain ⟨env1, st1, run1, x1, rfl, f1⟩ := forL_inv 9 I1 s1 (fun env s _ => by simp only [ItV.nxt]; rfl) 9 FUEL 0 (E none none) st (by omega) (by unfold FUEL; omega) ⟨none, rfl, Frm.refl _ _⟩
  have t1 : forS (iterF (tupF (consA (conF (.str "1000")) (consA (conF (.str "-1000")) (consA (conF (.str "1/60")) (consA (conF (.str "-1/60")) (consA (conF (.str "999/59")) (consA (conF (.str "0")) (consA (conF (.str "-1")) (consA (conF (.str "1000/59")) (consA (conF (.str "1/2")) nilA))))))))))) (gNameF 2) B1 (E none none) st = some (Rs.ok (Fl.nx (E x1 none)) st1) := by
    have it : iterF (tupF (consA (conF (.str "1000")) (consA (conF (.str "-1000")) (consA (conF (.str "1/60")) (consA (conF (.str "-1/60")) (consA (conF (.str "999/59")) (consA (conF (.str "0")) (consA (conF (.str "-1")) (consA (conF (.str "1000/59")) (consA (conF (.str "1/2")) nilA)))))))))) (E none none) st = some (Rs.ok (ItV.tup (ws9.map D.str)) st) := rfl
    unfold forS
    rw [it, bindR_ok]
    exact run1
  -- the words that are none
  let st2 := st1 ++ [Cell.lst (ws15.map D.str)]
  let y : Option D := some (D.cell st1.length)
  have f2 : Frm st st2 [] := f1.trans (Frm.app _ _ _)
  have t2 : asgS (lstF (consA (conF (.str "1001")) (consA (conF (.str "-1001")) (consA (conF (.str "1/61")) (consA (conF (.str "2/4")) (consA (conF (.str "0/1")) (consA (conF (.str "1/1")) (consA (conF (.str "-0")) (consA (conF (.str "+1")) (consA (conF (.str "01")) (consA (conF (.str "1/-2")) (consA (conF (.str "1/0")) (consA (conF (.str "")) (consA (conF (.str "x")) (consA (conF (.str "1.0")) (consA (conF (.str "1/2/3")) nilA)))))))))))))))) (gNameF 3) (E x1 none) st1 = some (Rs.ok (Fl.nx (E x1 y)) st2) := rfl
  let st3 := st2 ++ [Cell.lst ((["1/02"] : List Str).map D.str)]
  let st4 := st3 ++ [Cell.lst (ws16.map D.str)]
  have f4 : Frm st st4 [] := (f2.trans (Frm.app _ _ _)).trans (Frm.app _ _ _)
  have g2 : st2[st1.length]? = some (Cell.lst (ws15.map D.str)) := get_end _ _
  have g3 : st3[st1.length]? = some (Cell.lst (ws15.map D.str)) := get_app g2 _
  have g3' : st3[st2.length]? = some (Cell.lst ((["1/02"] : List Str).map D.str)) := get_end _ _
  have g4 : st4[st3.length]? = some (Cell.lst (ws16.map D.str)) := get_end _ _
  have l3 : st.length ≤ st3.length := by
    have := f2.le
    have : st3.length = st2.length + 1 := by simp [st3]
    omega
  have it2 : iterF (binF addD (varF 3) (lstF (consA (conF (.str "1/02")) nilA))) (E x1 y) st2 = some (Rs.ok (ItV.lst st3.length) st4) := by
    have v3 : varF 3 (E x1 y) st2 = some (Rs.ok (D.cell st1.length) st2) := rfl
    have l1 : lstF (consA (conF (.str "1/02")) nilA) (E x1 y) st2 = some (Rs.ok (D.cell st2.length) st3) := rfl
    have lm : (ws15.map D.str).length + ((["1/02"] : List Str).map D.str).length ≤ LIM := by
      have : (ws15.map D.str).length + ((["1/02"] : List Str).map D.str).length = 16 := rfl
      rw [this]; unfold LIM; omega
    simp only [iterF, binF, v3, bindR_ok, l1, addD, g3, g3']
    rw [if_pos lm]
    have e : st3 ++ [Cell.lst (ws15.map D.str ++ (["1/02"] : List Str).map D.str)] = st4 := by
      rw [← List.map_append]; rfl
    simp only [bindR_ok]
    rw [e]
    simp only [g4]
  let L2 : AF := consA (conF (.str "net 2")) (consA (binF addD (binF addD (binF addD (binF addD (conF (.str "peg ")) (varF 0)) (conF (.str " "))) (varF 2)) (conF (.str " 0"))) nilA)
  let L3 : AF := consA (conF (.str "net 2")) (consA (binF addD (binF addD (conF (.str "peg ")) (varF 0)) (conF (.str " 0 0"))) (consA (binF addD (binF addD (binF addD (conF (.str "ring ")) (varF 1)) (conF (.str " 7 7 0 "))) (varF 2)) nilA))
  let B2 : SF := seqS (ifS (notT (truF (dcallF 2 (m__law_is_due c) (consA (lstF L2) (consA (conF (.int 2)) nilA))))) (retS (conF (.bl false))) nextS) (ifS (notT (truF (dcallF 2 (m__law_is_due c) (consA (lstF L3) (consA (conF (.int 3)) nilA))))) (retS (conF (.bl false))) nextS)
  let I2 : Nat → PF.Env → Store → Prop := fun i env s => ∃ x, env = E x y ∧ Frm st s [] ∧ s[st3.length]? = some (Cell.lst (ws16.map D.str))
  have s2 : ∀ i env s, i < 16 → I2 i env s → ∃ d env1 s1 env2 s2, (ItV.lst st3.length).nxt i s = some (some d) ∧ gNameF 2 d env s = some (Rs.ok env1 s1) ∧ B2 env1 s1 = some (Rs.ok (Fl.nx env2) s2) ∧ I2 (i + 1) env2 s2 := by
    rintro i env s hi ⟨x, rfl, fr, gs⟩
    have hi' : i < ws16.length := hi
    have hw : ws16[i] ∈ ws16 := List.getElem_mem hi'
    obtain ⟨w, hw'⟩ : ∃ w, ws16[i] = w := ⟨_, rfl⟩
    rw [hw'] at hw
    have lw := (word_lit (n16 w hw).1).len
    have ht := frm_tab h0 fr (by simp)
    have ev2 : Ev s (E (some (D.str w)) y) (LAt 0 ["net 2", "peg " ++ a ++ " " ++ w ++ " 0"]) (lstF L2) :=
      Ev.lst (EvS.cons (Ev.lit _ (k := 20)) (EvS.cons (Ev.cat (Ev.cat (Ev.cat (Ev.cat (Ev.lit _ (k := 20)) (Ev.varS 0 rfl la)) (Ev.lit _ (k := 20))) (Ev.varS 2 rfl lw)) (Ev.lit _ (k := 20))) EvS.nil)) (fr.lt hr)
    obtain ⟨sa, ea, fa⟩ := chk c (d := D.int 2) ev2 ht (d16a ha hb hab hw) rfl s (Frm.refl _ _)
    have hta := frm_tab ht fa (by simp)
    have fra := fr.trans fa
    have ev3 : Ev sa (E (some (D.str w)) y) (LAt 0 ["net 2", "peg " ++ a ++ " 0 0", "ring " ++ b ++ " 7 7 0 " ++ w]) (lstF L3) :=
      Ev.lst (EvS.cons (Ev.lit _ (k := 20)) (EvS.cons (Ev.cat (Ev.cat (Ev.lit _ (k := 20)) (Ev.varS 0 rfl la)) (Ev.lit _ (k := 20))) (EvS.cons (Ev.cat (Ev.cat (Ev.cat (Ev.lit _ (k := 20)) (Ev.varS 1 rfl lb)) (Ev.lit _ (k := 20))) (Ev.varS 2 rfl lw)) EvS.nil))) (fra.lt hr)
    obtain ⟨sb, eb, fb⟩ := chk c (d := D.int 3) ev3 hta (d16b ha hb hab hw) rfl sa (Frm.refl _ _)
    refine ⟨D.str w, _, s, E (some (D.str w)) y, sb, ?_, rfl, ?_, some (D.str w), rfl, fra.trans fb, fb.get (fa.get gs)⟩
    · simp only [ItV.nxt, gs, List.getElem?_map, List.getElem?_eq_getElem hi', hw', Option.map_some]
    · have c1 := if_chk ea (retS (conF (.bl false)))
      have c2 := if_chk eb (retS (conF (.bl false)))
      have e1 : (E x y).set 2 (some (D.str w)) = E (some (D.str w)) y := rfl
      rw [e1]
      exact (seqS_nx c1).trans c2
  obtain ⟨env5, st5, run2, x2, rfl, f5, _⟩ := forL_inv 16 I2 s2 (fun env s hI => by
    obtain ⟨_, _, _, gs⟩ := hI
    simp only [ItV.nxt, gs]
    rfl) 16 FUEL 0 (E x1 y) st4 (by omega) (by unfold FUEL; omega) ⟨x1, rfl, f4, g4⟩
  have t3 : forS (iterF (binF addD (varF 3) (lstF (consA (conF (.str "1/02")) nilA)))) (gNameF 2) B2 (E x1 y) st2 = some (Rs.ok (Fl.nx (E x2 y)) st5) := by
    unfold forS
    rw [it2, bindR_ok]
    exact run2
  refine ⟨PF.trim st (D.bl true) st5, ?_, f5.trim⟩
  unfold m__law_are_numbers_right b__law_are_numbers_right runM
  have e0 : (([D.str a, D.str b] : List D).map some ++ List.replicate (4 - ([D.str a, D.str b] : List D).length) none : PF.Env) = E none none := rfl
  rw [e0]
  rw [seqS_nx t1, seqS_nx t2, seqS_nx t3]
  rfl
end Cr
end
section
namespace Cr
open PySem PF
theorem jp0 (a : Str) : ("peg " : Str) ++ a ++ " 0" = Str.join " " ["peg", a, "0"] := (by refine TL.ext_tl ?_; simp only [Str.join, TL.tl_append, tl_0, tl_1, tl_2, tl_3, tl_4, tl_5, tl_6, tl_7, tl_8, tl_9, tl_10, tl_11, tl_12, tl_13, tl_14, tl_15, tl_16, tl_17, tl_18, tl_19, tl_20, tl_21, tl_22, tl_23, tl_24, tl_25, tl_26, tl_27, tl_28, List.append_assoc, List.cons_append, List.nil_append])
theorem jp4 (a : Str) : ("peg " : Str) ++ a ++ " 4" = Str.join " " ["peg", a, "4"] := (by refine TL.ext_tl ?_; simp only [Str.join, TL.tl_append, tl_0, tl_1, tl_2, tl_3, tl_4, tl_5, tl_6, tl_7, tl_8, tl_9, tl_10, tl_11, tl_12, tl_13, tl_14, tl_15, tl_16, tl_17, tl_18, tl_19, tl_20, tl_21, tl_22, tl_23, tl_24, tl_25, tl_26, tl_27, tl_28, List.append_assoc, List.cons_append, List.nil_append])
theorem jp3 (a : Str) : ("peg " : Str) ++ a ++ " 3" = Str.join " " ["peg", a, "3"] := (by refine TL.ext_tl ?_; simp only [Str.join, TL.tl_append, tl_0, tl_1, tl_2, tl_3, tl_4, tl_5, tl_6, tl_7, tl_8, tl_9, tl_10, tl_11, tl_12, tl_13, tl_14, tl_15, tl_16, tl_17, tl_18, tl_19, tl_20, tl_21, tl_22, tl_23, tl_24, tl_25, tl_26, tl_27, tl_28, List.append_assoc, List.cons_append, List.nil_append])
theorem jr10 (a : Str) : ("ring " : Str) ++ a ++ " 1 0" = Str.join " " ["ring", a, "1", "0"] := (by refine TL.ext_tl ?_; simp only [Str.join, TL.tl_append, tl_0, tl_1, tl_2, tl_3, tl_4, tl_5, tl_6, tl_7, tl_8, tl_9, tl_10, tl_11, tl_12, tl_13, tl_14, tl_15, tl_16, tl_17, tl_18, tl_19, tl_20, tl_21, tl_22, tl_23, tl_24, tl_25, tl_26, tl_27, tl_28, List.append_assoc, List.cons_append, List.nil_append])
theorem jr30 (a : Str) : ("ring " : Str) ++ a ++ " 3 0" = Str.join " " ["ring", a, "3", "0"] := (by refine TL.ext_tl ?_; simp only [Str.join, TL.tl_append, tl_0, tl_1, tl_2, tl_3, tl_4, tl_5, tl_6, tl_7, tl_8, tl_9, tl_10, tl_11, tl_12, tl_13, tl_14, tl_15, tl_16, tl_17, tl_18, tl_19, tl_20, tl_21, tl_22, tl_23, tl_24, tl_25, tl_26, tl_27, tl_28, List.append_assoc, List.cons_append, List.nil_append])
theorem jr40 (a : Str) : ("ring " : Str) ++ a ++ " 4 0" = Str.join " " ["ring", a, "4", "0"] := (by refine TL.ext_tl ?_; simp only [Str.join, TL.tl_append, tl_0, tl_1, tl_2, tl_3, tl_4, tl_5, tl_6, tl_7, tl_8, tl_9, tl_10, tl_11, tl_12, tl_13, tl_14, tl_15, tl_16, tl_17, tl_18, tl_19, tl_20, tl_21, tl_22, tl_23, tl_24, tl_25, tl_26, tl_27, tl_28, List.append_assoc, List.cons_append, List.nil_append])
theorem jcs (a b : Str) : ("cords " : Str) ++ a ++ " " ++ b = Str.join " " ["cords", a, b] := (by refine TL.ext_tl ?_; simp only [Str.join, TL.tl_append, tl_0, tl_1, tl_2, tl_3, tl_4, tl_5, tl_6, tl_7, tl_8, tl_9, tl_10, tl_11, tl_12, tl_13, tl_14, tl_15, tl_16, tl_17, tl_18, tl_19, tl_20, tl_21, tl_22, tl_23, tl_24, tl_25, tl_26, tl_27, tl_28, List.append_assoc, List.cons_append, List.nil_append])
theorem jc (a b : Str) : ("cord " : Str) ++ a ++ " " ++ b = Str.join " " ["cord", a, b] := (by refine TL.ext_tl ?_; simp only [Str.join, TL.tl_append, tl_0, tl_1, tl_2, tl_3, tl_4, tl_5, tl_6, tl_7, tl_8, tl_9, tl_10, tl_11, tl_12, tl_13, tl_14, tl_15, tl_16, tl_17, tl_18, tl_19, tl_20, tl_21, tl_22, tl_23, tl_24, tl_25, tl_26, tl_27, tl_28, List.append_assoc, List.cons_append, List.nil_append])

theorem lit1 : WordOk "1" := word_lit (by decide +kernel)
theorem lit2 : WordOk "2" := word_lit (by decide +kernel)
theorem lit3 : WordOk "3" := word_lit (by decide +kernel)
theorem lit4 : WordOk "4" := word_lit (by decide +kernel)
theorem all1 {w : Str} (h : WordOk w) : ∀ x ∈ [w], WordOk x := fun x hx => by rw [List.mem_singleton.mp hx]; exact h
theorem all2 {v w : Str} (g : WordOk v) (h : WordOk w) : ∀ x ∈ [v, w], WordOk x := fun x hx => by
  rcases List.mem_cons.mp hx with rfl | hx
  · exact g
  · exact all1 h x hx
theorem all3 {u v w : Str} (f : WordOk u) (g : WordOk v) (h : WordOk w) : ∀ x ∈ [u, v, w], WordOk x := fun x hx => by
  rcases List.mem_cons.mp hx with rfl | hx
  · exact f
  · exact all2 g h x hx
theorem all4 {t u v w : Str} (e : WordOk t) (f : WordOk u) (g : WordOk v) (h : WordOk w) : ∀ x ∈ [t, u, v, w], WordOk x := fun x hx => by
  rcases List.mem_cons.mp hx with rfl | hx
  · exact e
  · exact all3 f g h x hx
theorem hd1 {N : Nat} {val : Fin N → Str} : Ln val "net 1" (.head 1) := ln_head j_net1 lit1 (by decide +kernel)
/-! ### lines without own names -/
section
variable {x : Str}
def val1 (x : Str) : Fin 1 → Str := fun _ => x
theorem inj1 (x : Str) : ∀ i j : Fin 1, val1 x i = val1 x j → i = j := fun i j _ => Subsingleton.elim i j
theorem ok1 (x : Str) : ∀ i : Fin 1, isName (val1 x i) = (fun _ => isName x) i := fun _ => rfl
theorem peg1 {x : Str} (hx : WordOk x) : Ln (val1 x) ("peg " ++ x ++ " 0") (.peg 0 (rfs ["0"])) := ln_peg (val := val1 x) (i := 0) (ws := ["0"]) (jp0 x) (by simp) hx (all1 word0) rfl
theorem dName (x : Str) (hx : wordB x = true) (q : Option Nat) (h : netA (fun _ : Fin 1 => isName x) [.head 1, .peg 0 (rfs ["0"])] = q) (hk : ∀ k, q = some k → k < 1000) : Due ["net 1", "peg " ++ x ++ " 0"] q :=
  due_of (inj1 x) (ok1 x) (.cons hd1 (.cons (peg1 (word_lit hx)) .nil)) h hk
end
theorem bad_net4 {N : Nat} {val : Fin N → Str} : Ln val "net 4" .bad := ln_bad (line_of (ws := ["net", "4"]) (by decide +kernel) (by simp) (by simp) (all2 (word_lit (by decide +kernel)) lit4)) (by decide +kernel) (by decide +kernel) (by decide +kernel) (by decide +kernel)
theorem bad_net1 {N : Nat} {val : Fin N → Str} : Ln val "net 1 " .bad := ln_bad (line_of (ws := ["net", "1", ""]) (by decide +kernel) (by simp) (by simp) (all3 (word_lit (by decide +kernel)) lit1 (word_lit (by decide +kernel)))) (by decide +kernel) (by decide +kernel) (by decide +kernel) (by decide +kernel)
theorem bad_Net1 {N : Nat} {val : Fin N → Str} : Ln val "Net 1" .bad := ln_bad (line_of (ws := ["Net", "1"]) (by decide +kernel) (by simp) (by simp) (all2 (word_lit (by decide +kernel)) lit1)) (by decide +kernel) (by decide +kernel) (by decide +kernel) (by decide +kernel)
theorem bad_net0 {N : Nat} {val : Fin N → Str} : Ln val "net 0" .bad := ln_bad (line_of (ws := ["net", "0"]) (by decide +kernel) (by simp) (by simp) (all2 (word_lit (by decide +kernel)) word0)) (by decide +kernel) (by decide +kernel) (by decide +kernel) (by decide +kernel)
theorem bad_empty {N : Nat} {val : Fin N → Str} : Ln val "" .bad := ln_bad (line_of (ws := [""]) (by decide +kernel) (by simp) (by simp) (all1 (word_lit (by decide +kernel)))) (by decide +kernel) (by decide +kernel) (by decide +kernel) (by decide +kernel)
theorem dd_net1 : Due ["net 1"] (some 2) := due_of (inj1 "a") (ok1 "a") (.cons hd1 .nil) (by decide +kernel) (by intro k e; cases e; decide)
theorem ln_pa0 : Ln (val1 "a") "peg a 0" (.peg 0 (rfs ["0"])) := ln_peg (val := val1 "a") (i := 0) (ws := ["0"]) (by decide +kernel) (by simp) (word_lit (by decide +kernel)) (all1 word0) rfl
theorem ln_pa : Ln (val1 "a") "peg a" (.peg 0 (rfs [])) := ln_peg (val := val1 "a") (i := 0) (ws := []) (by decide +kernel) (by simp) (word_lit (by decide +kernel)) (fun x h => absurd h List.not_mem_nil) rfl
theorem dd_net4 : Due ["net 4", "peg a 0"] (some 1) := due_of (inj1 "a") (ok1 "a") (.cons bad_net4 (.cons ln_pa0 .nil)) (by decide +kernel) (by intro k e; cases e; decide)
theorem dd_net1b : Due ["net 1 ", "peg a 0"] (some 1) := due_of (inj1 "a") (ok1 "a") (.cons bad_net1 (.cons ln_pa0 .nil)) (by decide +kernel) (by intro k e; cases e; decide)
theorem dd_Net1 : Due ["Net 1"] (some 1) := due_of (inj1 "a") (ok1 "a") (.cons bad_Net1 .nil) (by decide +kernel) (by intro k e; cases e; decide)
theorem dd_empty : Due [""] (some 1) := due_of (inj1 "a") (ok1 "a") (.cons bad_empty .nil) (by decide +kernel) (by intro k e; cases e; decide)
theorem dd_net0 : Due ["net 0", "peg a"] (some 1) := due_of (inj1 "a") (ok1 "a") (.cons bad_net0 (.cons ln_pa .nil)) (by decide +kernel) (by intro k e; cases e; decide)
/-! ### lines with three names -/
/-- three names, unlike one another and the others that the lines have -/
structure Abz (a b z : Str) : Prop where
  na : isName a = true
  nb : isName b = true
  nz : isName z = true
  ab : a ≠ b
  az : a ≠ z
  bz : b ≠ z
  o : ∀ x ∈ [a, b, z], x ≠ "d" ∧ x ≠ "qq" ∧ x ≠ "zz" ∧ x ≠ ""
def v7 (a b z : Str) : List Str := [a, b, z, "d", "qq", "zz", ""]
def val7 (a b z : Str) : Fin 7 → Str := fun i => (v7 a b z)[i.val]'(i.isLt)
def ok7 : Fin 7 → Bool := fun i => decide (i ≠ 6)
section
variable {a b z : Str}
theorem Abz.inj (h : Abz a b z) : ∀ i j : Fin 7, val7 a b z i = val7 a b z j → i = j := fun i j e => by
  have nd : (v7 a b z).Nodup := by
    obtain ⟨ha1, ha2, ha3, ha4⟩ := h.o a (by simp)
    obtain ⟨hb1, hb2, hb3, hb4⟩ := h.o b (by simp)
    obtain ⟨hz1, hz2, hz3, hz4⟩ := h.o z (by simp)
    have l1 : ("d" : Str) ≠ "qq" := by decide +kernel
    have l2 : ("d" : Str) ≠ "zz" := by decide +kernel
    have l3 : ("d" : Str) ≠ "" := by decide +kernel
    have l4 : ("qq" : Str) ≠ "zz" := by decide +kernel
    have l5 : ("qq" : Str) ≠ "" := by decide +kernel
    have l6 : ("zz" : Str) ≠ "" := by decide +kernel
    simp only [v7, List.nodup_cons, List.mem_cons, List.not_mem_nil, or_false, not_or, not_false_eq_true, List.nodup_nil, and_true]
    exact ⟨⟨h.ab, h.az, ha1, ha2, ha3, ha4⟩, ⟨h.bz, hb1, hb2, hb3, hb4⟩, ⟨hz1, hz2, hz3, hz4⟩, ⟨l1, l2, l3⟩, ⟨l4, l5⟩, l6⟩
  exact Fin.ext ((List.getElem_inj nd).mp e)
theorem Abz.ok (h : Abz a b z) : ∀ i : Fin 7, isName (val7 a b z i) = ok7 i := fun i => match i with
  | 0 => h.na
  | 1 => h.nb
  | 2 => h.nz
  | 3 => (by decide +kernel : isName "d" = true)
  | 4 => (by decide +kernel : isName "qq" = true)
  | 5 => (by decide +kernel : isName "zz" = true)
  | 6 => (by decide +kernel : isName "" = false)
theorem Abz.w (h : Abz a b z) : ∀ i : Fin 7, WordOk (val7 a b z i) := fun i => match i with
  | 0 => word_name h.na
  | 1 => word_name h.nb
  | 2 => word_name h.nz
  | 3 => (word_lit (by decide +kernel) : WordOk "d")
  | 4 => (word_lit (by decide +kernel) : WordOk "qq")
  | 5 => (word_lit (by decide +kernel) : WordOk "zz")
  | 6 => (word_lit (by decide +kernel) : WordOk "")
def H4 (a b z : Str) : List Str := ["net 1", "peg " ++ a ++ " 0", "peg " ++ b ++ " 4", "ring " ++ z ++ " 1 0"]
def A4 : List (La 7) := [.head 1, .peg 0 (rfs ["0"]), .peg 1 (rfs ["4"]), .ring 2 (rfs ["1", "0"])]
theorem Abz.h3 (h : Abz a b z) : Lns (val7 a b z) ["net 1", "peg " ++ a ++ " 0", "peg " ++ b ++ " 4"] [.head 1, .peg 0 (rfs ["0"]), .peg 1 (rfs ["4"])] :=
  .cons hd1 (.cons (ln_peg (i := 0) (ws := ["0"]) (jp0 a) (by simp) (h.w 0) (all1 word0) rfl) (.cons (ln_peg (i := 1) (ws := ["4"]) (jp4 b) (by simp) (h.w 1) (all1 lit4) rfl) .nil))
theorem Abz.r10 (h : Abz a b z) : Ln (val7 a b z) ("ring " ++ z ++ " 1 0") (.ring 2 (rfs ["1", "0"])) := ln_ring (i := 2) (ws := ["1", "0"]) (jr10 z) (by simp) (h.w 2) (all2 lit1 word0) rfl
theorem Abz.h4 (h : Abz a b z) : Lns (val7 a b z) (H4 a b z) A4 := Lns.append h.h3 (.cons h.r10 .nil)
theorem Abz.cord (h : Abz a b z) (i j : Fin 7) : Ln (val7 a b z) (Str.join " " [("cord" : Str), val7 a b z i, val7 a b z j]) (.cord i j) := ln_cord rfl (h.w i) (h.w j)
theorem Abz.caz (h : Abz a b z) : Ln (val7 a b z) ("cord " ++ a ++ " " ++ z) (.cord 0 2) := ln_cord (i := 0) (j := 2) (jc a z) (h.w 0) (h.w 2)
theorem Abz.cza (h : Abz a b z) : Ln (val7 a b z) ("cord " ++ z ++ " " ++ a) (.cord 2 0) := ln_cord (i := 2) (j := 0) (jc z a) (h.w 2) (h.w 0)
theorem Abz.czb (h : Abz a b z) : Ln (val7 a b z) ("cord " ++ z ++ " " ++ b) (.cord 2 1) := ln_cord (i := 2) (j := 1) (jc z b) (h.w 2) (h.w 1)
theorem Abz.bad (h : Abz a b z) {l : Str} {ws : List Str} (e : l = Str.join " " (("cord" : Str) :: ws)) (hw : ∀ w ∈ ws, WordOk w) (hl : ws.length ≤ 8) (h2 : ws.length ≠ 2) : Ln (val7 a b z) l .bad :=
  ln_bad (line_of e (by simp) (by simpa using hl) (fun x hx => by
    rcases List.mem_cons.mp hx with rfl | hx
    · exact word_lit (by decide +kernel)
    · exact hw x hx)) (by
    unfold takeHead
    have : ((("cord" : Str) :: ws).getD 0 "" : Str) = "cord" := rfl
    rw [this, if_neg (show ("cord" : Str) ≠ "net" by decide +kernel)]
    split <;> rfl) (show ("cord" : Str) ≠ "peg" by decide +kernel) (show ("cord" : Str) ≠ "ring" by decide +kernel) (fun _ => by simp; omega)
theorem Abz.d {ls : List Str} {as : List (La 7)} {q : Option Nat} (h : Abz a b z) (hl : Lns (val7 a b z) ls as) (hq : netA ok7 as = q) (hk : ∀ k, q = some k → k < 1000) (hne : as.length ≠ 0 := by simp [A4]) (few : as.length < 1000 := by simp [A4]) : Due ls q := due_of h.inj h.ok hl hq hk hne few
theorem k5 {m : Nat} (h : m < 1000 := by decide) : ∀ k, some m = some k → k < 1000 := fun k e => by cases e; exact h
theorem k0 : ∀ k, (none : Option Nat) = some k → k < 1000 := fun k e => by cases e
theorem Abz.i1 (h : Abz a b z) : Due (H4 a b z) none := h.d h.h4 (by decide +kernel) k0
theorem Abz.i8 (h : Abz a b z) : Due ["net 1", "ring " ++ z ++ " 1 0"] (some 2) := h.d (.cons hd1 (.cons h.r10 .nil)) (by decide +kernel) k5
theorem Abz.i9 (h : Abz a b z) : Due (H4 a b z ++ (["peg d 2"] : List Str)) (some 5) := h.d (h.h4.append (.cons (ln_peg (i := 3) (ws := ["2"]) (show ("peg d 2" : Str) = Str.join " " ["peg", "d", "2"] by decide +kernel) (by simp) (h.w 3) (all1 lit2) rfl) .nil)) (by decide +kernel) k5
theorem Abz.i10 (h : Abz a b z) : Due ((H4 a b z).take 2 ++ ["peg " ++ a ++ " 3"]) (some 3) := h.d (.cons hd1 (.cons (ln_peg (i := 0) (ws := ["0"]) (jp0 a) (by simp) (h.w 0) (all1 word0) rfl) (.cons (ln_peg (i := 0) (ws := ["3"]) (jp3 a) (by simp) (h.w 0) (all1 lit3) rfl) .nil))) (by decide +kernel) k5
theorem Abz.i11 (h : Abz a b z) : Due (H4 a b z ++ ["ring " ++ b ++ " 3 0"]) (some 5) := h.d (h.h4.append (.cons (ln_ring (i := 1) (ws := ["3", "0"]) (jr30 b) (by simp) (h.w 1) (all2 lit3 word0) rfl) .nil)) (by decide +kernel) k5
theorem Abz.i12 (h : Abz a b z) : Due (H4 a b z ++ ([""] : List Str)) (some 5) := h.d (h.h4.append (.cons bad_empty .nil)) (by decide +kernel) k5
theorem Abz.i13 (h : Abz a b z) : Due (H4 a b z ++ ["cords " ++ a ++ " " ++ z]) (some 5) := h.d (h.h4.append (.cons (ln_bad (line_of (jcs a z) (by simp) (by simp) (all3 (word_lit (by decide +kernel)) (h.w 0) (h.w 2))) (by
    unfold takeHead
    split
    · rename_i q; simp at q
    · rfl) (show ("cords" : Str) ≠ "peg" by decide +kernel) (show ("cords" : Str) ≠ "ring" by decide +kernel) (fun q => absurd q (show ("cords" : Str) ≠ "cord" by decide +kernel))) .nil)) (by decide +kernel) k5
def ends7 (a b z : Str) : List (List Str) := [[a, b], [z, z], [a], [a, z, b], [a, "qq"], [z, ""], []]
theorem Abz.i14 (h : Abz a b z) : ∀ e ∈ ends7 a b z, Due (H4 a b z ++ [Str.join " " ((["cord"] : List Str) ++ e)]) (some 5) := fun e he => by
  have e1 : e = [a, b] ∨ e = [z, z] ∨ e = [a] ∨ e = [a, z, b] ∨ e = [a, "qq"] ∨ e = [z, ""] ∨ e = [] := by simpa [ends7] using he
  rcases e1 with rfl | rfl | rfl | rfl | rfl | rfl | rfl
  · exact h.d (h.h4.append (.cons (h.cord 0 1) .nil)) (by decide +kernel) k5
  · exact h.d (h.h4.append (.cons (h.cord 2 2) .nil)) (by decide +kernel) k5
  · exact h.d (h.h4.append (.cons (h.bad (ws := [a]) rfl (all1 (h.w 0)) (by simp) (by simp)) .nil)) (by decide +kernel) k5
  · exact h.d (h.h4.append (.cons (h.bad (ws := [a, z, b]) rfl (all3 (h.w 0) (h.w 2) (h.w 1)) (by simp) (by simp)) .nil)) (by decide +kernel) k5
  · exact h.d (h.h4.append (.cons (h.cord 0 4) .nil)) (by decide +kernel) k5
  · exact h.d (h.h4.append (.cons (h.cord 2 6) .nil)) (by decide +kernel) k5
  · exact h.d (h.h4.append (.cons (h.bad (ws := []) rfl (fun x hx => absurd hx List.not_mem_nil) (by simp) (by simp)) .nil)) (by decide +kernel) k5
def T5 (a b z : Str) : List Str := H4 a b z ++ ["cord " ++ a ++ " " ++ z]
theorem Abz.t5 (h : Abz a b z) : Lns (val7 a b z) (T5 a b z) (A4 ++ [.cord 0 2]) := h.h4.append (.cons h.caz .nil)
theorem Abz.i21 (h : Abz a b z) : Due (T5 a b z) none := h.d h.t5 (by decide +kernel) k0
theorem Abz.i22 (h : Abz a b z) : Due (T5 a b z ++ ["cord " ++ a ++ " " ++ z]) (some 6) := h.d (h.t5.append (.cons h.caz .nil)) (by decide +kernel) k5
theorem Abz.i23 (h : Abz a b z) : Due (T5 a b z ++ ["cord " ++ z ++ " " ++ a]) (some 6) := h.d (h.t5.append (.cons h.cza .nil)) (by decide +kernel) k5
theorem Abz.i24 (h : Abz a b z) : Due (T5 a b z ++ (["ring zz 1 0"] : List Str)) (some 6) := h.d (h.t5.append (.cons (ln_ring (i := 5) (ws := ["1", "0"]) (show ("ring zz 1 0" : Str) = Str.join " " ["ring", "zz", "1", "0"] by decide +kernel) (by simp) (h.w 5) (all2 lit1 word0) rfl) .nil)) (by decide +kernel) k5
theorem Abz.i25 (h : Abz a b z) : Due (T5 a b z ++ (["peg zz 1"] : List Str)) (some 6) := h.d (h.t5.append (.cons (ln_peg (i := 5) (ws := ["1"]) (show ("peg zz 1" : Str) = Str.join " " ["peg", "zz", "1"] by decide +kernel) (by simp) (h.w 5) (all1 lit1) rfl) .nil)) (by decide +kernel) k5
theorem Abz.i26 (h : Abz a b z) : Due (T5 a b z ++ ["cord " ++ z ++ " " ++ b]) none := h.d (h.t5.append (.cons h.czb .nil)) (by decide +kernel) k0
def N4 (a b z : Str) : List Str := (H4 a b z).take 3 ++ ["ring " ++ z ++ " 4 0"]
theorem Abz.n4 (h : Abz a b z) : Lns (val7 a b z) (N4 a b z) [.head 1, .peg 0 (rfs ["0"]), .peg 1 (rfs ["4"]), .ring 2 (rfs ["4", "0"])] := Lns.append h.h3 (.cons (ln_ring (i := 2) (ws := ["4", "0"]) (jr40 z) (by simp) (h.w 2) (all2 lit4 word0) rfl) .nil)
theorem Abz.i27 (h : Abz a b z) : Due (N4 a b z ++ ["cord " ++ z ++ " " ++ b]) (some 5) := h.d (h.n4.append (.cons h.czb .nil)) (by decide +kernel) k5
theorem Abz.i28 (h : Abz a b z) : Due (N4 a b z ++ ["cord " ++ z ++ " " ++ a]) none := h.d (h.n4.append (.cons h.cza .nil)) (by decide +kernel) k0
def bad5 : List Str := ["abcdefg", "Abc", "a1", "a_", ""]
def good4 : List Str := ["abcdef", "net", "cord", "x"]
theorem i29 : ∀ x ∈ bad5, Due ["net 1", "peg " ++ x ++ " 0"] (some 2) := fun x hx => by
  have : wordB x = true ∧ netA (fun _ : Fin 1 => isName x) [.head 1, .peg 0 (rfs ["0"])] = some 2 := (by decide +kernel : ∀ x ∈ bad5, wordB x = true ∧ netA (fun _ : Fin 1 => isName x) [.head 1, .peg 0 (rfs ["0"])] = some 2) x hx
  exact dName x this.1 _ this.2 k5
theorem i30 : ∀ x ∈ good4, Due ["net 1", "peg " ++ x ++ " 0"] none := fun x hx => by
  have : wordB x = true ∧ netA (fun _ : Fin 1 => isName x) [.head 1, .peg 0 (rfs ["0"])] = none := (by decide +kernel : ∀ x ∈ good4, wordB x = true ∧ netA (fun _ : Fin 1 => isName x) [.head 1, .peg 0 (rfs ["0"])] = none) x hx
  exact dName x this.1 _ this.2 k0
end
end Cr
end
section
namespace Cr
open PySem PF
inductive Lst2 (r : Nat) (st : Store) : List D → List (List Str) → Prop where
  | nil : Lst2 r st [] []
  | cons {d : D} {l : List Str} {ds : List D} {ls : List (List Str)} : LAt r l d st → Lst2 r st ds ls → Lst2 r st (d :: ds) (l :: ls)
theorem Lst2.mono {r : Nat} {ds : List D} {ls : List (List Str)} {st st' : Store} (h : Lst2 r st ds ls) (f : Frm st st' [r]) : Lst2 r st' ds ls := by
  induction h with
  | nil => exact .nil
  | cons a _ ih => exact .cons (a.mono f) ih
theorem Lst2.get {r : Nat} {ds : List D} {ls : List (List Str)} {st : Store} (h : Lst2 r st ds ls) : ∀ {i : Nat} {l : List Str}, ls[i]? = some l → ∃ d, ds[i]? = some d ∧ LAt r l d st := by
  induction h with
  | nil => intro i it e; simp at e
  | cons a _ ih =>
    intro i it e
    cases i with
    | zero => simp at e; subst e; exact ⟨_, rfl, a⟩
    | succ i => exact ih (by simpa using e)
theorem Lst2.length {r : Nat} {ds : List D} {ls : List (List Str)} {st : Store} (h : Lst2 r st ds ls) : ds.length = ls.length := by
  induction h with
  | nil => rfl
  | cons _ _ ih => simp [ih]
def EvLs (st0 : Store) (env : PF.Env) (r : Nat) (ls : List (List Str)) (g : AF) : Prop := ∀ st1, Frm st0 st1 [] → ∃ ds st', g env st1 = some (Rs.ok ds st') ∧ Frm st1 st' [] ∧ Lst2 r st' ds ls
section
variable {st0 : Store} {env : PF.Env} {r : Nat}
theorem EvLs.nil : EvLs st0 env r [] nilA := fun st1 _ => ⟨[], st1, rfl, Frm.refl _ _, .nil⟩
theorem EvLs.cons {f : EF} {g : AF} {l : List Str} {ls : List (List Str)} (hf : Ev st0 env (LAt r l) f) (hg : EvLs st0 env r ls g) : EvLs st0 env r (l :: ls) (consA f g) := fun st1 f1 => by
  obtain ⟨d, st2, e1, f2, t⟩ := hf st1 f1
  obtain ⟨ds, st3, e2, f3, ts⟩ := hg st2 (f1.trans f2)
  refine ⟨d :: ds, st3, ?_, f2.trans f3, .cons (t.mono f3.e1) ts⟩
  simp only [consA, e1, bindR_ok, e2]
theorem Its.shift {r0 : Nat} {ds : List D} {its : List Item} {st : Store} (h : Its r0 st ds its) (c : Cell) : Its st.length (st ++ [c]) ds its := by
  induction h with
  | nil => exact .nil
  | cons a _ ih =>
    obtain ⟨k, h1, h2, h3⟩ := a
    exact .cons ⟨k, Nat.ne_of_lt (lt_of h3), h2, get_app h3 _⟩ ih
theorem LAt.shift {r0 : Nat} {d : D} {ls : List Str} {st : Store} (h : LAt r0 ls d st) (c : Cell) : LAt st.length ls d (st ++ [c]) := by
  obtain ⟨k, h1, h2, h3⟩ := h
  exact ⟨k, Nat.ne_of_lt (lt_of h3), h2, get_app h3 _⟩
/-- pairs put one by one behind the list at r, in a loop over a tuple -/
theorem pairs_loop {it : IF} {f : EF} {i4 j : Nat} {ts : List D} {st1 : Store} {its : List Item} {ds : List D} {n : Nat} (jt : Nat → Item) (Env : Option D → PF.Env) (x0 : Option D) (hit : it (Env x0) st0 = some (Rs.ok (ItV.tup ts) st1)) (hn : ts.length = n) (hn2 : n < 1000)
    (hset : ∀ x d, (Env x).set j (some d) = Env (some d)) (h4 : ∀ x, (Env x)[i4]? = some (some (D.cell r))) (hd : st1[r]? = some (Cell.lst ds)) (hits : Its r st1 ds its) (hl : its.length + n ≤ 1000)
    (hev : ∀ i d s, ts[i]? = some d → Frm st1 s [r] → Ev s (Env (some d)) (TAt r (jt i)) f) :
    ∃ x es st', forS it (gNameF j) (exprS (mthF kLst appendD (varF i4) (consA f nilA))) (Env x0) st0 = some (Rs.ok (Fl.nx (Env x)) st') ∧ Frm st1 st' [r] ∧ st'[r]? = some (Cell.lst es) ∧ Its r st' es (its ++ (List.range n).map jt) := by
  let B : SF := exprS (mthF kLst appendD (varF i4) (consA f nilA))
  let I : Nat → PF.Env → Store → Prop := fun i env s => ∃ x es, env = Env x ∧ Frm st1 s [r] ∧ s[r]? = some (Cell.lst es) ∧ Its r s es (its ++ (List.range i).map jt)
  have step : ∀ i env s, i < n → I i env s → ∃ d env1 s1 env2 s2, (ItV.tup ts).nxt i s = some (some d) ∧ gNameF j d env s = some (Rs.ok env1 s1) ∧ B env1 s1 = some (Rs.ok (Fl.nx env2) s2) ∧ I (i + 1) env2 s2 := by
    rintro i env s hi ⟨x, es, rfl, fr, he, hI⟩
    have hi' : i < ts.length := by omega
    have ed : ts[i]? = some ts[i] := List.getElem?_eq_getElem hi'
    have hlen : (its ++ (List.range i).map jt).length ≤ 1000 := by simp; omega
    obtain ⟨es', s', e1, f1, g1, i1⟩ := Ev.append (i := i4) (hev i ts[i] s ed fr) (h4 _) he hI hlen
    refine ⟨ts[i], Env (some ts[i]), s, _, s', by simp only [ItV.nxt, ed], ?_, e1, some ts[i], es', rfl, fr.trans f1, g1, ?_⟩
    · simp only [gNameF, hset]
    · rw [List.range_succ, List.map_append, ← List.append_assoc]
      exact i1
  obtain ⟨env', st', run, x, es, rfl, fr, he, hI⟩ := forL_inv n I step (fun env s _ => by
    simp only [ItV.nxt]
    rw [List.getElem?_eq_none (by omega)]) n FUEL 0 (Env x0) st1 (by omega) (by unfold FUEL; omega) ⟨x0, ds, rfl, Frm.refl _ _, hd, by simpa using hits⟩
  refine ⟨x, es, st', ?_, fr, he, hI⟩
  unfold forS
  rw [hit, bindR_ok]
  exact run
theorem all_true : ∀ n : Nat, bools (List.replicate n (D.bl true)) = some (List.replicate n true)
  | 0 => rfl
  | n + 1 => by simp only [List.replicate_succ, bools, all_true n]
/-- all pairs are right -/
theorem all_due (c : Cs) {i j k : Nat} {es : List D} {its : List Item} (hk : env[k]? = some (some (D.cell r))) (h0 : tabAt c st0) (hr : st0[r]? = some (Cell.lst es)) (hits : Its r st0 es its) (hd : ∀ it ∈ its, Due it.1 it.2) (hl : its.length ≤ 1000) (hi : i < env.length) (hj : j < env.length) (hij : i ≠ j) :
    ∃ st', callF (allD false) (consA (lcF (iterF (varF k)) (gTupF 2 (gConsF (gNameF i) (gConsF (gNameF j) gNilF))) yesT (dcallF 2 (m__law_is_due c) (consA (varF i) (consA (varF j) nilA))) [i, j]) nilA) env st0 = some (Rs.ok (D.bl true) st') ∧ Frm st0 st' [] := by
  have hlen := hits.length
  let st1 := st0 ++ [Cell.lst []]
  let q := st0.length
  let G : GF := gTupF 2 (gConsF (gNameF i) (gConsF (gNameF j) gNilF))
  let F : EF := dcallF 2 (m__law_is_due c) (consA (varF i) (consA (varF j) nilA))
  let I : Nat → List D → Store → Prop := fun n acc s => acc = List.replicate n (D.bl true) ∧ s[q]? = some (Cell.lst acc) ∧ Frm st0 s []
  have hw : (wipeE env [i, j]).length = env.length := wipeE_length _ _
  have step : ∀ n acc s, n < its.length → I n acc s → ∃ d env1 s1 y s2, (ItV.lst r).nxt n s = some (some d) ∧ G d (wipeE env [i, j]) s = some (Rs.ok env1 s1) ∧ F env1 s1 = some (Rs.ok y s2) ∧ s2[q]? = some (Cell.lst acc) ∧ acc.length < LIM ∧ I (n + 1) (acc ++ [y]) (s2.set q (Cell.lst (acc ++ [y]))) := by
    rintro n acc s hn ⟨rfl, hq, fr⟩
    have hs := fr.get hr
    obtain ⟨it, eit⟩ : ∃ it, its[n]? = some it := ⟨its[n], List.getElem?_eq_getElem hn⟩
    obtain ⟨d, ed, a, ha, rfl, ga⟩ := hits.get eit
    have gs := fr.get ga
    have due := hd it (List.mem_of_getElem? eit)
    obtain ⟨s2, e2, f2⟩ := due_law c s a it.1 it.2 (frm_tab h0 fr (by simp)) gs due
    let env1 := ((wipeE env [i, j]).set i (some (D.cell a))).set j (some (numO it.2))
    have v1 : varF i env1 s = some (Rs.ok (D.cell a) s) := by
      have : env1[i]? = some (some (D.cell a)) := by
        show (((wipeE env [i, j]).set i (some (D.cell a))).set j (some (numO it.2)))[i]? = _
        rw [List.getElem?_set_ne (by omega), List.getElem?_set_self (by rw [hw]; exact hi)]
      simp only [varF, this]
    have v2 : varF j env1 s = some (Rs.ok (numO it.2) s) := by
      have : env1[j]? = some (some (numO it.2)) := by
        show (((wipeE env [i, j]).set i (some (D.cell a))).set j (some (numO it.2)))[j]? = _
        rw [List.getElem?_set_self (by rw [List.length_set, hw]; exact hj)]
      simp only [varF, this]
    have hq2 := f2.get hq
    refine ⟨D.tup [D.cell a, numO it.2], env1, s, D.bl true, s2, by simp only [ItV.nxt, hs, ed], rfl, ?_, hq2, by rw [List.length_replicate]; unfold LIM; omega, ?_, get_set_eq (lt_of hq2), ?_⟩
    · show dcallF 2 (m__law_is_due c) (consA (varF i) (consA (varF j) nilA)) env1 s = _
      simp only [dcallF, consA, nilA, v1, v2, bindR_ok, List.length_cons, List.length_nil, Nat.reduceAdd, if_true, e2]
    · rw [List.replicate_succ']
    · have f3 : Frm s2 (s2.set q (Cell.lst (List.replicate n (D.bl true) ++ [D.bl true]))) [q] := Frm.set (by simp) _
      exact (((fr.trans f2).more (S' := [q]) (by simp)).trans f3).less (Nat.le_refl _)
  obtain ⟨acc, st', run, rfl, hq, fr⟩ := lcL_inv its.length q I step (fun acc s hI => by
    simp only [ItV.nxt, hI.2.2.get hr]
    rw [List.getElem?_eq_none (by omega)]) its.length FUEL 0 [] st1 (by omega) (by unfold FUEL; omega) ⟨rfl, get_end _ _, Frm.app _ _ _⟩
  have e1 : lcF (iterF (varF k)) G yesT F [i, j] env st0 = some (Rs.ok (D.cell q) st') := by
    unfold lcF
    have it : iterF (varF k) env st0 = some (Rs.ok (ItV.lst r) st0) := iter_cell hk hr
    rw [it, bindR_ok]
    exact run
  refine ⟨st', ?_, fr⟩
  simp only [G, F] at e1
  simp only [callF, consA, e1, bindR_ok, nilA, allD, hq, all_true]
  simp
end
end Cr
end
section
namespace Cr
open PySem PF
theorem lines_law (c : Cs) (st : Store) (a b z : Str) (h0 : tabAt c st) (h : Abz a b z) : ∃ st', m__law_are_lines_right c [D.str a, D.str b, D.str z] st = some (Rs.ok (D.bl true) st') ∧ Frm st st' [] := by
  let E : Option D → Option D → Option D → Option D → Option D → Option D → PF.Env := fun s3 s4 s5 s6 s7 s8 => [some (D.str a), some (D.str b), some (D.str z), s3, s4, s5, s6, s7, s8, none, none]
  have la := name_len h.na
  have lb := name_len h.nb
  have lz := name_len h.nz
  have hr0 : 0 < st.length := lt_of h0
  -- the head
  have evA : Ev st (E none none none none none none) (LAt 0 (H4 a b z)) (lstF (consA (conF (.str "net 1")) (consA (binF addD (binF addD (conF (.str "peg ")) (varF 0)) (conF (.str " 0"))) (consA (binF addD (binF addD (conF (.str "peg ")) (varF 1)) (conF (.str " 4"))) (consA (binF addD (binF addD (conF (.str "ring ")) (varF 2)) (conF (.str " 1 0"))) nilA))))) := by
    have hrl := hr0
    show Ev st _ (LAt 0 (["net 1", "peg " ++ a ++ " 0", "peg " ++ b ++ " 4", "ring " ++ z ++ " 1 0"] : List Str)) _
    exact (Ev.lst (EvS.cons (Ev.lit _ (k := 20)) (EvS.cons (Ev.cat (Ev.cat (Ev.lit _ (k := 20)) (Ev.varS 0 rfl la)) (Ev.lit _ (k := 20))) (EvS.cons (Ev.cat (Ev.cat (Ev.lit _ (k := 20)) (Ev.varS 1 rfl lb)) (Ev.lit _ (k := 20))) (EvS.cons (Ev.cat (Ev.cat (Ev.lit _ (k := 20)) (Ev.varS 2 rfl lz)) (Ev.lit _ (k := 20))) EvS.nil)))) hrl)
  obtain ⟨d3, st1, eA, fA, lA⟩ := Ev.set evA 3
  have eA : _ = some (Rs.ok (Fl.nx (E (some d3) none none none none none)) st1) := eA
  -- the rows
  have evB : EvT st1 (E (some d3) none none none none none) 0 [(H4 a b z, none), (["net 1"], some 2), (["net 4", "peg a 0"], some 1), (["net 1 ", "peg a 0"], some 1)] (consA (tupF (consA (varF 3) (consA (conF .non) nilA))) (consA (tupF (consA (lstF (consA (conF (.str "net 1")) nilA)) (consA (conF (.int 2)) nilA))) (consA (tupF (consA (lstF (consA (conF (.str "net 4")) (consA (conF (.str "peg a 0")) nilA))) (consA (conF (.int 1)) nilA))) (consA (tupF (consA (lstF (consA (conF (.str "net 1 ")) (consA (conF (.str "peg a 0")) nilA))) (consA (conF (.int 1)) nilA))) nilA)))) := by
    have hrl := fA.lt hr0
    have lH := lA
    exact (EvT.cons (Ev.pair (q := none) (d := D.non) (Ev.varL 3 rfl lH)) (EvT.cons (Ev.pair (q := some 2) (d := D.int 2) (Ev.lst (EvS.cons (Ev.lit _ (k := 20)) EvS.nil) hrl)) (EvT.cons (Ev.pair (q := some 1) (d := D.int 1) (Ev.lst (EvS.cons (Ev.lit _ (k := 20)) (EvS.cons (Ev.lit _ (k := 20)) EvS.nil)) hrl)) (EvT.cons (Ev.pair (q := some 1) (d := D.int 1) (Ev.lst (EvS.cons (Ev.lit _ (k := 20)) (EvS.cons (Ev.lit _ (k := 20)) EvS.nil)) hrl)) EvT.nil))))
  obtain ⟨ds2, st2, eB, fB, iB⟩ := evB st1 (Frm.refl _ _)
  obtain ⟨r, hr⟩ : ∃ r, st2.length = r := ⟨_, rfl⟩
  let s0 := st2 ++ [Cell.lst ds2]
  have lds := iB.length
  have eB2 : asgS (lstF (consA (tupF (consA (varF 3) (consA (conF .non) nilA))) (consA (tupF (consA (lstF (consA (conF (.str "net 1")) nilA)) (consA (conF (.int 2)) nilA))) (consA (tupF (consA (lstF (consA (conF (.str "net 4")) (consA (conF (.str "peg a 0")) nilA))) (consA (conF (.int 1)) nilA))) (consA (tupF (consA (lstF (consA (conF (.str "net 1 ")) (consA (conF (.str "peg a 0")) nilA))) (consA (conF (.int 1)) nilA))) nilA))))) (gNameF 4) (E (some d3) none none none none none) st1 = some (Rs.ok (Fl.nx (E (some d3) (some (D.cell r)) none none none none)) s0) := by
    simp only [asgS, lstF, eB, bindR_ok]
    rw [if_pos (by rw [lds]; simp [LIM])]
    rw [← hr]
    rfl
  have f0 : Frm st s0 [] := (fA.trans fB).trans (Frm.app _ _ _)
  have i0 : Its r s0 ds2 _ := hr ▸ iB.shift (Cell.lst ds2)
  have g0 : s0[r]? = some (Cell.lst ds2) := hr ▸ get_end _ _
  have l0 : LAt r (H4 a b z) d3 s0 := hr ▸ LAt.shift (lA.mono fB.e1) (Cell.lst ds2)
  have rge : st.length ≤ r := by rw [← hr]; exact (fA.trans fB).le
  have hb : ∀ {s : Store}, Frm s0 s [r] → r < s.length := fun f => f.lt (lt_of g0)
  -- rows more 1
  have ev1 : EvT s0 (E (some d3) (some (D.cell r)) none none none none) r [(["Net 1"], some 1), ([""], some 1), (["net 0", "peg a"], some 1)] ((consA (tupF (consA (lstF (consA (conF (.str "Net 1")) nilA)) (consA (conF (.int 1)) nilA))) (consA (tupF (consA (lstF (consA (conF (.str "")) nilA)) (consA (conF (.int 1)) nilA))) (consA (tupF (consA (lstF (consA (conF (.str "net 0")) (consA (conF (.str "peg a")) nilA))) (consA (conF (.int 1)) nilA))) nilA)))) := by
    have hrl : r < s0.length := lt_of g0
    have lH := l0
    exact (EvT.cons (Ev.pair (q := some 1) (d := D.int 1) (Ev.lst (EvS.cons (Ev.lit _ (k := 20)) EvS.nil) hrl)) (EvT.cons (Ev.pair (q := some 1) (d := D.int 1) (Ev.lst (EvS.cons (Ev.lit _ (k := 20)) EvS.nil) hrl)) (EvT.cons (Ev.pair (q := some 1) (d := D.int 1) (Ev.lst (EvS.cons (Ev.lit _ (k := 20)) (EvS.cons (Ev.lit _ (k := 20)) EvS.nil)) hrl)) EvT.nil)))
  obtain ⟨es1, s1, e1, f1, g1, i1⟩ := EvT.extend (i := 4) ev1 rfl g0 i0 (by simp)
  have l1 := l0.mono f1
  -- rows more 2
  have ev2 : EvT s1 (E (some d3) (some (D.cell r)) none none none none) r [(["net 1", "ring " ++ z ++ " 1 0"], some 2), (H4 a b z ++ (["peg d 2"] : List Str), some 5), ((H4 a b z).take 2 ++ ["peg " ++ a ++ " 3"], some 3)] ((consA (tupF (consA (lstF (consA (conF (.str "net 1")) (consA (binF addD (binF addD (conF (.str "ring ")) (varF 2)) (conF (.str " 1 0"))) nilA))) (consA (conF (.int 2)) nilA))) (consA (tupF (consA (binF addD (varF 3) (lstF (consA (conF (.str "peg d 2")) nilA))) (consA (conF (.int 5)) nilA))) (consA (tupF (consA (binF addD (sliceF (varF 3) noPart (partF (conF (.int 2)))) (lstF (consA (binF addD (binF addD (conF (.str "peg ")) (varF 0)) (conF (.str " 3"))) nilA))) (consA (conF (.int 3)) nilA))) nilA)))) := by
    have hrl : r < s1.length := lt_of g1
    have lH := l1
    exact (EvT.cons (Ev.pair (q := some 2) (d := D.int 2) (Ev.lst (EvS.cons (Ev.lit _ (k := 20)) (EvS.cons (Ev.cat (Ev.cat (Ev.lit _ (k := 20)) (Ev.varS 2 rfl lz)) (Ev.lit _ (k := 20))) EvS.nil)) hrl)) (EvT.cons (Ev.pair (q := some 5) (d := D.int 5) (Ev.app (Ev.varL 3 rfl lH) (Ev.lst (EvS.cons (Ev.lit _ (k := 20)) EvS.nil) hrl) hrl (by simp [H4, T5, N4]))) (EvT.cons (Ev.pair (q := some 3) (d := D.int 3) (Ev.app (Ev.take 2 (Ev.varL 3 rfl lH) hrl) (Ev.lst (EvS.cons (Ev.cat (Ev.cat (Ev.lit _ (k := 20)) (Ev.varS 0 rfl la)) (Ev.lit _ (k := 20))) EvS.nil) hrl) hrl (by simp [H4, T5, N4]))) EvT.nil)))
  obtain ⟨es2, s2, e2, f2, g2, i2⟩ := EvT.extend (i := 4) ev2 rfl g1 i1 (by simp)
  have l2 := l1.mono f2
  -- rows more 3
  have ev3 : EvT s2 (E (some d3) (some (D.cell r)) none none none none) r [(H4 a b z ++ ["ring " ++ b ++ " 3 0"], some 5), (H4 a b z ++ ([""] : List Str), some 5), (H4 a b z ++ ["cords " ++ a ++ " " ++ z], some 5)] ((consA (tupF (consA (binF addD (varF 3) (lstF (consA (binF addD (binF addD (conF (.str "ring ")) (varF 1)) (conF (.str " 3 0"))) nilA))) (consA (conF (.int 5)) nilA))) (consA (tupF (consA (binF addD (varF 3) (lstF (consA (conF (.str "")) nilA))) (consA (conF (.int 5)) nilA))) (consA (tupF (consA (binF addD (varF 3) (lstF (consA (binF addD (binF addD (binF addD (conF (.str "cords ")) (varF 0)) (conF (.str " "))) (varF 2)) nilA))) (consA (conF (.int 5)) nilA))) nilA)))) := by
    have hrl : r < s2.length := lt_of g2
    have lH := l2
    exact (EvT.cons (Ev.pair (q := some 5) (d := D.int 5) (Ev.app (Ev.varL 3 rfl lH) (Ev.lst (EvS.cons (Ev.cat (Ev.cat (Ev.lit _ (k := 20)) (Ev.varS 1 rfl lb)) (Ev.lit _ (k := 20))) EvS.nil) hrl) hrl (by simp [H4, T5, N4]))) (EvT.cons (Ev.pair (q := some 5) (d := D.int 5) (Ev.app (Ev.varL 3 rfl lH) (Ev.lst (EvS.cons (Ev.lit _ (k := 20)) EvS.nil) hrl) hrl (by simp [H4, T5, N4]))) (EvT.cons (Ev.pair (q := some 5) (d := D.int 5) (Ev.app (Ev.varL 3 rfl lH) (Ev.lst (EvS.cons (Ev.cat (Ev.cat (Ev.cat (Ev.lit _ (k := 20)) (Ev.varS 0 rfl la)) (Ev.lit _ (k := 20))) (Ev.varS 2 rfl lz)) EvS.nil) hrl) hrl (by simp [H4, T5, N4]))) EvT.nil)))
  obtain ⟨es3, s3, e3, f3, g3, i3⟩ := EvT.extend (i := 4) ev3 rfl g2 i2 (by simp)
  have l3 := l2.mono f3
  -- ends that cannot be
  have evE : EvLs s3 (E (some d3) (some (D.cell r)) none none none none) r (ends7 a b z) (consA (lstF (consA (varF 0) (consA (varF 1) nilA))) (consA (lstF (consA (varF 2) (consA (varF 2) nilA))) (consA (lstF (consA (varF 0) nilA)) (consA (lstF (consA (varF 0) (consA (varF 2) (consA (varF 1) nilA)))) (consA (lstF (consA (varF 0) (consA (conF (.str "qq")) nilA))) (consA (lstF (consA (varF 2) (consA (conF (.str "")) nilA))) (consA (lstF nilA) nilA))))))) := by
    have hrl : r < s3.length := lt_of g3
    exact (EvLs.cons (Ev.lst (EvS.cons (Ev.varS 0 rfl la) (EvS.cons (Ev.varS 1 rfl lb) EvS.nil)) hrl) (EvLs.cons (Ev.lst (EvS.cons (Ev.varS 2 rfl lz) (EvS.cons (Ev.varS 2 rfl lz) EvS.nil)) hrl) (EvLs.cons (Ev.lst (EvS.cons (Ev.varS 0 rfl la) EvS.nil) hrl) (EvLs.cons (Ev.lst (EvS.cons (Ev.varS 0 rfl la) (EvS.cons (Ev.varS 2 rfl lz) (EvS.cons (Ev.varS 1 rfl lb) EvS.nil))) hrl) (EvLs.cons (Ev.lst (EvS.cons (Ev.varS 0 rfl la) (EvS.cons (Ev.lit _ (k := 20)) EvS.nil)) hrl) (EvLs.cons (Ev.lst (EvS.cons (Ev.varS 2 rfl lz) (EvS.cons (Ev.lit _ (k := 20)) EvS.nil)) hrl) (EvLs.cons (Ev.lst EvS.nil hrl) EvLs.nil)))))))
  obtain ⟨dsE, sE, eE, fE, tE⟩ := evE s3 (Frm.refl _ _)
  have lE := tE.length
  have itE : (iterF (tupF (consA (lstF (consA (varF 0) (consA (varF 1) nilA))) (consA (lstF (consA (varF 2) (consA (varF 2) nilA))) (consA (lstF (consA (varF 0) nilA)) (consA (lstF (consA (varF 0) (consA (varF 2) (consA (varF 1) nilA)))) (consA (lstF (consA (varF 0) (consA (conF (.str "qq")) nilA))) (consA (lstF (consA (varF 2) (consA (conF (.str "")) nilA))) (consA (lstF nilA) nilA))))))))) (E (some d3) (some (D.cell r)) none none none none) s3 = some (Rs.ok (ItV.tup dsE) sE) := by
    simp only [iterF, tupF, eE, bindR_ok]
    rw [if_pos (by rw [lE]; simp [ends7, LIM])]
    rfl
  have gE := fE.get g3
  have iE := i3.mono fE.e1
  have lHE := l3.mono fE.e1
  have hrE : r < sE.length := lt_of gE
  obtain ⟨x4, es4, s4, e4, f4, g4, i4⟩ := pairs_loop (i4 := 4) (j := 5) (n := 7) (r := r) (st0 := s3) (its := _) (f := (tupF (consA (binF addD (varF 3) (lstF (consA (mthF kStr joinD (conF (.str " ")) (consA (binF addD (lstF (consA (conF (.str "cord")) nilA)) (varF 5)) nilA)) nilA))) (consA (conF (.int 5)) nilA)))) (fun i => (H4 a b z ++ [Str.join " " ((["cord"] : List Str) ++ (ends7 a b z).getD i [])], some 5)) (fun x => E (some d3) (some (D.cell r)) x none none none) none itE lE (by decide) (fun x d => rfl) (fun x => rfl) gE iE (by simp) (fun i d s ed fr => by
    have hi : i < 7 := by
      have := (List.getElem?_eq_some_iff.mp ed).1
      rw [lE] at this
      exact this
    have hi' : i < (ends7 a b z).length := hi
    have el : (ends7 a b z)[i]? = some ((ends7 a b z).getD i []) := by rw [List.getElem?_eq_getElem hi']; simp [List.getD, List.getElem?_eq_getElem hi']
    obtain ⟨d', ed', ld⟩ := tE.get el
    have : d = d' := Option.some.inj (ed.symm.trans ed')
    subst this
    obtain ⟨e, he⟩ : ∃ e, (ends7 a b z).getD i [] = e := ⟨_, rfl⟩
    rw [he] at ld el ⊢
    have hm : e ∈ ends7 a b z := List.mem_of_getElem? el
    have hlen : e.length ≤ 3 ∧ ∀ x ∈ e, x.length ≤ 10 := by
      have e1 : e = [a, b] ∨ e = [z, z] ∨ e = [a] ∨ e = [a, z, b] ∨ e = [a, "qq"] ∨ e = [z, ""] ∨ e = [] := by simpa [ends7] using hm
      have q1 : ("qq" : Str).length ≤ 10 := by decide +kernel
      have q2 : ("" : Str).length ≤ 10 := by decide +kernel
      rcases e1 with rfl | rfl | rfl | rfl | rfl | rfl | rfl <;> refine ⟨by simp, fun x hx => ?_⟩ <;> simp at hx
      · rcases hx with rfl | rfl <;> omega
      · subst hx; omega
      · subst hx; omega
      · rcases hx with rfl | rfl | rfl <;> omega
      · rcases hx with rfl | rfl <;> omega
      · rcases hx with rfl | rfl <;> omega
    have hrl : r < s.length := fr.lt hrE
    have lH := lHE.mono fr
    have ld2 := ld.mono fr
    have hlc : ((["cord"] : List Str) ++ e).length = e.length + 1 := by simp
    exact Ev.pair (q := some 5) (d := D.int 5) (Ev.app (Ev.varL 3 rfl lH) (Ev.lst (EvS.cons (Ev.join (k := 10) (Ev.app (Ev.lst (EvS.cons (Ev.lit _ (k := 20)) EvS.nil) hrl) (Ev.varL 5 rfl ld2) hrl (by simp; omega)) (fun x hx => by
      rcases List.mem_append.mp hx with hx | hx
      · rw [List.mem_singleton.mp hx]; decide +kernel
      · exact hlen.2 x hx) (by rw [hlc]; omega)) EvS.nil) hrl) hrl (by simp [H4])))
  have l4 := lHE.mono f4
  -- tied
  have evT : Ev s4 (E (some d3) (some (D.cell r)) x4 none none none) (LAt r (T5 a b z)) (binF addD (varF 3) (lstF (consA (binF addD (binF addD (binF addD (conF (.str "cord ")) (varF 0)) (conF (.str " "))) (varF 2)) nilA))) := by
    have hrl : r < s4.length := lt_of g4
    have lH := l4
    exact (Ev.app (Ev.varL 3 rfl lH) (Ev.lst (EvS.cons (Ev.cat (Ev.cat (Ev.cat (Ev.lit _ (k := 20)) (Ev.varS 0 rfl la)) (Ev.lit _ (k := 20))) (Ev.varS 2 rfl lz)) EvS.nil) hrl) hrl (by simp [H4, T5, N4]))
  obtain ⟨d6, sT, eT, fT, lT0⟩ := Ev.set evT 6
  have eT : _ = some (Rs.ok (Fl.nx (E (some d3) (some (D.cell r)) x4 (some d6) none none)) sT) := eT
  have gT := fT.get g4
  have iT := i4.mono fT.e1
  have lHT := l4.mono fT.e1
  have evU : EvT sT (E (some d3) (some (D.cell r)) x4 (some d6) none none) r [(T5 a b z, none), (T5 a b z ++ ["cord " ++ a ++ " " ++ z], some 6), (T5 a b z ++ ["cord " ++ z ++ " " ++ a], some 6)] ((consA (tupF (consA (varF 6) (consA (conF .non) nilA))) (consA (tupF (consA (binF addD (varF 6) (lstF (consA (binF addD (binF addD (binF addD (conF (.str "cord ")) (varF 0)) (conF (.str " "))) (varF 2)) nilA))) (consA (conF (.int 6)) nilA))) (consA (tupF (consA (binF addD (varF 6) (lstF (consA (binF addD (binF addD (binF addD (conF (.str "cord ")) (varF 2)) (conF (.str " "))) (varF 0)) nilA))) (consA (conF (.int 6)) nilA))) nilA)))) := by
    have hrl : r < sT.length := lt_of gT
    have lT := lT0
    exact (EvT.cons (Ev.pair (q := none) (d := D.non) (Ev.varL 6 rfl lT)) (EvT.cons (Ev.pair (q := some 6) (d := D.int 6) (Ev.app (Ev.varL 6 rfl lT) (Ev.lst (EvS.cons (Ev.cat (Ev.cat (Ev.cat (Ev.lit _ (k := 20)) (Ev.varS 0 rfl la)) (Ev.lit _ (k := 20))) (Ev.varS 2 rfl lz)) EvS.nil) hrl) hrl (by simp [H4, T5, N4]))) (EvT.cons (Ev.pair (q := some 6) (d := D.int 6) (Ev.app (Ev.varL 6 rfl lT) (Ev.lst (EvS.cons (Ev.cat (Ev.cat (Ev.cat (Ev.lit _ (k := 20)) (Ev.varS 2 rfl lz)) (Ev.lit _ (k := 20))) (Ev.varS 0 rfl la)) EvS.nil) hrl) hrl (by simp [H4, T5, N4]))) EvT.nil)))
  obtain ⟨esU, sU, eU, fU, gU, iU⟩ := EvT.extend (i := 4) evU rfl gT iT (by simp)
  have lTU := lT0.mono fU
  have lHU := lHT.mono fU
  have evV : EvT sU (E (some d3) (some (D.cell r)) x4 (some d6) none none) r [(T5 a b z ++ (["ring zz 1 0"] : List Str), some 6), (T5 a b z ++ (["peg zz 1"] : List Str), some 6), (T5 a b z ++ ["cord " ++ z ++ " " ++ b], none)] ((consA (tupF (consA (binF addD (varF 6) (lstF (consA (conF (.str "ring zz 1 0")) nilA))) (consA (conF (.int 6)) nilA))) (consA (tupF (consA (binF addD (varF 6) (lstF (consA (conF (.str "peg zz 1")) nilA))) (consA (conF (.int 6)) nilA))) (consA (tupF (consA (binF addD (varF 6) (lstF (consA (binF addD (binF addD (binF addD (conF (.str "cord ")) (varF 2)) (conF (.str " "))) (varF 1)) nilA))) (consA (conF .non) nilA))) nilA)))) := by
    have hrl : r < sU.length := lt_of gU
    have lT := lTU
    exact (EvT.cons (Ev.pair (q := some 6) (d := D.int 6) (Ev.app (Ev.varL 6 rfl lT) (Ev.lst (EvS.cons (Ev.lit _ (k := 20)) EvS.nil) hrl) hrl (by simp [H4, T5, N4]))) (EvT.cons (Ev.pair (q := some 6) (d := D.int 6) (Ev.app (Ev.varL 6 rfl lT) (Ev.lst (EvS.cons (Ev.lit _ (k := 20)) EvS.nil) hrl) hrl (by simp [H4, T5, N4]))) (EvT.cons (Ev.pair (q := none) (d := D.non) (Ev.app (Ev.varL 6 rfl lT) (Ev.lst (EvS.cons (Ev.cat (Ev.cat (Ev.cat (Ev.lit _ (k := 20)) (Ev.varS 2 rfl lz)) (Ev.lit _ (k := 20))) (Ev.varS 1 rfl lb)) EvS.nil) hrl) hrl (by simp [H4, T5, N4]))) EvT.nil)))
  obtain ⟨esV, sV, eV, fV, gV, iV⟩ := EvT.extend (i := 4) evV rfl gU iU (by simp)
  have lHV := lHU.mono fV
  -- near
  have evN : Ev sV (E (some d3) (some (D.cell r)) x4 (some d6) none none) (LAt r (N4 a b z)) (binF addD (sliceF (varF 3) noPart (partF (conF (.int 3)))) (lstF (consA (binF addD (binF addD (conF (.str "ring ")) (varF 2)) (conF (.str " 4 0"))) nilA))) := by
    have hrl : r < sV.length := lt_of gV
    have lH := lHV
    exact (Ev.app (Ev.take 3 (Ev.varL 3 rfl lH) hrl) (Ev.lst (EvS.cons (Ev.cat (Ev.cat (Ev.lit _ (k := 20)) (Ev.varS 2 rfl lz)) (Ev.lit _ (k := 20))) EvS.nil) hrl) hrl (by simp [H4, T5, N4]))
  obtain ⟨d7, sN, eN, fN, lN0⟩ := Ev.set evN 7
  have eN : _ = some (Rs.ok (Fl.nx (E (some d3) (some (D.cell r)) x4 (some d6) (some d7) none)) sN) := eN
  have gN := fN.get gV
  have iN := iV.mono fN.e1
  have evW : EvT sN (E (some d3) (some (D.cell r)) x4 (some d6) (some d7) none) r [(N4 a b z ++ ["cord " ++ z ++ " " ++ b], some 5), (N4 a b z ++ ["cord " ++ z ++ " " ++ a], none)] ((consA (tupF (consA (binF addD (varF 7) (lstF (consA (binF addD (binF addD (binF addD (conF (.str "cord ")) (varF 2)) (conF (.str " "))) (varF 1)) nilA))) (consA (conF (.int 5)) nilA))) (consA (tupF (consA (binF addD (varF 7) (lstF (consA (binF addD (binF addD (binF addD (conF (.str "cord ")) (varF 2)) (conF (.str " "))) (varF 0)) nilA))) (consA (conF .non) nilA))) nilA))) := by
    have hrl : r < sN.length := lt_of gN
    have lN := lN0
    exact (EvT.cons (Ev.pair (q := some 5) (d := D.int 5) (Ev.app (Ev.varL 7 rfl lN) (Ev.lst (EvS.cons (Ev.cat (Ev.cat (Ev.cat (Ev.lit _ (k := 20)) (Ev.varS 2 rfl lz)) (Ev.lit _ (k := 20))) (Ev.varS 1 rfl lb)) EvS.nil) hrl) hrl (by simp [H4, T5, N4]))) (EvT.cons (Ev.pair (q := none) (d := D.non) (Ev.app (Ev.varL 7 rfl lN) (Ev.lst (EvS.cons (Ev.cat (Ev.cat (Ev.cat (Ev.lit _ (k := 20)) (Ev.varS 2 rfl lz)) (Ev.lit _ (k := 20))) (Ev.varS 0 rfl la)) EvS.nil) hrl) hrl (by simp [H4, T5, N4]))) EvT.nil))
  obtain ⟨esW, sW, eW, fW, gW, iW⟩ := EvT.extend (i := 4) evW rfl gN iN (by simp)
  -- names
  have itP : (iterF (tupF (consA (conF (.str "abcdefg")) (consA (conF (.str "Abc")) (consA (conF (.str "a1")) (consA (conF (.str "a_")) (consA (conF (.str "")) nilA))))))) (E (some d3) (some (D.cell r)) x4 (some d6) (some d7) none) sW = some (Rs.ok (ItV.tup (bad5.map D.str)) sW) := rfl
  obtain ⟨xP, esP, sP, eP, fP, gP, iP⟩ := pairs_loop (i4 := 4) (j := 8) (n := 5) (r := r) (st0 := sW) (its := _) (f := (tupF (consA (lstF (consA (conF (.str "net 1")) (consA (binF addD (binF addD (conF (.str "peg ")) (varF 8)) (conF (.str " 0"))) nilA))) (consA (conF (.int 2)) nilA)))) (fun i => (["net 1", "peg " ++ bad5.getD i "" ++ " 0"], some 2)) (fun x => E (some d3) (some (D.cell r)) x4 (some d6) (some d7) x) none itP rfl (by decide) (fun x d => rfl) (fun x => rfl) gW iW (by simp) (fun i d s ed fr => by
    rw [List.getElem?_map] at ed
    obtain ⟨w, ew, hw⟩ := Option.map_eq_some_iff.mp ed
    subst hw
    have e2 : bad5.getD i "" = w := by simp [List.getD, ew]
    have lw : w.length ≤ 10 := (by decide +kernel : ∀ x ∈ bad5, x.length ≤ 10) w (List.mem_of_getElem? ew)
    rw [e2]
    have hrl : r < s.length := fr.lt (lt_of gW)
    exact (Ev.pair (q := some 2) (d := D.int 2) (Ev.lst (EvS.cons (Ev.lit _ (k := 20)) (EvS.cons (Ev.cat (Ev.cat (Ev.lit _ (k := 20)) (Ev.varS 8 rfl lw)) (Ev.lit _ (k := 20))) EvS.nil)) hrl)))
  -- names
  have itQ : (iterF (tupF (consA (conF (.str "abcdef")) (consA (conF (.str "net")) (consA (conF (.str "cord")) (consA (conF (.str "x")) nilA)))))) (E (some d3) (some (D.cell r)) x4 (some d6) (some d7) xP) sP = some (Rs.ok (ItV.tup (good4.map D.str)) sP) := rfl
  obtain ⟨xQ, esQ, sQ, eQ, fQ, gQ, iQ⟩ := pairs_loop (i4 := 4) (j := 8) (n := 4) (r := r) (st0 := sP) (its := _) (f := (tupF (consA (lstF (consA (conF (.str "net 1")) (consA (binF addD (binF addD (conF (.str "peg ")) (varF 8)) (conF (.str " 0"))) nilA))) (consA (conF .non) nilA)))) (fun i => (["net 1", "peg " ++ good4.getD i "" ++ " 0"], none)) (fun x => E (some d3) (some (D.cell r)) x4 (some d6) (some d7) x) xP itQ rfl (by decide) (fun x d => rfl) (fun x => rfl) gP iP (by simp) (fun i d s ed fr => by
    rw [List.getElem?_map] at ed
    obtain ⟨w, ew, hw⟩ := Option.map_eq_some_iff.mp ed
    subst hw
    have e2 : good4.getD i "" = w := by simp [List.getD, ew]
    have lw : w.length ≤ 10 := (by decide +kernel : ∀ x ∈ good4, x.length ≤ 10) w (List.mem_of_getElem? ew)
    rw [e2]
    have hrl : r < s.length := fr.lt (lt_of gP)
    exact (Ev.pair (q := none) (d := D.non) (Ev.lst (EvS.cons (Ev.lit _ (k := 20)) (EvS.cons (Ev.cat (Ev.cat (Ev.lit _ (k := 20)) (Ev.varS 8 rfl lw)) (Ev.lit _ (k := 20))) EvS.nil)) hrl)))
  -- all of them
  have f03 : Frm s0 s3 [r] := (f1.trans f2).trans f3
  have fall : Frm s0 sQ [r] := ((((((((f03.trans fE.e1).trans f4).trans fT.e1).trans fU).trans fV).trans fN.e1).trans fW).trans fP).trans fQ
  have fst : Frm st sQ [] := ((f0.e1 (r := r)).trans fall).less rge
  have htab : tabAt c sQ := frm_tab h0 fst (by simp)
  obtain ⟨sF, eF, fF⟩ := all_due c (i := 9) (j := 10) (k := 4) (env := E (some d3) (some (D.cell r)) x4 (some d6) (some d7) xQ) (r := r) rfl htab gQ iQ (fun it hit => by
    simp only [List.mem_append, List.mem_cons, List.not_mem_nil, or_false, List.mem_map, List.mem_range] at hit
    rcases hit with (((((((((rfl | rfl | rfl | rfl) | (rfl | rfl | rfl)) | (rfl | rfl | rfl)) | (rfl | rfl | rfl)) | ⟨i, hi, rfl⟩) | (rfl | rfl | rfl)) | (rfl | rfl | rfl)) | (rfl | rfl)) | ⟨i, hi, rfl⟩) | ⟨i, hi, rfl⟩
    · exact h.i1
    · exact dd_net1
    · exact dd_net4
    · exact dd_net1b
    · exact dd_Net1
    · exact dd_empty
    · exact dd_net0
    · exact h.i8
    · exact h.i9
    · exact h.i10
    · exact h.i11
    · exact h.i12
    · exact h.i13
    · have hi' : i < (ends7 a b z).length := hi
      have : (ends7 a b z).getD i [] ∈ ends7 a b z := by
        have : (ends7 a b z).getD i [] = (ends7 a b z)[i] := by simp [List.getD, List.getElem?_eq_getElem hi']
        rw [this]; exact List.getElem_mem hi'
      exact h.i14 _ this
    · exact h.i21
    · exact h.i22
    · exact h.i23
    · exact h.i24
    · exact h.i25
    · exact h.i26
    · exact h.i27
    · exact h.i28
    · have hi' : i < bad5.length := hi
      have : bad5.getD i "" ∈ bad5 := by
        have : bad5.getD i "" = bad5[i] := by simp [List.getD, List.getElem?_eq_getElem hi']
        rw [this]; exact List.getElem_mem hi'
      exact i29 _ this
    · have hi' : i < good4.length := hi
      have : good4.getD i "" ∈ good4 := by
        have : good4.getD i "" = good4[i] := by simp [List.getD, List.getElem?_eq_getElem hi']
        rw [this]; exact List.getElem_mem hi'
      exact i30 _ this) (by simp) (by simp [E]) (by simp [E]) (by decide)
  refine ⟨PF.trim st (D.bl true) sF, ?_, (fst.trans fF).trim⟩
  unfold m__law_are_lines_right b__law_are_lines_right runM
  have e00 : (([D.str a, D.str b, D.str z] : List D).map some ++ List.replicate (11 - ([D.str a, D.str b, D.str z] : List D).length) none : PF.Env) = E none none none none none none := rfl
  rw [e00, seqS_nx eA, seqS_nx eB2, seqS_nx e1, seqS_nx e2, seqS_nx e3, seqS_nx e4, seqS_nx eT, seqS_nx eU, seqS_nx eV, seqS_nx eN, seqS_nx eW, seqS_nx eP, seqS_nx eQ]
  simp only [retS, eF, bindR_ok]
end Cr
end
section
namespace Cr
open PySem PF
theorem cat_at {f g : EF} {env : PF.Env} {s : Store} {x y : Str} (hf : f env s = some (Rs.ok (D.str x) s)) (hg : g env s = some (Rs.ok (D.str y) s)) (h : x.length + y.length ≤ 1000) : binF addD f g env s = some (Rs.ok (D.str (x ++ y)) s) := by
  simp only [binF, hf, bindR_ok, hg, addD]
  rw [if_pos (by unfold LIM; omega)]
section
variable {st0 : Store} {env : PF.Env} {r : Nat}
/-- a comprehension over texts -/
theorem Ev.comp {f g : EF} {xs : List Str} {i : Nat} {vs : List Nat} (y : Str → Str) (hf : Ev st0 env (LAt r xs) f) (hr : r < st0.length) (hl : xs.length < 1000) (hg : ∀ w ∈ xs, ∀ s, g ((wipeE env vs).set i (some (D.str w))) s = some (Rs.ok (D.str (y w)) s)) :
    Ev st0 env (LAt r (xs.map y)) (lcF (iterF f) (gNameF i) yesT g vs) := fun st1 f1 => by
  obtain ⟨_, st2, e1, f2, a, ha, rfl, ga⟩ := hf st1 f1
  have it : iterF f env st1 = some (Rs.ok (ItV.lst a) st2) := by
    simp only [iterF, e1, bindR_ok, ga]
  let Y : D → D := fun d => match d with
    | D.str w => D.str (y w)
    | _ => D.non
  have h := lcF_all (y := Y) (ds := xs.map D.str) (g := gNameF i) (f := g) (vs := vs) it (fun j acc => by
    have := get_app ga [Cell.lst acc]
    simp only [ItV.nxt, this]) (fun d hd acc => by
    obtain ⟨w, hw, rfl⟩ := List.mem_map.mp hd
    exact ⟨_, rfl, hg w hw _⟩) (by rw [List.length_map]; unfold FUEL; omega)
  have hY : (xs.map D.str).map Y = (xs.map y).map D.str := by rw [List.map_map, List.map_map]; rfl
  rw [hY] at h
  refine ⟨D.cell st2.length, _, h, f2.trans (Frm.app _ _ _), st2.length, ?_, rfl, get_end _ _⟩
  have := (f1.trans f2).lt hr
  omega
theorem zip_get (xs : List Str) (i : Nat) : ((List.range xs.length).map fun j => D.tup [D.int (j : Nat), D.str (xs.getD j "")])[i]? = (xs.map D.str)[i]?.map fun d => D.tup [D.int (i : Nat), d] := by
  rw [List.getElem?_map, List.getElem?_map]
  by_cases h : i < xs.length
  · rw [List.getElem?_range h, List.getElem?_eq_getElem h]
    simp [List.getD, List.getElem?_eq_getElem h]
  · rw [List.getElem?_eq_none (by simpa using h), List.getElem?_eq_none (by simpa using h)]
    rfl
/-- .. with their numbers -/
theorem Ev.compE {f g : EF} {xs : List Str} {i j : Nat} {vs : List Nat} (y : Nat → Str → Str) (hf : Ev st0 env (LAt r xs) f) (hr : r < st0.length) (hl : xs.length < 1000) (hg : ∀ n w, n < xs.length → w ∈ xs → ∀ s, g (((wipeE env vs).set i (some (D.int (n : Nat)))).set j (some (D.str w))) s = some (Rs.ok (D.str (y n w)) s)) :
    Ev st0 env (LAt r ((List.range xs.length).map fun n => y n (xs.getD n ""))) (lcF (enmF (consA f nilA)) (gTupF 2 (gConsF (gNameF i) (gConsF (gNameF j) gNilF))) yesT g vs) := fun st1 f1 => by
  obtain ⟨_, st2, e1, f2, a, ha, rfl, ga⟩ := hf st1 f1
  have it : enmF (consA f nilA) env st1 = some (Rs.ok (ItV.enm a) st2) := by
    simp only [enmF, consA, e1, bindR_ok, nilA, ga]
  let Y : D → D := fun d => match d with
    | D.tup [D.int n, D.str w] => D.str (y n.toNat w)
    | _ => D.non
  have h := lcF_all (y := Y) (ds := (List.range xs.length).map fun j => D.tup [D.int (j : Nat), D.str (xs.getD j "")]) (g := gTupF 2 (gConsF (gNameF i) (gConsF (gNameF j) gNilF))) (f := g) (vs := vs) it (fun j acc => by
    have := get_app ga [Cell.lst acc]
    simp only [ItV.nxt, this, zip_get]) (fun d hd acc => by
    obtain ⟨n, hn, rfl⟩ := List.mem_map.mp hd
    have hn' : n < xs.length := by simpa using hn
    refine ⟨_, rfl, ?_⟩
    have hw : xs.getD n "" ∈ xs := by
      have : xs.getD n "" = xs[n] := by simp [List.getD, List.getElem?_eq_getElem hn']
      rw [this]; exact List.getElem_mem hn'
    exact hg n _ hn' hw _) (by rw [List.length_map, List.length_range]; unfold FUEL; omega)
  have hY : ((List.range xs.length).map fun j => D.tup [D.int (j : Nat), D.str (xs.getD j "")]).map Y = ((List.range xs.length).map fun n => y n (xs.getD n "")).map D.str := by
    rw [List.map_map, List.map_map]; rfl
  rw [hY] at h
  refine ⟨D.cell st2.length, _, h, f2.trans (Frm.app _ _ _), st2.length, ?_, rfl, get_end _ _⟩
  have := (f1.trans f2).lt hr
  omega
/-- a slice between two places within -/
theorem Ev.cut {f : EF} {xs : List Str} (i j : Nat) (hij : i ≤ j) (hj : j ≤ xs.length) (hf : Ev st0 env (LAt r xs) f) (hr : r < st0.length) : Ev st0 env (LAt r ((xs.drop i).take (j - i))) (sliceF f (partF (conF (.int (i : Int)))) (partF (conF (.int (j : Int))))) := fun st1 f1 => by
  obtain ⟨_, st2, e1, f2, a, ha, rfl, ga⟩ := hf st1 f1
  have hc : cutD (xs.map D.str) (some (i : Int)) (some (j : Int)) = ((xs.drop i).take (j - i)).map D.str := by
    have e1 : HT.sIx (xs.map D.str).length 0 (some (i : Int)) = i := by
      rw [List.length_map]
      unfold HT.sIx
      simp only [show ¬ ((i : Int) < 0) by omega, show ¬ ((j : Int) < 0) by omega, if_false, Int.toNat_natCast]
      omega
    have e2 : HT.sIx (xs.map D.str).length (xs.map D.str).length (some (j : Int)) = j := by
      rw [List.length_map]
      unfold HT.sIx
      simp only [show ¬ ((i : Int) < 0) by omega, show ¬ ((j : Int) < 0) by omega, if_false, Int.toNat_natCast]
      omega
    unfold cutD
    rw [e1, e2, List.map_take, List.map_drop]
  refine ⟨D.cell st2.length, st2 ++ [Cell.lst (((xs.drop i).take (j - i)).map D.str)], ?_, f2.trans (Frm.app _ _ _), st2.length, ?_, rfl, get_end _ _⟩
  · simp only [sliceF, e1, bindR_ok, partF, conF, slD, ga, hc]
  · have := (f1.trans f2).lt hr
    omega
theorem Ev.setLc {f : EF} {ls : List Str} (h : Ev st0 env (LAt r ls) f) (i : Nat) : ∃ d st', setLcS i f env st0 = some (Rs.ok (Fl.nx (env.set i (some d))) st') ∧ Frm st0 st' [] ∧ LAt r ls d st' := by
  obtain ⟨d, st', e, f1, l⟩ := h st0 (Frm.refl _ _)
  refine ⟨d, st', ?_, f1, l⟩
  simp only [setLcS, e, bindR_ok]
end
theorem Lns.take {N : Nat} {val : Fin N → Str} {ls : List Str} {as : List (La N)} (h : Lns val ls as) : ∀ k : Nat, Lns val (ls.take k) (as.take k) := by
  induction h with
  | nil => intro k; simp only [List.take_nil]; exact .nil
  | cons a _ ih =>
    intro k
    cases k with
    | zero => exact .nil
    | succ k => exact .cons a (ih k)
/-! ### 26 names -/
structure N26 (ns : List Str) : Prop where
  len : ns.length = 26
  nd : ns.Nodup
  nm : ∀ x ∈ ns, isName x = true
def fi (i : Nat) : Fin 26 := ⟨i % 26, Nat.mod_lt _ (by decide)⟩
def val26 (ns : List Str) (i : Fin 26) : Str := ns.getD i.val ""
section
variable {ns : List Str}
theorem N26.at (h : N26 ns) {i : Nat} (hi : i < 26) : ns.getD i "" ∈ ns := by
  have hi' : i < ns.length := by rw [h.len]; exact hi
  have : ns.getD i "" = ns[i] := by simp [List.getD, List.getElem?_eq_getElem hi']
  rw [this]; exact List.getElem_mem hi'
theorem N26.inj (h : N26 ns) : ∀ i j : Fin 26, val26 ns i = val26 ns j → i = j := fun i j e => by
  have hi : i.val < ns.length := by rw [h.len]; exact i.isLt
  have hj : j.val < ns.length := by rw [h.len]; exact j.isLt
  have e1 : val26 ns i = ns[i.val] := by simp [val26, List.getD, List.getElem?_eq_getElem hi]
  have e2 : val26 ns j = ns[j.val] := by simp [val26, List.getD, List.getElem?_eq_getElem hj]
  rw [e1, e2] at e
  exact Fin.ext ((List.getElem_inj h.nd).mp e)
theorem N26.ok (h : N26 ns) : ∀ i : Fin 26, isName (val26 ns i) = (fun _ => true) i := fun i => h.nm _ (h.at i.isLt)
theorem N26.w (h : N26 ns) (i : Fin 26) : WordOk (val26 ns i) := word_name (h.ok i)
theorem val_fi {i : Nat} (hi : i < 26) : val26 ns (fi i) = ns.getD i "" := by
  show ns.getD (i % 26) "" = _
  rw [Nat.mod_eq_of_lt hi]
def pegL (ns : List Str) (i : Nat) : Str := "peg " ++ ns.getD i "" ++ " " ++ (toString ((i : Nat) : Int) : String)
def ringL (ns : List Str) (j : Nat) : Str := "ring " ++ ns.getD (17 + j) "" ++ " 0 0"
def cordL (ns : List Str) (j i : Nat) : Str := "cord " ++ ns.getD (17 + j) "" ++ " " ++ ns.getD (1 + i) ""
def pegA (i : Nat) : La 26 := .peg (fi i) (rfs [(toString ((i : Nat) : Int) : String)])
def ringA (j : Nat) : La 26 := .ring (fi (17 + j)) (rfs ["0", "0"])
def cordA (j i : Nat) : La 26 := .cord (fi (17 + j)) (fi (1 + i))
theorem num17 : ∀ i ∈ List.range 17, wordB ((toString ((i : Nat) : Int) : String) : Str) = true := by decide +kernel
theorem jpn (a w : Str) : ("peg " : Str) ++ a ++ " " ++ w = Str.join " " ["peg", a, w] := (by refine TL.ext_tl ?_; simp only [Str.join, TL.tl_append, tl_0, tl_1, tl_2, tl_3, tl_4, tl_5, tl_6, tl_7, tl_8, tl_9, tl_10, tl_11, tl_12, tl_13, tl_14, tl_15, tl_16, tl_17, tl_18, tl_19, tl_20, tl_21, tl_22, tl_23, tl_24, tl_25, tl_26, tl_27, tl_28, List.append_assoc, List.cons_append, List.nil_append])
theorem jr00 (a : Str) : ("ring " : Str) ++ a ++ " 0 0" = Str.join " " ["ring", a, "0", "0"] := (by refine TL.ext_tl ?_; simp only [Str.join, TL.tl_append, tl_0, tl_1, tl_2, tl_3, tl_4, tl_5, tl_6, tl_7, tl_8, tl_9, tl_10, tl_11, tl_12, tl_13, tl_14, tl_15, tl_16, tl_17, tl_18, tl_19, tl_20, tl_21, tl_22, tl_23, tl_24, tl_25, tl_26, tl_27, tl_28, List.append_assoc, List.cons_append, List.nil_append])
theorem N26.peg (h : N26 ns) {i : Nat} (hi : i < 17) : Ln (val26 ns) (pegL ns i) (pegA i) := by
  have hw := word_lit (num17 i (by simpa using hi))
  have e : pegL ns i = Str.join " " (("peg" : Str) :: val26 ns (fi i) :: [((toString ((i : Nat) : Int) : String) : Str)]) := by
    rw [val_fi (by omega)]
    exact jpn _ _
  exact ln_peg e (by simp) (h.w _) (all1 hw) rfl
theorem N26.ring (h : N26 ns) {j : Nat} (hj : j < 9) : Ln (val26 ns) (ringL ns j) (ringA j) := by
  have e : ringL ns j = Str.join " " (("ring" : Str) :: val26 ns (fi (17 + j)) :: ["0", "0"]) := by
    rw [val_fi (by omega)]
    exact jr00 _
  exact ln_ring e (by simp) (h.w _) (all2 word0 word0) rfl
theorem N26.cord (h : N26 ns) {j i : Nat} (hj : j < 3) (hi : i < 7) : Ln (val26 ns) (cordL ns j i) (cordA j i) := by
  have e : cordL ns j i = Str.join " " [("cord" : Str), val26 ns (fi (17 + j)), val26 ns (fi (1 + i))] := by
    rw [val_fi (by omega), val_fi (by omega)]
    exact jc _ _
  exact ln_cord e (h.w _) (h.w _)
def pegsL (ns : List Str) (k : Nat) : List Str := (List.range k).map (pegL ns)
def ringsL (ns : List Str) (k : Nat) : List Str := (List.range k).map (ringL ns)
def cordsL (ns : List Str) : Nat → List Str
  | 0 => []
  | j + 1 => cordsL ns j ++ (List.range 7).map (cordL ns j)
def pegsA (k : Nat) : List (La 26) := (List.range k).map pegA
def ringsA (k : Nat) : List (La 26) := (List.range k).map ringA
def cordsA : Nat → List (La 26)
  | 0 => []
  | j + 1 => cordsA j ++ (List.range 7).map (cordA j)
theorem N26.pegs (h : N26 ns) {k : Nat} (hk : k ≤ 17) : Lns (val26 ns) (pegsL ns k) (pegsA k) := Lns.map _ _ _ fun i hi => h.peg (by have : i < k := (by simpa using hi); omega)
theorem N26.rings (h : N26 ns) {k : Nat} (hk : k ≤ 9) : Lns (val26 ns) (ringsL ns k) (ringsA k) := Lns.map _ _ _ fun i hi => h.ring (by have : i < k := (by simpa using hi); omega)
theorem N26.cords (h : N26 ns) : ∀ {k : Nat}, k ≤ 3 → Lns (val26 ns) (cordsL ns k) (cordsA k)
  | 0, _ => .nil
  | k + 1, hk => Lns.append (N26.cords h (k := k) (by omega)) (Lns.map _ _ _ fun i hi => h.cord (by omega) (by simpa using hi))
def L1 : List Str := ["net 1"]
theorem hdL {val : Fin 26 → Str} : Lns val L1 [.head 1] := .cons hd1 .nil
theorem N26.d {ls : List Str} {as : List (La 26)} {q : Option Nat} (h : N26 ns) (hl : Lns (val26 ns) ls as) (hq : netA (fun _ => true) as = q) (hk : ∀ k, q = some k → k < 1000) (hne : as.length ≠ 0) (few : as.length < 1000) : Due ls q := due_of h.inj h.ok hl hq hk hne few
theorem N26.c1 (h : N26 ns) : Due (L1 ++ pegsL ns 16 ++ ringsL ns 8) none := h.d ((hdL.append (h.pegs (by decide))).append (h.rings (by decide))) (by decide +kernel) k0 (by decide +kernel) (by decide +kernel)
theorem N26.c2 (h : N26 ns) : Due (L1 ++ pegsL ns 17) (some 18) := h.d (hdL.append (h.pegs (by decide))) (by decide +kernel) k5 (by decide +kernel) (by decide +kernel)
theorem N26.c3 (h : N26 ns) : Due (L1 ++ pegsL ns 2 ++ ringsL ns 9) (some 12) := h.d ((hdL.append (h.pegs (by decide))).append (h.rings (by decide))) (by decide +kernel) k5 (by decide +kernel) (by decide +kernel)
theorem N26.c4 (h : N26 ns) : Due (L1 ++ pegsL ns 8 ++ ringsL ns 3 ++ (cordsL ns 3).take 20) none := h.d (((hdL.append (h.pegs (by decide))).append (h.rings (by decide))).append ((h.cords (Nat.le_refl 3)).take 20)) (by decide +kernel) k0 (by decide +kernel) (by decide +kernel)
theorem N26.c5 (h : N26 ns) : Due (L1 ++ pegsL ns 8 ++ ringsL ns 3 ++ cordsL ns 3) (some 33) := h.d (((hdL.append (h.pegs (by decide))).append (h.rings (by decide))).append (h.cords (Nat.le_refl 3))) (by decide +kernel) k5 (by decide +kernel) (by decide +kernel)
end
end Cr
end
section
namespace Cr
open PySem PF
theorem LAt.to0 {c : Cs} {r : Nat} {ls : List Str} {d : D} {st : Store} (h : LAt r ls d st) (h0 : tabAt c st) : LAt 0 ls d st := by
  obtain ⟨k, _, h2, h3⟩ := h
  refine ⟨k, fun z => ?_, h2, h3⟩
  rw [z] at h3
  have := h0.symm.trans h3
  cases this
theorem getD_take (ns : List Str) {k i : Nat} (h : i < k) : (ns.take k).getD i "" = ns.getD i "" := by
  simp [List.getD, List.getElem?_take_of_lt h]
theorem take_get (l : List Str) {k : Nat} (h : k ≤ l.length) : l.take k = (List.range k).map fun i => l.getD i "" := by
  apply List.ext_getElem?
  intro i
  rw [List.getElem?_map]
  by_cases hi : i < k
  · rw [List.getElem?_range hi, List.getElem?_take_of_lt hi, List.getElem?_eq_getElem (by omega)]
    simp [List.getD, List.getElem?_eq_getElem (show i < l.length by omega)]
  · rw [List.getElem?_eq_none (by simp; omega), List.getElem?_eq_none (by simp; omega)]
    rfl
theorem drop_get (l : List Str) (a m : Nat) (h : a + m ≤ l.length) : (l.drop a).take m = (List.range m).map fun i => l.getD (a + i) "" := by
  rw [take_get _ (by rw [List.length_drop]; omega)]
  refine List.map_congr_left fun i hi => ?_
  simp [List.getD, List.getElem?_drop]
section
variable {st0 : Store} {env : PF.Env} {r : Nat}
theorem Ev.extendS {f : EF} {xs ys : List Str} {i : Nat} (h : Ev st0 env (LAt r ys) f) (hi : env[i]? = some (some (D.cell r))) (hd : st0[r]? = some (Cell.lst (xs.map D.str))) (hl : xs.length + ys.length ≤ 1000) :
    ∃ st', exprS (mthF kLst extendD (varF i) (consA f nilA)) env st0 = some (Rs.ok (Fl.nx env) st') ∧ Frm st0 st' [r] ∧ st'[r]? = some (Cell.lst ((xs ++ ys).map D.str)) := by
  obtain ⟨_, st1, e, f1, k, hk, rfl, gk⟩ := h st0 (Frm.refl _ _)
  have d1 := f1.get hd
  have f3 : Frm st1 (st1.set r (Cell.lst ((xs ++ ys).map D.str))) [r] := Frm.set (by simp) _
  refine ⟨st1.set r (Cell.lst ((xs ++ ys).map D.str)), ?_, f1.e1.trans f3, get_set_eq (lt_of d1)⟩
  have kl : kLst (D.cell r) st0 = true := kLst_at hd
  simp only [exprS, mthF, varF, hi, bindR_ok, kl, if_true, consA, e, nilA, extendD, d1, gk, List.length_map]
  rw [if_pos (by unfold LIM; omega), List.map_append]
  rfl
end
theorem if_chk2 {f g : EF} {env : PF.Env} {st st1 st2 : Store} (h : f env st = some (Rs.ok (D.bl true) st1)) (h2 : g env st1 = some (Rs.ok (D.bl true) st2)) (k : SF) : ifS (orT (notT (truF f)) (notT (truF g))) k nextS env st = some (Rs.ok (Fl.nx env) st2) := by
  simp only [ifS, orT, notT, truF, h, h2, bindR_ok, truD, Bool.not_true, Bool.false_eq_true, if_false, nextS]
theorem counts_law (c : Cs) (st : Store) (n : Nat) (ns : List Str) (h0 : tabAt c st) (hn : st[n]? = some (Cell.lst (ns.map D.str))) (h : N26 ns) : ∃ st', m__law_are_counts_right c [D.cell n] st = some (Rs.ok (D.bl true) st') ∧ Frm st st' [] := by
  let E : Option D → Option D → Option D → Option D → Option D → PF.Env := fun s1 s2 s3 s4 s5 => [some (D.cell n), s1, s2, s3, s4, s5, none, none, none]
  have hr0 : 0 < st.length := lt_of h0
  have ln0 : LAt 0 ns (D.cell n) st := by
    refine ⟨n, fun z => ?_, rfl, hn⟩
    rw [z] at hn
    cases h0.symm.trans hn
  have nl : ∀ {x : Str}, x ∈ ns → x.length ≤ 6 := fun hx => name_len (h.nm _ hx)
  -- pegs
  have ev1 : Ev st (E none none none none none) (LAt 0 (pegsL ns 17)) (lcF (enmF (consA (sliceF (varF 0) noPart (partF (conF (.int 17)))) nilA)) (gTupF 2 (gConsF (gNameF 7) (gConsF (gNameF 6) gNilF))) yesT (binF addD (binF addD (binF addD (conF (.str "peg ")) (varF 6)) (conF (.str " "))) (callF (strD) (consA (callF (intD) (consA (varF 7) nilA)) nilA))) [6, 7]) := by
    have e := Ev.compE (st0 := st) (env := E none none none none none) (r := 0) (i := 7) (j := 6) (vs := [6, 7]) (xs := ns.take 17) (g := binF addD (binF addD (binF addD (conF (.str "peg ")) (varF 6)) (conF (.str " "))) (callF (strD) (consA (callF (intD) (consA (varF 7) nilA)) nilA))) (fun i w => "peg " ++ w ++ " " ++ (toString ((i : Nat) : Int) : String)) (Ev.take 17 (Ev.varL 0 rfl ln0) hr0) hr0 (by rw [List.length_take, h.len]; decide) (fun i w hi hw s => by
      have hlen : (ns.take 17).length = 17 := by rw [List.length_take, h.len]; rfl
      have hi17 : i < 17 := by omega
      have lw := nl (List.mem_of_mem_take hw)
      have ls := (word_lit (num17 i (by simpa using hi17))).len
      have l4 : ("peg " : Str).length = 4 := by decide +kernel
      have l1 : (" " : Str).length = 1 := by decide +kernel
      have v7 : varF 7 (((wipeE (E none none none none none) [6, 7]).set 7 (some (D.int (i : Nat)))).set 6 (some (D.str w))) s = some (Rs.ok (D.int (i : Int)) s) := rfl
      have v6 : varF 6 (((wipeE (E none none none none none) [6, 7]).set 7 (some (D.int (i : Nat)))).set 6 (some (D.str w))) s = some (Rs.ok (D.str w) s) := rfl
      have lg : (i : Int).natAbs.log2 < 1920 := by
        have := log_lt (x := (i : Int)) 10 (by omega) (by omega)
        omega
      have vs : callF (strD) (consA (callF (intD) (consA (varF 7) nilA)) nilA) (((wipeE (E none none none none none) [6, 7]).set 7 (some (D.int (i : Nat)))).set 6 (some (D.str w))) s = some (Rs.ok (D.str (toString ((i : Nat) : Int) : String)) s) := by
        simp only [callF, consA, v7, bindR_ok, nilA, intD, strD, lg, if_true]
      refine cat_at (cat_at (cat_at rfl v6 ?_) rfl ?_) vs ?_
      · omega
      · rw [Str.length_append]; omega
      · rw [Str.length_append, Str.length_append]; omega)
    have hlen : (ns.take 17).length = 17 := by rw [List.length_take, h.len]; rfl
    have ee : ((List.range (ns.take 17).length).map fun i => "peg " ++ (ns.take 17).getD i "" ++ " " ++ ((toString ((i : Nat) : Int) : String) : Str)) = pegsL ns 17 := by
      rw [hlen]
      unfold pegsL
      refine List.map_congr_left fun i hi => ?_
      rw [getD_take ns (by simpa using hi)]
      rfl
    rw [ee] at e
    exact e
  obtain ⟨d1, st1, e1, f1, p1⟩ := Ev.setLc ev1 1
  have e1 : _ = some (Rs.ok (Fl.nx (E (some d1) none none none none)) st1) := e1
  have hr1 := f1.lt hr0
  have ln1 := ln0.mono f1.e1
  -- rings
  have ev2 : Ev st1 (E (some d1) none none none none) (LAt 0 (ringsL ns 9)) (lcF (iterF (sliceF (varF 0) (partF (conF (.int 17))) noPart)) (gNameF 6) yesT (binF addD (binF addD (conF (.str "ring ")) (varF 6)) (conF (.str " 0 0"))) [6]) := by
    have e := Ev.comp (st0 := st1) (env := E (some d1) none none none none) (r := 0) (i := 6) (vs := [6]) (xs := ns.drop 17) (g := binF addD (binF addD (conF (.str "ring ")) (varF 6)) (conF (.str " 0 0"))) (fun w => "ring " ++ w ++ " 0 0") (Ev.drop 17 (Ev.varL 0 rfl ln1) hr1) hr1 (by rw [List.length_drop, h.len]; decide) (fun w hw s => by
      have lw := nl (List.mem_of_mem_drop hw)
      have l5 : ("ring " : Str).length = 5 := by decide +kernel
      have l4 : (" 0 0" : Str).length = 4 := by decide +kernel
      have v6 : varF 6 ((wipeE (E (some d1) none none none none) [6]).set 6 (some (D.str w))) s = some (Rs.ok (D.str w) s) := rfl
      refine cat_at (cat_at rfl v6 ?_) rfl ?_
      · omega
      · rw [Str.length_append]; omega)
    have ee : (ns.drop 17).map (fun w => ("ring " : Str) ++ w ++ " 0 0") = ringsL ns 9 := by
      have e9 : ns.drop 17 = (ns.drop 17).take 9 := by rw [List.take_of_length_le (by rw [List.length_drop, h.len]; decide)]
      rw [e9, drop_get ns 17 9 (by rw [h.len]; decide), List.map_map]
      rfl
    rw [ee] at e
    exact e
  obtain ⟨d2, st2, e2, f2, p2⟩ := Ev.setLc ev2 2
  have e2 : _ = some (Rs.ok (Fl.nx (E (some d1) (some d2) none none none)) st2) := e2
  have hr2 := f2.lt hr1
  have ln2 := ln1.mono f2.e1
  have p12 := p1.mono f2.e1
  have t2 := frm_tab (frm_tab h0 f1 (by simp)) f2 (by simp)
  -- the first checks
  have tk : ∀ {a b : Nat} (f : Nat → Str), a ≤ b → ((List.range b).map f).take a = (List.range a).map f := fun {a b} f hab => by rw [← List.map_take, List.take_range, Nat.min_eq_left hab]
  have q1 : Ev st2 (E (some d1) (some d2) none none none) (LAt 0 (L1 ++ pegsL ns 16 ++ ringsL ns 8)) (binF addD (binF addD (lstF (consA (conF (.str "net 1")) nilA)) (sliceF (varF 1) noPart (partF (conF (.int 16))))) (sliceF (varF 2) noPart (partF (conF (.int 8))))) := by
    have e := Ev.app (Ev.app (Ev.lst (st0 := st2) (env := E (some d1) (some d2) none none none) (r := 0) (EvS.cons (Ev.lit "net 1" (k := 20)) EvS.nil) hr2) (Ev.take 16 (Ev.varL 1 rfl p12) hr2) hr2 (by simp [pegsL])) (Ev.take 8 (Ev.varL 2 rfl p2) hr2) hr2 (by simp [pegsL, ringsL])
    unfold pegsL ringsL at e
    rw [tk _ (by decide), tk _ (by decide)] at e
    exact e
  have q2 : Ev st2 (E (some d1) (some d2) none none none) (LAt 0 (L1 ++ pegsL ns 17)) (binF addD (lstF (consA (conF (.str "net 1")) nilA)) (varF 1)) :=
    Ev.app (xs := ["net 1"]) (Ev.lst (EvS.cons (Ev.lit "net 1" (k := 20)) EvS.nil) hr2) (Ev.varL 1 rfl p12) hr2 (by simp [pegsL])
  have q3 : Ev st2 (E (some d1) (some d2) none none none) (LAt 0 (L1 ++ pegsL ns 2 ++ ringsL ns 9)) (binF addD (binF addD (lstF (consA (conF (.str "net 1")) nilA)) (sliceF (varF 1) noPart (partF (conF (.int 2))))) (sliceF (varF 2) noPart (partF (conF (.int 9))))) := by
    have e := Ev.app (Ev.app (Ev.lst (st0 := st2) (env := E (some d1) (some d2) none none none) (r := 0) (EvS.cons (Ev.lit "net 1" (k := 20)) EvS.nil) hr2) (Ev.take 2 (Ev.varL 1 rfl p12) hr2) hr2 (by simp [pegsL])) (Ev.take 9 (Ev.varL 2 rfl p2) hr2) hr2 (by simp [pegsL, ringsL])
    unfold pegsL ringsL at e
    rw [tk _ (by decide), tk _ (by decide)] at e
    exact e
  obtain ⟨st3, k1, f3⟩ := chk c (d := D.non) q1 t2 h.c1 rfl st2 (Frm.refl _ _)
  obtain ⟨st4, k2, f4⟩ := chk c (d := D.int 18) q2 t2 h.c2 rfl st3 f3
  obtain ⟨st5, k3, f5⟩ := chk c (d := D.int 12) q3 t2 h.c3 rfl st4 (f3.trans f4)
  have f25 := (f3.trans f4).trans f5
  -- the cords
  obtain ⟨r, hr⟩ : ∃ r, st5.length = r := ⟨_, rfl⟩
  let s0 := st5 ++ [Cell.lst []]
  have e6 : asgS (lstF nilA) (gNameF 3) (E (some d1) (some d2) none none none) st5 = some (Rs.ok (Fl.nx (E (some d1) (some d2) (some (D.cell r)) none none)) s0) := by
    rw [← hr]; rfl
  have fs0 : Frm st s0 [] := ((f1.trans f2).trans f25).trans (Frm.app _ _ _)
  have g0 : s0[r]? = some (Cell.lst []) := hr ▸ get_end _ _
  have lnr : LAt r ns (D.cell n) s0 := hr ▸ LAt.shift (ln2.mono f25.e1) (Cell.lst [])
  have p1r : LAt r (pegsL ns 17) d1 s0 := hr ▸ LAt.shift (p12.mono f25.e1) (Cell.lst [])
  have p2r : LAt r (ringsL ns 9) d2 s0 := hr ▸ LAt.shift (p2.mono f25.e1) (Cell.lst [])
  have hrs : r < s0.length := lt_of g0
  have rge : st.length ≤ r := by rw [← hr]; exact ((f1.trans f2).trans f25).le
  have evI : Ev s0 (E (some d1) (some d2) (some (D.cell r)) none none) (LAt r ((ns.drop 17).take 3)) (sliceF (varF 0) (partF (conF (.int 17))) (partF (conF (.int 20)))) := Ev.cut 17 20 (by decide) (by rw [h.len]; decide) (Ev.varL 0 rfl lnr) hrs
  obtain ⟨_, s1, eI, fI, kI, hkI, rfl, gI⟩ := evI s0 (Frm.refl _ _)
  have r3 : (ns.drop 17).take 3 = (List.range 3).map fun j => ns.getD (17 + j) "" := drop_get ns 17 3 (by rw [h.len]; decide)
  rw [r3] at gI
  let B : SF := exprS (mthF kLst extendD (varF 3) (consA (lcF (iterF (sliceF (varF 0) (partF (conF (.int 1))) (partF (conF (.int 8))))) (gNameF 8) yesT (binF addD (binF addD (binF addD (conF (.str "cord ")) (varF 4)) (conF (.str " "))) (varF 8)) [8]) nilA))
  let I : Nat → PF.Env → Store → Prop := fun j env s => ∃ x, env = E (some d1) (some d2) (some (D.cell r)) x none ∧ Frm s1 s [r] ∧ s[r]? = some (Cell.lst ((cordsL ns j).map D.str))
  have lenC : ∀ j, (cordsL ns j).length = 7 * j := fun j => by
    induction j with
    | zero => rfl
    | succ j ih => simp [cordsL, ih]; omega
  have step : ∀ j env s, j < 3 → I j env s → ∃ d env1 s2 env2 s3, (ItV.lst kI).nxt j s = some (some d) ∧ gNameF 4 d env s = some (Rs.ok env1 s2) ∧ B env1 s2 = some (Rs.ok (Fl.nx env2) s3) ∧ I (j + 1) env2 s3 := by
    rintro j env s hj ⟨x, rfl, fr, gs⟩
    have gk := fr.get gI (by simpa using hkI)
    let w := ns.getD (17 + j) ""
    have lw : w.length ≤ 6 := nl (h.at (by omega))
    have hrs' : r < s.length := lt_of gs
    have lns : LAt r ns (D.cell n) s := (lnr.mono fI.e1).mono fr
    have ev : Ev s (E (some d1) (some d2) (some (D.cell r)) (some (D.str w)) none) (LAt r ((List.range 7).map (cordL ns j))) (lcF (iterF (sliceF (varF 0) (partF (conF (.int 1))) (partF (conF (.int 8))))) (gNameF 8) yesT (binF addD (binF addD (binF addD (conF (.str "cord ")) (varF 4)) (conF (.str " "))) (varF 8)) [8]) := by
      have e := Ev.comp (st0 := s) (env := E (some d1) (some d2) (some (D.cell r)) (some (D.str w)) none) (r := r) (i := 8) (vs := [8]) (xs := (ns.drop 1).take 7) (g := binF addD (binF addD (binF addD (conF (.str "cord ")) (varF 4)) (conF (.str " "))) (varF 8)) (fun v => "cord " ++ w ++ " " ++ v) (Ev.cut 1 8 (by decide) (by rw [h.len]; decide) (Ev.varL 0 rfl lns) hrs') hrs' (by rw [List.length_take]; omega) (fun v hv s => by
        have lv := nl (List.mem_of_mem_drop (List.mem_of_mem_take hv))
        have l5 : ("cord " : Str).length = 5 := by decide +kernel
        have l1 : (" " : Str).length = 1 := by decide +kernel
        have v4 : varF 4 ((wipeE (E (some d1) (some d2) (some (D.cell r)) (some (D.str w)) none) [8]).set 8 (some (D.str v))) s = some (Rs.ok (D.str w) s) := rfl
        have v8 : varF 8 ((wipeE (E (some d1) (some d2) (some (D.cell r)) (some (D.str w)) none) [8]).set 8 (some (D.str v))) s = some (Rs.ok (D.str v) s) := rfl
        refine cat_at (cat_at (cat_at rfl v4 ?_) rfl ?_) v8 ?_
        · omega
        · rw [Str.length_append]; omega
        · rw [Str.length_append, Str.length_append]; omega)
      rw [drop_get ns 1 7 (by rw [h.len]; decide), List.map_map] at e
      exact e
    obtain ⟨s', e', f', g'⟩ := Ev.extendS (i := 3) (xs := cordsL ns j) ev rfl gs (by rw [lenC]; simp; omega)
    refine ⟨D.str w, _, s, E (some d1) (some d2) (some (D.cell r)) (some (D.str w)) none, s', ?_, rfl, e', some (D.str w), rfl, fr.trans f', g'⟩
    simp only [ItV.nxt, gk, List.getElem?_map, List.getElem?_range hj, Option.map_some]
    rfl
  obtain ⟨env6, s6, run, x6, rfl, f6, g6⟩ := forL_inv 3 I step (fun env s hI => by
    obtain ⟨_, _, fr, _⟩ := hI
    have gk := fr.get gI (by simpa using hkI)
    simp only [ItV.nxt, gk]
    rfl) 3 FUEL 0 (E (some d1) (some d2) (some (D.cell r)) none none) s1 (by omega) (by unfold FUEL; omega) ⟨none, rfl, Frm.refl _ _, fI.get g0⟩
  have e7 : forS (iterF (sliceF (varF 0) (partF (conF (.int 17))) (partF (conF (.int 20))))) (gNameF 4) B (E (some d1) (some d2) (some (D.cell r)) none none) s0 = some (Rs.ok (Fl.nx (E (some d1) (some d2) (some (D.cell r)) x6 none)) s6) := by
    unfold forS
    have it : iterF (sliceF (varF 0) (partF (conF (.int 17))) (partF (conF (.int 20)))) (E (some d1) (some d2) (some (D.cell r)) none none) s0 = some (Rs.ok (ItV.lst kI) s1) := by
      unfold iterF
      rw [eI, bindR_ok]
      simp only [gI]
    rw [it, bindR_ok]
    exact run
  -- the end
  have f06 : Frm s0 s6 [r] := fI.e1.trans f6
  have fst6 : Frm st s6 [] := ((fs0.e1 (r := r)).trans f06).less rge
  have t6 := frm_tab h0 fst6 (by simp)
  have hr6 : 0 < s6.length := lt_of t6
  have p16 := LAt.to0 (p1r.mono f06) t6
  have p26 := LAt.to0 (p2r.mono f06) t6
  have ev8 : Ev s6 (E (some d1) (some d2) (some (D.cell r)) x6 none) (LAt 0 (L1 ++ pegsL ns 8 ++ ringsL ns 3)) (binF addD (binF addD (lstF (consA (conF (.str "net 1")) nilA)) (sliceF (varF 1) noPart (partF (conF (.int 8))))) (sliceF (varF 2) noPart (partF (conF (.int 3))))) := by
    have e := Ev.app (Ev.app (Ev.lst (st0 := s6) (env := E (some d1) (some d2) (some (D.cell r)) x6 none) (r := 0) (EvS.cons (Ev.lit "net 1" (k := 20)) EvS.nil) hr6) (Ev.take 8 (Ev.varL 1 rfl p16) hr6) hr6 (by simp [pegsL])) (Ev.take 3 (Ev.varL 2 rfl p26) hr6) hr6 (by simp [pegsL, ringsL])
    unfold pegsL ringsL at e
    rw [tk _ (by decide), tk _ (by decide)] at e
    exact e
  obtain ⟨d5, s7, e8, f7, p5⟩ := Ev.set ev8 5
  have e8 : _ = some (Rs.ok (Fl.nx (E (some d1) (some d2) (some (D.cell r)) x6 (some d5))) s7) := e8
  have t7 := frm_tab t6 f7 (by simp)
  have hr7 : 0 < s7.length := lt_of t7
  have pc : LAt 0 (cordsL ns 3) (D.cell r) s7 := ⟨r, by omega, rfl, f7.get g6⟩
  have l12 : (L1 ++ pegsL ns 8 ++ ringsL ns 3).length = 12 := by simp [L1, pegsL, ringsL]
  have l21 := lenC 3
  have q4 : Ev s7 (E (some d1) (some d2) (some (D.cell r)) x6 (some d5)) (LAt 0 (L1 ++ pegsL ns 8 ++ ringsL ns 3 ++ (cordsL ns 3).take 20)) (binF addD (varF 5) (sliceF (varF 3) noPart (partF (conF (.int 20))))) :=
    Ev.app (Ev.varL 5 rfl p5) (Ev.take 20 (Ev.varL 3 rfl pc) hr7) hr7 (by rw [l12, List.length_take, l21]; decide)
  have q5 : Ev s7 (E (some d1) (some d2) (some (D.cell r)) x6 (some d5)) (LAt 0 (L1 ++ pegsL ns 8 ++ ringsL ns 3 ++ cordsL ns 3)) (binF addD (varF 5) (varF 3)) :=
    Ev.app (Ev.varL 5 rfl p5) (Ev.varL 3 rfl pc) hr7 (by rw [l12, l21]; decide)
  obtain ⟨s8, k4, f8⟩ := chk c (d := D.non) q4 t7 h.c4 rfl s7 (Frm.refl _ _)
  obtain ⟨s9, k5', f9⟩ := chk c (d := D.int 33) q5 t7 h.c5 rfl s8 f8
  refine ⟨PF.trim st (D.bl true) s9, ?_, (((fst6.trans f7).trans f8).trans f9).trim⟩
  unfold m__law_are_counts_right b__law_are_counts_right runM
  have e00 : (([D.cell n] : List D).map some ++ List.replicate (9 - ([D.cell n] : List D).length) none : PF.Env) = E none none none none none := rfl
  rw [e00, seqS_nx e1, seqS_nx e2, seqS_nx (if_chk2 k1 k2 _), seqS_nx (if_chk k3 _), seqS_nx e6, seqS_nx e7, seqS_nx e8]
  simp only [retS, andF, k4, k5', bindR_ok, truD]
end Cr
end
section
namespace Cr
open PySem PF
def pool8 : List Str := ["moon", "x", "net", "peg", "ring", "zzzzzz", "cord", "k"]
theorem pool_ok : ∀ x ∈ pool8, isName x = true ∧ x ≠ "d" ∧ x ≠ "qq" ∧ x ≠ "zz" ∧ x ≠ "" := by decide +kernel
theorem right_law (c : Cs) (st : Store) (p : Nat) (h0 : tabAt c st) (hp : p ≠ 0) (pot : PotAt st p 0) : ∃ st', m__law_right c [D.cell p] st = some (Rs.ok (D.bl true) st') := by
  let E : Option D → Option D → Option D → Option D → PF.Env := fun s1 s2 s3 s4 => [some (D.cell p), s1, s2, s3, s4]
  have hpl : p < st.length := by obtain ⟨_, _, _, e, _⟩ := pot; exact lt_of e
  obtain ⟨k, st1, ns, e1, g1, l1, nd1, nm1, f1, pot1, hk⟩ := wide_law c st p 0 pot (by decide) (by decide)
  have t1 : asgS (dcallF 2 (m__law_wide_names c) (consA (varF 0) (consA (conF (.int 26)) nilA))) (gNameF 1) (E none none none none) st = some (Rs.ok (Fl.nx (E (some (D.cell k)) none none none)) st1) := by
    have v0 : varF 0 (E none none none none) st = some (Rs.ok (D.cell p) st) := rfl
    simp only [asgS, dcallF, consA, nilA, v0, conF, bindR_ok, List.length_cons, List.length_nil, Nat.reduceAdd, if_true, e1]
    rfl
  have tab1 := frm_tab h0 f1 (by simp; omega)
  let st2 := st1 ++ [Cell.lst (pool8.map D.str)]
  have f2 : Frm st1 st2 [] := Frm.app _ _ _
  have g2 : st2[st1.length]? = some (Cell.lst (pool8.map D.str)) := get_end _ _
  have hp1 : p < st1.length := f1.lt hpl
  obtain ⟨kf, st3, found, rest, e3, g3, l3, perm, f3, pot3, hkf⟩ := some_law c st2 p st1.length 3 (0 + 1000) (pool8.map D.str) (pot1.frm f2 (by simp)) g2 (by decide +kernel) (by decide +kernel) (by decide) (by decide)
  have nd : found.Nodup := by
    have : (pool8.map D.str).Nodup := by
      unfold List.Nodup
      rw [List.pairwise_map]
      have : pool8.Nodup := by decide +kernel
      unfold List.Nodup at this
      exact this.imp fun {a b} h z => h (D.str.inj z)
    exact (List.nodup_append.mp ((perm.nodup_iff).mpr this)).1
  have mem : ∀ d ∈ found, ∃ x ∈ pool8, d = D.str x := fun d hd => by
    obtain ⟨x, hx, e⟩ := List.mem_map.mp (perm.mem_iff.mp (List.mem_append_left _ hd))
    exact ⟨x, hx, e.symm⟩
  obtain ⟨a, b, z, ha, hb, hz, rfl⟩ : ∃ a b z, a ∈ pool8 ∧ b ∈ pool8 ∧ z ∈ pool8 ∧ found = [D.str a, D.str b, D.str z] := by
    match found, l3, mem with
    | [x, y, w], _, mem =>
      obtain ⟨a, ha, rfl⟩ := mem x (by simp)
      obtain ⟨b, hb, rfl⟩ := mem y (by simp)
      obtain ⟨z, hz, rfl⟩ := mem w (by simp)
      exact ⟨a, b, z, ha, hb, hz, rfl⟩
  have abz : Abz a b z := by
    have nd2 : a ≠ b ∧ a ≠ z ∧ b ≠ z := by
      simp only [List.nodup_cons, List.mem_cons, List.not_mem_nil, or_false, not_or, D.str.injEq] at nd
      exact ⟨nd.1.1, nd.1.2, nd.2.1⟩
    refine ⟨(pool_ok a ha).1, (pool_ok b hb).1, (pool_ok z hz).1, nd2.1, nd2.2.1, nd2.2.2, fun x hx => ?_⟩
    have : x = a ∨ x = b ∨ x = z := by simpa using hx
    rcases this with rfl | rfl | rfl
    · exact (pool_ok _ ha).2
    · exact (pool_ok _ hb).2
    · exact (pool_ok _ hz).2
  have t3 : asgS (dcallF 3 (m__law_some c) (consA (varF 0) (consA (lstF (consA (conF (.str "moon")) (consA (conF (.str "x")) (consA (conF (.str "net")) (consA (conF (.str "peg")) (consA (conF (.str "ring")) (consA (conF (.str "zzzzzz")) (consA (conF (.str "cord")) (consA (conF (.str "k")) nilA))))))))) (consA (conF (.int 3)) nilA)))) (gTupF 3 (gConsF (gNameF 2) (gConsF (gNameF 3) (gConsF (gNameF 4) gNilF)))) (E (some (D.cell k)) none none none) st1 = some (Rs.ok (Fl.nx (E (some (D.cell k)) (some (D.str a)) (some (D.str b)) (some (D.str z)))) st3) := by
    have v0 : varF 0 (E (some (D.cell k)) none none none) st1 = some (Rs.ok (D.cell p) st1) := rfl
    have vl : lstF (consA (conF (.str "moon")) (consA (conF (.str "x")) (consA (conF (.str "net")) (consA (conF (.str "peg")) (consA (conF (.str "ring")) (consA (conF (.str "zzzzzz")) (consA (conF (.str "cord")) (consA (conF (.str "k")) nilA)))))))) (E (some (D.cell k)) none none none) st1 = some (Rs.ok (D.cell st1.length) st2) := rfl
    have v3 : consA (conF (.int 3)) nilA (E (some (D.cell k)) none none none) st2 = some (Rs.ok [D.int 3] st2) := rfl
    have e3' : m__law_some c [D.cell p, D.cell st1.length, D.int 3] st2 = some (Rs.ok (D.cell kf) st3) := e3
    have c1 : consA (varF 0) (consA (lstF (consA (conF (.str "moon")) (consA (conF (.str "x")) (consA (conF (.str "net")) (consA (conF (.str "peg")) (consA (conF (.str "ring")) (consA (conF (.str "zzzzzz")) (consA (conF (.str "cord")) (consA (conF (.str "k")) nilA))))))))) (consA (conF (.int 3)) nilA)) (E (some (D.cell k)) none none none) st1 = some (Rs.ok [D.cell p, D.cell st1.length, D.int 3] st2) := rfl
    unfold asgS dcallF
    rw [c1]
    simp only [bindR_ok, List.length_cons, List.length_nil, Nat.reduceAdd, if_true, e3', gTupF, g3]
    rfl
  have tab3 : tabAt c st3 := frm_tab (frm_tab tab1 f2 (by simp)) f3 (by simp; omega)
  have g13 : st3[k]? = some (Cell.lst (ns.map D.str)) := f3.get (f2.get g1) (by simp; omega)
  obtain ⟨st4, e4, f4⟩ := counts_law c st3 k ns tab3 g13 ⟨l1, nd1, nm1⟩
  have tab4 := frm_tab tab3 f4 (by simp)
  obtain ⟨st5, e5, f5⟩ := numbers_law c st4 a b tab4 abz.na abz.nb abz.ab
  have tab5 := frm_tab tab4 f5 (by simp)
  obtain ⟨st6, e6, f6⟩ := lines_law c st5 a b z tab5 abz
  refine ⟨PF.trim st (D.bl true) st6, ?_⟩
  unfold m__law_right b__law_right runM
  have e00 : (([D.cell p] : List D).map some ++ List.replicate (5 - ([D.cell p] : List D).length) none : PF.Env) = E none none none none := rfl
  rw [e00, seqS_nx t1, seqS_nx t3]
  let F := E (some (D.cell k)) (some (D.str a)) (some (D.str b)) (some (D.str z))
  have v1 : ∀ s, varF 1 F s = some (Rs.ok (D.cell k) s) := fun _ => rfl
  have v2 : ∀ s, varF 2 F s = some (Rs.ok (D.str a) s) := fun _ => rfl
  have v3 : ∀ s, varF 3 F s = some (Rs.ok (D.str b) s) := fun _ => rfl
  have v4 : ∀ s, varF 4 F s = some (Rs.ok (D.str z) s) := fun _ => rfl
  have hF : E (some (D.cell k)) (some (D.str a)) (some (D.str b)) (some (D.str z)) = F := rfl
  rw [hF]
  simp only [retS, andF, dcallF, consA, nilA, v1, v2, v3, v4, bindR_ok, List.length_cons, List.length_nil, Nat.reduceAdd, if_true, e4, e5, e6, truD]
theorem law_of_pot (c : Cs) (st : Store) (d : D) (ns : List Int) (h0 : tabAt c st) (h1 : lenD [d] st = some (Rs.ok (D.int ns.length) st)) (h2 : ∀ x, ns[0]? = some x → ixqD d (D.int 0) st = some (Rs.ok (D.int x) st)) (h3 : ns = [] → slD d none (some 1) st = some (Rs.ok (D.cell st.length) (st ++ [Cell.lst []]))) : ∃ st', m_law c [d] st = some (Rs.ok (D.bl true) st') := by
  obtain ⟨k, st1, e1, pot, f1, hk⟩ := pot_law c st d ns h1 h2 h3
  have hl : 0 < st.length := lt_of h0
  obtain ⟨st2, e2⟩ := right_law c st1 k (frm_tab h0 f1 (by simp)) (by omega) pot
  refine ⟨PF.trim st (D.bl true) st2, ?_⟩
  unfold m_law b_law runM
  simp only [List.map_cons, List.map_nil, List.length_cons, List.length_nil, Nat.reduceSub, List.replicate_zero, List.append_nil, Nat.reduceAdd, retS, dcallF, consA, nilA, varF, conF, List.getElem?_cons_zero, bindR_ok, if_true, e1, e2]
theorem main_ok (c : Cs) (ns : List Int) (hl : ns.length ≤ 63) (hb : ∀ z ∈ ns, Builtin.Int.intBits z ≤ 1048576) (d : D) (st : Store) (h : (d = D.fl (ns.map D.int) ∧ st = [Cell.tab c.t__law_is_due q__law_is_due]) ∨ (d = D.cell 1 ∧ st = [Cell.tab c.t__law_is_due q__law_is_due] ++ [Cell.lst (ns.map D.int)])) : ∃ st', m_law c [d] st = some (Rs.ok (D.bl true) st') := by
  rcases h with ⟨rfl, rfl⟩ | ⟨rfl, rfl⟩
  · refine law_of_pot c _ _ ns rfl ?_ (fun x hx => ?_) (fun hn => ?_)
    · simp only [lenD, List.length_map]
    · have e : (ns.map D.int)[0]? = some (D.int x) := by rw [List.getElem?_map, hx]; rfl
      have := L2.atI_nat e
      simp only [ixqD, isDct, Bool.false_eq_true, if_false, ixD]
      rw [show (0 : Int) = ((0 : Nat) : Int) from rfl, this]
    · subst hn
      rfl
  · have g : ([Cell.tab c.t__law_is_due q__law_is_due] ++ [Cell.lst (ns.map D.int)])[1]? = some (Cell.lst (ns.map D.int)) := rfl
    refine law_of_pot c _ _ ns rfl ?_ (fun x hx => ?_) (fun hn => ?_)
    · simp only [lenD, g, List.length_map]
    · have e : (ns.map D.int)[0]? = some (D.int x) := by rw [List.getElem?_map, hx]; rfl
      exact ixq_at g (i := 0) e
    · subst hn
      rfl
end Cr
end
section
namespace Cr
open PySem PySem.Spec PyProof.Rows L2 PF
theorem all_ok {P : Program} {w : World} {K : Frag} {mg : Str → Option Value} {base : Heap} {c : Cs} {f : Addr} {fd : FuncData} (T : Tx P w K mg base c) (F : Fun K "law" "law" s_law f fd) : FnOk P w K mg base (L2.CX P w) 16 f fd ["script"] (spF K 1 (m_law c)) := by
  have h_is_name := ok_is_name T
  have h_read_integer := ok_read_integer T
  have h_read_fraction := ok_read_fraction T h_read_integer
  have h_fits := ok_fits T
  have h_read_row := ok_read_row T h_fits h_read_fraction
  have h_DraftU_initU := ok_DraftU_initU T
  have h_Draft_take_head := ok_Draft_take_head T
  have h_Draft_new_row := ok_Draft_new_row T h_is_name h_read_row
  have h_Draft_can_tie := ok_Draft_can_tie T
  have h__law_pot := ok__law_pot T
  have h__law_take := ok__law_take T
  have h__law_of := ok__law_of T h__law_take
  have h__law_some := ok__law_some T h__law_take
  have h__law_wide_names := ok__law_wide_names T h__law_of h__law_some h__law_take
  have h_Draft_take_peg := ok_Draft_take_peg T h_Draft_new_row
  have h_Draft_take_ring := ok_Draft_take_ring T h_Draft_new_row
  have h_Draft_take_cord := ok_Draft_take_cord T h_Draft_can_tie
  have h_Draft_take := ok_Draft_take T h_Draft_take_cord h_Draft_take_head h_Draft_take_peg h_Draft_take_ring
  have h_read_draft := ok_read_draft T h_DraftU_initU h_Draft_take
  have h_NetU_initU := ok_NetU_initU T h_read_draft
  have h__law_is_due := ok__law_is_due T h_NetU_initU
  have h__law_are_counts_right := ok__law_are_counts_right T h__law_is_due
  have h__law_are_numbers_right := ok__law_are_numbers_right T h__law_is_due
  have h__law_are_lines_right := ok__law_are_lines_right T h__law_is_due
  have h__law_right := ok__law_right T h__law_are_counts_right h__law_are_lines_right h__law_are_numbers_right h__law_some h__law_wide_names
  have nd := sc_law.nd
  refine fn_ok (k := 15) F sc_law fun cdv A outer s H E hr => ?_
  have tk := takes_of (X := cxOf (L2.CX P w) P w K mg base [("script" : Str)] "law" (defScope s_law) f cdv A outer s H E) rfl rfl rfl rfl
  have px := passes_call (X := cxOf (L2.CX P w) P w K mg base [("script" : Str)] "law" (defScope s_law) f cdv A outer s H E) tk (fun _ _ _ _ h => h)
  have po := passes_of (X := cxOf (L2.CX P w) P w K mg base [("script" : Str)] "law" (defScope s_law) f cdv A outer s H E) rfl
  exact (pfs_one (pfs_ret (pf_call h__law_right hr (by decide) px (pfa_cons (pf_call h__law_pot hr (by decide) px (pfa_cons (pf_var 0) (pfa_cons pf_int pfa_nil))) pfa_nil))))

def tabsC (c : Cs) : Store := [Cell.tab c.t__law_is_due q__law_is_due]
theorem start_ok {K : Frag} {H : Hp} {a : Addr} {ns : List Int} (hl : ns.length ≤ 63) (hb : ∀ z ∈ ns, Builtin.Int.intBits z ≤ 1048576) (ht : ∀ p ∈ tfL.map (He.cT K), H p.2 = some (.tbl #[])) (hs : SqL K H a (ns.map V.int)) :
    spF K 1 (m_law (csOf K)) [.ref a] H (fun v _ => v = .bl true) fun _ _ _ => False := by
  have rvs : ∀ (ρ : List Addr) (l : List Int), RVs K ρ H (l.map V.int) (l.map D.int) := fun ρ l => by
    induction l with
    | nil => exact .nil
    | cons i l ih => exact .cons (.int i) ih
  have post : ∀ (ρ : List Addr) (r : Option (Rs D)), (∃ st', r = some (Rs.ok (D.bl true) st')) → Post K H ρ r (PQ K fun v _ => v = .bl true) fun _ _ _ => False := fun ρ r h => by
    obtain ⟨st', rfl⟩ := h
    intro H' ρ' _ _ _ v rv
    cases rv
    rfl
  have t0 : H (csOf K).t__law_is_due = some (.tbl #[]) := ht (He.cT K ("_law_is_due", none)) (List.mem_map_of_mem (by simp [tfL]))
  have r0 : Rel K [(csOf K).t__law_is_due] (tabsC (csOf K)) H := ⟨rfl, fun i j b hi hj => by
      match i, j with
      | 0, 0 => rfl
      | 0, j + 1 => simp at hj
      | i + 1, j => simp at hi, fun i cc b hi hb2 => by
      match i with
      | 0 =>
        cases hi; cases hb2
        exact ⟨rfl, LamX.TabS.nil t0⟩
      | i + 1 => simp at hb2⟩
  have fz : FzL K H a (ns.map V.int) → spF K 1 (m_law (csOf K)) [.ref a] H (fun v _ => v = .bl true) fun _ _ _ => False := fun f =>
    ⟨_, [D.fl (ns.map D.int)], tabsC (csOf K), r0, .cons (.fl f (rvs _ ns)) .nil, rfl, post _ _ (main_ok (csOf K) ns hl hb _ _ (.inl ⟨rfl, rfl⟩))⟩
  rcases hs with (h | h) | h
  · have ne : a ≠ (csOf K).t__law_is_due := fun z => by rw [z, t0] at h; cases h
    refine ⟨[(csOf K).t__law_is_due, a], [D.cell 1], tabsC (csOf K) ++ [Cell.lst (ns.map D.int)], ⟨rfl, fun i j b hi hj => ?_, fun i cc b hi hb2 => ?_⟩, .cons (.cell rfl) .nil, rfl, post _ _ (main_ok (csOf K) ns hl hb _ _ (.inr ⟨rfl, rfl⟩))⟩
    · match i, j with
      | 0, 0 => rfl
      | 1, 1 => rfl
      | 0, 1 => cases hi; cases hj; exact absurd rfl ne
      | 1, 0 => cases hi; cases hj; exact absurd rfl ne
      | i + 2, _ => simp at hi
      | _, j + 2 => simp at hj
    · match i with
      | 0 =>
        cases hi; cases hb2
        exact ⟨rfl, LamX.TabS.nil t0⟩
      | 1 =>
        cases hi; cases hb2
        exact ⟨_, h, rvs _ ns⟩
      | i + 2 => simp at hb2
  · exact fz (.inl h)
  · exact fz (.inr h)
theorem in_tab {K : Frag} {tf : List He.Defn} {Q : Addr × Addr → Prop} {p : Addr × Addr} (hp : p ∈ tf.map (He.cT K)) (h : ∀ z ∈ tf, Q (He.cT K z)) : Q p := by
  obtain ⟨z, hz, rfl⟩ := List.mem_map.mp hp
  exact h z hz
theorem in_hd {K : Frag} {h : Heap} {tf : List He.Defn} {p : Addr × Addr} (KX : K.In h) (hp : p ∈ tf.map (He.cT K)) (hh : ∀ z ∈ tf, PySem.W.codeHdIn K (He.cT K z).1 (He.cT K z).2 = true) : PySem.W.CodeHd h p.1 p.2 := by
  obtain ⟨z, hz, rfl⟩ := List.mem_map.mp hp
  exact PySem.W.codeHd_of_K KX (hh z hz)
theorem cx_no {P : Program} {w : World} {H : Hp} {s : Shared} {e : Value} {s' : Shared} (z : L2.CX P w [] H s (fun _ _ _ => False) e s') : False := by
  unfold L2.CX at z
  obtain ⟨_, _, _, _, _, z⟩ := z
  first | exact z | exact z.elim | simp at z
theorem law_ex {w : World} {K : Frag} {h : Heap} {mg : Str → Option Value} {f : Addr} (X : K.In h) (G : h.Ns mainGlobals mg) (hfa : mg ("law" : Str) = some (.ref f)) (c : He.SaysX faL fnL [] tfL exL w h K) :
    ∃ fd : FuncData, (∀ (s : Shared) (v : Value), BindsTo s fd ⟨[v], []⟩ [("script", v)]) ∧ ∀ base : Heap, K.In base → base.Ns mainGlobals mg → (∀ p ∈ tfL.map (He.cT K), LamX.TabB base mg p.1 p.2) → FnOk (PySem.Challenge.rw_cordsatrest_k03_bounds_of_nets_by_hand).prog w K mg base (L2.CX (PySem.Challenge.rw_cordsatrest_k03_bounds_of_nets_by_hand).prog w) 16 f fd ["script"] (spF K 1 (m_law (csOf K))) := by
  obtain ⟨fd, E_⟩ := c.t.d.def_ 26 (d := ⟨("law", none), "law", "law", defArgs s_law, defBody s_law, defScope s_law, [], []⟩) rfl
  have D_ : FunD K "law" "law" (defArgs s_law) (defBody s_law) (defScope s_law) [] [] (He.fAd K ("law", none)) fd := E_
  have e := hfa.symm.trans (He.glo_ok X G (c.t.d.fact 26 (f := .glo "law") rfl))
  cases e
  have b := FunD.bindsA (ps := ["script"]) D_ fun _ _ _ _ _ _ us hl => match us, hl with | [_], _ => rfl
  refine ⟨fd, fun s v => b s [v] rfl, fun base XB GB TB => ?_⟩
  exact all_ok (tx_of X G c fun p hp => TB _ (List.mem_map_of_mem hp)) (fun_of D_)
end Cr
end
open PySem PySem.W PySem.Calls PyProof.Rows
theorem PySem.Challenge.cw_cordsatrest_k03_bounds_of_nets_by_hand_holds : PySem.Challenge.rw_cordsatrest_k03_bounds_of_nets_by_hand.Holds := by
  w_on; o_law
  refine HandSHeadRun.head_imp (r := Cr.Rw) (q := Cr.vwL) (H := Cr.hkL) (ob := Cr.obL) (M := 4000) (loose := Cr.looseL) (d := HandSHeadRun.topDef Cr.Rw.prog 34) (kwd := []) Cr.obL_eq Cr.runL
    (by kernel_rfl) (by kernel_rfl) (by kernel_rfl) (by rfl) (by first | assumption | decide +kernel) (by decide +kernel) ⟨rfl, rfl, rfl, rfl, rfl, by decide +kernel⟩ ?hw ?hc
  case hw => w_witness2
  case hc =>
    refine LamX.walk_ofTsE (l := PySem.Challenge.rw_cordsatrest_k03_bounds_of_nets_by_hand) (n := 63) (k := 16) (x := "script") (CX := fun w => L2.CX (PySem.Challenge.rw_cordsatrest_k03_bounds_of_nets_by_hand).prog w) rfl (by decide) (by kernel_rfl) ⟨rfl, by decide, by decide⟩ ?F (fun _ _ _ _ _ z => Cr.cx_no z)
    intro w mg fa h Y G hmg0
    obtain ⟨K, KX, c⟩ := Y
    have hmg : mg ("law" : PySem.Str) = some (.ref fa) := by
      have e : (HandSHeadRun.topDef Cr.Rw.prog 34).name = ("law" : PySem.Str) := by kernel_rfl
      rw [← e]
      exact hmg0
    refine ⟨K, KX, ?_⟩
    obtain ⟨fd, hb, hF⟩ := Cr.law_ex KX G hmg c
    exact ⟨fd, Cr.tfL.map (He.cT K), PF.spF K 1 (Cr.m_law (Cr.csOf K)), fun p hp => Cr.in_tab (Q := fun p => h.get? p.2 = some { cls := .none, data := .fields #[] }) hp c.empty, fun p hp => Cr.in_tab (Q := fun p => K.lookup p.2 = none) hp c.out, fun p hp => Cr.in_hd KX hp c.hd, hb, fun H a ns hl hbits ht hS => Cr.start_ok hl hbits ht hS, hF⟩
