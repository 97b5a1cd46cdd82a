import PyProof.Rows.All
import Wide.All
import OpenK.AllK
import Wide.FinOn
import PyProof.EqAt
import PyProof.EqKinds
import PyProof.TupleCall
import KE.DataEq
import HandS.Base
import HandS.Call
import HandS.List
import HandS.Comp
import HandS.Ends
import HandS.Dict
import HandS.Iter
import HandS.Walk
import HandS.Text
import HandS.Exc
import HandS.TryOnly
import HandS.TryElse
import HandS.ExcOwn
import HandS.IsInst
import HandS.TupLe
import HandS.TupAny
import HandS.Wide
import HandS.Words
import HandS.WordsList
import HandS.WordsDict
import HandS.WordsExc
import KE.GoesNew
import HandS.Deep
import HandS.Conv
import HandS.ExcIs
import HandS.More
import HandS.NoneIn
import HandS.Zip
import HandS.Rev
import HandS.Defaults
import HandS.DictComp
import HandS.DictEq
import HandS.DeepEq
import KE.KEqDict
import PyProof.NeKinds
import KE.SortKeyHeap
import HandS.SortKw
import PySem.Challenge.RW_worldorpaper_k87_one_form_of_a_clause
set_option Elab.async false
set_option linter.all false
set_option maxRecDepth 100000
set_option maxHeartbeats 4000000
/-! G: weakest readings, data that cannot change, slots by what they hold. -/
namespace G
open PySem PySem.Spec PyProof.Rows L2

/-! ### the weakest reading of a piece of syntax -/
structure wE (X : Cx) (e : Expr) (σ : L2.St) (H : Hp) (Q : VK) : Prop where
  go : ∀ pins s, Inv X pins σ H s → wpAny (model X.prog X.w) X.A (eval e X.env) (EP X pins σ Q) X.xe s
structure wT (X : Cx) (e : Expr) (σ : L2.St) (H : Hp) (Q : Bool → Hp → Prop) : Prop where
  go : ∀ pins s, Inv X pins σ H s → wpAny (model X.prog X.w) X.A (isTrue e X.env (eval e X.env)) (TP X pins σ Q) X.xe s
structure wA (X : Cx) (es : List Expr) (σ : L2.St) (H : Hp) (Q : List V → Hp → Prop) : Prop where
  go : ∀ pos pins s, Inv X pins σ H s → wpAny (model X.prog X.w) X.A (spliced (backTo pos (starEach es X.env))) (AP X pins σ Q) X.xe s
structure wS (X : Cx) (st : Stmt) (D : Ends) (σ : L2.St) (H : Hp) : Prop where
  go : ∀ pins s, Inv X pins σ H s → wpAny (model X.prog X.w) X.A (exec st X.env) (SP X pins D) X.xe s
structure wSs (X : Cx) (st : List Stmt) (D : Ends) (σ : L2.St) (H : Hp) : Prop where
  go : ∀ pins s, Inv X pins σ H s → wpAny (model X.prog X.w) X.A (execs st X.env) (SP X pins D) X.xe s
section
variable {X : Cx} {e : Expr} {es : List Expr} {st : Stmt} {sts : List Stmt} {te : TE} {tt : TT} {ta : TA} {ts : TS} {σ : L2.St} {H : Hp}
theorem pe_w : PE X e (wE X e) := ⟨fun pins s _ _ _ I h => h.go pins s I⟩
theorem pt_w : PT X e (wT X e) := ⟨fun pins s _ _ _ I h => h.go pins s I⟩
theorem pa_w : PA X es (wA X es) := ⟨fun pos pins s _ _ _ I h => h.go pos pins s I⟩
theorem ps_w : PS X st (wS X st) := ⟨fun pins s _ _ _ I h => h.go pins s I⟩
theorem pss_w : PSs X sts (wSs X sts) := ⟨fun pins s _ _ _ I h => h.go pins s I⟩
theorem wE.of {Q : VK} (h : PE X e te) (q : te σ H Q) : wE X e σ H Q := ⟨fun pins s I => h.run pins s σ H Q I q⟩
theorem wT.of {Q : Bool → Hp → Prop} (h : PT X e tt) (q : tt σ H Q) : wT X e σ H Q := ⟨fun pins s I => h.run pins s σ H Q I q⟩
theorem wA.of {Q : List V → Hp → Prop} (h : PA X es ta) (q : ta σ H Q) : wA X es σ H Q := ⟨fun pos pins s I => h.run pos pins s σ H Q I q⟩
theorem wS.of {D : Ends} (h : PS X st ts) (q : ts D σ H) : wS X st D σ H := ⟨fun pins s I => h.run pins s σ H D I q⟩
theorem wSs.of {D : Ends} (h : PSs X sts ts) (q : ts D σ H) : wSs X sts D σ H := ⟨fun pins s I => h.run pins s σ H D I q⟩
theorem wE.mono {Q Q' : VK} (h : wE X e σ H Q) (q : ∀ v H', Q v H' → Q' v H') : wE X e σ H Q' := ⟨fun pins s I =>
  thn (h.go pins s I) fun _ _ ⟨v, H', I', r, z⟩ => ⟨v, H', I', r, q v H' z⟩⟩
theorem wT.mono {Q Q' : Bool → Hp → Prop} (h : wT X e σ H Q) (q : ∀ v H', Q v H' → Q' v H') : wT X e σ H Q' := ⟨fun pins s I =>
  thn (h.go pins s I) fun _ _ ⟨H', I', z⟩ => ⟨H', I', q _ H' z⟩⟩
theorem wA.mono {Q Q' : List V → Hp → Prop} (h : wA X es σ H Q) (q : ∀ v H', Q v H' → Q' v H') : wA X es σ H Q' := ⟨fun pos pins s I =>
  thn (h.go pos pins s I) fun _ _ ⟨v, H', I', r, z⟩ => ⟨v, H', I', r, q v H' z⟩⟩
end

/-- an argument without a star -/
def plainE : Expr → Bool
  | .Starred .. => false
  | _ => true
theorem star1 {e : Expr} {es : List Expr} {env : Env} (h : plainE e = true) : starEach (e :: es) env = (false, eval e env) :: starEach es env := by
  cases e <;> first | (rw [starEach]; exact fun _ _ z => nomatch z) | rfl | cases h

/-! ### tuples stay -/
def Gw (H H' : Hp) : Prop := (∀ b xs, H b = some (.tup xs) → H' b = some (.tup xs)) ∧ ∀ b o u, H b = some (.frz o u) → H' b = some (.frz o u)
theorem Gw.refl (H : Hp) : Gw H H := ⟨fun _ _ h => h, fun _ _ _ h => h⟩
theorem Gw.trans {H H1 H2 : Hp} (a : Gw H H1) (b : Gw H1 H2) : Gw H H2 := ⟨fun c xs h => b.1 c xs (a.1 c xs h), fun c o u h => b.2 c o u (a.2 c o u h)⟩
theorem Same.gw {H H' : Hp} (e : Same H H') : Gw H H' := ⟨fun c _ h => e c _ h, fun c _ _ h => e c _ h⟩
theorem same_new {H : Hp} {p : Addr} {o : HO} (h : H p = none) : Same H (upd H p o) := fun b u q => by rw [upd_ne (ne_of_none q h)]; exact q
theorem gw_mut {H : Hp} {p : Addr} {o : HO} (h : Mut (H p)) : Gw H (upd H p o) :=
  ⟨fun b xs q => by rw [upd_ne (fun z => by subst z; rw [q] at h; exact h)]; exact q, fun b o u q => by rw [upd_ne (fun z => by subst z; rw [q] at h; exact h)]; exact q⟩
theorem Gw.sqt {K : PySem.W.Frag} {H H' : Hp} {a : Addr} {xs : List V} (e : Gw H H') (h : SqT K H a xs) : SqT K H' a xs := by
  rcases h with (h | ⟨o, h⟩) | h
  · exact .inl (.inl (e.1 _ _ h))
  · exact .inl (.inr ⟨o, e.2 _ _ _ h⟩)
  · exact .inr h

/-! ### data without lists: it can't change -/
mutual
inductive Im (K : PySem.W.Frag) (H : Hp) : V → PyData → Prop
  | non : Im K H .non .none
  | bl (b : Bool) : Im K H (.bl b) (.bool b)
  | int (i : Int) : Im K H (.int i) (.int i)
  | str (x : Str) : Im K H (.str x) (.str x)
  | tup {a : Addr} {xs : List V} {ds : List PyData} : SqT K H a xs → ImAll K H xs ds → Im K H (.ref a) (.tuple ds)
inductive ImAll (K : PySem.W.Frag) (H : Hp) : List V → List PyData → Prop
  | nil : ImAll K H [] []
  | cons {v : V} {vs : List V} {d : PyData} {ds : List PyData} : Im K H v d → ImAll K H vs ds → ImAll K H (v :: vs) (d :: ds)
end
section
variable {K : PySem.W.Frag} {H H' : Hp}
mutual
theorem Im.gw (e : Gw H H') : ∀ (d : PyData) (v : V), Im K H v d → Im K H' v d
  | .none, _, h => by cases h; exact .non
  | .bool b, _, h => by cases h; exact .bl b
  | .int i, _, h => by cases h; exact .int i
  | .str x, _, h => by cases h; exact .str x
  | .tuple ds, _, h => by
    cases h with
    | tup a b => exact .tup (e.sqt a) (ImAll.gw e ds _ b)
  | .list _, _, h => by cases h
  | .dict _, _, h => by cases h
theorem ImAll.gw (e : Gw H H') : ∀ (ds : List PyData) (vs : List V), ImAll K H vs ds → ImAll K H' vs ds
  | [], _, h => by cases h; exact .nil
  | d :: ds, _, h => by
    cases h with
    | cons a b => exact .cons (Im.gw e d _ a) (ImAll.gw e ds _ b)
end
mutual
theorem Im.dp : ∀ (d : PyData) (v : V), Im K H v d → Dp K H v d
  | .none, _, h => by cases h; exact .non
  | .bool b, _, h => by cases h; exact .bl b
  | .int i, _, h => by cases h; exact .int i
  | .str x, _, h => by cases h; exact .str x
  | .tuple ds, _, h => by
    cases h with
    | tup a b => exact .tup a (ImAll.dp ds _ b)
  | .list _, _, h => by cases h
  | .dict _, _, h => by cases h
theorem ImAll.dp : ∀ (ds : List PyData) (vs : List V), ImAll K H vs ds → DpAll K H vs ds
  | [], _, h => by cases h; exact .nil
  | d :: ds, _, h => by
    cases h with
    | cons a b => exact .cons (Im.dp d _ a) (ImAll.dp ds _ b)
end
mutual
theorem Im.plain : ∀ (d : PyData) (v : V), Im K H v d → d.plain = true
  | .none, _, _ => rfl
  | .bool b, _, _ => rfl
  | .int i, _, _ => rfl
  | .str x, _, _ => rfl
  | .tuple ds, _, h => by
    cases h with
    | tup a b => exact ImAll.plain ds _ b
  | .list _, _, h => by cases h
  | .dict _, _, h => by cases h
theorem ImAll.plain : ∀ (ds : List PyData) (vs : List V), ImAll K H vs ds → PyData.plainAll ds = true
  | [], _, h => rfl
  | d :: ds, _, h => by
    cases h with
    | cons a b =>
      show (d.plain && PyData.plainAll ds) = true
      rw [Im.plain d _ a, ImAll.plain ds _ b]; rfl
end
theorem Im.same {v : V} {d : PyData} (e : Same H H') (h : Im K H v d) : Im K H' v d := h.gw (Same.gw e) d v
theorem ImAll.same {v : List V} {d : List PyData} (e : Same H H') (h : ImAll K H v d) : ImAll K H' v d := h.gw (Same.gw e) d v
theorem ImAll.len : ∀ {ds : List PyData} {vs : List V}, ImAll K H vs ds → vs.length = ds.length
  | [], _, h => by cases h; rfl
  | d :: ds, _, h => by
    cases h with
    | cons a b => show _ + 1 = _ + 1; rw [ImAll.len b]
theorem ImAll.get : ∀ {ds : List PyData} {vs : List V} {i : Nat} {d : PyData}, ImAll K H vs ds → ds[i]? = some d → ∃ v, vs[i]? = some v ∧ Im K H v d
  | [], _, i, d, h, e => by simp at e
  | d :: ds, _, 0, d', h, e => by
    cases h with
    | cons a b =>
      have e' : d = d' := Option.some.inj e
      subst e'
      exact ⟨_, rfl, a⟩
  | d :: ds, _, i + 1, d', h, e => by
    cases h with
    | cons a b => exact ImAll.get (i := i) b (by simpa using e)
theorem ImAll.get' : ∀ {ds : List PyData} {vs : List V} {i : Nat} {v : V}, ImAll K H vs ds → vs[i]? = some v → ∃ d, ds[i]? = some d ∧ Im K H v d
  | [], _, i, d, h, e => by cases h; simp at e
  | d :: ds, _, 0, d', h, e => by
    cases h with
    | cons a b =>
      have e' := Option.some.inj e
      subst e'
      exact ⟨_, rfl, a⟩
  | d :: ds, _, i + 1, d', h, e => by
    cases h with
    | cons a b => exact ImAll.get' (i := i) b (by simpa using e)
theorem ImAll.append : ∀ {ds es : List PyData} {vs us : List V}, ImAll K H vs ds → ImAll K H us es → ImAll K H (vs ++ us) (ds ++ es)
  | [], _, _, _, h, g => by cases h; exact g
  | d :: ds, _, _, _, h, g => by
    cases h with
    | cons a b => exact .cons a (ImAll.append b g)
theorem ImAll.drop : ∀ {ds : List PyData} {vs : List V} (n : Nat), ImAll K H vs ds → ImAll K H (vs.drop n) (ds.drop n)
  | _, _, 0, h => h
  | [], _, n + 1, h => by cases h; exact .nil
  | d :: ds, _, n + 1, h => by
    cases h with
    | cons a b => exact ImAll.drop n b
theorem ImAll.take : ∀ {ds : List PyData} {vs : List V} (n : Nat), ImAll K H vs ds → ImAll K H (vs.take n) (ds.take n)
  | _, _, 0, h => .nil
  | [], _, n + 1, h => by cases h; exact .nil
  | d :: ds, _, n + 1, h => by
    cases h with
    | cons a b => exact .cons a (ImAll.take n b)
theorem ImAll.set : ∀ {ds : List PyData} {vs : List V} {v : V} {d : PyData} (n : Nat), Im K H v d → ImAll K H vs ds → ImAll K H (vs.set n v) (ds.set n d)
  | [], _, _, _, n, a, h => by cases h; exact .nil
  | e :: ds, _, _, _, 0, a, h => by
    cases h with
    | cons _ b => exact .cons a b
  | e :: ds, _, _, _, n + 1, a, h => by
    cases h with
    | cons c b => exact .cons c (ImAll.set n a b)
end
end G

namespace G
open PySem PySem.Spec PyProof.Rows L2
abbrev St := L2.St

/-! ### slots by what they hold -/
inductive SD where
  /-- nothing is known -/
  | no
  /-- data that cannot change -/
  | im (d : PyData)
  /-- this very value -/
  | va (v : V)
  /-- a list of one's own, of data that cannot change -/
  | ls (ds : List PyData)
  /-- a list of one's own that is only read for a while; a list that the caller handed over, only read -/
  | rl (p : Addr) (ds : List PyData)
  | pl (p : Addr) (ds : List PyData)
  /-- a dict of one's own -/
  | dk (kvs : List (Key × PyData))
  /-- the drawing state: a list of a list of ints, an int between 0 and b, an int -/
  | st (a r : Addr) (b : Nat)
abbrev SC := List SD

/-- the drawing state at a -/
def StAt (H : Hp) (a r : Addr) (b : Nat) : Prop := a ≠ r ∧ ∃ (row : List Int) (n sd : Int), H a = some (.lst [.ref r, .int n, .int sd]) ∧ H r = some (.lst (row.map V.int)) ∧ 0 ≤ n ∧ n ≤ (b : Int)
theorem StAt.mono {H : Hp} {a r : Addr} {b c : Nat} (h : StAt H a r b) (l : b ≤ c) : StAt H a r c := by
  obtain ⟨h0, row, n, sd, h1, h2, h3, h4⟩ := h
  exact ⟨h0, row, n, sd, h1, h2, h3, by omega⟩
/-- all but a is as it was -/
def But (M : List Addr) (H H' : Hp) : Prop := ∀ b o, b ∉ M → H b = some o → H' b = some o
theorem But.refl (M : List Addr) (H : Hp) : But M H H := fun _ _ _ h => h
theorem But.trans {M : List Addr} {H H1 H2 : Hp} (a : But M H H1) (b : But M H1 H2) : But M H H2 := fun c o n h => b c o n (a c o n h)
theorem But.same {M : List Addr} {H H1 H2 : Hp} (a : But M H H1) (b : Same H1 H2) : But M H H2 := fun c o n h => b c o (a c o n h)
theorem But.of {M : List Addr} {H H1 : Hp} (b : Same H H1) : But M H H1 := fun c o n h => b c o h
theorem But.nil {H H1 : Hp} (b : But [] H H1) : Same H H1 := fun c o h => b c o (by simp) h

/-- lists that no name holds, kept as they are -/
abbrev Gs := List (Addr × List V)
def Kept (g : Gs) (H : Hp) : Prop := ∀ q, q ∈ g → H q.1 = some (.lst q.2)
def ImKv (K : PySem.W.Frag) (H : Hp) : List (Key × V) → List (Key × PyData) → Prop := Paired fun p q => p.1 = q.1 ∧ Im K H p.2 q.2
theorem ImKv.gw {K : PySem.W.Frag} {H H' : Hp} (e : Gw H H') : ∀ {vs : List (Key × V)} {ds : List (Key × PyData)}, ImKv K H vs ds → ImKv K H' vs ds
  | _, _, .nil => .nil
  | _, _, .cons h t => .cons ⟨h.1, h.2.gw e _ _⟩ (ImKv.gw e t)
def SlotOk (K : PySem.W.Frag) (H0 : Hp) (M : List Addr) (g : Gs) (H : Hp) (own : List Addr) (o : Option V) : SD → Prop
  | .no => own = []
  | .im d => own = [] ∧ ∃ v, o = some v ∧ Im K H v d
  | .va v => own = [] ∧ o = some v
  | .ls ds => ∃ p vs, own = [p] ∧ o = some (.ref p) ∧ H p = some (.lst vs) ∧ ImAll K H vs ds ∧ H0 p = none
  | .rl p ds => own = [] ∧ o = some (.ref p) ∧ H0 p = none ∧ ∃ vs, (p, vs) ∈ g ∧ ImAll K H vs ds
  | .pl p ds => own = [] ∧ o = some (.ref p) ∧ p ∉ M ∧ ∃ vs, SqL K H0 p vs ∧ ImAll K H vs ds
  | .dk kvs => ∃ p ws, own = [p] ∧ o = some (.ref p) ∧ H p = some (.dK ws) ∧ ImKv K H ws kvs ∧ H0 p = none
  | .st a r b => own = [a, r] ∧ o = some (.ref a) ∧ StAt H a r b ∧ (H0 a = none ∨ a ∈ M)

/-- the slots are as told, over the heap H that began as H0 and may have changed at M -/
structure R (K : PySem.W.Frag) (H0 : Hp) (M : List Addr) (g : Gs) (Γ : SC) (σ : St) (H : Hp) : Prop where
  but : But M H0 H
  len : σ.length = Γ.length
  slots : ∃ own : Nat → List Addr, (∀ i, SlotOk K H0 M g H (own i) (σ.getD i none) (Γ.getD i .no)) ∧ (∀ i j, i ≠ j → ∀ p, p ∈ own i → p ∉ own j) ∧ ∀ q, q ∈ g → H q.1 = some (.lst q.2) ∧ ∀ i, q.1 ∉ own i

section
variable {K : PySem.W.Frag} {H0 H H' : Hp} {M : List Addr} {g : Gs} {Γ : SC} {σ : St} {own : List Addr} {o : Option V} {x : SD} {n : Nat}
theorem SlotOk.track (h : SlotOk K H0 M g H own o x) : ∀ p, p ∈ own → ∃ u, H p = some u := by
  intro p hp
  cases x with
  | no => rw [show own = [] from h] at hp; cases hp
  | im d => rw [h.1] at hp; cases hp
  | va v => rw [h.1] at hp; cases hp
  | ls ds =>
    obtain ⟨q, vs, e, _, h1, _⟩ := h
    rw [e] at hp
    have : p = q := by simpa using hp
    subst this
    exact ⟨_, h1⟩
  | rl p ds => rw [h.1] at hp; cases hp
  | pl p ds => rw [h.1] at hp; cases hp
  | dk kvs =>
    obtain ⟨q, vs, e, _, h1, _⟩ := h
    rw [e] at hp
    have : p = q := by simpa using hp
    subst this
    exact ⟨_, h1⟩
  | st a r b =>
    obtain ⟨e, _, ⟨_, row, n, sd, h1, h2, _⟩, _⟩ := h
    rw [e] at hp
    rcases List.mem_cons.mp hp with z | z
    · subst z; exact ⟨_, h1⟩
    · have : p = r := by simpa using z
      subst this; exact ⟨_, h2⟩
/-- a change of the heap that leaves tuples and this slot's own objects -/
theorem SlotOk.keep (h : SlotOk K H0 M g H own o x) (gw : Gw H H') (k : ∀ p, p ∈ own → H' p = H p) : SlotOk K H0 M g H' own o x := by
  cases x with
  | no => exact h
  | im d => obtain ⟨e, v, e1, h1⟩ := h; exact ⟨e, v, e1, h1.gw gw d v⟩
  | va v => exact h
  | ls ds =>
    obtain ⟨q, vs, e, e1, h1, h2, h3⟩ := h
    exact ⟨q, vs, e, e1, by rw [k q (by rw [e]; simp)]; exact h1, h2.gw gw ds vs, h3⟩
  | rl p ds =>
    obtain ⟨e, e1, h0, vs, h1, h2⟩ := h
    exact ⟨e, e1, h0, vs, h1, h2.gw gw ds vs⟩
  | pl p ds =>
    obtain ⟨e, e1, h0, vs, h1, h2⟩ := h
    exact ⟨e, e1, h0, vs, h1, h2.gw gw ds vs⟩
  | dk kvs =>
    obtain ⟨q, vs, e, e1, h1, h2, h3⟩ := h
    exact ⟨q, vs, e, e1, by rw [k q (by rw [e]; simp)]; exact h1, h2.gw gw, h3⟩
  | st a r b =>
    obtain ⟨e, e1, ⟨e0, row, n, sd, h1, h2, h3⟩, h4⟩ := h
    exact ⟨e, e1, ⟨e0, row, n, sd, by rw [k a (by rw [e]; simp)]; exact h1, by rw [k r (by rw [e]; simp)]; exact h2, h3⟩, h4⟩
theorem SlotOk.grow {g' : Gs} (h : SlotOk K H0 M g H own o x) (k : ∀ q, q ∈ g → q ∈ g') : SlotOk K H0 M g' H own o x := by
  cases x with
  | rl p ds =>
    obtain ⟨e, e1, h0, vs, h1, h2⟩ := h
    exact ⟨e, e1, h0, vs, k _ h1, h2⟩
  | no => exact h
  | im d => exact h
  | va v => exact h
  | ls ds => exact h
  | pl p ds => exact h
  | dk kvs => exact h
  | st a r b => exact h
theorem R.same (r : R K H0 M g Γ σ H) (e : Same H H') : R K H0 M g Γ σ H' := by
  obtain ⟨own, h1, h2, h3⟩ := r.slots
  refine ⟨r.but.same e, r.len, own, fun i => (h1 i).keep (Same.gw e) fun p hp => ?_, h2, fun q hq => ⟨e _ _ (h3 q hq).1, (h3 q hq).2⟩⟩
  obtain ⟨u, hu⟩ := (h1 i).track p hp
  rw [hu, e p u hu]
theorem R.im {i : Nat} {d : PyData} (r : R K H0 M g Γ σ H) (h : Γ.getD i .no = .im d) : ∃ v, σ[i]? = some (some v) ∧ Im K H v d := by
  obtain ⟨own, h1, _⟩ := r.slots
  have q := h1 i
  rw [h] at q
  obtain ⟨_, v, e, m⟩ := q
  refine ⟨v, ?_, m⟩
  rw [List.getD_eq_getElem?_getD] at e
  cases z : σ[i]? with
  | none => rw [z] at e; cases e
  | some y => rw [z] at e; exact congrArg some e
theorem getD_some {i : Nat} {v : V} (e : σ.getD i none = some v) : σ[i]? = some (some v) := by
  rw [List.getD_eq_getElem?_getD] at e
  cases z : σ[i]? with
  | none => rw [z] at e; cases e
  | some y => rw [z] at e; exact congrArg some e
theorem R.va {i : Nat} {v : V} (r : R K H0 M g Γ σ H) (h : Γ.getD i .no = .va v) : σ[i]? = some (some v) := by
  obtain ⟨own, h1, _⟩ := r.slots
  have q := h1 i
  rw [h] at q
  exact getD_some q.2
theorem R.ls {i : Nat} {ds : List PyData} (r : R K H0 M g Γ σ H) (h : Γ.getD i .no = .ls ds) : ∃ p vs, σ[i]? = some (some (.ref p)) ∧ H p = some (.lst vs) ∧ ImAll K H vs ds ∧ H0 p = none := by
  obtain ⟨own, h1, _⟩ := r.slots
  have q := h1 i
  rw [h] at q
  obtain ⟨p, vs, _, e, q1, q2, q3⟩ := q
  exact ⟨p, vs, getD_some e, q1, q2, q3⟩
theorem R.st {i : Nat} {a b : Addr} {c : Nat} (r : R K H0 M g Γ σ H) (h : Γ.getD i .no = .st a b c) : σ[i]? = some (some (.ref a)) ∧ StAt H a b c := by
  obtain ⟨own, h1, _⟩ := r.slots
  have q := h1 i
  rw [h] at q
  exact ⟨getD_some q.2.1, q.2.2.1⟩
theorem getD_set {α : Type} {l : List α} {i j : Nat} {x d : α} : (l.set i x).getD j d = if i = j then (if i < l.length then x else d) else l.getD j d := by
  rw [List.getD_eq_getElem?_getD, List.getD_eq_getElem?_getD, List.getElem?_set]
  split
  · split
    · rfl
    · rename_i h1 h2
      rfl
  · rfl
/-- a slot is set; the heap is another -/
theorem R.put {i : Nat} {v : V} {x : SD} {p : List Addr} (r : R K H0 M g Γ σ H) (e : Same H H') (hi : i < Γ.length) (hx : SlotOk K H0 M g H' p (some v) x) (hp : ∀ q, q ∈ p → H q = none) : R K H0 M g (Γ.set i x) (σ.set i (some v)) H' := by
  obtain ⟨own0, h10, h20, h30⟩ := r.slots
  refine ⟨r.but.same e, by simp [r.len], fun j => if j = i then p else own0 j, fun j => ?_, fun j k hjk q hq => ?_, fun q hq => ⟨e _ _ (h30 q hq).1, fun j z => ?_⟩⟩
  · show SlotOk K H0 M g H' (if j = i then p else own0 j) _ _
    rw [getD_set, getD_set]
    by_cases hj : i = j
    · subst hj
      simp only [if_true]
      rw [if_pos (by rw [r.len]; exact hi), if_pos hi]
      exact hx
    · rw [if_neg hj, if_neg hj, if_neg (Ne.symm hj)]
      refine (h10 j).keep (Same.gw e) fun q hq => ?_
      obtain ⟨u, hu⟩ := (h10 j).track q hq
      rw [hu, e q u hu]
  · have none_own : ∀ j q, H q = none → q ∉ own0 j := fun j q hn hq => by
      obtain ⟨u, hu⟩ := (h10 j).track q hq
      rw [hn] at hu; cases hu
    have hq' : q ∈ (if j = i then p else own0 j) := hq
    show q ∉ (if k = i then p else own0 k)
    by_cases hj : j = i
    · rw [if_pos hj] at hq'
      rw [if_neg (fun z => hjk (hj.trans z.symm))]
      exact none_own k q (hp q hq')
    · rw [if_neg hj] at hq'
      by_cases hk : k = i
      · rw [if_pos hk]
        intro z
        exact none_own j q (hp q z) hq'
      · rw [if_neg hk]
        exact h20 j k hjk q hq'
  · have z' : q.1 ∈ (if j = i then p else own0 j) := z
    by_cases hj : j = i
    · rw [if_pos hj] at z'
      have q1 := hp _ z'
      rw [(h30 q hq).1] at q1; cases q1
    · rw [if_neg hj] at z'
      exact (h30 q hq).2 j z'
theorem R.setIm {i : Nat} {v : V} {d : PyData} (r : R K H0 M g Γ σ H) (e : Same H H') (hi : i < Γ.length) (m : Im K H' v d) : R K H0 M g (Γ.set i (.im d)) (σ.set i (some v)) H' :=
  r.put e hi (p := []) ⟨rfl, v, rfl, m⟩ fun _ z => nomatch z
theorem R.setVa {i : Nat} {v : V} (r : R K H0 M g Γ σ H) (e : Same H H') (hi : i < Γ.length) : R K H0 M g (Γ.set i (.va v)) (σ.set i (some v)) H' :=
  r.put e hi (p := []) ⟨rfl, rfl⟩ fun _ z => nomatch z
theorem R.fresh (r : R K H0 M g Γ σ H) (hM : ∀ a ∈ M, H0 a ≠ none → H a ≠ none) {p : Addr} (h : H p = none) : H0 p = none := by
  cases q : H0 p with
  | none => rfl
  | some o =>
    by_cases hp : p ∈ M
    · exact absurd h (hM p hp (by rw [q]; exact fun z => nomatch z))
    · rw [r.but p o hp q] at h; cases h
theorem R.setLs {i : Nat} {p : Addr} {vs : List V} {ds : List PyData} (r : R K H0 M g Γ σ H) (e : Same H H') (hi : i < Γ.length) (hn : H p = none) (h0 : H0 p = none) (hp : H' p = some (.lst vs)) (m : ImAll K H' vs ds) :
    R K H0 M g (Γ.set i (.ls ds)) (σ.set i (some (.ref p))) H' :=
  r.put e hi (p := [p]) ⟨p, vs, rfl, rfl, hp, m, h0⟩ fun q hq => by
    have : q = p := by simpa using hq
    subst this; exact hn
/-- a list of one's own is changed -/
theorem R.updLs {i : Nat} {p : Addr} {us : List V} {ds es : List PyData} (r : R K H0 M g Γ σ H) (hs : σ[i]? = some (some (.ref p))) (hg : Γ.getD i .no = .ls ds) (m : ImAll K H us es) :
    R K H0 M g (Γ.set i (.ls es)) σ (upd H p (.lst us)) := by
  obtain ⟨own, h1, h2, h3⟩ := r.slots
  have q := h1 i
  rw [hg] at q
  obtain ⟨p', vs', e1, e2, e3, e4, e5⟩ := q
  have e2' := getD_some e2
  rw [hs] at e2'
  have ep : p = p' := by
    injection e2' with a; injection a with b; injection b
  subst ep
  have mu : Mut (H p) := by rw [e3]; trivial
  have g := gw_mut (o := .lst us) mu
  have hil : i < Γ.length := by
    rw [← r.len]
    exact (List.getElem?_eq_some_iff.mp hs).1
  refine ⟨fun b o hb hq => ?_, by simp [r.len], own, fun j => ?_, h2, fun q hq => ⟨?_, (h3 q hq).2⟩⟩
  rotate_right
  · rw [upd_ne (fun z => (h3 q hq).2 i (by rw [e1, z]; simp))]
    exact (h3 q hq).1
  · rw [upd_ne (fun z => by subst z; rw [e5] at hq; cases hq)]
    exact r.but b o hb hq
  · rw [getD_set]
    by_cases hj : i = j
    · subst hj
      rw [if_pos rfl, if_pos hil]
      exact ⟨p, us, e1, e2, upd_same, m.gw g es us, e5⟩
    · rw [if_neg hj]
      refine (h1 j).keep g fun q hq => upd_ne fun z => ?_
      subst z
      exact h2 i j hj q (by rw [e1]; simp) hq
theorem R.dk {i : Nat} {ds : List (Key × PyData)} (r : R K H0 M g Γ σ H) (h : Γ.getD i .no = .dk ds) : ∃ p vs, σ[i]? = some (some (.ref p)) ∧ H p = some (.dK vs) ∧ ImKv K H vs ds ∧ H0 p = none := by
  obtain ⟨own, h1, _⟩ := r.slots
  have q := h1 i
  rw [h] at q
  obtain ⟨p, vs, _, e, q1, q2, q3⟩ := q
  exact ⟨p, vs, getD_some e, q1, q2, q3⟩
theorem R.setDk {i : Nat} {p : Addr} {vs : List (Key × V)} {ds : List (Key × PyData)} (r : R K H0 M g Γ σ H) (e : Same H H') (hi : i < Γ.length) (hn : H p = none) (h0 : H0 p = none) (hp : H' p = some (.dK vs)) (m : ImKv K H' vs ds) :
    R K H0 M g (Γ.set i (.dk ds)) (σ.set i (some (.ref p))) H' :=
  r.put e hi (p := [p]) ⟨p, vs, rfl, rfl, hp, m, h0⟩ fun q hq => by
    have : q = p := by simpa using hq
    subst this; exact hn
/-- a dict of one's own is changed -/
theorem R.updDk {i : Nat} {p : Addr} {us : List (Key × V)} {ds es : List (Key × PyData)} (r : R K H0 M g Γ σ H) (hs : σ[i]? = some (some (.ref p))) (hg : Γ.getD i .no = .dk ds) (m : ImKv K H us es) :
    R K H0 M g (Γ.set i (.dk es)) σ (upd H p (.dK us)) := by
  obtain ⟨own, h1, h2, h3⟩ := r.slots
  have q := h1 i
  rw [hg] at q
  obtain ⟨p', vs', e1, e2, e3, e4, e5⟩ := q
  have e2' := getD_some e2
  rw [hs] at e2'
  have ep : p = p' := by
    injection e2' with a; injection a with b; injection b
  subst ep
  have mu : Mut (H p) := by rw [e3]; trivial
  have g := gw_mut (o := .dK us) mu
  have hil : i < Γ.length := by
    rw [← r.len]
    exact (List.getElem?_eq_some_iff.mp hs).1
  refine ⟨fun b o hb hq => ?_, by simp [r.len], own, fun j => ?_, h2, fun q hq => ⟨?_, (h3 q hq).2⟩⟩
  rotate_right
  · rw [upd_ne (fun z => (h3 q hq).2 i (by rw [e1, z]; simp))]
    exact (h3 q hq).1
  · rw [upd_ne (fun z => by subst z; rw [e5] at hq; cases hq)]
    exact r.but b o hb hq
  · rw [getD_set]
    by_cases hj : i = j
    · subst hj
      rw [if_pos rfl, if_pos hil]
      exact ⟨p, us, e1, e2, upd_same, m.gw g, e5⟩
    · rw [if_neg hj]
      refine (h1 j).keep g fun q hq => upd_ne fun z => ?_
      subst z
      exact h2 i j hj q (by rw [e1]; simp) hq
theorem R.weak {Γ' : SC} (r : R K H0 M g Γ σ H) (hl : Γ'.length = Γ.length) (w : ∀ i, Γ'.getD i .no = Γ.getD i .no ∨ Γ'.getD i .no = .no) : R K H0 M g Γ' σ H := by
  obtain ⟨own, h1, h2, h3⟩ := r.slots
  classical
  refine ⟨r.but, r.len.trans hl.symm, fun i => if Γ'.getD i .no = Γ.getD i .no then own i else [], fun i => ?_, fun i j hij p hp => ?_, fun q hq => ⟨(h3 q hq).1, fun i z => ?_⟩⟩
  rotate_right
  · have z' : q.1 ∈ (if Γ'.getD i .no = Γ.getD i .no then own i else []) := z
    by_cases h : Γ'.getD i .no = Γ.getD i .no
    · rw [if_pos h] at z'
      exact (h3 q hq).2 i z'
    · rw [if_neg h] at z'; cases z'
  · by_cases h : Γ'.getD i .no = Γ.getD i .no
    · show SlotOk K H0 M g H (if Γ'.getD i .no = Γ.getD i .no then own i else []) _ _
      rw [if_pos h, h]
      exact h1 i
    · show SlotOk K H0 M g H (if Γ'.getD i .no = Γ.getD i .no then own i else []) _ _
      rw [if_neg h]
      rcases w i with z | z
      · exact absurd z h
      · rw [z]; rfl
  · have hp' : p ∈ (if Γ'.getD i .no = Γ.getD i .no then own i else []) := hp
    show p ∉ (if Γ'.getD j .no = Γ.getD j .no then own j else [])
    by_cases h : Γ'.getD i .no = Γ.getD i .no
    · rw [if_pos h] at hp'
      by_cases h' : Γ'.getD j .no = Γ.getD j .no
      · rw [if_pos h']; exact h2 i j hij p hp'
      · rw [if_neg h']; exact fun z => nomatch z
    · rw [if_neg h] at hp'; cases hp'
/-- the drawing state has moved on -/
theorem R.updSt {i : Nat} {a q : Addr} {b c : Nat} (r : R K H0 M g Γ σ H) (hg : Γ.getD i .no = .st a q b) (hb : But [a] H H') (s : StAt H' a q c) : R K H0 M g (Γ.set i (.st a q c)) σ H' := by
  obtain ⟨own, h1, h2, h3⟩ := r.slots
  have z := h1 i
  rw [hg] at z
  obtain ⟨e1, e2, ⟨s0, row, n, sd, s1, s2, s3, s4⟩, e4⟩ := z
  have e2' := getD_some e2
  have hil : i < Γ.length := by
    rw [← r.len]
    exact (List.getElem?_eq_some_iff.mp e2').1
  have g : Gw H H' := ⟨fun b xs z => hb b _ (fun m => by
      have : b = a := by simpa using m
      subst this; rw [s1] at z; cases z) z, fun b o u z => hb b _ (fun m => by
      have : b = a := by simpa using m
      subst this; rw [s1] at z; cases z) z⟩
  refine ⟨fun b o hm hq => ?_, by simp [r.len], own, fun j => ?_, h2, fun p hp => ⟨hb _ _ (fun m => ?_) (h3 p hp).1, (h3 p hp).2⟩⟩
  rotate_right
  · have m' : p.1 = a := by simpa using m
    exact (h3 p hp).2 i (by rw [e1, m']; simp)
  · have ne : b ≠ a := fun z => by
      subst z
      rcases e4 with h | h
      · rw [hq] at h; cases h
      · exact hm h
    exact hb b o (fun m => ne (by simpa using m)) (r.but b o hm hq)
  · rw [getD_set]
    by_cases hj : i = j
    · subst hj
      rw [if_pos rfl, if_pos hil]
      exact ⟨e1, e2, s, e4⟩
    · rw [if_neg hj]
      refine (h1 j).keep g fun p hp => ?_
      obtain ⟨u, hu⟩ := (h1 j).track p hp
      rw [hu]
      refine hb p u (fun m => ?_) hu
      have : p = a := by simpa using m
      subst this
      exact h2 i j hj p (by rw [e1]; simp) hp
theorem R.kept (r : R K H0 M g Γ σ H) : Kept g H := fun q hq => by
  obtain ⟨own, h1, h2, h3⟩ := r.slots
  exact (h3 q hq).1
/-- a new list that no name holds is kept -/
theorem R.ghost {p : Addr} {vs : List V} (r : R K H0 M g Γ σ H) (e : Same H H') (hn : H p = none) (hp : H' p = some (.lst vs)) : R K H0 M ((p, vs) :: g) Γ σ H' := by
  obtain ⟨own, h1, h2, h3⟩ := r.slots
  obtain ⟨b, l, _⟩ := r.same e
  refine ⟨b, l, own, fun i => ((h1 i).keep (Same.gw e) fun q hq => ?_).grow fun q hq => List.mem_cons_of_mem _ hq, h2, fun q hq => ?_⟩
  · obtain ⟨u, hu⟩ := (h1 i).track q hq
    rw [hu, e q u hu]
  · rcases List.mem_cons.mp hq with z | z
    · subst z
      refine ⟨hp, fun i z => ?_⟩
      obtain ⟨u, hu⟩ := (h1 i).track p z
      rw [hn] at hu; cases hu
    · exact ⟨e _ _ (h3 q z).1, (h3 q z).2⟩
def isRl : SD → Bool
  | .rl _ _ => true
  | _ => false
theorem SlotOk.less {y : Addr × List V} (h : SlotOk K H0 M (y :: g) H own o x) (k : isRl x = false) : SlotOk K H0 M g H own o x := by
  cases x with
  | rl p ds => cases k
  | no => exact h
  | im d => exact h
  | va v => exact h
  | ls ds => exact h
  | pl p ds => exact h
  | dk kvs => exact h
  | st a r b => exact h
theorem noRl {i : Nat} (h : Γ.all (fun x => !isRl x) = true) : isRl (Γ.getD i .no) = false := by
  rw [List.getD_eq_getElem?_getD]
  cases q : Γ[i]? with
  | none => rfl
  | some x =>
    have := List.all_eq_true.mp h x (List.mem_of_getElem? q)
    simpa using this
theorem R.unghost {x : Addr × List V} (r : R K H0 M (x :: g) Γ σ H) (h : Γ.all (fun x => !isRl x) = true) : R K H0 M g Γ σ H := by
  obtain ⟨own, h1, h2, h3⟩ := r.slots
  exact ⟨r.but, r.len, own, fun i => (h1 i).less (noRl h), h2, fun q hq => h3 q (List.mem_cons_of_mem _ hq)⟩
/-- a list of one's own is only read for a while -/
theorem R.freeze {i : Nat} {ds : List PyData} (r : R K H0 M g Γ σ H) (h : Γ.getD i .no = .ls ds) : ∃ p vs, H0 p = none ∧ (∀ us, (p, us) ∈ g → False) ∧ R K H0 M ((p, vs) :: g) (Γ.set i (.rl p ds)) σ H := by
  obtain ⟨own, h1, h2, h3⟩ := r.slots
  have q := h1 i
  rw [h] at q
  obtain ⟨p, vs, e, e1, e2, e3, e4⟩ := q
  have hil : i < Γ.length := by
    rw [← r.len]
    exact (List.getElem?_eq_some_iff.mp (getD_some e1)).1
  refine ⟨p, vs, e4, fun us z => (h3 _ z).2 i (by rw [e]; simp), r.but, by simp [r.len], fun j => if j = i then [] else own j, fun j => ?_, fun j k hjk a ha => ?_, fun q hq => ?_⟩
  · show SlotOk K H0 M ((p, vs) :: g) H (if j = i then [] else own j) _ _
    rw [getD_set]
    by_cases hj : i = j
    · subst hj
      simp only [if_true]
      rw [if_pos hil]
      exact ⟨rfl, e1, e4, vs, List.mem_cons_self, e3⟩
    · rw [if_neg hj, if_neg (Ne.symm hj)]
      exact (h1 j).grow fun q hq => List.mem_cons_of_mem _ hq
  · have ha' : a ∈ (if j = i then [] else own j) := ha
    show a ∉ (if k = i then [] else own k)
    by_cases hj : j = i
    · rw [if_pos hj] at ha'; cases ha'
    · rw [if_neg hj] at ha'
      by_cases hk : k = i
      · rw [if_pos hk]; exact fun z => nomatch z
      · rw [if_neg hk]; exact h2 j k hjk a ha'
  · rcases List.mem_cons.mp hq with z | z
    · subst z
      refine ⟨e2, fun j hz => ?_⟩
      have hz' : p ∈ (if j = i then [] else own j) := hz
      by_cases hj : j = i
      · rw [if_pos hj] at hz'; cases hz'
      · rw [if_neg hj] at hz'
        exact h2 i j (Ne.symm hj) p (by rw [e]; simp) hz'
    · refine ⟨(h3 q z).1, fun j hz => ?_⟩
      have hz' : q.1 ∈ (if j = i then [] else own j) := hz
      by_cases hj : j = i
      · rw [if_pos hj] at hz'; cases hz'
      · rw [if_neg hj] at hz'
        exact (h3 q z).2 j hz'
theorem R.thaw {i : Nat} {p : Addr} {vs : List V} {ds : List PyData} (r : R K H0 M ((p, vs) :: g) Γ σ H) (hn : ∀ us, (p, us) ∈ g → False) (h : Γ.getD i .no = .rl p ds) (hr : (Γ.set i .no).all (fun x => !isRl x) = true) : R K H0 M g (Γ.set i (.ls ds)) σ H := by
  obtain ⟨own, h1, h2, h3⟩ := r.slots
  have q := h1 i
  rw [h] at q
  obtain ⟨e, e1, e4, us, e2, e3⟩ := q
  have eu : us = vs := by
    rcases List.mem_cons.mp e2 with z | z
    · exact (Prod.mk.inj z).2
    · exact (hn us z).elim
  subst eu
  have hil : i < Γ.length := by
    rw [← r.len]
    exact (List.getElem?_eq_some_iff.mp (getD_some e1)).1
  have hp := h3 (p, us) List.mem_cons_self
  refine ⟨r.but, by simp [r.len], fun j => if j = i then [p] else own j, fun j => ?_, fun j k hjk a ha => ?_, fun q hq => ?_⟩
  · show SlotOk K H0 M g H (if j = i then [p] else own j) _ _
    rw [getD_set]
    by_cases hj : i = j
    · subst hj
      simp only [if_true]
      rw [if_pos hil]
      exact ⟨p, us, rfl, e1, hp.1, e3, e4⟩
    · rw [if_neg hj, if_neg (Ne.symm hj)]
      refine (h1 j).less ?_
      have := noRl (i := j) hr
      rw [getD_set, if_neg hj] at this
      exact this
  · have ha' : a ∈ (if j = i then [p] else own j) := ha
    show a ∉ (if k = i then [p] else own k)
    by_cases hj : j = i
    · rw [if_pos hj] at ha'
      have : a = p := by simpa using ha'
      subst this
      rw [if_neg (fun z => hjk (hj.trans z.symm))]
      exact hp.2 k
    · rw [if_neg hj] at ha'
      by_cases hk : k = i
      · rw [if_pos hk]
        intro z
        have : a = p := by simpa using z
        subst this
        exact hp.2 j ha'
      · rw [if_neg hk]; exact h2 j k hjk a ha'
  · refine ⟨(h3 q (List.mem_cons_of_mem _ hq)).1, fun j hz => ?_⟩
    have hz' : q.1 ∈ (if j = i then [p] else own j) := hz
    by_cases hj : j = i
    · rw [if_pos hj] at hz'
      have : q.1 = p := by simpa using hz'
      exact hn q.2 (by rw [← this]; exact hq)
    · rw [if_neg hj] at hz'
      exact (h3 q (List.mem_cons_of_mem _ hq)).2 j hz'
theorem R.rl {i : Nat} {p : Addr} {ds : List PyData} (r : R K H0 M g Γ σ H) (h : Γ.getD i .no = .rl p ds) : σ[i]? = some (some (.ref p)) ∧ ∃ vs, H p = some (.lst vs) ∧ ImAll K H vs ds := by
  obtain ⟨own, h1, _, h3⟩ := r.slots
  have q := h1 i
  rw [h] at q
  obtain ⟨e, e1, h0, vs, e2, e3⟩ := q
  exact ⟨getD_some e1, vs, (h3 _ e2).1, e3⟩
theorem But.seq {a : Addr} {xs : List V} (b : But M H H') (h : SqL K H a xs) (n : a ∉ M) : SqL K H' a xs := by
  rcases h with (h | ⟨o, h⟩) | h
  · exact .inl (.inl (b _ _ n h))
  · exact .inl (.inr ⟨o, b _ _ n h⟩)
  · exact .inr h
theorem R.pl {i : Nat} {p : Addr} {ds : List PyData} (r : R K H0 M g Γ σ H) (h : Γ.getD i .no = .pl p ds) : σ[i]? = some (some (.ref p)) ∧ ∃ vs, SqL K H p vs ∧ ImAll K H vs ds := by
  obtain ⟨own, h1, _, h3⟩ := r.slots
  have q := h1 i
  rw [h] at q
  obtain ⟨e, e1, h0, vs, e2, e3⟩ := q
  exact ⟨getD_some e1, vs, r.but.seq e2 h0, e3⟩
/-- at the entry of a def: data -/
def SlotV (K : PySem.W.Frag) (H : Hp) : SD → V → Prop
  | .no, _ => True
  | .im d, v => Im K H v d
  | .va u, v => v = u
  | .pl p ds, v => v = .ref p ∧ ∃ vs, SqL K H p vs ∧ ImAll K H vs ds
  | _, _ => False
abbrev SlotVs (K : PySem.W.Frag) (H : Hp) : SC → List V → Prop := Paired (SlotV K H)
theorem SlotV.ok {v : V} (h : SlotV K H x v) (hM : ∀ p ds, x = .pl p ds → p ∉ M) : SlotOk K H M g H [] (some v) x := by
  cases x with
  | no => rfl
  | im d => exact ⟨rfl, v, rfl, h⟩
  | va u => exact ⟨rfl, congrArg some h⟩
  | ls d => exact h.elim
  | rl p d => exact h.elim
  | dk d => exact h.elim
  | pl p d => exact ⟨rfl, congrArg some h.1, hM p d rfl, h.2⟩
  | st a r b => exact h.elim
theorem SlotVs.ok {n : Nat} : ∀ {Γ : SC} {vs : List V} (i : Nat), SlotVs K H Γ vs → (∀ p ds, SD.pl p ds ∈ Γ → p ∉ M) → SlotOk K H M g H [] ((vs.map some ++ List.replicate n none).getD i none) ((Γ ++ List.replicate n SD.no).getD i .no)
  | _, _, i, .nil, _ => by
    rw [List.map_nil, List.nil_append, List.nil_append]
    have e : (List.replicate n SD.no).getD i .no = .no := by
      rw [List.getD_eq_getElem?_getD, List.getElem?_replicate]
      split <;> rfl
    rw [e]; rfl
  | x :: _, _, 0, .cons h _, m => SlotV.ok (x := x) h fun p ds e => m p ds (by rw [e]; exact List.mem_cons_self)
  | _, _, i + 1, .cons _ h, m => SlotVs.ok (n := n) i h fun p ds z => m p ds (List.mem_cons_of_mem _ z)
theorem SlotVs.len : ∀ {Γ : SC} {vs : List V}, SlotVs K H Γ vs → Γ.length = vs.length
  | _, _, .nil => rfl
  | _, _, .cons _ h => congrArg (· + 1) (SlotVs.len h)
theorem SlotVs.ims : ∀ {ds : List PyData} {vs : List V}, ImAll K H vs ds → SlotVs K H (ds.map SD.im) vs
  | [], _, h => by cases h; exact .nil
  | d :: ds, _, h => by
    cases h with
    | cons a b => exact .cons a (SlotVs.ims b)
theorem R.start {vs : List V} {N : List Str} (h : SlotVs K H Γ vs) (hN : N.length - vs.length = n) (hM : ∀ p ds, SD.pl p ds ∈ Γ → p ∉ M) : R K H M [] (Γ ++ List.replicate n .no) (L2.start N vs) H := by
  refine ⟨But.refl M H, ?_, fun _ => [], fun i => ?_, fun _ _ _ p hp => (nomatch hp), fun _ z => (nomatch z)⟩
  · unfold L2.start
    rw [List.length_append, List.length_append, List.length_map, List.length_replicate, List.length_replicate, h.len, hN]
  · unfold L2.start
    rw [hN]
    exact h.ok i hM
/-- .. the first parameter the drawing state -/
theorem R.startS {vs : List V} {N : List Str} {a q : Addr} {b : Nat} (s : StAt H a q b) (ha : a ∈ M) (h : SlotVs K H Γ vs) (hN : N.length - (vs.length + 1) = n) (hM : ∀ p ds, SD.pl p ds ∈ Γ → p ∉ M) : R K H M [] (.st a q b :: (Γ ++ List.replicate n .no)) (L2.start N (.ref a :: vs)) H := by
  refine ⟨But.refl M H, ?_, fun i => if i = 0 then [a, q] else [], fun i => ?_, fun i j hij p hp => ?_, fun _ z => nomatch z⟩
  · unfold L2.start
    simp only [List.length_append, List.length_cons, List.length_map, List.length_replicate, h.len, hN]
    omega
  · unfold L2.start
    rw [List.length_cons, hN]
    cases i with
    | zero => exact ⟨rfl, rfl, s, .inr ha⟩
    | succ i => exact h.ok i hM
  · have hp' : p ∈ (if i = 0 then [a, q] else []) := hp
    show p ∉ (if j = 0 then [a, q] else [])
    by_cases hi : i = 0
    · rw [if_neg (fun z => hij (hi.trans z.symm))]
      exact fun z => nomatch z
    · rw [if_neg hi] at hp'; cases hp'
end
end G

namespace G
open PySem PySem.Spec PyProof.Rows L2

/-! ### expressions over slots -/
abbrev EK := Hp → V → Hp → Prop
/-- e gives a value that P tells (the heap before, the value, the heap after); nothing tracked changes -/
def EE (X : Cx) (H0 : Hp) (M : List Addr) (Γ : SC) (e : Expr) (P : EK) : Prop :=
  ∀ g σ H Q, R X.K H0 M g Γ σ H → (∀ v H', Same H H' → P H v H' → Q v H') → wE X e σ H Q
abbrev kI (K : PySem.W.Frag) (d : PyData) : EK := fun _ v H' => Im K H' v d
abbrev kU (u : V) : EK := fun _ v _ => v = u
/-- a new list -/
abbrev kL (K : PySem.W.Frag) (ds : List PyData) : EK := fun H v H' => ∃ p vs, v = .ref p ∧ H p = none ∧ H' p = some (.lst vs) ∧ ImAll K H' vs ds
abbrev EI (X : Cx) (H0 : Hp) (M : List Addr) (Γ : SC) (e : Expr) (d : PyData) : Prop := EE X H0 M Γ e (kI X.K d)
abbrev EV (X : Cx) (H0 : Hp) (M : List Addr) (Γ : SC) (e : Expr) (u : V) : Prop := EE X H0 M Γ e (kU u)
abbrev EL (X : Cx) (H0 : Hp) (M : List Addr) (Γ : SC) (e : Expr) (ds : List PyData) : Prop := EE X H0 M Γ e (kL X.K ds)
def ET (X : Cx) (H0 : Hp) (M : List Addr) (Γ : SC) (e : Expr) (b : Bool) : Prop :=
  ∀ g σ H Q, R X.K H0 M g Γ σ H → (∀ H', Same H H' → Q b H') → wT X e σ H Q
abbrev AK := Hp → List V → Hp → Prop
def AA (X : Cx) (H0 : Hp) (M : List Addr) (Γ : SC) (es : List Expr) (P : AK) : Prop :=
  ∀ g σ H Q, R X.K H0 M g Γ σ H → (∀ vs H', Same H H' → P H vs H' → Q vs H') → wA X es σ H Q
abbrev AI (X : Cx) (H0 : Hp) (M : List Addr) (Γ : SC) (es : List Expr) (ds : List PyData) : Prop := AA X H0 M Γ es (fun _ vs H' => ImAll X.K H' vs ds)

theorem Im.int_inv {K : PySem.W.Frag} {H : Hp} {v : V} {i : Int} (h : Im K H v (.int i)) : v = .int i := by cases h; rfl
theorem Im.str_inv {K : PySem.W.Frag} {H : Hp} {v : V} {i : Str} (h : Im K H v (.str i)) : v = .str i := by cases h; rfl
theorem Im.bl_inv {K : PySem.W.Frag} {H : Hp} {v : V} {i : Bool} (h : Im K H v (.bool i)) : v = .bl i := by cases h; rfl
theorem Im.non_inv {K : PySem.W.Frag} {H : Hp} {v : V} (h : Im K H v .none) : v = .non := by cases h; rfl
theorem Im.tup_inv {K : PySem.W.Frag} {H : Hp} {v : V} {ds : List PyData} (h : Im K H v (.tuple ds)) : ∃ a xs, v = .ref a ∧ SqT K H a xs ∧ ImAll K H xs ds := by
  cases h with
  | tup a b => exact ⟨_, _, rfl, a, b⟩

section
variable {X : Cx} {H0 : Hp} {M : List Addr} {Γ : SC} {e a b c : Expr} {es : List Expr} {pos p0 : Pos} {P Pa Pb : EK}
theorem EE.mono {P' : EK} (h : EE X H0 M Γ e P) (q : ∀ H v H', Same H H' → P H v H' → P' H v H') : EE X H0 M Γ e P' := fun g σ H Q r k => h g σ H Q r fun v H' s z => k v H' s (q H v H' s z)
theorem EI.to {d d' : PyData} (h : EI X H0 M Γ e d) (q : d = d') : EI X H0 M Γ e d' := q ▸ h
theorem EL.to {d d' : List PyData} (h : EL X H0 M Γ e d) (q : d = d') : EL X H0 M Γ e d' := q ▸ h
theorem ET.to {d d' : Bool} (h : ET X H0 M Γ e d) (q : d = d') : ET X H0 M Γ e d' := q ▸ h

theorem i_var (i : Nat) {x : Str} {d : PyData} (h : Γ.getD i .no = .im d) (hN : X.N[i]? = some x := by rfl) (hv : Vis X.env.scope x := by first | exact Or.inl rfl | exact Or.inr (Or.inl rfl) | exact Or.inr (Or.inr rfl)) (hd : (x == ("__debug__" : Str)) = false := by decide)
    (hcd : (x == ("__classdict__" : Str)) = false := by decide) : EI X H0 M Γ (.Name x pos) d := fun g σ H Q r k => by
  obtain ⟨v, e, m⟩ := r.im h
  exact wE.of (pe_var hN hv hd hcd) ⟨v, e, k v H (Same.refl H) m⟩
theorem v_var (i : Nat) {x : Str} {v : V} (h : Γ.getD i .no = .va v) (hN : X.N[i]? = some x := by rfl) (hv : Vis X.env.scope x := by first | exact Or.inl rfl | exact Or.inr (Or.inl rfl) | exact Or.inr (Or.inr rfl)) (hd : (x == ("__debug__" : Str)) = false := by decide)
    (hcd : (x == ("__classdict__" : Str)) = false := by decide) : EV X H0 M Γ (.Name x pos) v := fun g σ H Q r k => by
  exact wE.of (pe_var hN hv hd hcd) ⟨v, r.va h, k v H (Same.refl H) rfl⟩
/-- a list of one's own, as it stands -/
abbrev kO (K : PySem.W.Frag) (ds : List PyData) : EK := fun _ v H' => ∃ p vs, v = .ref p ∧ H' p = some (.lst vs) ∧ ImAll K H' vs ds
theorem o_var (i : Nat) {x : Str} {ds : List PyData} (h : Γ.getD i .no = .ls ds) (hN : X.N[i]? = some x := by rfl) (hv : Vis X.env.scope x := by first | exact Or.inl rfl | exact Or.inr (Or.inl rfl) | exact Or.inr (Or.inr rfl)) (hd : (x == ("__debug__" : Str)) = false := by decide)
    (hcd : (x == ("__classdict__" : Str)) = false := by decide) : EE X H0 M Γ (.Name x pos) (kO X.K ds) := fun g σ H Q r k => by
  obtain ⟨p, vs, e, m, q, _⟩ := r.ls h
  exact wE.of (pe_var hN hv hd hcd) ⟨_, e, k _ H (Same.refl H) ⟨p, vs, rfl, m, q⟩⟩
abbrev kS (a r : Addr) (b : Nat) : EK := fun _ v H' => v = .ref a ∧ StAt H' a r b
theorem s_var (i : Nat) {x : Str} {q r : Addr} {n : Nat} (h : Γ.getD i .no = .st q r n) (hN : X.N[i]? = some x := by rfl) (hv : Vis X.env.scope x := by first | exact Or.inl rfl | exact Or.inr (Or.inl rfl) | exact Or.inr (Or.inr rfl)) (hd : (x == ("__debug__" : Str)) = false := by decide)
    (hcd : (x == ("__classdict__" : Str)) = false := by decide) : EE X H0 M Γ (.Name x pos) (kS q r n) := fun g σ H Q r k => by
  obtain ⟨e, m⟩ := r.st h
  exact wE.of (pe_var hN hv hd hcd) ⟨_, e, k _ H (Same.refl H) ⟨rfl, m⟩⟩
theorem i_int {i : Int} {j} : EI X H0 M Γ (.Constant (.int i) j pos) (.int i) := fun g σ H Q r k => wE.of pe_int (k _ H (Same.refl H) (.int i))
theorem i_str {i : Str} {j} : EI X H0 M Γ (.Constant (.str i) j pos) (.str i) := fun g σ H Q r k => wE.of pe_str (k _ H (Same.refl H) (.str i))
theorem i_bl {i : Bool} {j} : EI X H0 M Γ (.Constant (.bool i) j pos) (.bool i) := fun g σ H Q r k => wE.of pe_bl (k _ H (Same.refl H) (.bl i))
theorem i_non {j} : EI X H0 M Γ (.Constant .none j pos) .none := fun g σ H Q r k => wE.of pe_non (k _ H (Same.refl H) .non)
/-- two expressions and an operator -/
theorem e_bin {op : Operator} {r : R2} (ho : OpR X (binaryOp op) r) (ha : EE X H0 M Γ a Pa) (hb : EE X H0 M Γ b Pb)
    (h : ∀ H H1 H2 x y (Q : VK), Same H H1 → Same H1 H2 → Pa H x H1 → Pb H1 y H2 → (∀ v H', Same H2 H' → P H v H' → Q v H') → r x y H2 Q) : EE X H0 M Γ (.BinOp a op b pos) P := fun g σ H Q R k =>
  wE.of (pe_op ho pe_w pe_w) (ha g σ H _ R fun x H1 s1 p1 => hb g σ H1 _ (R.same s1) fun y H2 s2 p2 => h H H1 H2 x y Q s1 s2 p1 p2 fun v H' s3 p3 => k v H' (s1.trans (s2.trans s3)) p3)
theorem e_cmp {op : CmpOp} {r : R2} (ho : OpR X (compareOp op) r) (ha : EE X H0 M Γ a Pa) (hb : EE X H0 M Γ b Pb) (hm : behindInMarks op b = false)
    (h : ∀ H H1 H2 x y (Q : VK), Same H H1 → Same H1 H2 → Pa H x H1 → Pb H1 y H2 → (∀ v H', Same H2 H' → P H v H' → Q v H') → r x y H2 Q) : EE X H0 M Γ (.Compare a [op] [b] pos) P := fun g σ H Q R k =>
  wE.of (pe_cmpR ho pe_w pe_w hm) (ha g σ H _ R fun x H1 s1 p1 => hb g σ H1 _ (R.same s1) fun y H2 s2 p2 => h H H1 H2 x y Q s1 s2 p1 p2 fun v H' s3 p3 => k v H' (s1.trans (s2.trans s3)) p3)
section
variable {i j : Int}
theorem i_add (ha : EI X H0 M Γ a (.int i)) (hb : EI X H0 M Γ b (.int j)) : EI X H0 M Γ (.BinOp a .Add b pos) (.int (i + j)) :=
  e_bin op_add ha hb fun H H1 H2 x y Q s1 s2 p1 p2 k => ⟨i, j, p1.int_inv, p2.int_inv, k _ _ (Same.refl _) (.int _)⟩
theorem i_sub (ha : EI X H0 M Γ a (.int i)) (hb : EI X H0 M Γ b (.int j)) : EI X H0 M Γ (.BinOp a .Sub b pos) (.int (i - j)) :=
  e_bin op_sub ha hb fun H H1 H2 x y Q s1 s2 p1 p2 k => ⟨i, j, p1.int_inv, p2.int_inv, k _ _ (Same.refl _) (.int _)⟩
theorem i_mul (hc : CMul i j) (ha : EI X H0 M Γ a (.int i)) (hb : EI X H0 M Γ b (.int j)) : EI X H0 M Γ (.BinOp a .Mult b pos) (.int (i * j)) :=
  e_bin op_mul ha hb fun H H1 H2 x y Q s1 s2 p1 p2 k => ⟨i, j, p1.int_inv, p2.int_inv, hc, k _ _ (Same.refl _) (.int _)⟩
theorem i_mod (hc : 0 < j) (ha : EI X H0 M Γ a (.int i)) (hb : EI X H0 M Γ b (.int j)) : EI X H0 M Γ (.BinOp a .Mod b pos) (.int (i % j)) :=
  e_bin op_mod ha hb fun H H1 H2 x y Q s1 s2 p1 p2 k => ⟨i, j, p1.int_inv, p2.int_inv, hc, k _ _ (Same.refl _) (.int _)⟩
theorem i_div (hc : CDiv i j) (ha : EI X H0 M Γ a (.int i)) (hb : EI X H0 M Γ b (.int j)) : EI X H0 M Γ (.BinOp a .FloorDiv b pos) (.int (i / j)) :=
  e_bin op_fdiv ha hb fun H H1 H2 x y Q s1 s2 p1 p2 k => ⟨i, j, p1.int_inv, p2.int_inv, hc, k _ _ (Same.refl _) (.int _)⟩
theorem i_pow (hc : CPow i j) (ha : EI X H0 M Γ a (.int i)) (hb : EI X H0 M Γ b (.int j)) : EI X H0 M Γ (.BinOp a .Pow b pos) (.int (i ^ j.toNat)) :=
  e_bin op_pow ha hb fun H H1 H2 x y Q s1 s2 p1 p2 k => ⟨i, j, p1.int_inv, p2.int_inv, hc, k _ _ (Same.refl _) (.int _)⟩
theorem i_lt (ha : EI X H0 M Γ a (.int i)) (hb : EI X H0 M Γ b (.int j)) : EI X H0 M Γ (.Compare a [.Lt] [b] pos) (.bool (decide (i < j))) :=
  e_cmp op_lt ha hb (nomark _) fun H H1 H2 x y Q s1 s2 p1 p2 k => ⟨i, j, p1.int_inv, p2.int_inv, k _ _ (Same.refl _) (.bl _)⟩
theorem i_le (ha : EI X H0 M Γ a (.int i)) (hb : EI X H0 M Γ b (.int j)) : EI X H0 M Γ (.Compare a [.LtE] [b] pos) (.bool (decide (i ≤ j))) :=
  e_cmp op_le ha hb (nomark _) fun H H1 H2 x y Q s1 s2 p1 p2 k => ⟨i, j, p1.int_inv, p2.int_inv, k _ _ (Same.refl _) (.bl _)⟩
theorem i_gt (ha : EI X H0 M Γ a (.int i)) (hb : EI X H0 M Γ b (.int j)) : EI X H0 M Γ (.Compare a [.Gt] [b] pos) (.bool (decide (j < i))) :=
  e_cmp op_gt ha hb (nomark _) fun H H1 H2 x y Q s1 s2 p1 p2 k => ⟨i, j, p1.int_inv, p2.int_inv, k _ _ (Same.refl _) (.bl _)⟩
theorem i_ge (ha : EI X H0 M Γ a (.int i)) (hb : EI X H0 M Γ b (.int j)) : EI X H0 M Γ (.Compare a [.GtE] [b] pos) (.bool (decide (j ≤ i))) :=
  e_cmp op_ge ha hb (nomark _) fun H H1 H2 x y Q s1 s2 p1 p2 k => ⟨i, j, p1.int_inv, p2.int_inv, k _ _ (Same.refl _) (.bl _)⟩
theorem i_neg (ha : EI X H0 M Γ a (.int i)) : EI X H0 M Γ (.UnaryOp .USub a pos) (.int (-i)) := fun g σ H Q R k =>
  wE.of (pe_un un_neg pe_w) (ha g σ H _ R fun x H1 s1 p1 => ⟨i, p1.int_inv, k _ _ s1 (.int _)⟩)
end
/-! ### == of data -/
def rEqP (K : PySem.W.Frag) : R2 := fun x y H Q => ∃ d e, Im K H x d ∧ Im K H y e ∧ d.depth ≤ 64 ∧ Q (.bl (PyData.eqv d e)) H
def rNeP (K : PySem.W.Frag) : R2 := fun x y H Q => ∃ d e, Im K H x d ∧ Im K H y e ∧ d.depth ≤ 64 ∧ Q (.bl (!PyData.eqv d e)) H
theorem op_eqP (hu : X.A.units + 64 < cLine) : OpR X (compareOp .Eq) (rEqP X.K) := by
  intro pins s σ H x y v u Q I rx ry h
  obtain ⟨d, e, hd, he, sd, q⟩ := h
  obtain ⟨as, r1⟩ := Dp.reads I d x v (hd.dp d x) rx
  obtain ⟨bs, r2⟩ := Dp.reads I e y u (he.dp e y) ry
  have : min d.depth e.depth ≤ d.depth := Nat.min_le_left _ _
  exact SeqAt.eq_plain r1 r2 (hd.plain d x) (he.plain e y) (by omega) ⟨.bl _, H, I, rfl, q⟩
theorem op_neP (hu : X.A.units + 64 < cLine) : OpR X (compareOp .NotEq) (rNeP X.K) := by
  intro pins s σ H x y v u Q I rx ry h
  obtain ⟨d, e, hd, he, sd, q⟩ := h
  obtain ⟨as, r1⟩ := Dp.reads I d x v (hd.dp d x) rx
  obtain ⟨bs, r2⟩ := Dp.reads I e y u (he.dp e y) ry
  have : min d.depth e.depth ≤ d.depth := Nat.min_le_left _ _
  exact SeqAt.ne_plain r1 r2 (hd.plain d x) (he.plain e y) (by omega) ⟨.bl _, H, I, rfl, q⟩
variable {k : Nat} {d d' : PyData}
theorem i_eq (hr : Room k X.A) (hd : d.depth ≤ 64) (ha : EI X H0 M Γ a d) (hb : EI X H0 M Γ b d') : EI X H0 M Γ (.Compare a [.Eq] [b] pos) (.bool (PyData.eqv d d')) :=
  e_cmp (op_eqP hr.units) ha hb (nomark _) fun H H1 H2 x y Q s1 s2 p1 p2 k => ⟨d, d', p1.same s2, p2, hd, k _ _ (Same.refl _) (.bl _)⟩
theorem i_ne (hr : Room k X.A) (hd : d.depth ≤ 64) (ha : EI X H0 M Γ a d) (hb : EI X H0 M Γ b d') : EI X H0 M Γ (.Compare a [.NotEq] [b] pos) (.bool (!PyData.eqv d d')) :=
  e_cmp (op_neP hr.units) ha hb (nomark _) fun H H1 H2 x y Q s1 s2 p1 p2 k => ⟨d, d', p1.same s2, p2, hd, k _ _ (Same.refl _) (.bl _)⟩
/-! ### arguments -/
theorem a_nil : AI X H0 M Γ [] [] := fun g σ H Q R k => wA.of pa_nil (k _ H (Same.refl H) .nil)
theorem a_cons {ds : List PyData} (he : EI X H0 M Γ e d) (ht : AI X H0 M Γ es ds) (hs : starEach (e :: es) X.env = (false, eval e X.env) :: starEach es X.env := by exact star1 rfl) : AI X H0 M Γ (e :: es) (d :: ds) := fun g σ H Q R k =>
  wA.of (pa_cons pe_w pa_w hs) (he g σ H _ R fun x H1 s1 p1 => ht g σ H1 _ (R.same s1) fun xs H2 s2 p2 => k _ H2 (s1.trans s2) (.cons (p1.same s2) p2))
theorem a_nilA : AA X H0 M Γ [] (fun _ vs _ => vs = []) := fun g σ H Q R k => wA.of pa_nil (k _ H (Same.refl H) rfl)
theorem a_consA {Pe : EK} {Ps : AK} (he : EE X H0 M Γ e Pe) (ht : AA X H0 M Γ es Ps) (hs : starEach (e :: es) X.env = (false, eval e X.env) :: starEach es X.env := by exact star1 rfl) :
    AA X H0 M Γ (e :: es) (fun H vs H' => ∃ v r H1, vs = v :: r ∧ Same H H1 ∧ Same H1 H' ∧ Pe H v H1 ∧ Ps H1 r H') := fun g σ H Q R k =>
  wA.of (pa_cons pe_w pa_w hs) (he g σ H _ R fun x H1 s1 p1 => ht g σ H1 _ (R.same s1) fun xs H2 s2 p2 => k _ H2 (s1.trans s2) ⟨x, xs, H1, rfl, s1, s2, p1, p2⟩)
/-! ### displays -/
theorem i_tup {ds : List PyData} {x1} (h : AI X H0 M Γ es ds) (hl : ds.length ≤ 100000 := by first | decide | exact Nat.le_of_ble_eq_true rfl) : EI X H0 M Γ (.Tuple es x1 pos) (.tuple ds) := fun g σ H Q R k =>
  wE.of (pe_tup pa_w) (h g σ H _ R fun xs H1 s1 p1 => ⟨by rw [p1.len]; exact Nat.le_trans hl (by decide), fun p hp => k _ _ (s1.trans (same_new hp)) (.tup (.inl (.inl upd_same)) (p1.same (same_new hp)))⟩)
theorem l_lst {ds : List PyData} (h : AI X H0 M Γ es ds) (hl : ds.length ≤ 100000 := by first | decide | exact Nat.le_of_ble_eq_true rfl) : EL X H0 M Γ (.List es pos) ds := fun g σ H Q R k =>
  wE.of (pe_lst pa_w) (h g σ H _ R fun xs H1 s1 p1 => ⟨by rw [p1.len]; exact Nat.le_trans hl (by decide), fun p hp => k _ _ (s1.trans (same_new hp)) ⟨p, xs, rfl, s1.free hp, upd_same, p1.same (same_new hp)⟩⟩)
/-! ### tuples: items, slices, + -/
theorem atI_im {K : PySem.W.Frag} {H : Hp} {vs : List V} {ds : List PyData} {i : Int} (h : ImAll K H vs ds) (e : atI ds i = some d) : ∃ v, atI vs i = some v ∧ Im K H v d := by
  unfold atI at e ⊢
  rw [h.len]
  cases q : ixN ds.length i with
  | none => rw [q] at e; cases e
  | some j =>
    rw [q] at e
    exact h.get (i := j) e
theorem i_ixT {ds : List PyData} {i : Int} (hi : atI ds i = some d) (ha : EI X H0 M Γ a (.tuple ds)) (hb : EI X H0 M Γ b (.int i)) (hs : PlainIx b := by exact fun _ _ => rfl) : EI X H0 M Γ (.Subscript a b pos) d := fun g σ H Q R k =>
  wE.of (pe_ix ix_tup pe_w pe_w hs) (ha g σ H _ R fun x H1 s1 p1 => hb g σ H1 _ (R.same s1) fun y H2 s2 p2 => by
    obtain ⟨q, xs, rfl, hq, hx⟩ := (p1.same s2).tup_inv
    obtain ⟨v, h1, h2⟩ := atI_im hx hi
    exact ⟨q, xs, i, v, rfl, p2.int_inv, hq, h1, k _ _ (s1.trans s2) h2⟩)
/-- an item of a list of one's own -/
theorem i_ixO {ds : List PyData} {i : Int} (hi : atI ds i = some d) (ha : EE X H0 M Γ a (kO X.K ds)) (hb : EI X H0 M Γ b (.int i)) (hs : PlainIx b := by exact fun _ _ => rfl) : EI X H0 M Γ (.Subscript a b pos) d := fun g σ H Q R k =>
  wE.of (pe_ix ix_list pe_w pe_w hs) (ha g σ H _ R fun x H1 s1 p1 => hb g σ H1 _ (R.same s1) fun y H2 s2 p2 => by
    obtain ⟨q, xs, rfl, hq, hx⟩ := p1
    obtain ⟨v, h1, h2⟩ := atI_im (hx.same s2) hi
    exact ⟨q, xs, i, v, rfl, p2.int_inv, SqL.of (s2 _ _ hq), h1, k _ _ (s1.trans s2) h2⟩)
def cutD (ds : List PyData) (lo hi : Option Int) : List PyData := (ds.drop (HT.sIx ds.length 0 lo)).take (HT.sIx ds.length ds.length hi - HT.sIx ds.length 0 lo)
theorem cutD_im {K : PySem.W.Frag} {H : Hp} {vs : List V} {ds : List PyData} {lo hi : Option Int} (h : ImAll K H vs ds) : ImAll K H (cutV vs lo hi) (cutD ds lo hi) := by
  unfold cutV cutD
  rw [h.len]
  exact (h.drop _).take _
def PartE (X : Cx) (H0 : Hp) (M : List Addr) (Γ : SC) (e : Option Expr) (o : Option Int) : Prop :=
  (e = none ∧ o = none) ∨ ∃ e' i, e = some e' ∧ o = some i ∧ EI X H0 M Γ e' (.int i)
theorem part_none : PartE X H0 M Γ none none := .inl ⟨rfl, rfl⟩
theorem part_some {i : Int} (h : EI X H0 M Γ e (.int i)) : PartE X H0 M Γ (some e) (some i) := .inr ⟨e, i, rfl, rfl, h⟩
def wO (X : Cx) (e : Option Expr) : TO := match e with | none => tNoPart | some e => tPart (wE X e)
theorem po_w {e : Option Expr} : PO X e (wO X e) := by
  cases e with
  | none => exact po_none
  | some e => exact po_some pe_w
theorem PartE.go {lo : Option Expr} {o : Option Int} (h : PartE X H0 M Γ lo o) {σ : St} {H : Hp} {Q : Option Int → Hp → Prop} {g : Gs} (R : R X.K H0 M g Γ σ H) (k : ∀ H', Same H H' → Q o H') : wO X lo σ H Q := by
  rcases h with ⟨rfl, rfl⟩ | ⟨e, i, rfl, rfl, h⟩
  · exact k H (Same.refl H)
  · exact h g σ H _ R fun x H1 s1 p1 => ⟨i, p1.int_inv, k H1 s1⟩
theorem i_slT {ds : List PyData} {lo hi : Option Expr} {l u : Option Int} {p2 : Pos} (ha : EI X H0 M Γ a (.tuple ds)) (hl : PartE X H0 M Γ lo l) (hh : PartE X H0 M Γ hi u) :
    EI X H0 M Γ (.Subscript a (.Slice lo hi none p2) pos) (.tuple (cutD ds l u)) := fun g σ H Q R k =>
  wE.of (pe_slice sl_tupA pe_w po_w po_w) (ha g σ H _ R fun x H1 s1 p1 => hl.go (R.same s1) fun H2 s2 => hh.go (R.same (s1.trans s2)) fun H3 s3 => by
    have p3 := (p1.same s2).same s3
    obtain ⟨q, xs, rfl, hq, hx⟩ := id p3.tup_inv
    refine ⟨q, xs, rfl, hq, fun hw => ?_, fun _ p hp => ?_⟩
    · have e : cutD ds l u = ds := by
        unfold cutD
        rw [hx.len] at hw
        rw [hw.1, hw.2]
        simp
      rw [e] at k
      exact k _ _ (s1.trans (s2.trans s3)) p3
    · exact k _ _ ((s1.trans (s2.trans s3)).trans (same_new hp)) (.tup (.inl (.inl upd_same)) ((cutD_im hx).same (same_new hp))))
theorem i_catT {ds es : List PyData} (hz : ds.length + es.length ≤ 100000) (ha : EI X H0 M Γ a (.tuple ds)) (hb : EI X H0 M Γ b (.tuple es)) : EI X H0 M Γ (.BinOp a .Add b pos) (.tuple (ds ++ es)) :=
  e_bin op_catA ha hb fun H H1 H2 x y Q s1 s2 p1 p2 k => by
    have p1' := p1.same s2
    obtain ⟨q, xs, rfl, hq, hx⟩ := id p1'.tup_inv
    obtain ⟨q', ys, rfl, hq', hy⟩ := id p2.tup_inv
    refine ⟨q, q', xs, ys, rfl, rfl, hq, hq', by rw [hx.len, hy.len]; exact Nat.le_trans hz (by decide), fun e => ?_, fun _ e => ?_, fun _ _ p hp => ?_⟩
    · subst e
      have : ds = [] := by cases hx; rfl
      subst this
      exact k _ _ (Same.refl _) p2
    · subst e
      have : es = [] := by cases hy; rfl
      subst this
      rw [List.append_nil] at k
      exact k _ _ (Same.refl _) p1'
    · exact k _ _ (same_new hp) (.tup (.inl (.inl upd_same)) ((hx.append hy).same (same_new hp)))
/-! ### calls of one's own defs -/
structure Has (P : Program) (w : World) (K : PySem.W.Frag) (mg : Str → Option Value) (base : Heap) (CX : CXT) (k : Nat) (x : Str) (ps : List Str) (sp : Sp) : Prop where
  ex : ∃ f fd, FnOk P w K mg base CX k f fd ps sp ∧ mg x = some (.ref f) ∧ PySem.W.keepIn K (.ref f) = true ∧ Binds K fd ps []
abbrev HasX (X : Cx) (CX : CXT) (k : Nat) (x : Str) (ps : List Str) (sp : Sp) : Prop := Has X.prog X.w X.K X.mg X.base CX k x ps sp
theorem e_call {x : Str} {ps : List Str} {sp : Sp} {CX : CXT} {Pa : AK} {n : Nat} (h : HasX X CX n x ps sp) (hr : Room k X.A) (hk : n ≤ k) (ha : AA X H0 M Γ (e :: es) Pa)
    (hsp : ∀ H H1 vs (Q : VK), Same H H1 → Pa H vs H1 → (∀ v H', Same H1 H' → P H v H' → Q v H') → sp vs H1 Q E0)
    (hg : Gl X x := by rfl) (hx : Passes CX X E0 := by first | exact pass0 | exact passL) (hdb : (x == ("__debug__" : Str)) = false := by decide)
    (he : starEach (e :: es) X.env = (false, eval e X.env) :: starEach es X.env := by exact star1 rfl) (hpl : (backTo pos (starEach es X.env)).any (·.1) = false := by rfl) : EE X H0 M Γ (.Call (.Name x p0) (e :: es) [] pos) P := fun g σ H Q R k => by
  obtain ⟨f, fd, F, hm, hk', hb⟩ := h.ex
  refine wE.of (pe_call F (hr.mono hk) hg hm hk' hb .nil hx pa_w hdb he hpl) (ha g σ H _ R fun vs H1 s1 p1 => ?_)
  rw [List.append_nil]
  exact hsp H H1 vs Q s1 p1 fun v H' s2 p2 => k v H' (s1.trans s2) p2
/-- a promise: data in, data out -/
def spI (K : PySem.W.Frag) (A : List PyData → PyData → Prop) : Sp := fun vs H Q _ => ∃ ds d, ImAll K H vs ds ∧ A ds d ∧ ∀ v H', Same H H' → Im K H' v d → Q v H'
/-- data in, a new list out -/
def spL (K : PySem.W.Frag) (A : List PyData → List PyData → Prop) : Sp := fun vs H Q _ => ∃ ds d, ImAll K H vs ds ∧ A ds d ∧ ∀ p us H', Same H H' → H p = none → H' p = some (.lst us) → ImAll K H' us d → Q (.ref p) H'
theorem i_call {x : Str} {ps : List Str} {A : List PyData → PyData → Prop} {CX : CXT} {ds : List PyData} {n : Nat} (h : HasX X CX n x ps (spI X.K A)) (hr : Room k X.A) (hk : n ≤ k) (hA : A ds d) (ha : AI X H0 M Γ (e :: es) ds)
    (hg : Gl X x := by rfl) (hx : Passes CX X E0 := by first | exact pass0 | exact passL) (hdb : (x == ("__debug__" : Str)) = false := by decide)
    (he : starEach (e :: es) X.env = (false, eval e X.env) :: starEach es X.env := by exact star1 rfl) (hpl : (backTo pos (starEach es X.env)).any (·.1) = false := by rfl) : EI X H0 M Γ (.Call (.Name x p0) (e :: es) [] pos) d :=
  e_call h hr hk ha (fun H H1 vs Q s1 p1 k => ⟨ds, d, p1, hA, fun v H' s2 q => k v H' s2 q⟩) hg hx hdb he hpl
theorem l_call {x : Str} {ps : List Str} {A : List PyData → List PyData → Prop} {CX : CXT} {ds rs : List PyData} {n : Nat} (h : HasX X CX n x ps (spL X.K A)) (hr : Room k X.A) (hk : n ≤ k) (hA : A ds rs) (ha : AI X H0 M Γ (e :: es) ds)
    (hg : Gl X x := by rfl) (hx : Passes CX X E0 := by first | exact pass0 | exact passL) (hdb : (x == ("__debug__" : Str)) = false := by decide)
    (he : starEach (e :: es) X.env = (false, eval e X.env) :: starEach es X.env := by exact star1 rfl) (hpl : (backTo pos (starEach es X.env)).any (·.1) = false := by rfl) : EL X H0 M Γ (.Call (.Name x p0) (e :: es) [] pos) rs :=
  e_call h hr hk ha (fun H H1 vs Q s1 p1 k => ⟨ds, rs, p1, hA, fun p us H' s2 n q m => k _ H' s2 ⟨p, us, rfl, s1.free n, q, m⟩⟩) hg hx hdb he hpl
/-! ### calls of built-ins -/
theorem e_callB {x id : Str} {idn : String} {r : List V → Hp → VK → Prop} {Pa : AK} (hc : CallR X (.builtin idn) r) (hm : X.mg x = none) (hv : bootBuiltins x = some (.builtin idn)) (ha : AA X H0 M Γ (e :: es) Pa)
    (hsp : ∀ H H1 vs (Q : VK), Same H H1 → Pa H vs H1 → (∀ v H', Same H1 H' → P H v H' → Q v H') → r vs H1 Q)
    (hg : Gl X x := by rfl) (hn : x ≠ "__name__" := by decide) (hdb : (x == ("__debug__" : Str)) = false := by decide)
    (he : starEach (e :: es) X.env = (false, eval e X.env) :: starEach es X.env := by exact star1 rfl) (hpl : (backTo pos (starEach es X.env)).any (·.1) = false := by rfl) : EE X H0 M Γ (.Call (.Name x p0) (e :: es) [] pos) P := fun g σ H Q R k =>
  wE.of (pe_callB hc hg hm hv pa_w hn hdb he hpl) (ha g σ H _ R fun vs H1 s1 p1 => hsp H H1 vs Q s1 p1 fun v H' s2 p2 => k v H' (s1.trans s2) p2)
theorem e_callTy {x : Str} {T : String} {r : List V → Hp → VK → Prop} {Pa : AK} (hc : CallR X (.type T) r) (hm : X.mg x = none) (hv : bootBuiltins x = some (.type T)) (ha : AA X H0 M Γ (e :: es) Pa)
    (hsp : ∀ H H1 vs (Q : VK), Same H H1 → Pa H vs H1 → (∀ v H', Same H1 H' → P H v H' → Q v H') → r vs H1 Q)
    (hg : Gl X x := by rfl) (hn : x ≠ "__name__" := by decide) (hdb : (x == ("__debug__" : Str)) = false := by decide)
    (he : starEach (e :: es) X.env = (false, eval e X.env) :: starEach es X.env := by exact star1 rfl) (hpl : (backTo pos (starEach es X.env)).any (·.1) = false := by rfl) : EE X H0 M Γ (.Call (.Name x p0) (e :: es) [] pos) P := fun g σ H Q R k =>
  wE.of (pe_callTy hc hg hm hv pa_w hn hdb he hpl) (ha g σ H _ R fun vs H1 s1 p1 => hsp H H1 vs Q s1 p1 fun v H' s2 p2 => k v H' (s1.trans s2) p2)
/-! ### tests -/
theorem t_val {k : Bool} (h : EI X H0 M Γ e (.bool k)) (he : ∀ whole, isTrue e X.env whole = (do let v ← whole; standAt e.pos; holding [v] (truthy v)) := by intro _; rfl) : ET X H0 M Γ e k := fun g σ H Q R q =>
  wT.of (pt_val pe_w he) (h g σ H _ R fun x H1 s1 p1 => ⟨k, p1.bl_inv, q H1 s1⟩)
theorem t_cmp {op : CmpOp} {r : R2} {k : Bool} (ho : OpR X (compareOp op) r) (ha : EE X H0 M Γ a Pa) (hb : EE X H0 M Γ b Pb) (hm : behindInMarks op b = false)
    (h : ∀ H H1 H2 x y (Q : VK), Same H H1 → Same H1 H2 → Pa H x H1 → Pb H1 y H2 → (∀ H', Same H2 H' → Q (.bl k) H') → r x y H2 Q) : ET X H0 M Γ (.Compare a [op] [b] pos) k := fun g σ H Q R q =>
  wT.of (pt_cmpR ho pe_w pe_w hm) (ha g σ H _ R fun x H1 s1 p1 => hb g σ H1 _ (R.same s1) fun y H2 s2 p2 => h H H1 H2 x y _ s1 s2 p1 p2 fun H' s3 => ⟨k, rfl, q H' (s1.trans (s2.trans s3))⟩)
section
variable {i j : Int}
theorem t_lt (ha : EI X H0 M Γ a (.int i)) (hb : EI X H0 M Γ b (.int j)) : ET X H0 M Γ (.Compare a [.Lt] [b] pos) (decide (i < j)) :=
  t_cmp op_lt ha hb (nomark _) fun H H1 H2 x y Q s1 s2 p1 p2 k => ⟨i, j, p1.int_inv, p2.int_inv, k _ (Same.refl _)⟩
theorem t_le (ha : EI X H0 M Γ a (.int i)) (hb : EI X H0 M Γ b (.int j)) : ET X H0 M Γ (.Compare a [.LtE] [b] pos) (decide (i ≤ j)) :=
  t_cmp op_le ha hb (nomark _) fun H H1 H2 x y Q s1 s2 p1 p2 k => ⟨i, j, p1.int_inv, p2.int_inv, k _ (Same.refl _)⟩
theorem t_gt (ha : EI X H0 M Γ a (.int i)) (hb : EI X H0 M Γ b (.int j)) : ET X H0 M Γ (.Compare a [.Gt] [b] pos) (decide (j < i)) :=
  t_cmp op_gt ha hb (nomark _) fun H H1 H2 x y Q s1 s2 p1 p2 k => ⟨i, j, p1.int_inv, p2.int_inv, k _ (Same.refl _)⟩
theorem t_ge (ha : EI X H0 M Γ a (.int i)) (hb : EI X H0 M Γ b (.int j)) : ET X H0 M Γ (.Compare a [.GtE] [b] pos) (decide (j ≤ i)) :=
  t_cmp op_ge ha hb (nomark _) fun H H1 H2 x y Q s1 s2 p1 p2 k => ⟨i, j, p1.int_inv, p2.int_inv, k _ (Same.refl _)⟩
end
theorem t_eq (hr : Room k X.A) (hd : d.depth ≤ 64) (ha : EI X H0 M Γ a d) (hb : EI X H0 M Γ b d') : ET X H0 M Γ (.Compare a [.Eq] [b] pos) (PyData.eqv d d') :=
  t_cmp (op_eqP hr.units) ha hb (nomark _) fun H H1 H2 x y Q s1 s2 p1 p2 k => ⟨d, d', p1.same s2, p2, hd, k _ (Same.refl _)⟩
theorem t_ne (hr : Room k X.A) (hd : d.depth ≤ 64) (ha : EI X H0 M Γ a d) (hb : EI X H0 M Γ b d') : ET X H0 M Γ (.Compare a [.NotEq] [b] pos) (!PyData.eqv d d') :=
  t_cmp (op_neP hr.units) ha hb (nomark _) fun H H1 H2 x y Q s1 s2 p1 p2 k => ⟨d, d', p1.same s2, p2, hd, k _ (Same.refl _)⟩
theorem t_not {x : Bool} (h : ET X H0 M Γ a x) : ET X H0 M Γ (.UnaryOp .Not a pos) (!x) := fun g σ H Q R q => wT.of (pt_not pt_w) (h g σ H _ R fun H1 s1 => q H1 s1)
def ETW (X : Cx) (H0 : Hp) (M : List Addr) (Γ : SC) (e : Expr) (b : Bool) : Prop := ∃ t, PW X e t ∧ ∀ g σ H Q, R X.K H0 M g Γ σ H → (∀ H', Same H H' → Q b H') → t σ H Q
theorem t_bool {x : Bool} (h : ETW X H0 M Γ e x) : ET X H0 M Γ e x := by
  obtain ⟨t, p, q⟩ := h
  exact fun g σ H Q R k => wT.of p.pt (q g σ H Q R k)
variable {rest : List Expr}
theorem tw_and1 {x : Bool} (h : ET X H0 M Γ a x) : ETW X H0 M Γ (.BoolOp .And [a] pos) x := ⟨_, pw_and1 pt_w, h⟩
theorem tw_or1 {x : Bool} (h : ET X H0 M Γ a x) : ETW X H0 M Γ (.BoolOp .Or [a] pos) x := ⟨_, pw_or1 pt_w, h⟩
theorem tw_and {x y : Bool} (h : ET X H0 M Γ a x) (g : x = true → ETW X H0 M Γ (.BoolOp .And (b :: rest) pos) y) : ETW X H0 M Γ (.BoolOp .And (a :: b :: rest) pos) (x && y) := by
  cases x with
  | true =>
    obtain ⟨t, p, q⟩ := g rfl
    exact ⟨_, pw_and pt_w p, fun g σ H Q R k => h g σ H _ R fun H1 s1 => q g σ H1 Q (R.same s1) fun H2 s2 => k H2 (s1.trans s2)⟩
  | false => exact ⟨_, pw_and (tB' := fun _ _ _ => False) pt_w ⟨fun wh pins s σ H Q I z => False.elim z⟩, fun g σ H Q R k => h g σ H _ R fun H1 s1 => k H1 s1⟩
theorem tw_or {x y : Bool} (h : ET X H0 M Γ a x) (g : x = false → ETW X H0 M Γ (.BoolOp .Or (b :: rest) pos) y) : ETW X H0 M Γ (.BoolOp .Or (a :: b :: rest) pos) (x || y) := by
  cases x with
  | false =>
    obtain ⟨t, p, q⟩ := g rfl
    exact ⟨_, pw_or pt_w p, fun g σ H Q R k => h g σ H _ R fun H1 s1 => q g σ H1 Q (R.same s1) fun H2 s2 => k H2 (s1.trans s2)⟩
  | true => exact ⟨_, pw_or (tB' := fun _ _ _ => False) pt_w ⟨fun wh pins s σ H Q I z => False.elim z⟩, fun g σ H Q R k => h g σ H _ R fun H1 s1 => k H1 s1⟩
end
end G

namespace G
open PySem PySem.Spec PyProof.Rows L2

/-! ### expressions that move the drawing state on -/
/-- e gives a value that P tells and leaves the slots as Γ' says -/
def EX (X : Cx) (H0 : Hp) (M : List Addr) (Γ : SC) (e : Expr) (Γ' : SC) (P : V → Hp → Prop) : Prop :=
  ∀ g σ H Q, R X.K H0 M g Γ σ H → (∀ v H', R X.K H0 M g Γ' σ H' → Gw H H' → P v H' → Q v H') → wE X e σ H Q
/-- some data that A tells -/
abbrev xI (K : PySem.W.Frag) (A : PyData → Prop) : V → Hp → Prop := fun v H' => ∃ d, A d ∧ Im K H' v d
def AX (X : Cx) (H0 : Hp) (M : List Addr) (Γ : SC) (es : List Expr) (Γ' : SC) (A : List PyData → Prop) : Prop :=
  ∀ g σ H Q, R X.K H0 M g Γ σ H → (∀ vs H' ds, R X.K H0 M g Γ' σ H' → Gw H H' → A ds → ImAll X.K H' vs ds → Q vs H') → wA X es σ H Q
def TX (X : Cx) (H0 : Hp) (M : List Addr) (Γ : SC) (e : Expr) (Γ' : SC) (A : Bool → Prop) : Prop :=
  ∀ g σ H Q, R X.K H0 M g Γ σ H → (∀ b H', R X.K H0 M g Γ' σ H' → Gw H H' → A b → Q b H') → wT X e σ H Q
section
variable {X : Cx} {H0 : Hp} {M : List Addr} {Γ Γ1 Γ2 : SC} {e a b c : Expr} {es : List Expr} {pos p0 : Pos}
theorem x_of {P : EK} (h : EE X H0 M Γ e P) : EX X H0 M Γ e Γ (fun v H' => ∃ H, P H v H') := fun g σ H Q r k => h g σ H Q r fun v H' s p => k v H' (r.same s) (Same.gw s) ⟨H, p⟩
theorem x_i {d : PyData} (h : EI X H0 M Γ e d) : EX X H0 M Γ e Γ (xI X.K (· = d)) := fun g σ H Q r k => h g σ H Q r fun v H' s p => k v H' (r.same s) (Same.gw s) ⟨d, rfl, p⟩
theorem EX.mono {A B : PyData → Prop} (h : EX X H0 M Γ e Γ1 (xI X.K A)) (q : ∀ d, A d → B d) : EX X H0 M Γ e Γ1 (xI X.K B) := fun g σ H Q r k =>
  h g σ H Q r fun v H' r' s ⟨d, p, m⟩ => k v H' r' s ⟨d, q d p, m⟩
theorem ax_of {ds : List PyData} (h : AI X H0 M Γ es ds) : AX X H0 M Γ es Γ (· = ds) := fun g σ H Q r k => h g σ H Q r fun v H' s p => k v H' ds (r.same s) (Same.gw s) rfl p
theorem ax_cons {A : PyData → Prop} {B : List PyData → Prop} (he : EX X H0 M Γ e Γ1 (xI X.K A)) (ht : AX X H0 M Γ1 es Γ2 B) (hs : starEach (e :: es) X.env = (false, eval e X.env) :: starEach es X.env := by exact star1 rfl) :
    AX X H0 M Γ (e :: es) Γ2 (fun ds => ∃ d r, ds = d :: r ∧ A d ∧ B r) := fun g σ H Q r k =>
  wA.of (pa_cons pe_w pa_w hs) (he g σ H _ r fun x H1 r1 s1 ⟨d, p1, m1⟩ => ht g σ H1 _ r1 fun xs H2 ds r2 s2 p2 m2 => k _ H2 _ r2 (s1.trans s2) ⟨d, ds, rfl, p1, p2⟩ (.cons (m1.gw s2 d x) m2))
theorem x_tup {A : List PyData → Prop} {x1} (h : AX X H0 M Γ es Γ1 A) (hl : ∀ ds, A ds → ds.length ≤ 100000) : EX X H0 M Γ (.Tuple es x1 pos) Γ1 (xI X.K fun d => ∃ ds, d = .tuple ds ∧ A ds) := fun g σ H Q r k =>
  wE.of (pe_tup pa_w) (h g σ H _ r fun xs H1 ds r1 s1 p1 m1 => ⟨by rw [m1.len]; exact Nat.le_trans (hl ds p1) (by decide), fun p hp =>
    k _ _ (r1.same (same_new hp)) (s1.trans (Same.gw (same_new hp))) ⟨_, ⟨ds, rfl, p1⟩, .tup (.inl (.inl upd_same)) (m1.same (same_new hp))⟩⟩)
theorem x_bin {op : Operator} {r : R2} {A B D : PyData → Prop} (ho : OpR X (binaryOp op) r) (ha : EX X H0 M Γ a Γ1 (xI X.K A)) (hb : EX X H0 M Γ1 b Γ2 (xI X.K B))
    (h : ∀ H x y dx dy (Q : VK), A dx → B dy → Im X.K H x dx → Im X.K H y dy → (∀ v H' d, Same H H' → D d → Im X.K H' v d → Q v H') → r x y H Q) : EX X H0 M Γ (.BinOp a op b pos) Γ2 (xI X.K D) := fun g σ H Q r k =>
  wE.of (pe_op ho pe_w pe_w) (ha g σ H _ r fun x H1 r1 s1 ⟨dx, p1, m1⟩ => hb g σ H1 _ r1 fun y H2 r2 s2 ⟨dy, p2, m2⟩ => h H2 x y dx dy Q p1 p2 (m1.gw s2 dx x) m2 fun v H' d s3 p3 m3 =>
    k v H' (r2.same s3) ((s1.trans s2).trans (Same.gw s3)) ⟨d, p3, m3⟩)
theorem x_cmp {op : CmpOp} {r : R2} {A B D : PyData → Prop} (ho : OpR X (compareOp op) r) (ha : EX X H0 M Γ a Γ1 (xI X.K A)) (hb : EX X H0 M Γ1 b Γ2 (xI X.K B)) (hm : behindInMarks op b = false)
    (h : ∀ H x y dx dy (Q : VK), A dx → B dy → Im X.K H x dx → Im X.K H y dy → (∀ v H' d, Same H H' → D d → Im X.K H' v d → Q v H') → r x y H Q) : EX X H0 M Γ (.Compare a [op] [b] pos) Γ2 (xI X.K D) := fun g σ H Q r k =>
  wE.of (pe_cmpR ho pe_w pe_w hm) (ha g σ H _ r fun x H1 r1 s1 ⟨dx, p1, m1⟩ => hb g σ H1 _ r1 fun y H2 r2 s2 ⟨dy, p2, m2⟩ => h H2 x y dx dy Q p1 p2 (m1.gw s2 dx x) m2 fun v H' d s3 p3 m3 =>
    k v H' (r2.same s3) ((s1.trans s2).trans (Same.gw s3)) ⟨d, p3, m3⟩)
/-- an item of a list of one's own, at a drawn place -/
theorem x_ixO {i : Nat} {x : Str} {px : Pos} {ds : List PyData} {B D : PyData → Prop} (hg : Γ.getD i .no = .ls ds) (hg1 : Γ1.getD i .no = .ls ds) (hb : EX X H0 M Γ b Γ1 (xI X.K B))
    (h : ∀ dy, B dy → ∃ j d, dy = .int j ∧ atI ds j = some d ∧ D d) (hN : X.N[i]? = some x := by rfl) (hv : Vis X.env.scope x := by first | exact Or.inl rfl | exact Or.inr (Or.inl rfl) | exact Or.inr (Or.inr rfl)) (hd : (x == ("__debug__" : Str)) = false := by decide)
    (hcd : (x == ("__classdict__" : Str)) = false := by decide) (hs : PlainIx b := by exact fun _ _ => rfl) : EX X H0 M Γ (.Subscript (.Name x px) b pos) Γ1 (xI X.K D) := fun g σ H Q r k => by
  obtain ⟨p, vs, e, m, q, _⟩ := r.ls hg
  refine wE.of (pe_ix ix_list (pe_var hN hv hd hcd) pe_w hs) ⟨_, e, hb g σ H _ r fun y H1 r1 s1 ⟨dy, p1, m1⟩ => ?_⟩
  obtain ⟨j, d, rfl, h1, h2⟩ := h dy p1
  obtain ⟨p', vs', e', m', q', _⟩ := r1.ls hg1
  rw [e] at e'
  have ep : p = p' := by
    injection e' with a; injection a with b; injection b
  subst ep
  obtain ⟨v, g1, g2⟩ := atI_im q' h1
  exact ⟨p, vs', j, v, rfl, m1.int_inv, SqL.of m', g1, k v H1 r1 s1 ⟨d, h2, g2⟩⟩
/-- an item of a tuple, at a drawn place -/
theorem x_ixT {A B D : PyData → Prop} (ha : EX X H0 M Γ a Γ1 (xI X.K A)) (hb : EX X H0 M Γ1 b Γ2 (xI X.K B)) (h : ∀ dx dy, A dx → B dy → ∃ ds j d, dx = .tuple ds ∧ dy = .int j ∧ atI ds j = some d ∧ D d) (hs : PlainIx b := by exact fun _ _ => rfl) :
    EX X H0 M Γ (.Subscript a b pos) Γ2 (xI X.K D) := fun g σ H Q r k =>
  wE.of (pe_ix ix_tup pe_w pe_w hs) (ha g σ H _ r fun x H1 r1 s1 ⟨dx, p1, m1⟩ => hb g σ H1 _ r1 fun y H2 r2 s2 ⟨dy, p2, m2⟩ => by
    obtain ⟨ds, j, d, rfl, rfl, h1, h2⟩ := h dx dy p1 p2
    obtain ⟨q, xs, rfl, hq, hx⟩ := (m1.gw s2 _ _).tup_inv
    obtain ⟨v, g1, g2⟩ := atI_im hx h1
    exact ⟨q, xs, j, v, rfl, m2.int_inv, hq, g1, k _ _ r2 (s1.trans s2) ⟨d, h2, g2⟩⟩)
/-- a promise of a def whose first argument is the drawing state: A: the other arguments and the bound; B: what it gives; c: by how much the bound grows -/
def spS (K : PySem.W.Frag) (A : List PyData → Nat → Prop) (c : List PyData → Nat) (B : List PyData → PyData → Prop) : Sp := fun vs H Q _ =>
  ∃ a q n ws ds, vs = .ref a :: ws ∧ StAt H a q n ∧ ImAll K H ws ds ∧ A ds n ∧ ∀ v d H', But [a] H H' → StAt H' a q (n + c ds) → B ds d → Im K H' v d → Q v H'
theorem x_call {i k n m : Nat} {x y : Str} {py : Pos} {ps : List Str} {A : List PyData → Nat → Prop} {c : List PyData → Nat} {B : List PyData → PyData → Prop} {CX : CXT} {ds : List PyData} {u q : Addr}
    (h : HasX X CX n x ps (spS X.K A c B)) (hr : Room k X.A) (hk : n ≤ k) (hst : Γ.getD i .no = .st u q m) (ha : AI X H0 M Γ es ds) (hA : A ds m)
    (hg : Gl X x := by rfl) (hx : Passes CX X E0 := by first | exact pass0 | exact passL) (hdb : (x == ("__debug__" : Str)) = false := by decide)
    (he : starEach (.Name y py :: es) X.env = (false, eval (.Name y py) X.env) :: starEach es X.env := by exact star1 rfl) (hpl : (backTo pos (starEach es X.env)).any (·.1) = false := by rfl)
    (hN : X.N[i]? = some y := by rfl) (hv : Vis X.env.scope y := by first | exact Or.inl rfl | exact Or.inr (Or.inl rfl) | exact Or.inr (Or.inr rfl)) (hd : (y == ("__debug__" : Str)) = false := by decide)
    (hcd : (y == ("__classdict__" : Str)) = false := by decide) : EX X H0 M Γ (.Call (.Name x p0) (.Name y py :: es) [] pos) (Γ.set i (.st u q (m + c ds))) (xI X.K (B ds)) := fun g σ H Q r k => by
  obtain ⟨f, fd, F, hm, hk', hb⟩ := h.ex
  obtain ⟨e, sa⟩ := r.st hst
  refine wE.of (pe_call F (hr.mono hk) hg hm hk' hb .nil hx (pa_cons (pe_var hN hv hd hcd) pa_w he) hdb he hpl) ⟨_, e, ha g σ H _ r fun vs H1 s1 p1 => ?_⟩
  show spS X.K A c B ((V.ref u :: vs) ++ []) H1 Q E0
  rw [List.append_nil]
  have r1 := r.same s1
  obtain ⟨_, sa1⟩ := r1.st hst
  refine ⟨u, q, m, vs, ds, rfl, sa1, p1, hA, fun v d H' b1 s2 p2 m2 => ?_⟩
  obtain ⟨s0, row, nn, sd, z1, z2, _⟩ := sa1
  have gg : Gw H1 H' := ⟨fun b xs z => b1 b _ (fun m => by
      have : b = u := by simpa using m
      subst this; rw [z1] at z; cases z) z, fun b o u' z => b1 b _ (fun m => by
      have : b = u := by simpa using m
      subst this; rw [z1] at z; cases z) z⟩
  exact k v H' (r1.updSt hst b1 s2) ((Same.gw s1).trans gg) ⟨d, p2, m2⟩
theorem tx_of {k : Bool} (h : ET X H0 M Γ e k) : TX X H0 M Γ e Γ (· = k) := fun g σ H Q r q => h g σ H Q r fun H1 s1 => q k H1 (r.same s1) (Same.gw s1) rfl
theorem tx_cmp {op : CmpOp} {r : R2} {A B : PyData → Prop} {D : Bool → Prop} (ho : OpR X (compareOp op) r) (ha : EX X H0 M Γ a Γ1 (xI X.K A)) (hb : EX X H0 M Γ1 b Γ2 (xI X.K B)) (hm : behindInMarks op b = false)
    (h : ∀ H x y dx dy (Q : VK), A dx → B dy → Im X.K H x dx → Im X.K H y dy → (∀ H' d, Same H H' → D d → Q (.bl d) H') → r x y H Q) : TX X H0 M Γ (.Compare a [op] [b] pos) Γ2 D := fun g σ H Q r k =>
  wT.of (pt_cmpR ho pe_w pe_w hm) (ha g σ H _ r fun x H1 r1 s1 ⟨dx, p1, m1⟩ => hb g σ H1 _ r1 fun y H2 r2 s2 ⟨dy, p2, m2⟩ => h H2 x y dx dy _ p1 p2 (m1.gw s2 dx x) m2 fun H' d s3 p3 =>
    ⟨d, rfl, k d H' (r2.same s3) ((s1.trans s2).trans (Same.gw s3)) p3⟩)
theorem tx_val {A : PyData → Prop} {D : Bool → Prop} (h : EX X H0 M Γ e Γ1 (xI X.K A)) (hD : ∀ d, A d → ∃ b, d = .bool b ∧ D b) (he : ∀ whole, isTrue e X.env whole = (do let v ← whole; standAt e.pos; holding [v] (truthy v)) := by intro _; rfl) : TX X H0 M Γ e Γ1 D := fun g σ H Q r q =>
  wT.of (pt_val pe_w he) (h g σ H _ r fun x H1 r1 s1 ⟨d, p, m⟩ => by
    obtain ⟨b, rfl, hb⟩ := hD d p
    exact ⟨b, m.bl_inv, q b H1 r1 s1 hb⟩)
end

/-! ### statements -/
/-- from where the ends D' are reached if D's are -/
structure Imp (g : Hp → Prop) (D D' : Ends) : Prop where
  nx : ∀ σ H, g H → D.nx σ H → D'.nx σ H
  rt : ∀ v H, g H → D.rt v H → D'.rt v H
  bk : ∀ σ H, g H → D.bk σ H → D'.bk σ H
  ct : ∀ σ H, g H → D.ct σ H → D'.ct σ H
abbrev Far (g : Gs) (H : Hp) : Hp → Prop := fun H' => Gw H H' ∧ Kept g H'
theorem Imp.go {g : Gs} {H H' : Hp} {D D' : Ends} (h : Imp (Far g H) D D') (s : Gw H H') : Imp (Far g H') D D' :=
  ⟨fun σ H1 f => h.nx σ H1 ⟨s.trans f.1, f.2⟩, fun σ H1 f => h.rt σ H1 ⟨s.trans f.1, f.2⟩, fun σ H1 f => h.bk σ H1 ⟨s.trans f.1, f.2⟩, fun σ H1 f => h.ct σ H1 ⟨s.trans f.1, f.2⟩⟩
structure DD where
  rt : VK
  nx : Gs → St → Hp → Prop := fun _ _ _ => False
  bk : Gs → St → Hp → Prop := fun _ _ _ => False
  ct : Gs → St → Hp → Prop := fun _ _ _ => False
abbrev DD.at (D : DD) (g : Gs) : Ends := { nx := D.nx g, rt := D.rt, bk := D.bk g, ct := D.ct g }
/-- from slots as Γ the statements reach D -/
def SG (X : Cx) (H0 : Hp) (M : List Addr) (Γ : SC) (sts : List Stmt) (D : DD) : Prop :=
  ∀ g σ H D', R X.K H0 M g Γ σ H → Imp (Far g H) (D.at g) D' → wSs X sts D' σ H
section
variable {X : Cx} {H0 : Hp} {M : List Addr} {Γ Γ1 Γ2 : SC} {e c : Expr} {es : List Expr} {pos p0 : Pos} {rest body orelse : List Stmt} {D : DD}
theorem g_nil (h : ∀ g σ H, R X.K H0 M g Γ σ H → D.nx g σ H) : SG X H0 M Γ [] D := fun g σ H D' r i => wSs.of pss_nil (i.nx σ H ⟨Gw.refl H, r.kept⟩ (h g σ H r))
theorem cons_w {s1 : Stmt} {D' : Ends} {σ : St} {H : Hp} (h : wS X s1 { D' with nx := fun σ' H' => wSs X rest D' σ' H' } σ H) : wSs X (s1 :: rest) D' σ H := wSs.of (pss_cons ps_w pss_w) h
theorem wS.of' {s1 : Stmt} {t : TS} {D' : Ends} {σ : St} {H : Hp} (h : PS X s1 t) (q : t { D' with nx := fun σ' H' => wSs X rest D' σ' H' } σ H) : wSs X (s1 :: rest) D' σ H := cons_w (wS.of h q)
/-- x = e -/
theorem g_set (i : Nat) {x : Str} {px : Pos} {d : PyData} (hN : X.N.Nodup) (hl : Γ.length = X.N.length) (he : EI X H0 M Γ e d) (hr : SG X H0 M (Γ.set i (.im d)) rest D) (hi : X.N[i]? = some x := by rfl) (hx : Loc X.env.scope x := by first | exact Or.inl rfl | exact Or.inr rfl)
    (hs : swapsWith e (some (.Name x px)) pos.line X.env = pure false := by rfl) (hf : X.fn x = true ∨ X.env.scope.names.lookup x = some .local := by first | exact .inl rfl | exact .inr rfl | assumption) : SG X H0 M Γ (.Assign [.Name x px] e pos :: rest) D := fun g σ H D' r im =>
  wS.of' (ps_set hN hi hx pe_w hs hf) (he g σ H _ r fun v H' s m => hr g _ _ D' (r.setIm s (by rw [hl]; exact (List.getElem?_eq_some_iff.mp hi).1) m) (im.go (Same.gw s)))
theorem g_setX (i : Nat) {x : Str} {px : Pos} {A : PyData → Prop} (hN : X.N.Nodup) (hl : Γ1.length = X.N.length) (he : EX X H0 M Γ e Γ1 (xI X.K A)) (hr : ∀ d, A d → SG X H0 M (Γ1.set i (.im d)) rest D) (hi : X.N[i]? = some x := by rfl) (hx : Loc X.env.scope x := by first | exact Or.inl rfl | exact Or.inr rfl)
    (hs : swapsWith e (some (.Name x px)) pos.line X.env = pure false := by rfl) (hf : X.fn x = true ∨ X.env.scope.names.lookup x = some .local := by first | exact .inl rfl | exact .inr rfl | assumption) : SG X H0 M Γ (.Assign [.Name x px] e pos :: rest) D := fun g σ H D' r im =>
  wS.of' (ps_set hN hi hx pe_w hs hf) (he g σ H _ r fun v H' r1 s ⟨d, p, m⟩ => hr d p g _ _ D' (r1.setIm (Same.refl H') (by rw [hl]; exact (List.getElem?_eq_some_iff.mp hi).1) m) (im.go s))
theorem g_setV (i : Nat) {x : Str} {px : Pos} {u : V} (hN : X.N.Nodup) (hl : Γ.length = X.N.length) (he : EV X H0 M Γ e u) (hr : SG X H0 M (Γ.set i (.va u)) rest D) (hi : X.N[i]? = some x := by rfl) (hx : Loc X.env.scope x := by first | exact Or.inl rfl | exact Or.inr rfl)
    (hs : swapsWith e (some (.Name x px)) pos.line X.env = pure false := by rfl) (hf : X.fn x = true ∨ X.env.scope.names.lookup x = some .local := by first | exact .inl rfl | exact .inr rfl | assumption) : SG X H0 M Γ (.Assign [.Name x px] e pos :: rest) D := fun g σ H D' r im =>
  wS.of' (ps_set hN hi hx pe_w hs hf) (he g σ H _ r fun v H' s m => by
    subst m
    exact hr g _ _ D' (r.setVa s (by rw [hl]; exact (List.getElem?_eq_some_iff.mp hi).1)) (im.go (Same.gw s)))
/-- M is still there -/
def MOk (X : Cx) (H0 : Hp) (M : List Addr) (Γ : SC) : Prop := ∀ g σ H, R X.K H0 M g Γ σ H → ∀ a ∈ M, H0 a ≠ none → H a ≠ none
theorem MOk.nil : MOk X H0 [] Γ := fun _ _ _ _ a h => nomatch h
theorem MOk.ofSt {i : Nat} {a q : Addr} {b : Nat} (h : Γ.getD i .no = .st a q b) : MOk X H0 [a] Γ := fun g σ H r c hc _ => by
  have : c = a := by simpa using hc
  subst this
  obtain ⟨_, _, row, n, sd, h1, _⟩ := r.st h
  rw [h1]
  exact fun z => nomatch z
theorem g_setL (i : Nat) {x : Str} {px : Pos} {ds : List PyData} (hM : MOk X H0 M Γ) (hN : X.N.Nodup) (hl : Γ.length = X.N.length) (he : EL X H0 M Γ e ds) (hr : SG X H0 M (Γ.set i (.ls ds)) rest D) (hi : X.N[i]? = some x := by rfl) (hx : Loc X.env.scope x := by first | exact Or.inl rfl | exact Or.inr rfl)
    (hs : swapsWith e (some (.Name x px)) pos.line X.env = pure false := by rfl) (hf : X.fn x = true ∨ X.env.scope.names.lookup x = some .local := by first | exact .inl rfl | exact .inr rfl | assumption) : SG X H0 M Γ (.Assign [.Name x px] e pos :: rest) D := fun g σ H D' r im =>
  wS.of' (ps_set hN hi hx pe_w hs hf) (he g σ H _ r fun v H' s ⟨p, vs, ev, hn, hp, m⟩ => by
    subst ev
    exact hr g _ _ D' (r.setLs s (by rw [hl]; exact (List.getElem?_eq_some_iff.mp hi).1) hn (r.fresh (hM g σ H r) hn) hp m) (im.go (Same.gw s)))
/-- return e -/
theorem g_ret {P : EK} (he : EE X H0 M Γ e P) (h : ∀ g σ H v H', R X.K H0 M g Γ σ H → Same H H' → P H v H' → D.rt v H') : SG X H0 M Γ (.Return (some e) pos :: rest) D := fun g σ H D' r im =>
  wS.of' (ps_ret pe_w) (he g σ H _ r fun v H' s p => im.rt v H' ⟨Same.gw s, (r.same s).kept⟩ (h g σ H v H' r s p))
theorem g_retX {P : V → Hp → Prop} (he : EX X H0 M Γ e Γ1 P) (h : ∀ g σ v H', R X.K H0 M g Γ1 σ H' → P v H' → D.rt v H') : SG X H0 M Γ (.Return (some e) pos :: rest) D := fun g σ H D' r im =>
  wS.of' (ps_ret pe_w) (he g σ H _ r fun v H' r1 s p => im.rt v H' ⟨s, r1.kept⟩ (h g σ v H' r1 p))
/-- if c: body else: orelse -/
theorem g_if {k : Bool} (hc : ET X H0 M Γ c k) (ht : k = true → SG X H0 M Γ body { D with nx := fun g σ H => ∀ D', Imp (Far g H) (D.at g) D' → wSs X rest D' σ H })
    (hf : k = false → SG X H0 M Γ orelse { D with nx := fun g σ H => ∀ D', Imp (Far g H) (D.at g) D' → wSs X rest D' σ H }) : SG X H0 M Γ (.If c body orelse pos :: rest) D := fun g σ H D' r im => by
  refine wS.of' (ps_if pt_w pss_w pss_w) (hc g σ H _ r fun H' s => ?_)
  have im' := im.go (Same.gw s)
  have im2 : Imp (Far g H') (({ D with nx := fun g σ H => ∀ D', Imp (Far g H) (D.at g) D' → wSs X rest D' σ H } : DD).at g) { D' with nx := fun σ' H' => wSs X rest D' σ' H' } :=
    ⟨fun σ1 H1 f q => q D' (im'.go f.1), im'.rt, im'.bk, im'.ct⟩
  cases k with
  | true => exact ht rfl g σ H' _ (r.same s) im2
  | false => exact hf rfl g σ H' _ (r.same s) im2
theorem g_ifX {A : Bool → Prop} (hc : TX X H0 M Γ c Γ1 A) (ht : A true → SG X H0 M Γ1 body { D with nx := fun g σ H => ∀ D', Imp (Far g H) (D.at g) D' → wSs X rest D' σ H })
    (hf : A false → SG X H0 M Γ1 orelse { D with nx := fun g σ H => ∀ D', Imp (Far g H) (D.at g) D' → wSs X rest D' σ H }) : SG X H0 M Γ (.If c body orelse pos :: rest) D := fun g σ H D' r im => by
  refine wS.of' (ps_if pt_w pss_w pss_w) (hc g σ H _ r fun k H' r1 s p => ?_)
  have im' := im.go s
  have im2 : Imp (Far g H') (({ D with nx := fun g σ H => ∀ D', Imp (Far g H) (D.at g) D' → wSs X rest D' σ H } : DD).at g) { D' with nx := fun σ' H' => wSs X rest D' σ' H' } :=
    ⟨fun σ1 H1 f q => q D' (im'.go f.1), im'.rt, im'.bk, im'.ct⟩
  cases k with
  | true => exact ht p g σ H' _ r1 im2
  | false => exact hf p g σ H' _ r1 im2
/-- a branch's end: on with what follows the if -/
theorem g_on (h : SG X H0 M Γ rest D) : SG X H0 M Γ [] { D with nx := fun g σ H => ∀ D', Imp (Far g H) (D.at g) D' → wSs X rest D' σ H } := g_nil fun g σ H r D' im => h g σ H D' r im
/-- .append of data to a list of one's own in slot i -/
theorem g_append (i : Nat) {x : Str} {px pa : Pos} {d : PyData} {ds : List PyData} (hls : Γ.getD i .no = .ls ds) (hz : ds.length < 100000) (he : EI X H0 M Γ e d) (hr : SG X H0 M (Γ.set i (.ls (ds ++ [d]))) rest D)
    (hN : X.N[i]? = some x := by rfl) (hv : Vis X.env.scope x := by first | exact Or.inl rfl | exact Or.inr (Or.inl rfl) | exact Or.inr (Or.inr rfl)) (hd : (x == ("__debug__" : Str)) = false := by decide)
    (hcd : (x == ("__classdict__" : Str)) = false := by decide)
    (hp : ∀ {to : TE} {t : TA}, PE X (.Name x px) to → PA X [e] t → PE X (.Call (.Attribute (.Name x px) "append" pa) [e] [] p0) (tBM X.K "list" rAppend to t) := by
      intro to t h1 h2; exact pe_bm PySem.F.plainAttrs_list PySem.F.slot_list_append PySem.F.type_list_append mt_append h1 h2)
    (hs : swapsWith (.Call (.Attribute (.Name x px) "append" pa) [e] [] p0) none pos.line X.env = pure false := by rfl) (hs1 : starEach [e] X.env = (false, eval e X.env) :: starEach [] X.env := by rfl) : SG X H0 M Γ (.Expr (.Call (.Attribute (.Name x px) "append" pa) [e] [] p0) pos :: rest) D := fun g σ H D' r im => by
  obtain ⟨p, vs, ex, hp0, hm, _⟩ := r.ls hls
  refine wS.of' (ps_expr (hp (pe_var hN hv hd hcd) (pa_cons pe_w pa_nil hs1)) hs) ⟨_, ex, .inl ⟨rfl, vs, SqL.of hp0⟩, he g σ H _ r fun v H' s m => ?_⟩
  have r1 := r.same s
  have hm1 := hm.same s
  refine ⟨p, vs, v, rfl, rfl, s _ _ hp0, by rw [hm.len]; exact Nat.lt_of_lt_of_le hz (by decide), ?_⟩
  refine hr g _ _ D' (r1.updLs (es := ds ++ [d]) ex hls (hm1.append (.cons m .nil))) (im.go ((Same.gw s).trans (gw_mut ?_)))
  rw [s _ _ hp0]
  trivial
/-- .extend by a new list -/
theorem g_extend (i : Nat) {x : Str} {px pa : Pos} {es' ds : List PyData} (hls : Γ.getD i .no = .ls ds) (hz : ds.length + es'.length ≤ 100000) (he : EL X H0 M Γ e es') (hr : SG X H0 M (Γ.set i (.ls (ds ++ es'))) rest D)
    (hN : X.N[i]? = some x := by rfl) (hv : Vis X.env.scope x := by first | exact Or.inl rfl | exact Or.inr (Or.inl rfl) | exact Or.inr (Or.inr rfl)) (hd : (x == ("__debug__" : Str)) = false := by decide)
    (hcd : (x == ("__classdict__" : Str)) = false := by decide)
    (hp : ∀ {to : TE} {t : TA}, PE X (.Name x px) to → PA X [e] t → PE X (.Call (.Attribute (.Name x px) "extend" pa) [e] [] p0) (tBM X.K "list" rExtend to t) := by
      intro to t h1 h2; exact pe_bm PySem.F.plainAttrs_list PySem.F.slot_list_extend PySem.F.type_list_extend mt_extend h1 h2)
    (hs : swapsWith (.Call (.Attribute (.Name x px) "extend" pa) [e] [] p0) none pos.line X.env = pure false := by rfl) (hs1 : starEach [e] X.env = (false, eval e X.env) :: starEach [] X.env := by rfl) : SG X H0 M Γ (.Expr (.Call (.Attribute (.Name x px) "extend" pa) [e] [] p0) pos :: rest) D := fun g σ H D' r im => by
  obtain ⟨p, vs, ex, hp0, hm, _⟩ := r.ls hls
  refine wS.of' (ps_expr (hp (pe_var hN hv hd hcd) (pa_cons pe_w pa_nil hs1)) hs) ⟨_, ex, .inl ⟨rfl, vs, SqL.of hp0⟩, he g σ H _ r fun v H' s ⟨q, us, ev, hn, hq, m⟩ => ?_⟩
  subst ev
  have r1 := r.same s
  have hm1 := hm.same s
  refine ⟨p, q, vs, us, rfl, rfl, s _ _ hp0, hq, by rw [hm.len, m.len]; exact Nat.le_trans hz (by decide), ?_⟩
  refine hr g _ _ D' (r1.updLs (es := ds ++ es') ex hls (hm1.append m)) (im.go ((Same.gw s).trans (gw_mut ?_)))
  rw [s _ _ hp0]
  trivial
end
end G

/-! G: for i, x in enumerate(a tuple), out of the library's GoesN. -/
namespace G
open PySem PySem.Spec PyProof.Rows L2

theorem made_enum {v : Value} {ob : Obj} {Z : Heap → Prop} (B : Begins v ob Z) : Meets (Builtin.«enumerate.__new__» ⟨[.type "enumerate", v], []⟩) (fun _ R s =>
    Z s.heap ∧ R (.ok (.ret (.ref (s.heap.push ob).objs.size)))
      { s with heap := (s.heap.push ob).push { cls := .type "enumerate", data := .fields #[.none, .bool false, .ref s.heap.objs.size, rawInt 0, .none, .none] } }) :=
  .of_wp fun prog w A R ⟨hp, ge, dr, tk, os⟩ ⟨hz, hR⟩ => by
    have subE := sub_enumerate
    have it : ∀ {A' : Around} {E Q : Value → Shared → Prop}, Q (.ref hp.objs.size) ⟨hp.push ob, ge, dr, tk, os⟩ → wpAny (model prog w) A' (pyIter v) Q E ⟨hp, ge, dr, tk, os⟩ := fun q => B.iter prog w _ _ ⟨hp, ge, dr, tk, os⟩ _ hz q
    wp_walk using it
    refine wpAny_stack_any fun _ => wpAny_pure ?_
    split
    · rename_i k _ _ _ _ _
      cases (k == Value.type "enumerate") <;> (wp_walk using it; exact ⟨_, rfl, hR⟩)
    · wp_walk using it; exact ⟨_, rfl, hR⟩
/-- the tuple at a, each item in a new pair with its place -/
def Iteu (K : PySem.W.Frag) (a : Addr) : It where
  go i H := ∃ xs x, SqT K H a xs ∧ xs[i]? = some x
  yld i H v H' := ∃ T x, v = .ref T ∧ H T = none ∧ H' = upd H T (.tup [.int (i : Nat), x]) ∧ ∀ xs, SqT K H a xs → xs[i]? = some x
  stop i H := ∃ xs, SqT K H a xs ∧ xs.length = i
abbrev EnumAt (e it a : Addr) (i : Nat) (h : Heap) : Prop := (∃ old, IsEnum h e it (0 + (i : Int)) old) ∧ h.IsTupleIter it a i
theorem EnumAt.there {e it a b : Addr} {i : Nat} {h : Heap} (st : EnumAt e it a i h) (hb : b = e ∨ b = it) : ∃ o, h.get? b = some o ∧ (∀ v, o.data ≠ .cell v) ∧ o.cls ≠ .type "tuple" := by
  obtain ⟨⟨old, he⟩, o, ho, hc, hd⟩ := st
  rcases hb with rfl | rfl
  · exact ⟨_, he, (by intro v q; cases q), fun q => absurd (show Value.type "enumerate" = Value.type "tuple" from q) (by decide)⟩
  · exact ⟨o, ho, (by intro v q; rw [hd] at q; cases q), fun q => absurd (show Value.type "tuple_iterator" = Value.type "tuple" from hc.symm.trans q) (by decide)⟩
theorem EnumAt.goes {X : Cx} {elts : List Expr} {kk : Nat} {tpos : Pos} {e it a : Addr} {i : Nat} {pins : List (Addr × Obj)} {σ : St} {H : Hp} {s : Shared} {xs : List V} (I : Inv X pins σ H s) (hc : X.calm = true) (ne : e ≠ it) (st : EnumAt e it a i s.heap) (hq : SqT X.K H a xs) :
    ∃ its : List Value, Vals xs its ∧ s.heap.IsTuple a its.toArray ∧ GoesN X.prog X.w X.A (.Tuple elts kk tpos) e (e :: [it, a]) [e, it] its.toArray.size
      (fun i h₀ v h => ∃ T t x, v = .ref T ∧ its.toArray[i]? = some x ∧ h.IsTuple T #[.int (0 + (i : Int)) t, x] ∧ h₀.objs.size ≤ T) (fun i h => (∃ old, IsEnum h e it (0 + (i : Int)) old) ∧ h.IsTupleIter it a i ∧ h.IsTuple a its.toArray) := by
  obtain ⟨its, rv, p, _⟩ := I.tuple hq
  obtain ⟨oa, ha, ca, _⟩ := id p
  have away : ∀ b, b = e ∨ b = it → b ≠ a := fun b hb z => by
    obtain ⟨o, ho, _, hn⟩ := st.there hb
    rw [z, ha] at ho
    exact hn (Option.some.inj ho ▸ ca)
  have D := Draws.tuple (prog := X.prog) (w := X.w) (A := X.A.in1) (I.ok.hd hc) it a (Ne.symm (away it (.inr rfl))) its.toArray
  exact ⟨its, rv, p, (GoesN.enumFrom 0 D e ne (by simp [ne, away e (.inl rfl)]) (by simp)).mono fun i h₀ v h _ ⟨T, t, x, y1, y2, y3, y4⟩ => ⟨T, t, x, y1, y3, y4, y2⟩⟩
theorem turn_enumT {P : Program} {w : World} {K : PySem.W.Frag} {elts : List Expr} {kk : Nat} {tpos : Pos} (a e it : Addr) (ne : e ≠ it) : Turn P w K (.Tuple elts kk tpos) (Iteu K a) [e, it] e (EnumAt e it a) where
  mem := List.mem_cons_self
  obj i h st b hb := by
    obtain ⟨o, h1, h2, _⟩ := st.there (b := b) (by simpa using hb)
    exact ⟨o, h1, h2⟩
  keep i h h' st k := by
    obtain ⟨⟨old, he⟩, hi⟩ := st
    exact ⟨⟨old, k e (by simp) _ he⟩, hi.at fun o q => k it (by simp) o q⟩
  item := by
    rintro X rfl rfl rfl hc i pins s σ H E I hf st ⟨xs, x, hq, hx⟩
    obtain ⟨its, rv, p, W⟩ := st.goes (elts := elts) (kk := kk) (tpos := tpos) I hc ne hq
    obtain ⟨u, hu, ru⟩ := rv.get hx
    have lt : ∀ b, b ∈ [e, it] → b < s.heap.objs.size := fun b hb => by
      obtain ⟨o, h1, _⟩ := st.there (b := b) (by simpa using hb)
      exact Heap.lt_size h1
    refine W.goes i s _ E (by have := (List.getElem?_eq_some_iff.mp hu).1; simpa using this) ⟨st.1, st.2, p⟩ fun v h' tk y st' kept _ => ?_
    obtain ⟨T, t, z, rfl, hz, ⟨oT, hT, cT, nT, dT⟩, new⟩ := y
    have ez : z = u := Option.some.inj ((show its.toArray[i]? = some z from hz).symm.trans (by simpa using hu))
    subst ez
    have ei : (0 : Int) + (i : Int) = ((i : Nat) : Int) := by omega
    rw [ei] at dT
    have obj : ObjOk X.prog X.w (upd H T (.tup [.int (i : Nat), x])) h' T (.tup [.int (i : Nat), x]) := ⟨by show 2 ≤ sizeLine; decide, [.int i t, z], .cons ⟨t, rfl⟩ (.cons ru .nil), oT, hT, cT, nT, dT⟩
    refine ⟨.ref T, _, I.turnedNew (ch := [e, it]) kept hf new obj, rfl, ⟨T, x, rfl, I.hok.fresh new, rfl, fun ys hy => (I.tuple_inj hy hq) ▸ hx⟩, ⟨st'.1, st'.2.1⟩, fun b hb => ?_⟩
    rw [upd_ne (Nat.ne_of_lt (Nat.lt_of_lt_of_le (lt b hb) new))]
    exact (hf b hb).1
  done := by
    rintro X rfl rfl rfl hc i pins s σ H E I hf st ⟨xs, hq, hx⟩
    obtain ⟨its, rv, p, W⟩ := st.goes (elts := elts) (kk := kk) (tpos := tpos) I hc ne hq
    have li : its.toArray.size = i := by rw [← hx, rv.length]; simp
    subst li
    obtain ⟨f0, f1, f2, f3, f4, f5⟩ := hf it (by simp)
    refine W.stops s _ E ⟨st.1, st.2, p⟩ fun h' tk kept _ => I.turnedL kept hf
  self A i s Q E st h := by
    obtain ⟨⟨old, he⟩, _⟩ := st
    exact wpAny_pyIter_enum he h
theorem pi_enumT {X : Cx} {e : Expr} {ta : TA} {p pos tpos : Pos} {elts : List Expr} {kk : Nat} (hg : Gl X "enumerate") (hm : X.mg "enumerate" = none) (ha : PA X [e] ta) (hs : starEach [e] X.env = [(false, eval e X.env)] := by rfl) :
    PI X (.Tuple elts kk tpos) (.Call (.Name "enumerate" p) [e] [] pos) (fun σ H R => ta σ H fun vs H1 => ∃ a xs, vs = [.ref a] ∧ SqT X.K H1 a xs ∧ R (Iteu X.K a) H1) where
  run pins s σ H R I h := by
    refine Call_ (ld_blt I hg hm boot_enumerate (PyProof.Rows.callWith_type1 (thn (ha.run pos pins s σ H _ I h) ?_) hs rfl))
    rintro us ⟨hp, ge, dr, tk, os⟩ ⟨vs, H1, J, r1, a, xs, rfl, hq, q⟩
    obtain ⟨u, rfl, ru⟩ := vals1 r1
    obtain rfl : u = Value.ref a := ru
    obtain ⟨its, _, tup, _⟩ := J.tuple hq
    have szI : ∀ o : Obj, (hp.push o).objs.size = hp.objs.size + 1 := fun o => Heap.size_push ..
    refine callType_new F.called_enumerate (by decide) (F.typeCall_enumerate_1 _) (F.newCall_enumerate_1 _) (fun o => F.args_object_init_2 o _) F.entry_enumerate_new (made_enum (begins_tuple a its.toArray)) ⟨tup, ?_⟩
    generalize hI : (hp.push { cls := .type "tuple_iterator", data := .fields #[.ref a, .int 0 0] }) = hi
    have sI : hi.objs.size = hp.objs.size + 1 := by rw [← hI]; exact szI _
    have eI : hi.get? hp.objs.size = some { cls := .type "tuple_iterator", data := .fields #[.ref a, .int 0 0] } := by rw [← hI]; exact Heap.get?_push_size _ rfl
    have kI' : ∀ b o, hp.get? b = some o → hi.get? b = some o := fun b o z => by rw [← hI]; exact Heap.get?_push_of_some _ z
    have eE := Heap.get?_push_size hi (o := { cls := .type "enumerate", data := .fields #[.none, .bool false, .ref hp.objs.size, rawInt 0, .none, .none] }) rfl
    refine ⟨⟨_, eE, rfl⟩, wpAny_pyIter_enum eE ?_⟩
    have ne : hi.objs.size ≠ hp.objs.size := by rw [sI]; exact Nat.succ_ne_self _
    refine ⟨hi.objs.size, [hi.objs.size, hp.objs.size], _, Iteu X.K a, H1, rfl, J.kept (t' := tk) (fun b o z => Heap.get?_push_of_some _ (kI' b o z)), turn_enumT a hi.objs.size hp.objs.size ne, ⟨⟨.none, eE⟩, _, Heap.get?_push_of_some _ eI, rfl, rfl⟩, fun b hb => ?_, q⟩
    have ge' : hp.objs.size ≤ b := by
      have z : b = hi.objs.size ∨ b = hp.objs.size := by simpa using hb
      rcases z with z | z
      · rw [z, sI]; exact Nat.le_succ _
      · rw [z]; exact Nat.le_refl _
    exact J.fpOk ge' (J.hok.fresh ge')
theorem walk_enumT {K : PySem.W.Frag} {a : Addr} {xs : List V} : Walk (Iteu K a) xs.length (fun H => SqT K H a xs) (YPair (fun i => some (.int (i : Nat))) (fun i => xs[i]?)) where
  goes i H hi q := ⟨xs, xs[i], q, List.getElem?_eq_getElem hi⟩
  stops H q := ⟨xs, q, rfl⟩
  yields i H v H' _ q y := by
    obtain ⟨T, x, h1, h2, h3, h4⟩ := y
    exact ⟨T, .int (i : Nat), x, h1, h2, h3, rfl, h4 xs q⟩
end G

namespace G
open PySem PySem.Spec PyProof.Rows L2

/-! ### fewer slots known -/
inductive Sub : SC → SC → Prop
  | nil : Sub [] []
  | k {x : SD} {Γ Γ' : SC} : Sub Γ Γ' → Sub (x :: Γ) (x :: Γ')
  | n {x : SD} {Γ Γ' : SC} : Sub Γ Γ' → Sub (x :: Γ) (.no :: Γ')
theorem Sub.e {x y : SD} {Γ Γ' : SC} (h : x = y) (s : Sub Γ Γ') : Sub (x :: Γ) (y :: Γ') := h ▸ .k s
theorem Sub.refl : ∀ Γ : SC, Sub Γ Γ
  | [] => .nil
  | _ :: r => .k (Sub.refl r)
theorem Sub.len : ∀ {Γ Γ' : SC}, Sub Γ Γ' → Γ'.length = Γ.length
  | _, _, .nil => rfl
  | _, _, .k h => congrArg (· + 1) h.len
  | _, _, .n h => congrArg (· + 1) h.len
theorem Sub.at : ∀ {Γ Γ' : SC}, Sub Γ Γ' → ∀ i, Γ'.getD i .no = Γ.getD i .no ∨ Γ'.getD i .no = .no
  | _, _, .nil, i => .inl rfl
  | _, _, .k h, 0 => .inl rfl
  | _, _, .k h, i + 1 => h.at i
  | _, _, .n h, 0 => .inr rfl
  | _, _, .n h, i + 1 => h.at i
theorem R.sub {K : PySem.W.Frag} {H0 H : Hp} {M : List Addr} {g : Gs} {Γ Γ' : SC} {σ : St} (r : R K H0 M g Γ σ H) (s : Sub Γ Γ') : R K H0 M g Γ' σ H := r.weak s.len s.at
theorem g_sub {X : Cx} {H0 : Hp} {M : List Addr} {Γ Γ' : SC} {sts : List Stmt} {D : DD} (s : Sub Γ Γ') (h : SG X H0 M Γ' sts D) : SG X H0 M Γ sts D := fun g σ H D' r im => h g σ H D' (r.sub s) im

/-! ### for -/
def loopD (X : Cx) (H0 : Hp) (M : List Addr) (Γ' : SC) (B : SC → Prop) (D : DD) : DD :=
  { rt := D.rt, nx := fun g σ H => R X.K H0 M g Γ' σ H, ct := fun g σ H => R X.K H0 M g Γ' σ H, bk := fun g σ H => ∃ Γ', B Γ' ∧ R X.K H0 M g Γ' σ H }
section
variable {X : Cx} {H0 : Hp} {M : List Addr} {Γ Γ1 Γ2 : SC} {e c iter : Expr} {es : List Expr} {pos p0 : Pos} {rest body : List Stmt} {D : DD} {B : SC → Prop}
theorem Imp.refl (g : Hp → Prop) (D : Ends) : Imp g D D := ⟨fun _ _ _ h => h, fun _ _ _ h => h, fun _ _ _ h => h, fun _ _ _ h => h⟩
/-- the body's end at turn i + 1 -/
def PvD (X : Cx) (H0 : Hp) (M : List Addr) (g : Gs) (Γs : Nat → SC) (H1 : Hp) (i : Nat) (σ : St) (H : Hp) : Prop := R X.K H0 M g (Γs i) σ H ∧ Gw H1 H
theorem body_ok {Γs : Nat → SC} {Γb : SC} {i : Nat} {g : Gs} {σ : St} {H H1 : Hp} {rt : VK} {bk : St → Hp → Prop} (hb : SG X H0 M Γb body (loopD X H0 M (Γs (i + 1)) B D)) (r : R X.K H0 M g Γb σ H) (s : Gw H1 H)
    (hrt : ∀ v H, Gw H1 H → Kept g H → D.rt v H → rt v H) (hbk : ∀ Γ' σ H, B Γ' → R X.K H0 M g Γ' σ H → Gw H1 H → bk σ H) :
    wSs X body { nx := PvD X H0 M g Γs H1 (i + 1), rt := rt, ct := PvD X H0 M g Γs H1 (i + 1), bk := bk } σ H :=
  hb g σ H _ r ⟨fun σ' H' f q => ⟨q, s.trans f.1⟩, fun v H' f q => hrt v H' (s.trans f.1) f.2 q, fun σ' H' f ⟨Γ', b, q⟩ => hbk Γ' σ' H' b q (s.trans f.1), fun σ' H' f q => ⟨q, s.trans f.1⟩⟩
/-- for x in a tuple, x in slot t -/
theorem g_forT (t : Nat) {x : Str} {px : Pos} {ds : List PyData} (Γs : Nat → SC) (B : SC → Prop) (hN : X.N.Nodup) (hl : ∀ i, (Γs i).length = X.N.length) (hp : PassesOwn (model X.prog X.w) X.A X.env X.xe) (hc : X.calm = true) (he : EI X H0 M Γ iter (.tuple ds)) (h0 : Sub Γ (Γs 0))
    (hb : ∀ i d, ds[i]? = some d → SG X H0 M ((Γs i).set t (.im d)) body (loopD X H0 M (Γs (i + 1)) B D)) (hr : SG X H0 M (Γs ds.length) rest D) (hbk : ∀ Γ', B Γ' → SG X H0 M Γ' rest D)
    (hi : X.N[t]? = some x := by rfl) (hx : Loc X.env.scope x := by first | exact Or.inl rfl | exact Or.inr rfl) (hf : X.fn x = true ∨ X.env.scope.names.lookup x = some .local := by first | exact .inl rfl | exact .inr rfl | assumption)
    (hs : ∀ x, foldedSetIterable iter X.env x = pure x := by intro _; rfl) : SG X H0 M Γ (.For (.Name x px) iter body [] pos :: rest) D := fun g σ H D' r im => by
  refine wS.of' (ps_for hp hc (pi_tup pe_w) (pg_name hN hi hx hf) pss_w hs) (he g σ H _ r fun v H1 s m => ?_)
  obtain ⟨a, xs, rfl, hq, hxs⟩ := m.tup_inv
  refine ⟨a, rfl, ⟨xs, hq⟩, ?_⟩
  have im1 := im.go (Same.gw s)
  have ht : t < X.N.length := (List.getElem?_eq_some_iff.mp hi).1
  refine for_it walk_tup (PvD X H0 M g Γs H1) ⟨(r.same s).sub h0, Gw.refl H1⟩ (fun i σ H hi p => p.2.sqt hq) (fun i v σ2 H2 H' hi p y => ?_) (fun σ2 H2 p => ?_)
  · obtain ⟨rfl, y⟩ := y
    obtain ⟨d, hd, md⟩ := hxs.get' y
    show wSs X body _ _ _
    refine body_ok (Γs := Γs) (i := i) (hb i d hd) (p.1.setIm (Same.refl _) (by rw [hl]; exact ht) (md.gw p.2 d v)) p.2 (fun v H3 s3 k3 q => im1.rt v H3 ⟨s3, k3⟩ q) (fun Γ' σ3 H3 b r3 s3 => hbk Γ' b g σ3 H3 D' r3 (im1.go s3))
  · have e : xs.length = ds.length := hxs.len
    rw [e] at p
    exact hr g σ2 H2 D' p.1 (im1.go p.2)
/-- for x in range(..), x in slot t -/
theorem g_forR1 (t : Nat) {x : Str} {px pr : Pos} {n : Int} {ea : Expr} (Γs : Nat → SC) (B : SC → Prop) (hN : X.N.Nodup) (hl : ∀ i, (Γs i).length = X.N.length) (hp : PassesOwn (model X.prog X.w) X.A X.env X.xe) (hc : X.calm = true) (hm : X.mg "range" = none) (he : EI X H0 M Γ ea (.int n)) (hn0 : -(2 ^ 62) ≤ n) (hn1 : n < 2 ^ 62) (h0 : Sub Γ (Γs 0))
    (hb : ∀ i : Nat, i < n.toNat → SG X H0 M ((Γs i).set t (.im (.int (i : Nat)))) body (loopD X H0 M (Γs (i + 1)) B D)) (hr : SG X H0 M (Γs n.toNat) rest D) (hbk : ∀ Γ', B Γ' → SG X H0 M Γ' rest D)
    (hg : Gl X "range" := by rfl) (hi : X.N[t]? = some x := by rfl) (hx : Loc X.env.scope x := by first | exact Or.inl rfl | exact Or.inr rfl) (hf : X.fn x = true ∨ X.env.scope.names.lookup x = some .local := by first | exact .inl rfl | exact .inr rfl | assumption)
    (hs1 : starEach [ea] X.env = [(false, eval ea X.env)] := by rfl) (hs : ∀ x, foldedSetIterable (.Call (.Name "range" pr) [ea] [] p0) X.env x = pure x := by intro _; rfl) : SG X H0 M Γ (.For (.Name x px) (.Call (.Name "range" pr) [ea] [] p0) body [] pos :: rest) D := fun g σ H D' r im => by
  refine wS.of' (ps_for hp hc (pi_range1 hg hm (pa_cons pe_w pa_nil hs1) hs1) (pg_name hN hi hx hf) pss_w hs) (he g σ H _ r fun v H1 s m => ?_)
  refine ⟨n, by rw [m.int_inv], hn0, hn1, ?_⟩
  have im1 := im.go (Same.gw s)
  have ht : t < X.N.length := (List.getElem?_eq_some_iff.mp hi).1
  refine for_it walk_range (PvD X H0 M g Γs H1) ⟨(r.same s).sub h0, Gw.refl H1⟩ (fun i σ H hi p => trivial) (fun i v σ2 H2 H' hi p y => ?_) (fun σ2 H2 p => hr g σ2 H2 D' p.1 (im1.go p.2))
  obtain ⟨rfl, y⟩ := y
  have ev : v = V.int ((i : Nat) : Int) := by rw [y]; exact congrArg V.int (by omega)
  subst ev
  show wSs X body _ _ _
  exact body_ok (Γs := Γs) (i := i) (hb i hi) (p.1.setIm (Same.refl _) (by rw [hl]; exact ht) (.int _)) p.2 (fun v H3 s3 k3 q => im1.rt v H3 ⟨s3, k3⟩ q) (fun Γ' σ3 H3 b r3 s3 => hbk Γ' b g σ3 H3 D' r3 (im1.go s3))
/-- for x in range(a, b) -/
theorem g_forR2 (t : Nat) {x : Str} {px pr : Pos} {lo n : Int} {ea eb : Expr} (Γs : Nat → SC) (B : SC → Prop) (hN : X.N.Nodup) (hl : ∀ i, (Γs i).length = X.N.length) (hp : PassesOwn (model X.prog X.w) X.A X.env X.xe) (hc : X.calm = true) (hm : X.mg "range" = none) (ha : EI X H0 M Γ ea (.int lo)) (he : EI X H0 M Γ eb (.int n)) (hn : -(2 ^ 62) ≤ lo ∧ lo < 2 ^ 62 ∧ -(2 ^ 62) ≤ n ∧ n < 2 ^ 62) (h0 : Sub Γ (Γs 0))
    (hb : ∀ i : Nat, i < (n - lo).toNat → SG X H0 M ((Γs i).set t (.im (.int (lo + (i : Nat))))) body (loopD X H0 M (Γs (i + 1)) B D)) (hr : SG X H0 M (Γs (n - lo).toNat) rest D) (hbk : ∀ Γ', B Γ' → SG X H0 M Γ' rest D)
    (hg : Gl X "range" := by rfl) (hi : X.N[t]? = some x := by rfl) (hx : Loc X.env.scope x := by first | exact Or.inl rfl | exact Or.inr rfl) (hf : X.fn x = true ∨ X.env.scope.names.lookup x = some .local := by first | exact .inl rfl | exact .inr rfl | assumption)
    (hs1 : starEach [ea, eb] X.env = [(false, eval ea X.env), (false, eval eb X.env)] := by rfl) (hs2 : starEach [eb] X.env = [(false, eval eb X.env)] := by rfl) (hs : ∀ x, foldedSetIterable (.Call (.Name "range" pr) [ea, eb] [] p0) X.env x = pure x := by intro _; rfl) : SG X H0 M Γ (.For (.Name x px) (.Call (.Name "range" pr) [ea, eb] [] p0) body [] pos :: rest) D := fun g σ H D' r im => by
  refine wS.of' (ps_for hp hc (pi_range2 hg hm (pa_cons pe_w (pa_cons pe_w pa_nil hs2) (by rw [hs1, hs2])) hs1 hs2) (pg_name hN hi hx hf) pss_w hs) (ha g σ H _ r fun v0 H0' s0 m0 => he g σ H0' _ (r.same s0) fun v H1 s m => ?_)
  refine ⟨lo, n, by rw [m.int_inv, m0.int_inv], hn, ?_⟩
  have im1 := im.go ((Same.gw s0).trans (Same.gw s))
  have ht : t < X.N.length := (List.getElem?_eq_some_iff.mp hi).1
  refine for_it walk_range (PvD X H0 M g Γs H1) ⟨((r.same s0).same s).sub h0, Gw.refl H1⟩ (fun i σ H hi p => trivial) (fun i v σ2 H2 H' hi p y => ?_) (fun σ2 H2 p => hr g σ2 H2 D' p.1 (im1.go p.2))
  obtain ⟨rfl, y⟩ := y
  subst y
  show wSs X body _ _ _
  exact body_ok (Γs := Γs) (i := i) (hb i hi) (p.1.setIm (Same.refl _) (by rw [hl]; exact ht) (.int _)) p.2 (fun v H3 s3 k3 q => im1.rt v H3 ⟨s3, k3⟩ q) (fun Γ' σ3 H3 b r3 s3 => hbk Γ' b g σ3 H3 D' r3 (im1.go s3))
/-- for i, x in enumerate(a tuple), in slots t and u -/
theorem g_forET (t u : Nat) {x y : Str} {px py pr pt : Pos} {kk : Nat} {ds : List PyData} {ea : Expr} (Γs : Nat → SC) (B : SC → Prop) (hN : X.N.Nodup) (hl : ∀ i, (Γs i).length = X.N.length) (hp : PassesOwn (model X.prog X.w) X.A X.env X.xe) (hc : X.calm = true) (hm : X.mg "enumerate" = none) (he : EI X H0 M Γ ea (.tuple ds)) (h0 : Sub Γ (Γs 0))
    (hb : ∀ i d, ds[i]? = some d → SG X H0 M (((Γs i).set t (.im (.int (i : Nat)))).set u (.im d)) body (loopD X H0 M (Γs (i + 1)) B D)) (hr : SG X H0 M (Γs ds.length) rest D) (hbk : ∀ Γ', B Γ' → SG X H0 M Γ' rest D)
    (hg : Gl X "enumerate" := by rfl) (hi : X.N[t]? = some x := by rfl) (hx : Loc X.env.scope x := by first | exact Or.inl rfl | exact Or.inr rfl) (hf : X.fn x = true ∨ X.env.scope.names.lookup x = some .local := by first | exact .inl rfl | exact .inr rfl | assumption)
    (hj : X.N[u]? = some y := by rfl) (hy : Loc X.env.scope y := by first | exact Or.inl rfl | exact Or.inr rfl) (hfy : X.fn y = true ∨ X.env.scope.names.lookup y = some .local := by first | exact .inl rfl | exact .inr rfl | assumption)
    (hs1 : starEach [ea] X.env = [(false, eval ea X.env)] := by rfl) (hs : ∀ x, foldedSetIterable (.Call (.Name "enumerate" pr) [ea] [] p0) X.env x = pure x := by intro _; rfl)
    (h1 : (assignEach [.Name x px, .Name y py] X.env).map (·.2) = assign (.Name x px) X.env :: (assignEach [.Name y py] X.env).map (·.2) := by rfl) (h2 : (assignEach [.Name y py] X.env).map (·.2) = assign (.Name y py) X.env :: (assignEach [] X.env).map (·.2) := by rfl)
    (h3 : (assignEach [.Name x px, .Name y py] X.env).length = 2 := by rfl) (h4 : (assignEach [.Name x px, .Name y py] X.env).findIdx? (·.1) = none := by rfl) :
    SG X H0 M Γ (.For (.Tuple [.Name x px, .Name y py] kk pt) (.Call (.Name "enumerate" pr) [ea] [] p0) body [] pos :: rest) D := fun g σ H D' r im => by
  refine wS.of' (ps_for hp hc (pi_enumT hg hm (pa_cons pe_w pa_nil hs1) hs1) (pg_tup hc (pgs_cons (pg_name hN hi hx hf) (pgs_cons (pg_name hN hj hy hfy) pgs_nil h2) h1) h3 h4) pss_w hs) (he g σ H _ r fun v H1 s m => ?_)
  obtain ⟨a, xs, rfl, hq, hxs⟩ := m.tup_inv
  refine ⟨a, xs, rfl, hq, ?_⟩
  have im1 := im.go (Same.gw s)
  have ht : t < X.N.length := (List.getElem?_eq_some_iff.mp hi).1
  have hu : u < X.N.length := (List.getElem?_eq_some_iff.mp hj).1
  refine for_it walk_enumT (PvD X H0 M g Γs H1) ⟨(r.same s).sub h0, Gw.refl H1⟩ (fun i σ H hi p => p.2.sqt hq) (fun i v σ2 H2 H' hi p y => ?_) (fun σ2 H2 p => ?_)
  · obtain ⟨T, z, w, rfl, hT, rfl, e1, e2⟩ := y
    have ez : z = .int ((i : Nat) : Int) := (Option.some.inj e1).symm
    subst ez
    obtain ⟨d, hd, md⟩ := hxs.get' e2
    have sT : Same H2 (upd H2 T (.tup [.int (i : Nat), w])) := same_new hT
    refine ⟨T, _, rfl, .inl (.inl upd_same), rfl, _, _, rfl, _, _, rfl, rfl, ?_⟩
    show wSs X body _ _ _
    have r2 := (p.1.setIm (i := t) (v := .int ((i : Nat) : Int)) sT (by rw [hl]; exact ht) (.int _)).setIm (i := u) (v := w) (Same.refl _) (by rw [List.length_set, hl]; exact hu) ((md.gw p.2 d w).same sT)
    exact body_ok (Γs := Γs) (i := i) (hb i d hd) r2 (p.2.trans (Same.gw sT)) (fun v H3 s3 k3 q => im1.rt v H3 ⟨s3, k3⟩ q) (fun Γ' σ3 H3 b r3 s3 => hbk Γ' b g σ3 H3 D' r3 (im1.go s3))
  · have e : xs.length = ds.length := hxs.len
    rw [e] at p
    exact hr g σ2 H2 D' p.1 (im1.go p.2)
/-- for x in a new list -/
theorem g_forL (t : Nat) {x : Str} {px : Pos} {ds : List PyData} (Γs : Nat → SC) (B : SC → Prop) (hN : X.N.Nodup) (hl : ∀ i, (Γs i).length = X.N.length) (hp : PassesOwn (model X.prog X.w) X.A X.env X.xe) (hc : X.calm = true) (he : EL X H0 M Γ iter ds) (h0 : Sub Γ (Γs 0))
    (hb : ∀ i d, ds[i]? = some d → SG X H0 M ((Γs i).set t (.im d)) body (loopD X H0 M (Γs (i + 1)) B D)) (hr : SG X H0 M (Γs ds.length) rest D) (hrl : (Γs ds.length).all (fun x => !isRl x) = true) (hbk : ∀ Γ', B Γ' → Γ'.all (fun x => !isRl x) = true ∧ SG X H0 M Γ' rest D)
    (hi : X.N[t]? = some x := by rfl) (hx : Loc X.env.scope x := by first | exact Or.inl rfl | exact Or.inr rfl) (hf : X.fn x = true ∨ X.env.scope.names.lookup x = some .local := by first | exact .inl rfl | exact .inr rfl | assumption)
    (hs : ∀ x, foldedSetIterable iter X.env x = pure x := by intro _; rfl) : SG X H0 M Γ (.For (.Name x px) iter body [] pos :: rest) D := fun g σ H D' r im => by
  refine wS.of' (ps_for hp hc (pi_list pe_w) (pg_name hN hi hx hf) pss_w hs) (he g σ H _ r fun v H1 s m => ?_)
  obtain ⟨a, xs, rfl, hn, hq, hxs⟩ := m
  refine ⟨a, rfl, ⟨xs, SqL.of hq⟩, ?_⟩
  have im1 := im.go (Same.gw s)
  have ht : t < X.N.length := (List.getElem?_eq_some_iff.mp hi).1
  refine for_it walk_list (PvD X H0 M ((a, xs) :: g) Γs H1) ⟨(r.ghost s hn hq).sub h0, Gw.refl H1⟩ (fun i σ H hi p => SqL.of (p.1.kept _ List.mem_cons_self)) (fun i v σ2 H2 H' hi p y => ?_) (fun σ2 H2 p => ?_)
  · obtain ⟨rfl, y⟩ := y
    obtain ⟨d, hd, md⟩ := hxs.get' y
    show wSs X body _ _ _
    refine body_ok (Γs := Γs) (i := i) (hb i d hd) (p.1.setIm (Same.refl _) (by rw [hl]; exact ht) (md.gw p.2 d v)) p.2 (fun v H3 s3 k3 q => im1.rt v H3 ⟨s3, fun q hq => k3 q (List.mem_cons_of_mem _ hq)⟩ q) (fun Γ' σ3 H3 b r3 s3 => (hbk Γ' b).2 g σ3 H3 D' (r3.unghost (hbk Γ' b).1) (im1.go s3))
  · have e : xs.length = ds.length := hxs.len
    rw [e] at p
    exact hr g σ2 H2 D' (p.1.unghost hrl) (im1.go p.2)
/-- for x in a list of one's own in slot k, which is only read meanwhile -/
theorem g_forO (t k : Nat) {x y : Str} {px py : Pos} {ds : List PyData} (Γs : Addr → Nat → SC) (B : Addr → SC → Prop) (hN : X.N.Nodup) (hl : ∀ p i, (Γs p i).length = X.N.length) (hp : PassesOwn (model X.prog X.w) X.A X.env X.xe) (hc : X.calm = true) (hk : Γ.getD k .no = .ls ds) (h0 : ∀ p, Sub (Γ.set k (.rl p ds)) (Γs p 0))
    (hb : ∀ p i d, ds[i]? = some d → SG X H0 M ((Γs p i).set t (.im d)) body (loopD X H0 M (Γs p (i + 1)) (B p) D)) (hkn : ∀ p, (Γs p ds.length).getD k .no = .rl p ds) (hrl : ∀ p, ((Γs p ds.length).set k .no).all (fun x => !isRl x) = true) (hr : ∀ p, SG X H0 M ((Γs p ds.length).set k (.ls ds)) rest D)
    (hbk : ∀ p Γ', B p Γ' → Γ'.getD k .no = .rl p ds ∧ (Γ'.set k .no).all (fun x => !isRl x) = true ∧ SG X H0 M (Γ'.set k (.ls ds)) rest D)
    (hi : X.N[t]? = some x := by rfl) (hx : Loc X.env.scope x := by first | exact Or.inl rfl | exact Or.inr rfl) (hf : X.fn x = true ∨ X.env.scope.names.lookup x = some .local := by first | exact .inl rfl | exact .inr rfl | assumption)
    (hNy : X.N[k]? = some y := by rfl) (hv : Vis X.env.scope y := by first | exact Or.inl rfl | exact Or.inr (Or.inl rfl) | exact Or.inr (Or.inr rfl)) (hd : (y == ("__debug__" : Str)) = false := by decide)
    (hcd : (y == ("__classdict__" : Str)) = false := by decide)
    (hs : ∀ x, foldedSetIterable (.Name y py) X.env x = pure x := by intro _; rfl) : SG X H0 M Γ (.For (.Name x px) (.Name y py) body [] pos :: rest) D := fun g σ H D' r im => by
  obtain ⟨a, xs, e, hq, hxs, _⟩ := r.ls hk
  obtain ⟨p, vs, hp0, hnin, r1⟩ := r.freeze hk
  have hil : k < Γ.length := by rw [← r.len]; exact (List.getElem?_eq_some_iff.mp e).1
  have hrl1 : (Γ.set k (.rl p ds)).getD k .no = .rl p ds := by rw [getD_set, if_pos rfl, if_pos hil]
  obtain ⟨e', us, hq', hxs'⟩ := r1.rl hrl1
  have ep : a = p := by
    rw [e] at e'
    injection e' with a; injection a with b; injection b
  subst ep
  have hvs : vs = us := by
    have := r1.kept (a, vs) List.mem_cons_self
    rw [show H a = some (.lst vs) from this] at hq'
    injection hq' with z; injection z
  subst hvs
  refine wS.of' (ps_for hp hc (pi_list (pe_var hNy hv hd hcd)) (pg_name hN hi hx hf) pss_w hs) ⟨_, e, a, rfl, ⟨vs, SqL.of hq'⟩, ?_⟩
  have ht : t < X.N.length := (List.getElem?_eq_some_iff.mp hi).1
  refine for_it walk_list (PvD X H0 M ((a, vs) :: g) (Γs a) H) ⟨r1.sub (h0 a), Gw.refl H⟩ (fun i σ H hi p => SqL.of (p.1.kept _ List.mem_cons_self)) (fun i v σ2 H2 H' hi p y => ?_) (fun σ2 H2 p => ?_)
  · obtain ⟨rfl, y⟩ := y
    obtain ⟨d, hd, md⟩ := hxs'.get' y
    show wSs X body _ _ _
    refine body_ok (Γs := Γs a) (i := i) (hb a i d hd) (p.1.setIm (Same.refl _) (by rw [hl]; exact ht) (md.gw p.2 d v)) p.2 (fun v H3 s3 k3 q => im.rt v H3 ⟨s3, fun q hq => k3 q (List.mem_cons_of_mem _ hq)⟩ q) (fun Γ' σ3 H3 b r3 s3 => ?_)
    obtain ⟨b1, b2, b3⟩ := hbk a Γ' b
    exact b3 g σ3 H3 D' (r3.thaw hnin b1 b2) (im.go s3)
  · have e : vs.length = ds.length := hxs'.len
    rw [e] at p
    exact hr a g σ2 H2 D' (p.1.thaw hnin (hkn a) (hrl a)) (im.go p.2)
end
end G

namespace G
open PySem PySem.Spec PyProof.Rows L2

/-! ### comprehensions -/
/-- the slots in a comprehension's block -/
def wipeC (Γ : SC) : List Nat → SC
  | [] => Γ
  | v :: vs => (wipeC Γ vs).set v .no
theorem wipeC_len (Γ : SC) : ∀ vs, (wipeC Γ vs).length = Γ.length
  | [] => rfl
  | v :: vs => by show ((wipeC Γ vs).set v .no).length = _; rw [List.length_set, wipeC_len Γ vs]
theorem R.wipe {K : PySem.W.Frag} {H0 H : Hp} {M : List Addr} {g : Gs} {Γ : SC} {σ : St} (r : R K H0 M g Γ σ H) : ∀ vs : List Nat, R K H0 M g (wipeC Γ vs) (wipe σ vs) H
  | [] => r
  | v :: vs => by
    have ih := R.wipe r vs
    obtain ⟨own, h1, h2, h3⟩ := ih.slots
    refine ⟨ih.but, by show ((L2.wipe σ vs).set v none).length = ((wipeC Γ vs).set v .no).length; rw [List.length_set, List.length_set, ih.len], fun j => if j = v then [] else own j, fun j => ?_, fun i j hij p hp => ?_, fun q hq => ⟨(h3 q hq).1, fun i z => ?_⟩⟩
    · show SlotOk K H0 M g H (if j = v then [] else own j) (((L2.wipe σ vs).set v none).getD j none) (((wipeC Γ vs).set v .no).getD j .no)
      rw [getD_set, getD_set]
      by_cases hj : v = j
      · subst hj
        simp only [if_true]
        have e : (if v < (wipeC Γ vs).length then SD.no else SD.no) = SD.no := by split <;> rfl
        rw [e]; rfl
      · rw [if_neg hj, if_neg hj, if_neg (Ne.symm hj)]
        exact h1 j
    · have hp' : p ∈ (if i = v then [] else own i) := hp
      show p ∉ (if j = v then [] else own j)
      by_cases hi : i = v
      · rw [if_pos hi] at hp'; cases hp'
      · rw [if_neg hi] at hp'
        by_cases hj : j = v
        · rw [if_pos hj]; exact fun z => nomatch z
        · rw [if_neg hj]; exact h2 i j hij p hp'
    · have z' : q.1 ∈ (if i = v then [] else own i) := z
      by_cases hi : i = v
      · rw [if_pos hi] at z'; cases z'
      · rw [if_neg hi] at z'; exact (h3 q hq).2 i z'
/-- a list that no name holds grows -/
theorem R.ghostUpd {K : PySem.W.Frag} {H0 H : Hp} {M : List Addr} {g : Gs} {Γ : SC} {σ : St} {D : Addr} {vs us : List V} (r : R K H0 M ((D, vs) :: g) Γ σ H) (h0 : H0 D = none) (hn : ∀ us, (D, us) ∈ g → False) (hrl : Γ.all (fun x => !isRl x) = true ∨ ∀ i ds, Γ.getD i .no ≠ .rl D ds) : R K H0 M ((D, us) :: g) Γ σ (upd H D (.lst us)) := by
  obtain ⟨own, h1, h2, h3⟩ := r.slots
  have hD := h3 (D, vs) List.mem_cons_self
  have gw : Gw H (upd H D (.lst us)) := gw_mut (by rw [show H D = some (.lst vs) from hD.1]; trivial)
  refine ⟨fun b o hb hq => ?_, r.len, own, fun i => ?_, h2, fun q hq => ?_⟩
  · rw [upd_ne (fun z => by subst z; rw [h0] at hq; cases hq)]
    exact r.but b o hb hq
  · have k1 := (h1 i).keep gw fun p hp => upd_ne (fun z => hD.2 i (z ▸ hp))
    have hne : ∀ ds, Γ.getD i .no ≠ .rl D ds := by
      rcases hrl with h | h
      · intro ds z
        have := noRl (i := i) h
        rw [z] at this; cases this
      · exact h i
    cases hx : Γ.getD i .no with
    | rl p ds =>
      rw [hx] at k1 hne
      obtain ⟨e, e1, e2, ws, e3, e4⟩ := k1
      refine ⟨e, e1, e2, ws, ?_, e4⟩
      rcases List.mem_cons.mp e3 with z | z
      · exact absurd (by rw [(Prod.mk.inj z).1]) (hne ds)
      · exact List.mem_cons_of_mem _ z
    | no => rw [hx] at k1; exact k1
    | im d => rw [hx] at k1; exact k1
    | va v => rw [hx] at k1; exact k1
    | ls ds => rw [hx] at k1; exact k1
    | pl p ds => rw [hx] at k1; exact k1
    | dk ds => rw [hx] at k1; exact k1
    | st a r b => rw [hx] at k1; exact k1
  · rcases List.mem_cons.mp hq with z | z
    · subst z
      exact ⟨upd_same, hD.2⟩
    · refine ⟨?_, (h3 q (List.mem_cons_of_mem _ z)).2⟩
      rw [upd_ne (fun e => hn q.2 (by rw [← e]; exact z))]
      exact (h3 q (List.mem_cons_of_mem _ z)).1
section
variable {X : Cx} {H0 : Hp} {M : List Addr} {Γ Γ1 Γ2 : SC} {e c iter elt : Expr} {es : List Expr} {pos p0 : Pos}
/-- the contexts of a comprehension's block -/
abbrev Blk (X : Cx) (scope : Scope) (φ : Cx → Prop) : Prop := ∀ (s : Shared) (H : Hp) (C : Addr) (cl : List (Str × Addr)) (fp : List Addr), φ (X.blk s H scope (compEnvC scope cl C X.env) fp)
def wEB (X : Cx) (scope : Scope) (e : Expr) : TE := fun σ H Q => Blk X scope fun Y => wE Y e σ H Q
def wTB (X : Cx) (scope : Scope) (e : Expr) : TT := fun σ H Q => Blk X scope fun Y => wT Y e σ H Q
/-- what a comprehension walks: data whose i-th item is told -/
structure Src (X : Cx) (H0 : Hp) (M : List Addr) (Γ : SC) (iter tg : Expr) (wi : TI) (ds : List PyData) : Prop where
  run : ∀ g σ H (Rr : It → Hp → Prop), R X.K H0 M g Γ σ H → (∀ J g' H1, Same H H1 → R X.K H0 M g' Γ σ H1 → (∀ q, q ∈ g → q ∈ g') → (∀ p, H1 p = none → ∀ us, (p, us) ∈ g' → False) →
    Walk J ds.length (fun H' => Gw H1 H' ∧ Kept g' H') (fun i H x H' => H' = H ∧ ∃ d, ds[i]? = some d ∧ (∀ H2, Gw H1 H2 → Im X.K H2 x d)) → Rr J H1) → wi σ H Rr
theorem src_tup {tg : Expr} {ds : List PyData} (he : EI X H0 M Γ iter (.tuple ds)) : Src X H0 M Γ iter tg (iTup X.K (wE X iter)) ds := ⟨fun g σ H Rr r k => he g σ H _ r fun v H1 s m => by
  obtain ⟨a, xs, rfl, hq, hxs⟩ := m.tup_inv
  refine ⟨a, rfl, ⟨xs, hq⟩, k _ g H1 s (r.same s) (fun q hq => hq) (fun p hp us hu => ?_) ?_⟩
  · have := (r.same s).kept _ hu
    rw [show H1 p = some (.lst us) from this] at hp; cases hp
  · have w := walk_tup (K := X.K) (a := a) (xs := xs)
    rw [hxs.len] at w
    refine w.mono (fun H' g' => g'.1.sqt hq) fun i H2 x H' hi g' y => ?_
    obtain ⟨rfl, y⟩ := y
    obtain ⟨d, hd, md⟩ := hxs.get' y
    exact ⟨rfl, d, hd, fun H3 g3 => md.gw g3 d x⟩⟩
theorem src_new {tg : Expr} {ds : List PyData} (he : EL X H0 M Γ iter ds) : Src X H0 M Γ iter tg (iList X.K (wE X iter)) ds := ⟨fun g σ H Rr r k => he g σ H _ r fun v H1 s m => by
  obtain ⟨a, xs, rfl, hn, hq, hxs⟩ := m
  have r1 := r.ghost s hn hq
  refine ⟨a, rfl, ⟨xs, SqL.of hq⟩, k _ ((a, xs) :: g) H1 s r1 (fun q hq => List.mem_cons_of_mem _ hq) (fun p hp us hu => ?_) ?_⟩
  · have := r1.kept _ hu
    rw [show H1 p = some (.lst us) from this] at hp; cases hp
  · have w := walk_list (K := X.K) (a := a) (xs := xs)
    rw [hxs.len] at w
    refine w.mono (fun H' g' => SqL.of (g'.2 _ List.mem_cons_self)) fun i H2 x H' hi g' y => ?_
    obtain ⟨rfl, y⟩ := y
    obtain ⟨d, hd, md⟩ := hxs.get' y
    exact ⟨rfl, d, hd, fun H3 g3 => md.gw g3 d x⟩⟩
theorem lc_w {x : Str} {px : Pos} {scope : Scope} {ds : List PyData} {fs : List PyData} {wi : TI} {i : Nat} (hc : X.calm = true) (hN : X.N.Nodup) (hsrc : Src X H0 M Γ iter (.Name x px) wi ds) (hlen : fs.length = ds.length) (hmax : ds.length < 100000)
    (hM : MOk X H0 M Γ)
    (he : ∀ (k : Nat) (d f : PyData), ds[k]? = some d → fs[k]? = some f → Blk X scope fun Y => EI Y H0 M ((wipeC Γ [i]).set i (.im d)) elt f)
    (hiN : i < X.N.length) (hl : Γ.length = X.N.length) {g : Gs} {σ : St} {H : Hp} {Q : VK} (r : R X.K H0 M g Γ σ H) (k : ∀ v H', Same H H' → kL X.K fs H v H' → Q v H') : tLc wi (gName i) tYes (wEB X scope elt) [i] σ H Q := by
  refine hsrc.run g σ H _ r fun J g' H1 s1 r1 sub nog w => ?_
  intro Dd hD
  have h0 : H0 Dd = none := r1.fresh (hM g' σ H1 r1) hD
  have hn : ∀ us, (Dd, us) ∈ g' → False := nog Dd hD
  have r2 : R X.K H0 M ((Dd, []) :: g') Γ σ (upd H1 Dd (.lst [])) := r1.ghost (same_new hD) hD upd_same
  have gw2 : Gw H1 (upd H1 Dd (.lst [])) := Same.gw (same_new hD)
  have nrl : ∀ {vs : List V} {H' : Hp}, R X.K H0 M ((Dd, vs) :: g') Γ σ H' → ∀ j es, Γ.getD j .no ≠ .rl Dd es := fun {vs H'} rr j es z => by
    obtain ⟨own, q1, _, q3⟩ := r1.slots
    have qj := q1 j
    rw [z] at qj
    obtain ⟨_, _, _, ws, m, _⟩ := qj
    exact hn ws m
  refine lc_it w (fun k H' => Same H1 H' ∧ ∃ vs, vs.length = k ∧ ImAll X.K H' vs (fs.take k) ∧ R X.K H0 M ((Dd, vs) :: g') Γ σ H') ⟨same_new hD, [], rfl, .nil, r2⟩ (fun k H' hk p => ?_) (fun k v H2 H' hk p y => ?_) (fun H' p => ?_)
  · obtain ⟨p1, vs, _, _, rr⟩ := p
    exact ⟨Same.gw p1, fun q hq => rr.kept q (List.mem_cons_of_mem _ hq)⟩
  · obtain ⟨p1, vs, lv, mv, rr⟩ := p
    obtain ⟨rfl, d, hd, md⟩ := y
    have hkf : k < fs.length := by omega
    have hf : fs[k]? = some fs[k] := List.getElem?_eq_getElem hkf
    refine ⟨?_, ?_⟩
    · show L2.wipe ((L2.wipe σ [i]).set i (some v)) [i] = L2.wipe σ [i]
      show ((σ.set i none).set i (some v)).set i none = σ.set i none
      rw [List.set_set, List.set_set]
    · unfold tYes
      dsimp only
      rw [if_pos rfl]
      intro s H C cl fp
      have rw1 : R X.K H0 M ((Dd, vs) :: g') ((wipeC Γ [i]).set i (.im d)) ((L2.wipe σ [i]).set i (some v)) H' := (rr.wipe [i]).setIm (Same.refl _) (by rw [wipeC_len, hl]; exact hiN) (md H' (Same.gw p1))
      refine he k d fs[k] hd hf s H C cl fp ((Dd, vs) :: g') _ H' _ rw1 fun u H4 s4 m4 => ?_
      have rr4 := rr.same s4
      have hDd : H4 Dd = some (.lst vs) := rr4.kept (Dd, vs) List.mem_cons_self
      refine ⟨vs, hDd, by rw [lv]; exact Nat.lt_of_lt_of_le (Nat.lt_trans hk hmax) (by decide), fun b o hb => ?_, vs ++ [u], by simp [lv], ?_, rr4.ghostUpd h0 hn (.inr (nrl rr4))⟩
      · rw [upd_ne (fun z => by subst z; rw [hD] at hb; cases hb)]
        exact s4 _ _ (p1 _ _ hb)
      have ge : Gw H4 (upd H4 Dd (.lst (vs ++ [u]))) := gw_mut (by rw [hDd]; trivial)
      have e : fs.take (k + 1) = fs.take k ++ [fs[k]] := by rw [List.take_add_one, hf]; rfl
      rw [e]
      exact ((mv.same s4).gw ge _ _).append (.cons (m4.gw ge _ _) .nil)
  · obtain ⟨p1, vs, lv, mv, rr⟩ := p
    have e : fs.take ds.length = fs := List.take_of_length_le (by omega)
    rw [e] at mv
    exact k _ H' (s1.trans p1) ⟨Dd, vs, rfl, s1.free hD, rr.kept (Dd, vs) List.mem_cons_self, mv⟩
theorem l_lc {x : Str} {px : Pos} {scope : Scope} {ds : List PyData} {fs : List PyData} {wi : TI} {i : Nat} (hc : X.calm = true) (hN : X.N.Nodup) (hpi : PI X (.Name x px) iter wi) (hsrc : Src X H0 M Γ iter (.Name x px) wi ds) (hlen : fs.length = ds.length) (hmax : ds.length < 100000)
    (hM : MOk X H0 M Γ)
    (he : ∀ (k : Nat) (d f : PyData), ds[k]? = some d → fs[k]? = some f → Blk X scope fun Y => EI Y H0 M ((wipeC Γ [i]).set i (.im d)) elt f)
    (ok : BlkOk X.N X.env.scope scope [(x, i)])
    (hg : Blk X scope fun Y => PG Y (.Name x px) (gName i)) (hiN : i < X.N.length) (hl : Γ.length = X.N.length)
    (hs : ∀ x, foldedSetIterable iter X.env x = pure x := by intro _; rfl) : EL X H0 M Γ (.ListComp elt [⟨.Name x px, iter, [], 0⟩] scope pos) fs := fun g σ H Q r k =>
  wE.of (pe_lc (te := wEB X scope elt) (tt := tYes) hc hN hpi ok hg (fun _ _ _ _ _ => pts_nil) (fun s H C cl fp => ⟨fun pins s' σ' H' Q' I q => (q s H C cl fp).go pins s' I⟩) hs) (lc_w hc hN hsrc hlen hmax hM he hiN hl r k)
/-- y = [..] on one line -/
theorem g_setLC (j : Nat) {y x : Str} {py px : Pos} {scope : Scope} {ds : List PyData} {fs : List PyData} {wi : TI} {i : Nat} {rest : List Stmt} {D : DD} (hc : X.calm = true) (hN : X.N.Nodup) (hpi : PI X (.Name x px) iter wi) (hsrc : Src X H0 M Γ iter (.Name x px) wi ds) (hlen : fs.length = ds.length) (hmax : ds.length < 100000)
    (hM : MOk X H0 M Γ)
    (he : ∀ (k : Nat) (d f : PyData), ds[k]? = some d → fs[k]? = some f → Blk X scope fun Y => EI Y H0 M ((wipeC Γ [i]).set i (.im d)) elt f)
    (ok : BlkOk X.N X.env.scope scope [(x, i)])
    (hg : Blk X scope fun Y => PG Y (.Name x px) (gName i)) (hiN : i < X.N.length) (hl : Γ.length = X.N.length) (hr : SG X H0 M (Γ.set j (.ls fs)) rest D)
    (hj : X.N[j]? = some y := by rfl) (hyl : X.env.scope.names.lookup y = some .local := by rfl) (hk : X.env.scope.kind = .function := by rfl) (hpl : (py.line == p0.line) = true := by rfl) (hyn : (scope.names.any fun (n, k) => n == y && (k == .local || k == .cell)) = false := by decide +kernel)
    (hs : ∀ x, foldedSetIterable iter X.env x = pure x := by intro _; rfl) : SG X H0 M Γ (.Assign [.Name y py] (.ListComp elt [⟨.Name x px, iter, [], 0⟩] scope p0) pos :: rest) D := fun g σ H D' r im =>
  wS.of' (ps_setLc (te := wEB X scope elt) (tt := tYes) hc hN hj hyl (sw_true hk hyl hpl hyn) hpi ok hg (fun _ _ _ _ _ => pts_nil) (fun s H C cl fp => ⟨fun pins s' σ' H' Q' I q => (q s H C cl fp).go pins s' I⟩) hs) (lc_w hc hN hsrc hlen hmax hM he hiN hl r fun v H' s ⟨p, vs, ev, hn, hp, m⟩ => by
    subst ev
    exact hr g _ _ D' (r.setLs s (by rw [hl]; exact (List.getElem?_eq_some_iff.mp hj).1) hn (r.fresh (hM g σ H r) hn) hp m) (im.go (Same.gw s)))
end
end G

namespace G
open PySem PySem.Spec PyProof.Rows L2
section
variable {X : Cx} {H0 : Hp} {M : List Addr} {Γ Γ1 Γ2 : SC} {e a b c iter elt : Expr} {es : List Expr} {pos p0 : Pos} {rest body : List Stmt} {D : DD}
/-! ### isinstance -/
def tyD : PyData → String
  | .none => "NoneType"
  | .bool _ => "bool"
  | .int _ => "int"
  | .str _ => "str"
  | .list _ => "list"
  | .tuple _ => "tuple"
  | .dict _ => "dict"
theorem Im.ty {K : PySem.W.Frag} {H : Hp} : ∀ {d : PyData} {v : V}, Im K H v d → TyX K H v (.type (tyD d))
  | .none, _, h => by cases h; exact .base .non
  | .bool b, _, h => by cases h; exact .base (.bl b)
  | .int i, _, h => by cases h; exact .base (.int i)
  | .str x, _, h => by cases h; exact .base (.str x)
  | .tuple ds, _, h => by
    cases h with
    | tup a b =>
      rcases a with (a | ⟨o, a⟩) | ⟨o, its, n, hk, hc, _⟩
      · exact .base (.tup a)
      · exact .fTuple a
      · exact .kTuple hk hc
  | .list _, _, h => by cases h
  | .dict _, _, h => by cases h
theorem v_bltn {x : Str} {v : V} {u : Value} (hm : X.mg x = none) (hv : bootBuiltins x = some u) (r : RelV v u) (hg : Gl X x := by rfl) (hn : x ≠ "__name__" := by decide) (hd : (x == ("__debug__" : Str)) = false := by decide) : EV X H0 M Γ (.Name x pos) v := fun g σ H Q R k =>
  wE.of (pe_bltn hg hm hv r hn hd) (k _ H (Same.refl H) rfl)
/-- isinstance(x, T), T a built-in class -/
theorem i_isi {d : PyData} {T : String} {k : Bool} (hm : X.mg "isinstance" = none) (hT : EV X H0 M Γ b (.ty T)) (he : EI X H0 M Γ e d) (hk : kitB (tyD d) T = some k) (hg : Gl X "isinstance" := by rfl)
    (h1 : starEach (e :: [b]) X.env = (false, eval e X.env) :: starEach [b] X.env := by exact star1 rfl) (h2 : starEach (b :: []) X.env = (false, eval b X.env) :: starEach [] X.env := by exact star1 rfl) (hpl : (backTo pos (starEach [b] X.env)).any (·.1) = false := by rfl) :
    EI X H0 M Γ (.Call (.Name "isinstance" p0) [e, b] [] pos) (.bool k) :=
  e_callB (id := "isinstance") call_isi hm (by decide +kernel) (a_consA he (a_consA hT a_nilA h2) h1) (fun H H1 vs Q s1 p k' => by
    obtain ⟨v, r, H2, rfl, s2, s3, m, v', r', H3, rfl, s4, s5, rfl, rfl⟩ := p
    exact ⟨v, .ty T, _, .type T, k, rfl, .ty T, (m.same s3).ty, kit_ty hk, k' _ _ (Same.refl _) (.bl k)⟩) hg (by decide) (by decide) h1 hpl
theorem cutD_from (ds : List PyData) (k : Nat) : cutD ds (some (k : Int)) none = ds.drop k := by
  unfold cutD
  rw [HT.sIx_nat, HT.sIx_none]
  by_cases h : k ≤ ds.length
  · rw [Nat.min_eq_left h, List.take_of_length_le (by rw [List.length_drop]; omega)]
  · rw [Nat.min_eq_right (by omega), List.drop_of_length_le (Nat.le_refl _), List.drop_of_length_le (by omega)]
    exact List.take_nil
theorem cutD_to (ds : List PyData) (k : Nat) : cutD ds none (some (k : Int)) = ds.take k := by
  unfold cutD
  rw [HT.sIx_nat, HT.sIx_none, List.drop_zero, Nat.sub_zero]
  by_cases h : k ≤ ds.length
  · rw [Nat.min_eq_left h]
  · rw [Nat.min_eq_right (by omega), List.take_of_length_le (Nat.le_refl _), List.take_of_length_le (by omega)]
/-! ### len -/
theorem i_lenT {ds : List PyData} (hm : X.mg "len" = none) (he : EI X H0 M Γ e (.tuple ds)) (hg : Gl X "len" := by rfl) (h1 : starEach (e :: []) X.env = (false, eval e X.env) :: starEach [] X.env := by exact star1 rfl) (hpl : (backTo pos (starEach [] X.env)).any (·.1) = false := by rfl) :
    EI X H0 M Γ (.Call (.Name "len" p0) [e] [] pos) (.int ds.length) :=
  e_callB (id := "len") call_len_seq hm PySem.boot_len (a_consA he a_nilA h1) (fun H H1 vs Q s1 p k' => by
    obtain ⟨v, r, H2, rfl, s2, s3, m, rfl⟩ := p
    obtain ⟨q, xs, rfl, hq, hxs⟩ := (m.same s3).tup_inv
    refine ⟨q, xs, rfl, .inr hq, k' _ _ (Same.refl _) ?_⟩
    rw [hxs.len]; exact .int _) hg (by decide) (by decide) h1 hpl
theorem i_lenO {ds : List PyData} (hm : X.mg "len" = none) (he : EE X H0 M Γ e (kO X.K ds)) (hg : Gl X "len" := by rfl) (h1 : starEach (e :: []) X.env = (false, eval e X.env) :: starEach [] X.env := by exact star1 rfl) (hpl : (backTo pos (starEach [] X.env)).any (·.1) = false := by rfl) :
    EI X H0 M Γ (.Call (.Name "len" p0) [e] [] pos) (.int ds.length) :=
  e_callB (id := "len") call_len_seq hm PySem.boot_len (a_consA he a_nilA h1) (fun H H1 vs Q s1 p k' => by
    obtain ⟨v, r, H2, rfl, s2, s3, ⟨q, xs, rfl, hq, hxs⟩, rfl⟩ := p
    refine ⟨q, xs, rfl, .inl (SqL.of (s3 _ _ hq)), k' _ _ (Same.refl _) ?_⟩
    rw [hxs.len]; exact .int _) hg (by decide) (by decide) h1 hpl
theorem i_lenS {z : Str} (hz : z.length ≤ 100000) (hm : X.mg "len" = none) (he : EI X H0 M Γ e (.str z)) (hg : Gl X "len" := by rfl) (h1 : starEach (e :: []) X.env = (false, eval e X.env) :: starEach [] X.env := by exact star1 rfl) (hpl : (backTo pos (starEach [] X.env)).any (·.1) = false := by rfl) :
    EI X H0 M Γ (.Call (.Name "len" p0) [e] [] pos) (.int z.length) :=
  e_callB (id := "len") call_len_str hm PySem.boot_len (a_consA he a_nilA h1) (fun H H1 vs Q s1 p k' => by
    obtain ⟨v, r, H2, rfl, s2, s3, m, rfl⟩ := p
    exact ⟨z, by rw [m.str_inv], Nat.le_trans hz (by decide), k' _ _ (Same.refl _) (.int _)⟩) hg (by decide) (by decide) h1 hpl
/-- a new list is a list -/
theorem EL.o {ds : List PyData} (h : EL X H0 M Γ e ds) : EE X H0 M Γ e (kO X.K ds) := h.mono fun H v H' s ⟨p, vs, e, _, q, m⟩ => ⟨p, vs, e, q, m⟩
/-! ### abs, int -/
theorem i_abs {i : Int} (hm : X.mg "abs" = none) (he : EI X H0 M Γ e (.int i)) (hg : Gl X "abs" := by rfl) (h1 : starEach (e :: []) X.env = (false, eval e X.env) :: starEach [] X.env := by exact star1 rfl) (hpl : (backTo pos (starEach [] X.env)).any (·.1) = false := by rfl) :
    EI X H0 M Γ (.Call (.Name "abs" p0) [e] [] pos) (.int (if i < 0 then -i else i)) :=
  e_callB (id := "abs") call_abs hm (by decide +kernel) (a_consA he a_nilA h1) (fun H H1 vs Q s1 p k' => by
    obtain ⟨v, r, H2, rfl, s2, s3, m, rfl⟩ := p
    exact ⟨i, by rw [m.int_inv], k' _ _ (Same.refl _) (.int _)⟩) hg (by decide) (by decide) h1 hpl
theorem i_int1 {i : Int} (hm : X.mg "int" = none) (he : EI X H0 M Γ e (.int i)) (hg : Gl X "int" := by rfl) (h1 : starEach (e :: []) X.env = (false, eval e X.env) :: starEach [] X.env := by exact star1 rfl) (hpl : (backTo pos (starEach [] X.env)).any (·.1) = false := by rfl) :
    EI X H0 M Γ (.Call (.Name "int" p0) [e] [] pos) (.int i) :=
  e_callTy call_int1 hm (by decide +kernel) (a_consA he a_nilA h1) (fun H H1 vs Q s1 p k' => by
    obtain ⟨v, r, H2, rfl, s2, s3, m, rfl⟩ := p
    exact .inl ⟨i, by rw [m.int_inv], k' _ _ (Same.refl _) (.int _)⟩) hg (by decide) (by decide) h1 hpl
/-! ### list(..), tuple(..) -/
theorem l_ofT {ds : List PyData} (hm : X.mg "list" = none) (he : EI X H0 M Γ e (.tuple ds)) (hg : Gl X "list" := by rfl) (h1 : starEach (e :: []) X.env = (false, eval e X.env) :: starEach [] X.env := by exact star1 rfl) (hpl : (backTo pos (starEach [] X.env)).any (·.1) = false := by rfl) :
    EL X H0 M Γ (.Call (.Name "list" p0) [e] [] pos) ds :=
  e_callTy call_list_of hm (by decide +kernel) (a_consA he a_nilA h1) (fun H H1 vs Q s1 p k' => by
    obtain ⟨v, r, H2, rfl, s2, s3, m, rfl⟩ := p
    obtain ⟨q, xs, rfl, hq, hxs⟩ := (m.same s3).tup_inv
    exact ⟨q, xs, rfl, .inr hq, fun l hl => k' _ _ (same_new hl) ⟨l, xs, rfl, s1.free hl, upd_same, hxs.same (same_new hl)⟩⟩) hg (by decide) (by decide) h1 hpl
theorem l_ofO {ds : List PyData} (hm : X.mg "list" = none) (he : EE X H0 M Γ e (kO X.K ds)) (hg : Gl X "list" := by rfl) (h1 : starEach (e :: []) X.env = (false, eval e X.env) :: starEach [] X.env := by exact star1 rfl) (hpl : (backTo pos (starEach [] X.env)).any (·.1) = false := by rfl) :
    EL X H0 M Γ (.Call (.Name "list" p0) [e] [] pos) ds :=
  e_callTy call_list_of hm (by decide +kernel) (a_consA he a_nilA h1) (fun H H1 vs Q s1 p k' => by
    obtain ⟨v, r, H2, rfl, s2, s3, ⟨q, xs, rfl, hq, hxs⟩, rfl⟩ := p
    exact ⟨q, xs, rfl, .inl (SqL.of (s3 _ _ hq)), fun l hl => k' _ _ (same_new hl) ⟨l, xs, rfl, s1.free hl, upd_same, (hxs.same s3).same (same_new hl)⟩⟩) hg (by decide) (by decide) h1 hpl
theorem i_tupO {ds : List PyData} (hm : X.mg "tuple" = none) (he : EE X H0 M Γ e (kO X.K ds)) (hg : Gl X "tuple" := by rfl) (h1 : starEach (e :: []) X.env = (false, eval e X.env) :: starEach [] X.env := by exact star1 rfl) (hpl : (backTo pos (starEach [] X.env)).any (·.1) = false := by rfl) :
    EI X H0 M Γ (.Call (.Name "tuple" p0) [e] [] pos) (.tuple ds) :=
  e_callTy call_tuple_of hm (by decide +kernel) (a_consA he a_nilA h1) (fun H H1 vs Q s1 p k' => by
    obtain ⟨v, r, H2, rfl, s2, s3, ⟨q, xs, rfl, hq, hxs⟩, rfl⟩ := p
    exact ⟨q, xs, rfl, .inl ⟨SqL.of (s3 _ _ hq), fun l hl => k' _ _ (same_new hl) (.tup (.inl (.inl upd_same)) ((hxs.same s3).same (same_new hl)))⟩⟩) hg (by decide) (by decide) h1 hpl
/-- the keys of a dict of one's own, in a new list -/
def keyD : Key → PyData
  | .inl i => .int i
  | .inr x => .str x
theorem ImKv.keys {K : PySem.W.Frag} {H : Hp} : ∀ {vs : List (Key × V)} {ds : List (Key × PyData)}, ImKv K H vs ds → ImAll K H (vs.map fun kv => L2.kV kv.1) (ds.map fun kv => keyD kv.1)
  | _, _, .nil => .nil
  | (k, v) :: vs, (k', d) :: ds, .cons h t => by
    obtain ⟨h1, _⟩ := h
    have h1' : k = k' := h1
    subst h1'
    refine .cons ?_ (ImKv.keys t)
    cases k with
    | inl i => exact .int i
    | inr x => exact .str x
abbrev kD (K : PySem.W.Frag) (ds : List (Key × PyData)) : EK := fun _ v H' => ∃ p vs, v = .ref p ∧ H' p = some (.dK vs) ∧ ImKv K H' vs ds
theorem d_var (i : Nat) {x : Str} {ds : List (Key × PyData)} (h : Γ.getD i .no = .dk ds) (hN : X.N[i]? = some x := by rfl) (hv : Vis X.env.scope x := by first | exact Or.inl rfl | exact Or.inr (Or.inl rfl) | exact Or.inr (Or.inr rfl)) (hd : (x == ("__debug__" : Str)) = false := by decide)
    (hcd : (x == ("__classdict__" : Str)) = false := by decide) : EE X H0 M Γ (.Name x pos) (kD X.K ds) := fun g σ H Q r k => by
  obtain ⟨p, vs, e, m, q, _⟩ := r.dk h
  exact wE.of (pe_var hN hv hd hcd) ⟨_, e, k _ H (Same.refl H) ⟨p, vs, rfl, m, q⟩⟩
theorem l_ofD {ds : List (Key × PyData)} (hc : X.calm = true) (hm : X.mg "list" = none) (he : EE X H0 M Γ e (kD X.K ds)) (hg : Gl X "list" := by rfl) (h1 : starEach (e :: []) X.env = (false, eval e X.env) :: starEach [] X.env := by exact star1 rfl) (hpl : (backTo pos (starEach [] X.env)).any (·.1) = false := by rfl) :
    EL X H0 M Γ (.Call (.Name "list" p0) [e] [] pos) (ds.map fun kv => keyD kv.1) :=
  e_callTy (call_list_dK hc) hm (by decide +kernel) (a_consA he a_nilA h1) (fun H H1 vs Q s1 p k' => by
    obtain ⟨v, r, H2, rfl, s2, s3, ⟨q, xs, rfl, hq, hxs⟩, rfl⟩ := p
    exact ⟨q, xs, rfl, s3 _ _ hq, fun l hl => k' _ _ (same_new hl) ⟨l, _, rfl, s1.free hl, upd_same, (hxs.keys.same s3).same (same_new hl)⟩⟩) hg (by decide) (by decide) h1 hpl
/-! ### list + list -/
theorem l_cat {ds es : List PyData} (hz : ds.length + es.length ≤ 100000) (ha : EE X H0 M Γ a (kO X.K ds)) (hb : EE X H0 M Γ b (kO X.K es)) : EL X H0 M Γ (.BinOp a .Add b pos) (ds ++ es) :=
  fun g σ H Q R k => wE.of (pe_op op_cat pe_w pe_w) (ha g σ H _ R fun x H1 s1 ⟨p, xs, e1, h1, m1⟩ => hb g σ H1 _ (R.same s1) fun y H2 s2 ⟨q, ys, e2, h2, m2⟩ =>
    ⟨p, q, xs, ys, e1, e2, s2 _ _ h1, h2, by rw [m1.len, m2.len]; exact Nat.le_trans hz (by decide), fun r hr => k _ _ ((s1.trans s2).trans (same_new hr)) ⟨r, _, rfl, (s1.trans s2).free hr, upd_same, ((m1.same s2).append m2).same (same_new hr)⟩⟩)
/-! ### == of lists -/
def rEqL (K : PySem.W.Frag) : R2 := fun x y H Q => ∃ p q xs ys ds es, x = .ref p ∧ y = .ref q ∧ SqL K H p xs ∧ SqL K H q ys ∧ ImAll K H xs ds ∧ ImAll K H ys es ∧ PyData.depthAll ds < 64 ∧ Q (.bl (PyData.eqvAll ds es)) H
theorem op_eqL (hu : X.A.units + 64 < cLine) : OpR X (compareOp .Eq) (rEqL X.K) := by
  intro pins s σ H x y v u Q I rx ry h
  obtain ⟨p, q, xs, ys, ds, es, rfl, rfl, hp, hq, hd, he, sd, k⟩ := h
  obtain ⟨as, r1⟩ := Dp.reads I (.list ds) _ v (.lst hp (hd.dp ds xs)) rx
  obtain ⟨bs, r2⟩ := Dp.reads I (.list es) _ u (.lst hq (he.dp es ys)) ry
  have h1 : PyData.depth (.list ds) = PyData.depthAll ds + 1 := by first | rfl | simp [PyData.depth] | (simp [PyData.depth]; omega)
  have : min (PyData.depth (.list ds)) (PyData.depth (.list es)) ≤ PyData.depth (.list ds) := Nat.min_le_left _ _
  refine SeqAt.eq_plain r1 r2 (hd.plain ds xs) (he.plain es ys) (by omega) ⟨.bl _, H, I, ?_, k⟩
  show Value.bool (PyData.eqv (.list ds) (.list es)) = Value.bool (PyData.eqvAll ds es)
  rw [PyData.eqv]
theorem i_eqL {k : Nat} {ds es : List PyData} (hr : Room k X.A) (hd : PyData.depthAll ds < 64) (ha : EE X H0 M Γ a (kO X.K ds)) (hb : EE X H0 M Γ b (kO X.K es)) : EI X H0 M Γ (.Compare a [.Eq] [b] pos) (.bool (PyData.eqvAll ds es)) :=
  e_cmp (op_eqL hr.units) ha hb (nomark _) fun H H1 H2 x y Q s1 s2 ⟨p, xs, e1, h1, m1⟩ ⟨q, ys, e2, h2, m2⟩ k => ⟨p, q, xs, ys, ds, es, e1, e2, SqL.of (s2 _ _ h1), SqL.of h2, m1.same s2, m2, hd, k _ _ (Same.refl _) (.bl _)⟩
/-! ### in a list -/
def rInP (K : PySem.W.Frag) (neg : Bool) : R2 := fun x y H Q => ∃ d p xs ds, Im K H x d ∧ y = .ref p ∧ SqL K H p xs ∧ ImAll K H xs ds ∧ d.depth ≤ 64 ∧ Q (.bl (if neg then !(ds.any fun z => PyData.eqv z d) else ds.any fun z => PyData.eqv z d)) H
theorem op_inP (hu : X.A.units + 66 < cLine) : OpR X (compareOp .In) (rInP X.K false) := by
  intro pins s σ H x y v u Q I rx ry h
  obtain ⟨d, p, xs, ds, hd, rfl, hp, hds, sd, k⟩ := h
  obtain ⟨as, r1⟩ := Dp.reads I d x v (hd.dp d x) rx
  obtain ⟨bs, r2⟩ := Dp.reads I (.list ds) _ u (.lst hp (hds.dp ds xs)) ry
  have : min (PyData.depthAll ds) d.depth ≤ d.depth := Nat.min_le_right _ _
  exact SeqAt.in_list_data r2 r1 (hds.plain ds xs) (hd.plain d x) (by omega) ⟨.bl _, H, I, rfl, k⟩
theorem op_niP (hu : X.A.units + 66 < cLine) : OpR X (compareOp .NotIn) (rInP X.K true) := by
  intro pins s σ H x y v u Q I rx ry h
  obtain ⟨d, p, xs, ds, hd, rfl, hp, hds, sd, k⟩ := h
  obtain ⟨as, r1⟩ := Dp.reads I d x v (hd.dp d x) rx
  obtain ⟨bs, r2⟩ := Dp.reads I (.list ds) _ u (.lst hp (hds.dp ds xs)) ry
  have : min (PyData.depthAll ds) d.depth ≤ d.depth := Nat.min_le_right _ _
  exact SeqAt.notIn_list_data r2 r1 (hds.plain ds xs) (hd.plain d x) (by omega) ⟨.bl _, H, I, rfl, k⟩
theorem units66 {k : Nat} {A : Around} (r : Room k A) : A.units + 66 < cLine := by have := r.un; omega
theorem t_notIn {k : Nat} {d : PyData} {ds : List PyData} (hr : Room k X.A) (hd : d.depth ≤ 64) (ha : EI X H0 M Γ a d) (hb : EE X H0 M Γ b (kO X.K ds)) (hm : behindInMarks .NotIn b = false := by rfl) : ET X H0 M Γ (.Compare a [.NotIn] [b] pos) (!(ds.any fun z => PyData.eqv z d)) :=
  t_cmp (op_niP (units66 hr)) ha hb hm fun H H1 H2 x y Q s1 s2 p1 ⟨p, xs, e1, h1, m1⟩ k => ⟨d, p, xs, ds, p1.same s2, e1, SqL.of h1, m1, hd, k _ (Same.refl _)⟩
theorem t_in {k : Nat} {d : PyData} {ds : List PyData} (hr : Room k X.A) (hd : d.depth ≤ 64) (ha : EI X H0 M Γ a d) (hb : EE X H0 M Γ b (kO X.K ds)) (hm : behindInMarks .In b = false := by rfl) : ET X H0 M Γ (.Compare a [.In] [b] pos) (ds.any fun z => PyData.eqv z d) :=
  t_cmp (op_inP (units66 hr)) ha hb hm fun H H1 H2 x y Q s1 s2 p1 ⟨p, xs, e1, h1, m1⟩ k => ⟨d, p, xs, ds, p1.same s2, e1, SqL.of h1, m1, hd, k _ (Same.refl _)⟩
/-! ### 0 <= i < n -/
theorem t_chain {i j l : Int} {op op' : CmpOp} {f f' : Int → Int → Bool} (ho : OpR X (compareOp op) (rI0 fun i j => .bl (f i j))) (ho' : OpR X (compareOp op') (rI0 fun i j => .bl (f' i j))) (ha : EI X H0 M Γ a (.int i)) (hb : EI X H0 M Γ b (.int j)) (hc : EI X H0 M Γ c (.int l))
    (hm : lastMarks [op, op'] [b, c] = false := by with_unfolding_all rfl) : ET X H0 M Γ (.Compare a [op, op'] [b, c] pos) (f i j && f' j l) := fun g σ H Q R k =>
  wT.of (pt_chain ho ho' pe_w pe_w pe_w hm) (ha g σ H _ R fun x H1 s1 p1 => hb g σ H1 _ (R.same s1) fun y H2 s2 p2 => ⟨i, j, p1.int_inv, p2.int_inv, f i j, rfl, by
    cases hf : f i j with
    | false =>
      rw [if_neg (by decide)]
      rw [hf] at k
      exact ⟨_, rfl, k H2 (s1.trans s2)⟩
    | true =>
      rw [if_pos rfl]
      rw [hf] at k
      exact hc g σ H2 _ (R.same (s1.trans s2)) fun z H3 s3 p3 => ⟨j, l, p2.int_inv, p3.int_inv, _, rfl, k H3 ((s1.trans s2).trans s3)⟩⟩)
/-! ### stores -/
/-- xs[i] = e -/
theorem g_item (i : Nat) {x : Str} {px pa : Pos} {d : PyData} {ds : List PyData} {j : Int} {n : Nat} (hls : Γ.getD i .no = .ls ds) (hj : ixN ds.length j = some n) (he : EI X H0 M Γ e d) (hix : EI X H0 M Γ b (.int j)) (hr : SG X H0 M (Γ.set i (.ls (ds.set n d))) rest D)
    (hN : X.N[i]? = some x := by rfl) (hv : Vis X.env.scope x := by first | exact Or.inl rfl | exact Or.inr (Or.inl rfl) | exact Or.inr (Or.inr rfl)) (hd : (x == ("__debug__" : Str)) = false := by decide)
    (hcd : (x == ("__classdict__" : Str)) = false := by decide)
    (hp : ∀ {to ti te : TE}, PE X (.Name x px) to → PE X b ti → PE X e te → PS X (.Assign [.Subscript (.Name x px) b pa] e pos) (tAsg te (gSub to ti rSetL)) := by
      intro to ti te h1 h2 h3; exact ps_asg h3 (pg_sub h1 h2 set_list)) : SG X H0 M Γ (.Assign [.Subscript (.Name x px) b pa] e pos :: rest) D := fun g σ H D' r im => by
  refine wS.of' (hp (pe_var hN hv hd hcd) pe_w pe_w) (he g σ H _ r fun v H1 s1 m1 => ?_)
  have r1 := r.same s1
  obtain ⟨p, vs, ex, hp0, hm, _⟩ := r1.ls hls
  refine ⟨_, ex, hix g σ H1 _ r1 fun u H2 s2 m2 => ?_⟩
  refine ⟨p, vs, j, n, rfl, m2.int_inv, s2 _ _ hp0, by rw [hm.len]; exact hj, ?_⟩
  refine hr g _ _ D' ((r1.same s2).updLs ex hls ((hm.same s2).set n (m1.same s2))) (im.go (((Same.gw s1).trans (Same.gw s2)).trans (gw_mut ?_)))
  rw [s2 _ _ hp0]; trivial
/-- x = {} -/
theorem g_dict (i : Nat) {x : Str} {px pd : Pos} (hM : MOk X H0 M Γ) (hN : X.N.Nodup) (hl : Γ.length = X.N.length) (hr : SG X H0 M (Γ.set i (.dk [])) rest D) (hi : X.N[i]? = some x := by rfl) (hx : Loc X.env.scope x := by first | exact Or.inl rfl | exact Or.inr rfl)
    (hs : swapsWith (.Dict [] [] pd) (some (.Name x px)) pos.line X.env = pure false := by rfl) (hf : X.fn x = true ∨ X.env.scope.names.lookup x = some .local := by first | exact .inl rfl | exact .inr rfl | assumption) : SG X H0 M Γ (.Assign [.Name x px] (.Dict [] [] pd) pos :: rest) D := fun g σ H D' r im =>
  wS.of' (ps_set hN hi hx pe_dnewK hs hf) (fun p hp => hr g _ _ D' (r.setDk (same_new hp) (by rw [hl]; exact (List.getElem?_eq_some_iff.mp hi).1) hp (r.fresh (hM g σ H r) hp) upd_same .nil) (im.go (Same.gw (same_new hp))))
def putD (kvs : List (Key × PyData)) (k : Key) (v : PyData) : List (Key × PyData) :=
  if (kvs.any fun kv => decide (kv.1 = k)) = true then kvs.map (fun kv => if kv.1 = k then (kv.1, v) else kv) else kvs ++ [(k, v)]
theorem ImKv.any {K : PySem.W.Frag} {H : Hp} (k : Key) : ∀ {vs : List (Key × V)} {ds : List (Key × PyData)}, ImKv K H vs ds → (vs.any fun kv => decide (kv.1 = k)) = (ds.any fun kv => decide (kv.1 = k))
  | _, _, .nil => rfl
  | _, _, .cons h t => by
    rw [List.any_cons, List.any_cons, ImKv.any k t, h.1]
theorem ImKv.map {K : PySem.W.Frag} {H : Hp} {k : Key} {v : V} {d : PyData} (m : Im K H v d) : ∀ {vs : List (Key × V)} {ds : List (Key × PyData)}, ImKv K H vs ds → ImKv K H (vs.map fun kv => if kv.1 = k then (kv.1, v) else kv) (ds.map fun kv => if kv.1 = k then (kv.1, d) else kv)
  | _, _, .nil => .nil
  | p :: _, q :: _, .cons h t => by
    refine .cons ?_ (ImKv.map m t)
    by_cases e : p.1 = k
    · dsimp only; rw [if_pos e, if_pos (h.1 ▸ e)]; exact ⟨h.1, m⟩
    · dsimp only; rw [if_neg e, if_neg (h.1 ▸ e)]; exact h
theorem ImKv.app {K : PySem.W.Frag} {H : Hp} {k : Key} {v : V} {d : PyData} (m : Im K H v d) : ∀ {vs : List (Key × V)} {ds : List (Key × PyData)}, ImKv K H vs ds → ImKv K H (vs ++ [(k, v)]) (ds ++ [(k, d)])
  | _, _, .nil => .cons ⟨rfl, m⟩ .nil
  | _, _, .cons h t => .cons h (ImKv.app m t)
theorem ImKv.put {K : PySem.W.Frag} {H : Hp} {k : Key} {v : V} {d : PyData} {vs : List (Key × V)} {ds : List (Key × PyData)} (m : Im K H v d) (h : ImKv K H vs ds) : ImKv K H (putK vs k v) (putD ds k d) := by
  unfold putK putD
  rw [h.any k]
  split
  · exact h.map m
  · exact h.app m
theorem ImKv.len {K : PySem.W.Frag} {H : Hp} : ∀ {vs : List (Key × V)} {ds : List (Key × PyData)}, ImKv K H vs ds → vs.length = ds.length
  | _, _, .nil => rfl
  | _, _, .cons _ t => congrArg (· + 1) (ImKv.len t)
/-- d[k] = e, the key a text or an int -/
theorem g_dput (i : Nat) {k n : Nat} {x : Str} {px pa : Pos} {d : PyData} {kk : Key} {ds : List (Key × PyData)} (hr0 : Room k X.A) (hls : Γ.getD i .no = .dk ds) (hz : ds.length < 100000) (he : EI X H0 M Γ e d) (hix : EI X H0 M Γ b (keyD kk)) (hr : SG X H0 M (Γ.set i (.dk (putD ds kk d))) rest D)
    (hN : X.N[i]? = some x := by rfl) (hv : Vis X.env.scope x := by first | exact Or.inl rfl | exact Or.inr (Or.inl rfl) | exact Or.inr (Or.inr rfl)) (hd : (x == ("__debug__" : Str)) = false := by decide)
    (hcd : (x == ("__classdict__" : Str)) = false := by decide)
    (hs : swapsWith e (some (.Subscript (.Name x px) b pa)) pos.line X.env = pure false := by rfl) : SG X H0 M Γ (.Assign [.Subscript (.Name x px) b pa] e pos :: rest) D := fun g σ H D' r im => by
  have hu : X.A.units + 1 < cLine := by have := hr0.un; omega
  refine wS.of' (ps_dput hu (pe_var hN hv hd hcd) pe_w pe_w hs) (he g σ H _ r fun v H1 s1 m1 => ?_)
  have r1 := r.same s1
  obtain ⟨p, vs, ex, hp0, hm, _⟩ := r1.dk hls
  refine ⟨_, ex, hix g σ H1 _ r1 fun u H2 s2 m2 => ?_⟩
  have eu : u = L2.kV kk := by
    cases kk with
    | inl i => exact m2.int_inv
    | inr x => exact m2.str_inv
  subst eu
  refine ⟨p, _, rfl, DPut.k (k := kk) (s2 _ _ hp0) (by rw [hm.len]; exact Nat.lt_of_lt_of_le hz (by decide)), ?_⟩
  refine hr g _ _ D' ((r1.same s2).updDk ex hls ((hm.gw (Same.gw s2)).put (m1.same s2))) (im.go (((Same.gw s1).trans (Same.gw s2)).trans (gw_mut ?_)))
  rw [s2 _ _ hp0]; trivial
/-- the end of a loop's turn -/
theorem g_loop {Γ' : SC} {B : SC → Prop} (s : Sub Γ Γ') : SG X H0 M Γ [] (loopD X H0 M Γ' B D) := g_nil fun g σ H r => r.sub s
/-- e alone, whose value is dropped -/
theorem g_expr {P : EK} (he : EE X H0 M Γ e P) (hr : SG X H0 M Γ rest D) (hs : swapsWith e none pos.line X.env = pure false := by rfl) : SG X H0 M Γ (.Expr e pos :: rest) D := fun g σ H D' r im =>
  wS.of' (ps_expr pe_w hs) (he g σ H _ r fun v H' s p => hr g σ H' D' (r.same s) (im.go (Same.gw s)))
/-- return a list of one's own -/
theorem g_retO (i : Nat) {x : Str} {px : Pos} {ds : List PyData} (h : Γ.getD i .no = .ls ds) (k : ∀ H p vs, But M H0 H → H0 p = none → H p = some (.lst vs) → ImAll X.K H vs ds → D.rt (.ref p) H)
    (hN : X.N[i]? = some x := by rfl) (hv : Vis X.env.scope x := by first | exact Or.inl rfl | exact Or.inr (Or.inl rfl) | exact Or.inr (Or.inr rfl)) (hd : (x == ("__debug__" : Str)) = false := by decide)
    (hcd : (x == ("__classdict__" : Str)) = false := by decide) : SG X H0 M Γ (.Return (some (.Name x px)) pos :: rest) D := fun g σ H D' r im => by
  obtain ⟨p, vs, e, m, q, n⟩ := r.ls h
  exact wS.of' (ps_ret (pe_var hN hv hd hcd)) ⟨_, e, im.rt _ _ ⟨Gw.refl H, r.kept⟩ (k H p vs r.but n m q)⟩
/-- return data, a new list -/
theorem g_retI {d : PyData} (he : EI X H0 M Γ e d) (k : ∀ v H', But M H0 H' → Im X.K H' v d → D.rt v H') : SG X H0 M Γ (.Return (some e) pos :: rest) D := g_ret he fun g σ H v H' r s m => k v H' (r.but.same s) m
theorem g_retL {ds : List PyData} (hM : MOk X H0 M Γ) (he : EL X H0 M Γ e ds) (k : ∀ p vs H', But M H0 H' → H0 p = none → H' p = some (.lst vs) → ImAll X.K H' vs ds → D.rt (.ref p) H') : SG X H0 M Γ (.Return (some e) pos :: rest) D :=
  g_ret he fun g σ H v H' r s ⟨p, vs, ev, n, q, m⟩ => by subst ev; exact k p vs H' (r.but.same s) (r.fresh (hM g σ H r) n) q m
theorem g_retXI {A : PyData → Prop} (he : EX X H0 M Γ e Γ1 (xI X.K A)) (k : ∀ g σ v H' d, R X.K H0 M g Γ1 σ H' → A d → Im X.K H' v d → D.rt v H') : SG X H0 M Γ (.Return (some e) pos :: rest) D := g_retX he fun g σ v H' r ⟨d, p, m⟩ => k g σ v H' d r p m
end
/-! ### defs -/
section
variable {P : Program} {w : World} {K : PySem.W.Frag} {mg : Str → Option Value} {base : Heap} {x qual : Str} {st : Stmt} {f : Addr} {fd : FuncData} {N ps : List Str} {k : Nat} {sp : Sp}
/-- the context of a body that lets nothing out -/
abbrev CxN (P : Program) (w : World) (K : PySem.W.Frag) (mg : Str → Option Value) (base : Heap) (N : List Str) (qual : Str) (st : Stmt) (f : Addr) (cdv : Value) (A : Around) (outer : List Env) (s : Shared) (H : Hp) (E : XK) : Cx :=
  (cxOf CX0 P w K mg base N qual (defScope st) f cdv A outer s H E).nox
theorem mk_fn (F : Fun K x qual st f fd) (S : FnScope N ps (defScope st)) (len : ∀ vs H Q E, sp vs H Q E → vs.length = ps.length)
    (body : ∀ cdv A outer s H vs Q E, Room k (A.deeper (envOfC qual (defScope st) s.heap.objs.size f cdv)) → sp vs H Q E →
      ∃ M Γ, R K H M [] Γ (L2.start N vs) H ∧ SG (CxN P w K mg base N qual st f cdv A outer s H E) H M Γ (defBody st) { rt := Q, nx := fun _ _ H' => Q .non H' }) : FnOk P w K mg base CX0 (k + 1) f fd ps sp :=
  F.ok S len fun cdv A outer s H vs Q E hr h => ⟨wSs _ _, pss_w, by
    obtain ⟨M, Γ, r, sg⟩ := body cdv A outer s H vs Q E hr h
    exact sg [] _ H _ r ⟨fun _ _ _ q => q, fun _ _ _ q => q, fun _ _ _ q => q, fun _ _ _ q => q⟩⟩
theorem mk_has {n : Nat} (F : Fun K x qual st f fd) (G : FnOk P w K mg base CX0 n f fd ps sp) (hm : mg x = some (.ref f)) (b : L2.Binds K fd ps []) : Has P w K mg base CX0 n x ps sp := ⟨f, fd, G, hm, F.kp, b⟩
end
end G

/-! G: errors. -/
namespace G
open PySem PySem.Spec PyProof.Rows L2

/-- the ends of a suite behind «except x as n»: slot i is empty -/
def Ends.gone (D : Ends) (i : Nat) : Ends where
  nx σ H := D.nx (σ.set i none) H
  rt := D.rt
  bk σ H := D.bk (σ.set i none) H
  ct σ H := D.ct (σ.set i none) H
section
variable {X : Cx} {x n : Str} {c : Value} {i : Nat} {body suite orelse : List Stmt} {b₀ : Stmt} {np pos pos' : Pos} {tb : WX → TS} {ts : Addr → Value → Option Addr → TS} {Wout : WX} {u : TS}
/-- what an error that the clause takes comes to -/
theorem caught_as (hs : X.stack = X.env :: X.outer) (hf : X.env.frame = some X.env.locals) (hN : X.N.Nodup) (hi : X.N[i]? = some n) (hln : X.env.kindOf n = some .local) (hc : Names X x c)
    (hsu : ∀ (a : Addr) (oe : Obj) (cls : Value) (d : Option Addr) (pn : List (Addr × Obj)), Zc cls d oe → (∃ vs, oe.data = .fields vs) → PSs (X.suite a ((a, oe) :: pn)) (b₀ :: suite) (ts a cls d))
    {pins : List (Addr × Obj)} {D : Ends} {xe : Value → Shared → Prop} {cls : Value} {d : Option Addr} {a : Addr} {B : Heap} {sI s' : Shared} {pins' : List (Addr × Obj)} {σ' : St} {H' : Hp} (J' : Inv (X.tr (X.pn ++ pins) xe) pins' σ' H' sI) (ok : X.Ok)
    (nb : ∀ b o, sI.heap.get? b = some o → b ∉ frs X.stack → B.get? b = some o) (up : sI.heap.UpToSlots s'.heap) (sky : Sky B X.stack a (Zc cls d) X.env.locals s'.heap) (na : H' a = none) (os : s'.os = sI.os) (ag : AllBare s'.gens)
    (hex : PySem.W.exmOne X.K cls c = some true) (hyes : ts a cls d (Ends.gone D i) (σ'.set i (some (.ref a))) H') :
    wpAny (model X.prog X.w) X.A (noteFrame (.ref a) X.env) (fun _ s₂ => wpAny (model X.prog X.w) X.A (setFlight (.ref a) none) (fun _ s₃ =>
      wpAny (model X.prog X.w) X.A (handleBy (.ref a) X.env [.ExceptHandler (some (.Name x np)) (some n) (b₀ :: suite) pos']) (SP X pins D) X.xe s₃) X.xe s₂) X.xe s' := by
  have fr : X.A.frames = some (X.env :: X.outer) := hs ▸ ok.frames
  have home := Inv.ofTry J' ok
  refine Sky.land Zc.steady fr hf (hs ▸ sky) fun hA flA upA => ?_
  obtain ⟨oA, vA, eA, zA, dA⟩ := flA.there
  have off : a ∉ frs (X.env :: X.outer) := fun m => by
    obtain ⟨_, o, e, no⟩ := flA.2.2.1.mem m
    exact no _ (Option.some.inj (eA.symm.trans e) ▸ dA)
  have offL : a ≠ X.env.locals := fun z => off (List.mem_filterMap.mpr ⟨X.env, List.mem_cons_self, z ▸ hf⟩)
  have offF : a ∉ X.fs := fun m => by
    obtain ⟨e, he, q⟩ := List.mem_filterMap.mp m
    exact off (List.mem_filterMap.mpr ⟨e, List.mem_cons_of_mem _ he, q⟩)
  have JA := home.landed (s' := { s' with heap := hA }) nb flA.1 (up.trans upA) os ag
  have SA := JA.suite eA dA na offL offF
  refine wpAny_handleBy_cons (codeAny_handlers_test ?_) (fun q => nomatch q)
  have typ : PySem.W.Looks (model X.prog X.w) hA (typeOf (.ref a)) cls := fun _ _ _ s k q => wpAny_typeOf_ref (k _ _ eA) (by rw [zA.1]; exact q)
  have look := PySem.W.exm_one (M := model X.prog X.w) JA.kIn typ hex
  have named : ∀ {Q E : Value → Shared → Prop}, Q c { s' with heap := hA } → wpAny (model X.prog X.w) (X.A.mark (some (.ref a))) (eval (.Name x np) X.env) Q E { s' with heap := hA } := fun q => by
    rcases hc with ⟨g1, g2, m | ⟨m, v, ne⟩⟩
    · exact ld_glob (X := X.suite a _) SA g1 m q g2
    · exact ld_blt (X := X.suite a _) SA g1 m v q ne g2
  refine named (look.here ?_)
  refine codeAny_handlers_suite_as (HandSPX.lands_againZ flA fun hB flB upB => ?_)
  obtain ⟨oB, vB, eB, zB, dB⟩ := flB.there
  have SB := (home.landed (s' := { s' with heap := hB }) nb flB.1 ((up.trans upA).trans upB) os ag).suite eB dB na offL offF
  refine store_ok (X := X.suite a ((a, oB) :: (X.pn ++ pins))) (v := .ref a) SB hN hi (.inl hln) rfl (fun sC SC => ?_) (.inr hln)
  refine wpAny_mono ((hsu a oB cls d (X.pn ++ pins) zB ⟨vB, dB⟩).run [] sC _ H' _ SC hyes) (fun f sD q => ?_) (fun _ _ z => z.elim)
  have out : ∀ {σD : St} {HD : Hp} {Q : Shared → Prop}, Inv (X.suite a ((a, oB) :: (X.pn ++ pins))) [] σD HD sD → (∀ sE, Inv X pins (σD.set i none) HD sE → Q sE) →
      wpAny (model X.prog X.w) X.A (do bindName X.env n .none; unbindBehindTheSuite X.env n pos') (fun _ sE => Q sE) X.xe sD := fun S q => gone_ok (S.unsuite ok) hN hi hln q
  cases f with
  | ret w =>
    obtain ⟨v, σD, HD, S, r, q⟩ := q
    exact out S fun _ J => ⟨_, _, _, J, r, q⟩
  | next => obtain ⟨σD, HD, S, q⟩ := q; exact out S fun _ J => ⟨_, _, J, q⟩
  | brk => obtain ⟨σD, HD, S, q⟩ := q; exact out S fun _ J => ⟨_, _, J, q⟩
  | cont => obtain ⟨σD, HD, S, q⟩ := q; exact out S fun _ J => ⟨_, _, J, q⟩
/-- try: body / except x as n: suite / else: orelse; every error that the body lets out is the clause's -/
theorem ps_try_asE (ho : PSs X orelse u) (hs : X.stack = X.env :: X.outer) (hf : X.env.frame = some X.env.locals) (hN : X.N.Nodup) (hi : X.N[i]? = some n) (hln : X.env.kindOf n = some .local) (hc : Names X x c)
    (hb : ∀ (W : WX) (pn : List (Addr × Obj)) (xe : Value → Shared → Prop), Takes (X.tr pn xe) W → PassesOwn (model X.prog X.w) X.A X.env xe → PSs (X.tr pn xe) body (tb W))
    (hsu : ∀ (a : Addr) (oe : Obj) (cls : Value) (d : Option Addr) (pn : List (Addr × Obj)), Zc cls d oe → (∃ vs, oe.data = .fields vs) → PSs (X.suite a ((a, oe) :: pn)) (b₀ :: suite) (ts a cls d)) :
    PS X (.Try body [.ExceptHandler (some (.Name x np)) (some n) (b₀ :: suite) pos'] orelse [] pos) (fun D σ H =>
      tb (fun cls d σ H => PySem.W.exmOne X.K cls c = some true ∧ ∀ a, H a = none → ts a cls d (Ends.gone D i) (σ.set i (some (.ref a))) H) { D with nx := u D } σ H) := by
  refine ⟨fun pins s σ H D I h => wpAny_Try_except ?_⟩
  refine wpAny_mono ((hb _ (X.pn ++ pins) _ (fun e s' q => ?_) PassesOwn.looking).run [] s σ H _ (I.toTry _) h) (fun f s' q => ?_) (fun _ _ q => q)
  · obtain ⟨a, B, sI, pins', σ', H', cls, d, rfl, J', nb, up, sky, na, os, ag, w1, w2⟩ := q
    exact caught_as hs hf hN hi hln hc hsu J' I.ok nb up sky na os ag w1 (w2 a na)
  · cases f with
    | next =>
      obtain ⟨σ', H', J, q⟩ := q
      exact ho.run pins s' σ' H' D (J.ofTry I.ok) q
    | ret w =>
      obtain ⟨v, σ', H', J, r, q⟩ := q
      exact ⟨v, σ', H', J.ofTry I.ok, r, q⟩
    | brk => obtain ⟨σ', H', J, q⟩ := q; exact ⟨σ', H', J.ofTry I.ok, q⟩
    | cont => obtain ⟨σ', H', J, q⟩ := q; exact ⟨σ', H', J.ofTry I.ok, q⟩
end
end G

/-! G: errors over slots. -/
namespace G
open PySem PySem.Spec PyProof.Rows L2

abbrev veMro : List Value := [.type "ValueError", .type "Exception", .type "BaseException", .type "object"]
/-- an error class of one's own under ValueError, without an __init__ -/
structure ExcF (K : PySem.W.Frag) (mg : Str → Option Value) (x : Str) (C : Addr) : Prop where
  q : PySem.W.excIn K C veMro "ValueError.__new__" = true
  g : mg x = some (.ref C)
  k : PySem.W.keepIn K (.ref C) = true
  b : PySem.W.subIn K (.ref C) (.type "BaseException") = some true
  t : PySem.W.typeIn K (.ref C) = some (.type "type")
  i : PySem.W.hasDictIn K C = true
/-- an error class caught by name, and what it says of the class D -/
theorem ExcF.caught {K : PySem.W.Frag} {mg : Str → Option Value} {x : Str} {C D : Addr} {r : Bool} (F : ExcF K mg x C) (s : PySem.W.subIn K (.ref D) (.ref C) = some r) : PySem.W.exmOne K (.ref D) (.ref C) = some r := PySem.W.exm_ref F.b F.i F.t s
theorem ExcF.caught' {K : PySem.W.Frag} {mg : Str → Option Value} {x : Str} {C : Addr} {cls : Value} {r : Bool} (F : ExcF K mg x C) (s : PySem.W.subIn K cls (.ref C) = some r) : PySem.W.exmOne K cls (.ref C) = some r := PySem.W.exm_ref F.b F.i F.t s
section
variable {X : Cx} {H0 : Hp} {M : List Addr} {Γ Γ1 Γ2 : SC} {e a b c : Expr} {es : List Expr} {pos p0 : Pos} {rest body orelse suite : List Stmt} {b₀ : Stmt} {D : DD} {P : EK} {W : WX}
/-- raise X('..') -/
theorem g_raise {x m : Str} {C : Addr} {j : Nat} {p p2 pos' : Pos} (F : ExcF X.K X.mg x C) (hc : X.calm = true) (tk : Takes X W) (h : ∀ g σ H, R X.K H0 M g Γ σ H → W (.ref C) none σ H) (hg : Gl X x := by rfl) (hdb : (x == ("__debug__" : Str)) = false := by decide) :
    SG X H0 M Γ (.Raise (some (.Call (.Name x p) [.Constant (.str m) j p2] [] pos')) none pos :: rest) D := fun g σ H D' r im =>
  wS.of' (ps_raise hc tk (pmk_own PySem.F.excBase_ValueError F.q F.g F.k (raises_own F.b F.t) hg hdb)) (h g σ H r)
/-- a call that may raise -/
theorem w_callS {x : Str} {ps : List Str} {sp : Sp} {n k : Nat} {g : Gs} {σ : St} {H : Hp} {Q : VK} {Pa : AK} (r : R X.K H0 M g Γ σ H) (tk : Takes X W) (h : HasX X (L2.CX X.prog X.w) n x ps sp) (hr : Room k X.A) (hk : n ≤ k) (ha : AA X H0 M Γ (e :: es) Pa)
    (hsp : ∀ H1 vs, Same H H1 → Pa H vs H1 → sp vs H1 Q (fun cls d H' => W cls d σ H'))
    (hg : Gl X x := by rfl) (hdb : (x == ("__debug__" : Str)) = false := by decide) (he : starEach (e :: es) X.env = (false, eval e X.env) :: starEach es X.env := by exact star1 rfl) (hpl : (backTo pos (starEach es X.env)).any (·.1) = false := by rfl) : wE X (.Call (.Name x p0) (e :: es) [] pos) σ H Q := by
  obtain ⟨f, fd, F, hm, hk', hb⟩ := h.ex
  refine wE.of (pe_callS (E := WE W) F (hr.mono hk) hg hm hk' hb (fun σ => passAt tk σ) pa_w hdb he hpl) (ha g σ H _ r fun vs H1 s1 p1 => hsp H1 vs s1 p1)
theorem e_callS {x : Str} {ps : List Str} {sp : Sp} {n k : Nat} {Pa : AK} (tk : Takes X W) (h : HasX X (L2.CX X.prog X.w) n x ps sp) (hr : Room k X.A) (hk : n ≤ k) (ha : AA X H0 M Γ (e :: es) Pa)
    (hsp : ∀ g σ H H1 vs (Q : VK), R X.K H0 M g Γ σ H → Same H H1 → Pa H vs H1 → (∀ v H', Same H1 H' → P H v H' → Q v H') → sp vs H1 Q (fun cls d H' => W cls d σ H'))
    (hg : Gl X x := by rfl) (hdb : (x == ("__debug__" : Str)) = false := by decide) (he : starEach (e :: es) X.env = (false, eval e X.env) :: starEach es X.env := by exact star1 rfl) (hpl : (backTo pos (starEach es X.env)).any (·.1) = false := by rfl) : EE X H0 M Γ (.Call (.Name x p0) (e :: es) [] pos) P := fun g σ H Q r k =>
  w_callS r tk h hr hk ha (fun H1 vs s1 p1 => hsp g σ H H1 vs Q r s1 p1 fun v H' s2 p2 => k v H' (s1.trans s2) p2) hg hdb he hpl
/-- behind a suite «except .. as n» -/
abbrev goneD (X : Cx) (rest : List Stmt) (D : DD) (i : Nat) : DD := { rt := D.rt, nx := fun g σ H => ∀ D', Imp (Far g H) (D.at g) D' → wSs X rest D' (σ.set i none) H }
theorem g_gone {Y : Cx} {i : Nat} (hK : Y.K = X.K) (h : SG X H0 M (Γ.set i .no) rest D) : SG Y H0 M Γ [] (goneD X rest D i) := g_nil fun g σ H r D' im => h g _ H D' (by
  rw [hK] at r
  exact r.wipe [i]) im
/-- try: f(..) / except x as n: suite / else: orelse -/
theorem g_tryE (i : Nat) {x n f : Str} {ps : List Str} {sp : Sp} {C : Addr} {np pos' pe pf : Pos} {k m : Nat} {Pa : AK} (XP : Value → Option Addr → Prop) (hs : X.stack = X.env :: X.outer) (hf : X.env.frame = some X.env.locals) (hN : X.N.Nodup) (hl : Γ.length = X.N.length) (F : ExcF X.K X.mg x C)
    (hx : ∀ cls d, XP cls d → PySem.W.subIn X.K cls (.ref C) = some true)
    (h : HasX X (L2.CX X.prog X.w) m f ps sp) (hr : Room k X.A) (hk : m ≤ k) (ha : ∀ pn xe, AA (X.tr pn xe) H0 M Γ (e :: es) Pa)
    (hsp : ∀ g σ H H1 vs (Q : VK) (E : XK), R X.K H0 M g Γ σ H → Same H H1 → Pa H vs H1 → (∀ v H', Same H1 H' → P H v H' → Q v H') → (∀ cls d H', XP cls d → Same H1 H' → E cls d H') → sp vs H1 Q E)
    (ho : (∃ H v H', P H v H') → SG X H0 M Γ orelse { D with nx := fun g σ H => ∀ D', Imp (Far g H) (D.at g) D' → wSs X rest D' σ H })
    (hsu : ∀ (u : Addr) (oe : Obj) (cls : Value) (d : Option Addr) (pn : List (Addr × Obj)), XP cls d → Zc cls d oe → (∃ vs, oe.data = .fields vs) → SG (X.suite u ((u, oe) :: pn)) H0 M (Γ.set i (.va (.ref u))) (b₀ :: suite) (goneD X rest D i))
    (hi : X.N[i]? = some n := by rfl) (hln : X.env.kindOf n = some .local := by rfl) (hgx : Gl X x := by rfl) (hdx : (x == ("__debug__" : Str)) = false := by decide)
    (hg : Gl X f := by rfl) (hdb : (f == ("__debug__" : Str)) = false := by decide) (he : starEach (e :: es) X.env = (false, eval e X.env) :: starEach es X.env := by exact star1 rfl) (hpl : (backTo pos (starEach es X.env)).any (·.1) = false := by rfl)
    (hsw : swapsWith (.Call (.Name f pf) (e :: es) [] pos) none pe.line X.env = pure false := by rfl) :
    SG X H0 M Γ (.Try [.Expr (.Call (.Name f pf) (e :: es) [] pos) pe] [.ExceptHandler (some (.Name x np)) (some n) (b₀ :: suite) pos'] orelse [] p0 :: rest) D := fun g σ H D' r im => by
  refine wS.of' (ps_try_asE (tb := fun W => tDrop (tCallS sp (WE W) (fun σ H Q => ∀ pn xe, wA (X.tr pn xe) (e :: es) σ H Q))) (ts := fun u cls d D σ H => ∀ oe pn, Zc cls d oe → (∃ vs, oe.data = .fields vs) → wSs (X.suite u ((u, oe) :: pn)) (b₀ :: suite) D σ H) pss_w hs hf hN hi hln ⟨hgx, hdx, .inl F.g⟩ (fun W pn xe tk hp => ?_)
    (fun u oe cls d pn z q => ⟨fun pins s σ H D I w => (w oe pn z q).go pins s I⟩)) ?_
  · obtain ⟨fa, fd, G, hm, hk', hb⟩ := h.ex
    exact pss_one (ps_expr (pe_callS (X := X.tr pn xe) G (hr.mono hk) hg hm hk' hb (fun σ => passAt tk σ) ⟨fun pos pins s σ H Q I w => (w pn xe).go pos pins s I⟩ hdb he hpl) hsw)
  · intro pn xe
    refine ha pn xe g σ H _ r fun vs H1 s1 p1 => ?_
    refine hsp g σ H H1 vs _ _ r s1 p1 (fun v H' s2 p2 => ?_) (fun cls d H' xp s2 => ?_)
    · have s3 := s1.trans s2
      have im3 := im.go (Same.gw s3)
      exact ho ⟨_, _, _, p2⟩ g σ H' _ (r.same s3) ⟨fun σ4 H4 f4 q4 => q4 D' (im3.go f4.1), im3.rt, im3.bk, im3.ct⟩
    · have s3 := s1.trans s2
      have im3 := im.go (Same.gw s3)
      refine ⟨F.caught' (hx cls d xp), fun u hu oe pn z q => ?_⟩
      exact hsu u oe cls d pn xp z q g _ H' _ ((r.same s3).setVa (i := i) (v := .ref u) (Same.refl _) (by rw [hl]; exact (List.getElem?_eq_some_iff.mp hi).1))
        ⟨fun σ4 H4 f4 q4 => q4 D' (im3.go f4.1), im3.rt, fun _ _ _ q => q.elim, fun _ _ _ q => q.elim⟩
/-- isinstance(the caught error, X) -/
theorem i_isE {Y : Cx} {u C D : Addr} {i : Nat} {x n : Str} {px : Pos} {oe : Obj} {pn : List (Addr × Obj)} {k : Bool} (hY : Y = X.suite u ((u, oe) :: pn)) (E : ExcC X.K C) (hz : Zc (.ref C) none oe) (hf : ∃ vs, oe.data = .fields vs) (hm : Y.mg "isinstance" = none) (hx : Y.mg x = some (.ref D)) (hk : PySem.W.kitOne X.K (.ref C) (.ref D) = some k) (hv : Γ.getD i .no = .va (.ref u))
    (hN : Y.N[i]? = some n := by rfl) (hvi : Vis Y.env.scope n := by first | exact Or.inl rfl | exact Or.inr (Or.inl rfl) | exact Or.inr (Or.inr rfl)) (hd : (n == ("__debug__" : Str)) = false := by decide) (hcd : (n == ("__classdict__" : Str)) = false := by decide)
    (hg : Gl Y "isinstance" := by rfl) (hgx : Gl Y x := by rfl) (hdx : (x == ("__debug__" : Str)) = false := by decide)
    (h1 : starEach [.Name n px, .Name x p0] Y.env = (false, eval (.Name n px) Y.env) :: starEach [.Name x p0] Y.env := by rfl) (h2 : starEach [.Name x p0] Y.env = (false, eval (.Name x p0) Y.env) :: starEach [] Y.env := by rfl) (hpl : (backTo pos (starEach [.Name x p0] Y.env)).any (·.1) = false := by rfl) {p1 : Pos} :
    EI Y H0 M Γ (.Call (.Name "isinstance" p1) [.Name n px, .Name x p0] [] pos) (.bool k) := fun g σ H Q R q => by
  subst hY
  refine wE.of (pe_callB (call_isE E hz hf) hg hm (by decide +kernel) (pa_cons (pe_var hN hvi hd hcd) (pa_cons (pe_glob (v := .ref D) hgx hx rfl hdx) pa_nil h2) h1) (by decide) (by decide) h1 hpl) ⟨_, R.va hv, ?_⟩
  exact ⟨.ref D, .ref D, k, rfl, fun u r => r, hk, q _ H (Same.refl H) (.bl k)⟩
/-! ### defs that may raise -/
variable {Pr : Program} {w : World} {K : PySem.W.Frag} {mg : Str → Option Value} {base : Heap} {x qual : Str} {st : Stmt} {f : Addr} {fd : FuncData} {N ps : List Str} {k : Nat} {sp : Sp}
abbrev CxX (P : Program) (w : World) (K : PySem.W.Frag) (mg : Str → Option Value) (base : Heap) (N : List Str) (qual : Str) (st : Stmt) (f : Addr) (cdv : Value) (A : Around) (outer : List Env) (s : Shared) (H : Hp) (E : XK) : Cx :=
  cxOf (L2.CX P w) P w K mg base N qual (defScope st) f cdv A outer s H E
theorem mk_fnX (F : Fun K x qual st f fd) (S : FnScope N ps (defScope st)) (len : ∀ vs H Q E, sp vs H Q E → vs.length = ps.length)
    (body : ∀ cdv A outer s H vs Q E, Room k (A.deeper (envOfC qual (defScope st) s.heap.objs.size f cdv)) → sp vs H Q E →
      ∃ M Γ, R K H M [] Γ (L2.start N vs) H ∧ SG (CxX Pr w K mg base N qual st f cdv A outer s H E) H M Γ (defBody st) { rt := Q, nx := fun _ _ H' => Q .non H' }) : FnOk Pr w K mg base (L2.CX Pr w) (k + 1) f fd ps sp :=
  F.okX S len fun cdv A outer s H vs Q E hr h => ⟨wSs _ _, pss_w, by
    obtain ⟨M, Γ, r, sg⟩ := body cdv A outer s H vs Q E hr h
    exact sg [] _ H _ r ⟨fun _ _ _ q => q, fun _ _ _ q => q, fun _ _ _ q => q, fun _ _ _ q => q⟩⟩
end
end G

/-! P: a program as plain functions; what does not change is a value, what a def alone holds stands in its slot, the rest are numbered objects. -/
namespace P
open PySem PySem.Spec PyProof.Rows L2 G
abbrev St := L2.St
structure Bs where
  K : PySem.W.Frag
  mg : Str → Option Value
abbrev bs (X : Cx) : Bs := ⟨X.K, X.mg⟩

/-! ### values -/
inductive FV where
  | non | bl (b : Bool) | int (i : Int) | str (x : Str) | tup (xs : List FV) | fl (xs : List FV) | sl (xs : List FV) | fd (ks : List Key) (vs : List FV) | ft (ks : List (List Key)) (vs : List FV) | fo (c : Str) (ks : List Str) (vs : List FV) | ref (n : Nat)
/-- objects that can change, by number -/
inductive FO where
  | lst (xs : List FV) | dK (kvs : List (Key × FV)) | dT (kvs : List (List Key × FV)) | ins (c : Str) (fs : List (Str × FV)) | lk (kvs : List (Key × FV))
abbrev FH := List FO

/-- a list that never changes -/
def FzL (K : PySem.W.Frag) (H : Hp) (a : Addr) (xs : List V) : Prop :=
  (∃ o, H a = some (.frz o (.lst xs))) ∨
    ∃ (o : Obj) (its : Array Value) (n : Nat), K.lookup a = some o ∧ o.cls = .type "list" ∧ o.dict = none ∧ o.data = .seq its n ∧ its.size ≤ sizeLine ∧ Vals xs its.toList
theorem FzL.sqL {K : PySem.W.Frag} {H : Hp} {a : Addr} {xs : List V} (h : FzL K H a xs) : SqL K H a xs := by
  rcases h with ⟨o, h⟩ | h
  · exact .inl (.inr ⟨o, h⟩)
  · exact .inr h
theorem FzL.gw {K : PySem.W.Frag} {H H' : Hp} {a : Addr} {xs : List V} (e : Gw H H') (h : FzL K H a xs) : FzL K H' a xs := by
  rcases h with ⟨o, h⟩ | h
  · exact .inl ⟨o, e.2 _ _ _ h⟩
  · exact .inr h
/-- a dict, an instance that never changes -/
def Fz (H : Hp) (a : Addr) (u : HO) : Prop := ∃ o, H a = some (.frz o u)
theorem Fz.gw {H H' : Hp} {a : Addr} {u : HO} (e : Gw H H') (h : Fz H a u) : Fz H' a u := h.imp fun _ h => e.2 _ _ _ h
theorem Fz.rd {H : Hp} {a : Addr} {u : HO} (h : Fz H a u) : Rd H a u := .inr h

/-! a value of the run is as the value told; objects stand where μ says, below n -/
mutual
inductive VR (B : Bs) (H : Hp) (μ : Nat → Addr) (n : Nat) : FV → V → Prop
  | non : VR B H μ n .non .non
  | bl (b : Bool) : VR B H μ n (.bl b) (.bl b)
  | int (i : Int) : VR B H μ n (.int i) (.int i)
  | str (x : Str) : VR B H μ n (.str x) (.str x)
  | tup {a : Addr} {xs : List V} {ds : List FV} : SqT B.K H a xs → VRs B H μ n ds xs → VR B H μ n (.tup ds) (.ref a)
  | fl {a : Addr} {xs : List V} {ds : List FV} : Fz H a (.lst xs) → VRs B H μ n ds xs → VR B H μ n (.fl ds) (.ref a)
  | sl {a : Addr} {xs : List V} {ds : List FV} : FzL B.K H a xs → VRs B H μ n ds xs → VR B H μ n (.sl ds) (.ref a)
  | fd {a : Addr} {ks : List Key} {xs : List V} {ds : List FV} : Fz H a (.dK (ks.zip xs)) → VRs B H μ n ds xs → VR B H μ n (.fd ks ds) (.ref a)
  | ft {a : Addr} {ks : List (List Key)} {xs : List V} {ds : List FV} : Fz H a (.dT (ks.zip xs)) → VRs B H μ n ds xs → VR B H μ n (.ft ks ds) (.ref a)
  | fo {a C dx : Addr} {c : Str} {ks : List Str} {xs : List V} {ds : List FV} : B.mg c = some (.ref C) → Fz H a (.ins C dx (ks.zip xs)) → VRs B H μ n ds xs → VR B H μ n (.fo c ks ds) (.ref a)
  | ref {i : Nat} : i < n → VR B H μ n (.ref i) (.ref (μ i))
inductive VRs (B : Bs) (H : Hp) (μ : Nat → Addr) (n : Nat) : List FV → List V → Prop
  | nil : VRs B H μ n [] []
  | cons {d : FV} {ds : List FV} {v : V} {vs : List V} : VR B H μ n d v → VRs B H μ n ds vs → VRs B H μ n (d :: ds) (v :: vs)
end
section
variable {B : Bs} {H H' : Hp} {μ μ' : Nat → Addr} {n n' m : Nat}
mutual
theorem VR.mono (g : Gw H H') (e : ∀ i, i < n → μ' i = μ i) (l : n ≤ n') : ∀ (d : FV) (v : V), VR B H μ n d v → VR B H' μ' n' d v
  | .non, _, h => by cases h; exact .non
  | .bl b, _, h => by cases h; exact .bl b
  | .int i, _, h => by cases h; exact .int i
  | .str x, _, h => by cases h; exact .str x
  | .tup ds, _, h => by
    cases h with
    | tup a b => exact .tup (g.sqt a) (VRs.mono g e l ds _ b)
  | .fl ds, _, h => by
    cases h with
    | fl a b => exact .fl (a.gw g) (VRs.mono g e l ds _ b)
  | .sl ds, _, h => by
    cases h with
    | sl a b => exact .sl (a.gw g) (VRs.mono g e l ds _ b)
  | .fd ks ds, _, h => by
    cases h with
    | fd a b => exact .fd (a.gw g) (VRs.mono g e l ds _ b)
  | .ft ks ds, _, h => by
    cases h with
    | ft a b => exact .ft (a.gw g) (VRs.mono g e l ds _ b)
  | .fo c ks ds, _, h => by
    cases h with
    | fo z a b => exact .fo z (a.gw g) (VRs.mono g e l ds _ b)
  | .ref i, _, h => by
    cases h with
    | ref a => rw [← e i a]; exact .ref (Nat.lt_of_lt_of_le a l)
theorem VRs.mono (g : Gw H H') (e : ∀ i, i < n → μ' i = μ i) (l : n ≤ n') : ∀ (ds : List FV) (vs : List V), VRs B H μ n ds vs → VRs B H' μ' n' ds vs
  | [], _, h => by cases h; exact .nil
  | d :: ds, _, h => by
    cases h with
    | cons a b => exact .cons (VR.mono g e l d _ a) (VRs.mono g e l ds _ b)
end
theorem VRs.len : ∀ {ds : List FV} {vs : List V}, VRs B H μ n ds vs → vs.length = ds.length
  | [], _, h => by cases h; rfl
  | d :: ds, _, h => by
    cases h with
    | cons a b => show _ + 1 = _ + 1; rw [VRs.len b]
theorem VRs.get : ∀ {ds : List FV} {vs : List V} {i : Nat} {d : FV}, VRs B H μ n ds vs → ds[i]? = some d → ∃ v, vs[i]? = some v ∧ VR B H μ n d v
  | [], _, i, d, h, e => by simp at e
  | d :: ds, _, 0, d', h, e => by
    cases h with
    | cons a b =>
      have e' : d = d' := Option.some.inj e
      subst e'
      exact ⟨_, rfl, a⟩
  | d :: ds, _, i + 1, d', h, e => by
    cases h with
    | cons a b => exact VRs.get (i := i) b (by simpa using e)
theorem VRs.get' : ∀ {ds : List FV} {vs : List V} {i : Nat} {v : V}, VRs B H μ n ds vs → vs[i]? = some v → ∃ d, ds[i]? = some d ∧ VR B H μ n d v
  | [], _, i, d, h, e => by cases h; simp at e
  | d :: ds, _, 0, d', h, e => by
    cases h with
    | cons a b =>
      have e' := Option.some.inj e
      subst e'
      exact ⟨_, rfl, a⟩
  | d :: ds, _, i + 1, d', h, e => by
    cases h with
    | cons a b => exact VRs.get' (i := i) b (by simpa using e)
theorem VRs.append : ∀ {ds es : List FV} {vs us : List V}, VRs B H μ n ds vs → VRs B H μ n es us → VRs B H μ n (ds ++ es) (vs ++ us)
  | [], _, _, _, h, g => by cases h; exact g
  | d :: ds, _, _, _, h, g => by
    cases h with
    | cons a b => exact .cons a (VRs.append b g)
theorem VRs.drop : ∀ {ds : List FV} {vs : List V} (k : Nat), VRs B H μ n ds vs → VRs B H μ n (ds.drop k) (vs.drop k)
  | _, _, 0, h => h
  | [], _, k + 1, h => by cases h; exact .nil
  | d :: ds, _, k + 1, h => by
    cases h with
    | cons a b => exact VRs.drop k b
theorem VRs.take : ∀ {ds : List FV} {vs : List V} (k : Nat), VRs B H μ n ds vs → VRs B H μ n (ds.take k) (vs.take k)
  | _, _, 0, h => .nil
  | [], _, k + 1, h => by cases h; exact .nil
  | d :: ds, _, k + 1, h => by
    cases h with
    | cons a b => exact .cons a (VRs.take k b)
theorem VRs.set : ∀ {ds : List FV} {vs : List V} {v : V} {d : FV} (k : Nat), VR B H μ n d v → VRs B H μ n ds vs → VRs B H μ n (ds.set k d) (vs.set k v)
  | [], _, _, _, k, a, h => by cases h; exact .nil
  | e :: ds, _, _, _, 0, a, h => by
    cases h with
    | cons _ b => exact .cons a b
  | e :: ds, _, _, _, k + 1, a, h => by
    cases h with
    | cons c b => exact .cons c (VRs.set k a b)
theorem VRs.rev : ∀ {ds : List FV} {vs : List V}, VRs B H μ n ds vs → VRs B H μ n ds.reverse vs.reverse
  | [], _, h => by cases h; exact .nil
  | d :: ds, _, h => by
    cases h with
    | cons a b => rw [List.reverse_cons, List.reverse_cons]; exact (VRs.rev b).append (.cons a .nil)
theorem VRs.erase : ∀ {ds : List FV} {vs : List V} (k : Nat), VRs B H μ n ds vs → VRs B H μ n (ds.eraseIdx k) (vs.eraseIdx k)
  | [], _, k, h => by cases h; exact .nil
  | d :: ds, _, 0, h => by
    cases h with
    | cons a b => exact b
  | d :: ds, _, k + 1, h => by
    cases h with
    | cons a b => exact .cons a (VRs.erase k b)
end

/-! no object at n or above is named -/
mutual
def FV.low (n : Nat) : FV → Prop
  | .ref i => i < n
  | .tup xs => FV.lows n xs
  | .fl xs => FV.lows n xs
  | .sl xs => FV.lows n xs
  | .fd _ xs => FV.lows n xs
  | .ft _ xs => FV.lows n xs
  | .fo _ _ xs => FV.lows n xs
  | _ => True
def FV.lows (n : Nat) : List FV → Prop
  | [] => True
  | x :: xs => x.low n ∧ FV.lows n xs
end
section
variable {B : Bs} {H : Hp} {μ μ' : Nat → Addr} {n m : Nat}
mutual
theorem VR.low : ∀ {d : FV} {v : V}, d.low m → VR B H μ n d v → VR B H μ m d v
  | .non, _, l, h => by cases h; exact .non
  | .bl b, _, l, h => by cases h; exact .bl b
  | .int i, _, l, h => by cases h; exact .int i
  | .str x, _, l, h => by cases h; exact .str x
  | .tup ds, _, l, h => by
    cases h with
    | tup a b => exact .tup a (VRs.low (by simpa [FV.low] using l) b)
  | .fl ds, _, l, h => by
    cases h with
    | fl a b => exact .fl a (VRs.low (by simpa [FV.low] using l) b)
  | .sl ds, _, l, h => by
    cases h with
    | sl a b => exact .sl a (VRs.low (by simpa [FV.low] using l) b)
  | .fd ks ds, _, l, h => by
    cases h with
    | fd a b => exact .fd a (VRs.low (by simpa [FV.low] using l) b)
  | .ft ks ds, _, l, h => by
    cases h with
    | ft a b => exact .ft a (VRs.low (by simpa [FV.low] using l) b)
  | .fo c ks ds, _, l, h => by
    cases h with
    | fo z a b => exact .fo z a (VRs.low (by simpa [FV.low] using l) b)
  | .ref i, _, l, h => by
    cases h with
    | ref a => exact .ref (by simpa [FV.low] using l)
theorem VRs.low : ∀ {ds : List FV} {vs : List V}, FV.lows m ds → VRs B H μ n ds vs → VRs B H μ m ds vs
  | [], _, l, h => by cases h; exact .nil
  | d :: ds, _, l, h => by
    cases h with
    | cons a b =>
      have l' : d.low m ∧ FV.lows m ds := by simpa [FV.lows] using l
      exact .cons (VR.low l'.1 a) (VRs.low l'.2 b)
end
mutual
theorem VR.isLow : ∀ {d : FV} {v : V}, VR B H μ n d v → d.low n
  | .non, _, h => by simp [FV.low]
  | .bl b, _, h => by simp [FV.low]
  | .int i, _, h => by simp [FV.low]
  | .str x, _, h => by simp [FV.low]
  | .tup ds, _, h => by
    cases h with
    | tup a b => simpa [FV.low] using VRs.isLow b
  | .fl ds, _, h => by
    cases h with
    | fl a b => simpa [FV.low] using VRs.isLow b
  | .sl ds, _, h => by
    cases h with
    | sl a b => simpa [FV.low] using VRs.isLow b
  | .fd ks ds, _, h => by
    cases h with
    | fd a b => simpa [FV.low] using VRs.isLow b
  | .ft ks ds, _, h => by
    cases h with
    | ft a b => simpa [FV.low] using VRs.isLow b
  | .fo c ks ds, _, h => by
    cases h with
    | fo z a b => simpa [FV.low] using VRs.isLow b
  | .ref i, _, h => by
    cases h with
    | ref a => simpa [FV.low] using a
theorem VRs.isLow : ∀ {ds : List FV} {vs : List V}, VRs B H μ n ds vs → FV.lows n ds
  | [], _, h => by simp [FV.lows]
  | d :: ds, _, h => by
    cases h with
    | cons a b => simpa [FV.lows] using ⟨VR.isLow a, VRs.isLow b⟩
end
end

/-! ### what a run may do to the heap -/
structure Step (μ : Nat → Addr) (n : Nat) (H : Hp) (μ' : Nat → Addr) (n' : Nat) (H' : Hp) : Prop where
  le : n ≤ n'
  ext : ∀ i, i < n → μ' i = μ i
  new : ∀ i, n ≤ i → i < n' → H (μ' i) = none
  fr : ∀ a o, H a = some o → (∀ i, i < n → μ i ≠ a) → H' a = some o
  th : ∀ a, H a ≠ none → H' a ≠ none
  gw : Gw H H'
section
variable {μ μ1 μ2 : Nat → Addr} {n n1 n2 : Nat} {H H1 H2 : Hp}
theorem Step.refl (μ : Nat → Addr) (n : Nat) (H : Hp) : Step μ n H μ n H := ⟨Nat.le_refl _, fun _ _ => rfl, fun i a b => absurd (Nat.lt_of_lt_of_le b a) (Nat.lt_irrefl _), fun _ _ h _ => h, fun _ h => h, Gw.refl H⟩
theorem Step.trans (a : Step μ n H μ1 n1 H1) (b : Step μ1 n1 H1 μ2 n2 H2) : Step μ n H μ2 n2 H2 where
  le := Nat.le_trans a.le b.le
  ext i h := (b.ext i (Nat.lt_of_lt_of_le h a.le)).trans (a.ext i h)
  new i h1 h2 := by
    by_cases h : i < n1
    · rw [b.ext i h]; exact a.new i h1 h
    · cases q : H (μ2 i) with
      | none => rfl
      | some o => exact absurd (b.new i (Nat.le_of_not_lt h) h2) (a.th _ (by rw [q]; exact fun z => nomatch z))
  fr c o h k := by
    refine b.fr c o (a.fr c o h k) fun i hi z => ?_
    by_cases hn : i < n
    · exact k i hn ((a.ext i hn).symm.trans z)
    · have := a.new i (Nat.le_of_not_lt hn) hi
      rw [z, h] at this; cases this
  th c h := b.th c (a.th c h)
  gw := a.gw.trans b.gw
theorem Step.same (e : Same H H1) : Step μ n H μ n H1 where
  le := Nat.le_refl _
  ext _ _ := rfl
  new i a b := absurd (Nat.lt_of_lt_of_le b a) (Nat.lt_irrefl _)
  fr _ _ h _ := e _ _ h
  th a h := by
    cases q : H a with
    | none => exact absurd q h
    | some o => rw [e a o q]; exact fun z => nomatch z
  gw := Same.gw e
/-- one more object is told -/
def ext1 (μ : Nat → Addr) (n : Nat) (p : Addr) : Nat → Addr := fun i => if i = n then p else μ i
theorem ext1_at {p : Addr} : ext1 μ n p n = p := if_pos rfl
theorem ext1_lt {p : Addr} {i : Nat} (h : i < n) : ext1 μ n p i = μ i := if_neg (Nat.ne_of_lt h)
theorem Step.tell {p : Addr} (s : Step μ n H μ1 n1 H1) (hp : H p = none) : Step μ n H (ext1 μ1 n1 p) (n1 + 1) H1 where
  le := Nat.le_trans s.le (Nat.le_succ _)
  ext i h := by rw [ext1_lt (Nat.lt_of_lt_of_le h s.le)]; exact s.ext i h
  new i h1 h2 := by
    by_cases h : i < n1
    · rw [ext1_lt h]; exact s.new i h1 h
    · have e : i = n1 := by omega
      subst e
      rw [ext1_at]; exact hp
  fr := s.fr
  th := s.th
  gw := s.gw
theorem Step.cut (s : Step μ n H μ1 n1 H1) (h : n ≤ n2) (h2 : n2 ≤ n1) : Step μ n H μ1 n2 H1 :=
  ⟨h, s.ext, fun i a b => s.new i a (Nat.lt_of_lt_of_le b h2), s.fr, s.th, s.gw⟩
theorem Step.mut {i : Nat} {o : HO} (h : i < n) (m : Mut (H (μ i))) : Step μ n H μ n (upd H (μ i) o) where
  le := Nat.le_refl _
  ext _ _ := rfl
  new i a b := absurd (Nat.lt_of_lt_of_le b a) (Nat.lt_irrefl _)
  fr c o' hc k := by rw [upd_ne (Ne.symm (k i h))]; exact hc
  th c hc := by
    by_cases e : c = μ i
    · rw [e, upd_same]; exact fun z => nomatch z
    · rw [upd_ne e]; exact hc
  gw := gw_mut m
/-- what is new since the beginning may change -/
theorem Step.own {p : Addr} {o : HO} (s : Step μ n H μ1 n1 H2) (hp : H p = none) (mu : Mut (H2 p)) : Step μ n H μ1 n1 (upd H2 p o) where
  le := s.le
  ext := s.ext
  new := s.new
  fr a u ha hk := by rw [upd_ne (fun z => by rw [z, hp] at ha; cases ha)]; exact s.fr a u ha hk
  th a ha := by
    by_cases z : a = p
    · rw [z, upd_same]; exact fun z => nomatch z
    · rw [upd_ne z]; exact s.th a ha
  gw := s.gw.trans (gw_mut mu)
theorem Step.vr {B : Bs} {d : FV} {v : V} (s : Step μ n H μ1 n1 H1) (h : VR B H μ n d v) : VR B H1 μ1 n1 d v := VR.mono s.gw s.ext s.le d v h
theorem Step.vrs {B : Bs} {d : List FV} {v : List V} (s : Step μ n H μ1 n1 H1) (h : VRs B H μ n d v) : VRs B H1 μ1 n1 d v := VRs.mono s.gw s.ext s.le d v h
end

/-! ### the heap told -/
def KvR {κ : Type} (B : Bs) (H : Hp) (μ : Nat → Addr) (n : Nat) : List (κ × FV) → List (κ × V) → Prop := Paired fun p q => p.1 = q.1 ∧ VR B H μ n p.2 q.2
section
variable {κ : Type} {B : Bs} {H H' : Hp} {μ μ' : Nat → Addr} {n n' m : Nat}
theorem KvR.mono (g : Gw H H') (e : ∀ i, i < n → μ' i = μ i) (l : n ≤ n') : ∀ {ds : List (κ × FV)} {vs : List (κ × V)}, KvR B H μ n ds vs → KvR B H' μ' n' ds vs
  | _, _, .nil => .nil
  | _, _, .cons a b => .cons ⟨a.1, VR.mono g e l _ _ a.2⟩ (KvR.mono g e l b)
def lowKv (n : Nat) (kvs : List (κ × FV)) : Prop := FV.lows n (kvs.map (·.2))
theorem KvR.low : ∀ {ds : List (κ × FV)} {vs : List (κ × V)}, lowKv m ds → KvR B H μ n ds vs → KvR B H μ m ds vs
  | _, _, l, .nil => .nil
  | d :: ds, _, l, .cons a b => by
    have l' : d.2.low m ∧ FV.lows m (ds.map (·.2)) := by simpa [lowKv, FV.lows] using l
    exact .cons ⟨a.1, VR.low l'.1 a.2⟩ (KvR.low l'.2 b)
theorem KvR.isLow : ∀ {ds : List (κ × FV)} {vs : List (κ × V)}, KvR B H μ n ds vs → lowKv n ds
  | _, _, .nil => by simp [lowKv, FV.lows]
  | d :: ds, _, .cons a b => by
    have := KvR.isLow b
    simpa [lowKv, FV.lows] using ⟨a.2.isLow, this⟩
theorem KvR.len : ∀ {ds : List (κ × FV)} {vs : List (κ × V)}, KvR B H μ n ds vs → vs.length = ds.length
  | _, _, .nil => rfl
  | _, _, .cons a b => congrArg (· + 1) (KvR.len b)
theorem KvR.zip : ∀ {ks : List κ} {ds : List FV} {vs : List V}, VRs B H μ n ds vs → KvR B H μ n (ks.zip ds) (ks.zip vs)
  | [], _, _, _ => by rw [List.zip_nil_left, List.zip_nil_left]; exact .nil
  | k :: ks, _, _, .nil => .nil
  | k :: ks, _, _, .cons a b => .cons ⟨rfl, a⟩ (KvR.zip b)
theorem KvR.fst : ∀ {ds : List (κ × FV)} {vs : List (κ × V)}, KvR B H μ n ds vs → vs.map (·.1) = ds.map (·.1)
  | _, _, .nil => rfl
  | _, _, .cons a b => by rw [List.map_cons, List.map_cons, KvR.fst b, a.1]
theorem KvR.snd : ∀ {ds : List (κ × FV)} {vs : List (κ × V)}, KvR B H μ n ds vs → VRs B H μ n (ds.map (·.2)) (vs.map (·.2))
  | _, _, .nil => .nil
  | _, _, .cons a b => .cons a.2 (KvR.snd b)
theorem zip_parts {α β : Type} : ∀ l : List (α × β), (l.map (·.1)).zip (l.map (·.2)) = l
  | [] => rfl
  | (a, b) :: l => congrArg ((a, b) :: ·) (zip_parts l)
end
/-- the object o stands at a -/
def OR (B : Bs) (H : Hp) (μ : Nat → Addr) (n : Nat) (a : Addr) : FO → Prop
  | .lst ds => ∃ xs, H a = some (.lst xs) ∧ VRs B H μ n ds xs
  | .dK kvs => ∃ ws, H a = some (.dK ws) ∧ KvR B H μ n kvs ws
  | .dT kvs => ∃ ws, H a = some (.dT ws) ∧ KvR B H μ n kvs ws
  | .ins c fs => ∃ C dx ws, B.mg c = some (.ref C) ∧ H a = some (.ins C dx ws) ∧ KvR B H μ n fs ws
  | .lk kvs => ∃ ws od, H a = some (.frz od (.dK ws)) ∧ KvR B H μ n kvs ws
def FO.low (n : Nat) : FO → Prop
  | .lst ds => FV.lows n ds
  | .dK kvs => lowKv n kvs
  | .dT kvs => lowKv n kvs
  | .ins _ fs => lowKv n fs
  | .lk kvs => lowKv n kvs
section
variable {B : Bs} {H H' H1 : Hp} {μ μ' μ1 : Nat → Addr} {n n' n1 m : Nat} {a : Addr} {o : FO} {h h' : FH}
theorem OR.mono (g : Gw H H') (e : ∀ i, i < n → μ' i = μ i) (l : n ≤ n') (k : H' a = H a) (r : OR B H μ n a o) : OR B H' μ' n' a o := by
  cases o with
  | lst ds => obtain ⟨xs, h1, h2⟩ := r; exact ⟨xs, by rw [k]; exact h1, VRs.mono g e l _ _ h2⟩
  | dK ds => obtain ⟨xs, h1, h2⟩ := r; exact ⟨xs, by rw [k]; exact h1, h2.mono g e l⟩
  | dT ds => obtain ⟨xs, h1, h2⟩ := r; exact ⟨xs, by rw [k]; exact h1, h2.mono g e l⟩
  | ins c fs => obtain ⟨C, dx, xs, h0, h1, h2⟩ := r; exact ⟨C, dx, xs, h0, by rw [k]; exact h1, h2.mono g e l⟩
  | lk ds => obtain ⟨xs, od, h1, h2⟩ := r; exact ⟨xs, od, by rw [k]; exact h1, h2.mono g e l⟩
theorem OR.low (l : o.low m) (r : OR B H μ n a o) : OR B H μ m a o := by
  cases o with
  | lst ds => obtain ⟨xs, h1, h2⟩ := r; exact ⟨xs, h1, h2.low l⟩
  | dK ds => obtain ⟨xs, h1, h2⟩ := r; exact ⟨xs, h1, h2.low l⟩
  | dT ds => obtain ⟨xs, h1, h2⟩ := r; exact ⟨xs, h1, h2.low l⟩
  | ins c fs => obtain ⟨C, dx, xs, h0, h1, h2⟩ := r; exact ⟨C, dx, xs, h0, h1, h2.low l⟩
  | lk ds => obtain ⟨xs, od, h1, h2⟩ := r; exact ⟨xs, od, h1, h2.low l⟩
theorem OR.isLow (r : OR B H μ n a o) : o.low n := by
  cases o with
  | lst ds => obtain ⟨xs, h1, h2⟩ := r; exact h2.isLow
  | dK ds => obtain ⟨xs, h1, h2⟩ := r; exact h2.isLow
  | dT ds => obtain ⟨xs, h1, h2⟩ := r; exact h2.isLow
  | ins c fs => obtain ⟨C, dx, xs, h0, h1, h2⟩ := r; exact h2.isLow
  | lk ds => obtain ⟨xs, od, h1, h2⟩ := r; exact h2.isLow
theorem OR.some' (r : OR B H μ n a o) : H a ≠ none := by
  cases o with
  | lst ds => obtain ⟨xs, h1, h2⟩ := r; rw [h1]; exact fun z => nomatch z
  | dK ds => obtain ⟨xs, h1, h2⟩ := r; rw [h1]; exact fun z => nomatch z
  | dT ds => obtain ⟨xs, h1, h2⟩ := r; rw [h1]; exact fun z => nomatch z
  | ins c fs => obtain ⟨C, dx, xs, h0, h1, h2⟩ := r; rw [h1]; exact fun z => nomatch z
  | lk ds => obtain ⟨xs, od, h1, h2⟩ := r; rw [h1]; exact fun z => nomatch z
structure HR (B : Bs) (μ : Nat → Addr) (h : FH) (H : Hp) : Prop where
  at' : ∀ i o, h[i]? = some o → OR B H μ h.length (μ i) o
  inj : ∀ i j, i < h.length → j < h.length → μ i = μ j → i = j
theorem HR.same (r : HR B μ h H) (e : Same H H') : HR B μ h H' := ⟨fun i o q => by
  have z := r.at' i o q
  refine z.mono (Same.gw e) (fun _ _ => rfl) (Nat.le_refl _) ?_
  cases q' : H (μ i) with
  | none => exact absurd q' z.some'
  | some u => exact e _ _ q', r.inj⟩
theorem HR.cls {i : Nat} (r : HR B μ h H) (l : i < h.length) : H (μ i) ≠ none := (r.at' i h[i] (List.getElem?_eq_getElem l)).some'
/-- an object that no number has gets one -/
theorem HR.tell {p : Addr} (r : HR B μ h H) (hn : ∀ i, i < h.length → μ i ≠ p) (ho : OR B H (ext1 μ h.length p) (h.length + 1) p o) : HR B (ext1 μ h.length p) (h ++ [o]) H := by
  refine ⟨fun i u q => ?_, fun i j hi hj e => ?_⟩
  · rw [List.length_append, List.length_singleton]
    by_cases l : i < h.length
    · rw [List.getElem?_append_left l] at q
      rw [ext1_lt l]
      exact (r.at' i u q).mono (Gw.refl H) (fun j hj => ext1_lt hj) (Nat.le_succ _) rfl
    · have l2 : i < (h ++ [o]).length := (List.getElem?_eq_some_iff.mp q).1
      have e : i = h.length := by rw [List.length_append, List.length_singleton] at l2; omega
      subst e
      rw [List.getElem?_append_right (Nat.le_refl _), Nat.sub_self] at q
      have : o = u := Option.some.inj q
      subst this
      rw [ext1_at]; exact ho
  · rw [List.length_append, List.length_singleton] at hi hj
    by_cases li : i < h.length
    · by_cases lj : j < h.length
      · rw [ext1_lt li, ext1_lt lj] at e; exact r.inj i j li lj e
      · have ej : j = h.length := by omega
        subst ej
        rw [ext1_lt li, ext1_at] at e
        exact absurd e (hn i li)
    · have ei : i = h.length := by omega
      subst ei
      by_cases lj : j < h.length
      · rw [ext1_lt lj, ext1_at] at e
        exact absurd e.symm (hn j lj)
      · omega
/-- an object is changed -/
theorem HR.set {i : Nat} {u : HO} (r : HR B μ h H) (l : i < h.length) (ho : OR B (upd H (μ i) u) μ h.length (μ i) o) (mu : Mut (H (μ i)) := by assumption) : HR B μ (h.set i o) (upd H (μ i) u) := by
  refine ⟨fun j v q => ?_, fun j k hj hk e => r.inj j k (by simpa using hj) (by simpa using hk) e⟩
  rw [List.length_set]
  by_cases e : i = j
  · subst e
    rw [List.getElem?_set_self l] at q
    have : o = v := Option.some.inj q
    subst this
    exact ho
  · rw [List.getElem?_set_ne e] at q
    have lj : j < h.length := (List.getElem?_eq_some_iff.mp q).1
    exact (r.at' j v q).mono (gw_mut mu) (fun _ _ => rfl) (Nat.le_refl _) (upd_ne fun z => e (r.inj j i lj l z).symm)
theorem HR.cut {n : Nat} (r : HR B μ h H) (l : ∀ o, o ∈ h.take n → o.low n) (hn : n ≤ h.length) : HR B μ (h.take n) H := by
  have e : (h.take n).length = n := by rw [List.length_take, Nat.min_eq_left hn]
  refine ⟨fun i o q => ?_, fun i j hi hj z => r.inj i j ?_ ?_ z⟩
  · rw [e]
    have q' : h[i]? = some o := by
      rw [List.getElem?_take] at q
      split at q
      · exact q
      · cases q
    exact (r.at' i o q').low (l o (List.mem_of_getElem? q))
  · omega
  · omega
/-- what no number has is changed -/
theorem HR.own {p : Addr} {u : HO} (r : HR B μ h H) (mu : Mut (H p)) (nd : ∀ i, i < h.length → μ i ≠ p) : HR B μ h (upd H p u) :=
  ⟨fun j o hj => (r.at' j o hj).mono (gw_mut mu) (fun _ _ => rfl) (Nat.le_refl _) (upd_ne (nd j (List.getElem?_eq_some_iff.mp hj).1)), r.inj⟩
end

/-! ### results -/
structure Exn where
  cls : Str
  fs : Option (List (Str × FV)) := none
inductive Rs (α : Type) where
  | ok (a : α) (h : FH) | ex (x : Exn) (h : FH) | no
@[inline] def Rs.bind {α β : Type} : Rs α → (α → FH → Rs β) → Rs β
  | .ok a h, k => k a h
  | .ex x h, _ => .ex x h
  | .no, _ => .no
/-- what an expression gives: a value; a new list, dict, instance that nothing else holds; what a slot of this def alone holds, lent -/
inductive RV where
  | v (x : FV) | l (ds : List FV) | d (kvs : List (Key × FV)) | t (kvs : List (List Key × FV)) | o (c : Str) (fs : List (Str × FV))
  | bl (ds : List FV) | bd (kvs : List (Key × FV)) | bt (kvs : List (List Key × FV)) | bo (c : Str) (fs : List (Str × FV))
def Fre (H0 : Hp) (μ : Nat → Addr) (n : Nat) (p : Addr) : Prop := H0 p = none ∧ ∀ i, i < n → μ i ≠ p
abbrev Nd (μ : Nat → Addr) (n : Nat) (p : Addr) : Prop := ∀ i, i < n → μ i ≠ p
inductive RR (B : Bs) (H0 : Hp) (μ : Nat → Addr) (n : Nat) (H : Hp) : RV → V → Prop
  | v {x : FV} {u : V} : VR B H μ n x u → RR B H0 μ n H (.v x) u
  | l {ds : List FV} {p : Addr} {xs : List V} : Fre H0 μ n p → H p = some (.lst xs) → VRs B H μ n ds xs → RR B H0 μ n H (.l ds) (.ref p)
  | d {kvs : List (Key × FV)} {p : Addr} {ws : List (Key × V)} : Fre H0 μ n p → H p = some (.dK ws) → KvR B H μ n kvs ws → RR B H0 μ n H (.d kvs) (.ref p)
  | t {kvs : List (List Key × FV)} {p : Addr} {ws : List (List Key × V)} : Fre H0 μ n p → H p = some (.dT ws) → KvR B H μ n kvs ws → RR B H0 μ n H (.t kvs) (.ref p)
  | o {c : Str} {fs : List (Str × FV)} {p C dx : Addr} {ws : List (Str × V)} : Fre H0 μ n p → B.mg c = some (.ref C) → H p = some (.ins C dx ws) → KvR B H μ n fs ws → RR B H0 μ n H (.o c fs) (.ref p)
  | bl {ds : List FV} {p : Addr} {xs : List V} : Nd μ n p → H p = some (.lst xs) → VRs B H μ n ds xs → RR B H0 μ n H (.bl ds) (.ref p)
  | bd {kvs : List (Key × FV)} {p : Addr} {ws : List (Key × V)} : Nd μ n p → H p = some (.dK ws) → KvR B H μ n kvs ws → RR B H0 μ n H (.bd kvs) (.ref p)
  | bt {kvs : List (List Key × FV)} {p : Addr} {ws : List (List Key × V)} : Nd μ n p → H p = some (.dT ws) → KvR B H μ n kvs ws → RR B H0 μ n H (.bt kvs) (.ref p)
  | bo {c : Str} {fs : List (Str × FV)} {p C dx : Addr} {ws : List (Str × V)} : Nd μ n p → B.mg c = some (.ref C) → H p = some (.ins C dx ws) → KvR B H μ n fs ws → RR B H0 μ n H (.bo c fs) (.ref p)
def XR (B : Bs) (μ : Nat → Addr) (n : Nat) (H : Hp) (x : Exn) (c : Value) (d : Option Addr) : Prop :=
  B.mg x.cls = some c ∧ match x.fs with
    | none => d = none
    | some fs => ∃ a ws, d = some a ∧ H a = some (.xd ws) ∧ KvR B H μ n fs ws
section
variable {B : Bs} {H H0 H1 H2 : Hp} {μ μ1 μ2 : Nat → Addr} {n n1 n2 : Nat} {r : RV} {u : V}
theorem Nd.step {p : Addr} (f : Nd μ1 n1 p) (hp : H1 p ≠ none) (s : Step μ1 n1 H1 μ2 n2 H2) : Nd μ2 n2 p := fun i hi z => by
  by_cases h : i < n1
  · exact f i h ((s.ext i h).symm.trans z)
  · exact hp (by rw [← z]; exact s.new i (Nat.le_of_not_lt h) hi)
theorem Fre.step {p : Addr} (f : Fre H0 μ1 n1 p) (hp : H1 p ≠ none) (s : Step μ1 n1 H1 μ2 n2 H2) : Fre H0 μ2 n2 p := ⟨f.1, Nd.step f.2 hp s⟩
theorem sn {H : Hp} {p : Addr} {o : HO} (h : H p = some o) : H p ≠ none := by rw [h]; exact fun z => nomatch z
theorem RR.step (h : RR B H0 μ1 n1 H1 r u) (s : Step μ1 n1 H1 μ2 n2 H2) : RR B H0 μ2 n2 H2 r u := by
  cases h with
  | v a => exact .v (s.vr a)
  | l f a b => exact .l (f.step (sn a) s) (s.fr _ _ a f.2) (s.vrs b)
  | d f a b => exact .d (f.step (sn a) s) (s.fr _ _ a f.2) (b.mono s.gw s.ext s.le)
  | t f a b => exact .t (f.step (sn a) s) (s.fr _ _ a f.2) (b.mono s.gw s.ext s.le)
  | o f z a b => exact .o (f.step (sn a) s) z (s.fr _ _ a f.2) (b.mono s.gw s.ext s.le)
  | bl f a b => exact .bl (Nd.step f (sn a) s) (s.fr _ _ a f) (s.vrs b)
  | bd f a b => exact .bd (Nd.step f (sn a) s) (s.fr _ _ a f) (b.mono s.gw s.ext s.le)
  | bt f a b => exact .bt (Nd.step f (sn a) s) (s.fr _ _ a f) (b.mono s.gw s.ext s.le)
  | bo f z a b => exact .bo (Nd.step f (sn a) s) z (s.fr _ _ a f) (b.mono s.gw s.ext s.le)
theorem no_th (th : ∀ a, H a ≠ none → H1 a ≠ none) {p : Addr} (z : H1 p = none) : H p = none := by
  cases q : H p with
  | none => rfl
  | some o => exact absurd z (th p (sn q))
/-- a new thing is new for whoever began earlier -/
theorem RR.since (h : RR B H1 μ2 n2 H2 r u) (th : ∀ a, H a ≠ none → H1 a ≠ none) : RR B H μ2 n2 H2 r u := by
  cases h with
  | v a => exact .v a
  | l f a b => exact .l ⟨no_th th f.1, f.2⟩ a b
  | d f a b => exact .d ⟨no_th th f.1, f.2⟩ a b
  | t f a b => exact .t ⟨no_th th f.1, f.2⟩ a b
  | o f z a b => exact .o ⟨no_th th f.1, f.2⟩ z a b
  | bl f a b => exact .bl f a b
  | bd f a b => exact .bd f a b
  | bt f a b => exact .bt f a b
  | bo f z a b => exact .bo f z a b
/-- what a slot holds, read -/
def RV.lend : RV → RV
  | .l ds => .bl ds
  | .d kvs => .bd kvs
  | .t kvs => .bt kvs
  | .o c fs => .bo c fs
  | r => r
theorem RR.lend (h : RR B H0 μ n H r u) : RR B H1 μ n H r.lend u := by
  cases h with
  | v a => exact .v a
  | l f a b => exact .bl f.2 a b
  | d f a b => exact .bd f.2 a b
  | t f a b => exact .bt f.2 a b
  | o f z a b => exact .bo f.2 z a b
  | bl f a b => exact .bl f a b
  | bd f a b => exact .bd f a b
  | bt f a b => exact .bt f a b
  | bo f z a b => exact .bo f z a b
/-- does the slot alone hold it -/
def RV.own : RV → Bool
  | .l _ => true
  | .d _ => true
  | .t _ => true
  | .o _ _ => true
  | _ => false
/-- may it stand in a slot -/
def RV.keep : RV → Bool
  | .bl _ => false
  | .bd _ => false
  | .bt _ => false
  | .bo _ _ => false
  | _ => true
theorem RR.at_own (h : RR B H0 μ n H r u) (o : r.own = true) : ∃ p, u = .ref p ∧ Fre H0 μ n p ∧ Mut (H p) := by
  cases h with
  | l f a b => exact ⟨_, rfl, f, by rw [a]; trivial⟩
  | d f a b => exact ⟨_, rfl, f, by rw [a]; trivial⟩
  | t f a b => exact ⟨_, rfl, f, by rw [a]; trivial⟩
  | o f z a b => exact ⟨_, rfl, f, by rw [a]; trivial⟩
  | _ => cases o
theorem mut_some {H : Hp} {p : Addr} (m : Mut (H p)) : ∃ o, H p = some o ∧ Mut (some o) := by
  cases q : H p with
  | none => rw [q] at m; exact m.elim
  | some o => rw [q] at m; exact ⟨o, rfl, m⟩
/-- is it an object -/
def RV.obj : RV → Bool
  | .v _ => false
  | _ => true
/-- another object is changed -/
theorem RR.upd' {p : Addr} {o : HO} (h : RR B H0 μ n H r u) (mu : Mut (H p)) (ne : r.obj = true → u ≠ .ref p) : RR B H0 μ n (upd H p o) r u := by
  have g := gw_mut (o := o) mu
  have k : ∀ {q : Addr} {x : HO}, V.ref q ≠ V.ref p → H q = some x → upd H p o q = some x := fun {q x} z e => by rw [upd_ne (fun w => z (by rw [w]))]; exact e
  cases h with
  | v a => exact .v (VR.mono g (fun _ _ => rfl) (Nat.le_refl _) _ _ a)
  | l f a b => exact .l f (k (ne rfl) a) (VRs.mono g (fun _ _ => rfl) (Nat.le_refl _) _ _ b)
  | d f a b => exact .d f (k (ne rfl) a) (b.mono g (fun _ _ => rfl) (Nat.le_refl _))
  | t f a b => exact .t f (k (ne rfl) a) (b.mono g (fun _ _ => rfl) (Nat.le_refl _))
  | o f z a b => exact .o f z (k (ne rfl) a) (b.mono g (fun _ _ => rfl) (Nat.le_refl _))
  | bl f a b => exact .bl f (k (ne rfl) a) (VRs.mono g (fun _ _ => rfl) (Nat.le_refl _) _ _ b)
  | bd f a b => exact .bd f (k (ne rfl) a) (b.mono g (fun _ _ => rfl) (Nat.le_refl _))
  | bt f a b => exact .bt f (k (ne rfl) a) (b.mono g (fun _ _ => rfl) (Nat.le_refl _))
  | bo f z a b => exact .bo f z (k (ne rfl) a) (b.mono g (fun _ _ => rfl) (Nat.le_refl _))
/-- what is wanted of a result -/
def Po {α : Type} (B : Bs) (μ : Nat → Addr) (n : Nat) (H : Hp) (R : α → FH → (Nat → Addr) → Hp → Prop) (E : XK) : Rs α → Prop
  | .ok a h' => ∀ μ' H', Step μ n H μ' h'.length H' → HR B μ' h' H' → R a h' μ' H'
  | .ex x h' => ∀ μ' H' c d, Step μ n H μ' h'.length H' → HR B μ' h' H' → XR B μ' h'.length H' x c d → E c d H'
  | .no => False
variable {α β : Type} {R R' : α → FH → (Nat → Addr) → Hp → Prop} {S : β → FH → (Nat → Addr) → Hp → Prop} {E E' : XK} {a : α} {h : FH} {ra : Rs α} {k : α → FH → Rs β}
theorem Po.bind (h : Po B μ n H S E (ra.bind k)) : Po B μ n H (fun a h' μ' H' => Po B μ' h'.length H' S E (k a h')) E ra := by
  cases ra with
  | no => exact h
  | ex x h' => exact h
  | ok a h' =>
    intro μ' H' s hr
    have h2 : Po B μ n H S E (k a h') := h
    cases q : k a h' with
    | no => rw [q] at h2; exact h2
    | ex x h'' => rw [q] at h2; exact fun μ'' H'' c d s' hr' x' => h2 μ'' H'' c d (s.trans s') hr' x'
    | ok b h'' => rw [q] at h2; exact fun μ'' H'' s' hr' => h2 μ'' H'' (s.trans s') hr'
theorem Po.mono (h : Po B μ n H R E ra) (k : ∀ a h' μ' H', ra = .ok a h' → Step μ n H μ' h'.length H' → HR B μ' h' H' → R a h' μ' H' → R' a h' μ' H') : Po B μ n H R' E ra := by
  cases ra with
  | no => exact h
  | ex x h' => exact h
  | ok a h' => exact fun μ' H' s hr => k a h' μ' H' rfl s hr (h μ' H' s hr)
theorem Po.monoE (p : Po B μ n H R E ra) (h : ∀ c d H', E c d H' → E' c d H') : Po B μ n H R E' ra := by
  cases ra with
  | ok a h' => exact p
  | ex x h' => exact fun μ' H' c d s r q => h c d H' (p μ' H' c d s r q)
  | no => exact p
/-- the result stands where it was told -/
theorem Po.here (hh : n = h.length) (r : HR B μ h H) (p : Po B μ n H R E (.ok a h)) : R a h μ H := by
  subst hh
  exact p μ H (Step.refl _ _ _) r
theorem Po.last (p : Po B μ h.length H R E (.ok a h)) (hr : HR B μ h H) (s : Same H H1) : R a h μ H1 := p μ H1 (Step.same s) (hr.same s)
theorem Po.at' (p : Po B μ n H R E ra) (s : Step μ n H μ1 n1 H1) : Po B μ1 n1 H1 R E ra := by
  cases ra with
  | no => exact p
  | ex x h => exact fun μ' H' c d s' => p μ' H' c d (s.trans s')
  | ok a h => exact fun μ' H' s' => p μ' H' (s.trans s')
/-- .. where the wish is still said from the earlier state -/
theorem Po.bindAt (p : Po B μ n H S E (ra.bind k)) (s : Step μ n H μ1 n1 H1) : Po B μ1 n1 H1 (fun a h' _ _ => Po B μ n H S E (k a h')) E ra := by
  cases ra with
  | no => exact p
  | ex x h => exact fun μ' H' c d s' => p μ' H' c d (s.trans s')
  | ok a h => exact fun _ _ _ _ => p
end

/-! ### slots -/
abbrev Sl := List (Option RV)
/-- where a def was entered -/
structure Ent where
  μ : Nat → Addr
  n : Nat
  H : Hp
structure SR (B : Bs) (E : Ent) (μ : Nat → Addr) (Γ : Sl) (h : FH) (σ : St) (H : Hp) : Prop where
  st : Step E.μ E.n E.H μ h.length H
  hr : HR B μ h H
  len : Γ.length = σ.length
  sl : ∀ (i : Nat) (r : RV), Γ[i]? = some (some r) → ∃ u, σ[i]? = some (some u) ∧ RR B E.H μ h.length H r u
  inj : ∀ (i j : Nat) (r r' : RV) (p : Addr), Γ[i]? = some (some r) → Γ[j]? = some (some r') → r.obj = true → r'.obj = true → σ[i]? = some (some (.ref p)) → σ[j]? = some (some (.ref p)) → i = j
section
variable {B : Bs} {E : Ent} {H H' H1 : Hp} {μ μ' : Nat → Addr} {Γ Γ' : Sl} {h h' : FH} {σ : St} {r : RV} {u : V} {i : Nat}
theorem SR.step (r : SR B E μ Γ h σ H) (s : Step μ h.length H μ' h'.length H') (q : HR B μ' h' H') : SR B E μ' Γ h' σ H' :=
  ⟨r.st.trans s, q, r.len, fun i v e => let ⟨u, a, b⟩ := r.sl i v e; ⟨u, a, b.step s⟩, r.inj⟩
theorem set_get {α : Type} {l : List (Option α)} {i j : Nat} {x : Option α} {y : α} (e : (l.set i x)[j]? = some (some y)) : (i = j ∧ x = some y ∧ i < l.length) ∨ (i ≠ j ∧ l[j]? = some (some y)) := by
  by_cases hj : i = j
  · subst hj
    by_cases l' : i < l.length
    · rw [List.getElem?_set_self l'] at e
      exact .inl ⟨rfl, Option.some.inj e, l'⟩
    · rw [List.getElem?_eq_none (by rw [List.length_set]; exact Nat.le_of_not_lt l')] at e; cases e
  · rw [List.getElem?_set_ne hj] at e
    exact .inr ⟨hj, e⟩
/-- a slot gets a result; an object must be new to the other slots -/
theorem SR.put (s : SR B E μ Γ h σ H) (m : RR B E.H μ h.length H r u) (nw : r.obj = true → ∀ (j : Nat) (r' : RV) (p : Addr), Γ[j]? = some (some r') → r'.obj = true → σ[j]? = some (some (.ref p)) → u ≠ .ref p) :
    SR B E μ (Γ.set i (some r)) h (σ.set i (some u)) H := by
  refine ⟨s.st, s.hr, by rw [List.length_set, List.length_set]; exact s.len, fun j w e => ?_, fun j k w w' p e1 e2 o1 o2 e3 e4 => ?_⟩
  · rcases set_get e with ⟨rfl, e', l⟩ | ⟨ne, e'⟩
    · cases e'
      exact ⟨u, by rw [List.getElem?_set_self (by rw [← s.len]; exact l)], m⟩
    · rw [List.getElem?_set_ne ne]
      exact s.sl j w e'
  · rcases set_get e1 with ⟨rfl, e1', l1⟩ | ⟨ne1, e1'⟩
    · cases e1'
      rcases set_get e2 with ⟨rfl, e2', l2⟩ | ⟨ne2, e2'⟩
      · rfl
      · rw [List.getElem?_set_self (by rw [← s.len]; exact l1)] at e3
        rw [List.getElem?_set_ne ne2] at e4
        exact absurd (Option.some.inj (Option.some.inj e3)) (nw o1 k w' p e2' o2 e4)
    · rw [List.getElem?_set_ne ne1] at e3
      rcases set_get e2 with ⟨rfl, e2', l2⟩ | ⟨ne2, e2'⟩
      · cases e2'
        rw [List.getElem?_set_self (by rw [← s.len]; exact l2)] at e4
        exact absurd (Option.some.inj (Option.some.inj e4)) (nw o2 j w p e1' o1 e3)
      · rw [List.getElem?_set_ne ne2] at e4
        exact s.inj j k w w' p e1' e2' o1 o2 e3 e4
theorem SR.putV {x : FV} (s : SR B E μ Γ h σ H) (m : VR B H μ h.length x u) : SR B E μ (Γ.set i (some (.v x))) h (σ.set i (some u)) H := s.put (.v m) fun z => by cases z
/-- what was made since s stood is new to its slots -/
theorem SR.fresh {μ0 : Nat → Addr} {h0 : FH} {H0 : Hp} (s : SR B E μ0 Γ h0 σ H0) (m : RR B H0 μ h.length H r u) (o : r.own = true) (j : Nat) (r' : RV) (p : Addr) (e : Γ[j]? = some (some r')) (o' : r'.obj = true) (e' : σ[j]? = some (some (.ref p))) : u ≠ .ref p := fun z => by
  obtain ⟨q, rfl, f, _⟩ := m.at_own o
  cases z
  obtain ⟨u', h1, h2⟩ := s.sl j r' e
  rw [e'] at h1; cases h1
  have : H0 p ≠ none := by
    cases h2 with
    | v a => cases o'
    | l f a b => exact sn a
    | d f a b => exact sn a
    | t f a b => exact sn a
    | o f z a b => exact sn a
    | bl f a b => exact sn a
    | bd f a b => exact sn a
    | bt f a b => exact sn a
    | bo f z a b => exact sn a
  exact this f.1
theorem SR.drop (s : SR B E μ Γ h σ H) (o : Option V) : SR B E μ (Γ.set i none) h (σ.set i o) H := by
  refine ⟨s.st, s.hr, by rw [List.length_set, List.length_set]; exact s.len, fun j w e => ?_, fun j k w w' p e1 e2 o1 o2 e3 e4 => ?_⟩
  · rcases set_get e with ⟨rfl, e', l⟩ | ⟨ne, e'⟩
    · cases e'
    · rw [List.getElem?_set_ne ne]
      exact s.sl j w e'
  · rcases set_get e1 with ⟨rfl, e1', l1⟩ | ⟨ne1, e1'⟩
    · cases e1'
    · rw [List.getElem?_set_ne ne1] at e3
      rcases set_get e2 with ⟨rfl, e2', l2⟩ | ⟨ne2, e2'⟩
      · cases e2'
      · rw [List.getElem?_set_ne ne2] at e4
        exact s.inj j k w w' p e1' e2' o1 o2 e3 e4
/-- fewer slots are spoken of -/
inductive Sub : Sl → Sl → Prop
  | nil : Sub [] []
  | keep {x : Option RV} {a b : Sl} : Sub a b → Sub (x :: a) (x :: b)
  | drop {x : Option RV} {a b : Sl} : Sub a b → Sub (none :: a) (x :: b)
theorem Sub.refl : ∀ a : Sl, Sub a a
  | [] => .nil
  | x :: a => .keep (Sub.refl a)
theorem Sub.len : ∀ {a b : Sl}, Sub a b → a.length = b.length
  | _, _, .nil => rfl
  | _, _, .keep h => congrArg (· + 1) h.len
  | _, _, .drop h => congrArg (· + 1) h.len
theorem Sub.get : ∀ {a b : Sl}, Sub a b → ∀ {i : Nat} {r : RV}, a[i]? = some (some r) → b[i]? = some (some r)
  | _, _, .nil, _, _, e => e
  | _, _, .keep h, 0, _, e => e
  | _, _, .keep h, i + 1, _, e => h.get (i := i) e
  | _, _, .drop h, 0, _, e => by cases e
  | _, _, .drop h, i + 1, _, e => h.get (i := i) e
theorem SR.sub (s : SR B E μ Γ h σ H) (w : Sub Γ' Γ) : SR B E μ Γ' h σ H :=
  ⟨s.st, s.hr, w.len.trans s.len, fun i r e => s.sl i r (w.get e), fun i j r r' p e1 e2 => s.inj i j r r' p (w.get e1) (w.get e2)⟩
/-- an object that no slot and no number has, or that one slot has, is changed -/
theorem SR.upd' {p : Addr} {o : HO} (s : SR B E μ Γ h σ H) (hp : E.H p = none) (nd : Nd μ h.length p) (mu : Mut (H p)) (ne : ∀ (j : Nat) (r' : RV), Γ[j]? = some (some r') → r'.obj = true → σ[j]? ≠ some (some (.ref p))) : SR B E μ Γ h σ (upd H p o) :=
  ⟨s.st.own hp mu, s.hr.own mu nd, s.len, fun i r e => by
    obtain ⟨u, h1, h2⟩ := s.sl i r e
    exact ⟨u, h1, h2.upd' mu fun ho z => ne i r e ho (by rw [h1, z])⟩, s.inj⟩
/-- the object in slot i is changed: the slot holds what it is then -/
theorem SR.chg {p : Addr} {o : HO} (s : SR B E μ Γ h σ H) (ho : r.obj = true) (e : Γ[i]? = some (some r)) (e' : σ[i]? = some (some (.ref p))) (hp : E.H p = none) (nd : Nd μ h.length p) (mu : Mut (H p)) {r' : RV} (m : RR B E.H μ h.length (upd H p o) r' (.ref p)) : SR B E μ (Γ.set i (some r')) h σ (upd H p o) := by
  have li : i < Γ.length := (List.getElem?_eq_some_iff.mp e).1
  refine ⟨s.st.own hp mu, s.hr.own mu nd, by rw [List.length_set]; exact s.len, fun j w q => ?_, fun j k w w' a e1 e2 o1 o2 e3 e4 => ?_⟩
  · rcases set_get q with ⟨rfl, q', l⟩ | ⟨nj, q'⟩
    · cases q'
      exact ⟨_, e', m⟩
    · obtain ⟨u, h1, h2⟩ := s.sl j w q'
      exact ⟨u, h1, h2.upd' mu fun hw z => nj (s.inj i j r w p e q' ho hw e' (by rw [h1, z]))⟩
  · have back : ∀ {j : Nat} {w : RV}, (Γ.set i (some r'))[j]? = some (some w) → w.obj = true → ∃ w0, Γ[j]? = some (some w0) ∧ w0.obj = true := fun {j w} q o1 => by
      rcases set_get q with ⟨rfl, q', l⟩ | ⟨nj, q'⟩
      · exact ⟨r, e, ho⟩
      · exact ⟨w, q', o1⟩
    obtain ⟨w1, a1, b1⟩ := back e1 o1
    obtain ⟨w2, a2, b2⟩ := back e2 o2
    exact s.inj j k w1 w2 a a1 a2 b1 b2 e3 e4
end

/-! ### freezing: what is known of an object changes, the object does not -/
def Gh (G : Hp → Prop) (H : Hp) : Prop := G H ∨ ∃ p u, H p = some u ∧ Mut (some u) ∧ ∀ od, G (upd H p (.frz od u))
theorem wE.gh {X : Cx} {e : Expr} {σ : L2.St} {H : Hp} {Q : VK} (h : wE X e σ H fun v => Gh (Q v)) : wE X e σ H Q := ⟨fun pins s I =>
  thn (h.go pins s I) fun _ s' ⟨v, H', I', r, z⟩ => by
    rcases z with z | ⟨p, u, e1, m, z⟩
    · exact ⟨v, H', I', r, z⟩
    · obtain ⟨od, I2⟩ := I'.lock e1 m
      exact ⟨v, _, I2, r, z od⟩⟩
theorem wSs.gh {X : Cx} {sts : List Stmt} {D : Ends} {σ : L2.St} {H : Hp} (h : Gh (fun H => wSs X sts D σ H) H) : wSs X sts D σ H := by
  rcases h with h | ⟨p, u, e1, m, z⟩
  · exact h
  · exact ⟨fun pins s I => by
      obtain ⟨od, I2⟩ := I.lock e1 m
      exact (z od).go pins s I2⟩
/-- a result as a value: what is new is frozen -/
def RV.frz : RV → Option FV
  | .v x => some x
  | .l ds => some (.fl ds)
  | .d kvs => some (.fd (kvs.map (·.1)) (kvs.map (·.2)))
  | .t kvs => some (.ft (kvs.map (·.1)) (kvs.map (·.2)))
  | .o c fs => some (.fo c (fs.map (·.1)) (fs.map (·.2)))
  | _ => none
section
variable {B : Bs} {H H0 H1 : Hp} {μ ν : Nat → Addr} {n m : Nat} {h : FH} {r : RV} {u : V} {d : FV}
theorem frz_ok (hr : HR B μ h H) (m : RR B H0 μ h.length H r u) (e : r.frz = some d) (s : Step ν n H0 μ h.length H) :
    Gh (fun H' => Step ν n H0 μ h.length H' ∧ HR B μ h H' ∧ VR B H' μ h.length d u ∧ Gw H H' ∧ ∀ p, u ≠ .ref p → H' p = H p) H := by
  cases m with
  | v a => cases e; exact .inl ⟨s, hr, a, Gw.refl _, fun _ _ => rfl⟩
  | l f a b =>
    cases e
    rename_i ds p xs
    have mu : Mut (H p) := by rw [a]; trivial
    exact .inr ⟨p, _, a, trivial, fun od => ⟨s.own f.1 mu, hr.own mu f.2, .fl ⟨od, upd_same⟩ (VRs.mono (gw_mut mu) (fun _ _ => rfl) (Nat.le_refl _) _ _ b), gw_mut mu, fun q z => upd_ne fun w => z (by rw [w])⟩⟩
  | d f a b =>
    cases e
    rename_i kvs p ws
    have mu : Mut (H p) := by rw [a]; trivial
    refine .inr ⟨p, _, a, trivial, fun od => ⟨s.own f.1 mu, hr.own mu f.2, .fd (xs := ws.map (·.2)) ⟨od, ?_⟩ (VRs.mono (gw_mut mu) (fun _ _ => rfl) (Nat.le_refl _) _ _ b.snd), gw_mut mu, fun q z => upd_ne fun w => z (by rw [w])⟩⟩
    rw [upd_same, ← b.fst, zip_parts]
  | t f a b =>
    cases e
    rename_i kvs p ws
    have mu : Mut (H p) := by rw [a]; trivial
    refine .inr ⟨p, _, a, trivial, fun od => ⟨s.own f.1 mu, hr.own mu f.2, .ft (xs := ws.map (·.2)) ⟨od, ?_⟩ (VRs.mono (gw_mut mu) (fun _ _ => rfl) (Nat.le_refl _) _ _ b.snd), gw_mut mu, fun q z => upd_ne fun w => z (by rw [w])⟩⟩
    rw [upd_same, ← b.fst, zip_parts]
  | o f z a b =>
    cases e
    rename_i c fs p C dx ws
    have mu : Mut (H p) := by rw [a]; trivial
    refine .inr ⟨p, _, a, trivial, fun od => ⟨s.own f.1 mu, hr.own mu f.2, .fo (C := C) (dx := dx) (xs := ws.map (·.2)) z ⟨od, ?_⟩ (VRs.mono (gw_mut mu) (fun _ _ => rfl) (Nat.le_refl _) _ _ b.snd), gw_mut mu, fun q z => upd_ne fun w => z (by rw [w])⟩⟩
    rw [upd_same, ← b.fst, zip_parts]
  | _ => cases e
def vF : Rs RV → Rs FV
  | .ok r h => match r.frz with | some d => .ok d h | none => .no
  | .ex x h => .ex x h
  | .no => .no
theorem Po.vF {R : FV → FH → (Nat → Addr) → Hp → Prop} {E : XK} {r : Rs RV} (p : Po B μ m H R E (vF r)) :
    Po B μ m H (fun x h' μ' H' => ∀ u, RR B H μ' h'.length H' x u → ∃ d, x.frz = some d ∧ Gh (fun H'' => Step μ m H μ' h'.length H'' ∧ HR B μ' h' H'' ∧ VR B H'' μ' h'.length d u ∧ Gw H' H'' ∧ (∀ p, u ≠ .ref p → H'' p = H' p) ∧ R d h' μ' H'') H') E r := by
  cases r with
  | no => exact p
  | ex x h' => exact p
  | ok x h' =>
    intro μ' H' s hr u ru
    cases z : x.frz with
    | none => unfold P.vF at p; dsimp only at p; rw [z] at p; exact p.elim
    | some d =>
      have p' : Po B μ m H R E (.ok d h') := by unfold P.vF at p; dsimp only at p; rw [z] at p; exact p
      refine ⟨d, rfl, ?_⟩
      rcases frz_ok hr ru z s with a | ⟨q, w, a, b, c⟩
      · exact .inl ⟨a.1, a.2.1, a.2.2.1, a.2.2.2.1, a.2.2.2.2, p' μ' H' a.1 a.2.1⟩
      · exact .inr ⟨q, w, a, b, fun od => ⟨(c od).1, (c od).2.1, (c od).2.2.1, (c od).2.2.2.1, (c od).2.2.2.2, p' μ' _ (c od).1 (c od).2.1⟩⟩
theorem Gh.mono {G G' : Hp → Prop} (h : Gh G H) (k : ∀ H, G H → G' H) : Gh G' H := by
  rcases h with h | ⟨p, u, e, m, z⟩
  · exact .inl (k _ h)
  · exact .inr ⟨p, u, e, m, fun od => k _ (z od)⟩
/-- a result as a value: what is new gets a number -/
def RV.tell : RV → FH → Option (FV × FH)
  | .v x, h => some (x, h)
  | .l ds, h => some (.ref h.length, h ++ [.lst ds])
  | .d kvs, h => some (.ref h.length, h ++ [.dK kvs])
  | .t kvs, h => some (.ref h.length, h ++ [.dT kvs])
  | .o c fs, h => some (.ref h.length, h ++ [.ins c fs])
  | _, _ => none
theorem tell_ok {h' : FH} (hr : HR B μ h H) (m : RR B H0 μ h.length H r u) (e : r.tell h = some (d, h')) (s : Step ν n H0 μ h.length H) :
    ∃ μ', Step ν n H0 μ' h'.length H ∧ HR B μ' h' H ∧ VR B H μ' h'.length d u := by
  have key : ∀ {o : FO} {p : Addr}, Fre H0 μ h.length p → OR B H (ext1 μ h.length p) (h.length + 1) p o → ∃ μ', Step ν n H0 μ' (h ++ [o]).length H ∧ HR B μ' (h ++ [o]) H ∧ VR B H μ' (h ++ [o]).length (.ref h.length) (.ref p) := fun {o p} f ho => by
    refine ⟨ext1 μ h.length p, ?_, hr.tell f.2 ho, ?_⟩
    · rw [List.length_append, List.length_singleton]; exact s.tell f.1
    · have : V.ref p = V.ref (ext1 μ h.length p h.length) := by rw [ext1_at]
      rw [this]
      exact .ref (by rw [List.length_append, List.length_singleton]; exact Nat.lt_succ_self _)
  cases m with
  | v q => cases e; exact ⟨μ, s, hr, q⟩
  | l f a b => cases e; exact key f ⟨_, a, VRs.mono (Gw.refl H) (fun i hi => ext1_lt hi) (Nat.le_succ _) _ _ b⟩
  | d f a b => cases e; exact key f ⟨_, a, b.mono (Gw.refl H) (fun i hi => ext1_lt hi) (Nat.le_succ _)⟩
  | t f a b => cases e; exact key f ⟨_, a, b.mono (Gw.refl H) (fun i hi => ext1_lt hi) (Nat.le_succ _)⟩
  | o f z a b => cases e; exact key f ⟨_, _, _, z, a, b.mono (Gw.refl H) (fun i hi => ext1_lt hi) (Nat.le_succ _)⟩
  | _ => cases e
def vT : Rs RV → Rs FV
  | .ok r h => match r.tell h with | some (d, h') => .ok d h' | none => .no
  | .ex x h => .ex x h
  | .no => .no
theorem Po.vT {R : FV → FH → (Nat → Addr) → Hp → Prop} {E : XK} {r : Rs RV} (p : Po B μ m H R E (vT r)) :
    Po B μ m H (fun x h' μ' H' => ∀ u, RR B H μ' h'.length H' x u → ∃ d h'' μ'', Step μ m H μ'' h''.length H' ∧ HR B μ'' h'' H' ∧ VR B H' μ'' h''.length d u ∧ R d h'' μ'' H') E r := by
  cases r with
  | no => exact p
  | ex x h' => exact p
  | ok x h' =>
    intro μ' H' s hr u ru
    cases z : x.tell h' with
    | none => unfold P.vT at p; dsimp only at p; rw [z] at p; exact p.elim
    | some dh =>
      obtain ⟨d, h''⟩ := dh
      have p' : Po B μ m H R E (.ok d h'') := by unfold P.vT at p; dsimp only at p; rw [z] at p; exact p
      obtain ⟨μ'', s2, hr2, v2⟩ := tell_ok hr ru z s
      exact ⟨d, h'', μ'', s2, hr2, v2, p' μ'' H' s2 hr2⟩
end
end P

/-! P: expressions. -/
namespace P
open PySem PySem.Spec PyProof.Rows L2 G

abbrev LIM : Nat := 16000000
theorem lim_le {n : Nat} (h : n ≤ LIM) : n ≤ sizeLine := Nat.le_trans h (by decide)
theorem lim_lt {n : Nat} (h : n < LIM) : n < sizeLine := Nat.lt_of_lt_of_le h (by decide)

/-! ### what a piece of the program does -/
abbrev M (α : Type) := FH → Rs α
def pur {α : Type} (a : α) : M α := fun h => .ok a h
def fail {α : Type} : M α := fun _ => .no
def bnd {α β : Type} (m : M α) (k : α → M β) : M β := fun h => (m h).bind k
def lift {α : Type} (o : FH → Option α) : M α := fun h => match o h with | some a => .ok a h | none => .no
def mV (m : M RV) : M FV := fun h => vF (m h)
def mT (m : M RV) : M FV := fun h => vT (m h)
/-- f says what e does from the slots Γ; W: what is wanted of an error -/
def JE (X : Cx) (W : WX) (E : Ent) (Γ : Sl) (e : Expr) (f : M RV) : Prop :=
  ∀ μ h σ H Q, SR (bs X) E μ Γ h σ H → Po (bs X) μ h.length H (fun r h' μ' H' => ∀ u, RR (bs X) H μ' h'.length H' r u → Q u H') (fun c d H' => W c d σ H') (f h) → wE X e σ H Q
def JT (X : Cx) (W : WX) (E : Ent) (Γ : Sl) (e : Expr) (f : M Bool) : Prop :=
  ∀ μ h σ H Q, SR (bs X) E μ Γ h σ H → Po (bs X) μ h.length H (fun b h' μ' H' => Q b H') (fun c d H' => W c d σ H') (f h) → wT X e σ H Q
theorem JE.to {X : Cx} {W : WX} {E : Ent} {Γ : Sl} {e : Expr} {f g : M RV} (p : JE X W E Γ e f) (q : ∀ h, f h = g h) : JE X W E Γ e g := by
  have : f = g := funext q
  exact this ▸ p
theorem JT.to {X : Cx} {W : WX} {E : Ent} {Γ : Sl} {e : Expr} {f g : M Bool} (p : JT X W E Γ e f) (q : ∀ h, f h = g h) : JT X W E Γ e g := by
  have : f = g := funext q
  exact this ▸ p
/-! ### what stands behind a result -/
def RV.seq : RV → FH → Option (Bool × List FV)
  | .v (.tup ds), _ => some (true, ds)
  | .v (.fl ds), _ => some (false, ds)
  | .v (.sl ds), _ => some (false, ds)
  | .v (.ref m), h => match h[m]? with | some (.lst ds) => some (false, ds) | _ => none
  | .l ds, _ => some (false, ds)
  | .bl ds, _ => some (false, ds)
  | _, _ => none
/-- .. a list that is an object of its own -/
def RV.lst : RV → FH → Option (List FV)
  | .v (.ref m), h => match h[m]? with | some (.lst ds) => some ds | _ => none
  | .v (.fl ds), _ => some ds
  | .l ds, _ => some ds
  | .bl ds, _ => some ds
  | _, _ => none
def RV.dict : RV → FH → Option (List (Key × FV))
  | .v (.ref m), h => match h[m]? with | some (.dK ds) => some ds | some (.lk ds) => some ds | _ => none
  | .v (.fd ks vs), _ => some (ks.zip vs)
  | .d ds, _ => some ds
  | .bd ds, _ => some ds
  | _, _ => none
def RV.dicT : RV → FH → Option (List (List Key × FV))
  | .v (.ref m), h => match h[m]? with | some (.dT ds) => some ds | _ => none
  | .v (.ft ks vs), _ => some (ks.zip vs)
  | .t ds, _ => some ds
  | .bt ds, _ => some ds
  | _, _ => none
section
variable {B : Bs} {H H0 H' : Hp} {μ : Nat → Addr} {n : Nat} {h : FH} {x : RV} {u : V} {ds : List FV}
theorem HR.lst {m : Nat} (hr : HR B μ h H) (e : h[m]? = some (.lst ds)) : ∃ xs, H (μ m) = some (.lst xs) ∧ VRs B H μ h.length ds xs := hr.at' m _ e
theorem lst_ok (hr : HR B μ h H) (r : RR B H0 μ h.length H x u) (e : x.lst h = some ds) : ∃ a xs, u = .ref a ∧ Rd H a (.lst xs) ∧ VRs B H μ h.length ds xs := by
  cases r with
  | v q =>
    cases q with
    | ref l =>
      rename_i i
      have e' : (match h[i]? with | some (.lst ds) => some ds | _ => none) = some ds := e
      split at e'
      · rename_i z zh
        cases e'
        obtain ⟨xs, h1, h2⟩ := hr.lst zh
        exact ⟨_, xs, rfl, .inl h1, h2⟩
      · cases e'
    | fl a b => cases e; exact ⟨_, _, rfl, a.rd, b⟩
    | _ => cases e
  | l f a b => cases e; exact ⟨_, _, rfl, .inl a, b⟩
  | bl f a b => cases e; exact ⟨_, _, rfl, .inl a, b⟩
  | _ => cases e
theorem dict_ok {kvs : List (Key × FV)} (hr : HR B μ h H) (r : RR B H0 μ h.length H x u) (e : x.dict h = some kvs) : ∃ a ws, u = .ref a ∧ Rd H a (.dK ws) ∧ KvR B H μ h.length kvs ws := by
  cases r with
  | v q =>
    cases q with
    | ref l =>
      rename_i i
      have e' : (match h[i]? with | some (.dK ds) => some ds | some (.lk ds) => some ds | _ => none) = some kvs := e
      split at e'
      · rename_i z zh
        cases e'
        obtain ⟨xs, h1, h2⟩ := hr.at' i _ zh
        exact ⟨_, xs, rfl, .inl h1, h2⟩
      · rename_i z zh
        cases e'
        obtain ⟨xs, od, h1, h2⟩ := hr.at' i _ zh
        exact ⟨_, xs, rfl, .inr ⟨od, h1⟩, h2⟩
      · cases e'
    | fd a b => cases e; exact ⟨_, _, rfl, a.rd, KvR.zip b⟩
    | _ => cases e
  | d f a b => cases e; exact ⟨_, _, rfl, .inl a, b⟩
  | bd f a b => cases e; exact ⟨_, _, rfl, .inl a, b⟩
  | _ => cases e
theorem dicT_ok {kvs : List (List Key × FV)} (hr : HR B μ h H) (r : RR B H0 μ h.length H x u) (e : x.dicT h = some kvs) : ∃ a ws, u = .ref a ∧ Rd H a (.dT ws) ∧ KvR B H μ h.length kvs ws := by
  cases r with
  | v q =>
    cases q with
    | ref l =>
      rename_i i
      have e' : (match h[i]? with | some (.dT ds) => some ds | _ => none) = some kvs := e
      split at e'
      · rename_i z zh
        cases e'
        obtain ⟨xs, h1, h2⟩ := hr.at' i _ zh
        exact ⟨_, xs, rfl, .inl h1, h2⟩
      · cases e'
    | ft a b => cases e; exact ⟨_, _, rfl, a.rd, KvR.zip b⟩
    | _ => cases e
  | t f a b => cases e; exact ⟨_, _, rfl, .inl a, b⟩
  | bt f a b => cases e; exact ⟨_, _, rfl, .inl a, b⟩
  | _ => cases e
theorem seq_ok {b : Bool} (hr : HR B μ h H) (r : RR B H0 μ h.length H x u) (e : x.seq h = some (b, ds)) : ∃ a xs, u = .ref a ∧ VRs B H μ h.length ds xs ∧ (if b = true then SqT B.K H a xs else SqL B.K H a xs) := by
  cases r with
  | v q =>
    cases q with
    | tup a c => cases e; exact ⟨_, _, rfl, c, by rw [if_pos rfl]; exact a⟩
    | fl a c => cases e; exact ⟨_, _, rfl, c, by rw [if_neg (by decide)]; exact .inl a.rd⟩
    | sl a c => cases e; exact ⟨_, _, rfl, c, by rw [if_neg (by decide)]; exact a.sqL⟩
    | ref l =>
      rename_i i
      have e' : (match h[i]? with | some (.lst ds) => some (false, ds) | _ => none) = some (b, ds) := e
      split at e'
      · rename_i z zh
        cases e'
        obtain ⟨xs, h1, h2⟩ := hr.lst zh
        exact ⟨_, xs, rfl, h2, by rw [if_neg (by decide)]; exact SqL.of h1⟩
      · cases e'
    | _ => cases e
  | l f a c => cases e; exact ⟨_, _, rfl, c, by rw [if_neg (by decide)]; exact SqL.of a⟩
  | bl f a c => cases e; exact ⟨_, _, rfl, c, by rw [if_neg (by decide)]; exact SqL.of a⟩
  | _ => cases e
theorem seqL_ok (hr : HR B μ h H) (r : RR B H0 μ h.length H x u) (e : x.seq h = some (false, ds)) : ∃ a xs, u = .ref a ∧ VRs B H μ h.length ds xs ∧ SqL B.K H a xs := by
  obtain ⟨a, xs, h1, h2, h3⟩ := seq_ok hr r e
  exact ⟨a, xs, h1, h2, by rw [if_neg (by decide)] at h3; exact h3⟩
theorem seqT_ok (hr : HR B μ h H) (r : RR B H0 μ h.length H x u) (e : x.seq h = some (true, ds)) : ∃ a xs, u = .ref a ∧ VRs B H μ h.length ds xs ∧ SqT B.K H a xs := by
  obtain ⟨a, xs, h1, h2, h3⟩ := seq_ok hr r e
  exact ⟨a, xs, h1, h2, by rw [if_pos rfl] at h3; exact h3⟩
theorem seqE_ok {b : Bool} (hr : HR B μ h H) (r : RR B H0 μ h.length H x u) (e : x.seq h = some (b, ds)) : ∃ a xs, u = .ref a ∧ VRs B H μ h.length ds xs ∧ (SqL B.K H a xs ∨ SqT B.K H a xs) := by
  cases b with
  | true => obtain ⟨a, xs, h1, h2, h3⟩ := seqT_ok hr r e; exact ⟨a, xs, h1, h2, .inr h3⟩
  | false => obtain ⟨a, xs, h1, h2, h3⟩ := seqL_ok hr r e; exact ⟨a, xs, h1, h2, .inl h3⟩
/-- a new tuple, a new list -/
theorem VRs.same (e : Same H H') {vs : List V} (q : VRs B H μ n ds vs) : VRs B H' μ n ds vs := VRs.mono (Same.gw e) (fun _ _ => rfl) (Nat.le_refl _) _ _ q
theorem VR.same {d : FV} {v : V} (e : Same H H') (q : VR B H μ n d v) : VR B H' μ n d v := VR.mono (Same.gw e) (fun _ _ => rfl) (Nat.le_refl _) _ _ q
theorem rr_tup {p : Addr} {xs : List V} (hp : H p = none) (q : VRs B H μ n ds xs) : RR B H0 μ n (upd H p (.tup xs)) (.v (.tup ds)) (.ref p) := .v (.tup (.inl (.inl upd_same)) (q.same (same_new hp)))
theorem fre_new {p : Addr} (hr : HR B μ h H) (th : ∀ a, H0 a ≠ none → H a ≠ none) (hp : H p = none) : Fre H0 μ h.length p := ⟨no_th th hp, fun i hi z => hr.cls hi (by rw [z]; exact hp)⟩
theorem rr_lst {p : Addr} {xs : List V} (hr : HR B μ h H) (th : ∀ a, H0 a ≠ none → H a ≠ none) (hp : H p = none) (q : VRs B H μ h.length ds xs) : RR B H0 μ h.length (upd H p (.lst xs)) (.l ds) (.ref p) :=
  .l (fre_new hr th hp) upd_same (q.same (same_new hp))
theorem rr_dct {p : Addr} {kvs : List (Key × FV)} {ws : List (Key × V)} (hr : HR B μ h H) (th : ∀ a, H0 a ≠ none → H a ≠ none) (hp : H p = none) (q : KvR B H μ h.length kvs ws) : RR B H0 μ h.length (upd H p (.dK ws)) (.d kvs) (.ref p) :=
  .d (fre_new hr th hp) upd_same (q.mono (Same.gw (same_new hp)) (fun _ _ => rfl) (Nat.le_refl _))
theorem rr_dcT {p : Addr} {kvs : List (List Key × FV)} {ws : List (List Key × V)} (hr : HR B μ h H) (th : ∀ a, H0 a ≠ none → H a ≠ none) (hp : H p = none) (q : KvR B H μ h.length kvs ws) : RR B H0 μ h.length (upd H p (.dT ws)) (.t kvs) (.ref p) :=
  .t (fre_new hr th hp) upd_same (q.mono (Same.gw (same_new hp)) (fun _ _ => rfl) (Nat.le_refl _))
end

section
variable {X : Cx} {W : WX} {E : Ent} {Γ : Sl} {e a b c : Expr} {es : List Expr} {pos p0 : Pos} {fa fb fc : M RV}
theorem Po.lift {α : Type} {B : Bs} {μ : Nat → Addr} {n : Nat} {H : Hp} {R : α → FH → (Nat → Addr) → Hp → Prop} {E : XK} {o : FH → Option α} {h : FH}
    (p : Po B μ n H R E (P.lift o h)) : ∃ x, o h = some x ∧ Po B μ n H R E (.ok x h) := by
  unfold P.lift at p
  cases q : o h with
  | none => rw [q] at p; exact p.elim
  | some x => rw [q] at p; exact ⟨x, rfl, p⟩

/-! ### names, constants -/
/-- the result in a slot -/
def sg : Sl → Nat → Option RV
  | [], _ => none
  | x :: _, 0 => x
  | _ :: r, i + 1 => sg r i
theorem sg_get : ∀ {Γ : Sl} {i : Nat} {v : RV}, sg Γ i = some v → Γ[i]? = some (some v)
  | [], _, _, h => by cases h
  | x :: _, 0, v, h => by
    have e : x = some v := h
    subst e; rfl
  | _ :: r, i + 1, v, h => by
    rw [List.getElem?_cons_succ]
    exact sg_get (Γ := r) h
theorem je_var (i : Nat) {r : RV} (q : sg Γ i = some r := by rfl) {x : Str} (hN : X.N[i]? = some x := by rfl) (hv : Vis X.env.scope x := by first | exact Or.inl rfl | exact Or.inr (Or.inl rfl) | exact Or.inr (Or.inr rfl)) (hd : (x == ("__debug__" : Str)) = false := by decide)
    (hcd : (x == ("__classdict__" : Str)) = false := by decide) : JE X W E Γ (.Name x pos) (pur r.lend) := fun μ h σ H Q s p => by
  obtain ⟨u, h1, h2⟩ := s.sl i r (sg_get q)
  exact wE.of (pe_var hN hv hd hcd) ⟨u, h1, p.last s.hr (Same.refl H) u h2.lend⟩
theorem je_int {i : Int} {j} : JE X W E Γ (.Constant (.int i) j pos) (pur (.v (.int i))) := fun μ h σ H Q r p => wE.of pe_int (Po.last p r.hr (Same.refl H) _ (.v (.int i)))
theorem je_str {i : Str} {j} : JE X W E Γ (.Constant (.str i) j pos) (pur (.v (.str i))) := fun μ h σ H Q r p => wE.of pe_str (Po.last p r.hr (Same.refl H) _ (.v (.str i)))
theorem je_bl {i : Bool} {j} : JE X W E Γ (.Constant (.bool i) j pos) (pur (.v (.bl i))) := fun μ h σ H Q r p => wE.of pe_bl (Po.last p r.hr (Same.refl H) _ (.v (.bl i)))
theorem je_non {j} : JE X W E Γ (.Constant .none j pos) (pur (.v .non)) := fun μ h σ H Q r p => wE.of pe_non (Po.last p r.hr (Same.refl H) _ (.v .non))
/-- a module's constant -/
structure GC (K : PySem.W.Frag) (mg : Str → Option Value) (x : Str) (v : FV) : Prop where
  ex : ∃ u w, mg x = some u ∧ RelV w u ∧ ∀ B H μ n, B.K = K → VR B H μ n v w
theorem je_glob {x : Str} {v : FV} (g : GC X.K X.mg x v) (hg : Gl X x := by rfl) (hd : (x == ("__debug__" : Str)) = false := by decide) : JE X W E Γ (.Name x pos) (pur (.v v)) := fun μ h σ H Q r p => by
  obtain ⟨u, w, h1, h2, h3⟩ := g.ex
  exact wE.of (pe_glob hg h1 h2 hd) (Po.last p r.hr (Same.refl H) _ (.v (h3 (bs X) H μ h.length rfl)))

/-! ### operators -/
/-- g says what the operator with the reading r gives -/
def OpOk (X : Cx) (r : R2) (g : RV → RV → FH → Option RV) : Prop :=
  ∀ μ h H0 H x y u v (Q : VK) z, HR (bs X) μ h H → (∀ a, H0 a ≠ none → H a ≠ none) → RR (bs X) H0 μ h.length H x u → RR (bs X) H0 μ h.length H y v → g x y h = some z →
    (∀ w H', Same H H' → RR (bs X) H0 μ h.length H' z w → Q w H') → r u v H Q
def oB (g : RV → RV → FH → Option RV) (x y : RV) : M RV := lift (g x y)
theorem je_bin {op : Operator} {r : R2} {g : RV → RV → FH → Option RV} (ho : OpR X (binaryOp op) r) (hg : OpOk X r g) (ha : JE X W E Γ a fa) (hb : JE X W E Γ b fb) : JE X W E Γ (.BinOp a op b pos) (bnd fa fun x => bnd fb fun y => oB g x y) := fun μ h σ H Q s p =>
  wE.of (pe_op ho pe_w pe_w) (ha μ h σ H _ s (Po.mono (Po.bind p) fun x h1 μ1 H1 _ s1 hr1 p1 u ru =>
    hb μ1 h1 σ H1 _ (s.step s1 hr1) (Po.mono (Po.bind p1) fun y h2 μ2 H2 _ s2 hr2 p2 v rv => by
      obtain ⟨z, hz, p3⟩ := p2.lift
      exact hg μ2 h2 H H2 x y u v Q z hr2 (fun a ha => s2.th a (s1.th a ha)) (ru.step s2) (rv.since s1.th) hz fun w H' e q => p3.last hr2 e w q)))
theorem OpR.or {f : Value → Value → Sem Value} {r1 r2 : R2} (h1 : OpR X f r1) (h2 : OpR X f r2) : OpR X f (fun x y H Q => r1 x y H Q ∨ r2 x y H Q) := by
  intro pins s σ H x y v u Q I rx ry h
  rcases h with h | h
  · exact h1 pins s σ H x y v u Q I rx ry h
  · exact h2 pins s σ H x y v u Q I rx ry h
section
variable {B : Bs} {H0 H : Hp} {μ : Nat → Addr} {n : Nat} {u : V}
theorem rr_int {i : Int} (r : RR B H0 μ n H (.v (.int i)) u) : u = .int i := by
  cases r with | v q => cases q; rfl
theorem rr_str {i : Str} (r : RR B H0 μ n H (.v (.str i)) u) : u = .str i := by
  cases r with | v q => cases q; rfl
theorem rr_bl {i : Bool} (r : RR B H0 μ n H (.v (.bl i)) u) : u = .bl i := by
  cases r with | v q => cases q; rfl
theorem rr_non (r : RR B H0 μ n H (.v .non) u) : u = .non := by
  cases r with | v q => cases q; rfl
theorem ref_inv {m : Nat} (r : RR B H0 μ n H (.v (.ref m)) u) : u = .ref (μ m) ∧ m < n := by
  cases r with | v q => cases q with | ref l => exact ⟨rfl, l⟩
end
/-- ints -/
def gI (c : Int → Int → Option Int) : RV → RV → FH → Option RV
  | .v (.int i), .v (.int j), _ => (c i j).map fun k => .v (.int k)
  | _, _, _ => none
theorem gI_inv {c : Int → Int → Option Int} {x y : RV} {h : FH} {z : RV} (e : gI c x y h = some z) : ∃ i j k, x = .v (.int i) ∧ y = .v (.int j) ∧ c i j = some k ∧ z = .v (.int k) := by
  unfold gI at e
  split at e
  · rename_i i j
    cases q : c i j with
    | none => rw [q] at e; cases e
    | some k => rw [q] at e; cases e; exact ⟨i, j, k, rfl, rfl, q, rfl⟩
  · cases e
def gMns : RV → RV → FH → Option RV := gI fun i j => some (i - j)
theorem je_sub (ha : JE X W E Γ a fa) (hb : JE X W E Γ b fb) : JE X W E Γ (.BinOp a .Sub b pos) (bnd fa fun x => bnd fb fun y => oB gMns x y) :=
  je_bin op_sub (fun μ h H0 H x y u v Q z hr th rx ry e k => by
    obtain ⟨i, j, l, rfl, rfl, e1, rfl⟩ := gI_inv e
    cases e1
    exact ⟨i, j, rr_int rx, rr_int ry, k _ _ (Same.refl _) (.v (.int _))⟩) ha hb
instance {i j : Int} : Decidable (CMul i j) := by unfold CMul; infer_instance
instance {i j : Int} : Decidable (CDiv i j) := by unfold CDiv; infer_instance
instance {i j : Int} : Decidable (CPow i j) := by unfold CPow; infer_instance
def cMul (i j : Int) : Option Int := if CMul i j then some (i * j) else none
def cMod (i j : Int) : Option Int := if 0 < j then some (i % j) else none
def cDiv (i j : Int) : Option Int := if CDiv i j then some (i / j) else none
def cPow (i j : Int) : Option Int := if CPow i j then some (i ^ j.toNat) else none
def gMod : RV → RV → FH → Option RV := gI cMod
def gDiv : RV → RV → FH → Option RV := gI cDiv
def gPow : RV → RV → FH → Option RV := gI cPow
theorem je_mod (ha : JE X W E Γ a fa) (hb : JE X W E Γ b fb) : JE X W E Γ (.BinOp a .Mod b pos) (bnd fa fun x => bnd fb fun y => oB gMod x y) :=
  je_bin op_mod (fun μ h H0 H x y u v Q z hr th rx ry e k => by
    obtain ⟨i, j, l, rfl, rfl, e1, rfl⟩ := gI_inv e
    unfold cMod at e1
    split at e1
    · cases e1
      exact ⟨i, j, rr_int rx, rr_int ry, by assumption, k _ _ (Same.refl _) (.v (.int _))⟩
    · cases e1) ha hb
theorem je_div (ha : JE X W E Γ a fa) (hb : JE X W E Γ b fb) : JE X W E Γ (.BinOp a .FloorDiv b pos) (bnd fa fun x => bnd fb fun y => oB gDiv x y) :=
  je_bin op_fdiv (fun μ h H0 H x y u v Q z hr th rx ry e k => by
    obtain ⟨i, j, l, rfl, rfl, e1, rfl⟩ := gI_inv e
    unfold cDiv at e1
    split at e1
    · cases e1
      exact ⟨i, j, rr_int rx, rr_int ry, by assumption, k _ _ (Same.refl _) (.v (.int _))⟩
    · cases e1) ha hb
theorem je_pow (ha : JE X W E Γ a fa) (hb : JE X W E Γ b fb) : JE X W E Γ (.BinOp a .Pow b pos) (bnd fa fun x => bnd fb fun y => oB gPow x y) :=
  je_bin op_pow (fun μ h H0 H x y u v Q z hr th rx ry e k => by
    obtain ⟨i, j, l, rfl, rfl, e1, rfl⟩ := gI_inv e
    unfold cPow at e1
    split at e1
    · cases e1
      exact ⟨i, j, rr_int rx, rr_int ry, by assumption, k _ _ (Same.refl _) (.v (.int _))⟩
    · cases e1) ha hb
/-- + of lists -/
def rCatR : R2 := fun x y H Q => ∃ l b xs zs, x = .ref l ∧ y = .ref b ∧ Rd H l (.lst xs) ∧ Rd H b (.lst zs) ∧ xs.length + zs.length ≤ sizeLine ∧ ∀ p, H p = none → Q (.ref p) (upd H p (.lst (xs ++ zs)))
theorem op_catR : OpR X (binaryOp .Add) rCatR := by
  rintro pins s σ H _ _ v u Q I rx ry ⟨l, b, xs, zs, rfl, rfl, r1, r2, hz, q⟩
  obtain rfl : v = .ref l := rx
  obtain rfl : u = .ref b := ry
  obtain ⟨_, its, n, w1, e1⟩ := r1.ok I.hok
  obtain ⟨_, its2, n2, w2, e2⟩ := r2.ok I.hok
  have l1 := w1.length
  have l2 := w2.length
  have hs : its.toArray.size + its2.toArray.size ≤ sizeLine := by simp only [List.size_toArray]; omega
  refine PySem.P.add_list e1 e2 ?_ hs
  rw [show its.toArray ++ its2.toArray = (its ++ its2).toArray by simp]
  have I2 := I.lnew (t' := s.toks) (w1.append w2) (by rw [List.length_append]; exact hz)
  exact ⟨.ref _, _, I2, rfl, q _ I.fresh⟩
def gAdd : RV → RV → FH → Option RV
  | .v (.int i), .v (.int j), _ => some (.v (.int (i + j)))
  | .v (.int i), .v (.bl b), _ => some (.v (.int (i + b2i b)))
  | .v (.str i), .v (.str j), _ => if i.length + j.length ≤ LIM then some (.v (.str (i ++ j))) else none
  | .v (.tup i), .v (.tup j), _ => if i.length + j.length ≤ LIM then some (.v (.tup (i ++ j))) else none
  | x, y, h => match x.lst h, y.lst h with
    | some i, some j => if i.length + j.length ≤ LIM then some (.l (i ++ j)) else none
    | _, _ => none
theorem je_add (ha : JE X W E Γ a fa) (hb : JE X W E Γ b fb) : JE X W E Γ (.BinOp a .Add b pos) (bnd fa fun x => bnd fb fun y => oB gAdd x y) :=
  je_bin (OpR.or op_add (OpR.or op_add_ib (OpR.or op_add_str (OpR.or op_catA op_catR)))) (fun μ h H0 H x y u v Q z hr th rx ry e k => by
    unfold gAdd at e
    split at e
    · cases e
      exact .inl ⟨_, _, rr_int rx, rr_int ry, k _ _ (Same.refl _) (.v (.int _))⟩
    · cases e
      exact .inr (.inl ⟨_, _, rr_int rx, rr_bl ry, k _ _ (Same.refl _) (.v (.int _))⟩)
    · split at e
      · cases e
        exact .inr (.inr (.inl ⟨_, _, rr_str rx, rr_str ry, lim_le (by assumption), k _ _ (Same.refl _) (.v (.str _))⟩))
      · cases e
    · rename_i ds1 ds2
      split at e
      · rename_i hl
        cases e
        obtain ⟨p, xs, rfl, hx, hp⟩ := seqT_ok hr rx rfl
        obtain ⟨q, ys, rfl, hy, hq⟩ := seqT_ok hr ry rfl
        refine .inr (.inr (.inr (.inl ⟨p, q, xs, ys, rfl, rfl, hp, hq, by rw [hx.len, hy.len]; exact lim_le hl, fun e => ?_, fun _ e => ?_, fun _ _ p' hp' => ?_⟩)))
        · subst e
          have e0 : ds1 = [] := by cases hx; rfl
          subst e0
          exact k _ _ (Same.refl _) (.v (.tup hq hy))
        · subst e
          have e0 : ds2 = [] := by cases hy; rfl
          subst e0
          rw [List.append_nil] at k
          exact k _ _ (Same.refl _) (.v (.tup hp hx))
        · exact k _ _ (same_new hp') (rr_tup hp' (hx.append hy))
      · cases e
    · split at e
      · rename_i i j e1 e2
        split at e
        · rename_i hl
          cases e
          obtain ⟨p, xs, rfl, hp, hx⟩ := lst_ok hr rx e1
          obtain ⟨q, ys, rfl, hq, hy⟩ := lst_ok hr ry e2
          exact .inr (.inr (.inr (.inr ⟨p, q, xs, ys, rfl, rfl, hp, hq, by rw [hx.len, hy.len]; exact lim_le hl, fun r hrf => k _ _ (same_new hrf) (rr_lst hr th hrf (hx.append hy))⟩)))
        · cases e
      · cases e) ha hb
theorem VRs.rep {B : Bs} {H : Hp} {μ : Nat → Addr} {n : Nat} {ds : List FV} {xs : List V} (q : VRs B H μ n ds xs) : ∀ k : Nat, VRs B H μ n (List.replicate k ds).flatten (List.replicate k xs).flatten
  | 0 => .nil
  | k + 1 => by
    rw [List.replicate_succ, List.replicate_succ, List.flatten_cons, List.flatten_cons]
    exact q.append (VRs.rep q k)
/-- * of ints; of a new list and an int -/
def gMul : RV → RV → FH → Option RV
  | .v (.int i), .v (.int j), _ => (cMul i j).map fun k => .v (.int k)
  | .l ds, .v (.int k), _ => if -(2 ^ 63) ≤ k ∧ k < 2 ^ 63 ∧ ds.length * k.toNat ≤ LIM then some (.l (List.replicate k.toNat ds).flatten) else none
  | _, _, _ => none
theorem je_mul (ha : JE X W E Γ a fa) (hb : JE X W E Γ b fb) : JE X W E Γ (.BinOp a .Mult b pos) (bnd fa fun x => bnd fb fun y => oB gMul x y) :=
  je_bin (OpR.or op_mul op_rep) (fun μ h H0 H x y u v Q z hr th rx ry e k => by
    unfold gMul at e
    split at e
    · rename_i i j
      unfold cMul at e
      by_cases hc : CMul i j
      · rw [if_pos hc] at e
        cases e
        exact .inl ⟨_, _, rr_int rx, rr_int ry, hc, k _ _ (Same.refl _) (.v (.int _))⟩
      · rw [if_neg hc] at e; cases e
    · split at e
      · rename_i hc
        cases e
        cases rx with
        | l f hp hx =>
          exact .inr ⟨_, _, _, rfl, rr_int ry, hp, hc.1, hc.2.1, by rw [hx.len]; exact lim_le hc.2.2, fun r hrf => k _ _ (same_new hrf) (rr_lst hr th hrf (hx.rep _))⟩
      · cases e
    · cases e) ha hb
def UnOk (X : Cx) (r : V → Hp → VK → Prop) (g : RV → FH → Option RV) : Prop :=
  ∀ μ h H0 H x u (Q : VK) z, HR (bs X) μ h H → (∀ a, H0 a ≠ none → H a ≠ none) → RR (bs X) H0 μ h.length H x u → g x h = some z → (∀ w H', Same H H' → RR (bs X) H0 μ h.length H' z w → Q w H') → r u H Q
def oU (g : RV → FH → Option RV) (x : RV) : M RV := lift (g x)
def gNeg : RV → FH → Option RV
  | .v (.int i), _ => some (.v (.int (-i)))
  | _, _ => none
theorem je_neg (ha : JE X W E Γ a fa) : JE X W E Γ (.UnaryOp .USub a pos) (bnd fa fun x => oU gNeg x) := fun μ h σ H Q s p =>
  wE.of (pe_un un_neg pe_w) (ha μ h σ H _ s (Po.mono (Po.bind p) fun x h1 μ1 H1 _ s1 hr1 p1 u ru => by
    obtain ⟨z, hz, p2⟩ := p1.lift
    unfold gNeg at hz
    split at hz
    · cases hz
      exact ⟨_, rr_int ru, p2.last hr1 (Same.refl _) _ (.v (.int _))⟩
    · cases hz))

/-! ### comparisons -/
def CmpOk (X : Cx) (r : R2) (g : RV → RV → FH → Option Bool) : Prop :=
  ∀ μ h H0 H x y u v (Q : VK) z, HR (bs X) μ h H → RR (bs X) H0 μ h.length H x u → RR (bs X) H0 μ h.length H y v → g x y h = some z → (∀ H', Same H H' → Q (.bl z) H') → r u v H Q
def oC (g : RV → RV → FH → Option Bool) (x y : RV) : M Bool := lift (g x y)
/-- a test as a value -/
def mB (t : M Bool) : M RV := bnd t fun b => pur (.v (.bl b))
theorem Po.bl {B : Bs} {μ : Nat → Addr} {n : Nat} {H : Hp} {R : RV → FH → (Nat → Addr) → Hp → Prop} {E : XK} {t : M Bool} {h : FH} (p : Po B μ n H R E (mB t h)) :
    Po B μ n H (fun b h' μ' H' => R (.v (.bl b)) h' μ' H') E (t h) := by
  unfold mB bnd at p
  cases q : t h with
  | no => rw [q] at p; exact p
  | ex x h' => rw [q] at p; exact p
  | ok b h' => rw [q] at p; exact p
theorem jt_cmp {op : CmpOp} {r : R2} {g : RV → RV → FH → Option Bool} (ho : OpR X (compareOp op) r) (hg : CmpOk X r g) (ha : JE X W E Γ a fa) (hb : JE X W E Γ b fb) (hm : behindInMarks op b = false) : JT X W E Γ (.Compare a [op] [b] pos) (bnd fa fun x => bnd fb fun y => oC g x y) := fun μ h σ H Q s p =>
  wT.of (pt_cmpR ho pe_w pe_w hm) (ha μ h σ H _ s (Po.mono (Po.bind p) fun x h1 μ1 H1 _ s1 hr1 p1 u ru =>
    hb μ1 h1 σ H1 _ (s.step s1 hr1) (Po.mono (Po.bind p1) fun y h2 μ2 H2 _ s2 hr2 p2 v rv => by
      obtain ⟨z, hz, p3⟩ := p2.lift
      exact hg μ2 h2 H H2 x y u v _ z hr2 (ru.step s2) (rv.since s1.th) hz fun H' e => ⟨z, rfl, p3.last hr2 e⟩)))
theorem je_cmp {op : CmpOp} {r : R2} {g : RV → RV → FH → Option Bool} (ho : OpR X (compareOp op) r) (hg : CmpOk X r g) (ha : JE X W E Γ a fa) (hb : JE X W E Γ b fb) (hm : behindInMarks op b = false) : JE X W E Γ (.Compare a [op] [b] pos) (mB (bnd fa fun x => bnd fb fun y => oC g x y)) := fun μ h σ H Q s p =>
  wE.of (pe_cmpR ho pe_w pe_w hm) (ha μ h σ H _ s (Po.mono (Po.bind p.bl) fun x h1 μ1 H1 _ s1 hr1 p1 u ru =>
    hb μ1 h1 σ H1 _ (s.step s1 hr1) (Po.mono (Po.bind p1) fun y h2 μ2 H2 _ s2 hr2 p2 v rv => by
      obtain ⟨z, hz, p3⟩ := p2.lift
      exact hg μ2 h2 H H2 x y u v _ z hr2 (ru.step s2) (rv.since s1.th) hz fun H' e => p3.last hr2 e _ (.v (.bl z)))))
/-! order: ints; texts (below only) -/
def gOrd (f : Int → Int → Bool) : RV → RV → FH → Option Bool
  | .v (.int i), .v (.int j), _ => some (f i j)
  | _, _, _ => none
theorem ord_ok {f : Int → Int → Bool} : CmpOk X (rI0 fun i j => .bl (f i j)) (gOrd f) := fun μ h H0 H x y u v Q z hr rx ry e k => by
  unfold gOrd at e
  split at e
  · cases e
    exact ⟨_, _, rr_int rx, rr_int ry, k _ (Same.refl _)⟩
  · cases e
def gLt : RV → RV → FH → Option Bool
  | .v (.int i), .v (.int j), _ => some (decide (i < j))
  | .v (.str i), .v (.str j), _ => some (decide (i.cps.toList < j.cps.toList))
  | _, _, _ => none
theorem lt_ok : CmpOk X (fun x y H Q => rI0 (fun i j => .bl (decide (i < j))) x y H Q ∨ ∃ i j, x = .str i ∧ y = .str j ∧ Q (.bl (decide (i.cps.toList < j.cps.toList))) H) gLt := fun μ h H0 H x y u v Q z hr rx ry e k => by
  unfold gLt at e
  split at e
  · cases e
    exact .inl ⟨_, _, rr_int rx, rr_int ry, k _ (Same.refl _)⟩
  · cases e
    exact .inr ⟨_, _, rr_str rx, rr_str ry, k _ (Same.refl _)⟩
  · cases e
def gLe : RV → RV → FH → Option Bool
  | .v (.int i), .v (.int j), _ => some (decide (i ≤ j))
  | .v (.str i), .v (.str j), _ => some (!decide (j.cps.toList < i.cps.toList))
  | _, _, _ => none
theorem le_ok : CmpOk X (fun x y H Q => rI0 (fun i j => .bl (decide (i ≤ j))) x y H Q ∨ ∃ i j, x = .str i ∧ y = .str j ∧ Q (.bl (!decide (j.cps.toList < i.cps.toList))) H) gLe := fun μ h H0 H x y u v Q z hr rx ry e k => by
  unfold gLe at e
  split at e
  · cases e
    exact .inl ⟨_, _, rr_int rx, rr_int ry, k _ (Same.refl _)⟩
  · cases e
    exact .inr ⟨_, _, rr_str rx, rr_str ry, k _ (Same.refl _)⟩
  · cases e
def gGt : RV → RV → FH → Option Bool := gOrd fun i j => decide (j < i)
def gGe : RV → RV → FH → Option Bool := gOrd fun i j => decide (j ≤ i)
section
variable (ha : JE X W E Γ a fa) (hb : JE X W E Γ b fb)
theorem jt_lt (ha : JE X W E Γ a fa) (hb : JE X W E Γ b fb) : JT X W E Γ (.Compare a [.Lt] [b] pos) (bnd fa fun x => bnd fb fun y => oC gLt x y) := jt_cmp (OpR.or op_lt op_lt_str) lt_ok ha hb (nomark _)
theorem jt_le (ha : JE X W E Γ a fa) (hb : JE X W E Γ b fb) : JT X W E Γ (.Compare a [.LtE] [b] pos) (bnd fa fun x => bnd fb fun y => oC gLe x y) := jt_cmp (OpR.or op_le op_le_str) le_ok ha hb (nomark _)
theorem jt_gt (ha : JE X W E Γ a fa) (hb : JE X W E Γ b fb) : JT X W E Γ (.Compare a [.Gt] [b] pos) (bnd fa fun x => bnd fb fun y => oC gGt x y) := jt_cmp op_gt ord_ok ha hb (nomark _)
theorem jt_ge (ha : JE X W E Γ a fa) (hb : JE X W E Γ b fb) : JT X W E Γ (.Compare a [.GtE] [b] pos) (bnd fa fun x => bnd fb fun y => oC gGe x y) := jt_cmp op_ge ord_ok ha hb (nomark _)
theorem je_lt (ha : JE X W E Γ a fa) (hb : JE X W E Γ b fb) : JE X W E Γ (.Compare a [.Lt] [b] pos) (mB (bnd fa fun x => bnd fb fun y => oC gLt x y)) := je_cmp (OpR.or op_lt op_lt_str) lt_ok ha hb (nomark _)
theorem je_le (ha : JE X W E Γ a fa) (hb : JE X W E Γ b fb) : JE X W E Γ (.Compare a [.LtE] [b] pos) (mB (bnd fa fun x => bnd fb fun y => oC gLe x y)) := je_cmp (OpR.or op_le op_le_str) le_ok ha hb (nomark _)
theorem je_gt (ha : JE X W E Γ a fa) (hb : JE X W E Γ b fb) : JE X W E Γ (.Compare a [.Gt] [b] pos) (mB (bnd fa fun x => bnd fb fun y => oC gGt x y)) := je_cmp op_gt ord_ok ha hb (nomark _)
theorem je_ge (ha : JE X W E Γ a fa) (hb : JE X W E Γ b fb) : JE X W E Γ (.Compare a [.GtE] [b] pos) (mB (bnd fa fun x => bnd fb fun y => oC gGe x y)) := je_cmp op_ge ord_ok ha hb (nomark _)
end
/-! is None -/
def gIsN (neg : Bool) : RV → RV → FH → Option Bool
  | .v .non, .v .non, _ => some (!neg)
  | _, .v .non, _ => some neg
  | _, _, _ => none
theorem nn {B : Bs} {H0 H : Hp} {μ : Nat → Addr} {n : Nat} {x : RV} {u : V} (r : RR B H0 μ n H x u) (k : x = .v .non → False) : u ≠ .non := fun z => by
  subst z
  cases r with
  | v q => cases q; exact k rfl
theorem isN_ok : CmpOk X (fun x y H Q => y = .non ∧ Q (.bl (decide (x = .non))) H) (gIsN false) := fun μ h H0 H x y u v Q z hr rx ry e k => by
  unfold gIsN at e
  split at e
  · cases e
    refine ⟨rr_non ry, ?_⟩
    rw [rr_non rx]
    exact k _ (Same.refl _)
  · rename_i hx'
    cases e
    refine ⟨rr_non ry, ?_⟩
    rw [decide_eq_false (nn rx hx')]
    exact k _ (Same.refl _)
  · cases e
theorem notN_ok : CmpOk X (fun x y H Q => y = .non ∧ Q (.bl (!decide (x = .non))) H) (gIsN true) := fun μ h H0 H x y u v Q z hr rx ry e k => by
  unfold gIsN at e
  split at e
  · cases e
    refine ⟨rr_non ry, ?_⟩
    rw [rr_non rx]
    exact k _ (Same.refl _)
  · rename_i hx'
    cases e
    refine ⟨rr_non ry, ?_⟩
    rw [decide_eq_false (nn rx hx')]
    exact k _ (Same.refl _)
  · cases e
theorem jt_isN (ha : JE X W E Γ a fa) (hb : JE X W E Γ b fb) : JT X W E Γ (.Compare a [.Is] [b] pos) (bnd fa fun x => bnd fb fun y => oC (gIsN false) x y) := jt_cmp op_isN isN_ok ha hb (nomark _)
theorem jt_notN (ha : JE X W E Γ a fa) (hb : JE X W E Γ b fb) : JT X W E Γ (.Compare a [.IsNot] [b] pos) (bnd fa fun x => bnd fb fun y => oC (gIsN true) x y) := jt_cmp op_notN notN_ok ha hb (nomark _)
theorem je_isN (ha : JE X W E Γ a fa) (hb : JE X W E Γ b fb) : JE X W E Γ (.Compare a [.Is] [b] pos) (mB (bnd fa fun x => bnd fb fun y => oC (gIsN false) x y)) := je_cmp op_isN isN_ok ha hb (nomark _)
theorem je_notN (ha : JE X W E Γ a fa) (hb : JE X W E Γ b fb) : JE X W E Γ (.Compare a [.IsNot] [b] pos) (mB (bnd fa fun x => bnd fb fun y => oC (gIsN true) x y)) := je_cmp op_notN notN_ok ha hb (nomark _)
end
end P

/-! P: data, ==, in, tests, arguments, displays, subscripts, slices, built-ins of one argument. -/
namespace P
open PySem PySem.Spec PyProof.Rows L2 G

/-! ### data -/
mutual
def FV.py : FV → PyData
  | .non => .none
  | .bl b => .bool b
  | .int i => .int i
  | .str x => .str x
  | .tup xs => .tuple (FV.pys xs)
  | .fl xs => .list (FV.pys xs)
  | .sl xs => .list (FV.pys xs)
  | _ => .none
def FV.pys : List FV → List PyData
  | [] => []
  | x :: xs => x.py :: FV.pys xs
end
mutual
def FV.pure : FV → Bool
  | .non => true
  | .bl _ => true
  | .int _ => true
  | .str _ => true
  | .tup xs => FV.pures xs
  | .fl xs => FV.pures xs
  | .sl xs => FV.pures xs
  | _ => false
def FV.pures : List FV → Bool
  | [] => true
  | x :: xs => x.pure && FV.pures xs
end
section
variable {B : Bs} {H H0 : Hp} {μ : Nat → Addr} {n : Nat} {h : FH}
mutual
theorem VR.dp : ∀ {d : FV} {v : V}, d.pure = true → VR B H μ n d v → Dp B.K H v d.py
  | .non, _, _, r => by cases r; simp only [FV.py]; exact .non
  | .bl b, _, _, r => by cases r; simp only [FV.py]; exact .bl b
  | .int i, _, _, r => by cases r; simp only [FV.py]; exact .int i
  | .str x, _, _, r => by cases r; simp only [FV.py]; exact .str x
  | .tup ds, _, p, r => by
    cases r with
    | tup a b =>
      simp only [FV.py]
      exact .tup a (VRs.dp (by simpa [FV.pure] using p) b)
  | .fl ds, _, p, r => by
    cases r with
    | fl a b =>
      simp only [FV.py]
      exact .lst (.inl a.rd) (VRs.dp (by simpa [FV.pure] using p) b)
  | .sl ds, _, p, r => by
    cases r with
    | sl a b =>
      simp only [FV.py]
      exact .lst a.sqL (VRs.dp (by simpa [FV.pure] using p) b)
  | .fd _ _, _, p, r => by simp [FV.pure] at p
  | .ft _ _, _, p, r => by simp [FV.pure] at p
  | .fo _ _ _, _, p, r => by simp [FV.pure] at p
  | .ref i, _, p, r => by simp [FV.pure] at p
theorem VRs.dp : ∀ {ds : List FV} {vs : List V}, FV.pures ds = true → VRs B H μ n ds vs → DpAll B.K H vs (FV.pys ds)
  | [], _, _, r => by cases r; simp only [FV.pys]; exact .nil
  | d :: ds, _, p, r => by
    cases r with
    | cons a b =>
      have p' : d.pure = true ∧ FV.pures ds = true := by simpa [FV.pures] using p
      simp only [FV.pys]
      exact .cons (VR.dp p'.1 a) (VRs.dp p'.2 b)
end
mutual
theorem FV.py_plain : ∀ {d : FV}, d.py.plain = true
  | .non => by simp [FV.py, PyData.plain]
  | .bl b => by simp [FV.py, PyData.plain]
  | .int i => by simp [FV.py, PyData.plain]
  | .str x => by simp [FV.py, PyData.plain]
  | .tup ds => by simpa [FV.py, PyData.plain] using FV.pys_plain (ds := ds)
  | .fl ds => by simpa [FV.py, PyData.plain] using FV.pys_plain (ds := ds)
  | .sl ds => by simpa [FV.py, PyData.plain] using FV.pys_plain (ds := ds)
  | .fd _ _ => by simp [FV.py, PyData.plain]
  | .ft _ _ => by simp [FV.py, PyData.plain]
  | .fo _ _ _ => by simp [FV.py, PyData.plain]
  | .ref i => by simp [FV.py, PyData.plain]
theorem FV.pys_plain : ∀ {ds : List FV}, PyData.plainAll (FV.pys ds) = true
  | [] => by simp [FV.pys, PyData.plainAll]
  | d :: ds => by simp [FV.pys, PyData.plainAll, FV.py_plain (d := d), FV.pys_plain (ds := ds)]
end
/-- the data of a list -/
def lsD (ds : List FV) : Option PyData := if FV.pures ds = true then some (.list (FV.pys ds)) else none
/-- data that a result is -/
def RV.dat : RV → FH → Option PyData
  | .v (.ref m), h => match h[m]? with | some (.lst ds) => lsD ds | _ => none
  | .v x, _ => if x.pure = true then some x.py else none
  | .l ds, _ => lsD ds
  | .bl ds, _ => lsD ds
  | _, _ => none
theorem lsD_ok {ds : List FV} {a : Addr} {xs : List V} {d : PyData} (e : lsD ds = some d) (h1 : SqL B.K H a xs) (h2 : VRs B H μ n ds xs) : Dp B.K H (.ref a) d ∧ d.plain = true := by
  unfold lsD at e
  split at e
  · rename_i hp
    cases e
    exact ⟨.lst h1 (h2.dp hp), by simpa [PyData.plain] using FV.pys_plain⟩
  · cases e
theorem dat_ok {x : RV} {u : V} {d : PyData} (hr : HR B μ h H) (r : RR B H0 μ h.length H x u) (e : x.dat h = some d) : Dp B.K H u d ∧ d.plain = true := by
  unfold RV.dat at e
  split at e
  · rename_i m h'
    split at e
    · rename_i ds q
      obtain ⟨xs, h1, h2⟩ := hr.lst q
      obtain ⟨rfl, lm⟩ := ref_inv r
      exact lsD_ok e (SqL.of h1) h2
    · cases e
  · split at e
    · rename_i hp
      cases e
      cases r with
      | v r' => exact ⟨r'.dp hp, FV.py_plain⟩
    · cases e
  · cases r with
    | l f a b => exact lsD_ok e (SqL.of a) b
  · cases r with
    | bl f a b => exact lsD_ok e (SqL.of a) b
  · cases e
end
section
variable {X : Cx} {W : WX} {E : Ent} {Γ : Sl} {e a b c : Expr} {es : List Expr} {pos p0 p1 p2 : Pos} {fa fb fc : M RV} {k : Nat}
/-! ### ==, != -/
def rEqG (K : PySem.W.Frag) (neg : Bool) : R2 := fun x y H Q => ∃ d e, Dp K H x d ∧ Dp K H y e ∧ d.plain = true ∧ e.plain = true ∧ min d.depth e.depth ≤ 64 ∧ Q (.bl (if neg then !PyData.eqv d e else PyData.eqv d e)) H
theorem op_eqG (hu : X.A.units + 64 < cLine) : OpR X (compareOp .Eq) (rEqG X.K false) := by
  intro pins s σ H x y v u Q I rx ry h
  obtain ⟨d, e, hd, he, pd, pe, sd, q⟩ := h
  obtain ⟨as, r1⟩ := Dp.reads I d x v hd rx
  obtain ⟨bs, r2⟩ := Dp.reads I e y u he ry
  exact SeqAt.eq_plain r1 r2 pd pe (by omega) ⟨.bl _, H, I, rfl, q⟩
theorem op_neG (hu : X.A.units + 64 < cLine) : OpR X (compareOp .NotEq) (rEqG X.K true) := by
  intro pins s σ H x y v u Q I rx ry h
  obtain ⟨d, e, hd, he, pd, pe, sd, q⟩ := h
  obtain ⟨as, r1⟩ := Dp.reads I d x v hd rx
  obtain ⟨bs, r2⟩ := Dp.reads I e y u he ry
  exact SeqAt.ne_plain r1 r2 pd pe (by omega) ⟨.bl _, H, I, rfl, q⟩
def gEq (neg : Bool) (x y : RV) (h : FH) : Option Bool := match x.dat h, y.dat h with
  | some d, some e => if min d.depth e.depth ≤ 64 then some (if neg then !PyData.eqv d e else PyData.eqv d e) else none
  | _, _ => none
theorem eq_ok {neg : Bool} : CmpOk X (rEqG X.K neg) (gEq neg) := fun μ h H0 H x y u v Q z hr rx ry e k => by
  unfold gEq at e
  split at e
  · rename_i d d' e1 e2
    split at e
    · rename_i hd
      cases e
      obtain ⟨a1, a2⟩ := dat_ok hr rx e1
      obtain ⟨b1, b2⟩ := dat_ok hr ry e2
      exact ⟨d, d', a1, b1, a2, b2, hd, k H (Same.refl H)⟩
    · cases e
  · cases e
theorem jt_eq (hr : Room k X.A) (ha : JE X W E Γ a fa) (hb : JE X W E Γ b fb) : JT X W E Γ (.Compare a [.Eq] [b] pos) (bnd fa fun x => bnd fb fun y => oC (gEq false) x y) := jt_cmp (op_eqG hr.units) eq_ok ha hb (nomark _)
theorem jt_ne (hr : Room k X.A) (ha : JE X W E Γ a fa) (hb : JE X W E Γ b fb) : JT X W E Γ (.Compare a [.NotEq] [b] pos) (bnd fa fun x => bnd fb fun y => oC (gEq true) x y) := jt_cmp (op_neG hr.units) eq_ok ha hb (nomark _)
theorem je_eq (hr : Room k X.A) (ha : JE X W E Γ a fa) (hb : JE X W E Γ b fb) : JE X W E Γ (.Compare a [.Eq] [b] pos) (mB (bnd fa fun x => bnd fb fun y => oC (gEq false) x y)) := je_cmp (op_eqG hr.units) eq_ok ha hb (nomark _)
theorem je_ne (hr : Room k X.A) (ha : JE X W E Γ a fa) (hb : JE X W E Γ b fb) : JE X W E Γ (.Compare a [.NotEq] [b] pos) (mB (bnd fa fun x => bnd fb fun y => oC (gEq true) x y)) := je_cmp (op_neG hr.units) eq_ok ha hb (nomark _)

/-! ### in -/
def rInG (K : PySem.W.Frag) (neg : Bool) : R2 := fun x y H Q => (∃ d ds b, Dp K H x d ∧ Dp K H y (if b = true then .tuple ds else .list ds) ∧ d.plain = true ∧ PyData.plainAll ds = true ∧ min (PyData.depthAll ds) d.depth ≤ 64 ∧ Q (.bl (if neg then !(ds.any fun z => PyData.eqv z d) else ds.any fun z => PyData.eqv z d)) H) ∨
  ∃ a o, y = .ref a ∧ DGet H a x o ∧ Q (.bl (if neg then !o.isSome else o.isSome)) H
theorem op_inG (hu : X.A.units + 66 < cLine) : OpR X (compareOp .In) (rInG X.K false) := by
  intro pins s σ H x y v u Q I rx ry h
  rcases h with ⟨d, ds, b, hd, he, pd, pe, sd, q⟩ | ⟨a, o, rfl, g, q⟩
  · obtain ⟨as, r1⟩ := Dp.reads I d x v hd rx
    cases b with
    | true =>
      obtain ⟨bs, r2⟩ := Dp.reads I (.tuple ds) y u he ry
      exact SeqAt.in_tuple_data r2 r1 pe pd (by omega) ⟨.bl _, H, I, rfl, q⟩
    | false =>
      obtain ⟨bs, r2⟩ := Dp.reads I (.list ds) y u he ry
      exact SeqAt.in_list_data r2 r1 pe pd (by omega) ⟨.bl _, H, I, rfl, q⟩
  · obtain rfl : u = Value.ref a := ry
    exact d_in (by omega) I g rx fun s3 I3 => ⟨.bl o.isSome, H, I3, rfl, q⟩
theorem op_notInG (hu : X.A.units + 66 < cLine) : OpR X (compareOp .NotIn) (rInG X.K true) := by
  intro pins s σ H x y v u Q I rx ry h
  rcases h with ⟨d, ds, b, hd, he, pd, pe, sd, q⟩ | ⟨a, o, rfl, g, q⟩
  · obtain ⟨as, r1⟩ := Dp.reads I d x v hd rx
    cases b with
    | true =>
      obtain ⟨bs, r2⟩ := Dp.reads I (.tuple ds) y u he ry
      exact SeqAt.notIn_tuple_data r2 r1 pe pd (by omega) ⟨.bl _, H, I, rfl, q⟩
    | false =>
      obtain ⟨bs, r2⟩ := Dp.reads I (.list ds) y u he ry
      exact SeqAt.notIn_list_data r2 r1 pe pd (by omega) ⟨.bl _, H, I, rfl, q⟩
  · obtain rfl : u = Value.ref a := ry
    exact d_notIn (by omega) I g rx fun s3 I3 => ⟨.bl (!o.isSome), H, I3, rfl, q⟩
def FV.key : FV → Option Key
  | .int i => some (.inl i)
  | .str x => some (.inr x)
  | _ => none
def lookK {κ : Type} [DecidableEq κ] (kvs : List (κ × FV)) (k : κ) : Option FV := (kvs.find? fun kv => decide (kv.1 = k)).map (·.2)
theorem KvR.look {κ : Type} [DecidableEq κ] {B : Bs} {H : Hp} {μ : Nat → Addr} {n : Nat} (k : κ) : ∀ {ds : List (κ × FV)} {ws : List (κ × V)}, KvR B H μ n ds ws →
    (match lookK ds k with | some d => ∃ v, valV ws k = some v ∧ VR B H μ n d v | none => valV ws k = none)
  | _, _, .nil => rfl
  | d :: ds, w :: ws, .cons a b => by
    unfold lookK valV
    rw [List.find?_cons, List.find?_cons]
    by_cases e : d.1 = k
    · rw [show decide (d.1 = k) = true from decide_eq_true e, show decide (w.1 = k) = true from decide_eq_true (a.1 ▸ e)]
      exact ⟨w.2, rfl, a.2⟩
    · rw [show decide (d.1 = k) = false from decide_eq_false e, show decide (w.1 = k) = false from decide_eq_false (a.1 ▸ e)]
      exact KvR.look k b
theorem look_some {κ : Type} [DecidableEq κ] {B : Bs} {H : Hp} {μ : Nat → Addr} {n : Nat} {k : κ} {ds : List (κ × FV)} {ws : List (κ × V)} {d : FV} (r : KvR B H μ n ds ws) (e : lookK ds k = some d) : ∃ v, valV ws k = some v ∧ VR B H μ n d v := by
  have := r.look k
  rw [e] at this; exact this
theorem look_none {κ : Type} [DecidableEq κ] {B : Bs} {H : Hp} {μ : Nat → Addr} {n : Nat} {k : κ} {ds : List (κ × FV)} {ws : List (κ × V)} (r : KvR B H μ n ds ws) (e : lookK ds k = none) : valV ws k = none := by
  have := r.look k
  rw [e] at this; exact this
theorem look_is {κ : Type} [DecidableEq κ] {B : Bs} {H : Hp} {μ : Nat → Addr} {n : Nat} {k : κ} {ds : List (κ × FV)} {ws : List (κ × V)} (r : KvR B H μ n ds ws) : (valV ws k).isSome = (lookK ds k).isSome := by
  cases q : lookK ds k with
  | none => rw [look_none r q]; rfl
  | some d => obtain ⟨v, e, _⟩ := look_some r q; rw [e]; rfl
theorem key_ok {B : Bs} {H H0 : Hp} {μ : Nat → Addr} {n : Nat} {d : FV} {u : V} {k : Key} (r : RR B H0 μ n H (.v d) u) (e : d.key = some k) : u = kV k := by
  cases r with
  | v q =>
    cases q with
    | int i => cases e; rfl
    | str x => cases e; rfl
    | _ => cases e
/-- the items of a tuple or a list, or a dict's keys -/
def gIn (neg : Bool) (x y : RV) (h : FH) : Option Bool := match y.seq h, y.dict h with
  | some (_, ds), _ => match x.dat h with
    | some d => if FV.pures ds = true ∧ min (PyData.depthAll (FV.pys ds)) d.depth ≤ 64 then some (if neg then !((FV.pys ds).any fun z => PyData.eqv z d) else (FV.pys ds).any fun z => PyData.eqv z d) else none
    | none => none
  | none, some kvs => match x with
    | .v d => match d.key with
      | some k => some (if neg then !(lookK kvs k).isSome else (lookK kvs k).isSome)
      | none => none
    | _ => none
  | none, none => match x, y with
    | .v (.str w), .v (.str z) => match w.cps.toList with
      | [c] => some (if neg then !decide (c ∈ z.cps.toList) else decide (c ∈ z.cps.toList))
      | _ => none
    | _, _ => none
def rInH (K : PySem.W.Frag) (neg : Bool) : R2 := fun x y H Q => rInG K neg x y H Q ∨ ∃ (c : Nat) (z : Str), x = .str ⟨#[c]⟩ ∧ y = .str z ∧ Q (.bl (if neg then !decide (c ∈ z.cps.toList) else decide (c ∈ z.cps.toList))) H
theorem op_inH (hu : X.A.units + 66 < cLine) : OpR X (compareOp .In) (rInH X.K false) := OpR.or (op_inG hu) op_in_sign
theorem op_notInH (hu : X.A.units + 66 < cLine) : OpR X (compareOp .NotIn) (rInH X.K true) := OpR.or (op_notInG hu) op_notIn_sign
theorem in_ok {neg : Bool} : CmpOk X (rInH X.K neg) (gIn neg) := fun μ h H0 H x y u v Q z hr rx ry e k => by
  unfold gIn at e
  split at e
  · rename_i b ds e1
    split at e
    · rename_i d e2
      split at e
      · rename_i hc
        cases e
        obtain ⟨a, xs, rfl, h2, h3⟩ := seq_ok hr ry e1
        obtain ⟨d1, d2⟩ := dat_ok hr rx e2
        refine .inl (.inl ⟨d, FV.pys ds, b, d1, ?_, d2, FV.pys_plain, hc.2, k H (Same.refl H)⟩)
        cases b with
        | true => exact .tup (by rw [if_pos rfl] at h3; exact h3) (h2.dp hc.1)
        | false => exact .lst (by rw [if_neg (by decide)] at h3; exact h3) (h2.dp hc.1)
      · cases e
    · cases e
  · rename_i kvs _ e1
    split at e
    · rename_i d
      split at e
      · rename_i kk e2
        cases e
        obtain ⟨a, ws, rfl, h2, h3⟩ := dict_ok hr ry e1
        have eu := key_ok rx e2
        subst eu
        refine .inl (.inr ⟨a, valV ws kk, rfl, .inl ⟨ws, kk, h2, rfl, rfl⟩, ?_⟩)
        rw [look_is h3]
        exact k H (Same.refl H)
      · cases e
    · cases e
  · split at e
    · rename_i w zz _ _
      split at e
      · rename_i c hc
        cases e
        have ew : w = ⟨#[c]⟩ := by
          obtain ⟨cs⟩ := w
          congr 1
          exact Array.toList_inj.mp hc
        rw [rr_str rx, rr_str ry]
        exact .inr ⟨c, zz, by rw [ew], rfl, k H (Same.refl H)⟩
      · cases e
    · cases e
theorem units66' {k : Nat} {A : Around} (r : Room k A) : A.units + 66 < cLine := by have := r.un; omega
theorem jt_in (hr : Room k X.A) (ha : JE X W E Γ a fa) (hb : JE X W E Γ b fb) (hm : behindInMarks .In b = false := by rfl) : JT X W E Γ (.Compare a [.In] [b] pos) (bnd fa fun x => bnd fb fun y => oC (gIn false) x y) := jt_cmp (op_inH (units66' hr)) in_ok ha hb hm
theorem jt_notIn (hr : Room k X.A) (ha : JE X W E Γ a fa) (hb : JE X W E Γ b fb) (hm : behindInMarks .NotIn b = false := by rfl) : JT X W E Γ (.Compare a [.NotIn] [b] pos) (bnd fa fun x => bnd fb fun y => oC (gIn true) x y) := jt_cmp (op_notInH (units66' hr)) in_ok ha hb hm
theorem je_in (hr : Room k X.A) (ha : JE X W E Γ a fa) (hb : JE X W E Γ b fb) (hm : behindInMarks .In b = false := by rfl) : JE X W E Γ (.Compare a [.In] [b] pos) (mB (bnd fa fun x => bnd fb fun y => oC (gIn false) x y)) := je_cmp (op_inH (units66' hr)) in_ok ha hb hm
theorem je_notIn (hr : Room k X.A) (ha : JE X W E Γ a fa) (hb : JE X W E Γ b fb) (hm : behindInMarks .NotIn b = false := by rfl) : JE X W E Γ (.Compare a [.NotIn] [b] pos) (mB (bnd fa fun x => bnd fb fun y => oC (gIn true) x y)) := je_cmp (op_notInH (units66' hr)) in_ok ha hb hm


/-! ### a < b < c -/
def oChain (g g' : RV → RV → FH → Option Bool) (x y : RV) (fc : M RV) : M Bool := bnd (oC g x y) fun t => if t = true then bnd fc fun z => oC g' y z else pur false
theorem jt_chain {op op' : CmpOp} {r r' : R2} {g g' : RV → RV → FH → Option Bool} (ho : OpR X (compareOp op) r) (hg : CmpOk X r g) (ho' : OpR X (compareOp op') r') (hg' : CmpOk X r' g') (ha : JE X W E Γ a fa) (hb : JE X W E Γ b fb) (hc : JE X W E Γ c fc)
    (hm : lastMarks [op, op'] [b, c] = false := by with_unfolding_all rfl) : JT X W E Γ (.Compare a [op, op'] [b, c] pos) (bnd fa fun x => bnd fb fun y => oChain g g' x y fc) := fun μ h σ H Q s p =>
  wT.of (pt_chain ho ho' pe_w pe_w pe_w hm) (ha μ h σ H _ s (Po.mono (Po.bind p) fun x h1 μ1 H1 _ s1 hr1 p1 u ru =>
    hb μ1 h1 σ H1 _ (s.step s1 hr1) (Po.mono (Po.bind p1) fun y h2 μ2 H2 _ s2 hr2 p2 v rv => by
      obtain ⟨t, ht, p3⟩ := (Po.bind p2).lift
      refine hg μ2 h2 H H2 x y u v _ t hr2 (ru.step s2) (rv.since s1.th) ht fun H' e => ⟨t, rfl, ?_⟩
      have p4 := p3.last hr2 e
      cases t with
      | false =>
        rw [if_neg (by decide)] at p4 ⊢
        exact ⟨_, rfl, Po.here rfl (hr2.same e) p4⟩
      | true =>
        rw [if_pos rfl] at p4 ⊢
        have se : Step μ2 h2.length H2 μ2 h2.length H' := Step.same e
        refine hc μ2 h2 σ H' _ (((s.step s1 hr1).step s2 hr2).step se (hr2.same e)) (Po.mono (Po.bind p4) fun z h4 μ4 H4 _ s4 hr4 p5 w rw' => ?_)
        obtain ⟨t', ht', p6⟩ := p5.lift
        exact hg' μ4 h4 H1 H4 y z v w _ t' hr4 (rv.step (se.trans s4)) (rw'.since fun a q => se.th a (s2.th a q)) ht' fun H'' e' => ⟨t', rfl, p6.last hr4 e'⟩)))

/-! ### tests -/
/-- a truth value -/
def oT (x : RV) : M Bool := match x with | .v (.bl b) => pur b | _ => fail
theorem jt_val (ha : JE X W E Γ a fa) (he : ∀ whole, isTrue a X.env whole = (do let v ← whole; standAt a.pos; holding [v] (truthy v)) := by intro _; rfl) : JT X W E Γ a (bnd fa oT) := fun μ h σ H Q s p =>
  wT.of (pt_val pe_w he) (ha μ h σ H _ s (Po.mono (Po.bind p) fun x h1 μ1 H1 _ s1 hr1 p1 u ru => by
    unfold oT at p1
    split at p1
    · exact ⟨_, rr_bl ru, Po.last p1 hr1 (Same.refl _)⟩
    · exact p1.elim))
def mNot (t : M Bool) : M Bool := bnd t fun b => pur (!b)
theorem Po.notb {B : Bs} {μ : Nat → Addr} {n : Nat} {H : Hp} {R : Bool → FH → (Nat → Addr) → Hp → Prop} {E : XK} {t : M Bool} {h : FH} (p : Po B μ n H R E (mNot t h)) :
    Po B μ n H (fun b h' μ' H' => R (!b) h' μ' H') E (t h) := by
  unfold mNot bnd at p
  cases q : t h with
  | no => rw [q] at p; exact p
  | ex x h' => rw [q] at p; exact p
  | ok b h' => rw [q] at p; exact p
theorem jt_not {t : M Bool} (ha : JT X W E Γ a t) : JT X W E Γ (.UnaryOp .Not a pos) (mNot t) := fun μ h σ H Q s p => wT.of (pt_not pt_w) (ha μ h σ H _ s p.notb)
def mAnd (t u : M Bool) : M Bool := bnd t fun b => if b = true then u else pur false
def mOr (t u : M Bool) : M Bool := bnd t fun b => if b = true then pur true else u
/-- and, or as tests: whatever the whole is -/
def JW (X : Cx) (W : WX) (E : Ent) (Γ : Sl) (e : Expr) (f : M Bool) : Prop := ∃ t, PW X e t ∧ ∀ μ h σ H Q, SR (bs X) E μ Γ h σ H → Po (bs X) μ h.length H (fun b h' μ' H' => Q b H') (fun c d H' => W c d σ H') (f h) → t σ H Q
theorem jt_bool {t : M Bool} (h : JW X W E Γ e t) : JT X W E Γ e t := by
  obtain ⟨t, p, q⟩ := h
  exact fun μ h σ H Q s p' => wT.of p.pt (q μ h σ H Q s p')
variable {rest : List Expr} {t u : M Bool}
theorem jw_and1 (h : JT X W E Γ a t) : JW X W E Γ (.BoolOp .And [a] pos) t := ⟨_, pw_and1 pt_w, h⟩
theorem jw_or1 (h : JT X W E Γ a t) : JW X W E Γ (.BoolOp .Or [a] pos) t := ⟨_, pw_or1 pt_w, h⟩
theorem jw_and (h : JT X W E Γ a t) (g : JW X W E Γ (.BoolOp .And (b :: rest) pos) u) : JW X W E Γ (.BoolOp .And (a :: b :: rest) pos) (mAnd t u) := by
  obtain ⟨tt, p, q⟩ := g
  refine ⟨_, pw_and pt_w p, fun μ h0 σ H Q s p' => h μ h0 σ H _ s (Po.mono (Po.bind p') fun b h1 μ1 H1 _ s1 hr1 p1 => ?_)⟩
  cases b with
  | true =>
    rw [if_pos rfl] at p1 ⊢
    exact q μ1 h1 σ H1 Q (s.step s1 hr1) p1
  | false =>
    rw [if_neg (by decide)] at p1 ⊢
    exact Po.last p1 hr1 (Same.refl _)
theorem jw_or (h : JT X W E Γ a t) (g : JW X W E Γ (.BoolOp .Or (b :: rest) pos) u) : JW X W E Γ (.BoolOp .Or (a :: b :: rest) pos) (mOr t u) := by
  obtain ⟨tt, p, q⟩ := g
  refine ⟨_, pw_or pt_w p, fun μ h0 σ H Q s p' => h μ h0 σ H _ s (Po.mono (Po.bind p') fun b h1 μ1 H1 _ s1 hr1 p1 => ?_)⟩
  cases b with
  | true =>
    rw [if_pos rfl] at p1 ⊢
    exact Po.last p1 hr1 (Same.refl _)
  | false =>
    rw [if_neg (by decide)] at p1 ⊢
    exact q μ1 h1 σ H1 Q (s.step s1 hr1) p1
/-! .. as values -/
def oAndV (x : RV) (fb : M RV) : M RV := match x with | .v (.bl b) => if b = true then fb else pur (.v (.bl false)) | _ => fail
def oOrV (x : RV) (fb : M RV) : M RV := match x with | .v (.bl b) => if b = true then pur (.v (.bl true)) else fb | _ => fail
theorem je_one {op : BoolOp} (h : JE X W E Γ a fa) : JE X W E Γ (.BoolOp op [a] pos) fa := fun μ h0 σ H Q s p => wE.of (pe_one pe_w) (h μ h0 σ H Q s p)
theorem Po.since {B : Bs} {μ : Nat → Addr} {n : Nat} {H0 H : Hp} {Q : VK} {E : XK} {r : Rs RV} (p : Po B μ n H (fun r h' μ' H' => ∀ u, RR B H0 μ' h'.length H' r u → Q u H') E r) (th : ∀ a, H0 a ≠ none → H a ≠ none) :
    Po B μ n H (fun r h' μ' H' => ∀ u, RR B H μ' h'.length H' r u → Q u H') E r := p.mono fun x h' μ' H' _ s _ q u ru => q u (ru.since th)
theorem je_and (ha : JE X W E Γ a fa) (hb : JE X W E Γ (.BoolOp .And (b :: es) pos) fb) : JE X W E Γ (.BoolOp .And (a :: b :: es) pos) (bnd fa fun x => oAndV x fb) := fun μ h σ H Q s p =>
  wE.of (pe_and pe_w pe_w) (ha μ h σ H _ s (Po.mono (Po.bind p) fun x h1 μ1 H1 eq1 s1 hr1 p1 u ru => by
    unfold oAndV at p1
    split at p1
    · rename_i d
      refine ⟨d, rr_bl ru, ?_⟩
      cases d with
      | true =>
        rw [if_pos rfl] at p1 ⊢
        exact hb μ1 h1 σ H1 Q (s.step s1 hr1) (p1.since s1.th)
      | false =>
        rw [if_neg (by decide)] at p1 ⊢
        exact Po.last p1 hr1 (Same.refl _) _ (.v (.bl false))
    · exact p1.elim))
theorem je_or (ha : JE X W E Γ a fa) (hb : JE X W E Γ (.BoolOp .Or (b :: es) pos) fb) : JE X W E Γ (.BoolOp .Or (a :: b :: es) pos) (bnd fa fun x => oOrV x fb) := fun μ h σ H Q s p =>
  wE.of (pe_or pe_w pe_w) (ha μ h σ H _ s (Po.mono (Po.bind p) fun x h1 μ1 H1 eq1 s1 hr1 p1 u ru => by
    unfold oOrV at p1
    split at p1
    · rename_i d
      refine ⟨d, rr_bl ru, ?_⟩
      cases d with
      | true =>
        rw [if_pos rfl] at p1 ⊢
        exact Po.last p1 hr1 (Same.refl _) _ (.v (.bl true))
      | false =>
        rw [if_neg (by decide)] at p1 ⊢
        exact hb μ1 h1 σ H1 Q (s.step s1 hr1) (p1.since s1.th)
    · exact p1.elim))
def oNotV (x : RV) : M RV := match x with | .v (.bl b) => pur (.v (.bl (!b))) | _ => fail
theorem je_not (ha : JE X W E Γ a fa) : JE X W E Γ (.UnaryOp .Not a pos) (bnd fa oNotV) := fun μ h σ H Q s p =>
  wE.of (pe_not pe_w) (ha μ h σ H _ s (Po.mono (Po.bind p) fun x h1 μ1 H1 _ s1 hr1 p1 u ru => by
    unfold oNotV at p1
    split at p1
    · exact ⟨_, rr_bl ru, Po.last p1 hr1 (Same.refl _) _ (.v (.bl _))⟩
    · exact p1.elim))
theorem je_ifE (hc : JT X W E Γ c t) (ha : JE X W E Γ a fa) (hb : JE X W E Γ b fb) : JE X W E Γ (.IfExp c a b pos) (bnd t fun d => if d = true then fa else fb) := fun μ h σ H Q s p =>
  wE.of (pe_ifExp pt_w pe_w pe_w) (hc μ h σ H _ s (Po.mono (Po.bind p) fun d h1 μ1 H1 _ s1 hr1 p1 => by
    cases d with
    | true =>
      rw [if_pos rfl] at p1 ⊢
      exact ha μ1 h1 σ H1 Q (s.step s1 hr1) (p1.since s1.th)
    | false =>
      rw [if_neg (by decide)] at p1 ⊢
      exact hb μ1 h1 σ H1 Q (s.step s1 hr1) (p1.since s1.th)))

/-! ### arguments -/
/-- what the arguments do: c k evaluates them and goes on with their values -/
def JA (X : Cx) (W : WX) (E : Ent) (Γ : Sl) (es : List Expr) (c : (List FV → M RV) → M RV) : Prop :=
  ∀ (k : List FV → M RV) μ h σ H (R : RV → FH → (Nat → Addr) → Hp → Prop) (EX : XK), SR (bs X) E μ Γ h σ H → (∀ c d H', EX c d H' → W c d σ H') → Po (bs X) μ h.length H R EX (c k h) →
    wA X es σ H fun us H' => ∃ vs μ' h', Step μ h.length H μ' h'.length H' ∧ HR (bs X) μ' h' H' ∧ VRs (bs X) H' μ' h'.length vs us ∧ Po (bs X) μ' h'.length H' R EX (k vs h')
theorem ja_nil : JA X W E Γ [] (fun k => k []) := fun k μ h σ H R EX s _ p => wA.of pa_nil ⟨[], μ, h, Step.refl _ _ _, s.hr, .nil, p⟩
/-- an expression as a value: the wish of what follows -/
theorem JE.val {σ : L2.St} {Q : VK} {μ : Nat → Addr} {h : FH} {H : Hp} (ha : JE X W E Γ e fa) (s : SR (bs X) E μ Γ h σ H)
    (p : Po (bs X) μ h.length H (fun d h' μ' H' => ∀ u, VR (bs X) H' μ' h'.length d u → Q u H') (fun c d H' => W c d σ H') (mV fa h)) : wE X e σ H Q :=
  wE.gh (ha μ h σ H _ s (Po.mono (Po.vF p) fun x h1 μ1 H1 _ s1 hr1 p1 u ru => by
    obtain ⟨d, _, g⟩ := p1 u ru
    exact g.mono fun H2 z => z.2.2.2.2.2 u z.2.2.1))
theorem ja_cons {c : (List FV → M RV) → M RV} (ha : JE X W E Γ e fa) (ht : JA X W E Γ es c) (hs : starEach (e :: es) X.env = (false, eval e X.env) :: starEach es X.env := by exact star1 rfl) : JA X W E Γ (e :: es) (fun k => bnd (mV fa) fun v => c fun vs => k (v :: vs)) := fun k μ h σ H R EX s hE p =>
  wA.of (pa_cons pe_w pa_w hs) (ha.val s (Po.mono (Po.monoE (Po.bind p) hE) fun v h1 μ1 H1 _ s1 hr1 p1 u vu =>
    wA.mono (ht (fun vs => k (v :: vs)) μ1 h1 σ H1 R EX (s.step s1 hr1) hE p1) fun us H2 ⟨vs, μ2, h2, s2, hr2, rv, p2⟩ =>
      ⟨v :: vs, μ2, h2, s1.trans s2, hr2, .cons (s2.vr vu) rv, p2⟩))

/-! ### displays -/
def oTup (vs : List FV) : M RV := if vs.length ≤ LIM then pur (.v (.tup vs)) else fail
def oLst (vs : List FV) : M RV := if vs.length ≤ LIM then pur (.l vs) else fail
theorem je_tup {f : (List FV → M RV) → M RV} {x1} (h : JA X W E Γ es f) : JE X W E Γ (.Tuple es x1 pos) (f oTup) := fun μ h0 σ H Q s p =>
  wE.of (pe_tup pa_w) (wA.mono (h oTup μ h0 σ H _ _ s (fun _ _ _ z => z) p) fun us H1 ⟨vs, μ1, h1, s1, hr1, rus, p1⟩ => by
    unfold oTup at p1
    split at p1
    · rename_i hl
      exact ⟨by rw [rus.len]; exact lim_le hl, fun q hq => Po.last p1 hr1 (same_new hq) _ (rr_tup hq rus)⟩
    · exact p1.elim)
theorem je_lst {f : (List FV → M RV) → M RV} (h : JA X W E Γ es f) : JE X W E Γ (.List es pos) (f oLst) := fun μ h0 σ H Q s p =>
  wE.of (pe_lst pa_w) (wA.mono (h oLst μ h0 σ H _ _ s (fun _ _ _ z => z) p) fun us H1 ⟨vs, μ1, h1, s1, hr1, rus, p1⟩ => by
    unfold oLst at p1
    split at p1
    · rename_i hl
      exact ⟨by rw [rus.len]; exact lim_le hl, fun q hq => Po.last p1 hr1 (same_new hq) _ (rr_lst hr1 s1.th hq rus)⟩
    · exact p1.elim)
theorem je_d0 : JE X W E Γ (.Dict [] [] pos) (pur (.d [])) := fun μ h0 σ H Q s p => wE.of pe_dnewK (fun q hq => Po.last p s.hr (same_new hq) _ (rr_dct s.hr (fun _ z => z) hq .nil))

/-! ### subscripts -/
theorem ix_dict (hu : X.A.units + 1 < cLine) : IxR X (fun x y H Q => ∃ a v, x = .ref a ∧ DGet H a y (some v) ∧ Q v H) := by
  intro value slice pins s σ H x y v u Q I rx ry h hs
  obtain ⟨a, w, rfl, g, q⟩ := h
  obtain rfl : v = Value.ref a := rx
  have hT := dict_typeIs I g
  unfold subscriptTail
  refine wpAny_bind ?_
  rw [getitemInPython_of_ne hT.not_modules]
  refine wpAny_bind (wpAny_specialOf hT PySem.F.slot_dict_getitem.lookup ?_)
  have fin : wpAny (model X.prog X.w) X.A (subscripted slice false (.ref a) u) (fun r s₃ => wpAny (model X.prog X.w) X.A (letTemporaryGo value (.ref a) r >>= fun _ => pure r) (EP X pins σ Q) X.xe s₃) X.xe s := by
    rw [hs]
    exact wpAny_operating (wpAny_mono (d_getItem hu I g ry fun w' s3 I3 rw' => ⟨w, H, I3, rw', q⟩) (fun r s₃ h₃ => wpAny_bind (wpAny_letTemporaryGo (wpAny_pure h₃))) fun _ _ x => x)
  first
    | exact wpAny_pure (wpAny_bind fin)
    | exact wpAny_bind (wpAny_pure (wpAny_bind fin))
    | exact wpAny_bind fin
def gIx (x y : RV) (h : FH) : Option RV := match x, y with
  | .v (.str z), .v (.int i) => if z.length ≤ LIM then (atI z.cps.toList i).map fun c => .v (.str ⟨#[c]⟩) else none
  | x, .v d => match x.seq h, x.dict h with
    | some (_, ds), _ => match d with
      | .int i => (atI ds i).map .v
      | _ => none
    | none, some kvs => match d.key with
      | some k => (lookK kvs k).map .v
      | none => none
    | none, none => none
  | _, _ => none
theorem atI_vr {B : Bs} {H : Hp} {μ : Nat → Addr} {n : Nat} {ds : List FV} {xs : List V} {i : Int} {d : FV} (r : VRs B H μ n ds xs) (e : atI ds i = some d) : ∃ v, atI xs i = some v ∧ VR B H μ n d v := by
  unfold atI at e ⊢
  rw [r.len]
  cases q : ixN ds.length i with
  | none => rw [q] at e; cases e
  | some j =>
    rw [q] at e
    exact r.get (i := j) e
theorem je_ix (hr : Room k X.A) (ha : JE X W E Γ a fa) (hb : JE X W E Γ b fb) (hs : PlainIx b := by exact fun _ _ => rfl) : JE X W E Γ (.Subscript a b pos) (bnd fa fun x => bnd fb fun y => oB gIx x y) := fun μ h σ H Q s p =>
  wE.of (pe_ix (ix_seq.or (ix_dict (hu_of hr))) pe_w pe_w hs) (ha μ h σ H _ s (Po.mono (Po.bind p) fun x h1 μ1 H1 _ s1 hr1 p1 u ru =>
    hb μ1 h1 σ H1 _ (s.step s1 hr1) (Po.mono (Po.bind p1) fun y h2 μ2 H2 _ s2 hr2 p2 v rv => by
      obtain ⟨z, hz, p3⟩ := p2.lift
      have ru2 := ru.step s2
      unfold gIx at hz
      split at hz
      · rename_i w i _ _
        split at hz
        · rename_i hl
          cases q : atI w.cps.toList i with
          | none => rw [q] at hz; cases hz
          | some c =>
            rw [q] at hz
            cases hz
            exact .inl (.inr (.inr ⟨w, i, c, rr_str ru2, rr_int rv, lim_le hl, q, p3.last hr2 (Same.refl _) _ (.v (.str _))⟩))
        · cases hz
      · rename_i d _
        split at hz
        · rename_i bb ds e1
          split at hz
          · rename_i i _
            cases q : atI ds i with
            | none => rw [q] at hz; cases hz
            | some c =>
              rw [q] at hz
              cases hz
              obtain ⟨a', xs, rfl, h4, h5⟩ := seqE_ok hr2 ru2 e1
              obtain ⟨w, h6, h7⟩ := atI_vr h4 q
              have fin := p3.last hr2 (Same.refl _) w (.v h7)
              rcases h5 with h5 | h5
              · exact .inl (.inl ⟨a', xs, i, w, rfl, rr_int rv, h5, h6, fin⟩)
              · exact .inl (.inr (.inl ⟨a', xs, i, w, rfl, rr_int rv, h5, h6, fin⟩))
          · cases hz
        · rename_i kvs _ e1
          split at hz
          · rename_i kk e2
            cases q : lookK kvs kk with
            | none => rw [q] at hz; cases hz
            | some c =>
              rw [q] at hz
              cases hz
              obtain ⟨a', ws, rfl, h4, h5⟩ := dict_ok hr2 ru2 e1
              obtain ⟨w, h6, h7⟩ := look_some h5 q
              have eu := key_ok rv e2
              subst eu
              refine .inr ⟨a', w, rfl, ?_, p3.last hr2 (Same.refl _) w (.v h7)⟩
              rw [← h6]
              exact .inl ⟨ws, kk, h4, rfl, rfl⟩
          · cases hz
        · cases hz
      · cases hz)))

/-! ### slices -/
def wO (X : Cx) (e : Option Expr) : TO := match e with | none => tNoPart | some e => tPart (wE X e)
theorem po_w {e : Option Expr} : PO X e (wO X e) := by
  cases e with
  | none => exact po_none
  | some e => exact po_some pe_w
def JP (X : Cx) (W : WX) (E : Ent) (Γ : Sl) (e : Option Expr) (f : M (Option Int)) : Prop :=
  ∀ μ h σ H Q, SR (bs X) E μ Γ h σ H → Po (bs X) μ h.length H (fun b h' μ' H' => Q b H') (fun c d H' => W c d σ H') (f h) → wO X e σ H Q
def oPt (x : RV) : M (Option Int) := match x with | .v (.int i) => pur (some i) | _ => fail
theorem jp_none : JP X W E Γ none (pur none) := fun μ h σ H Q s p => Po.last p s.hr (Same.refl _)
theorem jp_some (ha : JE X W E Γ a fa) : JP X W E Γ (some a) (bnd fa oPt) := fun μ h σ H Q s p =>
  (ha μ h σ H _ s (Po.mono (Po.bind p) fun x h1 μ1 H1 _ s1 hr1 p1 u ru => by
    unfold oPt at p1
    split at p1
    · exact ⟨_, rr_int ru, Po.last p1 hr1 (Same.refl _)⟩
    · exact p1.elim))
def cutF (xs : List FV) (lo hi : Option Int) : List FV := (xs.drop (HT.sIx xs.length 0 lo)).take (HT.sIx xs.length xs.length hi - HT.sIx xs.length 0 lo)
theorem cutF_vr {B : Bs} {H : Hp} {μ : Nat → Addr} {n : Nat} {ds : List FV} {xs : List V} {lo hi : Option Int} (r : VRs B H μ n ds xs) : VRs B H μ n (cutF ds lo hi) (cutV xs lo hi) := by
  unfold cutV cutF
  rw [r.len]
  exact (r.drop _).take _
def gSl (x : RV) (lo hi : Option Int) (h : FH) : Option RV := match x with
  | .v (.str z) => if z.length ≤ LIM then some (.v (.str (cutS z lo hi))) else none
  | x => match x.seq h with
    | some (true, ds) => some (.v (.tup (cutF ds lo hi)))
    | some (false, ds) => some (.l (cutF ds lo hi))
    | none => none
def oSl (x : RV) (l u : Option Int) : M RV := lift (gSl x l u)
theorem je_sl {lo hi : Option Expr} {fl fh : M (Option Int)} (ha : JE X W E Γ a fa) (hl : JP X W E Γ lo fl) (hh : JP X W E Γ hi fh) : JE X W E Γ (.Subscript a (.Slice lo hi none p2) pos) (bnd fa fun x => bnd fl fun l => bnd fh fun u => oSl x l u) := fun μ h σ H Q s p =>
  wE.of (pe_slice (sl_str.or (sl_tupA.or sl_list)) pe_w po_w po_w) (ha μ h σ H _ s (Po.mono (Po.bind p) fun x h1 μ1 H1 _ s1 hr1 p1 u ru =>
    hl μ1 h1 σ H1 _ (s.step s1 hr1) (Po.mono (Po.bind p1) fun l h2 μ2 H2 _ s2 hr2 p2 =>
      hh μ2 h2 σ H2 _ ((s.step s1 hr1).step s2 hr2) (Po.mono (Po.bind p2) fun r h3 μ3 H3 _ s3 hr3 p3 => by
        obtain ⟨z, hz, p4⟩ := p3.lift
        have ru3 := (ru.step s2).step s3
        have th : ∀ a, H a ≠ none → H3 a ≠ none := fun a q => s3.th a (s2.th a (s1.th a q))
        unfold gSl at hz
        split at hz
        · split at hz
          · rename_i hl
            cases hz
            exact .inl ⟨_, rr_str ru3, lim_le hl, p4.last hr3 (Same.refl _) _ (.v (.str _))⟩
          · cases hz
        · split at hz
          · rename_i ds e1
            cases hz
            obtain ⟨q, xs, rfl, h4, h5⟩ := seqT_ok hr3 ru3 e1
            refine .inr (.inl ⟨q, xs, rfl, h5, fun hw => ?_, fun _ p' hp' => p4.last hr3 (same_new hp') _ (rr_tup hp' (cutF_vr h4))⟩)
            have e : cutF ds l r = ds := by
              unfold cutF
              rw [h4.len] at hw
              rw [hw.1, hw.2]
              simp
            rw [e] at p4
            exact p4.last hr3 (Same.refl _) _ (.v (.tup h5 h4))
          · rename_i ds e1
            cases hz
            obtain ⟨q, xs, rfl, h4, h5⟩ := seqL_ok hr3 ru3 e1
            exact .inr (.inr ⟨q, xs, rfl, h5, fun p' hp' => p4.last hr3 (same_new hp') _ (rr_lst hr3 th hp' (cutF_vr h4))⟩)
          · cases hz))))

/-! ### built-ins of one argument -/
def CbOk (X : Cx) (r : List V → Hp → VK → Prop) (g : RV → FH → Option RV) : Prop :=
  ∀ μ h H0 H x u (Q : VK) z, HR (bs X) μ h H → (∀ a, H0 a ≠ none → H a ≠ none) → RR (bs X) H0 μ h.length H x u → g x h = some z → (∀ w H', Same H H' → RR (bs X) H0 μ h.length H' z w → Q w H') → r [u] H Q
theorem je_b1 {x id : Str} {idn : String} {r : List V → Hp → VK → Prop} {g : RV → FH → Option RV} (hc : CallR X (.builtin idn) r) (hg0 : CbOk X r g) (hm : X.mg x = none) (hv : bootBuiltins x = some (.builtin idn)) (ha : JE X W E Γ e fa)
    (hg : Gl X x := by rfl) (hn : x ≠ "__name__" := by decide) (hdb : (x == ("__debug__" : Str)) = false := by decide)
    (he : starEach (e :: []) X.env = (false, eval e X.env) :: starEach [] X.env := by exact star1 rfl) (hpl : (backTo pos (starEach [] X.env)).any (·.1) = false := by rfl) : JE X W E Γ (.Call (.Name x p0) [e] [] pos) (bnd fa fun x => oU g x) := fun μ h σ H Q s p =>
  wE.of (pe_callB hc hg hm hv (pa_cons pe_w pa_nil he) hn hdb he hpl) (ha μ h σ H _ s (Po.mono (Po.bind p) fun x h1 μ1 H1 _ s1 hr1 p1 u ru => by
    obtain ⟨z, hz, p2⟩ := p1.lift
    exact hg0 μ1 h1 H H1 x u _ z hr1 s1.th ru hz fun w H' e q => p2.last hr1 e w q))
theorem je_t1 {x : Str} {T : String} {r : List V → Hp → VK → Prop} {g : RV → FH → Option RV} (hc : CallR X (.type T) r) (hg0 : CbOk X r g) (hm : X.mg x = none) (hv : bootBuiltins x = some (.type T)) (ha : JE X W E Γ e fa)
    (hg : Gl X x := by rfl) (hn : x ≠ "__name__" := by decide) (hdb : (x == ("__debug__" : Str)) = false := by decide)
    (he : starEach (e :: []) X.env = (false, eval e X.env) :: starEach [] X.env := by exact star1 rfl) (hpl : (backTo pos (starEach [] X.env)).any (·.1) = false := by rfl) : JE X W E Γ (.Call (.Name x p0) [e] [] pos) (bnd fa fun x => oU g x) := fun μ h σ H Q s p =>
  wE.of (pe_callTy hc hg hm hv (pa_cons pe_w pa_nil he) hn hdb he hpl) (ha μ h σ H _ s (Po.mono (Po.bind p) fun x h1 μ1 H1 _ s1 hr1 p1 u ru => by
    obtain ⟨z, hz, p2⟩ := p1.lift
    exact hg0 μ1 h1 H H1 x u _ z hr1 s1.th ru hz fun w H' e q => p2.last hr1 e w q))
theorem CallR.or {f : Value} {r r' : List V → Hp → VK → Prop} (h : CallR X f r) (h' : CallR X f r') : CallR X f (fun xs H Q => r xs H Q ∨ r' xs H Q) := by
  intro pins s σ H xs us Q I rx q
  rcases q with q | q
  · exact h pins s σ H xs us Q I rx q
  · exact h' pins s σ H xs us Q I rx q
theorem call_lenR : CallR X (.builtin "len") (fun xs H Q => ∃ a kvs, xs = [V.ref a] ∧ Rd H a (.dK kvs) ∧ Q (.int kvs.length) H) := by
  rintro pins s σ H _ us Q I r ⟨a, kvs, rfl, ha, q⟩
  obtain ⟨u, rfl, ru⟩ := vals1 r
  obtain rfl : u = Value.ref a := ru
  exact d_len I ha fun t s' I' => ⟨.int kvs.length, H, I', ⟨t, rfl⟩, q⟩
def gLen (x : RV) (h : FH) : Option RV := match x with
  | .v (.str z) => if z.length ≤ LIM then some (.v (.int z.length)) else none
  | x => match x.seq h, x.dict h with
    | some (_, ds), _ => some (.v (.int ds.length))
    | none, some kvs => some (.v (.int kvs.length))
    | none, none => none
theorem je_len (hm : X.mg "len" = none) (ha : JE X W E Γ e fa) (hg : Gl X "len" := by rfl)
    (he : starEach (e :: []) X.env = (false, eval e X.env) :: starEach [] X.env := by exact star1 rfl) (hpl : (backTo pos (starEach [] X.env)).any (·.1) = false := by rfl) : JE X W E Γ (.Call (.Name "len" p0) [e] [] pos) (bnd fa fun x => oU gLen x) :=
  je_b1 (id := "len") (CallR.or call_len_str (CallR.or call_len_seq call_lenR)) (fun μ h H0 H x u Q z hr th ru hz k => by
    unfold gLen at hz
    split at hz
    · split at hz
      · rename_i hl
        cases hz
        exact .inl ⟨_, by rw [rr_str ru], lim_le hl, k _ _ (Same.refl _) (.v (.int _))⟩
      · cases hz
    · split at hz
      · rename_i b ds _ e1
        cases hz
        obtain ⟨q, xs, rfl, h4, h5⟩ := seqE_ok hr ru e1
        refine .inr (.inl ⟨q, xs, rfl, h5, k _ _ (Same.refl _) ?_⟩)
        rw [h4.len]; exact .v (.int _)
      · rename_i kvs _ e1
        cases hz
        obtain ⟨q, ws, rfl, h4, h5⟩ := dict_ok hr ru e1
        refine .inr (.inr ⟨q, ws, rfl, h4, k _ _ (Same.refl _) ?_⟩)
        rw [h5.len]; exact .v (.int _)
      · cases hz) hm PySem.boot_len ha hg (by decide) (by decide) he hpl
def keyF : Key → FV
  | .inl i => .int i
  | .inr x => .str x
theorem KvR.keys {B : Bs} {H : Hp} {μ : Nat → Addr} {n : Nat} : ∀ {ds : List (Key × FV)} {ws : List (Key × V)}, KvR B H μ n ds ws → VRs B H μ n (ds.map fun kv => keyF kv.1) (ws.map fun kv => L2.kV kv.1)
  | _, _, .nil => .nil
  | (k, d) :: ds, (k', v) :: ws, .cons a b => by
    have h1' : k = k' := a.1
    subst h1'
    refine .cons ?_ (KvR.keys b)
    cases k with
    | inl i => exact .int i
    | inr x => exact .str x
def gList (x : RV) (h : FH) : Option RV := match x.seq h, x.dict h with
  | some (_, ds), _ => some (.l ds)
  | none, some kvs => some (.l (kvs.map fun kv => keyF kv.1))
  | none, none => none
theorem je_list (hcm : X.calm = true) (hm : X.mg "list" = none) (ha : JE X W E Γ e fa) (hg : Gl X "list" := by rfl)
    (he : starEach (e :: []) X.env = (false, eval e X.env) :: starEach [] X.env := by exact star1 rfl) (hpl : (backTo pos (starEach [] X.env)).any (·.1) = false := by rfl) : JE X W E Γ (.Call (.Name "list" p0) [e] [] pos) (bnd fa fun x => oU gList x) :=
  je_t1 (CallR.or call_list_of (call_listD hcm)) (fun μ h H0 H x u Q z hr th ru hz k => by
    unfold gList at hz
    split at hz
    · rename_i b ds _ e1
      cases hz
      obtain ⟨q, xs, rfl, h4, h5⟩ := seqE_ok hr ru e1
      exact .inl ⟨q, xs, rfl, h5, fun l hl => k _ _ (same_new hl) (rr_lst hr th hl h4)⟩
    · rename_i kvs _ e1
      cases hz
      obtain ⟨q, ws, rfl, h4, h5⟩ := dict_ok hr ru e1
      exact .inr ⟨q, ws, rfl, h4, fun l hl => k _ _ (same_new hl) (rr_lst hr th hl h5.keys)⟩
    · cases hz) hm (by decide +kernel) ha hg (by decide) (by decide) he hpl
def gTup (x : RV) (h : FH) : Option RV := match x.seq h with
  | some (_, ds) => some (.v (.tup ds))
  | none => none
theorem je_tuple (hm : X.mg "tuple" = none) (ha : JE X W E Γ e fa) (hg : Gl X "tuple" := by rfl)
    (he : starEach (e :: []) X.env = (false, eval e X.env) :: starEach [] X.env := by exact star1 rfl) (hpl : (backTo pos (starEach [] X.env)).any (·.1) = false := by rfl) : JE X W E Γ (.Call (.Name "tuple" p0) [e] [] pos) (bnd fa fun x => oU gTup x) :=
  je_t1 call_tuple_of (fun μ h H0 H x u Q z hr th ru hz k => by
    unfold gTup at hz
    split at hz
    · rename_i b ds e1
      cases hz
      cases b with
      | true =>
        obtain ⟨q, xs, rfl, h4, h5⟩ := seqT_ok hr ru e1
        exact ⟨q, xs, rfl, .inr ⟨h5, k _ _ (Same.refl _) (.v (.tup h5 h4))⟩⟩
      | false =>
        obtain ⟨q, xs, rfl, h4, h5⟩ := seqL_ok hr ru e1
        exact ⟨q, xs, rfl, .inl ⟨h5, fun l hl => k _ _ (same_new hl) (rr_tup hl h4)⟩⟩
    · cases hz) hm (by decide +kernel) ha hg (by decide) (by decide) he hpl
def gAbs : RV → FH → Option RV
  | .v (.int i), _ => some (.v (.int (if i < 0 then -i else i)))
  | _, _ => none
theorem je_abs (hm : X.mg "abs" = none) (ha : JE X W E Γ e fa) (hg : Gl X "abs" := by rfl)
    (he : starEach (e :: []) X.env = (false, eval e X.env) :: starEach [] X.env := by exact star1 rfl) (hpl : (backTo pos (starEach [] X.env)).any (·.1) = false := by rfl) : JE X W E Γ (.Call (.Name "abs" p0) [e] [] pos) (bnd fa fun x => oU gAbs x) :=
  je_b1 (id := "abs") call_abs (fun μ h H0 H x u Q z hr th ru hz k => by
    unfold gAbs at hz
    split at hz
    · cases hz; exact ⟨_, by rw [rr_int ru], k _ _ (Same.refl _) (.v (.int _))⟩
    · cases hz) hm (by decide +kernel) ha hg (by decide) (by decide) he hpl
def gInt : RV → FH → Option RV
  | .v (.int i), _ => some (.v (.int i))
  | _, _ => none
theorem je_int1 (hm : X.mg "int" = none) (ha : JE X W E Γ e fa) (hg : Gl X "int" := by rfl)
    (he : starEach (e :: []) X.env = (false, eval e X.env) :: starEach [] X.env := by exact star1 rfl) (hpl : (backTo pos (starEach [] X.env)).any (·.1) = false := by rfl) : JE X W E Γ (.Call (.Name "int" p0) [e] [] pos) (bnd fa fun x => oU gInt x) :=
  je_t1 call_int1 (fun μ h H0 H x u Q z hr th ru hz k => by
    unfold gInt at hz
    split at hz
    · cases hz; exact .inl ⟨_, by rw [rr_int ru], k _ _ (Same.refl _) (.v (.int _))⟩
    · cases hz) hm (by decide +kernel) ha hg (by decide) (by decide) he hpl

/-! ### isinstance -/
def tyR : RV → FH → Option String
  | .v .non, _ => some "NoneType"
  | .v (.bl _), _ => some "bool"
  | .v (.int _), _ => some "int"
  | .v (.str _), _ => some "str"
  | .v (.tup _), _ => some "tuple"
  | .v (.fl _), _ => some "list"
  | .v (.sl _), _ => some "list"
  | .v (.fd _ _), _ => some "dict"
  | .v (.ref m), h => match h[m]? with | some (.lst _) => some "list" | some (.dK _) => some "dict" | some (.dT _) => some "dict" | _ => none
  | .l _, _ => some "list"
  | .d _, _ => some "dict"
  | .t _, _ => some "dict"
  | .bl _, _ => some "list"
  | .bd _, _ => some "dict"
  | .bt _, _ => some "dict"
  | _, _ => none
theorem tyR_ok {B : Bs} {H H0 : Hp} {μ : Nat → Addr} {h : FH} {x : RV} {u : V} {T : String} (hr : HR B μ h H) (r : RR B H0 μ h.length H x u) (e : tyR x h = some T) : TyX B.K H u (.type T) := by
  cases r with
  | l f a b => cases e; exact .base (.lst a)
  | d f a b => cases e; exact .base (.dK a)
  | t f a b => cases e; exact .base (.dT a)
  | bl f a b => cases e; exact .base (.lst a)
  | bd f a b => cases e; exact .base (.dK a)
  | bt f a b => cases e; exact .base (.dT a)
  | o f z a b => cases e
  | bo f z a b => cases e
  | v q =>
    cases q with
    | non => cases e; exact .base .non
    | bl b => cases e; exact .base (.bl b)
    | int i => cases e; exact .base (.int i)
    | str y => cases e; exact .base (.str y)
    | tup a b =>
      cases e
      rcases a with (a | ⟨o, a⟩) | ⟨o, its, n, hk, hc, _⟩
      · exact .base (.tup a)
      · exact .fTuple a
      · exact .kTuple hk hc
    | fl a b => cases e; obtain ⟨o, a⟩ := a; exact .base (.frz a)
    | sl a b =>
      cases e
      rcases a with ⟨o, a⟩ | ⟨o, its, n, hk, hc, _⟩
      · exact .base (.frz a)
      · exact .kList hk hc
    | fd a b => cases e; obtain ⟨o, a⟩ := a; exact .fDict a
    | ft a b => cases e
    | fo z a b => cases e
    | ref l =>
      rename_i i
      have e' : (match h[i]? with | some (.lst _) => some "list" | some (.dK _) => some "dict" | some (.dT _) => some "dict" | _ => none) = some T := e
      split at e'
      · rename_i z zh
        cases e'
        obtain ⟨xs, h1, h2⟩ := hr.at' _ _ zh
        exact .base (.lst h1)
      · rename_i z zh
        cases e'
        obtain ⟨xs, h1, h2⟩ := hr.at' _ _ zh
        exact .base (.dK h1)
      · rename_i z zh
        cases e'
        obtain ⟨xs, h1, h2⟩ := hr.at' _ _ zh
        exact .base (.dT h1)
      · cases e'
def gIs (T : String) (x : RV) (h : FH) : Option RV := match tyR x h with
  | some t => (kitB t T).map fun k => .v (.bl k)
  | none => none
/-- isinstance(e, T), T a built-in class -/
theorem je_isi {x : Str} {T : String} (hm : X.mg "isinstance" = none) (hmT : X.mg x = none) (ha : JE X W E Γ e fa) (hv : bootBuiltins x = some (.type T) := by decide +kernel) (hg : Gl X "isinstance" := by rfl) (hgT : Gl X x := by rfl) (hn : x ≠ "__name__" := by decide) (hd : (x == ("__debug__" : Str)) = false := by decide)
    (h1 : starEach (e :: [.Name x p1]) X.env = (false, eval e X.env) :: starEach [.Name x p1] X.env := by exact star1 rfl) (h2 : starEach (.Name x p1 :: []) X.env = (false, eval (.Name x p1) X.env) :: starEach [] X.env := by exact star1 rfl) (hpl : (backTo pos (starEach [.Name x p1] X.env)).any (·.1) = false := by rfl) :
    JE X W E Γ (.Call (.Name "isinstance" p0) [e, .Name x p1] [] pos) (bnd fa fun x => oU (gIs T) x) := fun μ h σ H Q s p =>
  wE.of (pe_callB (id := "isinstance") call_isi hg hm (by decide +kernel) (pa_cons pe_w (pa_cons (pe_bltn (v := .ty T) hgT hmT hv rfl hn hd) pa_nil h2) h1) (by decide) (by decide) h1 hpl) (ha μ h σ H _ s (Po.mono (Po.bind p) fun x h1 μ1 H1 _ s1 hr1 p1 u ru => by
    obtain ⟨z, hz, p2⟩ := p1.lift
    unfold gIs at hz
    split at hz
    · rename_i t ht
      cases q : kitB t T with
      | none => rw [q] at hz; cases hz
      | some k =>
        rw [q] at hz
        cases hz
        exact ⟨u, .ty T, _, .type T, k, rfl, .ty T, tyR_ok hr1 ru ht, kit_ty q, p2.last hr1 (Same.refl _) _ (.v (.bl k))⟩
    · cases hz))

end
end P

/-! P: calls of one's own defs, statements. -/
namespace P
open PySem PySem.Spec PyProof.Rows L2 G

/-! ### calls of one's own defs -/
abbrev FDef := List FV → M RV
def spP (B : Bs) (f : FDef) : Sp := fun vs H Q E => ∃ μ h ds, HR B μ h H ∧ VRs B H μ h.length ds vs ∧ Po B μ h.length H (fun r h' μ' H' => ∀ u, RR B H μ' h'.length H' r u → Q u H') E (f ds h)
structure HasF (P : Program) (w : World) (K : PySem.W.Frag) (mg : Str → Option Value) (base : Heap) (n : Nat) (x : Str) (ps : List Str) (f : FDef) : Prop where
  ex : ∃ a fd, FnOk P w K mg base (L2.CX P w) n a fd ps (spP ⟨K, mg⟩ f) ∧ mg x = some (.ref a) ∧ PySem.W.keepIn K (.ref a) = true ∧ Binds K fd ps []
abbrev wNo : WX := fun _ _ _ _ => False
/-- what is raised leaves the def -/
def TkE (X : Cx) (W : WX) : Prop := ∃ E : XK, (∀ c d σ H, W c d σ H → E c d H) ∧ Passes (L2.CX X.prog X.w) X E
def Tk (X : Cx) (W : WX) : Prop := Takes X W ∨ W = wNo
section
variable {X : Cx} {W : WX} {E : Ent} {Γ : Sl} {e a b c : Expr} {es : List Expr} {pos p0 : Pos} {fa fb fc : M RV} {k : Nat}
theorem je_call {x : Str} {ps : List Str} {f : FDef} {c : (List FV → M RV) → M RV} {n : Nat} (tk : Tk X W) (h : HasF X.prog X.w X.K X.mg X.base n x ps f) (hr : Room k X.A) (hk : n ≤ k) (ha : JA X W E Γ (e :: es) c)
    (hg : Gl X x := by rfl) (hdb : (x == ("__debug__" : Str)) = false := by decide) (he : starEach (e :: es) X.env = (false, eval e X.env) :: starEach es X.env := by exact star1 rfl) (hpl : (backTo pos (starEach es X.env)).any (·.1) = false := by rfl) :
    JE X W E Γ (.Call (.Name x p0) (e :: es) [] pos) (c f) := fun μ h0 σ H Q s p => by
  obtain ⟨fa, fd, F, hm, hk', hb⟩ := h.ex
  have args := ha f μ h0 σ H _ _ s (fun _ _ _ z => z) p
  rcases tk with tk | rfl
  · exact wE.of (pe_callS (E := WE W) F (hr.mono hk) hg hm hk' hb (fun σ => passAt tk σ) pa_w hdb he hpl) (wA.mono args fun us H1 ⟨vs, μ1, h1, s1, hr1, rus, p1⟩ => ⟨μ1, h1, vs, hr1, rus, p1.since s1.th⟩)
  · refine wE.of (pe_call (E := E0) F (hr.mono hk) hg hm hk' hb .nil passL pa_w hdb he hpl) (wA.mono args fun us H1 ⟨vs, μ1, h1, s1, hr1, rus, p1⟩ => ?_)
    rw [List.append_nil]
    exact ⟨μ1, h1, vs, hr1, rus, p1.since s1.th⟩
theorem je_call0 {x : Str} {ps : List Str} {f : FDef} {n : Nat} (tk : TkE X W) (h : HasF X.prog X.w X.K X.mg X.base n x ps f) (hr : Room k X.A) (hk : n ≤ k)
    (hg : Gl X x := by rfl) (hdb : (x == ("__debug__" : Str)) = false := by decide) :
    JE X W E Γ (.Call (.Name x p0) [] [] pos) (f []) := fun μ h0 σ H Q s p => by
  obtain ⟨E, hE, hP⟩ := tk
  obtain ⟨fa, fd, F, hm, hk', hb⟩ := h.ex
  refine wE.of (pe_call0 F (hr.mono hk) hg hm hk' hb .nil hP hdb) ?_
  exact ⟨μ, h0, [], s.hr, .nil, Po.monoE p fun c d H' w => hE c d σ H' w⟩
end

/-! ### statements -/
/-- how a block ends: it goes on, returns, leaves its loop, goes to the next turn -/
inductive Fl (α β : Type) where
  | nx (a : α) | rt (r : RV) | bk (b : β) | ct (b : β)
/-- what a statement leaves of what was known -/
structure StW (μ : Nat → Addr) (n : Nat) (H : Hp) (μ' : Nat → Addr) (n' : Nat) (H' : Hp) : Prop where
  le : n ≤ n'
  ext : ∀ i, i < n → μ' i = μ i
  gw : Gw H H'
theorem StW.refl (μ : Nat → Addr) (n : Nat) (H : Hp) : StW μ n H μ n H := ⟨Nat.le_refl _, fun _ _ => rfl, Gw.refl H⟩
section
variable {μ μ1 μ2 : Nat → Addr} {n n1 n2 : Nat} {H H1 H2 : Hp}
theorem StW.trans (a : StW μ n H μ1 n1 H1) (b : StW μ1 n1 H1 μ2 n2 H2) : StW μ n H μ2 n2 H2 :=
  ⟨Nat.le_trans a.le b.le, fun i h => (b.ext i (Nat.lt_of_lt_of_le h a.le)).trans (a.ext i h), a.gw.trans b.gw⟩
theorem Step.w (s : Step μ n H μ1 n1 H1) : StW μ n H μ1 n1 H1 := ⟨s.le, s.ext, s.gw⟩
theorem StW.of (g : Gw H H1) : StW μ n H μ n H1 := ⟨Nat.le_refl _, fun _ _ => rfl, g⟩
theorem StW.vr {B : Bs} {d : FV} {v : V} (s : StW μ n H μ1 n1 H1) (h : VR B H μ n d v) : VR B H1 μ1 n1 d v := VR.mono s.gw s.ext s.le d v h
theorem StW.vrs {B : Bs} {d : List FV} {v : List V} (s : StW μ n H μ1 n1 H1) (h : VRs B H μ n d v) : VRs B H1 μ1 n1 d v := VRs.mono s.gw s.ext s.le d v h
end
/-- what is known where an error is caught: nothing of the slots, or some -/
def SX (B : Bs) (E : Ent) (μ : Nat → Addr) (Γx : Option Sl) (h : FH) (σ : St) (H : Hp) : Prop := match Γx with
  | none => Step E.μ E.n E.H μ h.length H ∧ HR B μ h H
  | some Γ => SR B E μ Γ h σ H
def SubX (Γx : Option Sl) (Γ : Sl) : Prop := match Γx with
  | none => True
  | some Γ' => Sub Γ' Γ
theorem SubX.none {Γ : Sl} : SubX none Γ := trivial
theorem SR.x {B : Bs} {E : Ent} {μ : Nat → Addr} {Γ : Sl} {Γx : Option Sl} {h : FH} {σ : St} {H : Hp} (s : SR B E μ Γ h σ H) (w : SubX Γx Γ) : SX B E μ Γx h σ H := by
  cases Γx with
  | none => exact ⟨s.st, s.hr⟩
  | some Γ' => exact s.sub w
variable {α β γ : Type}
def PoN (B : Bs) (E : Ent) (μ : Nat → Addr) (n : Nat) (H : Hp) (D : Ends) (W : WX) (Γx : Option Sl) (eα : α → Sl) (eβ : β → Sl) : Rs (Fl α β) → Prop
  | .ok (.nx a) h' => ∀ μ' σ' H', StW μ n H μ' h'.length H' → SR B E μ' (eα a) h' σ' H' → D.nx σ' H'
  | .ok (.bk b) h' => ∀ μ' σ' H', StW μ n H μ' h'.length H' → SR B E μ' (eβ b) h' σ' H' → D.bk σ' H'
  | .ok (.ct b) h' => ∀ μ' σ' H', StW μ n H μ' h'.length H' → SR B E μ' (eβ b) h' σ' H' → D.ct σ' H'
  | .ok (.rt r) h' => ∀ μ' H' u, StW μ n H μ' h'.length H' → Step E.μ E.n E.H μ' h'.length H' → HR B μ' h' H' → RR B E.H μ' h'.length H' r u → D.rt u H'
  | .ex x h' => ∀ μ' σ' H' c d, StW μ n H μ' h'.length H' → SX B E μ' Γx h' σ' H' → XR B μ' h'.length H' x c d → W c d σ' H'
  | .no => False
/-- f says what the block does from the slots Γ -/
def JB (X : Cx) (W : WX) (E : Ent) (Γx : Option Sl) (eα : α → Sl) (eβ : β → Sl) (Γ : Sl) (sts : List Stmt) (f : M (Fl α β)) : Prop :=
  ∀ μ h σ H D, SR (bs X) E μ Γ h σ H → PoN (bs X) E μ h.length H D W Γx eα eβ (f h) → wSs X sts D σ H
section
variable {B : Bs} {E : Ent} {μ μ1 : Nat → Addr} {n n1 : Nat} {H H1 : Hp} {D : Ends} {W : WX} {Γx : Option Sl} {eα : α → Sl} {eβ : β → Sl} {eγ : γ → Sl} {r : Rs (Fl α β)} {h : FH} {σ : St} {Γ : Sl}
theorem PoN.at' (p : PoN B E μ n H D W Γx eα eβ r) (s : StW μ n H μ1 n1 H1) : PoN B E μ1 n1 H1 D W Γx eα eβ r := by
  cases r with
  | no => exact p
  | ex x h => exact fun μ' σ' H' c d s' => p μ' σ' H' c d (s.trans s')
  | ok f h =>
    cases f with
    | nx a => exact fun μ' σ' H' s' => p μ' σ' H' (s.trans s')
    | bk a => exact fun μ' σ' H' s' => p μ' σ' H' (s.trans s')
    | ct a => exact fun μ' σ' H' s' => p μ' σ' H' (s.trans s')
    | rt a => exact fun μ' H' u s' => p μ' H' u (s.trans s')
/-- an expression in a statement -/
theorem PoN.bnd {δ : Type} {m : M δ} {k : δ → M (Fl α β)} (s : SR B E μ Γ h σ H) (w : SubX Γx Γ) (p : PoN B E μ h.length H D W Γx eα eβ (bnd m k h)) :
    Po B μ h.length H (fun a h' μ' H' => SR B E μ' Γ h' σ H' ∧ PoN B E μ' h'.length H' D W Γx eα eβ (k a h')) (fun c d H' => W c d σ H') (m h) := by
  unfold P.bnd at p
  cases q : m h with
  | no => rw [q] at p; exact p
  | ex x h' =>
    rw [q] at p
    exact fun μ' H' c d s' hr x' => (show ∀ μ' σ' H' c d, _ → _ → _ → W c d σ' H' from p) μ' σ H' c d s'.w ((s.step s' hr).x w) x'
  | ok a h' =>
    rw [q] at p
    exact fun μ' H' s' hr => ⟨s.step s' hr, PoN.at' (show PoN B E μ h.length H D W Γx eα eβ (k a h') from p) s'.w⟩
/-- .. its value: what is new is frozen -/
theorem PoN.val {X : Cx} {e : Expr} {fe : M RV} {k : FV → M (Fl α β)} {Q : VK} (he : JE X W E Γ e fe) (s : SR (bs X) E μ Γ h σ H) (w : SubX Γx Γ) (p : PoN (bs X) E μ h.length H D W Γx eα eβ (P.bnd (mV fe) k h))
    (q : ∀ d h' μ' H' u, StW μ h.length H μ' h'.length H' → SR (bs X) E μ' Γ h' σ H' → VR (bs X) H' μ' h'.length d u → PoN (bs X) E μ' h'.length H' D W Γx eα eβ (k d h') → Q u H') : wE X e σ H Q :=
  he.val s (Po.mono (PoN.bnd s w p) fun d h1 μ1 H1 _ s1 hr1 p1 u vu => q d h1 μ1 H1 u s1.w p1.1 vu p1.2)
end
def seqN (m : M (Fl α β)) (k : α → M (Fl γ β)) : M (Fl γ β) := bnd m fun f => match f with
  | .nx a => k a
  | .rt r => pur (.rt r)
  | .bk b => pur (.bk b)
  | .ct b => pur (.ct b)
/-- a block that does not go on -/
def up (m : M (Fl Empty β)) : M (Fl α β) := bnd m fun f => match f with
  | .nx a => nomatch a
  | .rt r => pur (.rt r)
  | .bk b => pur (.bk b)
  | .ct b => pur (.ct b)
section
variable {B : Bs} {E : Ent} {μ μ1 : Nat → Addr} {n n1 : Nat} {H H1 : Hp} {D : Ends} {W : WX} {Γx : Option Sl} {eα : α → Sl} {eβ : β → Sl} {eγ : γ → Sl} {h : FH} {σ : St} {Γ : Sl}
theorem PoN.seq {m : M (Fl α β)} {k : α → M (Fl γ β)} {N : St → Hp → Prop} (p : PoN B E μ n H D W Γx eγ eβ (seqN m k h))
    (q : ∀ a h' μ' σ' H', StW μ n H μ' h'.length H' → SR B E μ' (eα a) h' σ' H' → PoN B E μ' h'.length H' D W Γx eγ eβ (k a h') → N σ' H') : PoN B E μ n H { D with nx := N } W Γx eα eβ (m h) := by
  unfold seqN P.bnd at p
  cases z : m h with
  | no => rw [z] at p; exact p
  | ex x h' => rw [z] at p; exact p
  | ok f h' =>
    rw [z] at p
    cases f with
    | nx a => exact fun μ' σ' H' s sr => q a h' μ' σ' H' s sr (PoN.at' (show PoN B E μ n H D W Γx eγ eβ (k a h') from p) s)
    | bk b => exact p
    | ct b => exact p
    | rt r => exact p
theorem PoN.up {m : M (Fl Empty β)} {eE : Empty → Sl} {N : St → Hp → Prop} (p : PoN B E μ n H D W Γx eα eβ (up m h)) : PoN B E μ n H { D with nx := N } W Γx eE eβ (m h) := by
  unfold P.up P.bnd at p
  cases z : m h with
  | no => rw [z] at p; exact p
  | ex x h' => rw [z] at p; exact p
  | ok f h' =>
    rw [z] at p
    cases f with
    | nx a => cases a
    | bk b => exact p
    | ct b => exact p
    | rt r => exact p
end
section
variable {X : Cx} {W : WX} {E : Ent} {Γx : Option Sl} {eα : α → Sl} {eβ : β → Sl} {eγ : γ → Sl} {eE : Empty → Sl} {Γ Γ' : Sl} {e a b c o : Expr} {es : List Expr} {pos p0 p1 p2 : Pos} {fe fa fb fc : M RV} {st : Stmt} {rest body orelse sts : List Stmt} {f : M (Fl α β)} {n : Nat}
theorem wcons {D : Ends} {σ : L2.St} {H : Hp} (h : wS X st { D with nx := fun σ' H' => wSs X rest D σ' H' } σ H) : wSs X (st :: rest) D σ H := wSs.of (pss_cons ps_w pss_w) h
theorem wone {D : Ends} {σ : L2.St} {H : Hp} (h : wS X st D σ H) : wSs X [st] D σ H := wSs.of (pss_one ps_w) h
theorem jb_nil {a : α} (w : Sub (eα a) Γ) : JB X W E Γx eα eβ Γ [] (pur (.nx a)) := fun μ h σ H D s p =>
  wSs.of pss_nil ((show ∀ μ' σ' H', _ → _ → D.nx σ' H' from p) μ σ H (StW.refl _ _ _) (s.sub w))
/-- x = e -/
theorem jb_set (i : Nat) {x : Str} {px : Pos} {Γ' : FV → Sl} {k : FV → M (Fl α β)} (w : SubX Γx Γ) (hN : X.N.Nodup) (he : JE X W E Γ e fe) (hk : ∀ d, JB X W E Γx eα eβ (Γ' d) rest (k d)) (hΓ : ∀ d, Γ.set i (some (.v d)) = Γ' d := by intro _; rfl) (hi : X.N[i]? = some x := by rfl) (hx : Loc X.env.scope x := by first | exact Or.inl rfl | exact Or.inr rfl)
    (hs : swapsWith e (some (.Name x px)) pos.line X.env = pure false := by rfl) (hf : X.fn x = true ∨ X.env.scope.names.lookup x = some .local := by first | exact .inl rfl | exact .inr rfl | assumption) :
    JB X W E Γx eα eβ Γ (.Assign [.Name x px] e pos :: rest) (bnd (mV fe) k) := fun μ h σ H D s p =>
  wcons (wS.of (ps_set hN hi hx pe_w hs hf) (PoN.val he s w p fun d h1 μ1 H1 u _ s1 vu p1 => by
    have s2 := s1.putV (i := i) vu
    rw [hΓ d] at s2
    exact hk d μ1 h1 _ H1 D s2 p1))
/-- a new list as the slot's own -/
def mL (m : M RV) : M (List FV) := bnd m fun r => match r with | .l ds => pur ds | _ => fail
def mD (m : M RV) : M (List (Key × FV)) := bnd m fun r => match r with | .d ds => pur ds | _ => fail
def mO (m : M RV) : M (Str × List (Str × FV)) := bnd m fun r => match r with | .o c fs => pur (c, fs) | _ => fail
theorem jb_setO {δ : Type} (i : Nat) (mk : δ → RV) (ob : ∀ d, (mk d).own = true) {m : M δ} {x : Str} {px : Pos} {Γ' : δ → Sl} {k : δ → M (Fl α β)} (w : SubX Γx Γ) (hN : X.N.Nodup) (he : JE X W E Γ e fe)
    (hm : ∀ h, ∀ (R : RV → FH → (Nat → Addr) → Hp → Prop) (μ : Nat → Addr) (n : Nat) (H : Hp) (E' : XK), Po (bs X) μ n H (fun d h' μ' H' => R (mk d) h' μ' H') E' (m h) → Po (bs X) μ n H R E' (fe h))
    (hk : ∀ d, JB X W E Γx eα eβ (Γ' d) rest (k d)) (hΓ : ∀ d, Γ.set i (some (mk d)) = Γ' d) (hi : X.N[i]? = some x) (hx : Loc X.env.scope x)
    (hs : swapsWith e (some (.Name x px)) pos.line X.env = pure false) (hf : X.fn x = true ∨ X.env.scope.names.lookup x = some .local) :
    JB X W E Γx eα eβ Γ (.Assign [.Name x px] e pos :: rest) (bnd m k) := fun μ h σ H D s p =>
  wcons (wS.of (ps_set hN hi hx pe_w hs hf) (he μ h σ H _ s (hm h _ _ _ _ _ (Po.mono (PoN.bnd s w p) fun d h1 μ1 H1 _ s1 hr1 p1 u ru => by
    obtain ⟨s2, p2⟩ := p1
    have s3 := s2.put (i := i) (ru.since s.st.th) fun _ j r' q e1 o1 e2 => s.fresh ru (ob d) j r' q e1 o1 e2
    rw [hΓ d] at s3
    exact hk d μ1 h1 _ H1 D s3 p2))))
theorem mL_ok {B : Bs} {fe : M RV} (h : FH) (R : RV → FH → (Nat → Addr) → Hp → Prop) (μ : Nat → Addr) (n : Nat) (H : Hp) (E' : XK) (p : Po B μ n H (fun d h' μ' H' => R (.l d) h' μ' H') E' (mL fe h)) : Po B μ n H R E' (fe h) := by
  unfold mL bnd at p
  cases q : fe h with
  | no => rw [q] at p; exact p
  | ex x h' => rw [q] at p; exact p
  | ok r h' =>
    rw [q] at p
    cases r with
    | l ds => exact p
    | _ => exact False.elim p
theorem mD_ok {B : Bs} {fe : M RV} (h : FH) (R : RV → FH → (Nat → Addr) → Hp → Prop) (μ : Nat → Addr) (n : Nat) (H : Hp) (E' : XK) (p : Po B μ n H (fun d h' μ' H' => R (.d d) h' μ' H') E' (mD fe h)) : Po B μ n H R E' (fe h) := by
  unfold mD bnd at p
  cases q : fe h with
  | no => rw [q] at p; exact p
  | ex x h' => rw [q] at p; exact p
  | ok r h' =>
    rw [q] at p
    cases r with
    | d ds => exact p
    | _ => exact False.elim p
theorem jb_setL (i : Nat) {x : Str} {px : Pos} {Γ' : List FV → Sl} {k : List FV → M (Fl α β)} (w : SubX Γx Γ) (hN : X.N.Nodup) (he : JE X W E Γ e fe) (hk : ∀ d, JB X W E Γx eα eβ (Γ' d) rest (k d)) (hΓ : ∀ d, Γ.set i (some (.l d)) = Γ' d := by intro _; rfl) (hi : X.N[i]? = some x := by rfl) (hx : Loc X.env.scope x := by first | exact Or.inl rfl | exact Or.inr rfl)
    (hs : swapsWith e (some (.Name x px)) pos.line X.env = pure false := by rfl) (hf : X.fn x = true ∨ X.env.scope.names.lookup x = some .local := by first | exact .inl rfl | exact .inr rfl | assumption) :
    JB X W E Γx eα eβ Γ (.Assign [.Name x px] e pos :: rest) (bnd (mL fe) k) := jb_setO i RV.l (fun _ => rfl) w hN he (fun h R μ n H E' p => mL_ok h R μ n H E' p) hk hΓ hi hx hs hf
theorem jb_setD (i : Nat) {x : Str} {px : Pos} {Γ' : List (Key × FV) → Sl} {k : List (Key × FV) → M (Fl α β)} (w : SubX Γx Γ) (hN : X.N.Nodup) (he : JE X W E Γ e fe) (hk : ∀ d, JB X W E Γx eα eβ (Γ' d) rest (k d)) (hΓ : ∀ d, Γ.set i (some (.d d)) = Γ' d := by intro _; rfl) (hi : X.N[i]? = some x := by rfl) (hx : Loc X.env.scope x := by first | exact Or.inl rfl | exact Or.inr rfl)
    (hs : swapsWith e (some (.Name x px)) pos.line X.env = pure false := by rfl) (hf : X.fn x = true ∨ X.env.scope.names.lookup x = some .local := by first | exact .inl rfl | exact .inr rfl | assumption) :
    JB X W E Γx eα eβ Γ (.Assign [.Name x px] e pos :: rest) (bnd (mD fe) k) := jb_setO i RV.d (fun _ => rfl) w hN he (fun h R μ n H E' p => mD_ok h R μ n H E' p) hk hΓ hi hx hs hf
/-- x = e, a new object gets a number -/
theorem jb_setT (i : Nat) {x : Str} {px : Pos} {Γ' : FV → Sl} {k : FV → M (Fl α β)} (w : SubX Γx Γ) (hN : X.N.Nodup) (he : JE X W E Γ e fe) (hk : ∀ d, JB X W E Γx eα eβ (Γ' d) rest (k d)) (hΓ : ∀ d, Γ.set i (some (.v d)) = Γ' d := by intro _; rfl) (hi : X.N[i]? = some x := by rfl) (hx : Loc X.env.scope x := by first | exact Or.inl rfl | exact Or.inr rfl)
    (hs : swapsWith e (some (.Name x px)) pos.line X.env = pure false := by rfl) (hf : X.fn x = true ∨ X.env.scope.names.lookup x = some .local := by first | exact .inl rfl | exact .inr rfl | assumption) :
    JB X W E Γx eα eβ Γ (.Assign [.Name x px] e pos :: rest) (bnd (mT fe) k) := fun μ h σ H D s p =>
  wcons (wS.of (ps_set hN hi hx pe_w hs hf) (he μ h σ H _ s (Po.mono (Po.vT (PoN.bnd s w p)) fun r h1 μ1 H1 _ s1 hr1 p1 u ru => by
    obtain ⟨d, h2, μ2, s2, hr2, v2, s3, p2⟩ := p1 u ru
    have s4 := s3.putV (i := i) v2
    rw [hΓ d] at s4
    exact hk d μ2 h2 _ H1 D s4 p2)))
theorem jb_expr {k : M (Fl α β)} (w : SubX Γx Γ) (he : JE X W E Γ e fe) (hk : JB X W E Γx eα eβ Γ rest k) (hs : swapsWith e none pos.line X.env = pure false := by rfl) : JB X W E Γx eα eβ Γ (.Expr e pos :: rest) (bnd fe fun _ => k) := fun μ h σ H D s p =>
  wcons (wS.of (ps_expr pe_w hs) (he μ h σ H _ s (Po.mono (PoN.bnd s w p) fun r h1 μ1 H1 _ s1 hr1 p1 u ru => hk μ1 h1 σ H1 D p1.1 p1.2)))
/-- return e -/
def ret (m : M RV) : M (Fl α β) := bnd m fun r => pur (.rt r)
theorem jb_ret (w : SubX Γx Γ) (he : JE X W E Γ e fe) : JB X W E Γx eα eβ Γ [.Return (some e) pos] (ret fe) := fun μ h σ H D s p =>
  wone (wS.of (ps_ret pe_w) (he μ h σ H _ s (Po.mono (PoN.bnd s w p) fun r h1 μ1 H1 _ s1 hr1 p1 u ru =>
    (show ∀ μ' H' u, _ → _ → _ → _ → D.rt u H' from p1.2) μ1 H1 u (StW.refl _ _ _) p1.1.st hr1 (ru.since s.st.th))))
/-- return x: what the slot holds goes out -/
theorem jb_retS (i : Nat) {r : RV} (q : sg Γ i = some r := by rfl) {x : Str} (hN : X.N[i]? = some x := by rfl) (hv : Vis X.env.scope x := by first | exact Or.inl rfl | exact Or.inr (Or.inl rfl) | exact Or.inr (Or.inr rfl)) (hd : (x == ("__debug__" : Str)) = false := by decide)
    (hcd : (x == ("__classdict__" : Str)) = false := by decide) : JB X W E Γx eα eβ Γ [.Return (some (.Name x p0)) pos] (pur (.rt r)) := fun μ h σ H D s p => by
  obtain ⟨u, h1, h2⟩ := s.sl i r (sg_get q)
  exact wone (wS.of (ps_ret (pe_var hN hv hd hcd)) ⟨u, h1, (show ∀ μ' H' u, _ → _ → _ → _ → D.rt u H' from p) μ H u (StW.refl _ _ _) s.st s.hr h2⟩)
theorem jb_retN : JB X W E Γx eα eβ Γ [.Return none pos] (pur (.rt (.v .non))) := fun μ h σ H D s p =>
  wone (wS.of ps_retN ((show ∀ μ' H' u, _ → _ → _ → _ → D.rt u H' from p) μ H .non (StW.refl _ _ _) s.st s.hr (.v .non)))
theorem jb_pass {k : M (Fl α β)} (hk : JB X W E Γx eα eβ Γ rest k) : JB X W E Γx eα eβ Γ (.Pass pos :: rest) k := fun μ h σ H D s p => wcons (wS.of ps_pass (hk μ h σ H D s p))
theorem jb_doc {x : Str} {j} {k : M (Fl α β)} (hk : JB X W E Γx eα eβ Γ rest k) : JB X W E Γx eα eβ Γ (.Expr (.Constant (.str x) j p0) pos :: rest) k := fun μ h σ H D s p => wcons (wS.of ps_doc (hk μ h σ H D s p))
theorem jb_break {b : β} (w : Sub (eβ b) Γ) : JB X W E Γx eα eβ Γ [.Break pos] (pur (.bk b)) := fun μ h σ H D s p => wone (wS.of ps_break ((show ∀ μ' σ' H', _ → _ → D.bk σ' H' from p) μ σ H (StW.refl _ _ _) (s.sub w)))
theorem jb_cont {b : β} (w : Sub (eβ b) Γ) : JB X W E Γx eα eβ Γ [.Continue pos] (pur (.ct b)) := fun μ h σ H D s p => wone (wS.of ps_continue ((show ∀ μ' σ' H', _ → _ → D.ct σ' H' from p) μ σ H (StW.refl _ _ _) (s.sub w)))
/-- if, where both branches go on -/
theorem jb_if {t : M Bool} {A B : M (Fl α β)} {k : α → M (Fl γ β)} (w : SubX Γx Γ) (hc : JT X W E Γ c t) (hA : JB X W E Γx eα eβ Γ body A) (hB : JB X W E Γx eα eβ Γ orelse B) (hk : ∀ a, JB X W E Γx eγ eβ (eα a) rest (k a)) :
    JB X W E Γx eγ eβ Γ (.If c body orelse pos :: rest) (bnd t fun b => seqN (if b = true then A else B) k) := fun μ h σ H D s p =>
  wcons (wS.of (ps_if pt_w pss_w pss_w) (hc μ h σ H _ s (Po.mono (PoN.bnd s w p) fun b h1 μ1 H1 _ s1 hr1 p1 => by
    obtain ⟨s2, p2⟩ := p1
    have p3 := PoN.seq (N := fun σ' H' => wSs X rest D σ' H') p2 fun a h' μ' σ' H' _ sr q => hk a μ' h' σ' H' D sr q
    cases b with
    | true => rw [if_pos rfl] at p3; rw [if_pos rfl]; exact hA μ1 h1 σ H1 _ s2 p3
    | false => rw [if_neg (by decide)] at p3; rw [if_neg (by decide)]; exact hB μ1 h1 σ H1 _ s2 p3)))
/-- if, the last statement of its block -/
theorem jb_ifE {t : M Bool} {A B : M (Fl α β)} (w : SubX Γx Γ) (hc : JT X W E Γ c t) (hA : JB X W E Γx eα eβ Γ body A) (hB : JB X W E Γx eα eβ Γ orelse B) :
    JB X W E Γx eα eβ Γ [.If c body orelse pos] (bnd t fun b => if b = true then A else B) := fun μ h σ H D s p =>
  wone (wS.of (ps_if pt_w pss_w pss_w) (hc μ h σ H _ s (Po.mono (PoN.bnd s w p) fun b h1 μ1 H1 _ s1 hr1 p1 => by
    obtain ⟨s2, p2⟩ := p1
    cases b with
    | true => rw [if_pos rfl] at p2 ⊢; exact hA μ1 h1 σ H1 _ s2 p2
    | false => rw [if_neg (by decide)] at p2 ⊢; exact hB μ1 h1 σ H1 _ s2 p2)))
/-- if, whose first branch does not go on -/
theorem jb_ifL {t : M Bool} {A : M (Fl Empty β)} {k : M (Fl α β)} (w : SubX Γx Γ) (hc : JT X W E Γ c t) (hA : JB X W E Γx eE eβ Γ body A) (hk : JB X W E Γx eα eβ Γ rest k) :
    JB X W E Γx eα eβ Γ (.If c body [] pos :: rest) (bnd t fun b => if b = true then up A else k) := fun μ h σ H D s p =>
  wcons (wS.of (ps_if pt_w pss_w pss_w) (hc μ h σ H _ s (Po.mono (PoN.bnd s w p) fun b h1 μ1 H1 _ s1 hr1 p1 => by
    obtain ⟨s2, p2⟩ := p1
    cases b with
    | true => rw [if_pos rfl] at p2 ⊢; exact hA μ1 h1 σ H1 _ s2 p2.up
    | false => rw [if_neg (by decide)] at p2 ⊢; exact wSs.of pss_nil (hk μ1 h1 σ H1 D s2 p2))))
/-- .. with an else that goes on -/
theorem jb_ifLE {t : M Bool} {A : M (Fl Empty β)} {B : M (Fl α β)} {k : α → M (Fl γ β)} (w : SubX Γx Γ) (hc : JT X W E Γ c t) (hA : JB X W E Γx eE eβ Γ body A) (hB : JB X W E Γx eα eβ Γ orelse B) (hk : ∀ a, JB X W E Γx eγ eβ (eα a) rest (k a)) :
    JB X W E Γx eγ eβ Γ (.If c body orelse pos :: rest) (bnd t fun b => if b = true then up A else seqN B k) := fun μ h σ H D s p =>
  wcons (wS.of (ps_if pt_w pss_w pss_w) (hc μ h σ H _ s (Po.mono (PoN.bnd s w p) fun b h1 μ1 H1 _ s1 hr1 p1 => by
    obtain ⟨s2, p2⟩ := p1
    cases b with
    | true => rw [if_pos rfl] at p2 ⊢; exact hA μ1 h1 σ H1 _ s2 p2.up
    | false =>
      rw [if_neg (by decide)] at p2 ⊢
      exact hB μ1 h1 σ H1 _ s2 (PoN.seq p2 fun a h' μ' σ' H' _ sr q => hk a μ' h' σ' H' D sr q))))
/-- .. whose else does not go on -/
theorem jb_ifER {t : M Bool} {A : M (Fl α β)} {B : M (Fl Empty β)} {k : α → M (Fl γ β)} (w : SubX Γx Γ) (hc : JT X W E Γ c t) (hA : JB X W E Γx eα eβ Γ body A) (hB : JB X W E Γx eE eβ Γ orelse B) (hk : ∀ a, JB X W E Γx eγ eβ (eα a) rest (k a)) :
    JB X W E Γx eγ eβ Γ (.If c body orelse pos :: rest) (bnd t fun b => if b = true then seqN A k else up B) := fun μ h σ H D s p =>
  wcons (wS.of (ps_if pt_w pss_w pss_w) (hc μ h σ H _ s (Po.mono (PoN.bnd s w p) fun b h1 μ1 H1 _ s1 hr1 p1 => by
    obtain ⟨s2, p2⟩ := p1
    cases b with
    | false => rw [if_neg (by decide)] at p2 ⊢; exact hB μ1 h1 σ H1 _ s2 p2.up
    | true =>
      rw [if_pos rfl] at p2 ⊢
      exact hA μ1 h1 σ H1 _ s2 (PoN.seq p2 fun a h' μ' σ' H' _ sr q => hk a μ' h' σ' H' D sr q))))
/-- if c: return e -/
theorem jb_ifR {t : M Bool} {k : M (Fl α β)} (w : SubX Γx Γ) (hc : JT X W E Γ c t) (he : JE X W E Γ e fe) (hk : JB X W E Γx eα eβ Γ rest k) :
    JB X W E Γx eα eβ Γ (.If c [.Return (some e) p1] [] pos :: rest) (bnd t fun b => if b = true then ret fe else k) := fun μ h σ H D s p =>
  wcons (wS.of (ps_if pt_w pss_w pss_w) (hc μ h σ H _ s (Po.mono (PoN.bnd s w p) fun b h1 μ1 H1 _ s1 hr1 p1 => by
    obtain ⟨s2, p2⟩ := p1
    cases b with
    | true =>
      rw [if_pos rfl] at p2 ⊢
      exact wone (wS.of (ps_ret pe_w) (he μ1 h1 σ H1 _ s2 (Po.mono (PoN.bnd s2 w p2) fun r h2 μ2 H2 _ s3 hr3 p3 u ru =>
        (show ∀ μ' H' u, _ → _ → _ → _ → D.rt u H' from p3.2) μ2 H2 u (StW.refl _ _ _) p3.1.st hr3 (ru.since s2.st.th))))
    | false => rw [if_neg (by decide)] at p2 ⊢; exact wSs.of pss_nil (hk μ1 h1 σ H1 D s2 p2))))
end
end P

/-! P: targets, what is walked, loops. -/
namespace P
open PySem PySem.Spec PyProof.Rows L2 G

/-! ### targets -/
/-- only the slots os change -/
def Ch (os : List Nat) (σ σ' : St) : Prop := σ'.length = σ.length ∧ ∀ j, j ∉ os → σ'[j]? = σ[j]?
theorem Ch.trans {os os' : List Nat} {σ σ1 σ2 : St} (a : Ch os σ σ1) (b : Ch os' σ1 σ2) : Ch (os ++ os') σ σ2 :=
  ⟨b.1.trans a.1, fun j hj => (b.2 j fun z => hj (List.mem_append_right _ z)).trans (a.2 j fun z => hj (List.mem_append_left _ z))⟩
/-- a target's reading: the parts of the value, and the slots behind -/
def JGw (B : Bs) (g : TG) (os : List Nat) {δ : Type} (b : FV → Option δ) (put : Sl → δ → Sl) : Prop :=
  ∀ E μ Γ h σ H v d x (Q : St → Hp → Prop), SR B E μ Γ h σ H → VR B H μ h.length d v → b d = some x → (∀ σ', SR B E μ (put Γ x) h σ' H → Ch os σ σ' → Q σ' H) → g v σ H Q
def JGws (B : Bs) (g : List V → St → Hp → (St → Hp → Prop) → Prop) (os : List Nat) (n : Nat) {δ : Type} (b : List FV → Option δ) (put : Sl → δ → Sl) : Prop :=
  (∀ ds x, b ds = some x → ds.length = n) ∧ ∀ E μ Γ h σ H vs ds x (Q : St → Hp → Prop), SR B E μ Γ h σ H → VRs B H μ h.length ds vs → b ds = some x → (∀ σ', SR B E μ (put Γ x) h σ' H → Ch os σ σ' → Q σ' H) → g vs σ H Q
section
variable {B : Bs} {δ δ' : Type} {os os' : List Nat} {n : Nat}
def putN (i : Nat) (Γ : Sl) (d : FV) : Sl := Γ.set i (some (.v d))
theorem jgw_name (i : Nat) : JGw B (gName i) [i] (some : FV → Option FV) (putN i) := fun E μ Γ h σ H v d x Q s r e q => by
  cases e
  exact q _ (s.putV r) ⟨by rw [List.length_set], fun j hj => by rw [List.getElem?_set_ne (fun z => hj (by rw [z]; exact List.mem_cons_self))]⟩
def bNil (ds : List FV) : Option Unit := match ds with | [] => some () | _ => none
def bCons (f : FV → Option δ) (g : List FV → Option δ') (ds : List FV) : Option (δ × δ') := match ds with
  | d :: ds => match f d with
    | some x => match g ds with
      | some y => some (x, y)
      | none => none
    | none => none
  | [] => none
def bTup (g : List FV → Option δ) (d : FV) : Option δ := match d with | .tup ds => g ds | .fl ds => g ds | .sl ds => g ds | _ => none
/-- a tuple's parts, a list's items -/
def gTL (K : PySem.W.Frag) (n : Nat) (t : List V → St → Hp → (St → Hp → Prop) → Prop) : TG := fun v σ H Q => L2.gTup K n t v σ H Q ∨ L2.gUnl K n t v σ H Q
theorem pg_tl {X : Cx} {es : List Expr} {k n : Nat} {t : List V → St → Hp → (St → Hp → Prop) → Prop} {pos : Pos} (hc : X.calm = true) (h : PGs X es t) (hn : (assignEach es X.env).length = n) (hst : (assignEach es X.env).findIdx? (·.1) = none) : PG X (.Tuple es k pos) (gTL X.K n t) := ⟨fun pins s σ H v u Q I r w => by
  rcases w with w | w
  · exact (pg_tup hc h hn hst).run pins s σ H v u Q I r w
  · exact (pg_unl hc h hn hst).run pins s σ H v u Q I r w⟩
def putCons (f : Sl → δ → Sl) (g : Sl → δ' → Sl) (Γ : Sl) (x : δ × δ') : Sl := g (f Γ x.1) x.2
theorem jgws_nil : JGws B gNil [] 0 bNil (fun Γ _ => Γ) := by
  refine ⟨fun ds x e => ?_, fun E μ Γ h σ H vs ds x Q s r e q => ?_⟩
  · cases ds with
    | nil => rfl
    | cons d ds => cases e
  · cases r with
    | nil => exact ⟨rfl, q _ s ⟨rfl, fun _ _ => rfl⟩⟩
    | cons a b => cases e
theorem bCons_inv {f : FV → Option δ} {g : List FV → Option δ'} {ds : List FV} {z : δ × δ'} (e : bCons f g ds = some z) : ∃ d es, ds = d :: es ∧ f d = some z.1 ∧ g es = some z.2 := by
  unfold bCons at e
  split at e
  · rename_i d es
    split at e
    · rename_i x hx
      split at e
      · rename_i y hy
        cases e
        exact ⟨d, es, rfl, hx, hy⟩
      · cases e
    · cases e
  · cases e
theorem jgws_cons {t1 : TG} {t2 : List V → St → Hp → (St → Hp → Prop) → Prop} {f : FV → Option δ} {g : List FV → Option δ'} {p1 : Sl → δ → Sl} {p2 : Sl → δ' → Sl} (h1 : JGw B t1 os f p1) (h2 : JGws B t2 os' n g p2) : JGws B (gCons t1 t2) (os ++ os') (n + 1) (bCons f g) (putCons p1 p2) := by
  refine ⟨fun ds x e => ?_, fun E μ Γ h σ H vs ds x Q s r e q => ?_⟩
  · obtain ⟨d, es, rfl, _, e2⟩ := bCons_inv e
    exact congrArg (· + 1) (h2.1 es _ e2)
  · obtain ⟨d, es, rfl, e1, e2⟩ := bCons_inv e
    cases r with
    | cons a b => exact ⟨_, _, rfl, h1 E μ Γ h σ H _ d x.1 _ s a e1 fun σ1 s1 c1 => h2.2 E μ _ h σ1 H _ es x.2 Q s1 b e2 fun σ2 s2 c2 => q σ2 s2 (c1.trans c2)⟩
theorem jgw_tup {t : List V → St → Hp → (St → Hp → Prop) → Prop} {g : List FV → Option δ} {p : Sl → δ → Sl} (h : JGws B t os n g p) : JGw B (gTL B.K n t) os (bTup g) p := fun E μ Γ h0 σ H v d x Q s r e q => by
  unfold bTup at e
  split at e
  · cases r with
    | tup r1 r2 => exact .inl ⟨_, _, rfl, r1, by rw [r2.len]; exact h.1 _ _ e, h.2 E μ Γ h0 σ H _ _ x Q s r2 e q⟩
  · cases r with
    | fl r1 r2 => exact .inr ⟨_, _, rfl, .inl r1.rd, by rw [r2.len]; exact h.1 _ _ e, h.2 E μ Γ h0 σ H _ _ x Q s r2 e q⟩
  · cases r with
    | sl r1 r2 => exact .inr ⟨_, _, rfl, r1.sqL, by rw [r2.len]; exact h.1 _ _ e, h.2 E μ Γ h0 σ H _ _ x Q s r2 e q⟩
  · cases e
end
def bindT {δ : Type} {γ : Type} (b : FV → Option δ) (d : FV) (k : δ → M γ) : M γ := match b d with | some x => k x | none => fail

/-! ### what is walked -/
def FWalk (B : Bs) (μ1 : Nat → Addr) (n1 : Nat) (H1 : Hp) (J : It) (ds : List FV) : Prop :=
  Walk J ds.length (fun H' => ∃ μ' n', StW μ1 n1 H1 μ' n' H')
    (fun i H x H' => Same H H' ∧ ∀ μ' n', StW μ1 n1 H1 μ' n' H → ∃ d, ds[i]? = some d ∧ VR B H' μ' n' d x)
theorem PI.or {X : Cx} {tg iter : Expr} {w1 w2 : TI} (h1 : PI X tg iter w1) (h2 : PI X tg iter w2) : PI X tg iter (fun σ H R => w1 σ H R ∨ w2 σ H R) := ⟨fun pins s σ H R I h => by
  rcases h with h | h
  · exact h1.run pins s σ H R I h
  · exact h2.run pins s σ H R I h⟩
/-- f gives the items that are walked -/
def JIw (X : Cx) (W : WX) (E : Ent) (Γ : Sl) (wi : TI) (f : M (List FV)) : Prop := ∀ μ h σ H R, SR (bs X) E μ Γ h σ H →
  Po (bs X) μ h.length H (fun ds h1 μ1 H1 => ∀ J, FWalk (bs X) μ1 h1.length H1 J ds → R J H1) (fun c d H' => W c d σ H') (f h) → wi σ H R
def JI (X : Cx) (W : WX) (E : Ent) (Γ : Sl) (tg iter : Expr) (f : M (List FV)) : Prop := ∃ wi, PI X tg iter wi ∧ JIw X W E Γ wi f
theorem JI.to {X : Cx} {W : WX} {E : Ent} {Γ : Sl} {tg e : Expr} {f g : M (List FV)} (p : JI X W E Γ tg e f) (q : ∀ h, f h = g h) : JI X W E Γ tg e g := by
  have : f = g := funext q
  exact this ▸ p
section
variable {B : Bs} {μ1 : Nat → Addr} {n1 : Nat} {H0 H1 : Hp} {a b : Addr} {xs ys : List V} {ds es : List FV} {x : RV} {u : V}
theorem fw_tup (hq : SqT B.K H1 a xs) (r : VRs B H1 μ1 n1 ds xs) : FWalk B μ1 n1 H1 (Itt B.K a) ds := by
  have w := walk_tup (K := B.K) (a := a) (xs := xs)
  rw [r.len] at w
  refine w.mono (fun H' ⟨μ', n', s⟩ => s.gw.sqt hq) fun i H x H' hi g y => ?_
  obtain ⟨rfl, y⟩ := y
  obtain ⟨d, hd, md⟩ := r.get' y
  exact ⟨Same.refl _, fun μ' n' s => ⟨d, hd, s.vr md⟩⟩
/-- a list that stays -/
def LstAt (B : Bs) (H1 : Hp) (a : Addr) (xs : List V) : Prop := ∀ H', Gw H1 H' → SqL B.K H' a xs
theorem fw_lst (hq : LstAt B H1 a xs) (r : VRs B H1 μ1 n1 ds xs) : FWalk B μ1 n1 H1 (Itl B.K a) ds where
  goes i H hi g := by
    obtain ⟨μ', n', s⟩ := g
    have hi' : i < xs.length := by rw [r.len]; exact hi
    exact ⟨xs, xs[i], hq H s.gw, List.getElem?_eq_getElem hi'⟩
  stops H g := by
    obtain ⟨μ', n', s⟩ := g
    exact ⟨xs, hq H s.gw, by rw [r.len]; exact Nat.le_refl _⟩
  yields i H x H' hi g y := by
    obtain ⟨rfl, y⟩ := y
    refine ⟨Same.refl _, fun μ' n' s => ?_⟩
    exact (s.vrs r).get' (y xs (hq H' s.gw))
end
theorem key_vr {B : Bs} {H : Hp} {μ : Nat → Addr} {n : Nat} (k : Key) : VR B H μ n (keyF k) (kV k) := by
  cases k with
  | inl i => exact .int i
  | inr x => exact .str x
def chars (x : Str) : List FV := x.cps.toList.map fun c => .str ⟨#[c]⟩
theorem fw_str {B : Bs} {μ1 : Nat → Addr} {n1 : Nat} {H1 : Hp} {x : Str} : FWalk B μ1 n1 H1 (Its x) (chars x) := by
  have w := walk_str (z := x)
  have e : (chars x).length = x.cps.size := by simp [chars]
  unfold FWalk
  rw [e]
  refine w.mono (fun _ _ => trivial) fun i H v H' hi g y => ?_
  obtain ⟨rfl, c, y1, y2⟩ := y
  subst y2
  refine ⟨Same.refl _, fun μ' n' s => ⟨_, ?_, .str _⟩⟩
  unfold chars
  rw [List.getElem?_map, Array.getElem?_toList, y1]
  rfl
theorem KvR.get' {κ : Type} {B : Bs} {H : Hp} {μ : Nat → Addr} {n : Nat} : ∀ {ds : List (κ × FV)} {vs : List (κ × V)} {i : Nat} {k : κ} {v : V}, KvR B H μ n ds vs → vs[i]? = some (k, v) → ∃ x, ds[i]? = some (k, x) ∧ VR B H μ n x v
  | _, _, i, k, v, .nil, e => by simp at e
  | d :: ds, w :: vs, 0, k, v, .cons a b, e => by
    have e' : w = (k, v) := Option.some.inj e
    subst e'
    have h1 : d.1 = k := a.1
    exact ⟨d.2, by rw [← h1]; rfl, a.2⟩
  | _ :: ds, _ :: vs, i + 1, k, v, .cons a b, e => KvR.get' (i := i) b (by simpa using e)
def keysF {κ : Type} (f : κ → FV) (kvs : List (κ × FV)) : List FV := kvs.map fun kv => f kv.1
def itemsF (kvs : List (Key × FV)) : List FV := kvs.map fun kv => .tup [keyF kv.1, kv.2]
section
variable {B : Bs} {μ1 : Nat → Addr} {n1 : Nat} {H1 : Hp} {d : Addr} {od : Obj} {ws : List (Key × V)} {kvs : List (Key × FV)}
theorem fw_keys (e : H1 d = some (.frz od (.dK ws))) (r : KvR B H1 μ1 n1 kvs ws) : FWalk B μ1 n1 H1 (Itk d od ws) (keysF keyF kvs) := by
  have w := walk_keys (d := d) (o := od) (kvs := ws)
  have l : (keysF keyF kvs).length = ws.length := by rw [r.len]; simp [keysF]
  unfold FWalk
  rw [l]
  refine w.mono (fun H' ⟨μ', n', s⟩ => s.gw.2 _ _ _ e) fun i H x H' hi g y => ?_
  obtain ⟨rfl, k, v, y1, y2⟩ := y
  subst y2
  obtain ⟨x, a1, a2⟩ := r.get' y1
  exact ⟨Same.refl _, fun μ' n' s => ⟨keyF k, by unfold keysF; rw [List.getElem?_map, a1]; rfl, key_vr k⟩⟩
theorem pair_vr {μ' : Nat → Addr} {n : Nat} {H : Hp} {T : Addr} {d1 d2 : FV} {x1 x2 : V} (hT : H T = none) (v1 : VR B H μ' n d1 x1) (v2 : VR B H μ' n d2 x2) : VR B (upd H T (.tup [x1, x2])) μ' n (.tup [d1, d2]) (.ref T) := by
  have g := Same.gw (same_new (o := HO.tup [x1, x2]) hT)
  exact .tup (.inl (.inl upd_same)) (.cons (VR.mono g (fun _ _ => rfl) (Nat.le_refl _) _ _ v1) (.cons (VR.mono g (fun _ _ => rfl) (Nat.le_refl _) _ _ v2) .nil))
end
/-- the items of what is walked -/
def oW (d : FV) : M (List FV) := match d with
  | .tup ds => pur ds
  | .fl ds => pur ds
  | .sl ds => pur ds
  | .str x => pur (chars x)
  | .fd ks vs => pur (keysF keyF (ks.zip vs))
  | _ => fail
section
variable {X : Cx} {W : WX} {E : Ent} {Γ : Sl} {tg iter e f a b o : Expr} {pos apos p0 p1 : Pos} {fe ff fa fb : M RV}
theorem fz_at {B : Bs} {H : Hp} {a : Addr} {xs : List V} (z : Fz H a (.lst xs)) : LstAt B H a xs := fun H' g => .inl (z.gw g).rd
theorem fzl_at {B : Bs} {H : Hp} {a : Addr} {xs : List V} (z : FzL B.K H a xs) : LstAt B H a xs := fun H' g => (z.gw g).sqL
theorem ji_seq (he : JE X W E Γ iter fe) : JI X W E Γ tg iter (bnd (mV fe) oW) := by
  refine ⟨_, PI.or (pi_tup pe_w) (PI.or (pi_list pe_w) (PI.or (pi_str pe_w) (pi_keys pe_w))), fun μ h σ H R s p => ?_⟩
  cases q : mV fe h with
  | no => unfold bnd at p; rw [q] at p; exact p.elim
  | ex x h1 => unfold bnd at p; rw [q] at p; exact .inl (he.val s (by rw [q]; exact p))
  | ok d h1 =>
    unfold bnd at p
    rw [q] at p
    have go : ∀ {Q : VK}, (∀ μ1 H1 u, Step μ h.length H μ1 h1.length H1 → HR (bs X) μ1 h1 H1 → VR (bs X) H1 μ1 h1.length d u → Q u H1) → wE X iter σ H Q := fun {Q} g => he.val s (by rw [q]; exact fun μ1 H1 s1 hr1 u vu => g μ1 H1 u s1 hr1 vu)
    cases d with
    | tup ds =>
      refine .inl (go fun μ1 H1 u s1 hr1 vu => ?_)
      cases vu with
      | tup a b => exact ⟨_, rfl, ⟨_, a⟩, p μ1 H1 s1 hr1 _ (fw_tup a b)⟩
    | fl ds =>
      refine .inr (.inl (go fun μ1 H1 u s1 hr1 vu => ?_))
      cases vu with
      | fl a b => exact ⟨_, rfl, ⟨_, .inl a.rd⟩, p μ1 H1 s1 hr1 _ (fw_lst (fz_at a) b)⟩
    | sl ds =>
      refine .inr (.inl (go fun μ1 H1 u s1 hr1 vu => ?_))
      cases vu with
      | sl a b => exact ⟨_, rfl, ⟨_, a.sqL⟩, p μ1 H1 s1 hr1 _ (fw_lst (fzl_at a) b)⟩
    | str x =>
      refine .inr (.inr (.inl (go fun μ1 H1 u s1 hr1 vu => ?_)))
      cases vu with
      | str => exact ⟨_, rfl, p μ1 H1 s1 hr1 _ fw_str⟩
    | fd ks ds =>
      refine .inr (.inr (.inr (go fun μ1 H1 u s1 hr1 vu => ?_)))
      cases vu with
      | fd a b =>
        obtain ⟨od, a⟩ := a
        exact ⟨_, od, rfl, .inl ⟨_, a, p μ1 H1 s1 hr1 _ (fw_keys a (KvR.zip b))⟩⟩
    | _ => exact p.elim
/-- d.items() -/
def oItems (d : FV) : M (List FV) := match d with | .fd ks vs => pur (itemsF (ks.zip vs)) | _ => fail
theorem fw_items {B : Bs} {μ1 : Nat → Addr} {n1 : Nat} {H1 : Hp} {d : Addr} {od : Obj} {ws : List (Key × V)} {kvs : List (Key × FV)} (e : H1 d = some (.frz od (.dK ws))) (r : KvR B H1 μ1 n1 kvs ws) : FWalk B μ1 n1 H1 (Iti d od ws) (itemsF kvs) where
  goes i H hi g := by
    obtain ⟨μ', n', s⟩ := g
    refine ⟨s.gw.2 _ _ _ e, ?_⟩
    rw [r.len]
    simpa [itemsF] using hi
  stops H g := by
    obtain ⟨μ', n', s⟩ := g
    refine ⟨s.gw.2 _ _ _ e, ?_⟩
    rw [r.len]
    simp [itemsF]
  yields i H x H' hi g y := by
    obtain ⟨T, k, v, y1, rfl, hT, rfl⟩ := y
    obtain ⟨z, a1, a2⟩ := r.get' y1
    exact ⟨same_new hT, fun μ' n' s => ⟨.tup [keyF k, z], by unfold itemsF; rw [List.getElem?_map, a1]; rfl, pair_vr hT (key_vr k) (s.vr a2)⟩⟩
theorem ji_items {elts : List Expr} {kk : Nat} {tpos : Pos} (he : JE X W E Γ o fe) (hb : attributeBase o "items" X.env (eval o X.env) = eval o X.env := by rfl) (hl : (apos.endLine == pos.line) = true := by rfl) : JI X W E Γ (.Tuple elts kk tpos) (.Call (.Attribute o "items" apos) [] [] pos) (bnd (mV fe) oItems) := by
  refine ⟨_, pi_items pe_w hb hl, fun μ h σ H R s p => he.val s (Po.mono (Po.bind p) fun d h1 μ1 H1 _ s1 hr1 p1 u vu => ?_)⟩
  unfold oItems at p1
  split at p1
  · cases vu with
    | fd a b =>
      obtain ⟨od, a⟩ := a
      exact ⟨_, od, _, rfl, a, Po.here rfl hr1 p1 _ (fw_items a (KvR.zip b))⟩
  · exact p1.elim
/-! range(..) -/
def rngL (lo : Int) : Nat → List FV
  | 0 => []
  | n + 1 => .int lo :: rngL (lo + 1) n
theorem rngL_len : ∀ (n : Nat) (lo : Int), (rngL lo n).length = n
  | 0, _ => rfl
  | n + 1, lo => congrArg (· + 1) (rngL_len n (lo + 1))
theorem rngL_at : ∀ (n : Nat) (lo : Int) (i : Nat), i < n → (rngL lo n)[i]? = some (.int (lo + i))
  | 0, _, _, h => absurd h (Nat.not_lt_zero _)
  | n + 1, lo, 0, _ => by show some (FV.int lo) = _; simp
  | n + 1, lo, i + 1, h => by
    show (rngL (lo + 1) n)[i]? = _
    rw [rngL_at n (lo + 1) i (Nat.lt_of_succ_lt_succ h)]
    congr 2
    omega
theorem fw_rng {B : Bs} {μ1 : Nat → Addr} {n1 : Nat} {H1 : Hp} {lo : Int} {n : Nat} : FWalk B μ1 n1 H1 (Itr lo n) (rngL lo n) := by
  have w := walk_range (lo := lo) (n := n)
  unfold FWalk
  rw [rngL_len]
  refine w.mono (fun _ _ => trivial) fun i H x H' hi g y => ?_
  obtain ⟨rfl, y⟩ := y
  exact ⟨Same.refl _, fun μ' n' s => ⟨_, rngL_at n lo i hi, by rw [y]; exact .int _⟩⟩
def oR1 (x : RV) : M (List FV) := match x with
  | .v (.int n) => if -(2 ^ 62) ≤ n ∧ n < 2 ^ 62 then pur (rngL 0 n.toNat) else fail
  | _ => fail
theorem ji_range1 (hm : X.mg "range" = none) (ha : JE X W E Γ a fa) (hg : Gl X "range" := by rfl) (hs1 : starEach [a] X.env = [(false, eval a X.env)] := by rfl) : JI X W E Γ tg (.Call (.Name "range" p1) [a] [] p0) (bnd fa oR1) := by
  refine ⟨_, pi_range1 hg hm (pa_cons pe_w pa_nil hs1) hs1, fun μ h σ H R s p => ?_⟩
  refine ha μ h σ H _ s (Po.mono (Po.bind p) fun x h1 μ1 H1 eq1 s1 hr1 p1 u ru => ?_)
  unfold oR1 at p1
  split at p1
  · rename_i n
    split at p1
    · rename_i hn
      exact ⟨n, by rw [rr_int ru], hn.1, hn.2, Po.last p1 hr1 (Same.refl _) _ fw_rng⟩
    · exact p1.elim
  · exact p1.elim
def oR2 (x y : RV) : M (List FV) := match x, y with
  | .v (.int lo), .v (.int n) => if -(2 ^ 62) ≤ lo ∧ lo < 2 ^ 62 ∧ -(2 ^ 62) ≤ n ∧ n < 2 ^ 62 then pur (rngL lo (n - lo).toNat) else fail
  | _, _ => fail
theorem ji_range2 (hm : X.mg "range" = none) (ha : JE X W E Γ a fa) (hb : JE X W E Γ b fb) (hg : Gl X "range" := by rfl) (hs1 : starEach [a, b] X.env = [(false, eval a X.env), (false, eval b X.env)] := by rfl) (hs2 : starEach [b] X.env = [(false, eval b X.env)] := by rfl) : JI X W E Γ tg (.Call (.Name "range" p1) [a, b] [] p0) (bnd fa fun x => bnd fb fun y => oR2 x y) := by
  refine ⟨_, pi_range2 hg hm (pa_cons pe_w (pa_cons pe_w pa_nil hs2) (by rw [hs1, hs2])) hs1 hs2, fun μ h σ H R s p => ?_⟩
  refine ha μ h σ H _ s (Po.mono (Po.bind p) fun x h1 μ1 H1 eq1 s1 hr1 p1 u ru => hb μ1 h1 σ H1 _ (s.step s1 hr1) (Po.mono (Po.bind p1) fun y h2 μ2 H2 eq2 s2 hr2 p2 v rv => ?_))
  unfold oR2 at p2
  split at p2
  · rename_i lo n
    split at p2
    · rename_i hn
      exact ⟨lo, n, by rw [rr_int (ru.step s2), rr_int rv], hn, Po.last p2 hr2 (Same.refl _) _ fw_rng⟩
    · exact p2.elim
  · exact p2.elim
/-! enumerate, zip, reversed -/
def oSq (d : FV) : M (List FV) := match d with
  | .tup ds => pur ds
  | .fl ds => pur ds
  | .sl ds => pur ds
  | _ => fail
def enumF (lo : Nat) : List FV → List FV
  | [] => []
  | d :: ds => .tup [.int lo, d] :: enumF (lo + 1) ds
theorem enumF_len : ∀ (ds : List FV) (lo : Nat), (enumF lo ds).length = ds.length
  | [], _ => rfl
  | _ :: ds, lo => congrArg (· + 1) (enumF_len ds (lo + 1))
theorem enumF_get : ∀ {ds : List FV} {lo i : Nat} {d : FV}, ds[i]? = some d → (enumF lo ds)[i]? = some (.tup [.int ((lo + i : Nat) : Int), d])
  | [], _, _, _, e => by simp at e
  | d :: ds, lo, 0, d', e => by
    have e' : d = d' := Option.some.inj e
    subst e'
    rfl
  | d :: ds, lo, i + 1, d', e => by
    show (enumF (lo + 1) ds)[i]? = _
    rw [enumF_get (ds := ds) (lo := lo + 1) (i := i) (by simpa using e)]
    congr 5
    omega
section
variable {B : Bs} {μ1 : Nat → Addr} {n1 : Nat} {H1 : Hp} {a b : Addr} {xs ys : List V} {ds es : List FV}
theorem fw_enum (hq : LstAt B H1 a xs) (r : VRs B H1 μ1 n1 ds xs) : FWalk B μ1 n1 H1 (Ite B.K a) (enumF 0 ds) where
  goes i H hi g := by
    obtain ⟨μ', n', s⟩ := g
    have hi' : i < xs.length := by rw [r.len]; rw [enumF_len] at hi; exact hi
    exact ⟨xs, xs[i], hq H s.gw, List.getElem?_eq_getElem hi'⟩
  stops H g := by
    obtain ⟨μ', n', s⟩ := g
    exact ⟨xs, hq H s.gw, by rw [r.len, enumF_len]; exact Nat.le_refl _⟩
  yields i H x H' hi g y := by
    obtain ⟨T, z, rfl, hT, rfl, y⟩ := y
    refine ⟨same_new hT, fun μ' n' s => ?_⟩
    obtain ⟨d, e1, e2⟩ := (s.vrs r).get' (y xs (hq H s.gw))
    exact ⟨_, enumF_get e1, by rw [Nat.zero_add]; exact pair_vr hT (.int _) e2⟩
theorem fw_enumT (q : SqT B.K H1 a xs) (r : VRs B H1 μ1 n1 ds xs) : FWalk B μ1 n1 H1 (Iteu B.K a) (enumF 0 ds) where
  goes i H hi g := by
    obtain ⟨μ', n', s⟩ := g
    have hi' : i < xs.length := by rw [r.len]; rw [enumF_len] at hi; exact hi
    exact ⟨xs, xs[i], s.gw.sqt q, List.getElem?_eq_getElem hi'⟩
  stops H g := by
    obtain ⟨μ', n', s⟩ := g
    exact ⟨xs, s.gw.sqt q, by rw [r.len, enumF_len]⟩
  yields i H x H' hi g y := by
    obtain ⟨T, z, rfl, hT, rfl, y⟩ := y
    refine ⟨same_new hT, fun μ' n' s => ?_⟩
    obtain ⟨d, e1, e2⟩ := (s.vrs r).get' (y xs (s.gw.sqt q))
    exact ⟨_, enumF_get e1, by rw [Nat.zero_add]; exact pair_vr hT (.int _) e2⟩
def zipF (ds es : List FV) : List FV := List.zipWith (fun x y => .tup [x, y]) ds es
theorem zipF_len : (zipF ds es).length = min ds.length es.length := List.length_zipWith
theorem zipF_get {i : Nat} {d e : FV} (h1 : ds[i]? = some d) (h2 : es[i]? = some e) : (zipF ds es)[i]? = some (.tup [d, e]) := by
  unfold zipF; rw [List.getElem?_zipWith, h1, h2]
theorem fw_zip (q : LstAt B H1 a xs) (q2 : LstAt B H1 b ys) (r : VRs B H1 μ1 n1 ds xs) (r2 : VRs B H1 μ1 n1 es ys) : FWalk B μ1 n1 H1 (Itz B.K a b) (zipF ds es) where
  goes i H hi g := by
    obtain ⟨μ', n', s⟩ := g
    rw [zipF_len] at hi
    have hi' : i < xs.length := by rw [r.len]; omega
    have hi2 : i < ys.length := by rw [r2.len]; omega
    exact ⟨xs, ys, xs[i], ys[i], q H s.gw, q2 H s.gw, List.getElem?_eq_getElem hi', List.getElem?_eq_getElem hi2⟩
  stops H g := by
    obtain ⟨μ', n', s⟩ := g
    exact ⟨xs, ys, q H s.gw, q2 H s.gw, by rw [r.len, r2.len, zipF_len]; omega⟩
  yields i H x H' hi g y := by
    obtain ⟨T, z, w, rfl, hT, rfl, y1, y2⟩ := y
    refine ⟨same_new hT, fun μ' n' s => ?_⟩
    obtain ⟨d, e1, e2⟩ := (s.vrs r).get' (y1 xs (q H s.gw))
    obtain ⟨e, e3, e4⟩ := (s.vrs r2).get' (y2 ys (q2 H s.gw))
    exact ⟨_, zipF_get e1 e3, pair_vr hT e2 e4⟩
theorem fw_zipT (q : SqT B.K H1 a xs) (q2 : SqT B.K H1 b ys) (r : VRs B H1 μ1 n1 ds xs) (r2 : VRs B H1 μ1 n1 es ys) : FWalk B μ1 n1 H1 (RZ.ItzT B.K a b) (zipF ds es) where
  goes i H hi g := by
    obtain ⟨μ', n', s⟩ := g
    rw [zipF_len] at hi
    have hi' : i < xs.length := by rw [r.len]; omega
    have hi2 : i < ys.length := by rw [r2.len]; omega
    exact ⟨xs, ys, xs[i], ys[i], s.gw.sqt q, s.gw.sqt q2, List.getElem?_eq_getElem hi', List.getElem?_eq_getElem hi2⟩
  stops H g := by
    obtain ⟨μ', n', s⟩ := g
    exact ⟨xs, ys, s.gw.sqt q, s.gw.sqt q2, by rw [r.len, r2.len, zipF_len]; omega⟩
  yields i H x H' hi g y := by
    obtain ⟨T, z, w, rfl, hT, rfl, y1, y2⟩ := y
    refine ⟨same_new hT, fun μ' n' s => ?_⟩
    obtain ⟨d, e1, e2⟩ := (s.vrs r).get' (y1 xs (s.gw.sqt q))
    obtain ⟨e, e3, e4⟩ := (s.vrs r2).get' (y2 ys (s.gw.sqt q2))
    exact ⟨_, zipF_get e1 e3, pair_vr hT e2 e4⟩
theorem fw_rev (q : LstAt B H1 a xs) (r : VRs B H1 μ1 n1 ds xs) : FWalk B μ1 n1 H1 (Itv B.K a xs.length) ds.reverse where
  goes i H hi g := by
    obtain ⟨μ', n', s⟩ := g
    rw [List.length_reverse, ← r.len] at hi
    have hi' : xs.length - 1 - i < xs.length := by omega
    exact ⟨hi, xs, _, q H s.gw, List.getElem?_eq_getElem hi'⟩
  stops H g := by rw [List.length_reverse, r.len]; exact Nat.le_refl _
  yields i H x H' hi g y := by
    obtain ⟨rfl, y⟩ := y
    rw [List.length_reverse] at hi
    refine ⟨Same.refl _, fun μ' n' s => ?_⟩
    obtain ⟨d, e1, e2⟩ := (s.vrs r).get' (y xs (q H' s.gw))
    exact ⟨d, by rw [List.getElem?_reverse hi, ← r.len]; exact e1, e2⟩
end
theorem ji_enum {elts : List Expr} {kk : Nat} {tpos : Pos} (hm : X.mg "enumerate" = none) (he : JE X W E Γ e fe) (hg : Gl X "enumerate" := by rfl) (hs : starEach [e] X.env = [(false, eval e X.env)] := by rfl) :
    JI X W E Γ (.Tuple elts kk tpos) (.Call (.Name "enumerate" p0) [e] [] pos) (bnd (mV fe) fun d => bnd (oSq d) fun ds => pur (enumF 0 ds)) := by
  refine ⟨_, PI.or (pi_enumT hg hm (pa_cons pe_w pa_nil hs) hs) (pi_enum hg hm (pa_cons pe_w pa_nil hs) hs), fun μ h σ H R s p => ?_⟩
  cases q : mV fe h with
  | no => unfold bnd at p; rw [q] at p; exact p.elim
  | ex x h1 => unfold bnd at p; rw [q] at p; exact .inl (he.val s (by rw [q]; exact p))
  | ok d h1 =>
    unfold bnd at p
    rw [q] at p
    have go : ∀ {Q : VK}, (∀ μ1 H1 u, Step μ h.length H μ1 h1.length H1 → HR (bs X) μ1 h1 H1 → VR (bs X) H1 μ1 h1.length d u → Q u H1) → wE X e σ H Q := fun {Q} g => he.val s (by rw [q]; exact fun μ1 H1 s1 hr1 u vu => g μ1 H1 u s1 hr1 vu)
    cases d with
    | tup ds =>
      refine .inl (go fun μ1 H1 u s1 hr1 vu => ?_)
      cases vu with
      | tup a b => exact ⟨_, _, rfl, a, p μ1 H1 s1 hr1 _ (fw_enumT a b)⟩
    | fl ds =>
      refine .inr (go fun μ1 H1 u s1 hr1 vu => ?_)
      cases vu with
      | fl a b => exact ⟨_, _, rfl, .inl a.rd, p μ1 H1 s1 hr1 _ (fw_enum (fz_at a) b)⟩
    | sl ds =>
      refine .inr (go fun μ1 H1 u s1 hr1 vu => ?_)
      cases vu with
      | sl a b => exact ⟨_, _, rfl, a.sqL, p μ1 H1 s1 hr1 _ (fw_enum (fzl_at a) b)⟩
    | _ => exact p.elim
def oLs (d : FV) : M (List FV) := match d with
  | .fl ds => pur ds
  | .sl ds => pur ds
  | _ => fail
theorem ji_rev (hm : X.mg "reversed" = none) (he : JE X W E Γ e fe) (hg : Gl X "reversed" := by rfl) (hs : starEach [e] X.env = [(false, eval e X.env)] := by rfl) :
    JI X W E Γ tg (.Call (.Name "reversed" p0) [e] [] pos) (bnd (mV fe) fun d => bnd (oLs d) fun ds => pur ds.reverse) := by
  refine ⟨_, pi_reversed hg hm (pa_cons pe_w pa_nil hs) hs, fun μ h σ H R s p => he.val s (Po.mono (Po.bind p) fun d h1 μ1 H1 _ s1 hr1 p1 u vu => ?_)⟩
  cases d with
  | fl ds =>
    cases vu with
    | fl a b => exact ⟨_, _, rfl, .inl a.rd, p1.here rfl hr1 _ (fw_rev (fz_at a) b)⟩
  | sl ds =>
    cases vu with
    | sl a b => exact ⟨_, _, rfl, a.sqL, p1.here rfl hr1 _ (fw_rev (fzl_at a) b)⟩
  | _ => exact p1.elim
def oZip (d e : FV) : M (List FV) := match d, e with
  | .tup ds, .tup es => pur (zipF ds es)
  | .fl ds, .fl es => pur (zipF ds es)
  | _, _ => fail
/-- two expressions as values -/
theorem JE.val2 {σ : L2.St} {Q : V → V → Hp → Prop} {μ : Nat → Addr} {h : FH} {H : Hp} (ha : JE X W E Γ a fa) (hb : JE X W E Γ b fb) (s : SR (bs X) E μ Γ h σ H)
    (p : Po (bs X) μ h.length H (fun d h' μ' H' => ∀ u v, VR (bs X) H' μ' h'.length d.1 u → VR (bs X) H' μ' h'.length d.2 v → Q u v H') (fun c d H' => W c d σ H') (bnd (mV fa) (fun x => bnd (mV fb) fun y => pur (x, y)) h)) : wE X a σ H fun u H1 => wE X b σ H1 fun v H2 => Q u v H2 :=
  ha.val s (Po.mono (Po.bind p) fun x h1 μ1 H1 _ s1 hr1 p1 u vu => hb.val (s.step s1 hr1) (Po.mono (Po.bind p1) fun y h2 μ2 H2 _ s2 hr2 p2 v vv => Po.here rfl hr2 p2 u v (s2.vr vu) vv))
theorem ji_zip {elts : List Expr} {kk : Nat} {tpos : Pos} (hm : X.mg "zip" = none) (ha : JE X W E Γ e fe) (hb : JE X W E Γ f ff) (hg : Gl X "zip" := by rfl) (hs : starEach [e, f] X.env = (false, eval e X.env) :: starEach [f] X.env := by exact star1 rfl) (hs2 : starEach [f] X.env = (false, eval f X.env) :: starEach [] X.env := by exact star1 rfl) (hpl : (backTo pos (starEach [f] X.env)).any (·.1) = false := by rfl) :
    JI X W E Γ (.Tuple elts kk tpos) (.Call (.Name "zip" p0) [e, f] [] pos) (bnd (mV fe) fun x => bnd (mV ff) fun y => oZip x y) := by
  refine ⟨_, RZ.pi_zipA hg hm (pa_cons pe_w (pa_cons pe_w pa_nil hs2) hs) hs hpl, fun μ h σ H R s p => ?_⟩
  refine ha.val s (Po.mono (Po.bind p) fun d h1 μ1 H1 _ s1 hr1 p1 u vu => hb.val (s.step s1 hr1) (Po.mono (Po.bind p1) fun d2 h2 μ2 H2 _ s2 hr2 p2 v vv => ?_))
  have vu2 := s2.vr vu
  unfold oZip at p2
  split at p2
  · cases vu2 with
    | tup a b =>
      cases vv with
      | tup a2 b2 => exact ⟨_, _, _, _, rfl, .inr ⟨a, a2, Po.here rfl hr2 p2 _ (fw_zipT a a2 b b2)⟩⟩
  · cases vu2 with
    | fl a b =>
      cases vv with
      | fl a2 b2 => exact ⟨_, _, _, _, rfl, .inl ⟨.inl a.rd, .inl a2.rd, Po.here rfl hr2 p2 _ (fw_zip (fz_at a) (fz_at a2) b b2)⟩⟩
  · exact p2.elim
end
end P

/-! P: for, while, comprehensions. -/
namespace P
open PySem PySem.Spec PyProof.Rows L2 G
def forN {A β : Type} (F : A → FV → M (Fl A A)) : List FV → A → M (Fl A β)
  | [], a => pur (.nx a)
  | d :: ds, a => bnd (F a d) fun r => match r with
    | .nx a' => forN F ds a'
    | .ct a' => forN F ds a'
    | .bk a' => pur (.nx a')
    | .rt r => pur (.rt r)
def whileN {A β : Type} (t : A → M Bool) (F : A → M (Fl A A)) : Nat → A → M (Fl A β)
  | 0, _ => fail
  | n + 1, a => bnd (t a) fun b => if b = true then bnd (F a) fun r => match r with
    | .nx a' => whileN t F n a'
    | .ct a' => whileN t F n a'
    | .bk a' => pur (.nx a')
    | .rt r => pur (.rt r) else pur (.nx a)
section
variable {α β A : Type} {B : Bs} {E : Ent} {μ : Nat → Addr} {n : Nat} {H : Hp} {D : Ends} {W : WX} {Γx : Option Sl} {eA : A → Sl} {eβ : β → Sl} {h : FH}
theorem PoN.turn {m : M (Fl A A)} {g : A → M (Fl A β)} {N : St → Hp → Prop} (p : PoN B E μ n H D W Γx eA eβ (P.bnd m (fun r : Fl A A => match r with | .nx a' => g a' | .ct a' => g a' | .bk a' => pur (.nx a') | .rt r => pur (.rt r)) h))
    (q : ∀ a h' μ' σ' H', StW μ n H μ' h'.length H' → SR B E μ' (eA a) h' σ' H' → PoN B E μ' h'.length H' D W Γx eA eβ (g a h') → N σ' H') : PoN B E μ n H { D with nx := N, ct := N, bk := D.nx } W Γx eA eA (m h) := by
  unfold P.bnd at p
  cases z : m h with
  | no => rw [z] at p; exact p
  | ex x h' => rw [z] at p; exact p
  | ok f h' =>
    rw [z] at p
    cases f with
    | nx a => exact fun μ' σ' H' s sr => q a h' μ' σ' H' s sr (PoN.at' (show PoN B E μ n H D W Γx eA eβ (g a h') from p) s)
    | ct a => exact fun μ' σ' H' s sr => q a h' μ' σ' H' s sr (PoN.at' (show PoN B E μ n H D W Γx eA eβ (g a h') from p) s)
    | bk b => exact p
    | rt r => exact p
end
/-- a target -/
def JGt (X : Cx) (tg : Expr) (os : List Nat) {δ : Type} (b : FV → Option δ) (put : Sl → δ → Sl) : Prop := ∃ g, PG X tg g ∧ JGw (bs X) g os b put
def JGts (X : Cx) (tgs : List Expr) (os : List Nat) (n : Nat) {δ : Type} (b : List FV → Option δ) (put : Sl → δ → Sl) : Prop := ∃ g, PGs X tgs g ∧ JGws (bs X) g os n b put
section
variable {α β γ A δ δ' : Type} {X : Cx} {W : WX} {E : Ent} {Γx : Option Sl} {eα : α → Sl} {eβ : β → Sl} {Γ Γ' : Sl} {e a b c o tg iter : Expr} {es : List Expr} {pos p0 p1 p2 : Pos} {fe fa fb fc : M RV} {rest body : List Stmt} {os os' : List Nat} {n : Nat}
theorem jg_name (i : Nat) {x : Str} (hN : X.N.Nodup) (hi : X.N[i]? = some x := by rfl) (hx : Loc X.env.scope x := by first | exact Or.inl rfl | exact Or.inr rfl)
    (hf : X.fn x = true ∨ X.env.scope.names.lookup x = some .local := by first | exact .inl rfl | exact .inr rfl | assumption) : JGt X (.Name x pos) [i] (some : FV → Option FV) (putN i) := ⟨_, pg_name hN hi hx hf, jgw_name i⟩
theorem jg_nil : JGts X [] [] 0 bNil (fun Γ _ => Γ) := ⟨_, pgs_nil, jgws_nil⟩
theorem jg_cons {f : FV → Option δ} {g : List FV → Option δ'} {q1 : Sl → δ → Sl} {q2 : Sl → δ' → Sl} (h1 : JGt X e os f q1) (h2 : JGts X es os' n g q2) (hs : (assignEach (e :: es) X.env).map (·.2) = assign e X.env :: (assignEach es X.env).map (·.2) := by rfl) : JGts X (e :: es) (os ++ os') (n + 1) (bCons f g) (putCons q1 q2) := by
  obtain ⟨t1, g1, w1⟩ := h1
  obtain ⟨t2, g2, w2⟩ := h2
  exact ⟨_, pgs_cons g1 g2 hs, jgws_cons w1 w2⟩
theorem jg_tup {g : List FV → Option δ} {kk : Nat} {q : Sl → δ → Sl} (hc : X.calm = true) (h : JGts X es os n g q) (hn : (assignEach es X.env).length = n := by rfl) (hst : (assignEach es X.env).findIdx? (·.1) = none := by rfl) : JGt X (.Tuple es kk pos) os (bTup g) q := by
  obtain ⟨t, p, w⟩ := h
  exact ⟨_, pg_tl hc p hn hst, jgw_tup w⟩
/-- target = e, the target written as a tuple -/
theorem jb_asgT {b : FV → Option δ} {put : Sl → δ → Sl} {Γ' : δ → Sl} {k : δ → M (Fl α β)} (w : SubX Γx Γ) (ht : JGt X tg os b put) (ha : JE X W E Γ a fa) (hk : ∀ x, JB X W E Γx eα eβ (Γ' x) rest (k x)) (hΓ : ∀ x, put Γ x = Γ' x := by intro _; rfl) (hs : swapsWithSole [tg] a pos.line X.env = pure false := by rfl) (hw : swappedStores [tg] a X.env = pure none := by rfl)
    (h1 : (assignEach [tg] X.env).map (·.2) = [assign tg X.env] := by rfl) : JB X W E Γx eα eβ Γ (.Assign [tg] a pos :: rest) (bnd (mV fa) fun d => bindT b d k) := fun μ h σ H D s p => by
  obtain ⟨t, pg, q⟩ := ht
  refine wcons (wS.of (ps_asg pe_w pg hs hw h1) (PoN.val ha s w p fun d h2 μ2 H2 u _ s2 v2 p2 => ?_))
  unfold bindT at p2
  cases z : b d with
  | none => rw [z] at p2; exact p2.elim
  | some x =>
    rw [z] at p2
    refine q E μ2 Γ h2 σ H2 u d x _ s2 v2 z fun σ' s' _ => ?_
    rw [hΓ x] at s'
    exact hk x μ2 h2 σ' H2 D s' p2
/-- a, b = x, y -/
theorem jb_par (i j : Nat) {x y : Str} {px py pt : Pos} {kt k2 pt2} {Γ' : FV → FV → Sl} {k : FV → FV → M (Fl α β)} (w : SubX Γx Γ) (hc : X.calm = true) (hN : X.N.Nodup) (ha : JE X W E Γ a fa) (hb : JE X W E Γ b fb) (hk : ∀ u v, JB X W E Γx eα eβ (Γ' u v) rest (k u v)) (hΓ : ∀ u v, (Γ.set i (some (.v u))).set j (some (.v v)) = Γ' u v := by intro _ _; rfl) (hi : X.N[i]? = some x := by rfl) (hj : X.N[j]? = some y := by rfl) (hij : i ≠ j := by decide)
    (hx : X.env.scope.names.lookup x = some .local := by rfl) (hy : X.env.scope.names.lookup y = some .local := by rfl) (h1 : starEach (a :: [b]) X.env = (false, eval a X.env) :: starEach [b] X.env := by exact star1 rfl) (h2 : starEach (b :: []) X.env = (false, eval b X.env) :: starEach [] X.env := by exact star1 rfl)
    (hw : swappedStores [.Tuple [.Name x px, .Name y py] kt pt] (.Tuple [a, b] k2 pt2) X.env = pure (some [x, y]) := by rfl) (hs : swapsWithSole [.Tuple [.Name x px, .Name y py] kt pt] (.Tuple [a, b] k2 pt2) pos.line X.env = pure false := by rfl) :
    JB X W E Γx eα eβ Γ (.Assign [.Tuple [.Name x px, .Name y py] kt pt] (.Tuple [a, b] k2 pt2) pos :: rest) (bnd (mV fa) fun u => bnd (mV fb) fun v => k u v) := fun μ h σ H D s p =>
  wcons (wS.of (ps_par hc hN hi hj hij hx hy pa_w hw hs) (wA.of (pa_cons pe_w (pa_cons pe_w pa_nil h2) h1) (PoN.val ha s w p fun u h1 μ1 H1 u' sw1 s1 v1 p1 => PoN.val hb s1 w p1 fun v h2 μ2 H2 v' sw2 s2 v2 p2 => by
    have s3 := (s2.putV (i := i) (sw2.vr v1)).putV (i := j) v2
    rw [hΓ u v] at s3
    exact ⟨_, _, rfl, hk u v μ2 h2 _ H2 D s3 p2⟩)))
theorem jb_for (eA : A → Sl) (a0 : A) {b : FV → Option δ} {put : Sl → δ → Sl} {Γb : A → δ → Sl} {f : A → δ → M (Fl A A)} {src : M (List FV)} {k : A → M (Fl α β)} (w : SubX Γx Γ) (hp : PassesOwn (model X.prog X.w) X.A X.env X.xe) (hc : X.calm = true) (hi : JI X W E Γ tg iter src) (ht : JGt X tg os b put)
    (hb : ∀ a x, JB X W E Γx eA eA (Γb a x) body (f a x)) (h0 : Sub (eA a0) Γ) (hk : ∀ a, JB X W E Γx eα eβ (eA a) rest (k a)) (hΓ : ∀ a x, put (eA a) x = Γb a x := by intro _ _; rfl) (hs : ∀ x, foldedSetIterable iter X.env x = pure x := by intro _; rfl) :
    JB X W E Γx eα eβ Γ (.For tg iter body [] pos :: rest) (bnd src fun xs => seqN (forN (fun a d => bindT b d (f a)) xs a0) k) := fun μ h σ H D s p => by
  obtain ⟨wi, pi, q⟩ := hi
  obtain ⟨gt, pg, qg⟩ := ht
  refine wcons (wS.of (ps_for hp hc pi pg pss_w hs) (q μ h σ H _ s (Po.mono (PoN.bnd s w p) fun xs h1 μ1 H1 _ s1 hr1 p1 J fw => ?_)))
  obtain ⟨sr, p2⟩ := p1
  have p3 := PoN.seq (N := fun σ' H' => wSs X rest D σ' H') p2 fun a h' μ' σ' H' _ sr q => hk a μ' h' σ' H' D sr q
  refine for_it fw (fun i σ' H' => ∃ μ' a h', StW μ1 h1.length H1 μ' h'.length H' ∧ SR (bs X) E μ' (eA a) h' σ' H' ∧ PoN (bs X) E μ' h'.length H' { D with nx := fun σ' H' => wSs X rest D σ' H' } W Γx eA eβ (forN (fun a d => bindT b d (f a)) (xs.drop i) a h'))
    ⟨μ1, a0, h1, StW.refl _ _ _, sr.sub h0, p3⟩ (fun i σ' H' _ z => ?_) (fun i x σ' H2 H3 hi z y => ?_) (fun σ' H' z => ?_)
  · obtain ⟨μ', a, h', s', _, _⟩ := z
    exact ⟨μ', h'.length, s'⟩
  · obtain ⟨μ', a, h', s', sr', p'⟩ := z
    obtain ⟨sm, y⟩ := y
    obtain ⟨d, hd, vd⟩ := y μ' h'.length s'
    have e : xs.drop i = d :: xs.drop (i + 1) := by
      have hlt : i < xs.length := hi
      rw [List.drop_eq_getElem_cons hlt]
      congr 1
      rw [List.getElem?_eq_getElem hlt] at hd
      exact Option.some.inj hd
    rw [e] at p'
    unfold forN at p'
    have s3 : Step μ' h'.length H2 μ' h'.length H3 := Step.same sm
    have sr3 := sr'.step s3 (sr'.hr.same sm)
    have p4 := PoN.turn (N := fun σ4 H4 => ∃ μ' a h', StW μ1 h1.length H1 μ' h'.length H4 ∧ SR (bs X) E μ' (eA a) h' σ4 H4 ∧ PoN (bs X) E μ' h'.length H4 { D with nx := fun σ' H' => wSs X rest D σ' H' } W Γx eA eβ (forN (fun a d => bindT b d (f a)) (xs.drop (i + 1)) a h')) (p'.at' s3.w)
      fun a4 h4 μ4 σ4 H4 s4 sr4 p4 => ⟨μ4, a4, h4, (s'.trans s3.w).trans s4, sr4, p4⟩
    unfold bindT at p4
    cases z : b d with
    | none => rw [z] at p4; exact p4.elim
    | some x0 =>
      rw [z] at p4
      refine qg E μ' (eA a) h' σ' H3 x d x0 _ sr3 vd z fun σ2 sr2 _ => ?_
      rw [hΓ a x0] at sr2
      exact hb a x0 μ' h' σ2 H3 _ sr2 p4
  · obtain ⟨μ', a, h', s', sr', p'⟩ := z
    rw [List.drop_length] at p'
    unfold forN at p'
    exact (show ∀ μ2 σ2 H2, _ → _ → wSs X rest D σ2 H2 from p') μ' σ' H' (StW.refl _ _ _) sr'
theorem jb_while (eA : A → Sl) (a0 : A) (m : Nat) {t : A → M Bool} {f : A → M (Fl A A)} {k : A → M (Fl α β)} (hp : PassesOwn (model X.prog X.w) X.A X.env X.xe) (wA : ∀ a, SubX Γx (eA a)) (hc : ∀ a, JT X W E (eA a) c (t a)) (hb : ∀ a, JB X W E Γx eA eA (eA a) body (f a)) (h0 : Sub (eA a0) Γ) (hk : ∀ a, JB X W E Γx eα eβ (eA a) rest (k a)) :
    JB X W E Γx eα eβ Γ (.While c body [] pos :: rest) (seqN (whileN t f m a0) k) := fun μ h σ H D s p => by
  have p3 := PoN.seq (N := fun σ' H' => wSs X rest D σ' H') p fun a h' μ' σ' H' _ sr q => hk a μ' h' σ' H' D sr q
  refine wcons (wS.of (ps_while hp pt_w pss_w) ⟨fun m σ' H' => ∃ μ' a h', SR (bs X) E μ' (eA a) h' σ' H' ∧ PoN (bs X) E μ' h'.length H' { D with nx := fun σ' H' => wSs X rest D σ' H' } W Γx eA eβ (whileN t f m a h'), ⟨m, μ, a0, h, s.sub h0, p3⟩, fun m σ1 H1 z => ?_⟩)
  obtain ⟨μ1, a, h1, sr, p1⟩ := z
  cases m with
  | zero => exact p1.elim
  | succ m =>
    unfold whileN at p1
    refine hc a μ1 h1 σ1 H1 _ sr (Po.mono (PoN.bnd sr (wA a) p1) fun b h2 μ2 H2 _ s2 hr2 p2 => ?_)
    obtain ⟨sr2, p3⟩ := p2
    cases b with
    | false =>
      rw [if_neg (by decide)] at p3 ⊢
      exact (show ∀ μ' σ' H', _ → _ → wSs X rest D σ' H' from p3) μ2 _ H2 (StW.refl _ _ _) sr2
    | true =>
      rw [if_pos rfl] at p3 ⊢
      refine ⟨fun σ' H' => ∃ μ' a h', SR (bs X) E μ' (eA a) h' σ' H' ∧ PoN (bs X) E μ' h'.length H' { D with nx := fun σ' H' => wSs X rest D σ' H' } W Γx eA eβ (whileN t f m a h'), fun σ' H' z => ⟨m, Nat.lt_succ_self m, z⟩, ?_⟩
      exact hb a μ2 h2 σ1 H2 _ sr2 (PoN.turn p3 fun a4 h4 μ4 σ4 H4 s4 sr4 p4 => ⟨μ4, a4, h4, sr4, p4⟩)
end
end P

/-! P: comprehensions. -/
namespace P
open PySem PySem.Spec PyProof.Rows L2 G
/-- no error leaves -/
def noEx {α : Type} (m : M α) : M α := fun h => match m h with
  | .ok a h' => .ok a h'
  | _ => .no
/-- the values of the items that have one -/
def filN (g : FV → M (Option FV)) : List FV → M (List FV)
  | [] => pur []
  | d :: ds => bnd (noEx (g d)) fun o => bnd (filN g ds) fun vs => pur (match o with | some v => v :: vs | none => vs)
def mapN (f : FV → M FV) : List FV → M (List FV)
  | [] => pur []
  | d :: ds => bnd (noEx (f d)) fun v => bnd (mapN f ds) fun vs => pur (v :: vs)
def filL (g : FV → M (Option FV)) (xs : List FV) : M RV := if xs.length ≤ LIM then bnd (filN g xs) fun es => pur (.l es) else fail
def mapL (f : FV → M FV) (xs : List FV) : M RV := if xs.length ≤ LIM then bnd (mapN f xs) fun es => pur (.l es) else fail
theorem bind_assoc {α β γ : Type} (r : Rs α) (f : α → FH → Rs β) (g : β → FH → Rs γ) : (r.bind f).bind g = r.bind fun a h => (f a h).bind g := by
  cases r <;> rfl
theorem mapN_eq (f : FV → M FV) : ∀ (xs : List FV) (h : FH), mapN f xs h = filN (fun d => bnd (f d) fun v => pur (some v)) xs h
  | [], h => rfl
  | d :: ds, h => by
    have ih := mapN_eq f ds
    show (noEx (f d) h).bind _ = (noEx (bnd (f d) fun v => pur (some v)) h).bind _
    cases q : f d h with
    | no =>
      rw [show noEx (f d) h = .no by simp [noEx, q], show noEx (bnd (f d) fun v => pur (some v)) h = .no by simp [noEx, bnd, q, Rs.bind]]; rfl
    | ex x h' =>
      rw [show noEx (f d) h = .no by simp [noEx, q], show noEx (bnd (f d) fun v => pur (some v)) h = .no by simp [noEx, bnd, q, Rs.bind]]; rfl
    | ok v h' =>
      rw [show noEx (f d) h = .ok v h' by simp [noEx, q], show noEx (bnd (f d) fun v => pur (some v)) h = .ok (some v) h' by simp [noEx, bnd, q, Rs.bind, pur]]
      show (mapN f ds h').bind _ = (filN _ ds h').bind _
      rw [ih]
theorem mapL_eq (f : FV → M FV) (xs : List FV) (h : FH) : mapL f xs h = filL (fun d => bnd (f d) fun v => pur (some v)) xs h := by
  unfold mapL filL
  split
  · unfold bnd
    rw [mapN_eq]
    rfl
  · rfl
theorem wipe_get : ∀ (vs : List Nat) (σ : St) (j : Nat), (wipe σ vs)[j]? = if j ∈ vs then (σ[j]?).map (fun _ => none) else σ[j]?
  | [], σ, j => by simp [wipe]
  | v :: vs, σ, j => by
    show ((wipe σ vs).set v none)[j]? = _
    rw [List.getElem?_set]
    have ih := wipe_get vs σ j
    by_cases e : v = j
    · subst e
      rw [if_pos rfl, if_pos List.mem_cons_self]
      by_cases l : v < (wipe σ vs).length
      · rw [if_pos l]
        have : (wipe σ vs)[v]? = some ((wipe σ vs)[v]) := List.getElem?_eq_getElem l
        rw [this] at ih
        by_cases m : v ∈ vs
        · rw [if_pos m] at ih
          cases q : σ[v]? with
          | none => rw [q] at ih; cases ih
          | some x => rfl
        · rw [if_neg m] at ih
          rw [← ih]; rfl
      · rw [if_neg l]
        have : (wipe σ vs)[v]? = none := List.getElem?_eq_none (Nat.le_of_not_lt l)
        rw [this] at ih
        by_cases m : v ∈ vs
        · rw [if_pos m] at ih
          cases q : σ[v]? with
          | none => rfl
          | some x => rw [q] at ih; cases ih
        · rw [if_neg m] at ih
          rw [← ih]; rfl
    · rw [if_neg e, ih]
      simp only [List.mem_cons, Ne.symm e, false_or]
theorem wipe_ch {os vs : List Nat} {σ σ' : St} (c : Ch os (wipe σ vs) σ') (h : ∀ j, j ∈ os → j ∈ vs) : wipe σ' vs = wipe σ vs := by
  apply List.ext_getElem?
  intro j
  rw [wipe_get vs σ' j]
  by_cases m : j ∈ vs
  · rw [if_pos m]
    have e1 := wipe_get vs σ j
    rw [if_pos m] at e1
    rw [e1]
    have l : σ'.length = (wipe σ vs).length := c.1
    cases q : σ[j]? with
    | none =>
      rw [q] at e1
      have : j ≥ (wipe σ vs).length := List.getElem?_eq_none_iff.mp e1
      rw [List.getElem?_eq_none (by omega)]
    | some x =>
      rw [q] at e1
      have : j < (wipe σ vs).length := (List.getElem?_eq_some_iff.mp e1).1
      rw [List.getElem?_eq_getElem (by omega)]; rfl
  · rw [if_neg m]
    exact c.2 j fun z => m (h j z)
def wipeF (Γ : Sl) : List Nat → Sl
  | [] => Γ
  | v :: vs => (wipeF Γ vs).set v none
theorem SR.wipe {B : Bs} {E : Ent} {μ : Nat → Addr} {Γ : Sl} {h : FH} {σ : St} {H : Hp} (r : SR B E μ Γ h σ H) : ∀ vs : List Nat, SR B E μ (wipeF Γ vs) h (L2.wipe σ vs) H
  | [] => r
  | v :: vs => (r.wipe vs).drop none
abbrev Blk (X : Cx) (scope : Scope) (φ : Cx → Prop) : Prop := ∀ (s : Shared) (H : Hp) (C : Addr) (cl : List (Str × Addr)) (fp : List Addr), φ (X.blk s H scope (compEnvC scope cl C X.env) fp)
def wEB (X : Cx) (scope : Scope) (e : Expr) : TE := fun σ H Q => Blk X scope fun Y => wE Y e σ H Q
structure wPT (Y : Cx) (ifs : List Expr) (σ : L2.St) (H : Hp) (Q : Bool → Hp → Prop) : Prop where
  go : ∀ pins s, Inv Y pins σ H s → wpAny (model Y.prog Y.w) Y.A (forIn ifs true fun c r => if r = true then do let ok ← isTrue c Y.env (eval c Y.env); pure (ForInStep.yield ok) else pure (ForInStep.yield r)) (TP Y pins σ Q) Y.xe s
def wTB (X : Cx) (scope : Scope) (ifs : List Expr) : TT := fun σ H Q => Blk X scope fun Y => wPT Y ifs σ H Q
/-- the tests of a comprehension -/
def JTs (Y : Cx) (W : WX) (E : Ent) (Γ : Sl) (ifs : List Expr) (f : M Bool) : Prop :=
  ∀ μ h σ H Q, SR (bs Y) E μ Γ h σ H → Po (bs Y) μ h.length H (fun b h' μ' H' => Q b H') (fun c d H' => W c d σ H') (f h) → wPT Y ifs σ H Q
theorem jts_nil {X : Cx} {W : WX} {E : Ent} {Γ : Sl} : JTs X W E Γ [] (pur true) := fun μ h σ H Q s p => ⟨fun pins s' I => pts_nil.run pins s' σ H Q I (Po.last p s.hr (Same.refl _))⟩
theorem jts_one {X : Cx} {W : WX} {E : Ent} {Γ : Sl} {c : Expr} {t : M Bool} (h : JT X W E Γ c t) : JTs X W E Γ [c] t := fun μ h0 σ H Q s p => ⟨fun pins s' I => (pts_one pt_w).run pins s' σ H Q I (h μ h0 σ H Q s p)⟩
theorem Po.noEx {α : Type} {B : Bs} {μ : Nat → Addr} {n : Nat} {H : Hp} {R : α → FH → (Nat → Addr) → Hp → Prop} {E E' : XK} {m : M α} {h : FH} (p : Po B μ n H R E (P.noEx m h)) : Po B μ n H R E' (m h) := by
  unfold P.noEx at p
  cases q : m h with
  | no => rw [q] at p; exact p
  | ex x h => rw [q] at p; exact p.elim
  | ok a h => rw [q] at p; exact p
/-- a target in a comprehension -/
def JGtB (X : Cx) (scope : Scope) (tg : Expr) (os : List Nat) {δ : Type} (b : FV → Option δ) (put : Sl → δ → Sl) : Prop := ∃ g, (Blk X scope fun Y => PG Y tg g) ∧ JGw (bs X) g os b put
def JGtsB (X : Cx) (scope : Scope) (tgs : List Expr) (os : List Nat) (n : Nat) {δ : Type} (b : List FV → Option δ) (put : Sl → δ → Sl) : Prop := ∃ g, (Blk X scope fun Y => PGs Y tgs g) ∧ JGws (bs X) g os n b put
section
variable {δ δ' : Type} {X : Cx} {W : WX} {E : Ent} {Γ : Sl} {e elt iter tg c : Expr} {es : List Expr} {pos p0 : Pos} {scope : Scope} {os os' vs : List Nat} {n : Nat} {src : M (List FV)}
theorem jgb_name (i : Nat) {x : Str} (hN : Blk X scope fun Y => Y.N.Nodup) (hi : Blk X scope fun Y => Y.N[i]? = some x := by intro _ _ _ _ _; rfl) (hx : Blk X scope fun Y => Loc Y.env.scope x := by first | (intro _ _ _ _ _; exact Or.inl rfl) | (intro _ _ _ _ _; exact Or.inr rfl))
    (hf : Blk X scope fun Y => Y.fn x = true ∨ Y.env.scope.names.lookup x = some .local := by first | (intro _ _ _ _ _; exact .inl rfl) | (intro _ _ _ _ _; exact .inr rfl)) : JGtB X scope (.Name x pos) [i] (some : FV → Option FV) (putN i) := ⟨_, fun a b c d e => pg_name (hN a b c d e) (hi a b c d e) (hx a b c d e) (hf a b c d e), jgw_name i⟩
theorem jgb_nil : JGtsB X scope [] [] 0 bNil (fun Γ _ => Γ) := ⟨_, fun _ _ _ _ _ => pgs_nil, jgws_nil⟩
theorem jgb_cons {f : FV → Option δ} {g : List FV → Option δ'} {q1 : Sl → δ → Sl} {q2 : Sl → δ' → Sl} (h1 : JGtB X scope e os f q1) (h2 : JGtsB X scope es os' n g q2) (hs : Blk X scope fun Y => (assignEach (e :: es) Y.env).map (·.2) = assign e Y.env :: (assignEach es Y.env).map (·.2) := by intro _ _ _ _ _; rfl) : JGtsB X scope (e :: es) (os ++ os') (n + 1) (bCons f g) (putCons q1 q2) := by
  obtain ⟨t1, g1, w1⟩ := h1
  obtain ⟨t2, g2, w2⟩ := h2
  exact ⟨_, fun a b c d e => pgs_cons (g1 a b c d e) (g2 a b c d e) (hs a b c d e), jgws_cons w1 w2⟩
theorem jgb_tup {g : List FV → Option δ} {kk : Nat} {q : Sl → δ → Sl} (hc : Blk X scope fun Y => Y.calm = true) (h : JGtsB X scope es os n g q) (hn : Blk X scope fun Y => (assignEach es Y.env).length = n := by intro _ _ _ _ _; rfl) (hst : Blk X scope fun Y => (assignEach es Y.env).findIdx? (·.1) = none := by intro _ _ _ _ _; rfl) : JGtB X scope (.Tuple es kk pos) os (bTup g) q := by
  obtain ⟨t, p, w⟩ := h
  exact ⟨gTL X.K n t, fun a b c d e => pg_tl (hc a b c d e) (p a b c d e) (hn a b c d e) (hst a b c d e), jgw_tup w⟩
theorem Fre.keep {μ μ' : Nat → Addr} {n n' : Nat} {H H' : Hp} {p : Addr} {o : HO} (s : Step μ n H μ' n' H') (e : H p = some o) (nd : Nd μ n p) : H' p = some o ∧ Nd μ' n' p := ⟨s.fr _ _ e nd, nd.step (sn e) s⟩
/-- one item of a comprehension -/
def item {δ : Type} (b : FV → Option δ) (t : δ → M Bool) (fe : δ → M RV) (d : FV) : M (Option FV) := bindT b d fun x => bnd (t x) fun c => if c = true then bnd (mV (fe x)) fun v => pur (some v) else pur none
theorem comp_w {ifs : List Expr} {g : TG} {wi : TI} {b : FV → Option δ} {put : Sl → δ → Sl} {t : δ → M Bool} {fe : δ → M RV} {Γc : δ → Sl} (hsrc : JIw X W E Γ wi src) (ht : JGw (bs X) g os b put) (hos : ∀ j, j ∈ os → j ∈ vs) (hΓ : ∀ x, put (wipeF Γ vs) x = Γc x)
    (hts : ∀ x, Blk X scope fun Y => JTs Y wNo E (Γc x) ifs (t x)) (he : ∀ x, Blk X scope fun Y => JE Y wNo E (Γc x) elt (fe x))
    {μ : Nat → Addr} {h : FH} {σ : St} {H : Hp} {Q : VK} (s : SR (bs X) E μ Γ h σ H) (p : Po (bs X) μ h.length H (fun r h' μ' H' => ∀ u, RR (bs X) H μ' h'.length H' r u → Q u H') (fun c d H' => W c d σ H') (bnd src (filL (item b t fe)) h)) :
    tLc wi g (wTB X scope ifs) (wEB X scope elt) vs σ H Q := by
  refine hsrc μ h σ H _ s (Po.mono (Po.bind p) fun xs h1 μ1 H1 _ s1 hr1 p1 J fw => ?_)
  intro Dd hD
  unfold filL at p1
  split at p1
  rotate_left
  · exact p1.elim
  rename_i hlim
  have sD : Same H1 (upd H1 Dd (.lst [])) := same_new hD
  refine lc_it fw (fun i H' => ∃ μ' h' acc xs', Step μ1 h1.length H1 μ' h'.length H' ∧ HR (bs X) μ' h' H' ∧ H' Dd = some (.lst xs') ∧ Nd μ' h'.length Dd ∧ VRs (bs X) H' μ' h'.length acc xs' ∧ xs'.length ≤ i ∧
      Po (bs X) μ1 h1.length H1 (fun r h'' μ'' H'' => ∀ u, RR (bs X) H μ'' h''.length H'' r u → Q u H'') (fun c d H' => W c d σ H') ((filN (item b t fe) (xs.drop i) h').bind fun es h2 => .ok (.l (acc ++ es)) h2))
    ⟨μ1, h1, [], [], Step.same sD, hr1.same sD, upd_same, fun j hj z => hr1.cls hj (by rw [z]; exact hD), .nil, Nat.le_refl _, p1⟩ (fun i H' _ z => ?_) (fun i x H2 H3 hi z y => ?_) (fun H' z => ?_)
  · obtain ⟨μ', h', acc, xs', s', _⟩ := z
    exact ⟨μ', h'.length, s'.w⟩
  · obtain ⟨μ', h', acc, xs', s', hr', eD, nD, racc, lacc, p'⟩ := z
    obtain ⟨sm, y⟩ := y
    obtain ⟨d, hd, vd⟩ := y μ' h'.length s'.w
    have e : xs.drop i = d :: xs.drop (i + 1) := by
      have hlt : i < xs.length := hi
      rw [List.drop_eq_getElem_cons hlt]
      congr 1
      rw [List.getElem?_eq_getElem hlt] at hd
      exact Option.some.inj hd
    rw [e, filN, bnd, bind_assoc] at p'
    have s3 : Step μ' h'.length H2 μ' h'.length H3 := Step.same sm
    have hr3 := hr'.same sm
    obtain ⟨eD3, nD3⟩ := Fre.keep s3 eD nD
    have t3 := s'.trans s3
    have sw : SR (bs X) E μ' (wipeF Γ vs) h' (L2.wipe σ vs) H3 := (s.wipe vs).step (s1.trans t3) hr3
    have p3 := Po.noEx (E' := fun c d H' => wNo c d [] H') (p'.bindAt t3)
    unfold item bindT at p3
    cases z : b d with
    | none => rw [z] at p3; exact p3.elim
    | some x0 =>
      rw [z] at p3
      dsimp only at p3
      refine ht E μ' (wipeF Γ vs) h' _ H3 x d x0 _ sw vd z fun σ2 sr2 ch => ⟨wipe_ch ch hos, ?_⟩
      rw [hΓ x0] at sr2
      intro ss HH C cl fp
      refine hts x0 ss HH C cl fp μ' h' σ2 H3 _ sr2 (Po.mono (Po.bind p3) fun bb h4 μ4 H4 _ s4 hr4 p4 => ?_)
      obtain ⟨eD4, nD4⟩ := Fre.keep s4 eD3 nD3
      have racc4 := s4.vrs (s3.vrs racc)
      have t4 := t3.trans s4
      cases bb with
      | false =>
        rw [if_neg (by decide)] at p4 ⊢
        have p5 := Po.here rfl hr4 p4
        refine ⟨μ4, h4, acc, xs', t4, hr4, eD4, nD4, racc4, Nat.le_succ_of_le lacc, ?_⟩
        rw [bnd, bind_assoc] at p5
        exact p5
      | true =>
        rw [if_pos rfl] at p4 ⊢
        intro ss HH C cl fp
        refine (he x0 ss HH C cl fp).val (sr2.step s4 hr4) (Po.mono (Po.bind p4) fun dv h6 μ6 H5 _ s6 hr6 p6 u v6 => ?_)
        have p7 := Po.here rfl hr6 p6
        rw [bnd, bind_assoc] at p7
        obtain ⟨eD6, nD6⟩ := Fre.keep s6 eD4 nD4
        have racc6 := s6.vrs racc4
        have t6 := t4.trans s6
        have mu : Mut (H5 Dd) := by rw [eD6]; trivial
        have gw := gw_mut (o := .lst (xs' ++ [u])) mu
        have hi' : i < xs.length := hi
        refine ⟨xs', eD6, lim_lt (Nat.lt_of_lt_of_le (Nat.lt_of_le_of_lt lacc hi') hlim), μ6, h6, acc ++ [dv], xs' ++ [u], ?_, ?_, upd_same, nD6, ?_, by rw [List.length_append]; exact Nat.succ_le_succ lacc, ?_⟩
        · refine ⟨t6.le, t6.ext, t6.new, fun a o ha hk => ?_, fun a ha => ?_, t6.gw.trans gw⟩
          · rw [upd_ne (fun z => by rw [z, hD] at ha; cases ha)]; exact t6.fr a o ha hk
          · by_cases z : a = Dd
            · rw [z, upd_same]; exact fun z => nomatch z
            · rw [upd_ne z]; exact t6.th a ha
        · exact ⟨fun j o hj => (hr6.at' j o hj).mono gw (fun _ _ => rfl) (Nat.le_refl _) (upd_ne (nD6 j (List.getElem?_eq_some_iff.mp hj).1)), hr6.inj⟩
        · exact VRs.mono gw (fun _ _ => rfl) (Nat.le_refl _) _ _ (racc6.append (.cons v6 .nil))
        · have : (fun (es : List FV) (h2 : FH) => Rs.ok (RV.l (acc ++ [dv] ++ es)) h2) = fun es h2 => Rs.ok (RV.l (acc ++ (dv :: es))) h2 := by
            funext es h2
            rw [List.append_assoc]; rfl
          rw [this]
          exact p7
  · obtain ⟨μ', h', acc, xs', s', hr', eD, nD, racc, lacc, p'⟩ := z
    rw [List.drop_length] at p'
    have p2 : Po (bs X) μ1 h1.length H1 _ _ (Rs.ok (RV.l (acc ++ [])) h') := p'
    rw [List.append_nil] at p2
    refine p2 μ' H' s' hr' _ (.l ⟨?_, nD⟩ eD racc)
    exact no_th s1.th hD
theorem je_lc (own : List (Str × Nat)) {ifs : List Expr} {b : FV → Option δ} {put : Sl → δ → Sl} {t : δ → M Bool} {fe : δ → M RV} {Γc : δ → Sl} (hc : X.calm = true) (hN : X.N.Nodup) (hi : JI X W E Γ tg iter src) (ok : BlkOk X.N X.env.scope scope own)
    (ht : JGtB X scope tg os b put) (hos : ∀ j, j ∈ os → j ∈ own.map (·.2)) (hts : ∀ x, Blk X scope fun Y => JTs Y wNo E (Γc x) ifs (t x)) (he : ∀ x, Blk X scope fun Y => JE Y wNo E (Γc x) elt (fe x)) (hΓ : ∀ x, put (wipeF Γ (own.map (·.2))) x = Γc x := by intro _; rfl)
    (hs : ∀ x, foldedSetIterable iter X.env x = pure x := by intro _; rfl) : JE X W E Γ (.ListComp elt [⟨tg, iter, ifs, 0⟩] scope pos) (bnd src (filL (item b t fe))) := fun μ h σ H Q s p => by
  obtain ⟨wi, pi, q⟩ := hi
  obtain ⟨gt, pg, qg⟩ := ht
  exact wE.of (pe_lc (te := wEB X scope elt) (tt := wTB X scope ifs) hc hN pi ok pg (fun s H C cl fp => ⟨fun pins s' σ' H' Q' I q => (q s H C cl fp).go pins s' I⟩) (fun s H C cl fp => ⟨fun pins s' σ' H' Q' I q => (q s H C cl fp).go pins s' I⟩) hs) (comp_w q qg hos hΓ hts he s p)
end
end P

/-! P: what a slot alone holds is changed; objects with numbers are changed; freezing. -/
namespace P
open PySem PySem.Spec PyProof.Rows L2 G
section
variable {α β γ δ : Type} {X : Cx} {W : WX} {E : Ent} {Γx : Option Sl} {eα : α → Sl} {eβ : β → Sl} {Γ Γ' : Sl} {e a b c o i tg iter elt : Expr} {es : List Expr} {pos apos p0 p1 p2 px : Pos} {fe fo fi fa fb fc : M RV} {rest body : List Stmt} {os : List Nat} {n k : Nat} {scope : Scope} {src : M (List FV)}
/-! ### y = [..] on one line -/
theorem jb_setLC (j : Nat) {ifs : List Expr} {y : Str} {py : Pos} (own : List (Str × Nat)) {b : FV → Option δ} {put : Sl → δ → Sl} {t : δ → M Bool} {fe : δ → M RV} {Γc : δ → Sl} {Γ' : FV → Sl} {kk : FV → M (Fl α β)} (w : SubX Γx Γ) (hc : X.calm = true) (hN : X.N.Nodup) (hi : JI X W E Γ tg iter src) (ok : BlkOk X.N X.env.scope scope own)
    (ht : JGtB X scope tg os b put) (hos : ∀ j, j ∈ os → j ∈ own.map (·.2)) (hts : ∀ x, Blk X scope fun Y => JTs Y wNo E (Γc x) ifs (t x)) (he : ∀ x, Blk X scope fun Y => JE Y wNo E (Γc x) elt (fe x)) (hk : ∀ d, JB X W E Γx eα eβ (Γ' d) rest (kk d)) (hΓ : ∀ x, put (wipeF Γ (own.map (·.2))) x = Γc x := by intro _; rfl) (hΓ' : ∀ d, Γ.set j (some (.v d)) = Γ' d := by intro _; rfl)
    (hj : X.N[j]? = some y := by rfl) (hyl : X.env.scope.names.lookup y = some .local := by rfl) (hkd : X.env.scope.kind = .function := by rfl) (hpl : (py.line == p0.line) = true := by rfl) (hyn : (scope.names.any fun (n, k) => n == y && (k == .local || k == .cell)) = false := by decide +kernel)
    (hs : ∀ x, foldedSetIterable iter X.env x = pure x := by intro _; rfl) : JB X W E Γx eα eβ Γ (.Assign [.Name y py] (.ListComp elt [⟨tg, iter, ifs, 0⟩] scope p0) pos :: rest) (bnd (mV (bnd src (filL (item b t fe)))) kk) := fun μ h σ H D s p => by
  obtain ⟨wi, pi, q⟩ := hi
  obtain ⟨gt, pg, qg⟩ := ht
  refine wcons (wS.of (ps_setLc (te := wEB X scope elt) (tt := wTB X scope ifs) hc hN hj hyl (sw_true hkd hyl hpl hyn) pi ok pg (fun s H C cl fp => ⟨fun pins s' σ' H' Q' I q => (q s H C cl fp).go pins s' I⟩) (fun s H C cl fp => ⟨fun pins s' σ' H' Q' I q => (q s H C cl fp).go pins s' I⟩) hs)
    (comp_w (Q := fun x H1 => gName j x σ H1 fun σ' H' => wSs X rest D σ' H') q qg hos hΓ hts he s (Po.mono (Po.vF (PoN.bnd s w p)) fun x h1 μ1 H1 _ s1 hr1 p1 u ru => ?_)))
  obtain ⟨d, _, g⟩ := p1 u ru
  refine wSs.gh (g.mono fun H2 ⟨z1, z2, z3, z4, z5, s2, p2⟩ => ?_)
  have s3 := s2.putV (i := j) z3
  rw [hΓ' d] at s3
  exact hk d μ1 h1 _ H2 D s3 p2
theorem jb_setLCL (j : Nat) {ifs : List Expr} {y : Str} {py : Pos} (own : List (Str × Nat)) {b : FV → Option δ} {put : Sl → δ → Sl} {t : δ → M Bool} {fe : δ → M RV} {Γc : δ → Sl} {Γ' : List FV → Sl} {kk : List FV → M (Fl α β)} (w : SubX Γx Γ) (hc : X.calm = true) (hN : X.N.Nodup) (hi : JI X W E Γ tg iter src) (ok : BlkOk X.N X.env.scope scope own)
    (ht : JGtB X scope tg os b put) (hos : ∀ j, j ∈ os → j ∈ own.map (·.2)) (hts : ∀ x, Blk X scope fun Y => JTs Y wNo E (Γc x) ifs (t x)) (he : ∀ x, Blk X scope fun Y => JE Y wNo E (Γc x) elt (fe x)) (hk : ∀ d, JB X W E Γx eα eβ (Γ' d) rest (kk d)) (hΓ : ∀ x, put (wipeF Γ (own.map (·.2))) x = Γc x := by intro _; rfl) (hΓ' : ∀ d, Γ.set j (some (.l d)) = Γ' d := by intro _; rfl)
    (hj : X.N[j]? = some y := by rfl) (hyl : X.env.scope.names.lookup y = some .local := by rfl) (hkd : X.env.scope.kind = .function := by rfl) (hpl : (py.line == p0.line) = true := by rfl) (hyn : (scope.names.any fun (n, k) => n == y && (k == .local || k == .cell)) = false := by decide +kernel)
    (hs : ∀ x, foldedSetIterable iter X.env x = pure x := by intro _; rfl) : JB X W E Γx eα eβ Γ (.Assign [.Name y py] (.ListComp elt [⟨tg, iter, ifs, 0⟩] scope p0) pos :: rest) (bnd (mL (bnd src (filL (item b t fe)))) kk) := fun μ h σ H D s p => by
  obtain ⟨wi, pi, q⟩ := hi
  obtain ⟨gt, pg, qg⟩ := ht
  refine wcons (wS.of (ps_setLc (te := wEB X scope elt) (tt := wTB X scope ifs) hc hN hj hyl (sw_true hkd hyl hpl hyn) pi ok pg (fun s H C cl fp => ⟨fun pins s' σ' H' Q' I q => (q s H C cl fp).go pins s' I⟩) (fun s H C cl fp => ⟨fun pins s' σ' H' Q' I q => (q s H C cl fp).go pins s' I⟩) hs)
    (comp_w (Q := fun x H1 => gName j x σ H1 fun σ' H' => wSs X rest D σ' H') q qg hos hΓ hts he s (mL_ok h _ _ _ _ _ (Po.mono (PoN.bnd s w p) fun d h1 μ1 H1 _ s1 hr1 p1 u ru => ?_))))
  obtain ⟨s2, p2⟩ := p1
  have s3 := s2.put (i := j) (ru.since s.st.th) fun _ j r' q e1 o1 e2 => s.fresh ru rfl j r' q e1 o1 e2
  rw [hΓ' d] at s3
  exact hk d μ1 h1 _ H1 D s3 p2
/-! ### what slot j holds is frozen -/
theorem jb_frz (j : Nat) {r : RV} {d : FV} (q : sg Γ j = some r) (f : r.frz = some d) {Γ' : Sl} {kk : M (Fl α β)} {sts : List Stmt} (hk : JB X W E Γx eα eβ Γ' sts kk) (hΓ : Γ.set j (some (.v d)) = Γ' := by rfl) : JB X W E Γx eα eβ Γ sts kk := fun μ h σ H D s p => by
  have e := sg_get q
  obtain ⟨u, h1, h2⟩ := s.sl j r e
  refine wSs.gh ?_
  cases ho : r.obj with
  | false =>
    cases r with
    | v x =>
      have xd : x = d := Option.some.inj f
      subst xd
      have : Γ.set j (some (.v x)) = Γ := by
        apply List.ext_getElem?
        intro m
        by_cases z : j = m
        · subst z
          rw [List.getElem?_set_self (List.getElem?_eq_some_iff.mp e).1, e]
        · rw [List.getElem?_set_ne z]
      rw [← hΓ, this] at hk
      exact .inl (hk μ h σ H D s p)
    | _ => cases ho
  | true =>
    have g := frz_ok s.hr h2 f s.st
    have key : ∀ H2, Step E.μ E.n E.H μ h.length H2 ∧ HR (bs X) μ h H2 ∧ VR (bs X) H2 μ h.length d u ∧ Gw H H2 ∧ (∀ p, u ≠ .ref p → H2 p = H p) → Mut (match u with | .ref p => H p | _ => none) → wSs X sts D σ H2 := fun H2 ⟨z1, z2, z3, z4, z5⟩ mu => by
      have sr : SR (bs X) E μ Γ' h σ H2 := by
        rw [← hΓ]
        refine ⟨z1, z2, by rw [List.length_set]; exact s.len, fun m w q => ?_, fun m1 m2 w1 w2 a e1 e2 o1 o2 e3 e4 => ?_⟩
        · rcases set_get q with ⟨rfl, q', l⟩ | ⟨nj, q'⟩
          · cases q'
            exact ⟨u, h1, .v z3⟩
          · obtain ⟨u', k1, k2⟩ := s.sl m w q'
            refine ⟨u', k1, ?_⟩
            cases how : w.obj with
            | false =>
              cases w with
              | v x =>
                cases k2 with
                | v k2 => exact .v (VR.mono z4 (fun _ _ => rfl) (Nat.le_refl _) _ _ k2)
              | _ => cases how
            | true =>
              have ne : ∀ q, u' = .ref q → u ≠ .ref q := fun q eq z => nj (s.inj j m r w q e q' ho how (by rw [h1, z]) (by rw [k1, eq]))
              have st : ∀ q, u' = .ref q → H2 q = H q := fun q eq => z5 q (ne q eq)
              cases k2 with
              | v k2 => cases how
              | l f a b => exact .l f (by rw [st _ rfl]; exact a) (VRs.mono z4 (fun _ _ => rfl) (Nat.le_refl _) _ _ b)
              | d f a b => exact .d f (by rw [st _ rfl]; exact a) (b.mono z4 (fun _ _ => rfl) (Nat.le_refl _))
              | t f a b => exact .t f (by rw [st _ rfl]; exact a) (b.mono z4 (fun _ _ => rfl) (Nat.le_refl _))
              | o f z a b => exact .o f z (by rw [st _ rfl]; exact a) (b.mono z4 (fun _ _ => rfl) (Nat.le_refl _))
              | bl f a b => exact .bl f (by rw [st _ rfl]; exact a) (VRs.mono z4 (fun _ _ => rfl) (Nat.le_refl _) _ _ b)
              | bd f a b => exact .bd f (by rw [st _ rfl]; exact a) (b.mono z4 (fun _ _ => rfl) (Nat.le_refl _))
              | bt f a b => exact .bt f (by rw [st _ rfl]; exact a) (b.mono z4 (fun _ _ => rfl) (Nat.le_refl _))
              | bo f z a b => exact .bo f z (by rw [st _ rfl]; exact a) (b.mono z4 (fun _ _ => rfl) (Nat.le_refl _))
        · rcases set_get e1 with ⟨rfl, e1', l1⟩ | ⟨ne1, e1'⟩
          · cases e1'; cases o1
          · rcases set_get e2 with ⟨rfl, e2', l2⟩ | ⟨ne2, e2'⟩
            · cases e2'; cases o2
            · exact s.inj m1 m2 w1 w2 a e1' e2' o1 o2 e3 e4
      exact hk μ h σ H2 D sr (p.at' (StW.of z4))
    rcases g with g | ⟨q, w, a, b, g⟩
    · obtain ⟨p', rfl, _, mu⟩ : ∃ p', u = .ref p' ∧ True ∧ Mut (H p') := by
        cases h2 with
        | v x => cases ho
        | l f a b => exact ⟨_, rfl, trivial, by rw [a]; trivial⟩
        | d f a b => exact ⟨_, rfl, trivial, by rw [a]; trivial⟩
        | t f a b => exact ⟨_, rfl, trivial, by rw [a]; trivial⟩
        | o f z a b => exact ⟨_, rfl, trivial, by rw [a]; trivial⟩
        | bl f a b => exact ⟨_, rfl, trivial, by rw [a]; trivial⟩
        | bd f a b => exact ⟨_, rfl, trivial, by rw [a]; trivial⟩
        | bt f a b => exact ⟨_, rfl, trivial, by rw [a]; trivial⟩
        | bo f z a b => exact ⟨_, rfl, trivial, by rw [a]; trivial⟩
      exact .inl (key H g mu)
    · refine .inr ⟨q, w, a, b, fun od => key _ (g od) ?_⟩
      cases h2 with
      | v x => cases ho
      | l f a b => show Mut (H _); rw [a]; trivial
      | d f a b => show Mut (H _); rw [a]; trivial
      | t f a b => show Mut (H _); rw [a]; trivial
      | o f z a b => show Mut (H _); rw [a]; trivial
      | bl f a b => show Mut (H _); rw [a]; trivial
      | bd f a b => show Mut (H _); rw [a]; trivial
      | bt f a b => show Mut (H _); rw [a]; trivial
      | bo f z a b => show Mut (H _); rw [a]; trivial

/-! ### xs.append(e), xs.extend(e), the slot's own list -/
def oApp (ds : List FV) (d : FV) : M (List FV) := if ds.length < LIM then pur (ds ++ [d]) else fail
def oExt (ds es : List FV) : M (List FV) := if ds.length + es.length ≤ LIM then pur (ds ++ es) else fail
theorem own_l {B : Bs} {H0 H : Hp} {μ : Nat → Addr} {n : Nat} {ds : List FV} {u : V} (r : RR B H0 μ n H (.l ds) u) : ∃ p xs, u = .ref p ∧ Fre H0 μ n p ∧ H p = some (.lst xs) ∧ VRs B H μ n ds xs := by
  cases r with | l f a b => exact ⟨_, _, rfl, f, a, b⟩
theorem own_d {B : Bs} {H0 H : Hp} {μ : Nat → Addr} {n : Nat} {ds : List (Key × FV)} {u : V} (r : RR B H0 μ n H (.d ds) u) : ∃ p xs, u = .ref p ∧ Fre H0 μ n p ∧ H p = some (.dK xs) ∧ KvR B H μ n ds xs := by
  cases r with | d f a b => exact ⟨_, _, rfl, f, a, b⟩
theorem jb_append (j : Nat) {ds : List FV} {x : Str} {Γ' : List FV → Sl} {kk : List FV → M (Fl α β)} (w : SubX Γx Γ) (he : JE X W E Γ e fe) (hk : ∀ d, JB X W E Γx eα eβ (Γ' d) rest (kk d)) (q : sg Γ j = some (.l ds) := by rfl) (hΓ : ∀ d, Γ.set j (some (.l d)) = Γ' d := by intro _; rfl)
    (hN : X.N[j]? = some x := by rfl) (hv : Vis X.env.scope x := by first | exact Or.inl rfl | exact Or.inr (Or.inl rfl) | exact Or.inr (Or.inr rfl)) (hd : (x == ("__debug__" : Str)) = false := by decide) (hcd : (x == ("__classdict__" : Str)) = false := by decide)
    (pe : ∀ {to : TE} {t : TA}, PE X (.Name x px) to → PA X [e] t → PE X (.Call (.Attribute (.Name x px) "append" apos) [e] [] p0) (tBM X.K "list" rAppend to t) := by intro to t h1 h2; exact pe_bm PySem.F.plainAttrs_list PySem.F.slot_list_append PySem.F.type_list_append mt_append h1 h2)
    (hs : swapsWith (.Call (.Attribute (.Name x px) "append" apos) [e] [] p0) none pos.line X.env = pure false := by rfl) (h1 : starEach (e :: []) X.env = (false, eval e X.env) :: starEach [] X.env := by exact star1 rfl) :
    JB X W E Γx eα eβ Γ (.Expr (.Call (.Attribute (.Name x px) "append" apos) [e] [] p0) pos :: rest) (bnd (mV fe) fun d => bnd (oApp ds d) kk) := fun μ h σ H D s p => by
  have eq := sg_get q
  obtain ⟨u, h1', h2⟩ := s.sl j _ eq
  obtain ⟨p', xs, rfl, f, a, b⟩ := own_l h2
  refine wcons (wS.of (ps_expr (pe (pe_var hN hv hd hcd) (pa_cons pe_w pa_nil h1)) hs) ⟨.ref p', h1', .inl ⟨rfl, xs, SqL.of a⟩, PoN.val he s w p fun d h3 μ3 H3 u3 sw s3 v3 p3 => ?_⟩)
  obtain ⟨u', k1, k2⟩ := s3.sl j _ eq
  rw [h1'] at k1; cases k1
  obtain ⟨p'', ys, e', f', a', b'⟩ := own_l k2
  cases e'
  unfold oApp at p3
  by_cases hl : ds.length < LIM
  · rw [if_pos hl] at p3
    refine ⟨p', ys, u3, rfl, rfl, a', by rw [b'.len]; exact lim_lt hl, ?_⟩
    have mu : Mut (H3 p') := by rw [a']; trivial
    have g := gw_mut (o := .lst (ys ++ [u3])) mu
    have s4 := s3.chg (o := .lst (ys ++ [u3])) (r' := .l (ds ++ [d])) rfl eq h1' f'.1 f'.2 mu (.l f' upd_same (VRs.mono g (fun _ _ => rfl) (Nat.le_refl _) _ _ (b'.append (.cons v3 .nil))))
    rw [hΓ] at s4
    exact hk (ds ++ [d]) μ3 h3 σ _ D s4 (PoN.at' p3 (StW.of g))
  · rw [if_neg hl] at p3; exact p3.elim
/-- .. of any list -/
def rExtR : V → List V → Hp → VK → Prop := fun x vs H Q => ∃ l b xs zs, x = .ref l ∧ vs = [.ref b] ∧ H l = some (.lst xs) ∧ Rd H b (.lst zs) ∧ xs.length + zs.length ≤ sizeLine ∧ Q .non (upd H l (.lst (xs ++ zs)))
theorem mt_extR : MtM X "list.extend" rExtR := by
  rintro pins s σ H _ _ v us Q I rx rv ⟨l, b, xs, zs, rfl, rfl, hH, hB, hz, q⟩
  obtain rfl : v = .ref l := rx
  obtain ⟨u, rfl, ru⟩ := rv.one
  obtain rfl : u = .ref b := ru
  obtain ⟨_, ia, na, wa, ea⟩ := (Rd.of hH).ok I.hok
  obtain ⟨_, ib, nb, wb, eb⟩ := hB.ok I.hok
  have l1 := wa.length
  have l2 := wb.length
  have small : ia.toArray.size + ib.toArray.size ≤ sizeLine := by simp only [List.size_toArray]; omega
  have room : ¬ (!ia.toArray.isEmpty && Builtin.List.listTooLong (ia.toArray.size + ib.toArray.size)) = true := by
    rw [notLongL small, Bool.and_false]; decide
  have one : ia.toArray.size ≤ sizeLine := by omega
  have two : ia.toArray.size + ib.toArray.size ≤ sizeLine + 1 := by omega
  refine call_meets PySem.F.slot_list_extend ⟨_, ea, rfl⟩ PySem.F.entry_list_extend (PySem.F.args_list_extend_2 _ _) (AutoSeq1.list_extend_list_list_0 l ia.toArray na b ib.toArray nb room one two) ⟨ea, eb, ?_⟩
  have len : (xs ++ zs).length ≤ sizeLine := by rw [List.length_append]; exact hz
  exact ⟨.non, _, I.lset (its' := ia ++ ib) hH ea (by simp) (wa.append wb) len, rfl, q⟩
def oL (d : FV) : M (List FV) := match d with | .fl ds => pur ds | _ => fail
theorem jb_extend (j : Nat) {ds : List FV} {x : Str} {Γ' : List FV → Sl} {kk : List FV → M (Fl α β)} (w : SubX Γx Γ) (he : JE X W E Γ e fe) (hk : ∀ d, JB X W E Γx eα eβ (Γ' d) rest (kk d)) (q : sg Γ j = some (.l ds) := by rfl) (hΓ : ∀ d, Γ.set j (some (.l d)) = Γ' d := by intro _; rfl)
    (hN : X.N[j]? = some x := by rfl) (hv : Vis X.env.scope x := by first | exact Or.inl rfl | exact Or.inr (Or.inl rfl) | exact Or.inr (Or.inr rfl)) (hd : (x == ("__debug__" : Str)) = false := by decide) (hcd : (x == ("__classdict__" : Str)) = false := by decide)
    (pe : ∀ {to : TE} {t : TA}, PE X (.Name x px) to → PA X [e] t → PE X (.Call (.Attribute (.Name x px) "extend" apos) [e] [] p0) (tBM X.K "list" rExtR to t) := by intro to t h1 h2; exact pe_bm PySem.F.plainAttrs_list PySem.F.slot_list_extend PySem.F.type_list_extend mt_extR h1 h2)
    (hs : swapsWith (.Call (.Attribute (.Name x px) "extend" apos) [e] [] p0) none pos.line X.env = pure false := by rfl) (h1 : starEach (e :: []) X.env = (false, eval e X.env) :: starEach [] X.env := by exact star1 rfl) :
    JB X W E Γx eα eβ Γ (.Expr (.Call (.Attribute (.Name x px) "extend" apos) [e] [] p0) pos :: rest) (bnd (mV fe) fun d => bnd (oL d) fun es => bnd (oExt ds es) kk) := fun μ h σ H D s p => by
  have eq := sg_get q
  obtain ⟨u, h1', h2⟩ := s.sl j _ eq
  obtain ⟨p', xs, rfl, f, a, b⟩ := own_l h2
  refine wcons (wS.of (ps_expr (pe (pe_var hN hv hd hcd) (pa_cons pe_w pa_nil h1)) hs) ⟨.ref p', h1', .inl ⟨rfl, xs, SqL.of a⟩, PoN.val he s w p fun d h3 μ3 H3 u3 sw s3 v3 p3 => ?_⟩)
  obtain ⟨u', k1, k2⟩ := s3.sl j _ eq
  rw [h1'] at k1; cases k1
  obtain ⟨p'', ys, e', f', a', b'⟩ := own_l k2
  cases e'
  unfold oL at p3
  split at p3
  · rename_i es
    cases v3 with
    | fl z1 z2 =>
      rename_i pa zs
      have p4 : PoN (bs X) E μ3 h3.length H3 D W Γx eα eβ (bnd (oExt ds es) kk h3) := p3
      unfold oExt at p4
      by_cases hl : ds.length + es.length ≤ LIM
      · rw [if_pos hl] at p4
        refine ⟨p', _, ys, _, rfl, rfl, a', z1.rd, by rw [b'.len, z2.len]; exact lim_le hl, ?_⟩
        have mu : Mut (H3 p') := by rw [a']; trivial
        have g := gw_mut (o := .lst (ys ++ zs)) mu
        have s4 := s3.chg (o := .lst (ys ++ zs)) (r' := .l (ds ++ es)) rfl eq h1' f'.1 f'.2 mu (.l f' upd_same (VRs.mono g (fun _ _ => rfl) (Nat.le_refl _) _ _ (b'.append z2)))
        rw [hΓ] at s4
        exact hk (ds ++ es) μ3 h3 σ _ D s4 (PoN.at' p4 (StW.of g))
      · rw [if_neg hl] at p4; exact p4.elim
  · exact p3.elim
end
end P

/-! P: stores into lists and dicts, built-ins, dicts. -/
namespace P
open PySem PySem.Spec PyProof.Rows L2 G
section
variable {α β γ δ : Type} {X : Cx} {W : WX} {E : Ent} {Γx : Option Sl} {eα : α → Sl} {eβ : β → Sl} {Γ Γ' : Sl} {e a b c o i f tg iter elt : Expr} {es : List Expr} {pos apos p0 p1 p2 px : Pos} {fe fo fi fa fb fc ff : M RV} {rest body : List Stmt} {os : List Nat} {n k : Nat} {scope : Scope} {src : M (List FV)}
/-! ### xs[i] = e, d[k] = e -/
def rSetG : TSet := fun o i v H Q => rSetL o i v H Q ∨ ∃ a H', o = .ref a ∧ DPut H a i v H' ∧ Q H'
theorem set_g (hu : X.A.units + 1 < cLine) : PSet X rSetG := by
  intro pins s σ H o i v ov iv u Q I ro ri rv h
  rcases h with h | ⟨a, H', rfl, g, q⟩
  · exact set_list pins s σ H o i v ov iv u Q I ro ri rv h
  · obtain rfl : ov = Value.ref a := ro
    exact d_setItem hu I g ri rv fun s' I' => ⟨H', I', q⟩
def putF (kvs : List (Key × FV)) (k : Key) (v : FV) : List (Key × FV) :=
  if (kvs.any fun kv => decide (kv.1 = k)) = true then kvs.map (fun kv => if kv.1 = k then (kv.1, v) else kv) else kvs ++ [(k, v)]
theorem KvR.any {κ : Type} [DecidableEq κ] {B : Bs} {H : Hp} {μ : Nat → Addr} {n : Nat} (k : κ) : ∀ {ds : List (κ × FV)} {ws : List (κ × V)}, KvR B H μ n ds ws → (ws.any fun kv => decide (kv.1 = k)) = (ds.any fun kv => decide (kv.1 = k))
  | _, _, .nil => rfl
  | _, _, .cons a b => by rw [List.any_cons, List.any_cons, KvR.any k b, a.1]
theorem KvR.map {B : Bs} {H : Hp} {μ : Nat → Addr} {n : Nat} {k : Key} {v : V} {d : FV} (m : VR B H μ n d v) : ∀ {ds : List (Key × FV)} {ws : List (Key × V)}, KvR B H μ n ds ws → KvR B H μ n (ds.map fun kv => if kv.1 = k then (kv.1, d) else kv) (ws.map fun kv => if kv.1 = k then (kv.1, v) else kv)
  | _, _, .nil => .nil
  | p :: _, q :: _, .cons h t => by
    refine .cons ?_ (KvR.map m t)
    by_cases e : p.1 = k
    · dsimp only; rw [if_pos e, if_pos (h.1 ▸ e)]; exact ⟨h.1, m⟩
    · dsimp only; rw [if_neg e, if_neg (h.1 ▸ e)]; exact h
theorem KvR.app {κ : Type} {B : Bs} {H : Hp} {μ : Nat → Addr} {n : Nat} {k : κ} {v : V} {d : FV} (m : VR B H μ n d v) : ∀ {ds : List (κ × FV)} {ws : List (κ × V)}, KvR B H μ n ds ws → KvR B H μ n (ds ++ [(k, d)]) (ws ++ [(k, v)])
  | _, _, .nil => .cons ⟨rfl, m⟩ .nil
  | _, _, .cons h t => .cons h (KvR.app m t)
theorem KvR.put {B : Bs} {H : Hp} {μ : Nat → Addr} {n : Nat} {k : Key} {v : V} {d : FV} {ds : List (Key × FV)} {ws : List (Key × V)} (m : VR B H μ n d v) (h : KvR B H μ n ds ws) : KvR B H μ n (putF ds k d) (putK ws k v) := by
  unfold putK putF
  rw [h.any k]
  split
  · exact h.map m
  · exact h.app m
/-- d[k] = e, the slot's own dict -/
def gPutK (kvs : List (Key × FV)) (k : RV) (v : FV) : Option (List (Key × FV)) := match k with
  | .v d => match d.key with
    | some kk => if kvs.length < LIM then some (putF kvs kk v) else none
    | none => none
  | _ => none
def oPut (kvs : List (Key × FV)) (k : RV) (v : FV) : M (List (Key × FV)) := lift fun _ => gPutK kvs k v
/-- xs[i] = e, the slot's own list -/
def gSetI (ds : List FV) (k : RV) (v : FV) : Option (List FV) := match k with
  | .v (.int j) => match ixN ds.length j with
    | some n => some (ds.set n v)
    | none => none
  | _ => none
def oSetI (ds : List FV) (k : RV) (v : FV) : M (List FV) := lift fun _ => gSetI ds k v
theorem PoN.lift {δ : Type} {B : Bs} {μ : Nat → Addr} {n : Nat} {H : Hp} {D : Ends} {o : FH → Option δ} {h : FH} {k : δ → M (Fl α β)} (p : PoN B E μ n H D W Γx eα eβ (P.bnd (P.lift o) k h)) : ∃ d, o h = some d ∧ PoN B E μ n H D W Γx eα eβ (k d h) := by
  unfold P.bnd P.lift at p
  cases q : o h with
  | none => rw [q] at p; exact p.elim
  | some d => rw [q] at p; exact ⟨d, rfl, p⟩
theorem PoN.ex1 {B : Bs} {μ : Nat → Addr} {n : Nat} {H : Hp} {D : Ends} {δ : Type} {m : M δ} {h h' : FH} {d : δ} {k : δ → M (Fl α β)} (q : m h = .ok d h') (p : PoN B E μ n H D W Γx eα eβ (P.bnd m k h)) : PoN B E μ n H D W Γx eα eβ (k d h') := by
  unfold P.bnd at p
  rw [q] at p
  exact p
theorem jb_dput (j : Nat) {kvs : List (Key × FV)} {x : Str} {ppos : Pos} {Γ' : List (Key × FV) → Sl} {kk : List (Key × FV) → M (Fl α β)} (hr : Room k X.A) (w : SubX Γx Γ) (he : JE X W E Γ e fe) (hi : JE X W E Γ i fi) (hk : ∀ d, JB X W E Γx eα eβ (Γ' d) rest (kk d)) (q : sg Γ j = some (.d kvs) := by rfl) (hΓ : ∀ d, Γ.set j (some (.d d)) = Γ' d := by intro _; rfl)
    (hN : X.N[j]? = some x := by rfl) (hv : Vis X.env.scope x := by first | exact Or.inl rfl | exact Or.inr (Or.inl rfl) | exact Or.inr (Or.inr rfl)) (hd : (x == ("__debug__" : Str)) = false := by decide) (hcd : (x == ("__classdict__" : Str)) = false := by decide)
    (hp : ∀ {to ti te : TE}, PE X (.Name x px) to → PE X i ti → PE X e te → PS X (.Assign [.Subscript (.Name x px) i ppos] e pos) (tAsg te (gSub to ti rSetG)) := by
      intro to ti te h1 h2 h3; exact ps_asg h3 (pg_sub h1 h2 (set_g (hu_of (by assumption))))) :
    JB X W E Γx eα eβ Γ (.Assign [.Subscript (.Name x px) i ppos] e pos :: rest) (bnd (mV fe) fun v => bnd fi fun k => bnd (oPut kvs k v) kk) := fun μ h σ H D s p =>
  wcons (wS.of (hp (pe_var hN hv hd hcd) pe_w pe_w) (PoN.val he s w p fun v h1 μ1 H1 u sw s1 v1 p1 => by
    have eq := sg_get q
    obtain ⟨u0, h1', _⟩ := s1.sl j _ eq
    refine ⟨u0, h1', hi μ1 h1 σ H1 _ s1 (Po.mono (PoN.bnd s1 w p1) fun iv h2 μ2 H2 eq2 s2 hr2 p2 ui rui => ?_)⟩
    obtain ⟨s3, p3⟩ := p2
    obtain ⟨u', k1, k2⟩ := s3.sl j _ eq
    rw [h1'] at k1; cases k1
    obtain ⟨p', ws, rfl, f', a', b'⟩ := own_d k2
    have v3 := s2.vr v1
    obtain ⟨kv, z, p4⟩ := p3.lift
    unfold gPutK at z
    split at z
    · rename_i d
      split at z
      · rename_i kk0 qk
        split at z
        · rename_i hl
          cases z
          have eu := key_ok rui qk
          subst eu
          refine .inr ⟨p', _, rfl, DPut.k a' (by rw [b'.len]; exact lim_lt hl), ?_⟩
          have mu : Mut (H2 p') := by rw [a']; trivial
          have g := gw_mut (o := .dK (putK ws kk0 u)) mu
          have s4 := s3.chg (o := .dK (putK ws kk0 u)) (r' := .d (putF kvs kk0 v)) rfl eq h1' f'.1 f'.2 mu (.d f' upd_same ((b'.put v3).mono g (fun _ _ => rfl) (Nat.le_refl _)))
          rw [hΓ] at s4
          exact hk (putF kvs kk0 v) μ2 _ σ _ D s4 (PoN.at' p4 (StW.of g))
        · cases z
      · cases z
    · cases z))
theorem jb_lput (j : Nat) {ds : List FV} {x : Str} {ppos : Pos} {Γ' : List FV → Sl} {kk : List FV → M (Fl α β)} (hr : Room k X.A) (w : SubX Γx Γ) (he : JE X W E Γ e fe) (hi : JE X W E Γ i fi) (hk : ∀ d, JB X W E Γx eα eβ (Γ' d) rest (kk d)) (q : sg Γ j = some (.l ds) := by rfl) (hΓ : ∀ d, Γ.set j (some (.l d)) = Γ' d := by intro _; rfl)
    (hN : X.N[j]? = some x := by rfl) (hv : Vis X.env.scope x := by first | exact Or.inl rfl | exact Or.inr (Or.inl rfl) | exact Or.inr (Or.inr rfl)) (hd : (x == ("__debug__" : Str)) = false := by decide) (hcd : (x == ("__classdict__" : Str)) = false := by decide)
    (hp : ∀ {to ti te : TE}, PE X (.Name x px) to → PE X i ti → PE X e te → PS X (.Assign [.Subscript (.Name x px) i ppos] e pos) (tAsg te (gSub to ti rSetG)) := by
      intro to ti te h1 h2 h3; exact ps_asg h3 (pg_sub h1 h2 (set_g (hu_of (by assumption))))) :
    JB X W E Γx eα eβ Γ (.Assign [.Subscript (.Name x px) i ppos] e pos :: rest) (bnd (mV fe) fun v => bnd fi fun k => bnd (oSetI ds k v) kk) := fun μ h σ H D s p =>
  wcons (wS.of (hp (pe_var hN hv hd hcd) pe_w pe_w) (PoN.val he s w p fun v h1 μ1 H1 u sw s1 v1 p1 => by
    have eq := sg_get q
    obtain ⟨u0, h1', _⟩ := s1.sl j _ eq
    refine ⟨u0, h1', hi μ1 h1 σ H1 _ s1 (Po.mono (PoN.bnd s1 w p1) fun iv h2 μ2 H2 eq2 s2 hr2 p2 ui rui => ?_)⟩
    obtain ⟨s3, p3⟩ := p2
    obtain ⟨u', k1, k2⟩ := s3.sl j _ eq
    rw [h1'] at k1; cases k1
    obtain ⟨p', xs, rfl, f', a', b'⟩ := own_l k2
    have v3 := s2.vr v1
    obtain ⟨kv, z, p4⟩ := p3.lift
    unfold gSetI at z
    split at z
    · rename_i jj
      split at z
      · rename_i nn qk
        cases z
        refine .inl ⟨p', xs, jj, nn, rfl, rr_int rui, a', by rw [b'.len]; exact qk, ?_⟩
        have mu : Mut (H2 p') := by rw [a']; trivial
        have g := gw_mut (o := .lst (xs.set nn u)) mu
        have s4 := s3.chg (o := .lst (xs.set nn u)) (r' := .l (ds.set nn v)) rfl eq h1' f'.1 f'.2 mu (.l f' upd_same (VRs.mono g (fun _ _ => rfl) (Nat.le_refl _) _ _ (b'.set nn v3)))
        rw [hΓ] at s4
        exact hk (ds.set nn v) μ2 _ σ _ D s4 (PoN.at' p4 (StW.of g))
      · cases z
    · cases z))
/-! ### .. of objects with numbers -/
def gSet (v : FV) (x i : RV) (h : FH) : Option FH := match x, i with
  | .v (.ref m), .v d => match h[m]? with
    | some (.lst ds) => match d with
      | .int j => (ixN ds.length j).map fun n => h.set m (.lst (ds.set n v))
      | _ => none
    | some (.dK kvs) => match d.key with
      | some kk => if kvs.length < LIM then some (h.set m (.dK (putF kvs kk v))) else none
      | none => none
    | _ => none
  | _, _ => none
def oSet (v : FV) (x i : RV) : M Unit := fun h => match gSet v x i h with
  | some h' => .ok () h'
  | none => .no
theorem SR.mutT {B : Bs} {μ : Nat → Addr} {h : FH} {σ : St} {H : Hp} {m : Nat} {o : FO} {u : HO} (s : SR B E μ Γ h σ H) (lm : m < h.length) (mu : Mut (H (μ m))) (he : m < E.n ∨ E.H (μ m) = none) (ho : OR B (upd H (μ m) u) μ h.length (μ m) o) : SR B E μ Γ (h.set m o) σ (upd H (μ m) u) :=
  s.step (by rw [List.length_set]; exact Step.mut lm mu) (s.hr.set lm ho)
theorem jb_put {ppos : Pos} {kk : M (Fl α β)} (hr : Room k X.A) (w : SubX Γx Γ) (he : JE X W E Γ e fe) (ho : JE X W E Γ o fo) (hi : JE X W E Γ i fi) (hk : JB X W E Γx eα eβ Γ rest kk)
    (hp : ∀ {to ti te : TE}, PE X o to → PE X i ti → PE X e te → PS X (.Assign [.Subscript o i ppos] e pos) (tAsg te (gSub to ti rSetG)) := by
      intro to ti te h1 h2 h3; exact ps_asg h3 (pg_sub h1 h2 (set_g (hu_of (by assumption))))) :
    JB X W E Γx eα eβ Γ (.Assign [.Subscript o i ppos] e pos :: rest) (bnd (mV fe) fun v => bnd fo fun x => bnd fi fun y => bnd (oSet v x y) fun _ => kk) := fun μ h σ H D s p =>
  wcons (wS.of (hp pe_w pe_w pe_w) (PoN.val he s w p fun v h1 μ1 H1 u sw s1 v1 p1 => by
    refine ho μ1 h1 σ H1 _ s1 (Po.mono (PoN.bnd s1 w p1) fun x h3 μ3 H3 eq3 s3 hr3 p3 ux rux => ?_)
    obtain ⟨sr3, p3⟩ := p3
    refine hi μ3 h3 σ H3 _ sr3 (Po.mono (PoN.bnd sr3 w p3) fun iv h4 μ4 H4 eq4 s4 hr4 p4 ui rui => ?_)
    obtain ⟨sr4, p4⟩ := p4
    have v4 := s4.vr (s3.vr v1)
    have rx4 := rux.step s4
    unfold P.bnd oSet at p4
    cases z : gSet v x iv h4 with
    | none => rw [z] at p4; exact p4.elim
    | some h5 =>
      rw [z] at p4
      unfold gSet at z
      split at z
      · rename_i m dd
        obtain ⟨rfl, lm⟩ := ref_inv rx4
        split at z
        · rename_i ds q
          split at z
          · rename_i j
            cases qj : ixN ds.length j with
            | none => rw [qj] at z; cases z
            | some n =>
              rw [qj] at z
              cases z
              obtain ⟨xs, h6, h7⟩ := hr4.lst q
              have mu : Mut (H4 (μ4 m)) := by rw [h6]; trivial
              refine .inl ⟨μ4 m, xs, j, n, rfl, rr_int rui, h6, by rw [h7.len]; exact qj, ?_⟩
              have st : Step μ4 h4.length H4 μ4 (h4.set m (.lst (ds.set n v))).length (upd H4 (μ4 m) (.lst (xs.set n u))) := by rw [List.length_set]; exact Step.mut lm mu
              have hr5 := hr4.set (o := .lst (ds.set n v)) (u := .lst (xs.set n u)) lm ⟨_, upd_same, VRs.mono (gw_mut mu) (fun _ _ => rfl) (Nat.le_refl _) _ _ (h7.set n v4)⟩
              exact hk μ4 _ σ _ D (sr4.step st hr5) (PoN.at' p4 st.w)
          · cases z
        · rename_i kvs q
          split at z
          · rename_i kk qk
            split at z
            · rename_i hl
              cases z
              obtain ⟨ws, h6, h7⟩ := hr4.at' m _ q
              have mu : Mut (H4 (μ4 m)) := by rw [h6]; trivial
              have eu := key_ok rui qk
              subst eu
              refine .inr ⟨μ4 m, _, rfl, DPut.k h6 (by rw [h7.len]; exact lim_lt hl), ?_⟩
              have st : Step μ4 h4.length H4 μ4 (h4.set m (.dK (putF kvs kk v))).length (upd H4 (μ4 m) (.dK (putK ws kk u))) := by rw [List.length_set]; exact Step.mut lm mu
              have hr5 := hr4.set (o := .dK (putF kvs kk v)) (u := .dK (putK ws kk u)) lm ⟨_, upd_same, (h7.put v4).mono (gw_mut mu) (fun _ _ => rfl) (Nat.le_refl _)⟩
              exact hk μ4 _ σ _ D (sr4.step st hr5) (PoN.at' p4 st.w)
            · cases z
          · cases z
        · cases z
      · cases z))
/-! ### all, any, sum of lists -/
def bls : List FV → Option (List Bool)
  | [] => some []
  | .bl x :: r => (bls r).map (x :: ·)
  | _ => none
def itsF : List FV → Option (List Int)
  | [] => some []
  | .int x :: r => (itsF r).map (x :: ·)
  | _ => none
theorem bls_ok {B : Bs} {H : Hp} {μ : Nat → Addr} {n : Nat} : ∀ {ds : List FV} {xs : List V} {ys : List Bool}, VRs B H μ n ds xs → bls ds = some ys → xs = ys.map V.bl
  | [], _, _, r, e => by cases r; cases e; rfl
  | .bl x :: ds, _, ys, r, e => by
    cases r with
    | cons a b =>
      cases a
      rw [bls] at e
      cases q : bls ds with
      | none => rw [q] at e; cases e
      | some zs => rw [q] at e; cases e; rw [bls_ok b q]; rfl
  | .non :: ds, _, _, r, e => by simp [bls] at e
  | .str _ :: ds, _, _, r, e => by simp [bls] at e
  | .int _ :: ds, _, _, r, e => by simp [bls] at e
  | .tup _ :: ds, _, _, r, e => by simp [bls] at e
  | .ref _ :: ds, _, _, r, e => by simp [bls] at e
  | .fl _ :: ds, _, _, r, e => by simp [bls] at e
  | .sl _ :: ds, _, _, r, e => by simp [bls] at e
  | .fd _ _ :: ds, _, _, r, e => by simp [bls] at e
  | .ft _ _ :: ds, _, _, r, e => by simp [bls] at e
  | .fo _ _ _ :: ds, _, _, r, e => by simp [bls] at e
theorem itsF_ok {B : Bs} {H : Hp} {μ : Nat → Addr} {n : Nat} : ∀ {ds : List FV} {xs : List V} {ys : List Int}, VRs B H μ n ds xs → itsF ds = some ys → xs = ys.map V.int
  | [], _, _, r, e => by cases r; cases e; rfl
  | .int x :: ds, _, ys, r, e => by
    cases r with
    | cons a b =>
      cases a
      rw [itsF] at e
      cases q : itsF ds with
      | none => rw [q] at e; cases e
      | some zs => rw [q] at e; cases e; rw [itsF_ok b q]; rfl
  | .non :: ds, _, _, r, e => by simp [itsF] at e
  | .str _ :: ds, _, _, r, e => by simp [itsF] at e
  | .bl _ :: ds, _, _, r, e => by simp [itsF] at e
  | .tup _ :: ds, _, _, r, e => by simp [itsF] at e
  | .ref _ :: ds, _, _, r, e => by simp [itsF] at e
  | .fl _ :: ds, _, _, r, e => by simp [itsF] at e
  | .sl _ :: ds, _, _, r, e => by simp [itsF] at e
  | .fd _ _ :: ds, _, _, r, e => by simp [itsF] at e
  | .ft _ _ :: ds, _, _, r, e => by simp [itsF] at e
  | .fo _ _ _ :: ds, _, _, r, e => by simp [itsF] at e
def gAll (fn : List Bool → Bool) (x : RV) (h : FH) : Option RV := match x.seq h with
  | some (false, ds) => (bls ds).map fun bs => .v (.bl (fn bs))
  | _ => none
theorem all_ok' {r : List V → Hp → VK → Prop} {fn : List Bool → Bool} (hr' : ∀ a bs H Q, SqL X.K H a (bs.map V.bl) → Q (.bl (fn bs)) H → r [.ref a] H Q) : CbOk X r (gAll fn) := fun μ h H0 H x u Q z hr th ru hz k => by
  unfold gAll at hz
  split at hz
  · rename_i ds e1
    obtain ⟨a, xs, rfl, h4, h5⟩ := seqL_ok hr ru e1
    cases q : bls ds with
    | none => rw [q] at hz; cases hz
    | some bs =>
      rw [q] at hz
      cases hz
      obtain rfl := bls_ok h4 q
      exact hr' a bs H Q h5 (k _ _ (Same.refl _) (.v (.bl _)))
  · cases hz
theorem je_all (hcm : X.calm = true) (hm : X.mg "all" = none) (ha : JE X W E Γ e fa) (hg : Gl X "all" := by rfl)
    (he : starEach (e :: []) X.env = (false, eval e X.env) :: starEach [] X.env := by exact star1 rfl) (hpl : (backTo pos (starEach [] X.env)).any (·.1) = false := by rfl) : JE X W E Γ (.Call (.Name "all" p0) [e] [] pos) (bnd fa fun x => oU (gAll fun bs => bs.all id) x) :=
  je_b1 (id := "all") (cr_all hcm) (all_ok' fun a bs H Q s q => ⟨a, bs, rfl, s, q⟩) hm (by decide +kernel) ha hg (by decide) (by decide) he hpl
theorem je_any (hcm : X.calm = true) (hm : X.mg "any" = none) (ha : JE X W E Γ e fa) (hg : Gl X "any" := by rfl)
    (he : starEach (e :: []) X.env = (false, eval e X.env) :: starEach [] X.env := by exact star1 rfl) (hpl : (backTo pos (starEach [] X.env)).any (·.1) = false := by rfl) : JE X W E Γ (.Call (.Name "any" p0) [e] [] pos) (bnd fa fun x => oU (gAll fun bs => bs.any id) x) :=
  je_b1 (id := "any") (cr_any hcm) (all_ok' fun a bs H Q s q => ⟨a, bs, rfl, s, q⟩) hm (by decide +kernel) ha hg (by decide) (by decide) he hpl
def gSum (x : RV) (h : FH) : Option RV := match x.seq h with
  | some (false, ds) => (itsF ds).map fun bs => .v (.int bs.sum)
  | _ => none
theorem je_sum (hcm : X.calm = true) (hm : X.mg "sum" = none) (ha : JE X W E Γ e fa) (hg : Gl X "sum" := by rfl)
    (he : starEach (e :: []) X.env = (false, eval e X.env) :: starEach [] X.env := by exact star1 rfl) (hpl : (backTo pos (starEach [] X.env)).any (·.1) = false := by rfl) : JE X W E Γ (.Call (.Name "sum" p0) [e] [] pos) (bnd fa fun x => oU gSum x) :=
  je_b1 (id := "sum") (cr_sum hcm) (fun μ h H0 H x u Q z hr th ru hz k => by
    unfold gSum at hz
    split at hz
    · rename_i ds e1
      obtain ⟨a, xs, rfl, h4, h5⟩ := seqL_ok hr ru e1
      cases q : itsF ds with
      | none => rw [q] at hz; cases hz
      | some bs =>
        rw [q] at hz
        cases hz
        obtain rfl := itsF_ok h4 q
        exact ⟨a, bs, rfl, h5, k _ _ (Same.refl _) (.v (.int _))⟩
    · cases hz) hm (by decide +kernel) ha hg (by decide) (by decide) he hpl
/-! ### dict(d), {k: v, ..} -/
def gDict (x : RV) (h : FH) : Option RV := match x.dict h with
  | some kvs => some (.d kvs)
  | none => none
theorem je_dict (hm : X.mg "dict" = none) (ha : JE X W E Γ e fa) (hg : Gl X "dict" := by rfl)
    (he : starEach (e :: []) X.env = (false, eval e X.env) :: starEach [] X.env := by exact star1 rfl) (hpl : (backTo pos (starEach [] X.env)).any (·.1) = false := by rfl) : JE X W E Γ (.Call (.Name "dict" p0) [e] [] pos) (bnd fa fun x => oU gDict x) :=
  je_t1 call_dictD (fun μ h H0 H x u Q z hr th ru hz k => by
    unfold gDict at hz
    split at hz
    · rename_i kvs e1
      cases hz
      obtain ⟨q, ws, rfl, h4, h5⟩ := dict_ok hr ru e1
      exact ⟨q, ws, rfl, h4, fun l hl => k _ _ (same_new hl) (rr_dct hr th hl h5)⟩
    · cases hz) hm (by decide +kernel) ha hg (by decide) (by decide) he hpl

def keyOf {β : Type} (d : FV) (k : Key → M β) : M β := match d.key with
  | some kk => k kk
  | none => fail
def JPs (X : Cx) (W : WX) (E : Ent) (Γ : Sl) (pos : Pos) (keys : List (Option Expr)) (values : List Expr) (c : (List (Key × FV) → M RV) → M RV) : Prop := ∃ trs, PPs X pos keys values trs ∧ ∀ (k : List (Key × FV) → M RV) μ0 n0 H0 μ h σ H (R : RV → FH → (Nat → Addr) → Hp → Prop) (Q : List (V × V) → Hp → Prop), SR (bs X) E μ Γ h σ H → Step μ0 n0 H0 μ h.length H →
  Po (bs X) μ0 n0 H0 R (fun c d H' => W c d σ H') (c k h) → (∀ kvs h' μ' H' ws, Step μ h.length H μ' h'.length H' → HR (bs X) μ' h' H' → KvR (bs X) H' μ' h'.length kvs ws → Po (bs X) μ0 n0 H0 R (fun c d H' => W c d σ H') (k kvs h') → Q (ws.map fun kv => (L2.kV kv.1, kv.2)) H') → tPairs trs σ H Q
theorem jps_nil : JPs X W E Γ pos [] [] (fun k => k []) := ⟨_, pps_nil, fun k μ0 n0 H0 μ h σ H R Q s _ p q => q [] h μ H [] (Step.refl _ _ _) s.hr .nil p⟩
theorem key_ok' {B : Bs} {H : Hp} {μ : Nat → Addr} {n : Nat} {d : FV} {u : V} {k : Key} (q : VR B H μ n d u) (e : d.key = some k) : u = L2.kV k := by
  cases q with
  | int i => cases e; rfl
  | str x => cases e; rfl
  | _ => cases e
theorem jps_cons {keys : List (Option Expr)} {values : List Expr} {f : (List (Key × FV) → M RV) → M RV} (ha : JE X W E Γ a fa) (hb : JE X W E Γ b fb) (h : JPs X W E Γ pos keys values f) : JPs X W E Γ pos (some a :: keys) (b :: values) (fun k => bnd (mV fa) fun x => bnd (mV fb) fun y => keyOf x fun kk => f fun r => k ((kk, y) :: r)) := by
  obtain ⟨trs, pp, q⟩ := h
  refine ⟨_, pps_cons pe_w pe_w pp, fun k μ0 n0 H0 μ h σ H R Q s s0 p qk => ?_⟩
  refine ha.val s (Po.mono (Po.bindAt p s0) fun d h1 μ1 H1 _ s1 hr1 p1 u v1 => hb.val (s.step s1 hr1) (Po.mono (Po.bindAt p1 (s0.trans s1)) fun d' h2 μ2 H2 _ s2 hr2 p2 v v2 => ?_))
  unfold keyOf at p2
  cases z : d.key with
  | none => rw [z] at p2; exact p2.elim
  | some kk =>
    rw [z] at p2
    have eu := key_ok' v1 z
    subst eu
    refine q (fun r => k ((kk, d') :: r)) μ0 n0 H0 μ2 h2 σ H2 R _ ((s.step s1 hr1).step s2 hr2) ((s0.trans s1).trans s2) p2 fun kvs h5 μ5 H5 ws s5 hr5 rws p5 => ?_
    exact qk ((kk, d') :: kvs) h5 μ5 H5 ((kk, v) :: ws) ((s1.trans s2).trans s5) hr5 (.cons ⟨rfl, s5.vr v2⟩ rws) p5
def mergeF (kvs more : List (Key × FV)) : List (Key × FV) := more.foldl (fun acc kv => putF acc kv.1 kv.2) kvs
theorem KvR.merge {B : Bs} {H : Hp} {μ : Nat → Addr} {n : Nat} {more : List (Key × FV)} {ws : List (Key × V)} (h : KvR B H μ n more ws) : ∀ {kvs : List (Key × FV)} {us : List (Key × V)}, KvR B H μ n kvs us → KvR B H μ n (mergeF kvs more) (mergeK us ws) := by
  unfold KvR at h
  induction h with
  | nil => exact fun q => q
  | @cons p q ps qs h t ih =>
    intro kvs us r
    have e : KvR B H μ n (putF kvs p.1 p.2) (putK us q.1 q.2) := by
      rw [← h.1]
      exact KvR.put h.2 r
    exact ih e
def oDis (kvs : List (Key × FV)) : M RV := if kvs.length ≤ 15 then pur (.d (mergeF [] kvs)) else fail
theorem je_dis {keys : List (Option Expr)} {values : List Expr} {f : (List (Key × FV) → M RV) → M RV} (h : JPs X W E Γ pos keys values f) (hall : keys.all (·.isSome) = true := by rfl) (hl : keys.length = values.length := by rfl) (h0 : keys ≠ [] := by exact fun z => nomatch z)
    (h15 : keys.length ≤ 15 := by decide) : JE X W E Γ (.Dict keys values pos) (f oDis) := fun μ h0' σ H Q s p => by
  obtain ⟨trs, pp, q⟩ := h
  refine wE.of (pe_disp pp hall hl h0 h15) (fun dp hp => ?_)
  have sn : Same H (upd H dp (.dK [])) := same_new hp
  have nd : ∀ i, i < h0'.length → μ i ≠ dp := fun i hi z => s.hr.cls hi (by rw [z]; exact hp)
  have s0 : Step μ h0'.length H μ h0'.length (upd H dp (.dK [])) := Step.same sn
  refine q oDis μ h0'.length H μ h0' σ _ _ _ (s.step s0 (s.hr.same sn)) s0 p fun kvs h1 μ1 H1 ws s1 hr1 rws p1 => ?_
  obtain ⟨e1, nd1⟩ := Fre.keep s1 upd_same nd
  have t1 := s0.trans s1
  unfold oDis at p1
  split at p1
  · rename_i hl15
    have mu : Mut (H1 dp) := by rw [e1]; trivial
    refine ⟨e1, ws, rfl, by rw [rws.len]; exact hl15, ?_⟩
    have p2 : Po (bs X) μ h0'.length H _ _ (Rs.ok (RV.d (mergeF [] kvs)) h1) := p1
    refine p2 μ1 _ (t1.own hp mu) (hr1.own mu nd1) _ (.d ⟨hp, nd1⟩ upd_same ?_)
    exact (KvR.merge rws .nil).mono (gw_mut mu) (fun _ _ => rfl) (Nat.le_refl _)
  · exact p1.elim
/-! ### the module's tuples of texts, dicts of texts -/
def tupOf (o : Obj) (xs : List Str) : Bool := (o.cls == .type "tuple") && match o.data with
  | .seq its _ => decide (its.size ≤ 100) && (its.toList.length == xs.length) && (its.toList.zip xs).all fun p => Value.isStrOf p.2 p.1
  | _ => false
theorem gc_tup {K : PySem.W.Frag} {mg : Str → Option Value} {x : Str} {a : Addr} {o : Obj} {xs : List Str} (hm : mg x = some (.ref a)) (hl : K.lookup a = some o) (ht : tupOf o xs = true) : GC K mg x (.tup (xs.map .str)) := by
  obtain ⟨cls, dd, data, sl⟩ := o
  unfold tupOf at ht
  rw [Bool.and_eq_true] at ht
  obtain ⟨hc, hd⟩ := ht
  have hc' : cls = .type "tuple" := by simpa using hc
  cases data with
  | seq its n =>
    simp only [Bool.and_eq_true] at hd
    obtain ⟨⟨h1, h2⟩, h3⟩ := hd
    have h1' : its.size ≤ 100 := by simpa using h1
    have key : ∀ (us : List Value) (xs : List Str), us.length = xs.length → ((us.zip xs).all fun p => Value.isStrOf p.2 p.1) = true → Vals (xs.map V.str) us := by
      intro us
      induction us with
      | nil => intro xs e _; cases xs with
        | nil => exact .nil
        | cons _ _ => cases e
      | cons u us ih =>
        intro xs e f
        cases xs with
        | nil => cases e
        | cons x xs =>
          rw [List.zip_cons_cons, List.all_cons, Bool.and_eq_true] at f
          obtain ⟨t, e1⟩ := Value.isStrOf_shape (x := x) (v := u) f.1
          exact .cons ⟨t, e1⟩ (ih xs (Nat.succ.inj e) f.2)
    have vs := key its.toList xs (by simpa using h2) h3
    refine ⟨.ref a, .ref a, hm, rfl, fun B H μ n' hB => .tup (xs := xs.map V.str) (.inr ⟨_, its, n, by rw [hB]; exact hl, hc', rfl, Nat.le_trans h1' (by decide), vs⟩) ?_⟩
    clear key vs h1 h2 h3 h1' hl hm
    induction xs with
    | nil => exact .nil
    | cons x xs ih => exact .cons (.str x) ih
  | _ => cases hd

/-! ### the module's dicts of texts -/
structure GD (K : PySem.W.Frag) (w : World) (mg : Str → Option Value) (x : Str) (kvs : List (Str × Str)) : Prop where
  ex : ∃ a, mg x = some (.ref a) ∧ ∀ z y, kvs.lookup z = some y → KDct K w a z (.str y)
def gKd (kvs : List (Str × Str)) (y : RV) (_ : FH) : Option RV := match y with
  | .v (.str z) => (kvs.lookup z).map fun x => .v (.str x)
  | _ => none
theorem je_kd {x : Str} {kvs : List (Str × Str)} (g : GD X.K X.w X.mg x kvs) (hb : JE X W E Γ b fb) (hg : Gl X x := by rfl) (hd : (x == ("__debug__" : Str)) = false := by decide) (hs : PlainIx b := by exact fun _ _ => rfl) : JE X W E Γ (.Subscript (.Name x p0) b pos) (bnd fb fun y => oU (gKd kvs) y) := fun μ h σ H Q s p => by
  obtain ⟨a, hm, hk⟩ := g.ex
  refine wE.of (pe_ix ix_kdict (pe_glob (v := .ref a) hg hm rfl hd) pe_w hs) (hb μ h σ H _ s (Po.mono (Po.bind p) fun y h1 μ1 H1 _ s1 hr1 p1 u ru => ?_))
  obtain ⟨z, hz, p2⟩ := p1.lift
  unfold gKd at hz
  split at hz
  · rename_i q _
    cases e : kvs.lookup q with
    | none => rw [e] at hz; cases hz
    | some r =>
      rw [e] at hz
      cases hz
      exact ⟨a, q, .str r, rfl, rr_str ru, hk q r e, p2.last hr1 (Same.refl _) _ (.v (.str r))⟩
  · cases hz
theorem gd_mk {K : PySem.W.Frag} {w : World} {mg : Str → Option Value} {x : Str} {a : Addr} {es : Array DictEntry} {n : Nat} {kvs : List (Str × Str)} (hm : mg x = some (.ref a)) (hl : K.lookup a = some ⟨.type "dict", none, .dict es n, #[]⟩) (hk : PySem.W.KeysLit w.params es.toList)
    (hv : ∀ p, p ∈ kvs → ∃ u, PySem.W.nsIn K a p.1 = some (some u) ∧ RelV (.str p.2) u) : GD K w mg x kvs := ⟨a, hm, fun z y e => by
  have : (z, y) ∈ kvs := by
    clear hv
    induction kvs with
    | nil => cases e
    | cons p kvs ih =>
      obtain ⟨p1, p2⟩ := p
      rw [List.lookup_cons] at e
      split at e
      · rename_i h
        have h' : z = p1 := by simpa using h
        cases e
        rw [h']; exact List.mem_cons_self
      · exact List.mem_cons_of_mem _ (ih e)
  obtain ⟨u, h1, h2⟩ := hv _ this
  exact ⟨es, n, u, hl, hk, h1, h2⟩⟩
/-! ### a.join(xs) -/
def txts : List FV → Option (List Str)
  | [] => some []
  | .str x :: r => (txts r).map (x :: ·)
  | _ => none
theorem txts_ok {B : Bs} {H : Hp} {μ : Nat → Addr} {n : Nat} : ∀ {ds : List FV} {xs : List V} {ys : List Str}, VRs B H μ n ds xs → txts ds = some ys → xs = ys.map V.str
  | [], _, _, r, e => by cases r; cases e; rfl
  | .str x :: ds, _, ys, r, e => by
    cases r with
    | cons a b =>
      cases a
      rw [txts] at e
      cases q : txts ds with
      | none => rw [q] at e; cases e
      | some zs => rw [q] at e; cases e; rw [txts_ok b q]; rfl
  | .non :: ds, _, _, r, e => by simp [txts] at e
  | .bl _ :: ds, _, _, r, e => by simp [txts] at e
  | .int _ :: ds, _, _, r, e => by simp [txts] at e
  | .tup _ :: ds, _, _, r, e => by simp [txts] at e
  | .ref _ :: ds, _, _, r, e => by simp [txts] at e
  | .fl _ :: ds, _, _, r, e => by simp [txts] at e
  | .sl _ :: ds, _, _, r, e => by simp [txts] at e
  | .fd _ _ :: ds, _, _, r, e => by simp [txts] at e
  | .ft _ _ :: ds, _, _, r, e => by simp [txts] at e
  | .fo _ _ _ :: ds, _, _, r, e => by simp [txts] at e
def gJoin (x : RV) (y : RV) (h : FH) : Option RV := match x, y.seq h with
  | .v (.str a), some (_, ds) => match txts ds with
    | some ys => if (ys.map (·.length)).sum + ys.length * a.length ≤ LIM then some (.v (.str (Txt.join a ys))) else none
    | none => none
  | _, _ => none
def oStr (x : RV) : M Unit := match x with | .v (.str _) => pur () | _ => fail
theorem je_join (ho : JE X W E Γ o fo) (he : JE X W E Γ e fe) (h1 : starEach [e] X.env = [(false, eval e X.env)] := by rfl) (h2 : attributeBase o "join" X.env (eval o X.env) = eval o X.env := by rfl) (h3 : (apos.endLine == pos.line) = true := by rfl) :
    JE X W E Γ (.Call (.Attribute o "join" apos) [e] [] pos) (bnd fo fun x => bnd (oStr x) fun _ => bnd fe fun y => oB gJoin x y) := fun μ h σ H Q s p =>
  wE.of (pe_join pe_w pe_w h1 h2 h3) (ho μ h σ H _ s (Po.mono (Po.bind p) fun x h1 μ1 H1 eq1 s1 hr1 p1 u ru => by
    cases x with
    | v d =>
      cases d with
      | str a =>
        obtain rfl := rr_str ru
        have p1' : Po (bs X) μ1 h1.length H1 _ _ ((bnd fe fun y => oB gJoin (.v (.str a)) y) h1) := p1
        refine ⟨⟨a, rfl⟩, he μ1 h1 σ H1 _ (s.step s1 hr1) (Po.mono (Po.bind p1') fun y h2 μ2 H2 _ s2 hr2 p2 v rv => ?_)⟩
        obtain ⟨z, hz, p3⟩ := p2.lift
        unfold gJoin at hz
        split at hz
        · rename_i a' bb ds q1 q2
          cases q1
          split at hz
          · rename_i ys q3
            split at hz
            · rename_i hl
              cases hz
              obtain ⟨a', xs, rfl, h4, h5⟩ := seqE_ok hr2 rv q2
              obtain rfl := txts_ok h4 q3
              exact ⟨a, a', ys, rfl, rfl, h5, Nat.le_trans hl (by decide), p3.last hr2 (Same.refl _) _ (.v (.str _))⟩
            · cases hz
          · cases hz
        · cases hz
      | _ => exact p1.elim
    | _ => exact p1.elim))
/-! ### d.get(k, e) -/
def isDk (x : RV) (h : FH) : Bool := (x.dict h).isSome
def oDk (x : RV) : M Unit := fun h => if isDk x h = true then .ok () h else .no
def gGet (x : RV) (y z : FV) (h : FH) : Option FV := match x.dict h, y.key with
  | some kvs, some k => some ((lookK kvs k).getD z)
  | _, _ => none
def oGet (x : RV) (y z : FV) : M RV := lift fun h => (gGet x y z h).map .v
theorem rd_isD {H : Hp} {a : Addr} {ws : List (Key × V)} (h : Rd H a (.dK ws)) : IsD H a := .inl ⟨ws, h⟩
/-- what stands behind a result stays readable -/
theorem RR.dict_step {B : Bs} {H0 H1 H2 : Hp} {μ1 μ2 : Nat → Addr} {h1 h2 : FH} {x : RV} {u : V} {kvs : List (Key × FV)} (hr2 : HR B μ2 h2 H2) (r : RR B H0 μ1 h1.length H1 x u) (s : Step μ1 h1.length H1 μ2 h2.length H2) (e : x.dict h2 = some kvs) : ∃ a ws, u = .ref a ∧ Rd H2 a (.dK ws) ∧ KvR B H2 μ2 h2.length kvs ws := dict_ok hr2 (r.step s) e
theorem je_get (hr : Room k X.A) (ho : JE X W E Γ o fo) (he : JE X W E Γ e fe) (hf : JE X W E Γ f ff) (m : M2 X o "get" apos e f pos := by exact ⟨rfl, rfl, rfl, rfl⟩) : JE X W E Γ (.Call (.Attribute o "get" apos) [e, f] [] pos) (bnd fo fun x => bnd (oDk x) fun _ => bnd (mV fe) fun y => bnd (mV ff) fun z => oGet x y z) := fun μ h σ H Q s p =>
  wE.of (pe_dget2 (hu_of hr) pe_w pe_w pe_w m) (ho μ h σ H _ s (Po.mono (Po.bind p) fun x h1 μ1 H1 eq1 s1 hr1 p1 u ru => by
    unfold P.bnd oDk at p1
    by_cases ht : isDk x h1 = true
    · rw [if_pos ht] at p1
      cases z0 : x.dict h1 with
      | none => unfold isDk at ht; rw [z0] at ht; cases ht
      | some kvs =>
        obtain ⟨a, ws, rfl, e1, e2⟩ := dict_ok hr1 ru z0
        have p1' : Po (bs X) μ1 h1.length H1 _ _ ((bnd (mV fe) fun y => bnd (mV ff) fun z => oGet x y z) h1) := p1
        refine ⟨a, rfl, rd_isD e1, he.val (s.step s1 hr1) (Po.mono (Po.bind p1') fun y h2 μ2 H2 _ s2 hr2 p2 v v2 => hf.val ((s.step s1 hr1).step s2 hr2) (Po.mono (Po.bind p2) fun z h3 μ3 H3 _ s3 hr3 p3 w v3 => ?_))⟩
        obtain ⟨r, hz, p6⟩ := p3.lift
        cases g : gGet x y z h3 with
        | none => rw [g] at hz; cases hz
        | some fr =>
          rw [g] at hz
          cases hz
          unfold gGet at g
          split at g
          · rename_i kvs' kk g1 g2
            cases g
            obtain ⟨a', ws', ea, a1, a2⟩ := RR.dict_step hr3 ru (s2.trans s3) g1
            cases ea
            have ky : v = kV kk := key_ok' v2 g2
            subst ky
            refine ⟨_, .inl ⟨ws', kk, a1, rfl, rfl⟩, p6.last hr3 (Same.refl _) _ (.v ?_)⟩
            have lk := a2.look kk
            cases q' : lookK kvs' kk with
            | some dd =>
              rw [q'] at lk
              obtain ⟨vv, b1, b2⟩ := lk
              rw [b1]; exact b2
            | none =>
              rw [q'] at lk
              rw [lk]; exact v3
          · cases g
    · rw [if_neg ht] at p1; exact p1.elim))
/-! ### x += e -/
def oAug (fn : Int → Int → Int) (x y : FV) : M FV := match x, y with
  | .int a, .int b => pur (.int (fn a b))
  | _, _ => fail
theorem jb_aug (j : Nat) {op : Operator} {fn : Int → Int → Int} {x : Str} {v : FV} {Γ' : FV → Sl} {kk : FV → M (Fl α β)} (w : SubX Γx Γ) (hN : X.N.Nodup) (ho : PIp X op (ipI fn)) (he : JE X W E Γ e fe) (hk : ∀ d, JB X W E Γx eα eβ (Γ' d) rest (kk d)) (q : sg Γ j = some (.v v) := by rfl) (hΓ : ∀ d, Γ.set j (some (.v d)) = Γ' d := by intro _; rfl) (hi : X.N[j]? = some x := by rfl) (hx : Loc X.env.scope x := by first | exact Or.inl rfl | exact Or.inr rfl)
    (hf : X.fn x = true ∨ X.env.scope.names.lookup x = some .local := by first | exact .inl rfl | exact .inr rfl | assumption) : JB X W E Γx eα eβ Γ (.AugAssign (.Name x px) op e pos :: rest) (bnd (mV fe) fun y => bnd (oAug fn v y) kk) := fun μ h σ H D s p => by
  obtain ⟨u0, e1, e2⟩ := s.sl j _ (sg_get q)
  refine wcons (wS.of (ps_aug hN hi hx pe_w ho hf) ⟨_, e1, PoN.val he s w p fun d h2 μ2 H2 u sw s2 v2 p2 => ?_⟩)
  unfold oAug at p2
  split at p2
  · rename_i a b
    cases e2 with
    | v e2 =>
      cases e2
      cases v2
      have s3 := s2.putV (i := j) (VR.int (fn a b))
      rw [hΓ] at s3
      exact ⟨a, b, rfl, rfl, hk _ μ2 h2 _ H2 D s3 p2⟩
  · exact p2.elim
/-! ### default values -/
/-- a def called without its last arguments, whose values are ds -/
structure HasD (P : Program) (w : World) (K : PySem.W.Frag) (mg : Str → Option Value) (base : Heap) (n : Nat) (x : Str) (ps : List Str) (ds : List FV) (f : FDef) : Prop where
  ex : ∃ a fd dvs us, FnOk P w K mg base (L2.CX P w) n a fd ps (spP ⟨K, mg⟩ f) ∧ mg x = some (.ref a) ∧ PySem.W.keepIn K (.ref a) = true ∧ Binds K fd ps us ∧ Vals dvs us ∧ ∀ B H μ n, B.K = K → VRs B H μ n ds dvs
theorem je_callD {x : Str} {ps : List Str} {ds : List FV} {f : FDef} {c : (List FV → M RV) → M RV} {n : Nat} (te : TkE X W) (h : HasD X.prog X.w X.K X.mg X.base n x ps ds f) (hr : Room k X.A) (hk : n ≤ k) (ha : JA X W E Γ (e :: es) c)
    (hg : Gl X x := by rfl) (hdb : (x == ("__debug__" : Str)) = false := by decide) (he : starEach (e :: es) X.env = (false, eval e X.env) :: starEach es X.env := by exact star1 rfl) (hpl : (backTo pos (starEach es X.env)).any (·.1) = false := by rfl) :
    JE X W E Γ (.Call (.Name x p0) (e :: es) [] pos) (c fun vs => f (vs ++ ds)) := fun μ h0 σ H Q s p => by
  obtain ⟨E, hE, hP⟩ := te
  obtain ⟨fa, fd, dvs, us', F, hm, hk', hb, hv, hc⟩ := h.ex
  refine wE.of (pe_call F (hr.mono hk) hg hm hk' hb hv hP pa_w hdb he hpl) (wA.mono (ha (fun vs => f (vs ++ ds)) μ h0 σ H _ _ s (fun _ _ _ z => z) p) fun us H1 ⟨vs, μ1, h1, s1, hr1, rus, p1⟩ => ?_)
  exact ⟨μ1, h1, vs ++ ds, hr1, rus.append (hc (bs X) H1 μ1 h1.length rfl), (Po.since p1 s1.th).monoE fun c d H' w => hE c d σ H' w⟩
theorem jb_no {st : List Stmt} : JB X W E Γx eα eβ Γ st fail := fun _ _ _ _ _ _ p => p.elim
theorem je_no : JE X W E Γ e fail := fun _ _ _ _ _ _ p => p.elim
end
end P

/-! P: defs, the end of a law. -/
namespace P
open PySem PySem.Spec PyProof.Rows L2 G
/-! ### defs -/
theorem Sub.rep : ∀ {Γ : Sl} {n : Nat}, Γ.length = n → Sub (List.replicate n none) Γ
  | [], _, e => by cases e; exact .nil
  | x :: Γ, _, e => by cases e; exact .drop (Sub.rep rfl)
abbrev eU (n : Nat) : Unit → Sl := fun _ => List.replicate n none
abbrev eN : Empty → Sl := fun _ => []
/-- a def by its body -/
def toF (m : M (Fl Unit Empty)) : M RV := bnd m fun f => match f with
  | .nx _ => pur (.v .non)
  | .rt r => pur r
  | .bk b => nomatch b
  | .ct b => nomatch b
def gam (ds : List FV) (nL : Nat) : Sl := ds.map (fun d => some (.v d)) ++ List.replicate nL none
theorem SR.start {B : Bs} {H : Hp} {μ : Nat → Addr} {h : FH} {ds : List FV} {vs : List V} {N : List Str} {nL : Nat} (hr : HR B μ h H) (r : VRs B H μ h.length ds vs) (hN : N.length - vs.length = nL) : SR B ⟨μ, h.length, H⟩ μ (gam ds nL) h (L2.start N vs) H := by
  have key : ∀ {ds : List FV} {vs : List V}, VRs B H μ h.length ds vs → ∀ (i : Nat) (r : RV), (gam ds nL)[i]? = some (some r) → ∃ v, r = .v v ∧ ∃ u, (vs.map some ++ List.replicate nL none)[i]? = some (some u) ∧ VR B H μ h.length v u := by
    intro ds
    induction ds with
    | nil =>
      intro vs r i v e
      cases r
      unfold gam at e
      rw [List.map_nil, List.nil_append, List.getElem?_replicate] at e
      split at e <;> cases e
    | cons d ds ih =>
      intro vs r i v e
      cases r with
      | cons a b =>
        cases i with
        | zero =>
          have e' : RV.v d = v := Option.some.inj (Option.some.inj e)
          subst e'
          exact ⟨d, rfl, _, rfl, a⟩
        | succ i => exact ih b i v e
  refine ⟨Step.refl _ _ _, hr, ?_, fun i r' e => ?_, fun i j r1 r2 p e1 e2 o1 => ?_⟩
  · unfold L2.start gam
    have := r.len
    simp only [List.length_append, List.length_map, List.length_replicate]
    omega
  · obtain ⟨v, rfl, u, h1, h2⟩ := key r i r' e
    unfold L2.start
    rw [hN]
    exact ⟨u, h1, .v h2⟩
  · obtain ⟨v, rfl, _⟩ := key r i r1 e1
    cases o1
section
variable {P : Program} {w : World} {K : PySem.W.Frag} {mg : Str → Option Value} {base : Heap} {x qual : Str} {st : Stmt} {a : Addr} {fd : FuncData} {N ps : List Str} {k n : Nat} {f : FDef} {b : List FV → M (Fl Unit Empty)} {params : Arguments} {body : List Stmt} {scope : Scope} {dvs : List V} {kws : List (Str × V)}
abbrev CxP (P : Program) (w : World) (K : PySem.W.Frag) (mg : Str → Option Value) (base : Heap) (N : List Str) (qual : Str) (scope : Scope) (f : Addr) (cdv : Value) (A : Around) (outer : List Env) (s : Shared) (H : Hp) (E : XK) : Cx :=
  cxOf (L2.CX P w) P w K mg base N qual scope f cdv A outer s H E
/-- f on ds is the body's block, or nothing is said -/
def ArgOk (f : FDef) (b : List FV → M (Fl Unit Empty)) (nP : Nat) (φ : List FV → Prop) : Prop := ∀ ds, f ds = fail ∨ (ds.length = nP ∧ f ds = toF (b ds) ∧ φ ds)
theorem spP_len {nP : Nat} {φ : List FV → Prop} (ao : ArgOk f b nP φ) {vs : List V} {H : Hp} {Q : VK} {E : XK} (q : spP ⟨K, mg⟩ f vs H Q E) : vs.length = nP := by
  obtain ⟨μ, h, ds, hr, r, p⟩ := q
  rcases ao ds with z | ⟨z, _, _⟩
  · rw [z] at p; exact p.elim
  · rw [r.len, z]
theorem fn_run {X : Cx} {nP nL : Nat} {W : WX} {outW : XK} (hK : X.K = K) (hmg : X.mg = mg) (hW : W = fun cls d _ H => outW cls d H) {sts : List Stmt} {vs : List V} {H : Hp} {Q : VK} {E : XK} (hE : outW = E) (ao : ArgOk f b nP fun ds => ∀ E : Ent, JB X W E none (eU (nP + nL)) eN (gam ds nL) sts (b ds)) (hN : X.N.length - nP = nL)
    (q : spP ⟨K, mg⟩ f vs H Q E) : wSs X sts { nx := fun _ H' => Q .non H', rt := Q, bk := fun _ _ => False, ct := fun _ _ => False } (L2.start X.N vs) H := by
  have hl := spP_len ao q
  subst hK hmg hW hE
  obtain ⟨μ, h, ds, hh, r, p⟩ := q
  rcases ao ds with z | ⟨hd, z, jb⟩
  · rw [z] at p; exact p.elim
  · rw [z] at p
    refine jb ⟨μ, h.length, H⟩ μ h _ H _ (SR.start hh r (by rw [hl]; exact hN)) ?_
    unfold toF P.bnd at p
    cases y : b ds h with
    | no => rw [y] at p; exact p
    | ex e h' =>
      rw [y] at p
      exact fun μ' σ' H' c d _ s' x' => p μ' H' c d s'.1 s'.2 x'
    | ok fl h' =>
      rw [y] at p
      cases fl with
      | nx u => exact fun μ' σ' H' _ s' => p μ' H' s'.st s'.hr .non (.v .non)
      | rt rv => exact fun μ' H' u _ s' hr' ru => p μ' H' s' hr' u ru
      | bk e => cases e
      | ct e => cases e
def f0 (g : M RV) : FDef := fun vs => match vs with | [] => g  | _ => fail
def b0 (g : M (Fl Unit Empty)) : List FV → M (Fl Unit Empty) := fun vs => match vs with | [] => g  | _ => fail
theorem arg0 {g : M (Fl Unit Empty)} {φ : List FV → Prop} (h : φ []) : ArgOk (f0 (toF g)) (b0 g) 0 φ := fun ds => by
  cases ds with
  | nil => exact .inr ⟨rfl, rfl, h⟩
  | cons _ _ => exact .inl rfl
def f1 (g : FV → M RV) : FDef := fun vs => match vs with | [a0] => g a0 | _ => fail
def b1 (g : FV → M (Fl Unit Empty)) : List FV → M (Fl Unit Empty) := fun vs => match vs with | [a0] => g a0 | _ => fail
theorem arg1 {g : FV → M (Fl Unit Empty)} {φ : List FV → Prop} (h : ∀ a0, φ [a0]) : ArgOk (f1 (fun a0 => toF (g a0))) (b1 g) 1 φ := fun ds => by
  cases ds with
  | nil => exact .inl rfl
  | cons a0 ds0 =>
    cases ds0 with
    | nil => exact .inr ⟨rfl, rfl, h a0⟩
    | cons _ _ => exact .inl rfl
def f2 (g : FV → FV → M RV) : FDef := fun vs => match vs with | [a0, a1] => g a0 a1 | _ => fail
def b2 (g : FV → FV → M (Fl Unit Empty)) : List FV → M (Fl Unit Empty) := fun vs => match vs with | [a0, a1] => g a0 a1 | _ => fail
theorem arg2 {g : FV → FV → M (Fl Unit Empty)} {φ : List FV → Prop} (h : ∀ a0 a1, φ [a0, a1]) : ArgOk (f2 (fun a0 a1 => toF (g a0 a1))) (b2 g) 2 φ := fun ds => by
  cases ds with
  | nil => exact .inl rfl
  | cons a0 ds0 =>
    cases ds0 with
    | nil => exact .inl rfl
    | cons a1 ds1 =>
      cases ds1 with
      | nil => exact .inr ⟨rfl, rfl, h a0 a1⟩
      | cons _ _ => exact .inl rfl
def f3 (g : FV → FV → FV → M RV) : FDef := fun vs => match vs with | [a0, a1, a2] => g a0 a1 a2 | _ => fail
def b3 (g : FV → FV → FV → M (Fl Unit Empty)) : List FV → M (Fl Unit Empty) := fun vs => match vs with | [a0, a1, a2] => g a0 a1 a2 | _ => fail
theorem arg3 {g : FV → FV → FV → M (Fl Unit Empty)} {φ : List FV → Prop} (h : ∀ a0 a1 a2, φ [a0, a1, a2]) : ArgOk (f3 (fun a0 a1 a2 => toF (g a0 a1 a2))) (b3 g) 3 φ := fun ds => by
  cases ds with
  | nil => exact .inl rfl
  | cons a0 ds0 =>
    cases ds0 with
    | nil => exact .inl rfl
    | cons a1 ds1 =>
      cases ds1 with
      | nil => exact .inl rfl
      | cons a2 ds2 =>
        cases ds2 with
        | nil => exact .inr ⟨rfl, rfl, h a0 a1 a2⟩
        | cons _ _ => exact .inl rfl
def f4 (g : FV → FV → FV → FV → M RV) : FDef := fun vs => match vs with | [a0, a1, a2, a3] => g a0 a1 a2 a3 | _ => fail
def b4 (g : FV → FV → FV → FV → M (Fl Unit Empty)) : List FV → M (Fl Unit Empty) := fun vs => match vs with | [a0, a1, a2, a3] => g a0 a1 a2 a3 | _ => fail
theorem arg4 {g : FV → FV → FV → FV → M (Fl Unit Empty)} {φ : List FV → Prop} (h : ∀ a0 a1 a2 a3, φ [a0, a1, a2, a3]) : ArgOk (f4 (fun a0 a1 a2 a3 => toF (g a0 a1 a2 a3))) (b4 g) 4 φ := fun ds => by
  cases ds with
  | nil => exact .inl rfl
  | cons a0 ds0 =>
    cases ds0 with
    | nil => exact .inl rfl
    | cons a1 ds1 =>
      cases ds1 with
      | nil => exact .inl rfl
      | cons a2 ds2 =>
        cases ds2 with
        | nil => exact .inl rfl
        | cons a3 ds3 =>
          cases ds3 with
          | nil => exact .inr ⟨rfl, rfl, h a0 a1 a2 a3⟩
          | cons _ _ => exact .inl rfl
def f5 (g : FV → FV → FV → FV → FV → M RV) : FDef := fun vs => match vs with | [a0, a1, a2, a3, a4] => g a0 a1 a2 a3 a4 | _ => fail
def b5 (g : FV → FV → FV → FV → FV → M (Fl Unit Empty)) : List FV → M (Fl Unit Empty) := fun vs => match vs with | [a0, a1, a2, a3, a4] => g a0 a1 a2 a3 a4 | _ => fail
theorem arg5 {g : FV → FV → FV → FV → FV → M (Fl Unit Empty)} {φ : List FV → Prop} (h : ∀ a0 a1 a2 a3 a4, φ [a0, a1, a2, a3, a4]) : ArgOk (f5 (fun a0 a1 a2 a3 a4 => toF (g a0 a1 a2 a3 a4))) (b5 g) 5 φ := fun ds => by
  cases ds with
  | nil => exact .inl rfl
  | cons a0 ds0 =>
    cases ds0 with
    | nil => exact .inl rfl
    | cons a1 ds1 =>
      cases ds1 with
      | nil => exact .inl rfl
      | cons a2 ds2 =>
        cases ds2 with
        | nil => exact .inl rfl
        | cons a3 ds3 =>
          cases ds3 with
          | nil => exact .inl rfl
          | cons a4 ds4 =>
            cases ds4 with
            | nil => exact .inr ⟨rfl, rfl, h a0 a1 a2 a3 a4⟩
            | cons _ _ => exact .inl rfl
def f6 (g : FV → FV → FV → FV → FV → FV → M RV) : FDef := fun vs => match vs with | [a0, a1, a2, a3, a4, a5] => g a0 a1 a2 a3 a4 a5 | _ => fail
def b6 (g : FV → FV → FV → FV → FV → FV → M (Fl Unit Empty)) : List FV → M (Fl Unit Empty) := fun vs => match vs with | [a0, a1, a2, a3, a4, a5] => g a0 a1 a2 a3 a4 a5 | _ => fail
theorem arg6 {g : FV → FV → FV → FV → FV → FV → M (Fl Unit Empty)} {φ : List FV → Prop} (h : ∀ a0 a1 a2 a3 a4 a5, φ [a0, a1, a2, a3, a4, a5]) : ArgOk (f6 (fun a0 a1 a2 a3 a4 a5 => toF (g a0 a1 a2 a3 a4 a5))) (b6 g) 6 φ := fun ds => by
  cases ds with
  | nil => exact .inl rfl
  | cons a0 ds0 =>
    cases ds0 with
    | nil => exact .inl rfl
    | cons a1 ds1 =>
      cases ds1 with
      | nil => exact .inl rfl
      | cons a2 ds2 =>
        cases ds2 with
        | nil => exact .inl rfl
        | cons a3 ds3 =>
          cases ds3 with
          | nil => exact .inl rfl
          | cons a4 ds4 =>
            cases ds4 with
            | nil => exact .inl rfl
            | cons a5 ds5 =>
              cases ds5 with
              | nil => exact .inr ⟨rfl, rfl, h a0 a1 a2 a3 a4 a5⟩
              | cons _ _ => exact .inl rfl
def f7 (g : FV → FV → FV → FV → FV → FV → FV → M RV) : FDef := fun vs => match vs with | [a0, a1, a2, a3, a4, a5, a6] => g a0 a1 a2 a3 a4 a5 a6 | _ => fail
def b7 (g : FV → FV → FV → FV → FV → FV → FV → M (Fl Unit Empty)) : List FV → M (Fl Unit Empty) := fun vs => match vs with | [a0, a1, a2, a3, a4, a5, a6] => g a0 a1 a2 a3 a4 a5 a6 | _ => fail
theorem arg7 {g : FV → FV → FV → FV → FV → FV → FV → M (Fl Unit Empty)} {φ : List FV → Prop} (h : ∀ a0 a1 a2 a3 a4 a5 a6, φ [a0, a1, a2, a3, a4, a5, a6]) : ArgOk (f7 (fun a0 a1 a2 a3 a4 a5 a6 => toF (g a0 a1 a2 a3 a4 a5 a6))) (b7 g) 7 φ := fun ds => by
  cases ds with
  | nil => exact .inl rfl
  | cons a0 ds0 =>
    cases ds0 with
    | nil => exact .inl rfl
    | cons a1 ds1 =>
      cases ds1 with
      | nil => exact .inl rfl
      | cons a2 ds2 =>
        cases ds2 with
        | nil => exact .inl rfl
        | cons a3 ds3 =>
          cases ds3 with
          | nil => exact .inl rfl
          | cons a4 ds4 =>
            cases ds4 with
            | nil => exact .inl rfl
            | cons a5 ds5 =>
              cases ds5 with
              | nil => exact .inl rfl
              | cons a6 ds6 =>
                cases ds6 with
                | nil => exact .inr ⟨rfl, rfl, h a0 a1 a2 a3 a4 a5 a6⟩
                | cons _ _ => exact .inl rfl
def f8 (g : FV → FV → FV → FV → FV → FV → FV → FV → M RV) : FDef := fun vs => match vs with | [a0, a1, a2, a3, a4, a5, a6, a7] => g a0 a1 a2 a3 a4 a5 a6 a7 | _ => fail
def b8 (g : FV → FV → FV → FV → FV → FV → FV → FV → M (Fl Unit Empty)) : List FV → M (Fl Unit Empty) := fun vs => match vs with | [a0, a1, a2, a3, a4, a5, a6, a7] => g a0 a1 a2 a3 a4 a5 a6 a7 | _ => fail
theorem arg8 {g : FV → FV → FV → FV → FV → FV → FV → FV → M (Fl Unit Empty)} {φ : List FV → Prop} (h : ∀ a0 a1 a2 a3 a4 a5 a6 a7, φ [a0, a1, a2, a3, a4, a5, a6, a7]) : ArgOk (f8 (fun a0 a1 a2 a3 a4 a5 a6 a7 => toF (g a0 a1 a2 a3 a4 a5 a6 a7))) (b8 g) 8 φ := fun ds => by
  cases ds with
  | nil => exact .inl rfl
  | cons a0 ds0 =>
    cases ds0 with
    | nil => exact .inl rfl
    | cons a1 ds1 =>
      cases ds1 with
      | nil => exact .inl rfl
      | cons a2 ds2 =>
        cases ds2 with
        | nil => exact .inl rfl
        | cons a3 ds3 =>
          cases ds3 with
          | nil => exact .inl rfl
          | cons a4 ds4 =>
            cases ds4 with
            | nil => exact .inl rfl
            | cons a5 ds5 =>
              cases ds5 with
              | nil => exact .inl rfl
              | cons a6 ds6 =>
                cases ds6 with
                | nil => exact .inl rfl
                | cons a7 ds7 =>
                  cases ds7 with
                  | nil => exact .inr ⟨rfl, rfl, h a0 a1 a2 a3 a4 a5 a6 a7⟩
                  | cons _ _ => exact .inl rfl
def f9 (g : FV → FV → FV → FV → FV → FV → FV → FV → FV → M RV) : FDef := fun vs => match vs with | [a0, a1, a2, a3, a4, a5, a6, a7, a8] => g a0 a1 a2 a3 a4 a5 a6 a7 a8 | _ => fail
def b9 (g : FV → FV → FV → FV → FV → FV → FV → FV → FV → M (Fl Unit Empty)) : List FV → M (Fl Unit Empty) := fun vs => match vs with | [a0, a1, a2, a3, a4, a5, a6, a7, a8] => g a0 a1 a2 a3 a4 a5 a6 a7 a8 | _ => fail
theorem arg9 {g : FV → FV → FV → FV → FV → FV → FV → FV → FV → M (Fl Unit Empty)} {φ : List FV → Prop} (h : ∀ a0 a1 a2 a3 a4 a5 a6 a7 a8, φ [a0, a1, a2, a3, a4, a5, a6, a7, a8]) : ArgOk (f9 (fun a0 a1 a2 a3 a4 a5 a6 a7 a8 => toF (g a0 a1 a2 a3 a4 a5 a6 a7 a8))) (b9 g) 9 φ := fun ds => by
  cases ds with
  | nil => exact .inl rfl
  | cons a0 ds0 =>
    cases ds0 with
    | nil => exact .inl rfl
    | cons a1 ds1 =>
      cases ds1 with
      | nil => exact .inl rfl
      | cons a2 ds2 =>
        cases ds2 with
        | nil => exact .inl rfl
        | cons a3 ds3 =>
          cases ds3 with
          | nil => exact .inl rfl
          | cons a4 ds4 =>
            cases ds4 with
            | nil => exact .inl rfl
            | cons a5 ds5 =>
              cases ds5 with
              | nil => exact .inl rfl
              | cons a6 ds6 =>
                cases ds6 with
                | nil => exact .inl rfl
                | cons a7 ds7 =>
                  cases ds7 with
                  | nil => exact .inl rfl
                  | cons a8 ds8 =>
                    cases ds8 with
                    | nil => exact .inr ⟨rfl, rfl, h a0 a1 a2 a3 a4 a5 a6 a7 a8⟩
                    | cons _ _ => exact .inl rfl
def f10 (g : FV → FV → FV → FV → FV → FV → FV → FV → FV → FV → M RV) : FDef := fun vs => match vs with | [a0, a1, a2, a3, a4, a5, a6, a7, a8, a9] => g a0 a1 a2 a3 a4 a5 a6 a7 a8 a9 | _ => fail
def b10 (g : FV → FV → FV → FV → FV → FV → FV → FV → FV → FV → M (Fl Unit Empty)) : List FV → M (Fl Unit Empty) := fun vs => match vs with | [a0, a1, a2, a3, a4, a5, a6, a7, a8, a9] => g a0 a1 a2 a3 a4 a5 a6 a7 a8 a9 | _ => fail
theorem arg10 {g : FV → FV → FV → FV → FV → FV → FV → FV → FV → FV → M (Fl Unit Empty)} {φ : List FV → Prop} (h : ∀ a0 a1 a2 a3 a4 a5 a6 a7 a8 a9, φ [a0, a1, a2, a3, a4, a5, a6, a7, a8, a9]) : ArgOk (f10 (fun a0 a1 a2 a3 a4 a5 a6 a7 a8 a9 => toF (g a0 a1 a2 a3 a4 a5 a6 a7 a8 a9))) (b10 g) 10 φ := fun ds => by
  cases ds with
  | nil => exact .inl rfl
  | cons a0 ds0 =>
    cases ds0 with
    | nil => exact .inl rfl
    | cons a1 ds1 =>
      cases ds1 with
      | nil => exact .inl rfl
      | cons a2 ds2 =>
        cases ds2 with
        | nil => exact .inl rfl
        | cons a3 ds3 =>
          cases ds3 with
          | nil => exact .inl rfl
          | cons a4 ds4 =>
            cases ds4 with
            | nil => exact .inl rfl
            | cons a5 ds5 =>
              cases ds5 with
              | nil => exact .inl rfl
              | cons a6 ds6 =>
                cases ds6 with
                | nil => exact .inl rfl
                | cons a7 ds7 =>
                  cases ds7 with
                  | nil => exact .inl rfl
                  | cons a8 ds8 =>
                    cases ds8 with
                    | nil => exact .inl rfl
                    | cons a9 ds9 =>
                      cases ds9 with
                      | nil => exact .inr ⟨rfl, rfl, h a0 a1 a2 a3 a4 a5 a6 a7 a8 a9⟩
                      | cons _ _ => exact .inl rfl
theorem mk_fnP {nP nL : Nat} (F : Fun K x qual st a fd) (S : FnScope N ps (defScope st)) (h1 : ps.length = nP) (h2 : N.length - nP = nL) (hn : ArgOk f b nP fun _ => True)
    (ao : ∀ cdv A outer s H E, Room k (A.deeper (envOfC qual (defScope st) s.heap.objs.size a cdv)) → ArgOk f b nP fun ds => ∀ E' : Ent, JB (CxP P w K mg base N qual (defScope st) a cdv A outer s H E) (fun cls d _ H => E cls d H) E' none (eU (nP + nL)) eN (gam ds nL) (defBody st) (b ds)) :
    FnOk P w K mg base (L2.CX P w) (k + 1) a fd ps (spP ⟨K, mg⟩ f) :=
  F.okX S (fun vs H Q E q => (spP_len hn q).trans h1.symm) fun cdv A outer s H vs Q E hr q => ⟨_, pss_w, fn_run rfl rfl rfl rfl (ao cdv A outer s H E hr) h2 q⟩
theorem mk_fnD {nP nL : Nat} (F : FunD K x qual params body scope dvs kws a fd) (S : FnScope N ps scope) (h1 : ps.length = nP) (h2 : N.length - nP = nL) (hn : ArgOk f b nP fun _ => True)
    (ao : ∀ cdv A outer s H E, Room k (A.deeper (envOfC qual scope s.heap.objs.size a cdv)) → ArgOk f b nP fun ds => ∀ E' : Ent, JB (CxP P w K mg base N qual scope a cdv A outer s H E) (fun cls d _ H => E cls d H) E' none (eU (nP + nL)) eN (gam ds nL) body (b ds)) :
    FnOk P w K mg base (L2.CX P w) (k + 1) a fd ps (spP ⟨K, mg⟩ f) :=
  F.ok S (fun vs H Q E q => (spP_len hn q).trans h1.symm) fun cdv A outer s H vs Q E hr q => ⟨_, pss_w, fn_run rfl rfl rfl rfl (ao cdv A outer s H E hr) h2 q⟩
theorem mk_hasF (F : Fun K x qual st a fd) (G : FnOk P w K mg base (L2.CX P w) n a fd ps (spP ⟨K, mg⟩ f)) (hm : mg x = some (.ref a)) (b : L2.Binds K fd ps []) : HasF P w K mg base n x ps f := ⟨a, fd, G, hm, F.kp, b⟩
theorem HasF.mono (h : HasF P w K mg base k x ps f) (l : k ≤ n) : HasF P w K mg base n x ps f := by
  obtain ⟨a, fd, G, e⟩ := h.ex
  exact ⟨a, fd, G.mono l, e⟩
theorem HasD.mono {ds : List FV} (h : HasD P w K mg base k x ps ds f) (l : k ≤ n) : HasD P w K mg base n x ps ds f := by
  obtain ⟨a, fd, d, u, G, e⟩ := h.ex
  exact ⟨a, fd, d, u, G.mono l, e⟩
theorem funD_mk {oc : Value} {od an : Option Addr} {osl : Array (Option Value)} {kV doc pm cdv ct : Value} {T : Addr} {o : Obj} {its : List Value} {m : Nat}
    (l : K.lookup a = some ⟨oc, od, .func (PySem.W.fnOf x qual params body scope (.ref T) kV doc pm an cdv ct), osl⟩) (c : PySem.W.codeIn K cdv qual = true) (kp : PySem.W.keepIn K (.ref a) = true)
    (lT : K.lookup T = some o) (dT : o.data = .seq its.toArray m) (nd : dvs ≠ []) (v : Vals dvs its) :
    FunD K x qual params body scope dvs [] a (PySem.W.fnOf x qual params body scope (.ref T) kV doc pm an cdv ct) :=
  ⟨⟨oc, od, .ref T, kV, doc, pm, an, cdv, ct, osl, rfl, l, c, .inr ⟨nd, T, o, its, m, rfl, lT, dT, v⟩, .inl rfl⟩, kp⟩
abbrev BindsD (x qual : Str) (params : Arguments) (body : List Stmt) (scope : Scope) (dvs : List V) (ps : List Str) (n j : Nat) : Prop :=
  ∀ (T : Addr) (kV doc pm : Value) (an : Option Addr) (cdv ct : Value) (us its : List Value), us.length = n → its.length = dvs.length →
    ∃ k, bindArgs (PySem.W.fnOf x qual params body scope (.ref T) kV doc pm an cdv ct) ⟨us, []⟩ = seqItems? (.ref T) >>= k ∧ k (some its.toArray) = pure (ps.zip (us ++ its.drop j))
theorem mk_hasFD (F : FunD K x qual params body scope dvs [] a fd) (G : FnOk P w K mg base (L2.CX P w) n a fd ps (spP ⟨K, mg⟩ f)) (hm : mg x = some (.ref a)) (nd : dvs ≠ []) (hb : BindsD x qual params body scope dvs ps ps.length dvs.length) : HasF P w K mg base n x ps f := by
  obtain ⟨ds, v, b⟩ := F.binds1 ps.length dvs.length nd (by omega) hb
  rw [List.drop_length] at v
  cases v
  exact ⟨a, fd, G, hm, F.kp, b⟩
theorem mk_hasD (F : FunD K x qual params body scope dvs [] a fd) (G : FnOk P w K mg base (L2.CX P w) n a fd ps (spP ⟨K, mg⟩ f)) (hm : mg x = some (.ref a)) (nd : dvs ≠ []) (m j : Nat) (hl : m + (dvs.length - j) = ps.length) (hb : BindsD x qual params body scope dvs ps m j) {dsF : List FV}
    (hv : ∀ B H μ n, B.K = K → VRs B H μ n dsF (dvs.drop j)) : HasD P w K mg base n x ps dsF f := by
  obtain ⟨ds, v, b⟩ := F.binds1 m j nd hl hb
  exact ⟨a, fd, dvs.drop j, ds, G, hm, F.kp, b, v, hv⟩
/-! no def: nothing is said -/
def fNo : FDef := fun _ => fail
theorem hasNo {a : Addr} {fd : FuncData} (hm : mg x = some (.ref a)) (k : PySem.W.keepIn K (.ref a) = true) (b : L2.Binds K fd ps []) : HasF P w K mg base n x ps fNo :=
  ⟨a, fd, ⟨fun vs H Q E ⟨_, _, _, _, _, p⟩ => p.elim, fun _ _ _ _ _ _ _ _ _ _ _ _ _ ⟨_, _, _, _, _, p⟩ => p.elim⟩, hm, k, b⟩
theorem hasNoG {a : Addr} {fd : FuncData} : FnOk P w K mg base (L2.CX P w) n a fd ps (spP ⟨K, mg⟩ fNo) :=
  ⟨fun vs H Q E ⟨_, _, _, _, _, p⟩ => p.elim, fun _ _ _ _ _ _ _ _ _ _ _ _ _ ⟨_, _, _, _, _, p⟩ => p.elim⟩
theorem te_no {X : Cx} : TkE X wNo := ⟨E0, fun _ _ _ _ h => h.elim, passL⟩
theorem te_own {X : Cx} {E : XK} (tk : Takes X (fun c d _ H => E c d H)) : TkE X (fun c d _ H => E c d H) := ⟨E, fun _ _ _ _ h => h, passes_call tk fun _ _ _ _ h => h⟩
end
/-! ### the end of a law -/
theorem vrs_ints {B : Bs} {H : Hp} {μ : Nat → Addr} {n : Nat} : ∀ ns : List Int, VRs B H μ n (ns.map FV.int) (ns.map V.int)
  | [] => .nil
  | i :: ns => .cons (.int i) (vrs_ints ns)
def spLaw (K : PySem.W.Frag) : Sp := fun vs H Q _ => ∃ (a : Addr) (ns : List Int), vs = [.ref a] ∧ ns.length ≤ 63 ∧ FzL K H a (ns.map V.int) ∧ ∀ H', Q (.bl true) H'
theorem spLaw_to {K : PySem.W.Frag} {mg : Str → Option Value} {f : FDef} (hf : ∀ ns : List Int, ns.length ≤ 63 → ∃ h', f [.sl (ns.map .int)] [] = .ok (.v (.bl true)) h') {vs : List V} {H : Hp} {Q : VK} {E : XK} (q : spLaw K vs H Q E) : spP ⟨K, mg⟩ f vs H Q E := by
  obtain ⟨a, ns, rfl, hl, hq, k⟩ := q
  obtain ⟨h', e⟩ := hf ns hl
  refine ⟨fun _ => 0, [], [.sl (ns.map .int)], ⟨(fun i o z => by cases z), fun i j z => absurd z (Nat.not_lt_zero _)⟩, .cons (.sl hq (vrs_ints ns)) .nil, ?_⟩
  rw [e]
  intro μ' H' s hr u ru
  cases ru with
  | v r => cases r; exact k H'
theorem walkP {l : PySem.W.OpenLaw} {q : Program} {loose : List Str} {XP : (Str → Option Value) → Heap → Prop} {YP : World → Heap → Prop} {d : DefRec} {K : Params → PySem.W.Frag} {k : Nat} {f : FDef} (hn : l.most = some 63) (hdf : d.params.defaults = [])
    (hY : ∀ (w : World) (h : Heap), YP w h → (K w.params).In h) (hr : Room k callerA)
    (F : ∀ (w : World) (mg : Str → Option Value) (fa : Addr) (h : Heap), (K w.params).In h → h.Ns mainGlobals mg → mg d.name = some (.ref fa) →
      ∃ fd : FuncData, (∀ (s : Shared) (u : Value), BindsTo s fd ⟨[u], []⟩ [("_law_script", u)]) ∧ ∀ base : Heap, (K w.params).In base → base.Ns mainGlobals mg → FnOk l.prog w (K w.params) mg base (L2.CX l.prog w) k fa fd ["_law_script"] (spP ⟨K w.params, mg⟩ f))
    (hf : ∀ ns : List Int, ns.length ≤ 63 → ∃ h', f [.sl (ns.map .int)] [] = .ok (.v (.bl true)) h') :
    PySem.W.WalkO q loose XP YP l.row.toRowW d [] (fun f vs => PySem.call f vs) :=
  L2.walk_of (n := 63) (k := k) (x := "_law_script") (CX := fun w => L2.CX l.prog w) (sp := fun w => spLaw (K w.params)) hn (by decide) hdf hr hY (fun w mg fa h a b c => by
    obtain ⟨fd, h1, h2⟩ := F w mg fa h a b c
    exact ⟨fd, h1, fun base x y => (h2 base x y).imp fun vs H Q E z => spLaw_to hf z⟩) (fun w H a ns hl ho hs => ⟨a, ns, rfl, hl, by
      rcases hs with (hs | hs) | hs
      · rcases ho a with z | ⟨o, xs, z⟩
        · rw [z] at hs; cases hs
        · rw [z] at hs; cases hs
      · exact .inl hs
      · exact .inr hs, fun _ => rfl⟩) fun w H s e s' h => by
    obtain ⟨_, _, _, _, _, _, _, _, _, _, _, _, z⟩ := h
    exact z.elim
end P

namespace P
open PySem PySem.Spec PyProof.Rows L2 G
theorem JTs.to {Y : Cx} {W : WX} {E : Ent} {Γ : Sl} {ifs : List Expr} {f g : M Bool} (p : JTs Y W E Γ ifs f) (q : ∀ h, f h = g h) : JTs Y W E Γ ifs g := by
  have : f = g := funext q
  exact this ▸ p
def FUEL : Nat := 1000000
section
variable {α β A : Type} {X : Cx} {W : WX} {E : Ent} {Γx : Option Sl} {eα : α → Sl} {eβ : β → Sl} {Γ Γ' : Sl} {tg iter : Expr} {pos : Pos} {rest body : List Stmt} {os : List Nat}
theorem jb_forS (eA : A → Sl) (a0 : A) {put : Sl → FV → Sl} {Γb : A → FV → Sl} {f : A → FV → M (Fl A A)} {src : M (List FV)} {k : A → M (Fl α β)} (w : SubX Γx Γ) (hp : PassesOwn (model X.prog X.w) X.A X.env X.xe) (hc : X.calm = true) (hi : JI X W E Γ tg iter src) (ht : JGt X tg os (some : FV → Option FV) put)
    (hb : ∀ a x, JB X W E Γx eA eA (Γb a x) body (f a x)) (h0 : Sub (eA a0) Γ) (hk : ∀ a, JB X W E Γx eα eβ (eA a) rest (k a)) (hΓ : ∀ a x, put (eA a) x = Γb a x := by intro _ _; rfl) (hs : ∀ x, foldedSetIterable iter X.env x = pure x := by intro _; rfl) :
    JB X W E Γx eα eβ Γ (.For tg iter body [] pos :: rest) (bnd src fun xs => seqN (forN f xs a0) k) := jb_for (b := some) (f := f) eA a0 w hp hc hi ht hb h0 hk hΓ hs
end
end P

/-! P: behind a call what it made is forgotten, but for its result. -/
namespace P
open PySem PySem.Spec PyProof.Rows L2 G
mutual
def FV.lowB (n : Nat) : FV → Bool
  | .ref i => decide (i < n)
  | .tup xs => FV.lowsB n xs
  | .fl xs => FV.lowsB n xs
  | .sl xs => FV.lowsB n xs
  | .fd _ xs => FV.lowsB n xs
  | .ft _ xs => FV.lowsB n xs
  | .fo _ _ xs => FV.lowsB n xs
  | .non => true
  | .bl _ => true
  | .int _ => true
  | .str _ => true
def FV.lowsB (n : Nat) : List FV → Bool
  | [] => true
  | x :: xs => x.lowB n && FV.lowsB n xs
end
mutual
theorem lowB_ok {n : Nat} : ∀ {d : FV}, d.lowB n = true → d.low n
  | .ref i, h => by simpa [FV.lowB, FV.low] using h
  | .tup xs, h => by simp only [FV.low]; exact lowsB_ok (by simpa [FV.lowB] using h)
  | .fl xs, h => by simp only [FV.low]; exact lowsB_ok (by simpa [FV.lowB] using h)
  | .sl xs, h => by simp only [FV.low]; exact lowsB_ok (by simpa [FV.lowB] using h)
  | .fd _ xs, h => by simp only [FV.low]; exact lowsB_ok (by simpa [FV.lowB] using h)
  | .ft _ xs, h => by simp only [FV.low]; exact lowsB_ok (by simpa [FV.lowB] using h)
  | .fo _ _ xs, h => by simp only [FV.low]; exact lowsB_ok (by simpa [FV.lowB] using h)
  | .non, _ => by simp [FV.low]
  | .bl _, _ => by simp [FV.low]
  | .int _, _ => by simp [FV.low]
  | .str _, _ => by simp [FV.low]
theorem lowsB_ok {n : Nat} : ∀ {ds : List FV}, FV.lowsB n ds = true → FV.lows n ds
  | [], _ => by simp [FV.lows]
  | d :: ds, h => by
    have h' : d.lowB n = true ∧ FV.lowsB n ds = true := by simpa [FV.lowsB] using h
    simp only [FV.lows]
    exact ⟨lowB_ok h'.1, lowsB_ok h'.2⟩
end
def lowKvB {κ : Type} (n : Nat) (kvs : List (κ × FV)) : Bool := FV.lowsB n (kvs.map (·.2))
def FO.lowB (n : Nat) : FO → Bool
  | .lst ds => FV.lowsB n ds
  | .dK kvs => lowKvB n kvs
  | .dT kvs => lowKvB n kvs
  | .ins _ fs => lowKvB n fs
  | .lk kvs => lowKvB n kvs
theorem FO.lowB_ok {n : Nat} {o : FO} (h : o.lowB n = true) : o.low n := by
  cases o <;> exact lowsB_ok h
/-- the result as it is when only the first n objects keep their numbers -/
def RV.cut (n : Nat) (h : FH) : RV → Option RV
  | .v (.ref i) => if i < n then some (.v (.ref i)) else match h[i]? with
    | some (.lst ds) => if FV.lowsB n ds = true then some (.l ds) else none
    | some (.dK kvs) => if lowKvB n kvs = true then some (.d kvs) else none
    | some (.dT kvs) => if lowKvB n kvs = true then some (.t kvs) else none
    | some (.ins c fs) => if lowKvB n fs = true then some (.o c fs) else none
    | _ => none
  | .v x => if x.lowB n = true then some (.v x) else none
  | .l ds => if FV.lowsB n ds = true then some (.l ds) else none
  | .d kvs => if lowKvB n kvs = true then some (.d kvs) else none
  | .t kvs => if lowKvB n kvs = true then some (.t kvs) else none
  | .o c fs => if lowKvB n fs = true then some (.o c fs) else none
  | _ => none
def cutR (n : Nat) (r : RV) (h : FH) : Rs RV :=
  if n < h.length ∧ (h.take n).all (·.lowB n) = true then match r.cut n h with
    | some r' => .ok r' (h.take n)
    | none => .ok r h
  else .ok r h
def gcM (m : M RV) : M RV := fun h => match m h with
  | .ok r h' => cutR h.length r h'
  | .ex x h' => .ex x h'
  | .no => .no
section
variable {B : Bs} {μ μ' : Nat → Addr} {n : Nat} {h h' : FH} {H H' : Hp} {r r' : RV} {u : V}
theorem cut_ok (s : Step μ n H μ' h'.length H') (hr : HR B μ' h' H') (m : RR B H μ' h'.length H' r u) (hn : n ≤ h'.length) (e : r.cut n h' = some r') : RR B H μ' n H' r' u := by
  have nd : ∀ {p : Addr}, Fre H μ' h'.length p → Fre H μ' n p := fun f => ⟨f.1, fun i hi => f.2 i (Nat.lt_of_lt_of_le hi hn)⟩
  have fr : ∀ {i : Nat}, i < h'.length → ¬ i < n → Fre H μ' n (μ' i) := fun {i} l z => ⟨s.new i (Nat.le_of_not_lt z) l, fun j hj q => z (hr.inj j i (Nat.lt_of_lt_of_le hj hn) l q ▸ hj)⟩
  unfold RV.cut at e
  split at e
  · rename_i i
    obtain ⟨rfl, lm⟩ := ref_inv m
    split at e
    · rename_i li
      cases e
      exact .v (.ref li)
    · rename_i li
      split at e
      · rename_i ds q
        split at e
        · rename_i hl
          cases e
          obtain ⟨xs, h1, h2⟩ := hr.at' i _ q
          exact .l (fr lm li) h1 (h2.low (lowsB_ok hl))
        · cases e
      · rename_i ds q
        split at e
        · rename_i hl
          cases e
          obtain ⟨xs, h1, h2⟩ := hr.at' i _ q
          exact .d (fr lm li) h1 (h2.low (lowsB_ok hl))
        · cases e
      · rename_i ds q
        split at e
        · rename_i hl
          cases e
          obtain ⟨xs, h1, h2⟩ := hr.at' i _ q
          exact .t (fr lm li) h1 (h2.low (lowsB_ok hl))
        · cases e
      · rename_i c ds q
        split at e
        · rename_i hl
          cases e
          obtain ⟨C, dx, xs, h0, h1, h2⟩ := hr.at' i _ q
          exact .o (fr lm li) h0 h1 (h2.low (lowsB_ok hl))
        · cases e
      · cases e
  · split at e
    · rename_i hl
      cases e
      cases m with
      | v q => exact .v (q.low (lowB_ok hl))
    · cases e
  · split at e
    · rename_i hl
      cases e
      cases m with
      | l f a b => exact .l (nd f) a (b.low (lowsB_ok hl))
    · cases e
  · split at e
    · rename_i hl
      cases e
      cases m with
      | d f a b => exact .d (nd f) a (b.low (lowsB_ok hl))
    · cases e
  · split at e
    · rename_i hl
      cases e
      cases m with
      | t f a b => exact .t (nd f) a (b.low (lowsB_ok hl))
    · cases e
  · split at e
    · rename_i hl
      cases e
      cases m with
      | o f z a b => exact .o (nd f) z a (b.low (lowsB_ok hl))
    · cases e
  · cases e
theorem gc_po {m : M RV} {Q : VK} {E : XK} (p : Po B μ h.length H (fun r h' μ' H' => ∀ u, RR B H μ' h'.length H' r u → Q u H') E (gcM m h)) :
    Po B μ h.length H (fun r h' μ' H' => ∀ u, RR B H μ' h'.length H' r u → Q u H') E (m h) := by
  unfold gcM at p
  cases q : m h with
  | no => rw [q] at p; exact p
  | ex x h' => rw [q] at p; exact p
  | ok r h' =>
    rw [q] at p
    dsimp only [] at p
    unfold cutR at p
    split at p
    · rename_i hc
      split at p
      · rename_i r' e
        intro μ' H' s hr u ru
        have hn : h.length ≤ h'.length := Nat.le_of_lt hc.1
        have l : (h'.take h.length).length = h.length := by rw [List.length_take, Nat.min_eq_left hn]
        have hr2 : HR B μ' (h'.take h.length) H' := hr.cut (fun o ho => FO.lowB_ok (List.all_eq_true.mp hc.2 o ho)) hn
        have s2 : Step μ h.length H μ' (h'.take h.length).length H' := by rw [l]; exact s.cut (Nat.le_refl _) hn
        refine (show ∀ μ' H', _ → _ → ∀ u, _ → Q u H' from p) μ' H' s2 hr2 u ?_
        rw [l]
        exact cut_ok s hr ru hn e
      · exact p
    · exact p
end
def gcF (f : FDef) : FDef := fun vs => gcM (f vs)
theorem gc_ok {B : Bs} {f : FDef} {vs : List V} {H : Hp} {Q : VK} {E : XK} (q : spP B (gcF f) vs H Q E) : spP B f vs H Q E := by
  obtain ⟨μ, h, ds, hr, r, p⟩ := q
  exact ⟨μ, h, ds, hr, r, gc_po p⟩
theorem gcM_pur (r : RV) : gcM (pur r) = pur r := by
  funext h
  show cutR h.length r h = _
  unfold cutR
  rw [if_neg (fun z => absurd z.1 (Nat.lt_irrefl _))]
  rfl
theorem gcM_fail : gcM fail = fail := rfl
theorem gcF_eq {B : Bs} {f g : FDef} (e : ∀ ds, g ds = gcF f ds) {vs : List V} {H : Hp} {Q : VK} {E : XK} (q : spP B g vs H Q E) : spP B f vs H Q E := gc_ok (by have z : g = gcF f := funext e; exact z ▸ q)
theorem gc_f0 {B : Bs} {g : M RV} {vs : List V} {H : Hp} {Q : VK} {E : XK} (q : spP B (f0 (gcM g)) vs H Q E) : spP B (f0 g) vs H Q E := gcF_eq (f := f0 g) (g := f0 (gcM g)) (fun ds => match ds with
  | [] => rfl
  | _ :: _ => rfl) q
theorem gc_f1 {B : Bs} {g : FV → M RV} {vs : List V} {H : Hp} {Q : VK} {E : XK} (q : spP B (f1 (fun a0 => gcM (g a0))) vs H Q E) : spP B (f1 g) vs H Q E := gcF_eq (f := f1 g) (g := f1 (fun a0 => gcM (g a0))) (fun ds => match ds with
  | [] => rfl
  | [_] => rfl
  | _ :: _ :: _ => rfl) q
theorem gc_f2 {B : Bs} {g : FV → FV → M RV} {vs : List V} {H : Hp} {Q : VK} {E : XK} (q : spP B (f2 (fun a0 a1 => gcM (g a0 a1))) vs H Q E) : spP B (f2 g) vs H Q E := gcF_eq (f := f2 g) (g := f2 (fun a0 a1 => gcM (g a0 a1))) (fun ds => match ds with
  | [] => rfl
  | [_] => rfl
  | [_, _] => rfl
  | _ :: _ :: _ :: _ => rfl) q
theorem gc_f3 {B : Bs} {g : FV → FV → FV → M RV} {vs : List V} {H : Hp} {Q : VK} {E : XK} (q : spP B (f3 (fun a0 a1 a2 => gcM (g a0 a1 a2))) vs H Q E) : spP B (f3 g) vs H Q E := gcF_eq (f := f3 g) (g := f3 (fun a0 a1 a2 => gcM (g a0 a1 a2))) (fun ds => match ds with
  | [] => rfl
  | [_] => rfl
  | [_, _] => rfl
  | [_, _, _] => rfl
  | _ :: _ :: _ :: _ :: _ => rfl) q
theorem gc_f4 {B : Bs} {g : FV → FV → FV → FV → M RV} {vs : List V} {H : Hp} {Q : VK} {E : XK} (q : spP B (f4 (fun a0 a1 a2 a3 => gcM (g a0 a1 a2 a3))) vs H Q E) : spP B (f4 g) vs H Q E := gcF_eq (f := f4 g) (g := f4 (fun a0 a1 a2 a3 => gcM (g a0 a1 a2 a3))) (fun ds => match ds with
  | [] => rfl
  | [_] => rfl
  | [_, _] => rfl
  | [_, _, _] => rfl
  | [_, _, _, _] => rfl
  | _ :: _ :: _ :: _ :: _ :: _ => rfl) q
theorem gc_f5 {B : Bs} {g : FV → FV → FV → FV → FV → M RV} {vs : List V} {H : Hp} {Q : VK} {E : XK} (q : spP B (f5 (fun a0 a1 a2 a3 a4 => gcM (g a0 a1 a2 a3 a4))) vs H Q E) : spP B (f5 g) vs H Q E := gcF_eq (f := f5 g) (g := f5 (fun a0 a1 a2 a3 a4 => gcM (g a0 a1 a2 a3 a4))) (fun ds => match ds with
  | [] => rfl
  | [_] => rfl
  | [_, _] => rfl
  | [_, _, _] => rfl
  | [_, _, _, _] => rfl
  | [_, _, _, _, _] => rfl
  | _ :: _ :: _ :: _ :: _ :: _ :: _ => rfl) q
theorem gc_f6 {B : Bs} {g : FV → FV → FV → FV → FV → FV → M RV} {vs : List V} {H : Hp} {Q : VK} {E : XK} (q : spP B (f6 (fun a0 a1 a2 a3 a4 a5 => gcM (g a0 a1 a2 a3 a4 a5))) vs H Q E) : spP B (f6 g) vs H Q E := gcF_eq (f := f6 g) (g := f6 (fun a0 a1 a2 a3 a4 a5 => gcM (g a0 a1 a2 a3 a4 a5))) (fun ds => match ds with
  | [] => rfl
  | [_] => rfl
  | [_, _] => rfl
  | [_, _, _] => rfl
  | [_, _, _, _] => rfl
  | [_, _, _, _, _] => rfl
  | [_, _, _, _, _, _] => rfl
  | _ :: _ :: _ :: _ :: _ :: _ :: _ :: _ => rfl) q
theorem gc_f7 {B : Bs} {g : FV → FV → FV → FV → FV → FV → FV → M RV} {vs : List V} {H : Hp} {Q : VK} {E : XK} (q : spP B (f7 (fun a0 a1 a2 a3 a4 a5 a6 => gcM (g a0 a1 a2 a3 a4 a5 a6))) vs H Q E) : spP B (f7 g) vs H Q E := gcF_eq (f := f7 g) (g := f7 (fun a0 a1 a2 a3 a4 a5 a6 => gcM (g a0 a1 a2 a3 a4 a5 a6))) (fun ds => match ds with
  | [] => rfl
  | [_] => rfl
  | [_, _] => rfl
  | [_, _, _] => rfl
  | [_, _, _, _] => rfl
  | [_, _, _, _, _] => rfl
  | [_, _, _, _, _, _] => rfl
  | [_, _, _, _, _, _, _] => rfl
  | _ :: _ :: _ :: _ :: _ :: _ :: _ :: _ :: _ => rfl) q
theorem gc_f8 {B : Bs} {g : FV → FV → FV → FV → FV → FV → FV → FV → M RV} {vs : List V} {H : Hp} {Q : VK} {E : XK} (q : spP B (f8 (fun a0 a1 a2 a3 a4 a5 a6 a7 => gcM (g a0 a1 a2 a3 a4 a5 a6 a7))) vs H Q E) : spP B (f8 g) vs H Q E := gcF_eq (f := f8 g) (g := f8 (fun a0 a1 a2 a3 a4 a5 a6 a7 => gcM (g a0 a1 a2 a3 a4 a5 a6 a7))) (fun ds => match ds with
  | [] => rfl
  | [_] => rfl
  | [_, _] => rfl
  | [_, _, _] => rfl
  | [_, _, _, _] => rfl
  | [_, _, _, _, _] => rfl
  | [_, _, _, _, _, _] => rfl
  | [_, _, _, _, _, _, _] => rfl
  | [_, _, _, _, _, _, _, _] => rfl
  | _ :: _ :: _ :: _ :: _ :: _ :: _ :: _ :: _ :: _ => rfl) q
theorem gc_f9 {B : Bs} {g : FV → FV → FV → FV → FV → FV → FV → FV → FV → M RV} {vs : List V} {H : Hp} {Q : VK} {E : XK} (q : spP B (f9 (fun a0 a1 a2 a3 a4 a5 a6 a7 a8 => gcM (g a0 a1 a2 a3 a4 a5 a6 a7 a8))) vs H Q E) : spP B (f9 g) vs H Q E := gcF_eq (f := f9 g) (g := f9 (fun a0 a1 a2 a3 a4 a5 a6 a7 a8 => gcM (g a0 a1 a2 a3 a4 a5 a6 a7 a8))) (fun ds => match ds with
  | [] => rfl
  | [_] => rfl
  | [_, _] => rfl
  | [_, _, _] => rfl
  | [_, _, _, _] => rfl
  | [_, _, _, _, _] => rfl
  | [_, _, _, _, _, _] => rfl
  | [_, _, _, _, _, _, _] => rfl
  | [_, _, _, _, _, _, _, _] => rfl
  | [_, _, _, _, _, _, _, _, _] => rfl
  | _ :: _ :: _ :: _ :: _ :: _ :: _ :: _ :: _ :: _ :: _ => rfl) q
theorem gc_f10 {B : Bs} {g : FV → FV → FV → FV → FV → FV → FV → FV → FV → FV → M RV} {vs : List V} {H : Hp} {Q : VK} {E : XK} (q : spP B (f10 (fun a0 a1 a2 a3 a4 a5 a6 a7 a8 a9 => gcM (g a0 a1 a2 a3 a4 a5 a6 a7 a8 a9))) vs H Q E) : spP B (f10 g) vs H Q E := gcF_eq (f := f10 g) (g := f10 (fun a0 a1 a2 a3 a4 a5 a6 a7 a8 a9 => gcM (g a0 a1 a2 a3 a4 a5 a6 a7 a8 a9))) (fun ds => match ds with
  | [] => rfl
  | [_] => rfl
  | [_, _] => rfl
  | [_, _, _] => rfl
  | [_, _, _, _] => rfl
  | [_, _, _, _, _] => rfl
  | [_, _, _, _, _, _] => rfl
  | [_, _, _, _, _, _, _] => rfl
  | [_, _, _, _, _, _, _, _] => rfl
  | [_, _, _, _, _, _, _, _, _] => rfl
  | [_, _, _, _, _, _, _, _, _, _] => rfl
  | _ :: _ :: _ :: _ :: _ :: _ :: _ :: _ :: _ :: _ :: _ :: _ => rfl) q
theorem fNo_f0 : f0 fail = fNo := funext fun ds => match ds with
  | [] => rfl
  | _ :: _ => rfl
theorem fNo_f1 : f1 (fun _ => fail) = fNo := funext fun ds => match ds with
  | [] => rfl
  | [_] => rfl
  | _ :: _ :: _ => rfl
theorem fNo_f2 : f2 (fun _ _ => fail) = fNo := funext fun ds => match ds with
  | [] => rfl
  | [_] => rfl
  | [_, _] => rfl
  | _ :: _ :: _ :: _ => rfl
theorem fNo_f3 : f3 (fun _ _ _ => fail) = fNo := funext fun ds => match ds with
  | [] => rfl
  | [_] => rfl
  | [_, _] => rfl
  | [_, _, _] => rfl
  | _ :: _ :: _ :: _ :: _ => rfl
theorem fNo_f4 : f4 (fun _ _ _ _ => fail) = fNo := funext fun ds => match ds with
  | [] => rfl
  | [_] => rfl
  | [_, _] => rfl
  | [_, _, _] => rfl
  | [_, _, _, _] => rfl
  | _ :: _ :: _ :: _ :: _ :: _ => rfl
theorem fNo_f5 : f5 (fun _ _ _ _ _ => fail) = fNo := funext fun ds => match ds with
  | [] => rfl
  | [_] => rfl
  | [_, _] => rfl
  | [_, _, _] => rfl
  | [_, _, _, _] => rfl
  | [_, _, _, _, _] => rfl
  | _ :: _ :: _ :: _ :: _ :: _ :: _ => rfl
theorem fNo_f6 : f6 (fun _ _ _ _ _ _ => fail) = fNo := funext fun ds => match ds with
  | [] => rfl
  | [_] => rfl
  | [_, _] => rfl
  | [_, _, _] => rfl
  | [_, _, _, _] => rfl
  | [_, _, _, _, _] => rfl
  | [_, _, _, _, _, _] => rfl
  | _ :: _ :: _ :: _ :: _ :: _ :: _ :: _ => rfl
theorem fNo_f7 : f7 (fun _ _ _ _ _ _ _ => fail) = fNo := funext fun ds => match ds with
  | [] => rfl
  | [_] => rfl
  | [_, _] => rfl
  | [_, _, _] => rfl
  | [_, _, _, _] => rfl
  | [_, _, _, _, _] => rfl
  | [_, _, _, _, _, _] => rfl
  | [_, _, _, _, _, _, _] => rfl
  | _ :: _ :: _ :: _ :: _ :: _ :: _ :: _ :: _ => rfl
theorem fNo_f8 : f8 (fun _ _ _ _ _ _ _ _ => fail) = fNo := funext fun ds => match ds with
  | [] => rfl
  | [_] => rfl
  | [_, _] => rfl
  | [_, _, _] => rfl
  | [_, _, _, _] => rfl
  | [_, _, _, _, _] => rfl
  | [_, _, _, _, _, _] => rfl
  | [_, _, _, _, _, _, _] => rfl
  | [_, _, _, _, _, _, _, _] => rfl
  | _ :: _ :: _ :: _ :: _ :: _ :: _ :: _ :: _ :: _ => rfl
theorem fNo_f9 : f9 (fun _ _ _ _ _ _ _ _ _ => fail) = fNo := funext fun ds => match ds with
  | [] => rfl
  | [_] => rfl
  | [_, _] => rfl
  | [_, _, _] => rfl
  | [_, _, _, _] => rfl
  | [_, _, _, _, _] => rfl
  | [_, _, _, _, _, _] => rfl
  | [_, _, _, _, _, _, _] => rfl
  | [_, _, _, _, _, _, _, _] => rfl
  | [_, _, _, _, _, _, _, _, _] => rfl
  | _ :: _ :: _ :: _ :: _ :: _ :: _ :: _ :: _ :: _ :: _ => rfl
theorem fNo_f10 : f10 (fun _ _ _ _ _ _ _ _ _ _ => fail) = fNo := funext fun ds => match ds with
  | [] => rfl
  | [_] => rfl
  | [_, _] => rfl
  | [_, _, _] => rfl
  | [_, _, _, _] => rfl
  | [_, _, _, _, _] => rfl
  | [_, _, _, _, _, _] => rfl
  | [_, _, _, _, _, _, _] => rfl
  | [_, _, _, _, _, _, _, _] => rfl
  | [_, _, _, _, _, _, _, _, _] => rfl
  | [_, _, _, _, _, _, _, _, _, _] => rfl
  | _ :: _ :: _ :: _ :: _ :: _ :: _ :: _ :: _ :: _ :: _ :: _ => rfl
theorem hasNo_of {P : Program} {w : World} {K : PySem.W.Frag} {mg : Str → Option Value} {base : Heap} {n : Nat} {x : Str} {ps : List Str} {f : FDef} {a : Addr} {fd : FuncData} (e : f = fNo) (hm : mg x = some (.ref a)) (k : PySem.W.keepIn K (.ref a) = true) (b : L2.Binds K fd ps []) : HasF P w K mg base n x ps f := e ▸ hasNo hm k b
theorem hasNoG_of {P : Program} {w : World} {K : PySem.W.Frag} {mg : Str → Option Value} {base : Heap} {n : Nat} {ps : List Str} {f : FDef} {a : Addr} {fd : FuncData} (e : f = fNo) : FnOk P w K mg base (L2.CX P w) n a fd ps (spP ⟨K, mg⟩ f) := e ▸ hasNoG
end P

/-! P: dict comprehensions. -/
namespace P
open PySem PySem.Spec PyProof.Rows L2 G
/-- the items, one put behind the other -/
def compD (g : FV → M (Option (Key × FV))) : List FV → List (Key × FV) → M (List (Key × FV))
  | [], acc => pur acc
  | d :: ds, acc => bnd (noEx (g d)) fun o => compD g ds (match o with | some kv => putF acc kv.1 kv.2 | none => acc)
def dcL (g : FV → M (Option (Key × FV))) (xs : List FV) : M RV := if xs.length ≤ LIM then bnd (compD g xs []) fun es => pur (.d es) else fail
def itemD {δ : Type} (b : FV → Option δ) (t : δ → M Bool) (fk fv : δ → M RV) (d : FV) : M (Option (Key × FV)) := bindT b d fun x => bnd (t x) fun c => if c = true then bnd (mV (fk x)) fun y => bnd (mV (fv x)) fun z => keyOf y fun k => pur (some (k, z)) else pur none
theorem putF_len (kvs : List (Key × FV)) (k : Key) (v : FV) : (putF kvs k v).length ≤ kvs.length + 1 := by
  unfold putF
  split
  · rw [List.length_map]; omega
  · rw [List.length_append]; exact Nat.le_refl _
/-- a walk that fills a dict -/
theorem dwalk {J : It} {n : Nat} {GG : Hp → Prop} {Y : Nat → Hp → V → Hp → Prop} (w : Walk J n GG Y) {g : TG} {tt : TT} {tk tv : TE} {vs : List Nat} {σ : L2.St} {H1 : Hp} {D : Addr} {Qd : Hp → Prop} (Pv : Nat → Hp → Prop)
    (h0 : Pv 0 (upd H1 D (.dK []))) (hG : ∀ i H, i ≤ n → Pv i H → GG H)
    (hs : ∀ i x H H', i < n → Pv i H → Y i H x H' → g x (wipe σ vs) H' fun σ2 H2 => wipe σ2 vs = wipe σ vs ∧ tt σ2 H2 fun b H3 => if b = true then tk σ2 H3 fun y H4 => tv σ2 H4 fun z H5 => ∃ kvs k, y = kV k ∧ H5 D = some (.dK kvs) ∧ kvs.length < sizeLine ∧ Pv (i + 1) (upd H5 D (.dK (putK kvs k z))) else Pv (i + 1) H3)
    (he : ∀ H, Pv n H → Qd H) :
    ∃ W : Nat → Nat → Hp → Prop, (∃ m, W 0 m (upd H1 D (.dK []))) ∧ ∀ i m H, W i m H → J.stop i H ∧ Qd H ∨ J.go i H ∧ ∃ Nx : Hp → Prop, (∀ H', Nx H' → ∃ m', m' < m ∧ W (i + 1) m' H') ∧
      ∀ x H', J.yld i H x H' → g x (wipe σ vs) H' fun σ2 H2 => wipe σ2 vs = wipe σ vs ∧ tt σ2 H2 fun b H3 => if b = true then tk σ2 H3 fun y H4 => tv σ2 H4 fun z H5 => ∃ kvs k, y = kV k ∧ H5 D = some (.dK kvs) ∧ kvs.length < sizeLine ∧ Nx (upd H5 D (.dK (putK kvs k z))) else Nx H3 := by
  refine ⟨fun i m H => i ≤ n ∧ m = n - i ∧ Pv i H, ⟨n, Nat.zero_le _, rfl, h0⟩, fun i m H hw => ?_⟩
  obtain ⟨hi, hm, hP⟩ := hw
  by_cases e : i = n
  · subst e; exact .inl ⟨w.stops H (hG _ _ hi hP), he H hP⟩
  · have lt : i < n := by omega
    exact .inr ⟨w.goes i H lt (hG _ _ hi hP), fun H' => Pv (i + 1) H', fun H' q => ⟨n - (i + 1), by omega, by omega, rfl, q⟩, fun x H' y => hs i x H H' lt hP (w.yields i H x H' lt (hG _ _ hi hP) y)⟩
section
variable {α β δ : Type} {X : Cx} {W : WX} {E : Ent} {Γ : Sl} {kx vx iter tg : Expr} {pos : Pos} {scope : Scope} {os vs : List Nat} {src : M (List FV)}
theorem dcomp_w {ifs : List Expr} {g : TG} {wi : TI} {b : FV → Option δ} {put : Sl → δ → Sl} {t : δ → M Bool} {fk fv : δ → M RV} {Γc : δ → Sl} (hsrc : JIw X W E Γ wi src) (ht : JGw (bs X) g os b put) (hos : ∀ j, j ∈ os → j ∈ vs) (hΓ : ∀ x, put (wipeF Γ vs) x = Γc x)
    (hts : ∀ x, Blk X scope fun Y => JTs Y wNo E (Γc x) ifs (t x)) (hk : ∀ x, Blk X scope fun Y => JE Y wNo E (Γc x) kx (fk x)) (hv : ∀ x, Blk X scope fun Y => JE Y wNo E (Γc x) vx (fv x))
    {μ : Nat → Addr} {h : FH} {σ : St} {H : Hp} {Q : VK} (s : SR (bs X) E μ Γ h σ H) (p : Po (bs X) μ h.length H (fun r h' μ' H' => ∀ u, RR (bs X) H μ' h'.length H' r u → Q u H') (fun c d H' => W c d σ H') (bnd src (dcL (itemD b t fk fv)) h)) :
    tDc wi g (wTB X scope ifs) (wEB X scope kx) (wEB X scope vx) vs σ H Q := by
  refine hsrc μ h σ H _ s (Po.mono (Po.bind p) fun xs h1 μ1 H1 _ s1 hr1 p1 J fw => ?_)
  intro Dd hD
  unfold dcL at p1
  split at p1
  rotate_left
  · exact p1.elim
  rename_i hlim
  have sD : Same H1 (upd H1 Dd (.dK [])) := same_new hD
  refine dwalk fw (fun i H' => ∃ μ' h' acc ws, Step μ1 h1.length H1 μ' h'.length H' ∧ HR (bs X) μ' h' H' ∧ H' Dd = some (.dK ws) ∧ Nd μ' h'.length Dd ∧ KvR (bs X) H' μ' h'.length acc ws ∧ ws.length ≤ i ∧
      Po (bs X) μ1 h1.length H1 (fun r h'' μ'' H'' => ∀ u, RR (bs X) H μ'' h''.length H'' r u → Q u H'') (fun c d H' => W c d σ H') ((compD (itemD b t fk fv) (xs.drop i) acc h').bind fun es h2 => .ok (.d es) h2))
    ⟨μ1, h1, [], [], Step.same sD, hr1.same sD, upd_same, fun j hj z => hr1.cls hj (by rw [z]; exact hD), .nil, Nat.le_refl _, p1⟩ (fun i H' _ z => ?_) (fun i x H2 H3 hi z y => ?_) (fun H' z => ?_)
  · obtain ⟨μ', h', acc, xs', s', _⟩ := z
    exact ⟨μ', h'.length, s'.w⟩
  · obtain ⟨μ', h', acc, ws, s', hr', eD, nD, racc, lacc, p'⟩ := z
    obtain ⟨sm, y⟩ := y
    obtain ⟨d, hd, vd⟩ := y μ' h'.length s'.w
    have e : xs.drop i = d :: xs.drop (i + 1) := by
      have hlt : i < xs.length := hi
      rw [List.drop_eq_getElem_cons hlt]
      congr 1
      rw [List.getElem?_eq_getElem hlt] at hd
      exact Option.some.inj hd
    rw [e, compD, bnd, bind_assoc] at p'
    have s3 : Step μ' h'.length H2 μ' h'.length H3 := Step.same sm
    have hr3 := hr'.same sm
    obtain ⟨eD3, nD3⟩ := Fre.keep s3 eD nD
    have t3 := s'.trans s3
    have sw : SR (bs X) E μ' (wipeF Γ vs) h' (L2.wipe σ vs) H3 := (s.wipe vs).step (s1.trans t3) hr3
    have p3 := Po.noEx (E' := fun c d H' => wNo c d [] H') (p'.bindAt t3)
    unfold itemD bindT at p3
    cases z : b d with
    | none => rw [z] at p3; exact p3.elim
    | some x0 =>
      rw [z] at p3
      dsimp only at p3
      refine ht E μ' (wipeF Γ vs) h' _ H3 x d x0 _ sw vd z fun σ2 sr2 ch => ⟨wipe_ch ch hos, ?_⟩
      rw [hΓ x0] at sr2
      intro ss HH C cl fp
      refine hts x0 ss HH C cl fp μ' h' σ2 H3 _ sr2 (Po.mono (Po.bind p3) fun bb h4 μ4 H4 _ s4 hr4 p4 => ?_)
      obtain ⟨eD4, nD4⟩ := Fre.keep s4 eD3 nD3
      have racc4 : KvR (bs X) H4 μ4 h4.length acc ws := (racc.mono s3.gw s3.ext s3.le).mono s4.gw s4.ext s4.le
      have t4 := t3.trans s4
      cases bb with
      | false =>
        rw [if_neg (by decide)] at p4 ⊢
        have p5 := Po.here rfl hr4 p4
        exact ⟨μ4, h4, acc, ws, t4, hr4, eD4, nD4, racc4, Nat.le_succ_of_le lacc, p5⟩
      | true =>
        rw [if_pos rfl] at p4 ⊢
        intro ss HH C cl fp
        refine (hk x0 ss HH C cl fp).val (sr2.step s4 hr4) (Po.mono (Po.bind p4) fun dk h6 μ6 H5 _ s6 hr6 p6 u v6 => ?_)
        obtain ⟨eD6, nD6⟩ := Fre.keep s6 eD4 nD4
        have t6 := t4.trans s6
        intro ss HH C cl fp
        refine (hv x0 ss HH C cl fp).val ((sr2.step s4 hr4).step s6 hr6) (Po.mono (Po.bind p6) fun dv h8 μ8 H7 _ s8 hr8 p8 u2 v8 => ?_)
        obtain ⟨eD8, nD8⟩ := Fre.keep s8 eD6 nD6
        have t8 := t6.trans s8
        unfold keyOf at p8
        cases qk : dk.key with
        | none => rw [qk] at p8; exact p8.elim
        | some kk =>
          rw [qk] at p8
          have p9 := Po.here rfl hr8 p8
          have eu : u = kV kk := key_ok' v6 qk
          have racc8 : KvR (bs X) H7 μ8 h8.length acc ws := (racc4.mono s6.gw s6.ext s6.le).mono s8.gw s8.ext s8.le
          have mu : Mut (H7 Dd) := by rw [eD8]; trivial
          have gw := gw_mut (o := .dK (putK ws kk u2)) mu
          have hi' : i < xs.length := hi
          have rput := racc8.put (k := kk) v8
          refine ⟨ws, kk, eu, eD8, lim_lt (Nat.lt_of_lt_of_le (Nat.lt_of_le_of_lt lacc hi') hlim), μ8, h8, putF acc kk dv, putK ws kk u2, ?_, ?_, upd_same, nD8, ?_, ?_, p9⟩
          · refine ⟨t8.le, t8.ext, t8.new, fun a o ha hk => ?_, fun a ha => ?_, t8.gw.trans gw⟩
            · rw [upd_ne (fun z => by rw [z, hD] at ha; cases ha)]; exact t8.fr a o ha hk
            · by_cases z : a = Dd
              · rw [z, upd_same]; exact fun z => nomatch z
              · rw [upd_ne z]; exact t8.th a ha
          · exact ⟨fun j o hj => (hr8.at' j o hj).mono gw (fun _ _ => rfl) (Nat.le_refl _) (upd_ne (nD8 j (List.getElem?_eq_some_iff.mp hj).1)), hr8.inj⟩
          · exact rput.mono gw (fun _ _ => rfl) (Nat.le_refl _)
          · rw [rput.len]
            have := putF_len acc kk dv
            have := racc8.len
            omega
  · obtain ⟨μ', h', acc, ws, s', hr', eD, nD, racc, lacc, p'⟩ := z
    rw [List.drop_length] at p'
    have p2 : Po (bs X) μ1 h1.length H1 _ _ (Rs.ok (RV.d acc) h') := p'
    refine p2 μ' H' s' hr' _ (.d ⟨?_, nD⟩ eD racc)
    exact no_th s1.th hD
theorem je_dc (own : List (Str × Nat)) {ifs : List Expr} {b : FV → Option δ} {put : Sl → δ → Sl} {t : δ → M Bool} {fk fv : δ → M RV} {Γc : δ → Sl} (hc : X.calm = true) (hN : X.N.Nodup) (hi : JI X W E Γ tg iter src) (ok : BlkOk X.N X.env.scope scope own)
    (ht : JGtB X scope tg os b put) (hos : ∀ j, j ∈ os → j ∈ own.map (·.2)) (hts : ∀ x, Blk X scope fun Y => JTs Y wNo E (Γc x) ifs (t x)) (hk : ∀ x, Blk X scope fun Y => JE Y wNo E (Γc x) kx (fk x)) (hv : ∀ x, Blk X scope fun Y => JE Y wNo E (Γc x) vx (fv x)) (hΓ : ∀ x, put (wipeF Γ (own.map (·.2))) x = Γc x := by intro _; rfl)
    (hs : ∀ x, foldedSetIterable iter X.env x = pure x := by intro _; rfl) : JE X W E Γ (.DictComp kx vx [⟨tg, iter, ifs, 0⟩] scope pos) (bnd src (dcL (itemD b t fk fv))) := fun μ h σ H Q s p => by
  obtain ⟨wi, pi, q⟩ := hi
  obtain ⟨gt, pg, qg⟩ := ht
  exact wE.of (pe_dc (tk := wEB X scope kx) (tv := wEB X scope vx) (tt := wTB X scope ifs) hc hN pi ok pg (fun s H C cl fp => ⟨fun pins s' σ' H' Q' I q => (q s H C cl fp).go pins s' I⟩) (fun s H C cl fp => ⟨fun pins s' σ' H' Q' I q => (q s H C cl fp).go pins s' I⟩) (fun s H C cl fp => ⟨fun pins s' σ' H' Q' I q => (q s H C cl fp).go pins s' I⟩) hs) (dcomp_w q qg hos hΓ hts hk hv s p)
end
end P

/-! P: more expressions. -/
namespace P
open PySem PySem.Spec PyProof.Rows L2 G
section
variable {α β γ δ : Type} {X : Cx} {W : WX} {E : Ent} {Γx : Option Sl} {eα : α → Sl} {eβ : β → Sl} {Γ Γ' : Sl} {e a b c o i f tg iter elt : Expr} {es : List Expr} {pos apos p0 p1 p2 px : Pos} {fe fo fi fa fb fc ff : M RV} {rest body : List Stmt} {os : List Nat} {n k : Nat} {scope : Scope} {src : M (List FV)}
theorem op_leS : OpR X (compareOp .LtE) (fun x y H Q => rI0 (fun i j => .bl (decide (i ≤ j))) x y H Q ∨ ∃ i j, x = .str i ∧ y = .str j ∧ Q (.bl (!decide (j.cps.toList < i.cps.toList))) H) := OpR.or op_le op_le_str
theorem op_ltS : OpR X (compareOp .Lt) (fun x y H Q => rI0 (fun i j => .bl (decide (i < j))) x y H Q ∨ ∃ i j, x = .str i ∧ y = .str j ∧ Q (.bl (decide (i.cps.toList < j.cps.toList))) H) := OpR.or op_lt op_lt_str
theorem je_chain {op op' : CmpOp} {r r' : R2} {g g' : RV → RV → FH → Option Bool} (ho : OpR X (compareOp op) r) (hg : CmpOk X r g) (ho' : OpR X (compareOp op') r') (hg' : CmpOk X r' g') (ha : JE X W E Γ a fa) (hb : JE X W E Γ b fb) (hc : JE X W E Γ c fc)
    (hm : lastMarks [op, op'] [b, c] = false := by with_unfolding_all rfl) : JE X W E Γ (.Compare a [op, op'] [b, c] pos) (mB (bnd fa fun x => bnd fb fun y => oChain g g' x y fc)) := fun μ h σ H Q s p =>
  wE.of (pe_chain ho ho' pe_w pe_w pe_w hm) (ha μ h σ H _ s (Po.mono (Po.bind p.bl) fun x h1 μ1 H1 _ s1 hr1 p1 u ru =>
    hb μ1 h1 σ H1 _ (s.step s1 hr1) (Po.mono (Po.bind p1) fun y h2 μ2 H2 _ s2 hr2 p2 v rv => by
      obtain ⟨t, ht, p3⟩ := (Po.bind p2).lift
      refine hg μ2 h2 H H2 x y u v _ t hr2 (ru.step s2) (rv.since s1.th) ht fun H' e => ⟨t, rfl, ?_⟩
      have p4 := p3.last hr2 e
      cases t with
      | false =>
        rw [if_neg (by decide)] at p4 ⊢
        exact Po.here rfl (hr2.same e) p4 _ (.v (.bl false))
      | true =>
        rw [if_pos rfl] at p4 ⊢
        have se : Step μ2 h2.length H2 μ2 h2.length H' := Step.same e
        refine hc μ2 h2 σ H' _ (((s.step s1 hr1).step s2 hr2).step se (hr2.same e)) (Po.mono (Po.bind p4) fun z h4 μ4 H4 _ s4 hr4 p5 w rw' => ?_)
        obtain ⟨t', ht', p6⟩ := p5.lift
        exact hg' μ4 h4 H1 H4 y z v w _ t' hr4 (rv.step (se.trans s4)) (rw'.since fun a q => se.th a (s2.th a q)) ht' fun H'' e' => p6.last hr4 e' _ (.v (.bl t')))))
end
end P

/-! P: ==, != and in where lists and dicts hold dicts. -/
namespace P.Q
open PySem PySem.SeqAt
open AutoSeq1 (wpAny_loadPart')
open MeetsSeq MeetsSeq2 MeetsSeq3 SeqRoads2
section
variable {prog : Program} {w : World}
/-- how a list's object stands -/
def At (s : Shared) (l : Addr) (dd : Option Addr) (its : Array Value) (n : Nat) (sl : Array (Option Value)) : Prop := s.heap.get? l = some { cls := .type "list", dict := dd, data := .seq its n, slots := sl }
theorem has_loop (l : Addr) (its : Array Value) (n : Nat) (dd : Option Addr) (sl : Array (Option Value)) (x : Value) (e : Nat → Bool) (k : Nat) :
    ∀ i : Nat, its.size - i = k → MeetsIn prog w (Builtin.«list.__contains__.loop» ⟨[.ref l, x, rawInt i], []⟩)
      (fun A R s => At s l dd its n sl ∧ (∀ j (h : j < its.size), EqP prog w A.in1 s its[j] x (e j)) ∧ R (.ok (.ret (.bool (((List.range its.size).drop i).any e)))) s) := by
  induction k with
  | zero =>
    intro i hk A R s ⟨hl, he, h⟩
    obtain ⟨hp, g, d, tk, os⟩ := s
    unfold At at hl
    wp_walk using (wpAny_loadPart' hl)
    rw [show its[((i : Nat) : Int).toNat]? = none by (simp; omega)]
    rw [show (List.range its.size).drop i = [] by (simp; omega)] at h
    wp_walk
    exact h
  | succ k ih =>
    intro i hk A R s ⟨hl, he, h⟩
    obtain ⟨hp, g, d, tk, os⟩ := s
    have lt : i < its.size := by omega
    have hl0 := hl
    unfold At at hl
    wp_walk using (wpAny_loadPart' hl)
    rw [show its[((i : Nat) : Int).toNat]? = some its[i] by (simp [lt])]
    rw [show (List.range its.size).drop i = i :: (List.range its.size).drop (i + 1) by (simp [List.drop_eq_getElem_cons, lt]), List.any_cons] at h
    refine wpAny_bind (he i lt _ _ ?_)
    cases q : e i with
    | true => rw [q] at h; wp_walk; exact h
    | false =>
      rw [q] at h; wp_walk; rw [show ((i : Int) + 1) = ((i + 1 : Nat) : Int) by (push_cast; rfl)]
      refine ⟨plainId_quiet plain_contains_loop _, codeAny_builtin entry_contains_loop ?_⟩
      rw [Around.under_plainId plain_contains_loop _]
      exact ih _ (by omega) A R _ ⟨hl0, he, by (simpa using h)⟩
theorem has_list (l : Addr) (its : Array Value) (n : Nat) (dd : Option Addr) (sl : Array (Option Value)) (x : Value) (e : Nat → Bool) :
    MeetsIn prog w (Builtin.«list.__contains__» ⟨[.ref l, x], []⟩)
      (fun A R s => At s l dd its n sl ∧ (∀ j (h : j < its.size), EqP prog w A.in1 s its[j] x (e j)) ∧ R (.ok (.ret (.bool ((List.range its.size).any e)))) s) := by
  intro A R s ⟨hl, he, h⟩
  obtain ⟨hp, g, d, tk, os⟩ := s
  have hl0 := hl
  unfold At at hl
  wp_walk using (wpAny_loadPart' hl)
  refine ⟨plainId_quiet plain_contains_loop _, codeAny_builtin entry_contains_loop ?_⟩
  rw [Around.under_plainId plain_contains_loop _]
  exact has_loop l its n dd sl x e _ 0 rfl A R _ ⟨hl0, he, by (simpa using h)⟩
theorem differ_loop (l b : Addr) (its jts : Array Value) (n m : Nat) (dd de : Option Addr) (sl sm : Array (Option Value)) (hz : its.size = jts.size) (e : Nat → Bool) (k : Nat) :
    ∀ i : Nat, its.size - i = k → MeetsIn prog w (Builtin.«list.__eq__.loop» ⟨[.ref l, .ref b, rawInt i, rawInt 3], []⟩)
      (fun A R s => At s l dd its n sl ∧ At s b de jts m sm ∧ (∀ j (h : j < its.size) (h' : j < jts.size), EqP prog w A.in1 s its[j] jts[j] (e j)) ∧
        R (.ok (.ret (.bool (!((List.range its.size).drop i).all e)))) s) := by
  induction k with
  | zero =>
    intro i hk A R s ⟨hl, hb, he, h⟩
    obtain ⟨hp, g, d, tk, os⟩ := s
    unfold At at hl hb
    wp_walk using (wpAny_loadPart' hl), (wpAny_loadPart' hb)
    rw [show (List.range its.size).drop i = [] by (simp; omega)] at h
    rw [show its[((i : Nat) : Int).toNat]? = none by (simp; omega), show jts[((i : Nat) : Int).toNat]? = none by (simp; omega)]
    wp_walk using (wpAny_loadPart' hl), (wpAny_loadPart' hb)
    show R (.ok (.ret (.bool (its.size != jts.size)))) _
    rw [hz]; (simpa using h)
  | succ k ih =>
    intro i hk A R s ⟨hl, hb, he, h⟩
    obtain ⟨hp, g, d, tk, os⟩ := s
    have lt : i < its.size := by omega
    have lu : i < jts.size := by omega
    have hl0 := hl
    have hb0 := hb
    unfold At at hl hb
    wp_walk using (wpAny_loadPart' hl), (wpAny_loadPart' hb)
    have e1 : its[((i : Nat) : Int).toNat]? = some its[i] := by (simp [lt])
    have e2 : jts[((i : Nat) : Int).toNat]? = some jts[i] := by (simp [lu])
    rw [show (List.range its.size).drop i = i :: (List.range its.size).drop (i + 1) by (simp [List.drop_eq_getElem_cons, lt]), List.all_cons] at h
    rw [e1, e2]
    refine wpAny_bind (he i lt lu _ _ ?_)
    cases q : e i with
    | true =>
      rw [q] at h; wp_walk; rw [show ((i : Int) + 1) = ((i + 1 : Nat) : Int) by (push_cast; rfl)]
      refine ⟨plainId_quiet plain_eq_loop _, codeAny_builtin entry_eq_loop ?_⟩
      rw [Around.under_plainId plain_eq_loop _]
      exact ih _ (by omega) A R _ ⟨hl0, hb0, he, by (simpa using h)⟩
    | false =>
      rw [q] at h; wp_walk using (wpAny_loadPart' hl), (wpAny_loadPart' hb); rw [e1, e2]; wp_walk
      (simpa using h)
theorem differ_list (l b : Addr) (its jts : Array Value) (n m : Nat) (dd de : Option Addr) (sl sm : Array (Option Value)) (hz : its.size = jts.size) (e : Nat → Bool) :
    MeetsIn prog w (Builtin.«list.__ne__» ⟨[.ref l, .ref b], []⟩)
      (fun A R s => At s l dd its n sl ∧ At s b de jts m sm ∧ (∀ j (h : j < its.size) (h' : j < jts.size), EqP prog w A.in1 s its[j] jts[j] (e j)) ∧
        R (.ok (.ret (.bool (!(List.range its.size).all e)))) s) := by
  intro A R s ⟨hl, hb, he, h⟩
  obtain ⟨hp, g, d, tk, os⟩ := s
  have hl0 := hl
  have hb0 := hb
  unfold At at hl hb
  have f3 := AutoSeq1.sub_list_list
  have ne : ¬ (its.size != jts.size) = true := by (simp [hz])
  wp_walk using (wpAny_loadPart' hl), (wpAny_loadPart' hb)
  refine ⟨plainId_quiet plain_eq_loop _, codeAny_builtin entry_eq_loop ?_⟩
  rw [Around.under_plainId plain_eq_loop _]
  exact differ_loop l b its jts n m dd de sl sm hz e _ 0 rfl A R _ ⟨hl0, hb0, he, by (simpa using h)⟩
end
end P.Q
namespace P.Q
open PySem PySem.SeqAt PySem.Spec PyProof.Rows L2 G
section
variable {prog : Program} {w : World} {A : Around} {E : Value → Shared → Prop} {s : Shared} {Q : Value → Shared → Prop}
theorem has_in {l : Addr} {its : Array Value} {x : Value} {e : Nat → Bool} (hl : s.heap.IsList l its) (he : ∀ j (h : j < its.size), EqP prog w A.in1 s its[j] x (e j)) {b : Bool} (h : Q (.bool (if b = true then !(List.range its.size).any e else (List.range its.size).any e)) s) :
    wpAny (model prog w) A (compareOp (if b = true then .NotIn else .In) x (.ref l)) Q E s := by
  obtain ⟨⟨cls, dd, data, sl⟩, ho, hc, n, hd⟩ := id hl
  dsimp only at hc hd
  subst hc hd
  have ta : s.TypeIs (.ref l) "list" := ⟨_, ho, rfl⟩
  have key : ∀ {R : Bool → Shared → Prop}, R ((List.range its.size).any e) s → wpAny (model prog w) A (contains (.ref l) x) R E s := fun {R} q =>
    wpAny_contains_slot ta PySem.F.slot_list_contains (wpAny_mono (call_meetsIn (Q := fun v s' => v = .bool ((List.range its.size).any e) ∧ s' = s) PySem.F.slot_list_contains ta PySem.F.entry_list_contains (PySem.F.args_list_contains_2 _ _) (has_list l its n dd sl x e) ⟨ho, he, ⟨rfl, rfl⟩⟩)
      (fun v s' ⟨h1, h2⟩ => by subst h1 h2; exact wpAny_truthy_bool q) fun _ _ e => e)
  cases b with
  | true =>
    rw [if_pos rfl] at h ⊢
    show wpAny _ A (do return .bool (!(← contains (.ref l) x))) Q E s
    exact wpAny_bind (key (wpAny_pure h))
  | false =>
    rw [if_neg (by decide)] at h ⊢
    show wpAny _ A (do return .bool (← contains (.ref l) x)) Q E s
    exact wpAny_bind (key (wpAny_pure h))
theorem differ_rc {l b : Addr} {its jts : Array Value} {e : Nat → Bool} (hl : s.heap.IsList l its) (hb : s.heap.IsList b jts) (hz : its.size = jts.size) (hu : A.units < cLine)
    (he : ∀ j (h1 : j < its.size) (h2 : j < jts.size), EqP prog w A.in1 s its[j] jts[j] (e j)) (h : Q (.bool (!(List.range its.size).all e)) s) : wpAny (model prog w) A (richCompare .NotEq (.ref l) (.ref b)) Q E s := by
  obtain ⟨⟨cls, dd, data, sl⟩, ho, hc, n, hd⟩ := id hl
  obtain ⟨⟨cls2, dd2, data2, sl2⟩, ho2, hc2, n2, hd2⟩ := id hb
  dsimp only at hc hd hc2 hd2
  subst hc hd hc2 hd2
  have ta : s.TypeIs (.ref l) "list" := ⟨_, ho, rfl⟩
  have tb : s.TypeIs (.ref b) "list" := ⟨_, ho2, rfl⟩
  exact wpAny_richCompare_same_room (op := .NotEq) ta tb PySem.F.slot_list_ne (call_meetsIn PySem.F.slot_list_ne ta PySem.F.entry_list_ne (PySem.F.args_list_ne_2 _ _) (differ_list l b its jts n n2 dd dd2 sl sl2 hz e)
    ⟨ho, ho2, he, show Value.bool (!(List.range its.size).all e) ≠ Value.notImplemented ∧ Q (.bool (!(List.range its.size).all e)) s from ⟨(fun x => nomatch x), h⟩⟩) hu
theorem differ_dict {K : Type} [DecidableEq K] {knd : KeyKind prog w K} {a b : Addr} {ka kb : List (K × Value)} {r : Bool} (ha : (a == sysModules) = false) (hb : (b == sysModules) = false) (da : s.heap.DictOf knd a ka) (db : s.heap.DictOf knd b kb) (hu : A.units < cLine)
    (hits : ka.length = kb.length → PySem.W.KeqHitsP prog w A.in1 s kb ka r) (h : Q (.bool (!(ka.length == kb.length && r))) s) : wpAny (model prog w) A (richCompare .NotEq (.ref a) (.ref b)) Q E s := by
  have ta : s.TypeIs (.ref a) "dict" := da.typeIs
  have tb : s.TypeIs (.ref b) "dict" := db.typeIs
  refine wpAny_richCompare_same_room (op := .NotEq) ta tb PySem.F.slot_dict_ne (wpAny_call_entry PySem.F.slot_dict_ne ta PySem.F.entry_dict_ne ?_ (PySem.F.args_dict_ne_2 _ _)) hu
  show wpAny _ _ (Builtin.Dict.dictSlotArgs "__ne__" ⟨[.ref a, .ref b], []⟩ >>= _) _ _ s
  refine wpAny_bind ?_
  unfold Builtin.Dict.dictSlotArgs
  refine wpAny_bind (wpAny_notOrdered_dict ta ?_)
  show wpAny _ _ (pure (Value.ref a, Value.ref b)) _ _ s
  refine wpAny_pure (wpAny_bind (wpAny_isInstance (T := "dict") tb PySem.F.sub_dict_dict ?_))
  simp only [Bool.not_true, Bool.false_eq_true, if_false]
  refine wpAny_bind (wpAny_pure (wpAny_bind (wpAny_pure (wpAny_bind (PySem.W.samePairsP ha hb da db hits (wpAny_pure ⟨_, rfl, (fun x => nomatch x), ?_⟩))))))
  (simpa using h)
end
end P.Q
/-! ### data with dicts -/
namespace P
open PySem PySem.Spec PyProof.Rows L2 G
inductive DV where
  | p (d : PyData) | l (ds : List DV) | d (kvs : List (Key × DV))
def lookX (ls : List (Key × DV)) (k : Key) : Option DV := (ls.find? fun kv => decide (kv.1 = k)).map (·.2)
def eqXs (f : DV → DV → Option Bool) : List DV → List DV → Option Bool
  | [], [] => some true
  | x :: xs, y :: ys => match f x y, eqXs f xs ys with
    | some a, some b => some (a && b)
    | _, _ => none
  | _, _ => none
def eqXd (f : DV → DV → Option Bool) (ls : List (Key × DV)) : List (Key × DV) → Option Bool
  | [] => some true
  | kv :: r => match lookX ls kv.1 with
    | none => some false
    | some u => match f kv.2 u, eqXd f ls r with
      | some a, some b => some (a && b)
      | _, _ => none
/-- are they equal; none: not said -/
def eqX : Nat → DV → DV → Option Bool
  | _, .p d, .p e => if min d.depth e.depth ≤ 64 then some (PyData.eqv d e) else none
  | n + 1, .l xs, .l ys => if xs.length = ys.length then eqXs (eqX n) xs ys else some false
  | n + 1, .d ks, .d ls => if (ls.map (·.1)).Nodup then (if ks.length = ls.length then eqXd (eqX n) ls ks else some false) else none
  | _ + 1, .l xs, .p (.list ys) => if xs.length = ys.length then none else some false
  | _ + 1, .p (.list xs), .l ys => if xs.length = ys.length then none else some false
  | _, _, _ => none
mutual
inductive DpX (K : PySem.W.Frag) (H : Hp) : V → DV → Prop
  | p {x : V} {d : PyData} : d.plain = true → Dp K H x d → DpX K H x (.p d)
  | l {a : Addr} {xs : List V} {ds : List DV} : SqL K H a xs → DpXs K H xs ds → DpX K H (.ref a) (.l ds)
  | d {a : Addr} {ws : List (Key × V)} {kvs : List (Key × DV)} : Rd H a (.dK ws) → DpXd K H ws kvs → DpX K H (.ref a) (.d kvs)
inductive DpXs (K : PySem.W.Frag) (H : Hp) : List V → List DV → Prop
  | nil : DpXs K H [] []
  | cons {x : V} {xs : List V} {d : DV} {ds : List DV} : DpX K H x d → DpXs K H xs ds → DpXs K H (x :: xs) (d :: ds)
inductive DpXd (K : PySem.W.Frag) (H : Hp) : List (Key × V) → List (Key × DV) → Prop
  | nil : DpXd K H [] []
  | cons {k : Key} {x : V} {xs : List (Key × V)} {d : DV} {ds : List (Key × DV)} : DpX K H x d → DpXd K H xs ds → DpXd K H ((k, x) :: xs) ((k, d) :: ds)
end
section
variable {X : Cx} {pins : List (Addr × Obj)} {σ : St} {H : Hp} {s : Shared}
theorem DpXs.len {K : PySem.W.Frag} : ∀ {xs : List V} {ds : List DV}, DpXs K H xs ds → xs.length = ds.length
  | [], _, h => by cases h; rfl
  | x :: xs, _, h => by
    cases h with
    | cons a b => exact congrArg (· + 1) (DpXs.len b)
theorem DpXd.len {K : PySem.W.Frag} : ∀ {xs : List (Key × V)} {ds : List (Key × DV)}, DpXd K H xs ds → xs.length = ds.length
  | [], _, h => by cases h; rfl
  | x :: xs, _, h => by
    cases h with
    | cons a b => exact congrArg (· + 1) (DpXd.len b)
theorem DpXd.keys {K : PySem.W.Frag} : ∀ {xs : List (Key × V)} {ds : List (Key × DV)}, DpXd K H xs ds → ds.map (·.1) = xs.map (·.1)
  | [], _, h => by cases h; rfl
  | x :: xs, _, h => by
    cases h with
    | cons a b => exact congrArg (_ :: ·) (DpXd.keys b)
theorem DpXd.look {K : PySem.W.Frag} {k : Key} : ∀ {xs : List (Key × V)} {ds : List (Key × DV)}, DpXd K H xs ds → (match lookX ds k with | none => valV xs k = none | some d => ∃ v, valV xs k = some v ∧ DpX K H v d)
  | [], _, h => by cases h; rfl
  | x :: xs, _, h => by
    cases h with
    | @cons k' v xs d ds a b =>
      unfold lookX valV
      rw [List.find?_cons, List.find?_cons]
      by_cases e : k' = k
      · rw [show decide (k' = k) = true from decide_eq_true e]
        exact ⟨v, rfl, a⟩
      · rw [show decide (k' = k) = false from decide_eq_false e]
        exact DpXd.look b
theorem DpX.list_len (I : Inv X pins σ H s) {a : Addr} {xs : List V} {ds : List PyData} (h : SqL X.K H a xs) (q : Dp X.K H (.ref a) (.list ds)) : xs.length = ds.length := by
  cases q with
  | @lst _ ys _ h' r =>
    have := I.list_inj h h'
    subst this
    clear h h'
    induction ds generalizing xs with
    | nil => cases r; rfl
    | cons d ds ih =>
      cases r with
      | cons a b => exact congrArg (· + 1) (ih b)
theorem rd_inj {a : Addr} {u v : HO} (h : Rd H a u) (h' : Rd H a v) (hu : ∀ o z, u ≠ .frz o z) (hv : ∀ o z, v ≠ .frz o z) : u = v := by
  rcases h with h | ⟨o, h⟩
  · rcases h' with h' | ⟨o', h'⟩
    · rw [h] at h'; exact Option.some.inj h'
    · rw [h] at h'; exact absurd (Option.some.inj h') (hu _ _)
  · rcases h' with h' | ⟨o', h'⟩
    · rw [h] at h'; exact absurd (Option.some.inj h').symm (hv _ _)
    · rw [h] at h'; cases h'; rfl
theorem lookX_mem {k : Key} {d : DV} : ∀ {ls : List (Key × DV)}, (ls.map (·.1)).Nodup → (k, d) ∈ ls → lookX ls k = some d
  | (k', d') :: ls, hn, hm => by
    unfold lookX
    rw [List.find?_cons]
    rw [List.map_cons, List.nodup_cons] at hn
    rcases List.mem_cons.mp hm with e | hm
    · cases e
      rw [show decide (k = k) = true from decide_eq_true rfl]; rfl
    · have ne : k' ≠ k := fun z => hn.1 (by subst z; exact List.mem_map.mpr ⟨_, hm, rfl⟩)
      rw [show decide (k' = k) = false from decide_eq_false ne]
      exact lookX_mem hn.2 hm
/-- a value is equal to itself -/
theorem eqX_refl (I : Inv X pins σ H s) : ∀ (n : Nat) {x : V} {d e : DV} {b : Bool}, DpX X.K H x d → DpX X.K H x e → eqX n d e = some b → b = true := by
  intro n
  induction n with
  | zero =>
    intro x d e b hd he q
    cases hd with
    | p pd rd =>
      cases he with
      | p pe re =>
        rename_i d1 e1
        have : d1 = e1 := by
          obtain ⟨u, ru⟩ : ∃ u, RelV x u := by
            cases x with
            | non => exact ⟨.none, rfl⟩
            | bl b => exact ⟨.bool b, rfl⟩
            | int i => exact ⟨.int i 0, _, rfl⟩
            | str y => exact ⟨.str y 0, _, rfl⟩
            | ref a => exact ⟨.ref a, rfl⟩
            | _ => cases rd
          obtain ⟨as, r1⟩ := Dp.reads I _ _ _ rd ru
          obtain ⟨cs, r2⟩ := Dp.reads I _ _ _ re ru
          exact SeqAt.plain_unique _ _ _ _ _ pd r1 r2
        subst this
        rw [eqX] at q
        split at q
        · cases q; exact SeqAt.eqv_refl_plain _ pd
        · cases q
      | l _ _ => simp [eqX] at q
      | d _ _ => simp [eqX] at q
    | l _ _ => cases he <;> simp [eqX] at q
    | d _ _ => cases he <;> simp [eqX] at q
  | succ n ih =>
    intro x d e b hd he q
    have items : ∀ {xs : List V} {ds es : List DV} {b : Bool}, DpXs X.K H xs ds → DpXs X.K H xs es → eqXs (eqX n) ds es = some b → b = true := by
      intro xs
      induction xs with
      | nil => intro ds es b h1 h2 q; cases h1; cases h2; cases q; rfl
      | cons x xs ih2 =>
        intro ds es b h1 h2 q
        cases h1 with
        | cons a1 b1 =>
          cases h2 with
          | cons a2 b2 =>
            rw [eqXs] at q
            split at q
            · rename_i r1 r2 e1 e2
              cases q
              rw [ih a1 a2 e1, ih2 b1 b2 e2]; rfl
            · cases q
    cases hd with
    | p pd rd =>
      cases he with
      | p pe re =>
        rename_i d1 e1
        have : d1 = e1 := by
          obtain ⟨u, ru⟩ : ∃ u, RelV x u := by
            cases x with
            | non => exact ⟨.none, rfl⟩
            | bl b => exact ⟨.bool b, rfl⟩
            | int i => exact ⟨.int i 0, _, rfl⟩
            | str y => exact ⟨.str y 0, _, rfl⟩
            | ref a => exact ⟨.ref a, rfl⟩
            | _ => cases rd
          obtain ⟨as, r1⟩ := Dp.reads I _ _ _ rd ru
          obtain ⟨cs, r2⟩ := Dp.reads I _ _ _ re ru
          exact SeqAt.plain_unique _ _ _ _ _ pd r1 r2
        subst this
        rw [eqX] at q
        split at q
        · cases q; exact SeqAt.eqv_refl_plain _ pd
        · cases q
      | l h1 h2 =>
        rename_i d1 a xs ds
        cases d1 with
        | list ys =>
          rw [eqX] at q
          split at q
          · cases q
          · rename_i ne
            have := DpX.list_len I h1 rd
            have := h2.len
            exact absurd (by omega) ne
        | _ => simp [eqX] at q
      | d _ _ => rename_i d1 _ _ _ _ _; cases d1 <;> simp [eqX] at q
    | l h1 h2 =>
      cases he with
      | p pe re =>
        rename_i xs ds e1
        cases e1 with
        | list ys =>
          rw [eqX] at q
          split at q
          · cases q
          · rename_i ne
            have := DpX.list_len I h1 re
            have := h2.len
            exact absurd (by omega) ne
        | _ => simp [eqX] at q
      | l h3 h4 =>
        have e := I.list_inj h1 h3
        subst e
        rw [eqX] at q
        split at q
        · exact items h2 h4 q
        · rename_i ne
          have := h2.len
          have := h4.len
          exact absurd (by omega) ne
      | d _ _ => simp [eqX] at q
    | d h1 h2 =>
      cases he with
      | p _ _ => simp [eqX] at q
      | l _ _ => simp [eqX] at q
      | d h3 h4 =>
        have e := rd_inj h1 h3 (fun _ _ z => nomatch z) (fun _ _ z => nomatch z)
        cases e
        rename_i ws ks _ ls
        rw [eqX] at q
        split at q
        · rename_i nd
          split at q
          · have key : ∀ {xs : List (Key × V)} {ds es : List (Key × DV)} {b : Bool}, DpXd X.K H xs ds → DpXd X.K H xs es → (∀ kv, kv ∈ es → kv ∈ ls) → eqXd (eqX n) ls ds = some b → b = true := by
              intro xs
              induction xs with
              | nil => intro ds es b h1 h2 _ q; cases h1; cases h2; cases q; rfl
              | cons x xs ih2 =>
                intro ds es b h1 h2 hm q
                cases h1 with
                | @cons k v _ d1 ds1 a1 b1 =>
                  cases h2 with
                  | @cons _ _ _ e1 es1 a2 b2 =>
                    rw [eqXd, lookX_mem nd (hm _ List.mem_cons_self)] at q
                    dsimp only at q
                    split at q
                    · rename_i r1 r2 q1 q2
                      cases q
                      rw [ih a1 a2 q1, ih2 b1 b2 (fun kv hk => hm kv (List.mem_cons_of_mem _ hk)) q2]; rfl
                    · cases q
            exact key h2 h4 (fun _ h => h) q
          · rename_i ne
            have := h2.len
            have := h4.len
            exact absurd (by omega) ne
        · cases q
end
end P
namespace P
open PySem PySem.Spec PyProof.Rows L2 G
theorem eqXs_bs {f : DV → DV → Option Bool} : ∀ {xs ys : List DV} {b : Bool}, eqXs f xs ys = some b → ∃ bs : List Bool, bs.length = xs.length ∧ b = bs.all id ∧ ∀ (j : Nat) (x y : DV), xs[j]? = some x → ys[j]? = some y → ∃ c, bs[j]? = some c ∧ f x y = some c
  | [], [], b, q => by cases q; exact ⟨[], rfl, rfl, fun j x y h => by simp at h⟩
  | x :: xs, y :: ys, b, q => by
    rw [eqXs] at q
    split at q
    · rename_i a c q1 q2
      cases q
      obtain ⟨bs, h1, h2, h3⟩ := eqXs_bs q2
      refine ⟨a :: bs, congrArg (· + 1) h1, by rw [List.all_cons, ← h2]; rfl, fun j u v e1 e2 => ?_⟩
      cases j with
      | zero => cases e1; cases e2; exact ⟨a, rfl, q1⟩
      | succ j => exact h3 j u v (by simpa using e1) (by simpa using e2)
    · cases q
  | [], _ :: _, _, q => by simp [eqXs] at q
  | _ :: _, [], _, q => by simp [eqXs] at q
theorem range_all (bs : List Bool) : ((List.range bs.length).all fun j => bs.getD j true) = bs.all id := by
  rw [Bool.eq_iff_iff, List.all_eq_true, List.all_eq_true]
  constructor
  · intro h b hb
    obtain ⟨j, hj, rfl⟩ := List.mem_iff_getElem.mp hb
    have := h j (List.mem_range.mpr hj)
    simpa [List.getD, List.getElem?_eq_getElem hj] using this
  · intro h j hj
    have hj' := List.mem_range.mp hj
    have := h _ (List.getElem_mem hj')
    simpa [List.getD, List.getElem?_eq_getElem hj'] using this
theorem range_any (bs : List Bool) : ((List.range bs.length).any fun j => bs.getD j false) = bs.any id := by
  rw [Bool.eq_iff_iff, List.any_eq_true, List.any_eq_true]
  constructor
  · rintro ⟨j, hj, h⟩
    have hj' := List.mem_range.mp hj
    refine ⟨_, List.getElem_mem hj', ?_⟩
    simpa [List.getD, List.getElem?_eq_getElem hj'] using h
  · rintro ⟨b, hb, h⟩
    obtain ⟨j, hj, rfl⟩ := List.mem_iff_getElem.mp hb
    exact ⟨j, List.mem_range.mpr hj, by simpa [List.getD, List.getElem?_eq_getElem hj] using h⟩
section
variable {X : Cx} {pins : List (Addr × Obj)} {σ : St} {H : Hp} {s : Shared}
theorem DpXs.get {K : PySem.W.Frag} : ∀ {xs : List V} {ds : List DV} {j : Nat} {x : V}, DpXs K H xs ds → xs[j]? = some x → ∃ d, ds[j]? = some d ∧ DpX K H x d
  | [], _, j, x, h, e => by simp at e
  | x :: xs, _, 0, y, h, e => by
    cases h with
    | cons a b => cases e; exact ⟨_, rfl, a⟩
  | x :: xs, _, j + 1, y, h, e => by
    cases h with
    | cons a b => exact DpXs.get (j := j) b (by simpa using e)
theorem vals_get : ∀ {xs : List V} {us : List Value} {j : Nat} {u : Value}, Vals xs us → us[j]? = some u → ∃ x, xs[j]? = some x ∧ RelV x u
  | _, _, j, u, .nil, e => by simp at e
  | x :: xs, u :: us, 0, v, .cons a b, e => by cases e; exact ⟨_, rfl, a⟩
  | x :: xs, u :: us, j + 1, v, .cons a b, e => vals_get (j := j) b (by simpa using e)
abbrev RcP (X : Cx) (A : Around) (s : Shared) (u v : Value) (b : Bool) : Prop :=
  (∀ (E Q : Value → Shared → Prop), Q (.bool b) s → wpAny (model X.prog X.w) A (richCompare .Eq u v) Q E s) ∧ ∀ (E Q : Value → Shared → Prop), Q (.bool (!b)) s → wpAny (model X.prog X.w) A (richCompare .NotEq u v) Q E s
theorem eqX_run (I : Inv X pins σ H s) : ∀ (n : Nat) (A : Around), A.units + n + 65 < cLine → ∀ {x y : V} {u v : Value} {d e : DV} {b : Bool}, DpX X.K H x d → DpX X.K H y e → RelV x u → RelV y v → eqX n d e = some b →
    RcP X A s u v b ∧ SeqAt.EqP X.prog X.w A s u v b := by
  have plain : ∀ (A : Around), A.units + 65 < cLine → ∀ {x y : V} {u v : Value} {d e : PyData}, d.plain = true → e.plain = true → Dp X.K H x d → Dp X.K H y e → RelV x u → RelV y v → min d.depth e.depth ≤ 64 →
      RcP X A s u v (PyData.eqv d e) ∧ SeqAt.EqP X.prog X.w A s u v (PyData.eqv d e) := fun A hu x y u v d e pd pe rd re ru rv hm => by
    obtain ⟨as, r1⟩ := Dp.reads I _ _ _ rd ru
    obtain ⟨cs, r2⟩ := Dp.reads I _ _ _ re rv
    exact ⟨⟨fun E Q q => SeqAt.eq_plain r1 r2 pd pe (by omega) q, fun E Q q => SeqAt.ne_plain r1 r2 pd pe (by omega) q⟩, (SeqAt.eqAt_plain d e A s u v _ _ r1 r2 pd pe (by omega)).eqP⟩
  -- two lists of different lengths
  have lens : ∀ (A : Around), A.units + 65 < cLine → ∀ {a c : Addr} {its jts : List Value}, s.heap.IsList a its.toArray → s.heap.IsList c jts.toArray → its.length ≠ jts.length →
      RcP X A s (.ref a) (.ref c) false ∧ SeqAt.EqP X.prog X.w A s (.ref a) (.ref c) false := fun A hu a c its jts h1 h2 ne => by
    have hz : (its.toArray.size != jts.toArray.size) = true := by simpa using ne
    have r := SeqAt.RcAt.lists_lengths (A := A) h1 h2 hz (by omega)
    refine ⟨⟨fun E Q q => r X.prog X.w E Q q, fun E Q q => SeqAt.RcNeAt.lists_lengths (A := A) h1 h2 hz (by omega) X.prog X.w E Q q⟩, (SeqAt.EqAt.of_refs (fun z => ?_) r).eqP⟩
    subst z
    obtain ⟨o, e1, _, n, e2⟩ := h1
    obtain ⟨o', e3, _, n', e4⟩ := h2
    rw [e1] at e3
    cases e3
    rw [e2] at e4
    cases e4
    exact ne rfl
  have plist : ∀ {c : Addr} {ys : List PyData}, Dp X.K H (.ref c) (.list ys) → ∃ its : List Value, its.length = ys.length ∧ s.heap.IsList c its.toArray := fun {c ys} re => by
    cases re with
    | @lst _ zs _ h1 h2 =>
      obtain ⟨its, r1, p1, _⟩ := I.list h1
      refine ⟨its, ?_, p1.isList⟩
      rw [← r1.length, DpX.list_len I h1 (.lst h1 h2)]
  intro n
  induction n with
  | zero =>
    intro A hu x y u v d e b hd he ru rv q
    cases hd with
    | p pd rd =>
      cases he with
      | p pe re =>
        rw [eqX] at q
        split at q
        · rename_i hm; cases q; exact plain A (by omega) pd pe rd re ru rv hm
        · cases q
      | l _ _ => simp [eqX] at q
      | d _ _ => simp [eqX] at q
    | l _ _ => cases he <;> simp [eqX] at q
    | d _ _ => cases he <;> simp [eqX] at q
  | succ n ih =>
    intro A hu x y u v d e b hd he ru rv q
    have full := q
    cases hd with
    | p pd rd =>
      cases he with
      | p pe re =>
        rw [eqX] at q
        split at q
        · rename_i hm; cases q; exact plain A (by omega) pd pe rd re ru rv hm
        · cases q
      | l h1 h2 =>
        rename_i d1 c xs ds
        cases d1 with
        | list ys =>
          rw [eqX] at q
          split at q
          · cases q
          · rename_i ne
            cases q
            obtain ⟨a, rfl⟩ : ∃ a, x = .ref a := by cases rd with | lst _ _ => exact ⟨_, rfl⟩
            cases (show u = Value.ref a from ru)
            cases (show v = Value.ref c from rv)
            obtain ⟨its, l1, k1⟩ := plist rd
            obtain ⟨jts, r2, k2, _⟩ := I.list h1
            exact lens A (by omega) k1 k2.isList (by rw [l1, ← r2.length, h2.len]; exact ne)
        | _ => simp [eqX] at q
      | d _ _ => rename_i d1 _ _ _ _ _; cases d1 <;> simp [eqX] at q
    | l h1 h2 =>
      rename_i a xs ds
      cases (show u = Value.ref a from ru)
      cases he with
      | p pe re =>
        rename_i e1
        cases e1 with
        | list ys =>
          rw [eqX] at q
          split at q
          · cases q
          · rename_i ne
            cases q
            obtain ⟨c, rfl⟩ : ∃ a, y = .ref a := by cases re with | lst _ _ => exact ⟨_, rfl⟩
            cases (show v = Value.ref c from rv)
            obtain ⟨its, l1, k1⟩ := plist re
            obtain ⟨jts, r2, k2, _⟩ := I.list h1
            exact lens A (by omega) k2.isList k1 (by rw [l1, ← r2.length, h2.len]; exact ne)
        | _ => simp [eqX] at q
      | l h3 h4 =>
        rename_i c ys es
        cases (show v = Value.ref c from rv)
        obtain ⟨its, r1, k1, _⟩ := I.list h1
        obtain ⟨jts, r2, k2, _⟩ := I.list h3
        rw [eqX] at q
        split at q
        · rename_i hl
          obtain ⟨bs, b1, b2, b3⟩ := eqXs_bs q
          have z1 : its.length = ds.length := by rw [← r1.length, h2.len]
          have z2 : jts.length = es.length := by rw [← r2.length, h4.len]
          have hz : its.toArray.size = jts.toArray.size := by simp only [List.size_toArray]; omega
          have he : ∀ j (j1 : j < its.toArray.size) (j2 : j < jts.toArray.size), SeqAt.EqP X.prog X.w A.in1 s its.toArray[j] jts.toArray[j] (bs.getD j true) := fun j j1 j2 => by
            have j1' : j < its.length := by simpa using j1
            have j2' : j < jts.length := by simpa using j2
            obtain ⟨x1, e1, f1⟩ := vals_get r1 (List.getElem?_eq_getElem j1')
            obtain ⟨x2, e2, f2⟩ := vals_get r2 (List.getElem?_eq_getElem j2')
            obtain ⟨d1, e3, f3⟩ := h2.get e1
            obtain ⟨d2, e4, f4⟩ := h4.get e2
            obtain ⟨cc, e5, f5⟩ := b3 j d1 d2 e3 e4
            have : bs.getD j true = cc := by rw [List.getD, e5]; rfl
            rw [this]
            simpa using (ih A.in1 (by show A.units + 1 + n + 65 < cLine; omega) f3 f4 f1 f2 f5).2
          have hb : (List.range its.toArray.size).all (fun j => bs.getD j true) = b := by
            rw [b2, ← range_all bs, List.size_toArray, z1, ← b1]
          have rc : RcP X A s (.ref a) (.ref c) b := ⟨fun E Q q' => SeqAt.rcP_lists k1.isList k2.isList hz (by omega) he E Q (by rw [hb]; exact q'), fun E Q q' => P.Q.differ_rc k1.isList k2.isList hz (by omega) he (by rw [hb]; exact q')⟩
          refine ⟨rc, ?_⟩
          by_cases ac : a = c
          · subst ac
            rw [eqX_refl I (n + 1) (.l h1 h2) (.l h3 h4) full]
            exact (SeqAt.EqAt.same _).eqP
          · exact SeqAt.eqP_refs ac rc.1
        · rename_i ne
          cases q
          exact lens A (by omega) k1.isList k2.isList (by rw [← r1.length, ← r2.length, h2.len, h4.len]; exact ne)
      | d _ _ => simp [eqX] at q
    | d h1 h2 =>
      rename_i a ws ks
      cases (show u = Value.ref a from ru)
      cases he with
      | p _ _ => simp [eqX] at q
      | l _ _ => simp [eqX] at q
      | d h3 h4 =>
        rename_i c us ls
        cases (show v = Value.ref c from rv)
        have ob : ∀ {a : Addr} {ws : List (Key × V)}, Rd H a (.dK ws) → (a == sysModules) = false ∧ ∃ vs, KV ws vs ∧ s.heap.DictOf (mixKind X.prog X.w) a vs := fun {a ws} h => by
          rcases h with h | ⟨o, h⟩
          · obtain ⟨_, z1, vs, z2, z3⟩ := (show ObjOk X.prog X.w H s.heap a (.dK ws) from I.hok a _ h)
            exact ⟨z1, vs, z2, z3⟩
          · obtain ⟨_, _, z1, vs, z2, z3⟩ := (show ObjOk X.prog X.w H s.heap a (.frz o (.dK ws)) from I.hok a _ h)
            exact ⟨z1, vs, z2, z3⟩
        obtain ⟨sa, va, ra, da⟩ := ob h1
        obtain ⟨sb, vb, rb, db⟩ := ob h3
        rw [eqX] at q
        split at q
        · rename_i nd
          have la : va.length = ks.length := by rw [← ra.length, h2.len]
          have lb : vb.length = ls.length := by rw [← rb.length, h4.len]
          have main : ∀ r, (va.length = vb.length → PySem.W.KeqHitsP X.prog X.w A.in1 s vb va r) → b = (va.length == vb.length && r) → RcP X A s (.ref a) (.ref c) b ∧ SeqAt.EqP X.prog X.w A s (.ref a) (.ref c) b := fun r hits hb => by
            have rc : RcP X A s (.ref a) (.ref c) b := ⟨fun E Q q' => PySem.W.rcP_dicts (knd := mixKind X.prog X.w) sa sb da db (by omega) hits E Q (by rw [← hb]; exact q'), fun E Q q' => P.Q.differ_dict (knd := mixKind X.prog X.w) sa sb da db (by omega) hits (by rw [← hb]; exact q')⟩
            refine ⟨rc, ?_⟩
            by_cases ac : a = c
            · subst ac
              rw [eqX_refl I (n + 1) (.d h1 h2) (.d h3 h4) full]
              exact (SeqAt.EqAt.same _).eqP
            · exact SeqAt.eqP_refs ac rc.1
          split at q
          · rename_i hl
            have hits : ∀ {xs : List (Key × V)} {ds : List (Key × DV)} {vs : List (Key × Value)} {b : Bool}, DpXd X.K H xs ds → KV xs vs → eqXd (eqX n) ls ds = some b → PySem.W.KeqHitsP X.prog X.w A.in1 s vb vs b := by
              intro xs
              induction xs with
              | nil => intro ds vs b h1 h2 q; cases h1; cases h2; cases q; exact .nil
              | cons p xs ih2 =>
                intro ds vs b g1 g2 q
                cases g1 with
                | @cons k x1 _ d1 ds1 a1 b1 =>
                  cases g2 with
                  | @cons _ w _ ws' g3 g4 =>
                    obtain ⟨k', v'⟩ := w
                    obtain ⟨ek, rv'⟩ := g3
                    dsimp only at ek rv'
                    subst ek
                    rw [eqXd] at q
                    have lk := h4.look (k := k)
                    have rr := rb.val k
                    dsimp only at q
                    split at q
                    · rename_i q0
                      cases q
                      rw [q0] at lk
                      rw [show valV us k = none from lk] at rr
                      exact .miss rr.none_of
                    · rename_i u1 q0
                      rw [q0] at lk
                      obtain ⟨y1, ly, dy⟩ := lk
                      rw [ly] at rr
                      obtain ⟨w1, ew, rw1⟩ := rr.some_of
                      split at q
                      · rename_i r1 r2 q1 q2
                        cases q
                        exact .hit ew (ih A.in1 (by show A.units + 1 + n + 65 < cLine; omega) a1 dy rv' rw1 q1).2 (ih2 b1 g4 q2)
                      · cases q
            exact main b (fun _ => hits h2 ra q) (by rw [la, lb, hl]; simp)
          · rename_i ne
            cases q
            have nl : va.length ≠ vb.length := by rw [la, lb]; exact ne
            exact main true (fun z => absurd z nl) (by simp [nl])
        · cases q
end
end P

/-! P: == and in for all that holds data. -/
namespace P
open PySem PySem.Spec PyProof.Rows L2 G
def mapO {α β : Type} (f : α → Option β) : List α → Option (List β)
  | [] => some []
  | x :: xs => match f x, mapO f xs with
    | some y, some ys => some (y :: ys)
    | _, _ => none
def lsX (f : FV → Option DV) (ds : List FV) : Option DV := if FV.pures ds = true then some (.p (.list (FV.pys ds))) else (mapO f ds).map .l
def dcX (f : FV → Option DV) (kvs : List (Key × FV)) : Option DV := (mapO f (kvs.map (·.2))).map fun ds => .d ((kvs.map (·.1)).zip ds)
/-- a value's data, dicts too -/
def FV.dv (h : FH) : Nat → FV → Option DV
  | 0, x => if x.pure = true then some (.p x.py) else none
  | n + 1, x => if x.pure = true then some (.p x.py) else match x with
    | .fl xs => (mapO (FV.dv h n) xs).map .l
    | .fd ks vs => (mapO (FV.dv h n) vs).map fun ds => .d (ks.zip ds)
    | .ref m => match h[m]? with
      | some (.lst ds) => lsX (FV.dv h n) ds
      | some (.dK kvs) => dcX (FV.dv h n) kvs
      | _ => none
    | _ => none
def RV.dv (r : RV) (h : FH) : Option DV := match r with
  | .v x => x.dv h 3
  | .l ds => lsX (FV.dv h 3) ds
  | .bl ds => lsX (FV.dv h 3) ds
  | .d kvs => dcX (FV.dv h 3) kvs
  | .bd kvs => dcX (FV.dv h 3) kvs
  | _ => none
section
variable {B : Bs} {H H0 : Hp} {μ : Nat → Addr} {n k : Nat} {h : FH}
theorem mapO_ok {f : FV → Option DV} (hf : ∀ (d : FV) (v : V) (e : DV), VR B H μ n d v → f d = some e → DpX B.K H v e) : ∀ {ds : List FV} {vs : List V} {es : List DV}, VRs B H μ n ds vs → mapO f ds = some es → DpXs B.K H vs es
  | [], _, es, r, e => by cases r; cases e; exact .nil
  | d :: ds, _, es, r, e => by
    cases r with
    | cons a b =>
      rw [mapO] at e
      split at e
      · rename_i y ys e1 e2
        cases e
        exact .cons (hf _ _ _ a e1) (mapO_ok hf b e2)
      · cases e
theorem zipX {K : PySem.W.Frag} : ∀ {ks : List Key} {vs : List V} {es : List DV}, DpXs K H vs es → DpXd K H (ks.zip vs) (ks.zip es)
  | [], _, _, _ => by rw [List.zip_nil_left, List.zip_nil_left]; exact .nil
  | k :: ks, _, _, .nil => .nil
  | k :: ks, _, _, .cons a b => .cons a (zipX b)
theorem lsX_ok {f : FV → Option DV} (hf : ∀ (d : FV) (v : V) (e : DV), VR B H μ n d v → f d = some e → DpX B.K H v e) {ds : List FV} {xs : List V} {a : Addr} {e : DV} (q : SqL B.K H a xs) (r : VRs B H μ n ds xs) (z : lsX f ds = some e) : DpX B.K H (.ref a) e := by
  unfold lsX at z
  split at z
  · rename_i hp
    cases z
    exact .p (by simpa [PyData.plain] using FV.pys_plain) (.lst q (r.dp hp))
  · cases q' : mapO f ds with
    | none => rw [q'] at z; cases z
    | some es => rw [q'] at z; cases z; exact .l q (mapO_ok hf r q')
theorem dcX_ok {f : FV → Option DV} (hf : ∀ (d : FV) (v : V) (e : DV), VR B H μ n d v → f d = some e → DpX B.K H v e) {kvs : List (Key × FV)} {ws : List (Key × V)} {a : Addr} {e : DV} (q : Rd H a (.dK ws)) (r : KvR B H μ n kvs ws) (z : dcX f kvs = some e) : DpX B.K H (.ref a) e := by
  unfold dcX at z
  cases q' : mapO f (kvs.map (·.2)) with
  | none => rw [q'] at z; cases z
  | some es =>
    rw [q'] at z
    cases z
    refine .d q ?_
    have := zipX (ks := ws.map (·.1)) (mapO_ok hf r.snd q')
    rw [zip_parts, r.fst] at this
    exact this
theorem FV.dv_ok (hr : HR B μ h H) : ∀ (k : Nat) (d : FV) (v : V) (e : DV), VR B H μ h.length d v → d.dv h k = some e → DpX B.K H v e
  | 0, d, v, e, r, q => by
    unfold FV.dv at q
    split at q
    · rename_i hp; cases q; exact .p FV.py_plain (r.dp hp)
    · cases q
  | k + 1, d, v, e, r, q => by
    have ih := FV.dv_ok hr k
    unfold FV.dv at q
    split at q
    · rename_i hp; cases q; exact .p FV.py_plain (r.dp hp)
    · rename_i np
      clear np
      split at q
      · rename_i xs
        cases z : mapO (FV.dv h k) xs with
        | none => rw [z] at q; cases q
        | some es =>
          rw [z] at q
          cases q
          cases r with
          | fl a b => exact .l (.inl a.rd) (mapO_ok ih b z)
      · rename_i ks vs
        cases z : mapO (FV.dv h k) vs with
        | none => rw [z] at q; cases q
        | some es =>
          rw [z] at q
          cases q
          cases r with
          | fd a b => exact .d a.rd (zipX (mapO_ok ih b z))
      · rename_i m
        cases r with
        | ref lm =>
          split at q
          · rename_i ds z
            obtain ⟨xs, h1, h2⟩ := hr.at' m _ z
            exact lsX_ok ih (SqL.of h1) h2 q
          · rename_i kvs z
            obtain ⟨ws, h1, h2⟩ := hr.at' m _ z
            exact dcX_ok ih (Rd.of h1) h2 q
          · cases q
      · cases q
theorem dv_ok {x : RV} {u : V} {e : DV} (hr : HR B μ h H) (r : RR B H0 μ h.length H x u) (q : x.dv h = some e) : DpX B.K H u e := by
  unfold RV.dv at q
  split at q
  · cases r with | v r => exact FV.dv_ok hr _ _ _ _ r q
  · cases r with | l f a b => exact lsX_ok (FV.dv_ok hr _) (SqL.of a) b q
  · cases r with | bl f a b => exact lsX_ok (FV.dv_ok hr _) (SqL.of a) b q
  · cases r with | d f a b => exact dcX_ok (FV.dv_ok hr _) (Rd.of a) b q
  · cases r with | bd f a b => exact dcX_ok (FV.dv_ok hr _) (Rd.of a) b q
  · cases q
end
section
variable {X : Cx} {W : WX} {E : Ent} {Γ : Sl} {e a b c : Expr} {es : List Expr} {pos p0 p1 p2 : Pos} {fa fb fc : M RV} {k : Nat}
/-! ### ==, != -/
def rQ (K : PySem.W.Frag) (neg : Bool) : R2 := fun x y H Q => ∃ d e b, DpX K H x d ∧ DpX K H y e ∧ eqX 4 d e = some b ∧ Q (.bl (if neg = true then !b else b)) H
theorem op_Q (hu : X.A.units + 69 < cLine) : OpR X (compareOp .Eq) (rQ X.K false) := by
  intro pins s σ H x y v u Q I rx ry h
  obtain ⟨d, e, b, hd, he, z, q⟩ := h
  exact (eqX_run I 4 X.A (by omega) hd he rx ry z).1.1 _ _ ⟨.bl b, H, I, rfl, q⟩
theorem op_nQ (hu : X.A.units + 69 < cLine) : OpR X (compareOp .NotEq) (rQ X.K true) := by
  intro pins s σ H x y v u Q I rx ry h
  obtain ⟨d, e, b, hd, he, z, q⟩ := h
  exact (eqX_run I 4 X.A (by omega) hd he rx ry z).1.2 _ _ ⟨.bl (!b), H, I, rfl, q⟩
def gQ (neg : Bool) (x y : RV) (h : FH) : Option Bool := match x.dv h, y.dv h with
  | some d, some e => (eqX 4 d e).map fun b => if neg = true then !b else b
  | _, _ => none
theorem q_ok {neg : Bool} : CmpOk X (rQ X.K neg) (gQ neg) := fun μ h H0 H x y u v Q z hr rx ry e k => by
  unfold gQ at e
  split at e
  · rename_i d d' e1 e2
    cases e3 : eqX 4 d d' with
    | none => rw [e3] at e; cases e
    | some b =>
      rw [e3] at e
      cases e
      exact ⟨d, d', b, dv_ok hr rx e1, dv_ok hr ry e2, e3, k H (Same.refl H)⟩
  · cases e
theorem units69 {k : Nat} {A : Around} (r : Room k A) : A.units + 70 < cLine := by have := r.un; omega
theorem jt_q (hr : Room k X.A) (ha : JE X W E Γ a fa) (hb : JE X W E Γ b fb) : JT X W E Γ (.Compare a [.Eq] [b] pos) (bnd fa fun x => bnd fb fun y => oC (gQ false) x y) := jt_cmp (op_Q (by have := units69 hr; omega)) q_ok ha hb (nomark _)
theorem jt_nq (hr : Room k X.A) (ha : JE X W E Γ a fa) (hb : JE X W E Γ b fb) : JT X W E Γ (.Compare a [.NotEq] [b] pos) (bnd fa fun x => bnd fb fun y => oC (gQ true) x y) := jt_cmp (op_nQ (by have := units69 hr; omega)) q_ok ha hb (nomark _)
theorem je_q (hr : Room k X.A) (ha : JE X W E Γ a fa) (hb : JE X W E Γ b fb) : JE X W E Γ (.Compare a [.Eq] [b] pos) (mB (bnd fa fun x => bnd fb fun y => oC (gQ false) x y)) := je_cmp (op_Q (by have := units69 hr; omega)) q_ok ha hb (nomark _)
theorem je_nq (hr : Room k X.A) (ha : JE X W E Γ a fa) (hb : JE X W E Γ b fb) : JE X W E Γ (.Compare a [.NotEq] [b] pos) (mB (bnd fa fun x => bnd fb fun y => oC (gQ true) x y)) := je_cmp (op_nQ (by have := units69 hr; omega)) q_ok ha hb (nomark _)
/-! ### in: lists of data with dicts, else as before -/
def anyX (f : DV → Option Bool) : List DV → Option (List Bool)
  | [] => some []
  | x :: xs => match f x, anyX f xs with
    | some a, some b => some (a :: b)
    | _, _ => none
theorem anyX_at {f : DV → Option Bool} : ∀ {xs : List DV} {bs : List Bool}, anyX f xs = some bs → bs.length = xs.length ∧ ∀ (j : Nat) (x : DV), xs[j]? = some x → ∃ c, bs[j]? = some c ∧ f x = some c
  | [], bs, q => by cases q; exact ⟨rfl, fun j x e => by simp at e⟩
  | x :: xs, bs, q => by
    rw [anyX] at q
    split at q
    · rename_i a c q1 q2
      cases q
      obtain ⟨h1, h2⟩ := anyX_at q2
      refine ⟨congrArg (· + 1) h1, fun j u e => ?_⟩
      cases j with
      | zero => cases e; exact ⟨a, rfl, q1⟩
      | succ j => exact h2 j u (by simpa using e)
    · cases q
def rMx (K : PySem.W.Frag) (neg : Bool) : R2 := fun x y H Q => ∃ d a xs es bs, DpX K H x d ∧ y = .ref a ∧ SqL K H a xs ∧ DpXs K H xs es ∧ anyX (fun z => eqX 4 z d) es = some bs ∧ Q (.bl (if neg = true then !bs.any id else bs.any id)) H
theorem mx_run {neg : Bool} (hu : X.A.units + 70 < cLine) {pins : List (Addr × Obj)} {s : Shared} {σ : St} {H : Hp} {x y : V} {v u : Value} {Q : VK} (I : Inv X pins σ H s) (rx : RelV x v) (ry : RelV y u) (h : rMx X.K neg x y H Q) :
    wpAny (model X.prog X.w) X.A (compareOp (if neg = true then .NotIn else .In) v u) (EP X pins σ Q) X.xe s := by
  obtain ⟨d, a, xs, es, bs, hd, rfl, hl, hx, hb, q⟩ := h
  obtain rfl : u = Value.ref a := ry
  obtain ⟨its, r1, k1, _⟩ := I.list hl
  obtain ⟨b1, b2⟩ := anyX_at hb
  have z1 : its.length = es.length := by rw [← r1.length, hx.len]
  refine P.Q.has_in (e := fun j => bs.getD j false) k1.isList (fun j j1 => ?_) ?_
  · have j1' : j < its.length := by simpa using j1
    obtain ⟨x1, e1, f1⟩ := vals_get r1 (List.getElem?_eq_getElem j1')
    obtain ⟨d1, e3, f3⟩ := hx.get e1
    obtain ⟨cc, e5, f5⟩ := b2 j d1 e3
    have : bs.getD j false = cc := by rw [List.getD, e5]; rfl
    rw [this]
    have := (eqX_run I 4 X.A.in1 (by show X.A.units + 1 + 4 + 65 < cLine; omega) f3 hd f1 rx f5).2
    simpa using this
  · have e : (List.range its.toArray.size).any (fun j => bs.getD j false) = bs.any id := by rw [← range_any bs, List.size_toArray, z1, ← b1]
    rw [e]
    exact ⟨.bl _, H, I, rfl, q⟩
theorem op_mx (hu : X.A.units + 70 < cLine) : OpR X (compareOp .In) (rMx X.K false) := fun pins s σ H x y v u Q I rx ry h => mx_run (neg := false) hu I rx ry h
theorem op_nmx (hu : X.A.units + 70 < cLine) : OpR X (compareOp .NotIn) (rMx X.K true) := fun pins s σ H x y v u Q I rx ry h => mx_run (neg := true) hu I rx ry h
/-- a text within a text -/
def inS (w z : Str) : Bool := !(Builtin.Str.occurrences z w 0 z.length 1).isEmpty
def rInS (neg : Bool) : R2 := fun x y H Q => ∃ i j, x = .str i ∧ y = .str j ∧ Q (.bl (if neg = true then !inS i j else inS i j)) H
def gMx (neg : Bool) (x y : RV) (h : FH) : Option Bool := match gIn neg x y h with
  | some b => some b
  | none => match x, y with
    | .v (.str w), .v (.str z) => some (if neg = true then !inS w z else inS w z)
    | x, y => match x.dv h, y.seq h with
      | some d, some (false, ds) => match mapO (FV.dv h 3) ds with
        | some es => (anyX (fun z => eqX 4 z d) es).map fun bs => if neg = true then !bs.any id else bs.any id
        | none => none
      | _, _ => none
theorem mx_ok {neg : Bool} : CmpOk X (fun x y H Q => (rInH X.K neg x y H Q ∨ rInS neg x y H Q) ∨ rMx X.K neg x y H Q) (gMx neg) := fun μ h H0 H x y u v Q z hr rx ry e k => by
  unfold gMx at e
  split at e
  · rename_i b q
    cases e
    exact .inl (.inl (in_ok μ h H0 H x y u v Q _ hr rx ry q k))
  · split at e
    · cases e
      exact .inl (.inr ⟨_, _, rr_str rx, rr_str ry, k H (Same.refl H)⟩)
    split at e
    · rename_i d ds e1 e2
      split at e
      · rename_i es e3
        cases e4 : anyX (fun z => eqX 4 z d) es with
        | none => rw [e4] at e; cases e
        | some bs =>
          rw [e4] at e
          cases e
          obtain ⟨a, xs, rfl, h2, h3⟩ := seq_ok hr ry e2
          rw [if_neg (by decide)] at h3
          exact .inr ⟨d, a, xs, es, bs, dv_ok hr rx e1, rfl, h3, mapO_ok (FV.dv_ok hr 3) h2 e3, e4, k H (Same.refl H)⟩
      · cases e
    · cases e
theorem jt_mx (hr : Room k X.A) (ha : JE X W E Γ a fa) (hb : JE X W E Γ b fb) (hm : behindInMarks .In b = false := by rfl) : JT X W E Γ (.Compare a [.In] [b] pos) (bnd fa fun x => bnd fb fun y => oC (gMx false) x y) := jt_cmp (OpR.or (OpR.or (op_inH (units66' hr)) op_in_str) (op_mx (units69 hr))) mx_ok ha hb hm
theorem jt_nmx (hr : Room k X.A) (ha : JE X W E Γ a fa) (hb : JE X W E Γ b fb) (hm : behindInMarks .NotIn b = false := by rfl) : JT X W E Γ (.Compare a [.NotIn] [b] pos) (bnd fa fun x => bnd fb fun y => oC (gMx true) x y) := jt_cmp (OpR.or (OpR.or (op_notInH (units66' hr)) op_notIn_str) (op_nmx (units69 hr))) mx_ok ha hb hm
theorem je_mx (hr : Room k X.A) (ha : JE X W E Γ a fa) (hb : JE X W E Γ b fb) (hm : behindInMarks .In b = false := by rfl) : JE X W E Γ (.Compare a [.In] [b] pos) (mB (bnd fa fun x => bnd fb fun y => oC (gMx false) x y)) := je_cmp (OpR.or (OpR.or (op_inH (units66' hr)) op_in_str) (op_mx (units69 hr))) mx_ok ha hb hm
theorem je_nmx (hr : Room k X.A) (ha : JE X W E Γ a fa) (hb : JE X W E Γ b fb) (hm : behindInMarks .NotIn b = false := by rfl) : JE X W E Γ (.Compare a [.NotIn] [b] pos) (mB (bnd fa fun x => bnd fb fun y => oC (gMx true) x y)) := je_cmp (OpR.or (OpR.or (op_notInH (units66' hr)) op_notIn_str) (op_nmx (units69 hr))) mx_ok ha hb hm
end
end P

/-! P: what a call made is frozen, through and through. -/
namespace P
open PySem PySem.Spec PyProof.Rows L2 G
/-- .. several things frozen, one after another -/
inductive Gs (Z : Hp → Prop) : Hp → Prop
  | here {H : Hp} : Z H → Gs Z H
  | more {H : Hp} {p : Addr} {u : HO} : H p = some u → Mut (some u) → (∀ od, Gs Z (upd H p (.frz od u))) → Gs Z H
theorem wE.gs {X : Cx} {e : Expr} {σ : L2.St} {H : Hp} {Q : VK} (h : wE X e σ H fun v => Gs (Q v)) : wE X e σ H Q := ⟨fun pins s I =>
  thn (h.go pins s I) fun v s' ⟨x, H', I', r, z⟩ => by
    clear h
    induction z with
    | here z => exact ⟨x, _, I', r, z⟩
    | more e1 m z ih =>
      obtain ⟨od, I2⟩ := I'.lock e1 m
      exact ih od I2⟩
/-- x with all objects from n on frozen -/
def FV.dz (n : Nat) (h : FH) : Nat → FV → Option FV
  | 0, x => if x.lowB n = true then some x else none
  | k + 1, x => if x.lowB n = true then some x else match x with
    | .ref i => match h[i]? with
      | some (.lst ds) => (mapO (FV.dz n h k) ds).map .fl
      | some (.dK kvs) => (mapO (FV.dz n h k) (kvs.map (·.2))).map (.fd (kvs.map (·.1)))
      | some (.dT kvs) => (mapO (FV.dz n h k) (kvs.map (·.2))).map (.ft (kvs.map (·.1)))
      | some (.ins c fs) => (mapO (FV.dz n h k) (fs.map (·.2))).map (.fo c (fs.map (·.1)))
      | _ => none
    | .tup xs => (mapO (FV.dz n h k) xs).map .tup
    | .fl xs => (mapO (FV.dz n h k) xs).map .fl
    | .fd ks xs => (mapO (FV.dz n h k) xs).map (.fd ks)
    | .ft ks xs => (mapO (FV.dz n h k) xs).map (.ft ks)
    | .fo c ks xs => (mapO (FV.dz n h k) xs).map (.fo c ks)
    | _ => none
def dzs (n : Nat) (h : FH) {κ : Type} (kvs : List (κ × FV)) : Option (List (κ × FV)) := (mapO (FV.dz n h 4) (kvs.map (·.2))).map fun vs => (kvs.map (·.1)).zip vs
def RV.dz (n : Nat) (h : FH) : RV → Option RV
  | .v x => (x.dz n h 5).map .v
  | .l ds => (mapO (FV.dz n h 4) ds).map .l
  | .d kvs => (dzs n h kvs).map .d
  | .t kvs => (dzs n h kvs).map .t
  | .o c fs => (dzs n h fs).map (.o c)
  | _ => none
def dzR (n : Nat) (r : RV) (h : FH) : Rs RV :=
  if n < h.length ∧ (h.take n).all (·.lowB n) = true then match r.dz n h with
    | some r' => .ok r' (h.take n)
    | none => .ok r h
  else .ok r h
def dF (m : M RV) : M RV := fun h => match m h with
  | .ok r h' => dzR h.length r h'
  | .ex x h' => .ex x h'
  | .no => .no
section
variable {B : Bs} {μ μ' : Nat → Addr} {n : Nat} {h h' : FH} {H H' H2 : Hp} {r r' : RV} {u : V}
/-- from n on all stands frozen -/
structure Frz (μ' : Nat → Addr) (n : Nat) (h' : FH) (H' H2 : Hp) : Prop where
  gw : Gw H' H2
  at' : ∀ i, n ≤ i → i < h'.length → ∀ w, H' (μ' i) = some w → (∃ od, H2 (μ' i) = some (.frz od w)) ∨ (∃ od z, w = .frz od z)
  else' : ∀ a, (∀ i, n ≤ i → i < h'.length → μ' i ≠ a) → H2 a = H' a
theorem vrs_map {f : FV → Option FV} (hf : ∀ d v d', VR B H' μ' h'.length d v → f d = some d' → VR B H2 μ' n d' v) : ∀ {ds : List FV} {vs : List V} {es : List FV}, VRs B H' μ' h'.length ds vs → mapO f ds = some es → VRs B H2 μ' n es vs
  | [], _, es, r, e => by cases r; cases e; exact .nil
  | d :: ds, _, es, r, e => by
    cases r with
    | cons a b =>
      rw [mapO] at e
      split at e
      · rename_i y ys e1 e2
        cases e
        exact .cons (hf _ _ _ a e1) (vrs_map hf b e2)
      · cases e
theorem dz_ok (hr : HR B μ' h' H') (fz : Frz μ' n h' H' H2) : ∀ (k : Nat) (d : FV) (v : V) (d' : FV), VR B H' μ' h'.length d v → d.dz n h' k = some d' → VR B H2 μ' n d' v := by
  have low : ∀ {d : FV} {v : V}, VR B H' μ' h'.length d v → d.lowB n = true → VR B H2 μ' n d v := fun {d v} r hl => VR.mono fz.gw (fun _ _ => rfl) (Nat.le_refl _) _ _ (r.low (lowB_ok hl))
  intro k
  induction k with
  | zero =>
    intro d v d' r q
    unfold FV.dz at q
    split at q
    · cases q; exact low r ‹_›
    · cases q
  | succ k ih =>
    intro d v d' r q
    unfold FV.dz at q
    split at q
    · cases q; exact low r ‹_›
    · rename_i nl
      split at q
      · rename_i i
        cases r with
        | ref li =>
          have hi : n ≤ i := Nat.le_of_not_lt fun z => nl (by simp only [FV.lowB, decide_eq_true_eq]; exact z)
          split at q
          · rename_i ds z
            obtain ⟨xs, h1, h2⟩ := hr.at' i _ z
            rcases fz.at' i hi li _ h1 with ⟨od, h3⟩ | ⟨_, _, h3⟩
            · cases q' : mapO (FV.dz n h' k) ds with
              | none => rw [q'] at q; cases q
              | some es => rw [q'] at q; cases q; exact .fl ⟨od, h3⟩ (vrs_map ih h2 q')
            · cases h3
          · rename_i kvs z
            obtain ⟨ws, h1, h2⟩ := hr.at' i _ z
            rcases fz.at' i hi li _ h1 with ⟨od, h3⟩ | ⟨_, _, h3⟩
            · cases q' : mapO (FV.dz n h' k) (kvs.map (·.2)) with
              | none => rw [q'] at q; cases q
              | some es =>
                rw [q'] at q; cases q
                exact .fd (xs := ws.map (·.2)) ⟨od, by rw [h3, ← h2.fst, zip_parts]⟩ (vrs_map ih h2.snd q')
            · cases h3
          · rename_i kvs z
            obtain ⟨ws, h1, h2⟩ := hr.at' i _ z
            rcases fz.at' i hi li _ h1 with ⟨od, h3⟩ | ⟨_, _, h3⟩
            · cases q' : mapO (FV.dz n h' k) (kvs.map (·.2)) with
              | none => rw [q'] at q; cases q
              | some es =>
                rw [q'] at q; cases q
                exact .ft (xs := ws.map (·.2)) ⟨od, by rw [h3, ← h2.fst, zip_parts]⟩ (vrs_map ih h2.snd q')
            · cases h3
          · rename_i c fs z
            obtain ⟨C, dx, ws, h0, h1, h2⟩ := hr.at' i _ z
            rcases fz.at' i hi li _ h1 with ⟨od, h3⟩ | ⟨_, _, h3⟩
            · cases q' : mapO (FV.dz n h' k) (fs.map (·.2)) with
              | none => rw [q'] at q; cases q
              | some es =>
                rw [q'] at q; cases q
                exact .fo (xs := ws.map (·.2)) h0 ⟨od, by rw [h3, ← h2.fst, zip_parts]⟩ (vrs_map ih h2.snd q')
            · cases h3
          · cases q
      · rename_i xs
        cases q' : mapO (FV.dz n h' k) xs with
        | none => rw [q'] at q; cases q
        | some es =>
          rw [q'] at q; cases q
          cases r with | tup a b => exact .tup (fz.gw.sqt a) (vrs_map ih b q')
      · rename_i xs
        cases q' : mapO (FV.dz n h' k) xs with
        | none => rw [q'] at q; cases q
        | some es =>
          rw [q'] at q; cases q
          cases r with | fl a b => exact .fl (a.gw fz.gw) (vrs_map ih b q')
      · rename_i ks xs
        cases q' : mapO (FV.dz n h' k) xs with
        | none => rw [q'] at q; cases q
        | some es =>
          rw [q'] at q; cases q
          cases r with | fd a b => exact .fd (a.gw fz.gw) (vrs_map ih b q')
      · rename_i ks xs
        cases q' : mapO (FV.dz n h' k) xs with
        | none => rw [q'] at q; cases q
        | some es =>
          rw [q'] at q; cases q
          cases r with | ft a b => exact .ft (a.gw fz.gw) (vrs_map ih b q')
      · rename_i c ks xs
        cases q' : mapO (FV.dz n h' k) xs with
        | none => rw [q'] at q; cases q
        | some es =>
          rw [q'] at q; cases q
          cases r with | fo z a b => exact .fo z (a.gw fz.gw) (vrs_map ih b q')
      · cases q
theorem zip_fst {α β : Type} : ∀ {ks : List α} {vs : List β}, ks.length = vs.length → (ks.zip vs).map (·.1) = ks
  | [], [], _ => rfl
  | k :: ks, v :: vs, h => congrArg (k :: ·) (zip_fst (Nat.succ.inj h))
theorem kvr_dz {κ : Type} (hr : HR B μ' h' H') (fz : Frz μ' n h' H' H2) {kvs kvs' : List (κ × FV)} {ws : List (κ × V)} (b : KvR B H' μ' h'.length kvs ws) (q : dzs n h' kvs = some kvs') : KvR B H2 μ' n kvs' ws := by
  unfold dzs at q
  cases q' : mapO (FV.dz n h' 4) (kvs.map (·.2)) with
  | none => rw [q'] at q; cases q
  | some es =>
    rw [q'] at q; cases q
    have := KvR.zip (ks := kvs.map (·.1)) (vrs_map (dz_ok hr fz 4) b.snd q')
    rw [← b.fst, zip_parts] at this
    rw [← b.fst]; exact this
theorem rr_dz (hr : HR B μ' h' H') (fz : Frz μ' n h' H' H2) (hn : n ≤ h'.length) (m : RR B H μ' h'.length H' r u) (q : r.dz n h' = some r') : RR B H μ' n H2 r' u := by
  have nd : ∀ {p : Addr}, Fre H μ' h'.length p → Fre H μ' n p := fun f => ⟨f.1, fun i hi => f.2 i (Nat.lt_of_lt_of_le hi hn)⟩
  have st : ∀ {p : Addr}, Fre H μ' h'.length p → H2 p = H' p := fun f => fz.else' _ fun i _ hi => f.2 i hi
  unfold RV.dz at q
  split at q
  · rename_i x
    cases q' : x.dz n h' 5 with
    | none => rw [q'] at q; cases q
    | some x' =>
      rw [q'] at q; cases q
      cases m with | v m => exact .v (dz_ok hr fz 5 _ _ _ m q')
  · rename_i ds
    cases q' : mapO (FV.dz n h' 4) ds with
    | none => rw [q'] at q; cases q
    | some es =>
      rw [q'] at q; cases q
      cases m with | l f a b => exact .l (nd f) (by rw [st f]; exact a) (vrs_map (dz_ok hr fz 4) b q')
  · rename_i kvs
    cases q' : dzs n h' kvs with
    | none => rw [q'] at q; cases q
    | some es =>
      rw [q'] at q; cases q
      cases m with | d f a b => exact .d (nd f) (by rw [st f]; exact a) (kvr_dz hr fz b q')
  · rename_i kvs
    cases q' : dzs n h' kvs with
    | none => rw [q'] at q; cases q
    | some es =>
      rw [q'] at q; cases q
      cases m with | t f a b => exact .t (nd f) (by rw [st f]; exact a) (kvr_dz hr fz b q')
  · rename_i c fs
    cases q' : dzs n h' fs with
    | none => rw [q'] at q; cases q
    | some es =>
      rw [q'] at q; cases q
      cases m with | o f z a b => exact .o (nd f) z (by rw [st f]; exact a) (kvr_dz hr fz b q')
  · cases q
/-- all from n on is frozen, one after another -/
theorem freeze (hr : HR B μ' h' H') (hn : n ≤ h'.length) {Z : Hp → Prop} (hz : ∀ H2, Frz μ' n h' H' H2 → Z H2) : Gs Z H' := by
  have key : ∀ (k i : Nat) (Hi : Hp), i + k = h'.length → n ≤ i → Gw H' Hi → (∀ j, n ≤ j → j < i → ∀ w, H' (μ' j) = some w → (∃ od, Hi (μ' j) = some (.frz od w)) ∨ ∃ od z, w = .frz od z) → (∀ a, (∀ j, n ≤ j → j < i → μ' j ≠ a) → Hi a = H' a) → Gs Z Hi := by
    intro k
    induction k with
    | zero =>
      intro i Hi e ni g a b
      have : i = h'.length := by omega
      subst this
      exact .here (hz Hi ⟨g, a, b⟩)
    | succ k ih =>
      intro i Hi e ni g a b
      have li : i < h'.length := by omega
      have same : Hi (μ' i) = H' (μ' i) := b _ fun j _ hj z => absurd (hr.inj j i (by omega) li z) (by omega)
      have go : ∀ (Hn : Hp), Gw Hi Hn → (∀ w, H' (μ' i) = some w → (∃ od, Hn (μ' i) = some (.frz od w)) ∨ ∃ od z, w = .frz od z) → (∀ c, c ≠ μ' i → Hn c = Hi c) → Gs Z Hn := fun Hn g2 a2 b2 => by
        refine ih (i + 1) Hn (by omega) (by omega) (g.trans g2) (fun j hj hj2 w hw => ?_) fun c hc => ?_
        · by_cases z : j = i
          · subst z; exact a2 w hw
          · rw [b2 _ fun y => z (hr.inj j i (by omega) li y)]
            exact a j hj (by omega) w hw
        · rw [b2 c fun y => hc i ni (by omega) y.symm]
          exact b c fun j hj hj2 => hc j hj (by omega)
      have o := hr.at' i _ (List.getElem?_eq_getElem li)
      cases q : h'[i] with
      | lst ds =>
        rw [q] at o
        obtain ⟨xs, h1, h2⟩ := o
        refine .more (same.trans h1) trivial fun od => go _ (gw_mut (by rw [same, h1]; trivial)) (fun w hw => .inl ⟨od, ?_⟩) fun c hc => upd_ne hc
        rw [h1] at hw; cases hw; exact upd_same
      | dK kvs =>
        rw [q] at o
        obtain ⟨xs, h1, h2⟩ := o
        refine .more (same.trans h1) trivial fun od => go _ (gw_mut (by rw [same, h1]; trivial)) (fun w hw => .inl ⟨od, ?_⟩) fun c hc => upd_ne hc
        rw [h1] at hw; cases hw; exact upd_same
      | dT kvs =>
        rw [q] at o
        obtain ⟨xs, h1, h2⟩ := o
        refine .more (same.trans h1) trivial fun od => go _ (gw_mut (by rw [same, h1]; trivial)) (fun w hw => .inl ⟨od, ?_⟩) fun c hc => upd_ne hc
        rw [h1] at hw; cases hw; exact upd_same
      | ins c fs =>
        rw [q] at o
        obtain ⟨C, dx, xs, h0, h1, h2⟩ := o
        refine .more (same.trans h1) trivial fun od => go _ (gw_mut (by rw [same, h1]; trivial)) (fun w hw => .inl ⟨od, ?_⟩) fun c hc => upd_ne hc
        rw [h1] at hw; cases hw; exact upd_same
      | lk kvs =>
        rw [q] at o
        obtain ⟨xs, od, h1, h2⟩ := o
        refine go Hi (Gw.refl _) (fun w hw => .inr ⟨od, .dK xs, ?_⟩) fun c hc => rfl
        rw [h1] at hw; cases hw; rfl
  exact key (h'.length - n) n H' (by omega) (Nat.le_refl _) (Gw.refl _) (fun j a b => absurd b (by omega)) fun a _ => rfl
end
section
variable {X : Cx} {W : WX} {E : Ent} {Γ : Sl} {e : Expr} {fe : M RV}
theorem je_dF (he : JE X W E Γ e fe) : JE X W E Γ e (dF fe) := fun μ h σ H Q s p => by
  refine wE.gs (he μ h σ H _ s ?_)
  unfold dF at p
  cases q : fe h with
  | no => rw [q] at p; exact p
  | ex x h' => rw [q] at p; exact p
  | ok r h' =>
    rw [q] at p
    dsimp only [] at p
    intro μ' H' st hr u ru
    unfold dzR at p
    split at p
    · rename_i hc
      split at p
      · rename_i r' e'
        have hn : h.length ≤ h'.length := Nat.le_of_lt hc.1
        refine freeze hr hn fun H2 fz => ?_
        have l : (h'.take h.length).length = h.length := by rw [List.length_take, Nat.min_eq_left hn]
        -- what was there stands
        have old : ∀ a, (∀ i, h.length ≤ i → i < h'.length → μ' i ≠ a) → H2 a = H' a := fz.else'
        have hr2 : HR (bs X) μ' (h'.take h.length) H2 := by
          have c := hr.cut (fun o ho => FO.lowB_ok (List.all_eq_true.mp hc.2 o ho)) hn
          refine ⟨fun i o hi => ?_, c.inj⟩
          have li : i < h.length := by have := (List.getElem?_eq_some_iff.mp hi).1; omega
          exact (c.at' i o hi).mono fz.gw (fun _ _ => rfl) (Nat.le_refl _) (old _ fun j hj hj2 z => absurd (hr.inj j i hj2 (by omega) z) (by omega))
        have s2 : Step μ h.length H μ' (h'.take h.length).length H2 := by
          rw [l]
          have s1 := st.cut (Nat.le_refl _) hn
          refine ⟨s1.le, s1.ext, s1.new, fun a o ha hk => ?_, fun a ha => ?_, s1.gw.trans fz.gw⟩
          · rw [old a fun j hj hj2 z => by have := st.new j hj hj2; rw [z, ha] at this; cases this]
            exact s1.fr a o ha hk
          · rw [old a fun j hj hj2 z => ha (by rw [← z]; exact st.new j hj hj2)]
            exact s1.th a ha
        have rr := rr_dz hr fz hn ru e'
        exact (show ∀ μ' H', _ → _ → ∀ u, _ → Q u H' from p) μ' H2 s2 hr2 u (by rw [l]; exact rr)
      · exact .here ((show ∀ μ' H', _ → _ → ∀ u, _ → Q u H' from p) μ' H' st hr u ru)
    · exact .here ((show ∀ μ' H', _ → _ → ∀ u, _ → Q u H' from p) μ' H' st hr u ru)
end
theorem dF_same {m : M RV} {h h' : FH} {r : RV} (e : m h = .ok r h') (l : h'.length ≤ h.length) : dF m h = .ok r h' := by
  unfold dF; rw [e]; show dzR h.length r h' = _; unfold dzR; rw [if_neg (fun z => absurd z.1 (Nat.not_lt_of_le l))]
theorem dF_pur (r : RV) : dF (pur r) = pur r := by
  funext h; exact dF_same rfl (Nat.le_refl _)
theorem dF_cut {m : M RV} {h h' : FH} {r r' : RV} (e : m h = .ok r h') (l : h.length < h'.length) (lo : (h'.take h.length).all (·.lowB h.length) = true) (c : r.dz h.length h' = some r') : dF m h = .ok r' (h'.take h.length) := by
  unfold dF; rw [e]; show dzR h.length r h' = _; unfold dzR; rw [if_pos ⟨l, lo⟩, c]
end P

/-! P: objects of own classes: fields, methods, making. -/
namespace P
open PySem PySem.Spec PyProof.Rows L2 G
section
variable {prog : Program} {w : World} {H : Hp} {h : Heap} {a C dx : Addr} {fs : List (Str × V)}
theorem insR (hok : HOk prog w H h) (e : Rd H a (.ins C dx fs)) : ∃ mA, ObjM h a dx C mA ∧ ∀ f, RelO (fs.lookup f) (mA f) := by
  have o : ObjOk prog w H h a (.ins C dx fs) := by
    rcases e with e | ⟨o, e⟩
    · exact hok a _ e
    · exact (show ObjOk prog w H h a (.frz o (.ins C dx fs)) from hok a _ e).2
  obtain ⟨_, _, ne, ob, mA, n, r, _⟩ := o
  exact ⟨mA, ⟨ob, n, ne⟩, r⟩
end
section
variable {X : Cx} {pins : List (Addr × Obj)} {σ : L2.St} {H : Hp} {s : Shared} {a C dx : Addr} {fs : List (Str × V)} {f m : Str} {v : V} {A : Around} {E : Value → Shared → Prop} {e o : Expr} {es : List Expr} {pos apos : Pos} {ta : TE} {t : TA} {k : Nat} {fd : FuncData} {ps : List Str} {sp : Sp} {ds : List Value} {dvs : List V} {EX : XK} {CX : CXT} {fa : Addr}
/-- e.f of an instance that may stand frozen -/
def tFldR (K : PySem.W.Frag) (ta : TE) (f : Str) : TE := fun σ H Q => ta σ H fun x H1 => ∃ a C dx fs v, x = .ref a ∧ Rd H1 a (.ins C dx fs) ∧ Cls K C ∧ NoAttr K C f ∧ fs.lookup f = some v ∧ Q v H1
theorem pe_fldR (he : PE X e ta) (hb : attributeBase e f X.env (eval e X.env) = eval e X.env) : PE X (.Attribute e f pos) (tFldR X.K ta f) := ⟨fun pins s σ H Q I h => by
  refine attr_of hb (thn (he.run pins s σ H _ I h) fun u s1 ⟨x, H1, I1, rx, a, C, dx, fs, v, ex, ea, c, n, l, q⟩ => ?_)
  subst ex
  cases (show u = Value.ref a from rx)
  obtain ⟨mA, O, r⟩ := insR I1.hok ea
  obtain ⟨u', hu, ru⟩ := RelO.some_of (v := v) (o := mA f) (l ▸ r f)
  exact get_map I1.kIn O (c.get f) c.hd n hu (handed_of ru) ⟨v, H1, I1.tok _, ru, q⟩⟩
def tMethR (C : Addr) (m : Str) (sp : Sp) (dvs : List V) (E : XK) (ta : TE) (t : TA) : TE := fun σ H Q => ta σ H fun x H1 => ∃ a dx fs, x = .ref a ∧ Rd H1 a (.ins C dx fs) ∧ fs.lookup m = none ∧ t σ H1 fun vs H2 => sp (x :: (vs ++ dvs)) H2 Q E
theorem methR {pl : Sem Bool} {Q : Value × List Value → Shared → Prop} (I : Inv X pins σ H s) (e : Rd H a (.ins C dx fs)) (c : Cls X.K C) (k : Meth X.K C m fa) (l : fs.lookup m = none) (h : Q (.ref fa, [.ref a]) s) : wpAny (model X.prog X.w) A (getMethod (.ref a) m pl) Q E s := by
  obtain ⟨mA, O, r⟩ := insR I.hok e
  exact get_meth I.kIn O (c.get m) k.at_ k.fn (RelO.none_of (l ▸ r m)) h
theorem pe_methR {pl : Sem Bool} (he : PE X o ta) (c : Cls X.K C) (hm : Meth X.K C m fa) (F : FnOk X.prog X.w X.K X.mg X.base CX k fa fd ps sp) (hr : Room k X.A) (hb : Binds X.K fd ps ds) (hd : Vals dvs ds) (hx : Passes CX X EX) (ha : PA X (e :: es) t)
    (hst : starEach (e :: es) X.env = (false, eval e X.env) :: starEach es X.env) (hpl : (backTo pos (starEach es X.env)).any (·.1) = false)
    (ht : eval (.Call (.Attribute o m apos) (e :: es) [] pos) X.env = (do
      let ov ← eval o X.env
      standAt apos.atName
      let (f, first) ← holding [ov] (getMethod ov m pl)
      callWith pos f first (backTo pos (starEach (e :: es) X.env)) (backToKw pos (keywordEach [] X.env)))) :
    PE X (.Call (.Attribute o m apos) (e :: es) [] pos) (tMethR C m sp dvs EX ta t) := ⟨fun pins s σ H Q I h => by
  refine PySem.W.methodCall_KW (pl := pl) (thn (he.run pins s σ H _ I h) fun u s1 ⟨x, H1, I1, rx, a, dx, fs, ex, ea, l, q⟩ => ?_) ht
  subst ex
  cases (show u = Value.ref a from rx)
  refine methR I1 ea c hm l (PySem.W.callWith_K (first := [.ref a]) (h₀ := X.base) I.ok.mod.kin hm.kp (thn (ha.run pos pins s1 σ H1 _ I1 q) fun us s2 ⟨vs, H2, I2, r, q2⟩ => ⟨I2.kIn, ?_⟩) hst hpl)
  exact run_fn (us := .ref a :: us) (vs := .ref a :: vs) F hr hb hd hx I2 (.cons rfl r) q2⟩
theorem pe_methR0 {pl : Sem Bool} (he : PE X o ta) (c : Cls X.K C) (hm : Meth X.K C m fa) (F : FnOk X.prog X.w X.K X.mg X.base CX k fa fd ps sp) (hr : Room k X.A) (hb : Binds X.K fd ps ds) (hd : Vals dvs ds) (hx : Passes CX X EX)
    (ht : eval (.Call (.Attribute o m apos) [] [] pos) X.env = (do
      let ov ← eval o X.env
      standAt apos.atName
      let (f, first) ← holding [ov] (getMethod ov m pl)
      callWith pos f first (backTo pos (starEach [] X.env)) (backToKw pos (keywordEach [] X.env)))) :
    PE X (.Call (.Attribute o m apos) [] [] pos) (tMethR C m sp dvs EX ta tNil) := ⟨fun pins s σ H Q I h => by
  refine PySem.W.methodCall_KW (pl := pl) (thn (he.run pins s σ H _ I h) fun u s1 ⟨x, H1, I1, rx, a, dx, fs, ex, ea, l, q⟩ => ?_) ht
  subst ex
  cases (show u = Value.ref a from rx)
  refine methR I1 ea c hm l ?_
  exact PySem.W.callWith_K0 (first := [.ref a]) I1.kIn hm.kp (run_fn (us := [.ref a]) (vs := [.ref a]) F hr hb hd hx I1 (.cons rfl .nil) q)⟩
end
section
variable {B : Bs} {H : Hp} {μ : Nat → Addr} {n : Nat}
theorem KvR.lookN {f : Str} {d : FV} : ∀ {ds : List (Str × FV)} {ws : List (Str × V)}, KvR B H μ n ds ws → ds.lookup f = some d → ∃ v, ws.lookup f = some v ∧ VR B H μ n d v
  | _, _, .nil, e => by simp [List.lookup] at e
  | p :: ds, q :: ws, .cons a b, e => by
    obtain ⟨p1, p2⟩ := p
    obtain ⟨q1, q2⟩ := q
    obtain ⟨a1, a2⟩ := a
    dsimp only at a1 a2
    subst a1
    rw [List.lookup] at e ⊢
    cases z : (f == p1) with
    | true => rw [z] at e; exact ⟨q2, rfl, by cases e; exact a2⟩
    | false => rw [z] at e; exact KvR.lookN b e
theorem KvR.lookO {f : Str} : ∀ {ds : List (Str × FV)} {ws : List (Str × V)}, KvR B H μ n ds ws → ds.lookup f = none → ws.lookup f = none
  | _, _, .nil, e => rfl
  | p :: ds, q :: ws, .cons a b, e => by
    obtain ⟨p1, p2⟩ := p
    obtain ⟨q1, q2⟩ := q
    obtain ⟨a1, a2⟩ := a
    dsimp only at a1 a2
    subst a1
    rw [List.lookup] at e ⊢
    cases z : (f == p1) with
    | true => rw [z] at e; cases e
    | false => rw [z] at e; exact KvR.lookO b e
def putFd (f : Str) (y : FV) : List (Str × FV) → List (Str × FV)
  | [] => [(f, y)]
  | p :: r => if p.1 = f then (p.1, y) :: r else p :: putFd f y r
theorem KvR.putFd {f : Str} {d : FV} {v : V} (m : VR B H μ n d v) : ∀ {ds : List (Str × FV)} {ws : List (Str × V)}, KvR B H μ n ds ws → KvR B H μ n (P.putFd f d ds) (L2.putF f v ws)
  | _, _, .nil => .cons ⟨rfl, m⟩ .nil
  | p :: ds, q :: ws, .cons a b => by
    obtain ⟨p1, p2⟩ := p
    obtain ⟨q1, q2⟩ := q
    obtain ⟨a1, a2⟩ := a
    dsimp only at a1 a2
    subst a1
    rw [P.putFd, L2.putF]
    by_cases z : p1 = f
    · rw [if_pos z, if_pos z]; exact .cons ⟨rfl, m⟩ b
    · rw [if_neg z, if_neg z]; exact .cons ⟨rfl, a2⟩ (KvR.putFd m b)
end
abbrev CTab := List (Str × List Str)
/-- classes with plain objects, and fields that the class itself has not -/
structure CT (X : Cx) (tab : CTab) : Prop where
  ok : ∀ c fs, (c, fs) ∈ tab → ∃ C, X.mg c = some (.ref C) ∧ Cls X.K C ∧ ∀ f, f ∈ fs → NoAttr X.K C f
def inTab (tab : CTab) (c f : Str) : Bool := tab.any fun p => decide (p.1 = c) && decide (f ∈ p.2)
theorem CT.has {X : Cx} {tab : CTab} (ct : CT X tab) {c f : Str} {C : Addr} (h : inTab tab c f = true) (hm : X.mg c = some (.ref C)) : Cls X.K C ∧ NoAttr X.K C f := by
  unfold inTab at h
  rw [List.any_eq_true] at h
  obtain ⟨⟨c', fs⟩, h1, h2⟩ := h
  rw [Bool.and_eq_true] at h2
  have e1 : c' = c := of_decide_eq_true h2.1
  have e2 : f ∈ fs := of_decide_eq_true h2.2
  subst e1
  obtain ⟨C', k1, k2, k3⟩ := ct.ok c' fs h1
  rw [hm] at k1
  cases k1
  exact ⟨k2, k3 f e2⟩
/-- the instance that a result is: its class, its fields -/
def RV.inst : RV → FH → Option (Str × List (Str × FV))
  | .v (.ref m), h => match h[m]? with | some (.ins c fs) => some (c, fs) | _ => none
  | .v (.fo c ks vs), _ => some (c, ks.zip vs)
  | .o c fs, _ => some (c, fs)
  | .bo c fs, _ => some (c, fs)
  | _, _ => none
theorem inst_ok {B : Bs} {H H0 : Hp} {μ : Nat → Addr} {h : FH} {x : RV} {u : V} {c : Str} {fs : List (Str × FV)} (hr : HR B μ h H) (r : RR B H0 μ h.length H x u) (e : x.inst h = some (c, fs)) : ∃ a C dx ws, u = .ref a ∧ B.mg c = some (.ref C) ∧ Rd H a (.ins C dx ws) ∧ KvR B H μ h.length fs ws := by
  unfold RV.inst at e
  split at e
  · rename_i m
    obtain ⟨rfl, lm⟩ := ref_inv r
    split at e
    · rename_i q
      cases e
      obtain ⟨C, dx, ws, e1, e2, e3⟩ := hr.at' m _ q
      exact ⟨_, C, dx, ws, rfl, e1, Rd.of e2, e3⟩
    · cases e
  · cases e
    cases r with
    | v r =>
      cases r with
      | fo z a b => exact ⟨_, _, _, _, rfl, z, a.rd, KvR.zip b⟩
  · cases e
    cases r with | o f z a b => exact ⟨_, _, _, _, rfl, z, Rd.of a, b⟩
  · cases e
    cases r with | bo f z a b => exact ⟨_, _, _, _, rfl, z, Rd.of a, b⟩
  · cases e
section
variable {α β γ δ : Type} {X : Cx} {W : WX} {E : Ent} {Γx : Option Sl} {eα : α → Sl} {eβ : β → Sl} {Γ Γ' : Sl} {e a b o i tg : Expr} {es : List Expr} {pos apos p0 : Pos} {fe fo fi fa fb : M RV} {rest : List Stmt} {n k : Nat}
/-! ### fields -/
def gFld (tab : CTab) (f : Str) (x : RV) (h : FH) : Option RV := match x.inst h with
  | some (c, fs) => if inTab tab c f = true then (fs.lookup f).map .v else none
  | none => none
theorem je_fld {tab : CTab} {f : Str} (ct : CT X tab) (ho : JE X W E Γ o fo) (hb : attributeBase o f X.env (eval o X.env) = eval o X.env := by rfl) : JE X W E Γ (.Attribute o f pos) (bnd fo fun x => oU (gFld tab f) x) := fun μ h σ H Q s p =>
  wE.of (pe_fldR pe_w hb) (ho μ h σ H _ s (Po.mono (Po.bind p) fun x h1 μ1 H1 _ s1 hr1 p1 u ru => by
    obtain ⟨z, hz, p2⟩ := p1.lift
    unfold gFld at hz
    split at hz
    · rename_i c fs q
      split at hz
      · rename_i ht
        cases ql : fs.lookup f with
        | none => rw [ql] at hz; cases hz
        | some d =>
          rw [ql] at hz
          cases hz
          obtain ⟨y, C, dx, ws, rfl, e1, e2, e3⟩ := inst_ok hr1 ru q
          obtain ⟨k1, k2⟩ := ct.has ht e1
          obtain ⟨v, l1, l2⟩ := e3.lookN ql
          exact ⟨y, C, dx, ws, v, rfl, e2, k1, k2, l1, p2.last hr1 (Same.refl _) _ (.v l2)⟩
      · cases hz
    · cases hz))
def gPutF (tab : CTab) (f : Str) (d : FV) (x : RV) (h : FH) : Option FH := match x with
  | .v (.ref m) => match h[m]? with
    | some (.ins c fs) => if inTab tab c f = true ∧ fs.length < 1000 then some (h.set m (.ins c (putFd f d fs))) else none
    | _ => none
  | _ => none
def oPutF (tab : CTab) (f : Str) (d : FV) (x : RV) : M Unit := fun h => match gPutF tab f d x h with
  | some h' => .ok () h'
  | none => .no
theorem putF_ok {tab : CTab} {f : Str} {d : FV} {x : RV} {u y : V} {h h' : FH} {μ : Nat → Addr} {H0 H : Hp} (ct : CT X tab) (hr : HR (bs X) μ h H) (r : RR (bs X) H0 μ h.length H x u) (vd : VR (bs X) H μ h.length d y) (e : gPutF tab f d x h = some h') :
    ∃ a C dx ws, u = .ref a ∧ H a = some (.ins C dx ws) ∧ Cls X.K C ∧ NoAttr X.K C f ∧ ws.length < 1000 ∧ Step μ h.length H μ h'.length (upd H a (.ins C dx (L2.putF f y ws))) ∧ HR (bs X) μ h' (upd H a (.ins C dx (L2.putF f y ws))) := by
  unfold gPutF at e
  split at e
  · rename_i m
    obtain ⟨rfl, lm⟩ := ref_inv r
    split at e
    · rename_i c fs q
      split at e
      · rename_i ht
        cases e
        obtain ⟨C, dx, ws, e1, e2, e3⟩ := hr.at' m _ q
        obtain ⟨k1, k2⟩ := ct.has ht.1 e1
        have mu : Mut (H (μ m)) := by rw [e2]; trivial
        refine ⟨μ m, C, dx, ws, rfl, e2, k1, k2, by rw [e3.len]; exact ht.2, by rw [List.length_set]; exact Step.mut lm mu, ?_⟩
        exact hr.set (o := .ins c (putFd f d fs)) (u := .ins C dx (L2.putF f y ws)) lm ⟨C, dx, _, e1, upd_same, (e3.putFd vd).mono (gw_mut mu) (fun _ _ => rfl) (Nat.le_refl _)⟩
      · cases e
    · cases e
  · cases e
/-- o.f = e -/
theorem jb_fld {tab : CTab} {f : Str} {kk : M (Fl α β)} (ct : CT X tab) (w : SubX Γx Γ) (he : JE X W E Γ e fe) (ho : JE X W E Γ o fo) (hk : JB X W E Γx eα eβ Γ rest kk)
    (hs : swapsWith e (some (.Attribute o f apos)) pos.line X.env = pure false := by rfl) : JB X W E Γx eα eβ Γ (.Assign [.Attribute o f apos] e pos :: rest) (bnd (mV fe) fun v => bnd fo fun x => bnd (oPutF tab f v x) fun _ => kk) := fun μ h σ H D s p =>
  wcons (wS.of (ps_fld pe_w pe_w hs) (PoN.val he s w p fun d h2 μ2 H2 u sw s2 v2 p2 => by
    refine ho μ2 h2 σ H2 _ s2 (Po.mono (PoN.bnd s2 w p2) fun x h3 μ3 H3 _ s3 hr3 p3 ux rux => ?_)
    obtain ⟨sr3, p3⟩ := p3
    unfold P.bnd oPutF at p3
    cases z : gPutF tab f d x h3 with
    | none => rw [z] at p3; exact p3.elim
    | some h5 =>
      rw [z] at p3
      obtain ⟨y, C, dx, ws, rfl, e2, k1, k2, k3, st, hr5⟩ := putF_ok ct hr3 rux (s3.vr v2) z
      exact ⟨y, C, dx, ws, rfl, e2, k1, k2, k3, hk μ3 _ σ _ D (sr3.step st hr5) (PoN.at' p3 st.w)⟩))
/-- .. a new object, which gets a number -/
theorem jb_fldT {tab : CTab} {f : Str} {kk : M (Fl α β)} (ct : CT X tab) (w : SubX Γx Γ) (he : JE X W E Γ e fe) (ho : JE X W E Γ o fo) (hk : JB X W E Γx eα eβ Γ rest kk)
    (hs : swapsWith e (some (.Attribute o f apos)) pos.line X.env = pure false := by rfl) : JB X W E Γx eα eβ Γ (.Assign [.Attribute o f apos] e pos :: rest) (bnd (mT fe) fun v => bnd fo fun x => bnd (oPutF tab f v x) fun _ => kk) := fun μ h σ H D s p =>
  wcons (wS.of (ps_fld pe_w pe_w hs) (he μ h σ H _ s (Po.mono (Po.vT (PoN.bnd s w p)) fun r h1 μ1 H1 _ s1 hr1 p1 u ru => by
    obtain ⟨d, h2, μ2, s2, hr2, v2, sr2, p2⟩ := p1 u ru
    refine ho μ2 h2 σ H1 _ sr2 (Po.mono (PoN.bnd sr2 w p2) fun x h3 μ3 H3 _ s3 hr3 p3 ux rux => ?_)
    obtain ⟨sr3, p3⟩ := p3
    unfold P.bnd oPutF at p3
    cases z : gPutF tab f d x h3 with
    | none => rw [z] at p3; exact p3.elim
    | some h5 =>
      rw [z] at p3
      obtain ⟨y, C, dx, ws, rfl, e2, k1, k2, k3, st, hr5⟩ := putF_ok ct hr3 rux (s3.vr v2) z
      exact ⟨y, C, dx, ws, rfl, e2, k1, k2, k3, hk μ3 _ σ _ D (sr3.step st hr5) (PoN.at' p3 st.w)⟩)))
/-! ### methods -/
/-- the class c has the method m, at level n; ds: the values of what is left out -/
structure HasM (P : Program) (w : World) (K : PySem.W.Frag) (mg : Str → Option Value) (base : Heap) (n : Nat) (c m : Str) (ps : List Str) (ds : List FV) (f : FDef) : Prop where
  ex : ∃ C a fd dvs us, FnOk P w K mg base (L2.CX P w) n a fd ps (spP ⟨K, mg⟩ f) ∧ mg c = some (.ref C) ∧ Cls K C ∧ Meth K C m a ∧ Binds K fd ps us ∧ Vals dvs us ∧ ∀ B H μ n, B.K = K → VRs B H μ n ds dvs
/-- the object as the method's first argument -/
def gSelf (c m : Str) (x : RV) (h : FH) : Option FV := match x.inst h with
  | some (c', fs) => if c' = c ∧ fs.lookup m = none then (match x with | .v y => some y | _ => none) else none
  | none => none
def oSelf (c m : Str) (x : RV) : M FV := lift (gSelf c m x)
theorem gSelf_ok {c m : Str} {B : Bs} {μ : Nat → Addr} {h : FH} {H0 H : Hp} {x : RV} {u : V} {y : FV} {C : Addr} (hr : HR B μ h H) (r : RR B H0 μ h.length H x u) (hm : B.mg c = some (.ref C)) (e : gSelf c m x h = some y) :
    ∃ a dx ws, u = .ref a ∧ Rd H a (.ins C dx ws) ∧ ws.lookup m = none ∧ VR B H μ h.length y (.ref a) := by
  unfold gSelf at e
  split at e
  · rename_i c' fs q
    split at e
    · rename_i ht
      split at e
      · cases e
        obtain ⟨a, C', dx, ws, rfl, e1, e2, e3⟩ := inst_ok hr r q
        rw [ht.1, hm] at e1
        cases e1
        cases r with
        | v r => exact ⟨a, dx, ws, rfl, e2, e3.lookO ht.2, r⟩
      · cases e
    · cases e
  · cases e
theorem je_meth {c m : Str} {ps : List Str} {ds : List FV} {f : FDef} {cc : (List FV → M RV) → M RV} {pl : Sem Bool} (tk : TkE X W) (h : HasM X.prog X.w X.K X.mg X.base n c m ps ds f) (hr : Room k X.A) (hk : n ≤ k) (ho : JE X W E Γ o fo) (ha : JA X W E Γ (e :: es) cc)
    (he : starEach (e :: es) X.env = (false, eval e X.env) :: starEach es X.env := by exact star1 rfl) (hpl : (backTo pos (starEach es X.env)).any (·.1) = false := by rfl)
    (hev : eval (.Call (.Attribute o m apos) (e :: es) [] pos) X.env = (do
        let ov ← eval o X.env
        standAt apos.atName
        let (g, first) ← holding [ov] (getMethod ov m pl)
        callWith pos g first (backTo pos (starEach (e :: es) X.env)) (backToKw pos (keywordEach [] X.env))) := by rfl) :
    JE X W E Γ (.Call (.Attribute o m apos) (e :: es) [] pos) (bnd fo fun x => bnd (oSelf c m x) fun y => cc fun vs => f (y :: vs ++ ds)) := fun μ h0 σ H Q s p => by
  obtain ⟨EE, hE, hP⟩ := tk
  obtain ⟨C, a, fd, dvs, us', F, hm, hC, hM, hb, hv, hc⟩ := h.ex
  refine wE.of (pe_methR pe_w hC hM F (hr.mono hk) hb hv hP pa_w he hpl hev) (ho μ h0 σ H _ s (Po.mono (Po.bind p) fun x h1 μ1 H1 _ s1 hr1 p1 u ru => ?_))
  obtain ⟨y, z, p2⟩ := (Po.bind p1).lift
  obtain ⟨b, dx, ws, rfl, b1, b2, b3⟩ := gSelf_ok hr1 ru hm z
  have p3 := Po.here rfl hr1 p2
  refine ⟨b, dx, ws, rfl, b1, b2, wA.mono (ha (fun vs => f (y :: vs ++ ds)) μ1 h1 σ H1 _ _ (s.step s1 hr1) (fun _ _ _ z => z) p3) fun us H2 ⟨vs, μ2, h2, s2, hr2, rus, p4⟩ => ?_⟩
  refine ⟨μ2, h2, y :: vs ++ ds, hr2, ?_, (p4.since (fun a q => s2.th a (s1.th a q))).monoE fun c d H' w => hE c d σ H' w⟩
  exact (VRs.cons (s2.vr b3) rus).append (hc (bs X) H2 μ2 h2.length rfl)
theorem je_meth0 {c m : Str} {ps : List Str} {ds : List FV} {f : FDef} {pl : Sem Bool} (tk : TkE X W) (h : HasM X.prog X.w X.K X.mg X.base n c m ps ds f) (hr : Room k X.A) (hk : n ≤ k) (ho : JE X W E Γ o fo)
    (hev : eval (.Call (.Attribute o m apos) [] [] pos) X.env = (do
        let ov ← eval o X.env
        standAt apos.atName
        let (g, first) ← holding [ov] (getMethod ov m pl)
        callWith pos g first (backTo pos (starEach [] X.env)) (backToKw pos (keywordEach [] X.env))) := by rfl) :
    JE X W E Γ (.Call (.Attribute o m apos) [] [] pos) (bnd fo fun x => bnd (oSelf c m x) fun y => f (y :: ds)) := fun μ h0 σ H Q s p => by
  obtain ⟨EE, hE, hP⟩ := tk
  obtain ⟨C, a, fd, dvs, us', F, hm, hC, hM, hb, hv, hc⟩ := h.ex
  refine wE.of (pe_methR0 pe_w hC hM F (hr.mono hk) hb hv hP hev) (ho μ h0 σ H _ s (Po.mono (Po.bind p) fun x h1 μ1 H1 _ s1 hr1 p1 u ru => ?_))
  obtain ⟨y, z, p2⟩ := (Po.bind p1).lift
  obtain ⟨b, dx, ws, rfl, b1, b2, b3⟩ := gSelf_ok hr1 ru hm z
  have p3 := Po.here rfl hr1 p2
  refine ⟨b, dx, ws, rfl, b1, b2, μ1, h1, y :: ds, hr1, .cons b3 (hc (bs X) H1 μ1 h1.length rfl), (p3.since s1.th).monoE fun c d H' w => hE c d σ H' w⟩
/-- one of two ways, by what stands -/
theorem JE.alt {c : FH → Bool} {f g : M RV} (h1 : JE X W E Γ e f) (h2 : JE X W E Γ e g) : JE X W E Γ e (fun h => if c h = true then f h else g h) := fun μ h σ H Q s p => by
  dsimp only at p
  split at p
  · exact h1 μ h σ H Q s p
  · exact h2 μ h σ H Q s p
/-! ### a new object -/
structure HasK (P : Program) (w : World) (K : PySem.W.Frag) (mg : Str → Option Value) (base : Heap) (n : Nat) (c : Str) (ps : List Str) (ds : List FV) (f : FDef) : Prop where
  ex : ∃ C a fd dvs us, L2.Mk K C a ∧ FnOk P w K mg base (L2.CX P w) n a fd ps (spP ⟨K, mg⟩ f) ∧ mg c = some (.ref C) ∧ Binds K fd ps us ∧ Vals dvs us ∧ ∀ B H μ n, B.K = K → VRs B H μ n ds dvs
def oMake (c : Str) (f : FDef) (ds : List FV) (vs : List FV) : M RV := fun h => (f (.ref h.length :: (vs ++ ds)) (h ++ [.ins c []])).bind fun r h2 => match r with
  | .v .non => .ok (.v (.ref h.length)) h2
  | _ => .no
theorem je_make {x : Str} {ps : List Str} {ds : List FV} {f : FDef} {cc : (List FV → M RV) → M RV} (tk : TkE X W) (h : HasK X.prog X.w X.K X.mg X.base n x ps ds f) (hr : Room k X.A) (hk : n + 1 ≤ k) (ha : JA X W E Γ (e :: es) cc)
    (hg : Gl X x := by rfl) (hdb : (x == ("__debug__" : Str)) = false := by decide) (he : starEach (e :: es) X.env = (false, eval e X.env) :: starEach es X.env := by exact star1 rfl) (hpl : (backTo pos (starEach es X.env)).any (·.1) = false := by rfl) :
    JE X W E Γ (.Call (.Name x p0) (e :: es) [] pos) (cc (oMake x f ds)) := fun μ h0 σ H Q s p => by
  obtain ⟨EE, hE, hP⟩ := tk
  obtain ⟨C, a, fd, dvs, us', hM, F, hm, hb, hv, hc⟩ := h.ex
  refine wE.of (pe_make hM F (hr.mono hk) hg hm hb hv hP pa_w hdb he hpl) (wA.mono (ha (oMake x f ds) μ h0 σ H _ _ s (fun _ _ _ z => z) p) fun us H1 ⟨vs, μ1, h1, s1, hr1, rus, p1⟩ y dx hy hdx hne => ?_)
  have a1 : Same H1 (upd H1 dx (.own y)) := same_new hdx
  have hy2 : upd H1 dx (.own y) y = none := by rw [upd_ne (Ne.symm hne)]; exact hy
  have a2 : Same H1 (upd (upd H1 dx (.own y)) y (.ins C dx [])) := fun b u hb' => same_new hy2 b u (a1 b u hb')
  have hn : ∀ i, i < h1.length → μ1 i ≠ y := fun i hi z => hr1.cls hi (by rw [z]; exact hy)
  have hr2 := (hr1.same a2).tell (o := .ins x []) hn ⟨C, dx, [], hm, upd_same, .nil⟩
  have st : Step μ1 h1.length H1 (ext1 μ1 h1.length y) (h1 ++ [FO.ins x []]).length (upd (upd H1 dx (.own y)) y (.ins C dx [])) := by
    rw [List.length_append]; exact (Step.same a2).tell hy
  have lt : h1.length < (h1 ++ [FO.ins x []]).length := by rw [List.length_append]; exact Nat.lt_succ_self _
  have vself : VR (bs X) (upd (upd H1 dx (.own y)) y (.ins C dx [])) (ext1 μ1 h1.length y) (h1 ++ [FO.ins x []]).length (.ref h1.length) (.ref y) := by
    have := VR.ref (B := bs X) (H := upd (upd H1 dx (.own y)) y (.ins C dx [])) (μ := ext1 μ1 h1.length y) lt
    rw [ext1_at] at this; exact this
  refine ⟨_, _, .ref h1.length :: (vs ++ ds), hr2, .cons vself ((st.vrs rus).append (hc (bs X) _ _ _ rfl)), ?_⟩
  refine Po.monoE (Po.mono (Po.bindAt p1 st) fun r h2 μ2 H2 _ s2 hr3 p2 u ru => ?_) fun c d H' w => hE c d σ H' w
  cases ru with
  | v q =>
    cases q with
    | non =>
      refine ⟨rfl, ?_⟩
      have e2 : μ2 h1.length = y := by rw [s2.ext _ lt]; exact ext1_at
      have l2 : h1.length < h2.length := Nat.lt_of_lt_of_le lt s2.le
      have v2 : VR (bs X) H2 μ2 h2.length (.ref h1.length) (.ref y) := by rw [← e2]; exact .ref l2
      exact (show ∀ μ' H', _ → _ → ∀ u, _ → Q u H' from p2) μ2 H2 (st.trans s2) hr3 _ (RR.since (.v v2) s1.th)
    | _ => exact p2.elim
  | _ => exact p2.elim
theorem je_make0 {x : Str} {ps : List Str} {ds : List FV} {f : FDef} (tk : TkE X W) (h : HasK X.prog X.w X.K X.mg X.base n x ps ds f) (hr : Room k X.A) (hk : n + 1 ≤ k)
    (hg : Gl X x := by rfl) (hdb : (x == ("__debug__" : Str)) = false := by decide) :
    JE X W E Γ (.Call (.Name x p0) [] [] pos) (oMake x f ds []) := fun μ1 h1 σ H1 Q s p1 => by
  obtain ⟨EE, hE, hP⟩ := tk
  obtain ⟨C, a, fd, dvs, us', hM, F, hm, hb, hv, hc⟩ := h.ex
  refine wE.of (pe_make0 hM F (hr.mono hk) hg hm hb hv hP hdb) fun y dx hy hdx hne => ?_
  have hr1 := s.hr
  have a1 : Same H1 (upd H1 dx (.own y)) := same_new hdx
  have hy2 : upd H1 dx (.own y) y = none := by rw [upd_ne (Ne.symm hne)]; exact hy
  have a2 : Same H1 (upd (upd H1 dx (.own y)) y (.ins C dx [])) := fun b u hb' => same_new hy2 b u (a1 b u hb')
  have hn : ∀ i, i < h1.length → μ1 i ≠ y := fun i hi z => hr1.cls hi (by rw [z]; exact hy)
  have hr2 := (hr1.same a2).tell (o := .ins x []) hn ⟨C, dx, [], hm, upd_same, .nil⟩
  have st : Step μ1 h1.length H1 (ext1 μ1 h1.length y) (h1 ++ [FO.ins x []]).length (upd (upd H1 dx (.own y)) y (.ins C dx [])) := by
    rw [List.length_append]; exact (Step.same a2).tell hy
  have lt : h1.length < (h1 ++ [FO.ins x []]).length := by rw [List.length_append]; exact Nat.lt_succ_self _
  have vself : VR (bs X) (upd (upd H1 dx (.own y)) y (.ins C dx [])) (ext1 μ1 h1.length y) (h1 ++ [FO.ins x []]).length (.ref h1.length) (.ref y) := by
    have := VR.ref (B := bs X) (H := upd (upd H1 dx (.own y)) y (.ins C dx [])) (μ := ext1 μ1 h1.length y) lt
    rw [ext1_at] at this; exact this
  refine ⟨_, _, .ref h1.length :: ([] ++ ds), hr2, .cons vself (hc (bs X) _ _ _ rfl), ?_⟩
  refine Po.monoE (Po.mono (Po.bindAt p1 st) fun r h2 μ2 H2 _ s2 hr3 p2 u ru => ?_) fun c d H' w => hE c d σ H' w
  cases ru with
  | v q =>
    cases q with
    | non =>
      refine ⟨rfl, ?_⟩
      have e2 : μ2 h1.length = y := by rw [s2.ext _ lt]; exact ext1_at
      have l2 : h1.length < h2.length := Nat.lt_of_lt_of_le lt s2.le
      have v2 : VR (bs X) H2 μ2 h2.length (.ref h1.length) (.ref y) := by rw [← e2]; exact .ref l2
      exact (show ∀ μ' H', _ → _ → ∀ u, _ → Q u H' from p2) μ2 H2 (st.trans s2) hr3 _ (.v v2)
    | _ => exact p2.elim
  | _ => exact p2.elim
end
end P

/-! P19: sorted by a key that is a def. -/
namespace P
open PySem PySem.Spec PyProof.Rows L2 G
section
variable {X : Cx} {pins : List (Addr × Obj)} {σ : St} {H : Hp} {s : Shared} {h' : Heap}
/-- an address that nothing knows -/
structure Frh (X : Cx) (pins : List (Addr × Obj)) (a : Addr) : Prop where
  up : X.s_0.heap.objs.size ≤ a
  nl : a ≠ X.env.locals
  nf : a ∉ X.fs
  nc : ∀ x c, X.env.cells.lookup x = some c → c ≠ a
  np : ∀ p ∈ X.pn ++ pins, p.1 ≠ a
theorem frh_of (I : Inv X pins σ H s) {a : Addr} (l : s.heap.objs.size ≤ a) : Frh X pins a where
  up := Nat.le_trans I.sz l
  nl := fun z => by subst z; exact absurd (Nat.lt_of_lt_of_le I.lt l) (Nat.lt_irrefl _)
  nf := I.nofs l
  nc := fun x c e z => by
    subst z
    obtain ⟨v, o, ho, _⟩ := I.cell x c e
    exact absurd (Nat.lt_of_lt_of_le (Heap.lt_size ho) l) (Nat.lt_irrefl _)
  np := fun p hp z => by
    subst z
    exact absurd (Nat.lt_of_lt_of_le (Heap.lt_size (I.pin p hp).1) l) (Nat.lt_irrefl _)
/-- what is at addresses that nothing knows may change -/
theorem inv_loose {ch : List Addr} {t' : Nat} (I : Inv X pins σ H s) (hc : ∀ b ∈ ch, Frh X pins b ∧ H b = none) (k : ∀ b u, b ∉ ch → s.heap.get? b = some u → h'.get? b = some u) : Inv X pins σ H { s with heap := h', toks := t' } := by
  refine I.call (g' := s.gens) (d' := s.drawn) (ch := ch) ⟨fun b o e _ _ nb => k b o nb e, fun b o e _ _ nb => ⟨o.slots, k b o nb e⟩, fun b o _ n _ => n, fun b o e nb => ⟨o, k b o nb e⟩, fun b xs e => e, fun b o u e => e, fun b ps e => ⟨#[], by rw [e]; simp⟩⟩ (fun a o e => ?_) I.bare fun b hb => ?_
  · refine (I.hok a o e).stay (fun b u hb q => k b u (fun z => ?_) q) (fun _ q => q) fun _ _ q => q
    have n := (hc b z).2
    rcases hb with rfl | hb
    · rw [e] at n; cases n
    · rw [hb] at n; cases n
  · obtain ⟨f, _⟩ := hc b hb
    exact ⟨.inr f.up, f.nl, f.nc, f.np⟩
/-- .. and one of them becomes known -/
theorem inv_adopt {ch : List Addr} {a : Addr} {o : HO} {t' : Nat} (I : Inv X pins σ H s) (hc : ∀ b ∈ ch, Frh X pins b ∧ H b = none) (ha : a ∈ ch) (k : ∀ b u, b ∉ ch → s.heap.get? b = some u → h'.get? b = some u) (new : ObjOk X.prog X.w (upd H a o) h' a o) :
    Inv X pins σ (upd H a o) { s with heap := h', toks := t' } := by
  have na := (hc a ha).2
  have ne : ∀ b u, H b = some u → b ≠ a := fun b u e z => by subst z; rw [na] at e; cases e
  refine I.call (g' := s.gens) (d' := s.drawn) (ch := ch) ⟨fun b o e _ _ nb => k b o nb e, fun b o e _ _ nb => ⟨o.slots, k b o nb e⟩, fun b o _ n nb => by rw [upd_ne (fun z => nb (by rw [z]; exact ha))]; exact n, fun b o e nb => ⟨o, k b o nb e⟩, fun b xs e => by rw [upd_ne (ne b _ e)]; exact e, fun b o u e => by rw [upd_ne (ne b _ e)]; exact e, fun b ps e => ⟨#[], by rw [upd_ne (ne b _ e), e]; simp⟩⟩ (fun c u e => ?_) I.bare fun b hb => ?_
  · by_cases hca : c = a
    · subst hca; rw [upd_same] at e; cases e; exact new
    · rw [upd_ne hca] at e
      refine (I.hok c u e).stay (fun b v hb q => k b v (fun z => ?_) q) (fun b q => by rw [upd_ne (ne b _ q)]; exact q) fun b xs q => by rw [upd_ne (ne b _ q)]; exact q
      have n := (hc b z).2
      rcases hb with rfl | hb
      · rw [e] at n; cases n
      · rw [hb] at n; cases n
  · obtain ⟨f, _⟩ := hc b hb
    exact ⟨.inr f.up, f.nl, f.nc, f.np⟩
/-- an object there is fixed for a while -/
theorem inv_pin {a : Addr} {o : Obj} (I : Inv X pins σ H s) (f : Frh X pins a) (n : H a = none) (e : s.heap.get? a = some o) (hd : ∀ v, o.data ≠ .cell v) : Inv X ((a, o) :: pins) σ H s := I.pins_of fun p hp => by
  rcases List.mem_cons.mp hp with rfl | hp
  · exact ⟨e, n, f.nl, f.nf, hd⟩
  · exact I.pin p (List.mem_append_right _ hp)
theorem inv_unpin {p : Addr × Obj} (I : Inv X (p :: pins) σ H s) : Inv X pins σ H s := I.pins_of fun r hr => I.pin r (List.mem_append_right _ (List.mem_cons_of_mem _ hr))
end
section
variable {prog : Program} {w : World} {A : Around} {E : Value → Shared → Prop} {s : Shared}
/-- the items of a list or a tuple -/
def SeqAt (h : Heap) (l : Addr) (vs : List Value) : Prop := ∃ (T : String) (o : Obj) (n : Nat), (T = "list" ∨ T = "tuple") ∧ h.get? l = some o ∧ o.cls = .type T ∧ o.data = .seq vs.toArray n
theorem coll_seq {l : Addr} {vs : List Value} {Q : List Value → Shared → Prop} (hl : SeqAt s.heap l vs)
    (q : Q vs { s with heap := (s.heap.push (seqObj "list" #[] 0)).update s.heap.objs.size (Obj.mapSeq (· ++ vs.toArray)) }) (hz : vs.length ≤ sizeLine) : wpAny (model prog w) A (collect (.ref l)) Q E s := by
  obtain ⟨T, o, n, hT, e0, ec, ed⟩ := hl
  have e1 : (s.heap.push (seqObj "list" #[] 0)).get? l = some o := Heap.get?_push_of_some _ e0
  have e2 : (s.heap.push (seqObj "list" #[] 0)).get? s.heap.objs.size = some (seqObj "list" #[] 0) := Heap.get?_push_size _ rfl
  unfold collect
  refine wpAny_bind (wpAny_runValue (codeAny_builtin entry_proto_collect' ?_))
  refine wpAny_bind (wpAny_newList (wpAny_pure ⟨Code.quiet_builtin _ (by decide +kernel), codeAny_builtin entry_list_iadd' ?_⟩))
  show wpAny (model prog w) _ (Builtin.List.listExtendWith (.ref s.heap.objs.size) (.ref l) (.ref s.heap.objs.size)) _ _ { s with heap := s.heap.push (seqObj "list" #[] 0) }
  unfold Builtin.List.listExtendWith
  refine wpAny_bind (wpAny_typeOf (T := T) ⟨o, e1, ec⟩ ?_)
  have tt : ∀ x : String, (Value.type x == Value.type x) = true := fun x => by
    show decide _ = true
    simp
  rw [if_pos (by rcases hT with rfl | rfl <;> simp [tt])]
  refine wpAny_bind (listItems_at e1 ed ?_)
  refine wpAny_bind (listItems_at e2 rfl ?_)
  rw [if_neg (by simp)]
  refine wpAny_bind (listUpdate_at e2 rfl ?_ (Nat.zero_le _) ?_)
  · refine wpAny_pure ?_
    dsimp only
    refine wpAny_bind (wpAny_load (get?_update_seq e2 _) ?_)
    show wpAny (model prog w) _ (pure ((#[] : Array Value) ++ vs.toArray).toList) _ _ _
    rw [show ((#[] : Array Value) ++ vs.toArray).toList = vs by simp]
    exact wpAny_pure q
  · show (#[] ++ vs.toArray).size ≤ _
    rw [Array.size_append, List.size_toArray, List.size_toArray, List.length_nil]
    omega
end
/-- a key that leans on no object -/
def SK (u : Value) (d : PyData) : Prop := ∀ h : Heap, Reads h u d []
def scal : FV → Bool
  | .str _ => true
  | .int _ => true
  | _ => false
section
variable {X : Cx} {pins : List (Addr × Obj)} {σ : St} {μ0 : Nat → Addr} {h0 : FH} {H0 : Hp} {a kS f : Addr} {fd : FuncData} {ps : List Str} {g : FDef} {n : Nat}
/-- while keys are made -/
def KJ (X : Cx) (pins : List (Addr × Obj)) (σ : St) (μ0 : Nat → Addr) (h0 : FH) (H0 : Hp) (a kS : Addr) (s : Shared) : Prop :=
  ∃ H' μ', Inv X pins σ H' s ∧ Step μ0 h0.length H0 μ' h0.length H' ∧ HR (bs X) μ' h0 H' ∧ H' a = none ∧ H' kS = none
theorem scal_sk {B : Bs} {H H' : Hp} {μ : Nat → Addr} {n : Nat} {x : FV} {u : V} {v : Value} (h : scal x = true) (r : RR B H μ n H' (.v x) u) (q : RelV u v) : SK v x.py := by
  cases r with
  | v r =>
    cases r <;> first | cases h | skip
    · obtain ⟨t, rfl⟩ := q; exact fun h => .int _ _
    · obtain ⟨t, rfl⟩ := q; exact fun h => .str _ _
theorem key_turn (F : FnOk X.prog X.w X.K X.mg X.base (L2.CX X.prog X.w) n f fd ps (spP (bs X) g)) (hb : Binds X.K fd ps []) (hr : Room n X.A.in1.in1) {d kx : FV} (e : g [d] h0 = .ok (.v kx) h0) (hk : scal kx = true)
    {v : Value} {y : V} (ry : RelV y v) (rd : VR (bs X) H0 μ0 h0.length d y) (fa : Frh X pins a) (fk : Frh X pins kS) (ne : a ≠ kS) {s : Shared} (J : KJ X pins σ μ0 h0 H0 a kS s) {oa ok : Obj} (ea : s.heap.get? a = some oa) (ek : s.heap.get? kS = some ok)
    (da : ∀ v, oa.data ≠ .cell v) (dk : ∀ v, ok.data ≠ .cell v) :
    wpAny (model X.prog X.w) X.A.in1.in1 (call (.ref f) [v]) (fun u s2 => KJ X pins σ μ0 h0 H0 a kS s2 ∧ s2.heap.get? a = some oa ∧ s2.heap.get? kS = some ok ∧ SK u kx.py) (fun _ _ => False) s := by
  obtain ⟨H', μ', I, st, hr', na, nk⟩ := J
  have I1 := inv_pin I fa na ea da
  have fk1 : Frh X ((a, oa) :: pins) kS := ⟨fk.up, fk.nl, fk.nf, fk.nc, fun p hp => by
    rcases List.mem_append.mp hp with hp | hp
    · exact fk.np p (List.mem_append_left _ hp)
    · rcases List.mem_cons.mp hp with rfl | hp
      · exact ne
      · exact fk.np p (List.mem_append_right _ hp)⟩
  have I2 := inv_pin I1 fk1 nk ek dk
  have rd' : VR (bs X) H' μ' h0.length d y := VR.mono st.gw st.ext (Nat.le_refl _) _ _ rd
  have sp : spP (bs X) g [y] H' (fun u H'' => (∃ μ'', Step μ' h0.length H' μ'' h0.length H'' ∧ HR (bs X) μ'' h0 H'') ∧ ∀ z, RelV u z → SK z kx.py) (fun _ _ _ => False) :=
    ⟨μ', h0, [d], hr', .cons rd' .nil, by
      rw [e]
      exact fun μ'' H'' s2 r2 u ru => ⟨⟨μ'', s2, r2⟩, fun z hz => scal_sk hk ru hz⟩⟩
  have hl : ([v] ++ []).length = ps.length := F.len _ _ _ _ sp
  refine wpAny_call (codeAny_mono (F.run _ X.stack s H' ⟨[v], []⟩ [v] [y] _ _ hr I2.env0.in1.in1 (hb s [v] I.kIn hl) (.cons ry .nil) sp) fun r s2 hq => ?_)
  cases r with
  | error x =>
    obtain ⟨_, _, _, _, _, _, _, _, _, _, _, _, z⟩ := hq
    exact z
  | ok fl =>
    cases fl with
    | ret u =>
      obtain ⟨w, H2, I3, rw', ⟨μ2, st2, hr2⟩, hw⟩ := I2.after hq
      have p1 := I3.pin (kS, ok) (List.mem_append_right _ List.mem_cons_self)
      have p2 := I3.pin (a, oa) (List.mem_append_right _ (List.mem_cons_of_mem _ List.mem_cons_self))
      exact ⟨⟨H2, μ2, inv_unpin (inv_unpin I3), st.trans st2, hr2, p2.2.1, p1.2.1⟩, p2.1, p1.1, hw u rw'⟩
    | next => exact False.elim hq
    | brk => exact False.elim hq
    | cont => exact False.elim hq
theorem freed_none (h : Heap) (c : Addr) : (h.update c fun o => { o with data := .freed }).get? c = none := by
  cases q : (h.update c fun o => { o with data := .freed }).get? c with
  | none => rfl
  | some o =>
    obtain ⟨q1, q2⟩ := (Heap.get?_eq_some _ _ _).mp q
    rw [Heap.objs_update_self] at q1
    cases z : h.objs[c]? with
    | none => rw [z] at q1; cases q1
    | some o' => rw [z] at q1; cases q1; cases q2
theorem kj_loose {s : Shared} {h' : Heap} (J : KJ X pins σ μ0 h0 H0 a kS s) (fk : Frh X pins kS) (k : ∀ b, b ≠ kS → h'.get? b = s.heap.get? b) : KJ X pins σ μ0 h0 H0 a kS { s with heap := h' } := by
  obtain ⟨H', μ', I, st, hr', na, nk⟩ := J
  exact ⟨H', μ', inv_loose (ch := [kS]) (t' := s.toks) I (fun b hb => by simp at hb; subst hb; exact ⟨fk, nk⟩) (fun b u hb e => (k b (by simpa using hb)).trans e), st, hr', na, nk⟩
/-- the keys, then the sorting -/
theorem keyJ_rest {vs : List Value} {ds : List FV} {kz : List PyData} {e1 : Nat} {E : Value → Shared → Prop} {R : PySem.Fin → Shared → Prop} (F : FnOk X.prog X.w X.K X.mg X.base (L2.CX X.prog X.w) n f fd ps (spP (bs X) g)) (hb : Binds X.K fd ps []) (hr : Room n X.A.in1.in1) (fa : Frh X pins a) (fk : Frh X pins kS) (ne : a ≠ kS)
    (hv : ∀ (i : Nat) v, vs[i]? = some v → ∃ d y kx, RelV y v ∧ VR (bs X) H0 μ0 h0.length d y ∧ g [d] h0 = .ok (.v kx) h0 ∧ scal kx = true ∧ kz[i]? = some kx.py) (hlen : kz.length = vs.length) (hZ : vs.length ≤ sizeLine) (hal : PySem.W.AllAlike kz) (hsk : PySem.W.Sortable kz) (hu : ∀ d, d ∈ kz → X.A.in1.in1.units + d.depth < cLine)
    {s : Shared} (J : KJ X pins σ μ0 h0 H0 a kS s) (na : s.heap.get? a = some (seqObj "list" #[] e1)) (nk : s.heap.get? kS = some (seqObj "list" #[] 0))
    (q : ∀ s2 h' tk out c, KJ X pins σ μ0 h0 H0 a kS s2 → (∀ b u, b ∉ [a, kS] → s2.heap.get? b = some u → h'.get? b = some u) → h'.get? a = some (seqObj "list" (List.toArray out) c) → PySem.W.KeyedOut false kz vs out → R (.done (.ret .none)) { s2 with heap := h', toks := tk }) :
    wpAny (model X.prog X.w) X.A.in1.in1 (PyProof.Rows.ksk_rest a (.ref f) false vs.toArray e1 (.ref kS)) R E s := by
  unfold PyProof.Rows.ksk_rest
  refine wpAny_bind (wpAny_rule ?_)
  rw [← Array.forIn_toList]
  simp only [List.toList_toArray]
  refine wpAny_bind (PyProof.Rows.ksk_fold (fun i s' => KJ X pins σ μ0 h0 H0 a kS s' ∧ s'.heap.get? a = some (seqObj "list" #[] e1) ∧ ∃ (kA : Array Value) (e : Nat), s'.heap.get? kS = some (seqObj "list" kA e) ∧ PySem.W.EachIs SK kA.toList (kz.take i)) vs 0 s
    ⟨J, na, #[], 0, nk, by rw [List.take_zero]; exact .nil⟩ (fun j x s' hx hI => ?_) fun s' hI => ?_)
  · obtain ⟨J', na', kA, e, nk', hk⟩ := hI
    rw [Nat.zero_add] at hk ⊢
    obtain ⟨d, y, kx, ry, rd, eg, sc, kj⟩ := hv j x hx
    have kl : kA.size ≤ vs.length := by
      have z := hk.length
      rw [Array.length_toList, List.length_take] at z
      omega
    refine wpAny_bind (wpAny_attempt (wpAny_mono (key_turn F hb hr eg sc ry rd fa fk ne J' na' nk' (fun _ z => nomatch z) fun _ z => nomatch z) (fun u s2 hu' => ?_) fun _ _ z => z.elim))
    obtain ⟨J2, na2, nk2, sk⟩ := hu'
    have sb := Heap.SameBut.update s2.heap kS (Obj.mapSeq (·.push u))
    refine wpAny_bind (listUpdate_at nk2 rfl ?_ (Nat.le_trans kl hZ) (Nat.le_trans (Nat.le_of_eq (Array.size_push ..)) (Nat.succ_le_succ (Nat.le_trans kl hZ))))
    refine wpAny_pure ⟨rfl, kj_loose J2 fk sb.2, (sb.2 a ne).trans na2, kA.push u, _, get?_update_seq nk2 (·.push u), ?_⟩
    rw [Array.toList_push, List.take_add_one, kj]
    exact PySem.W.each_snoc sk hk
  · obtain ⟨J', na', kA, e, nk', hk⟩ := hI
    rw [Nat.zero_add, List.take_of_length_le (Nat.le_of_eq hlen)] at hk
    have kl : kA.size = vs.length := by
      have z := hk.length
      rw [Array.length_toList] at z
      omega
    have hk2 : PySem.W.EachIs (fun v k => ∃ as, Reads s'.heap v k as) kA.toList kz := hk.mono fun v k z => ⟨[], z _⟩
    refine wpAny_bind (listItems_at nk' rfl ?_)
    have oth : ∀ b, b ≠ kS → (s'.heap.update kS fun o => { o with data := .freed }).get? b = s'.heap.get? b := fun b hb' => (Heap.SameBut.update s'.heap kS _).2 b hb'
    refine PySem.W.keyH_end (κ := PySem.W.dataKind s'.heap kz) (h₁ := s'.heap.update kS fun o => { o with data := .freed }) (fun b o hb' z => ?_) (freed_none _ _) nk' na' (Ne.symm ne) (PySem.W.SortsAt.data hk2 hal hsk hu) kl hZ fun h' tk c kp nh => ?_
    · by_cases z2 : b = kS
      · subst z2; rw [freed_none] at z; cases z
      · rw [oth b z2] at z; exact z
    · refine q s' h' tk _ c J' (fun b u hb' z => ?_) nh ⟨s'.heap, kA.toList, hal, rfl, hk2⟩
      have n1 : b ≠ a := fun z => hb' (by rw [z]; exact List.mem_cons_self)
      have n2 : b ≠ kS := fun z => hb' (by rw [z]; simp)
      exact kp b u n1 ((oth b n2).trans z)
theorem each_at {α β : Type} {R : α → β → Prop} : ∀ {as : List α} {bs : List β} {i : Nat} {x : α}, PySem.W.EachIs R as bs → as[i]? = some x → ∃ y, bs[i]? = some y ∧ R x y
  | _, _, 0, _, .cons r _, e => by cases e; exact ⟨_, rfl, r⟩
  | _, _, i + 1, _, .cons _ t, e => each_at (i := i) t (by simpa using e)
theorem each_vv {B : Bs} {H : Hp} {μ : Nat → Addr} {n : Nat} : ∀ {ds : List FV} {ys : List V} {us : List Value}, VRs B H μ n ds ys → Vals ys us → PySem.W.EachIs (fun v d => ∃ y, RelV y v ∧ VR B H μ n d y) us ds
  | _, _, _, .nil, .nil => .nil
  | _, _, _, .cons a b, .cons r t => .cons ⟨_, r, a⟩ (each_vv b t)
theorem vv_each {B : Bs} {H : Hp} {μ : Nat → Addr} {n : Nat} : ∀ {ds : List FV} {us : List Value}, PySem.W.EachIs (fun v d => ∃ y, RelV y v ∧ VR B H μ n d y) us ds → ∃ ys, Vals ys us ∧ VRs B H μ n ds ys
  | _, _, .nil => ⟨[], .nil, .nil⟩
  | _, _, .cons ⟨y, r, a⟩ t => by
    obtain ⟨ys, q1, q2⟩ := vv_each t
    exact ⟨y :: ys, .cons r q1, .cons a q2⟩
/-- what sorted(l, key=f) asks and gives -/
def rSortK (X : Cx) (f : Addr) (g : FDef) (xs zs : List V) (H : Hp) (Q : VK) : Prop :=
  ∃ (μ : Nat → Addr) (h : FH) (l : Addr) (ds : List FV) (ys : List V) (key : FV → PyData), xs = [.ref l] ∧ zs = [.ref f] ∧ HR (bs X) μ h H ∧ (SqL X.K H l ys ∨ SqT X.K H l ys) ∧ VRs (bs X) H μ h.length ds ys ∧
    (∀ d, d ∈ ds → ∃ kx, g [d] h = .ok (.v kx) h ∧ scal kx = true ∧ key d = kx.py) ∧ PySem.W.AllAlike (ds.map key) ∧
    ∀ p H' μ' ys', Step μ h.length H μ' h.length H' → HR (bs X) μ' h H' → H' p = none → VRs (bs X) H' μ' h.length (ds.mergeSort (PySem.W.dataLe false key)) ys' → Q (.ref p) (upd H' p (.lst ys'))
theorem scal_py {kx : FV} (h : scal kx = true) : kx.py ≠ .none ∧ (∀ xs, kx.py ≠ .tuple xs) ∧ kx.py.depth ≤ 1 := by
  match kx, h with
  | .int i, _ => exact ⟨fun z => (nomatch z), fun xs z => (nomatch z), by simp [FV.py, PyData.depth]⟩
  | .str x, _ => exact ⟨fun z => (nomatch z), fun xs z => (nomatch z), by simp [FV.py, PyData.depth]⟩
theorem cr_sortK (F : FnOk X.prog X.w X.K X.mg X.base (L2.CX X.prog X.w) n f fd ps (spP (bs X) g)) (hb : Binds X.K fd ps []) (hr : Room n X.A.in1.in1) : CallRK X (.builtin "sorted") [Str.ofString "key"] (rSortK X f g) := by
  intro pins s σ H xs zs us ws Q I rx rz hq
  obtain ⟨μ, h, l, ds, ys, key, rfl, rfl, hh, hl, hd, hk, hal, q⟩ := hq
  rw [Vals.ref1 rx, Vals.ref1 rz]
  have hs : ∃ its, Vals ys its ∧ SeqAt s.heap l its ∧ ys.length ≤ sizeLine := by
    rcases hl with hl | hl
    · obtain ⟨its, rv, ⟨o, m, e, ec, _, ed⟩, z⟩ := I.list hl
      exact ⟨its, rv, ⟨"list", o, m, .inl rfl, e, ec, ed⟩, z⟩
    · obtain ⟨its, rv, ⟨o, e, ec, m, ed⟩, z⟩ := I.tuple hl
      exact ⟨its, rv, ⟨"tuple", o, m, .inr rfl, e, ec, ed⟩, z⟩
  obtain ⟨its, rv, hsq, hz⟩ := hs
  have ev := each_vv hd rv
  have hle := ev.length
  have hz' : its.length ≤ sizeLine := by rw [← rv.length]; exact hz
  show wpAny (model X.prog X.w) X.A (call (.builtin "sorted") [.ref l] [(Str.ofString "key", .ref f)]) _ _ s
  refine PyProof.Rows.call_function_entry_kw kind_sorted plain_sorted entry_sorted (PyProof.Rows.ksk_s1 _ _) ?_
  unfold Builtin.«sorted»
  refine wpAny_bind (m := checkCount "sorted" 1 1 _) (wpAny_pure ?_)
  refine wpAny_bind (coll_seq hsq ?_ hz')
  refine wpAny_bind (wpAny_newList ?_ hz')
  have sz2 : ((s.heap.push (seqObj "list" #[] 0)).update s.heap.objs.size (Obj.mapSeq (· ++ its.toArray))).objs.size = s.heap.objs.size + 1 := by
    rw [Heap.size_update, size_push']
  show wpAny (model X.prog X.w) _ _ _ _ { s with heap := PySem.W.copyHeap s.heap its }
  rw [sz2]
  have ca := PySem.W.copyHeap_at s.heap its
  refine wpAny_bind (wpAny_holding (wpAny_call_entry_kw slot_list_sort ⟨_, ca, rfl⟩ entry_list_sort ?_ (PyProof.Rows.ksk_l1 _ _)))
  rw [PyProof.Rows.ksk_t1]
  unfold PyProof.Rows.ksk_tree
  have cold : ∀ b u, s.heap.get? b = some u → (PySem.W.copyHeap s.heap its).get? b = some u := fun b u z => PySem.W.copyHeap_old z
  have csz : (PySem.W.copyHeap s.heap its).objs.size = s.heap.objs.size + 2 := by
    unfold PySem.W.copyHeap
    rw [size_push', sz2]
  generalize PySem.W.copyHeap s.heap its = hc at ca cold csz
  obtain ⟨e1, ca1⟩ : ∃ e1, (hc.update (s.heap.objs.size + 1) (Obj.mapSeq fun _ => (#[] : Array Value))).get? (s.heap.objs.size + 1) = some (seqObj "list" #[] e1) := ⟨_, get?_update_seq ca fun _ => #[]⟩
  have u1 : ∀ b u, s.heap.get? b = some u → (hc.update (s.heap.objs.size + 1) (Obj.mapSeq fun _ => (#[] : Array Value))).get? b = some u := fun b u z => by
    rw [(Heap.SameBut.update hc (s.heap.objs.size + 1) _).2 b (Nat.ne_of_lt (Nat.lt_succ_of_lt (Heap.lt_size z)))]
    exact cold b u z
  have usz : (hc.update (s.heap.objs.size + 1) (Obj.mapSeq fun _ => (#[] : Array Value))).objs.size = s.heap.objs.size + 2 := by rw [Heap.size_update, csz]
  refine wpAny_bind (listItems_at ca rfl ?_)
  refine wpAny_bind (listUpdate_at ca rfl ?_ (by rw [List.size_toArray]; exact hz') (Nat.zero_le _))
  refine wpAny_bind (seqEpoch_at ca1 rfl ?_)
  refine wpAny_bind (wpAny_newTuple ?_ (by show its.length ≤ _; exact hz'))
  refine wpAny_bind (wpAny_newList ?_ (Nat.zero_le _))
  refine wpAny_holding ?_
  have fa : Frh X pins (s.heap.objs.size + 1) := frh_of I (Nat.le_succ _)
  have fk : Frh X pins (s.heap.objs.size + 3) := frh_of I (by omega)
  have ne13 : s.heap.objs.size + 1 ≠ s.heap.objs.size + 3 := fun z => by have := Nat.add_left_cancel z; cases this
  have ksz : ((hc.update (s.heap.objs.size + 1) (Obj.mapSeq fun _ => (#[] : Array Value))).push (seqObj "tuple" its.toArray 0)).objs.size = s.heap.objs.size + 3 := by rw [size_push', usz]
  show wpAny (model X.prog X.w) _ (PyProof.Rows.ksk_rest (s.heap.objs.size + 1) (.ref f) false its.toArray e1 (.ref ((hc.update (s.heap.objs.size + 1) (Obj.mapSeq fun _ => (#[] : Array Value))).push (seqObj "tuple" its.toArray 0)).objs.size)) _ _ { s with heap := ((hc.update (s.heap.objs.size + 1) (Obj.mapSeq fun _ => (#[] : Array Value))).push (seqObj "tuple" its.toArray 0)).push (seqObj "list" #[] 0) }
  rw [ksz]
  have up : ∀ b u, s.heap.get? b = some u → (((hc.update (s.heap.objs.size + 1) (Obj.mapSeq fun _ => (#[] : Array Value))).push (seqObj "tuple" its.toArray 0)).push (seqObj "list" #[] 0)).get? b = some u := fun b u z => Heap.get?_push_of_some _ (Heap.get?_push_of_some _ (u1 b u z))
  have J : KJ X pins σ μ h H (s.heap.objs.size + 1) (s.heap.objs.size + 3) { s with heap := ((hc.update (s.heap.objs.size + 1) (Obj.mapSeq fun _ => (#[] : Array Value))).push (seqObj "tuple" its.toArray 0)).push (seqObj "list" #[] 0) } :=
    ⟨H, μ, I.kept (t' := s.toks) up, Step.refl _ _ _, hh, I.hok.fresh (Nat.le_succ _), I.hok.fresh (by omega)⟩
  have kpy : ∀ d, d ∈ ds.map key → d ≠ .none ∧ (∀ xs, d ≠ .tuple xs) ∧ d.depth ≤ 1 := fun d hd' => by
    obtain ⟨x, hx, rfl⟩ := List.mem_map.mp hd'
    obtain ⟨kx, _, sc, ek⟩ := hk x hx
    rw [ek]
    exact scal_py sc
  refine keyJ_rest (ds := ds) (kz := ds.map key) F hb hr fa fk ne13 (fun i v hv => ?_) (by rw [List.length_map]; exact hle.symm) hz' hal (.inr fun d hd' => ⟨(kpy d hd').1, (kpy d hd').2.1⟩) (fun d hd' => by
    have := (kpy d hd').2.2
    have := hr.un
    omega) J (Heap.get?_push_of_some _ (Heap.get?_push_of_some _ ca1)) (by rw [← ksz]; exact Heap.get?_push_size _ rfl) fun s2 h' tk out c J2 keep nh ko => ?_
  · obtain ⟨d, e, y, ry, rd⟩ := each_at ev hv
    obtain ⟨kx, eg, sc, ek⟩ := hk d (List.mem_of_getElem? e)
    exact ⟨d, y, kx, ry, rd, eg, sc, by rw [List.getElem?_map, e, ← ek]; rfl⟩
  · obtain ⟨H', μ', I2, st, hr2, na, nk⟩ := J2
    obtain ⟨ys', rv', rd'⟩ := vv_each (PySem.W.keyedOut_each key ko ev)
    have rd2 := VRs.mono st.gw st.ext (Nat.le_refl _) _ _ rd'
    have lout : ys'.length ≤ sizeLine := by
      have z := (PySem.W.keyedOut_each key ko ev).length
      rw [List.length_mergeSort] at z
      rw [rv'.length, z, ← hle]; exact hz'
    refine ⟨_, rfl, wpAny_pure ⟨_, rfl, .ref (s.heap.objs.size + 1), upd H' (s.heap.objs.size + 1) (.lst ys'), ?_, rfl, q _ H' μ' ys' st hr2 na rd2⟩⟩
    exact inv_adopt (ch := [s.heap.objs.size + 1, s.heap.objs.size + 3]) I2 (fun b hb' => by
      simp only [List.mem_cons, List.not_mem_nil, or_false] at hb'
      rcases hb' with rfl | rfl
      · exact ⟨fa, na⟩
      · exact ⟨fk, nk⟩) List.mem_cons_self keep ⟨lout, out, c, rv', nh⟩
end
/-- the key of an item -/
noncomputable def keyAt (g : FV → M RV) (h : FH) (d : FV) : PyData := match g d h with
  | .ok (.v kx) _ => kx.py
  | _ => .none
noncomputable def oSortK (g : FV → M RV) (x : RV) : M RV := fun h => open Classical in match x.seq h with
  | some (_, ds) => if (∀ d, d ∈ ds → ∃ kx, g d h = .ok (.v kx) h ∧ scal kx = true) ∧ PySem.W.AllAlike (ds.map (keyAt g h)) then .ok (.l (ds.mergeSort (PySem.W.dataLe false (keyAt g h)))) h else .no
  | none => .no
theorem room2 {k : Nat} {A : Around} (r : Room (k + 1) A) : Room k A.in1.in1 :=
  ⟨r.hd, by have := r.dp; show A.depth + 3 * k + 5 < _; omega, by have := r.un; show A.units + 1 + 1 + 16 * k + 200 < _; omega⟩
section
variable {X : Cx} {W : WX} {E : Ent} {Γ : Sl} {e : Expr} {p0 p1 kp pos : Pos} {fa : M RV} {n : Nat}
theorem je_sortK {fn : Str} {ps : List Str} {g : FV → M RV} (h : HasF X.prog X.w X.K X.mg X.base n fn ps (f1 g)) (hr : Room (n + 1) X.A) (hm : X.mg "sorted" = none) (ha : JE X W E Γ e fa) (hg : Gl X "sorted" := by rfl) (hgf : Gl X fn := by rfl) (hdf : (fn == ("__debug__" : Str)) = false := by decide)
    (he : starEach (e :: []) X.env = (false, eval e X.env) :: starEach [] X.env := by exact star1 rfl) (hpl : (backTo pos (starEach (e :: []) X.env)).any (·.1) = false := by rfl) :
    JE X W E Γ (.Call (.Name "sorted" p0) [e] [⟨some "key", .Name fn p1, kp⟩] pos) (bnd fa (oSortK g)) := fun μ h0 σ H Q s p => by
  obtain ⟨a, fd, F, hmf, hk, hb⟩ := h.ex
  refine wE.of (pe_callBK (cr_sortK F hb (room2 hr)) hg hm boot_sorted (pa_cons pe_w pa_nil he) (pk_cons (pe_glob (v := .ref a) hgf hmf rfl hdf) pk_nil) (by decide) (by decide) (by rw [he]; rfl) hpl) (ha μ h0 σ H _ s (Po.mono (Po.bind p) fun x h1 μ1 H1 _ s1 hr1 q1 u ru => ?_))
  show rSortK X a (f1 g) [u] [.ref a] H1 Q
  have q2 := q1
  unfold oSortK at q2
  cases e1 : x.seq h1 with
  | none => rw [e1] at q2; exact q2.elim
  | some bd =>
    obtain ⟨b, ds⟩ := bd
    rw [e1] at q2
    dsimp only at q2
    split at q2
    · rename_i hc
      obtain ⟨q, xs, rfl, h4, h5⟩ := seqE_ok hr1 ru e1
      refine ⟨μ1, h1, q, ds, xs, keyAt g h1, rfl, rfl, hr1, h5, h4, fun d hd => ?_, hc.2, fun p' H' μ' ys' st hr2 np rd => ?_⟩
      · obtain ⟨kx, z1, z2⟩ := hc.1 d hd
        exact ⟨kx, z1, z2, by unfold keyAt; rw [z1]⟩
      · exact q2 μ' _ (st.trans (Step.same (same_new np))) (hr2.same (same_new np)) _ (rr_lst hr2 (s1.trans st).th np rd)
    · exact q2.elim
end
end P

/-! P20: insert. -/
namespace P
open PySem PySem.Spec PyProof.Rows L2 G
/-- an own dict that stays -/
def frzD (kvs : List (Key × FV)) : FV := .fd (kvs.map (·.1)) (kvs.map (·.2))
def oIns (ds : List FV) (i d : FV) : M (List FV) := match i with
  | .int k => if 0 ≤ k ∧ k < 2 ^ 63 ∧ ds.length < LIM then pur (ds.take k.toNat ++ [d] ++ ds.drop k.toNat) else fail
  | _ => fail
theorem VRs.takeDrop {B : Bs} {H : Hp} {μ : Nat → Addr} {n : Nat} : ∀ {ds : List FV} {vs : List V} (k : Nat), VRs B H μ n ds vs → VRs B H μ n (ds.take k) (vs.take k) ∧ VRs B H μ n (ds.drop k) (vs.drop k)
  | _, _, 0, q => by rw [List.take_zero, List.take_zero]; exact ⟨.nil, q⟩
  | _, _, k + 1, .nil => ⟨.nil, .nil⟩
  | _, _, k + 1, .cons a b => by
    obtain ⟨q1, q2⟩ := VRs.takeDrop k b
    exact ⟨.cons a q1, q2⟩
def rIns : V → List V → Hp → VK → Prop := fun x vs H Q => ∃ (l : Addr) (xs : List V) (i : Int) (y : V), x = .ref l ∧ vs = [.int i, y] ∧ H l = some (.lst xs) ∧ xs.length < sizeLine ∧ 0 ≤ i ∧ i < 2 ^ 63 ∧ Q .non (upd H l (.lst (xs.take i.toNat ++ [y] ++ xs.drop i.toNat)))
section
variable {X : Cx} {W : WX} {E : Ent} {Γ : Sl} {Γx : Option Sl} {α β : Type} {eα : α → Sl} {eβ : β → Sl} {e i : Expr} {rest : List Stmt} {px p0 apos pos : Pos} {fe fi : M RV}
theorem jb_insert (j : Nat) {ds : List FV} {x : Str} {Γ' : List FV → Sl} {kk : List FV → M (Fl α β)} (w : SubX Γx Γ) (hi : JE X W E Γ i fi) (he : JE X W E Γ e fe) (hk : ∀ d, JB X W E Γx eα eβ (Γ' d) rest (kk d)) (q : sg Γ j = some (.l ds) := by rfl) (hΓ : ∀ d, Γ.set j (some (.l d)) = Γ' d := by intro _; rfl)
    (hN : X.N[j]? = some x := by rfl) (hv : Vis X.env.scope x := by first | exact Or.inl rfl | exact Or.inr (Or.inl rfl) | exact Or.inr (Or.inr rfl)) (hd : (x == ("__debug__" : Str)) = false := by decide) (hcd : (x == ("__classdict__" : Str)) = false := by decide)
    (pe : ∀ {to : TE} {t : TA}, PE X (.Name x px) to → PA X [i, e] t → PE X (.Call (.Attribute (.Name x px) "insert" apos) [i, e] [] p0) (tBM X.K "list" rIns to t) := by intro to t h1 h2; exact pe_bm PySem.F.plainAttrs_list PySem.F.slot_list_insert PySem.F.type_list_insert mt_insert h1 h2)
    (hs : swapsWith (.Call (.Attribute (.Name x px) "insert" apos) [i, e] [] p0) none pos.line X.env = pure false := by rfl) (h1 : starEach (i :: [e]) X.env = (false, eval i X.env) :: starEach [e] X.env := by exact star1 rfl) (h2 : starEach (e :: []) X.env = (false, eval e X.env) :: starEach [] X.env := by exact star1 rfl) :
    JB X W E Γx eα eβ Γ (.Expr (.Call (.Attribute (.Name x px) "insert" apos) [i, e] [] p0) pos :: rest) (bnd (mV fi) fun iv => bnd (mV fe) fun d => bnd (oIns ds iv d) kk) := fun μ h σ H D s p => by
  have eq := sg_get q
  obtain ⟨u, h1', h2'⟩ := s.sl j _ eq
  obtain ⟨p', xs, rfl, f, a, b⟩ := own_l h2'
  refine wcons (wS.of (ps_expr (pe (pe_var hN hv hd hcd) (pa_cons pe_w (pa_cons pe_w pa_nil h2) h1)) hs) ⟨.ref p', h1', .inl ⟨rfl, xs, SqL.of a⟩, PoN.val hi s w p fun iv hh2 μ2 H2 u2 sw2 s2 v2 p2 => PoN.val he s2 w p2 fun d hh3 μ3 H3 u3 sw3 s3 v3 p3 => ?_⟩)
  obtain ⟨u', k1, k2⟩ := s3.sl j _ eq
  rw [h1'] at k1; cases k1
  obtain ⟨p'', ys, e', f', a', b'⟩ := own_l k2
  cases e'
  unfold oIns at p3
  cases v2 with
  | int k =>
    dsimp only at p3
    by_cases hl : 0 ≤ k ∧ k < 2 ^ 63 ∧ ds.length < LIM
    · rw [if_pos hl] at p3
      refine ⟨p', ys, k, u3, rfl, rfl, a', by rw [b'.len]; exact lim_lt hl.2.2, hl.1, hl.2.1, ?_⟩
      have mu : Mut (H3 p') := by rw [a']; trivial
      have g := gw_mut (o := .lst (ys.take k.toNat ++ [u3] ++ ys.drop k.toNat)) mu
      obtain ⟨z1, z2⟩ := VRs.takeDrop k.toNat b'
      have s4 := s3.chg (o := .lst (ys.take k.toNat ++ [u3] ++ ys.drop k.toNat)) (r' := .l (ds.take k.toNat ++ [d] ++ ds.drop k.toNat)) rfl eq h1' f'.1 f'.2 mu (.l f' upd_same (VRs.mono g (fun _ _ => rfl) (Nat.le_refl _) _ _ ((z1.append (.cons v3 .nil)).append z2)))
      rw [hΓ] at s4
      exact hk _ μ3 hh3 σ _ D s4 (PoN.at' p3 (StW.of g))
    · rw [if_neg hl] at p3; exact p3.elim
  | _ => exact p3.elim
end
end P

/-! R1: how natives reckon. -/
namespace P
open PySem PySem.Spec PyProof.Rows L2 G
section
variable {α β γ δ : Type}
@[simp] theorem bnd_pur (a : α) (k : α → M β) : bnd (pur a) k = k a := id rfl
@[simp] theorem bnd_fail (k : α → M β) : bnd fail k = fail := id rfl
@[simp] theorem bnd_bnd (m : M α) (k : α → M β) (l : β → M γ) : bnd (bnd m k) l = bnd m fun a => bnd (k a) l := by
  funext h; show ((m h).bind k).bind l = (m h).bind _; cases m h <;> rfl
theorem bnd_ite (c : Prop) [Decidable c] (a b : M α) (k : α → M β) : bnd (if c then a else b) k = if c then bnd a k else bnd b k := by split <;> rfl
theorem bnd_ok {m : M α} {k : α → M β} {h h' : FH} {a : α} (e : m h = .ok a h') : bnd m k h = k a h' := by
  show (m h).bind k = _; rw [e]; rfl
theorem bnd_eq {m n : M α} (e : m = n) (k : α → M β) : bnd m k = bnd n k := by rw [e]
@[simp] theorem lift_some (a : α) : lift (fun _ => some a) = pur a := id rfl
/-! ends of blocks -/
@[simp] theorem ret_pur (r : RV) : (ret (pur r) : M (Fl α β)) = pur (.rt r) := id rfl
@[simp] theorem ret_fail : (ret fail : M (Fl α β)) = fail := id rfl
@[simp] theorem ret_bnd (m : M α) (k : α → M RV) : (ret (bnd m k) : M (Fl β γ)) = bnd m fun a => ret (k a) := bnd_bnd _ _ _
@[simp] theorem toF_rt (r : RV) : toF (pur (.rt r)) = pur r := id rfl
@[simp] theorem toF_nx (u : Unit) : toF (pur (.nx u)) = pur (.v .non) := id rfl
@[simp] theorem toF_fail : toF fail = fail := id rfl
@[simp] theorem toF_bnd (m : M α) (k : α → M (Fl Unit Empty)) : toF (bnd m k) = bnd m fun a => toF (k a) := bnd_bnd _ _ _
theorem toF_ite (c : Prop) [Decidable c] (a b : M (Fl Unit Empty)) : toF (if c then a else b) = if c then toF a else toF b := by split <;> rfl
theorem toF_ret (m : M RV) : toF (ret m) = m := by
  funext h; show ((m h).bind _).bind _ = _; cases m h <;> rfl
@[simp] theorem seqN_nx (a : α) (k : α → M (Fl γ β)) : seqN (pur (.nx a)) k = k a := id rfl
@[simp] theorem seqN_rt (r : RV) (k : α → M (Fl γ β)) : seqN (pur (.rt r)) k = pur (.rt r) := id rfl
@[simp] theorem seqN_bk (b : β) (k : α → M (Fl γ β)) : seqN (pur (.bk b)) k = pur (.bk b) := id rfl
@[simp] theorem seqN_ct (b : β) (k : α → M (Fl γ β)) : seqN (pur (.ct b)) k = pur (.ct b) := id rfl
@[simp] theorem seqN_fail (k : α → M (Fl γ β)) : seqN fail k = fail := id rfl
@[simp] theorem seqN_bnd (m : M δ) (f : δ → M (Fl α β)) (k : α → M (Fl γ β)) : seqN (bnd m f) k = bnd m fun a => seqN (f a) k := bnd_bnd _ _ _
theorem seqN_ite (c : Prop) [Decidable c] (a b : M (Fl α β)) (k : α → M (Fl γ β)) : seqN (if c then a else b) k = if c then seqN a k else seqN b k := by split <;> rfl
theorem toF_seq {m : M (Fl α Empty)} {k : α → M (Fl Unit Empty)} {h h' : FH} {f : Fl α Empty} (e : m h = .ok f h') : toF (seqN m k) h = toF (seqN (pur f) k) h' := by
  show ((m h).bind _).bind _ = _; rw [e]; rfl
@[simp] theorem up_rt (r : RV) : (up (pur (.rt r)) : M (Fl α β)) = pur (.rt r) := id rfl
@[simp] theorem up_bk (b : β) : (up (pur (.bk b)) : M (Fl α β)) = pur (.bk b) := id rfl
@[simp] theorem up_ct (b : β) : (up (pur (.ct b)) : M (Fl α β)) = pur (.ct b) := id rfl
@[simp] theorem up_fail : (up fail : M (Fl α β)) = fail := id rfl
@[simp] theorem up_bnd (m : M δ) (f : δ → M (Fl Empty β)) : (up (bnd m f) : M (Fl α β)) = bnd m fun a => up (f a) := bnd_bnd _ _ _
theorem up_ite (c : Prop) [Decidable c] (a b : M (Fl Empty β)) : (up (if c then a else b) : M (Fl α β)) = if c then up a else up b := by split <;> rfl
/-! values -/
@[simp] theorem mV_v (x : FV) : mV (pur (.v x)) = pur x := id rfl
@[simp] theorem mV_l (x : List FV) : mV (pur (.l x)) = pur (.fl x) := id rfl
@[simp] theorem mV_d (x : List (Key × FV)) : mV (pur (.d x)) = pur (.fd (x.map (·.1)) (x.map (·.2))) := id rfl
@[simp] theorem mV_t (x : List (List Key × FV)) : mV (pur (.t x)) = pur (.ft (x.map (·.1)) (x.map (·.2))) := id rfl
@[simp] theorem mV_o (c : Str) (x : List (Str × FV)) : mV (pur (.o c x)) = pur (.fo c (x.map (·.1)) (x.map (·.2))) := id rfl
@[simp] theorem mV_fail : mV fail = fail := id rfl
@[simp] theorem mV_bnd (m : M α) (k : α → M RV) : mV (bnd m k) = bnd m fun a => mV (k a) := by
  funext h; show vF ((m h).bind k) = (m h).bind _; cases m h <;> rfl
theorem mV_ite (c : Prop) [Decidable c] (a b : M RV) : mV (if c then a else b) = if c then mV a else mV b := by split <;> rfl
@[simp] theorem mL_l (x : List FV) : mL (pur (.l x)) = pur x := id rfl
@[simp] theorem mL_fail : mL fail = fail := id rfl
@[simp] theorem mL_bnd (m : M α) (k : α → M RV) : mL (bnd m k) = bnd m fun a => mL (k a) := bnd_bnd _ _ _
@[simp] theorem mD_d (x : List (Key × FV)) : mD (pur (.d x)) = pur x := id rfl
@[simp] theorem mD_fail : mD fail = fail := id rfl
@[simp] theorem mD_bnd (m : M α) (k : α → M RV) : mD (bnd m k) = bnd m fun a => mD (k a) := bnd_bnd _ _ _
@[simp] theorem mT_v (x : FV) : mT (pur (.v x)) = pur x := id rfl
@[simp] theorem mT_fail : mT fail = fail := id rfl
@[simp] theorem mT_bnd (m : M α) (k : α → M RV) : mT (bnd m k) = bnd m fun a => mT (k a) := by
  funext h; show vT ((m h).bind k) = (m h).bind _; cases m h <;> rfl
theorem mT_ite (c : Prop) [Decidable c] (a b : M RV) : mT (if c then a else b) = if c then mT a else mT b := by split <;> rfl
theorem mT_l (x : List FV) (h : FH) : mT (pur (.l x)) h = .ok (.ref h.length) (h ++ [.lst x]) := id rfl
theorem mT_d (x : List (Key × FV)) (h : FH) : mT (pur (.d x)) h = .ok (.ref h.length) (h ++ [.dK x]) := id rfl
/-! calls -/
@[simp] theorem gcM_pur' (r : RV) : gcM (pur r) = pur r := gcM_pur r
@[simp] theorem gcM_fail' : gcM fail = fail := id rfl
@[simp] theorem dF_pur' (r : RV) : dF (pur r) = pur r := dF_pur r
theorem gcM_ite (c : Prop) [Decidable c] (a b : M RV) : gcM (if c then a else b) = if c then gcM a else gcM b := by split <;> rfl
theorem gcM_same {m : M RV} {h h' : FH} {r : RV} (e : m h = .ok r h') (l : h'.length ≤ h.length) : gcM m h = .ok r h' := by
  unfold gcM; rw [e]; show cutR h.length r h' = _; unfold cutR; rw [if_neg (fun z => absurd z.1 (Nat.not_lt_of_le l))]
theorem gcM_cut {m : M RV} {h h' : FH} {r r' : RV} (e : m h = .ok r h') (l : h.length < h'.length) (lo : (h'.take h.length).all (·.lowB h.length) = true) (c : r.cut h.length h' = some r') : gcM m h = .ok r' (h'.take h.length) := by
  unfold gcM; rw [e]; show cutR h.length r h' = _; unfold cutR; rw [if_pos ⟨l, lo⟩, c]
/-! tests -/
@[simp] theorem oT_bl (b : Bool) : oT (.v (.bl b)) = pur b := id rfl
@[simp] theorem mB_pur (b : Bool) : mB (pur b) = pur (.v (.bl b)) := id rfl
@[simp] theorem mB_fail : mB fail = fail := id rfl
@[simp] theorem mB_bnd (m : M α) (k : α → M Bool) : mB (bnd m k) = bnd m fun a => mB (k a) := bnd_bnd _ _ _
@[simp] theorem mNot_pur (b : Bool) : mNot (pur b) = pur (!b) := id rfl
@[simp] theorem mNot_bnd (m : M α) (k : α → M Bool) : mNot (bnd m k) = bnd m fun a => mNot (k a) := bnd_bnd _ _ _
@[simp] theorem mAnd_t (u : M Bool) : mAnd (pur true) u = u := id rfl
@[simp] theorem mAnd_f (u : M Bool) : mAnd (pur false) u = pur false := id rfl
@[simp] theorem mAnd_bnd (m : M α) (k : α → M Bool) (u : M Bool) : mAnd (bnd m k) u = bnd m fun a => mAnd (k a) u := bnd_bnd _ _ _
@[simp] theorem mOr_t (u : M Bool) : mOr (pur true) u = pur true := id rfl
@[simp] theorem mOr_f (u : M Bool) : mOr (pur false) u = u := id rfl
@[simp] theorem mOr_bnd (m : M α) (k : α → M Bool) (u : M Bool) : mOr (bnd m k) u = bnd m fun a => mOr (k a) u := bnd_bnd _ _ _
@[simp] theorem mAnd_pp (a b : Bool) : mAnd (pur a) (pur b) = pur (a && b) := by cases a <;> rfl
@[simp] theorem mOr_pp (a b : Bool) : mOr (pur a) (pur b) = pur (a || b) := by cases a <;> rfl
@[simp] theorem oAndV_t (f : M RV) : oAndV (.v (.bl true)) f = f := id rfl
@[simp] theorem oAndV_f (f : M RV) : oAndV (.v (.bl false)) f = pur (.v (.bl false)) := id rfl
@[simp] theorem oAndV_pp (a b : Bool) : oAndV (.v (.bl a)) (pur (.v (.bl b))) = pur (.v (.bl (a && b))) := by cases a <;> rfl
@[simp] theorem oOrV_t (f : M RV) : oOrV (.v (.bl true)) f = pur (.v (.bl true)) := id rfl
@[simp] theorem oOrV_f (f : M RV) : oOrV (.v (.bl false)) f = f := id rfl
@[simp] theorem oOrV_pp (a b : Bool) : oOrV (.v (.bl a)) (pur (.v (.bl b))) = pur (.v (.bl (a || b))) := by cases a <;> rfl
@[simp] theorem oNotV_bl (b : Bool) : oNotV (.v (.bl b)) = pur (.v (.bl (!b))) := id rfl
/-! targets -/
@[simp] theorem bindT_some (d : FV) (k : FV → M γ) : bindT some d k = k d := id rfl
@[simp] theorem bindT_tup (g : List FV → Option δ) (ds : List FV) (k : δ → M γ) : bindT (bTup g) (.tup ds) k = match g ds with | some x => k x | none => fail := id rfl
@[simp] theorem bindT_fl (g : List FV → Option δ) (ds : List FV) (k : δ → M γ) : bindT (bTup g) (.fl ds) k = match g ds with | some x => k x | none => fail := id rfl
@[simp] theorem bCons_cons {δ' : Type} (f : FV → Option δ) (g : List FV → Option δ') (d : FV) (ds : List FV) : bCons f g (d :: ds) = match f d with
    | some x => match g ds with
      | some y => some (x, y)
      | none => none
    | none => none := rfl
@[simp] theorem bNil_nil : bNil [] = some () := id rfl
end
end P

/-! R2: how operations reckon. -/
namespace P
open PySem PySem.Spec PyProof.Rows L2 G
theorem lift_ok {α : Type} {o : FH → Option α} {a : α} (h : ∀ s, o s = some a) : lift o = pur a := by
  funext s; show lift o s = _; unfold lift; rw [h s]; rfl
/-! ints -/
@[simp] theorem add_ii (i j : Int) : oB gAdd (.v (.int i)) (.v (.int j)) = pur (.v (.int (i + j))) := id rfl
@[simp] theorem sub_ii (i j : Int) : oB gMns (.v (.int i)) (.v (.int j)) = pur (.v (.int (i - j))) := id rfl
theorem mul_ii {i j : Int} (h : CMul i j) : oB gMul (.v (.int i)) (.v (.int j)) = pur (.v (.int (i * j))) := by
  funext s; show lift (gMul _ _) s = _; unfold lift gMul cMul; dsimp only; rw [if_pos h]; rfl
theorem mod_ii {i j : Int} (h : 0 < j) : oB gMod (.v (.int i)) (.v (.int j)) = pur (.v (.int (i % j))) := by
  funext s; show lift (gMod _ _) s = _; unfold lift gMod gI cMod; dsimp only; rw [if_pos h]; rfl
theorem div_ii {i j : Int} (h : CDiv i j) : oB gDiv (.v (.int i)) (.v (.int j)) = pur (.v (.int (i / j))) := by
  funext s; show lift (gDiv _ _) s = _; unfold lift gDiv gI cDiv; dsimp only; rw [if_pos h]; rfl
@[simp] theorem neg_i (i : Int) : oU gNeg (.v (.int i)) = pur (.v (.int (-i))) := id rfl
@[simp] theorem abs_i (i : Int) : oU gAbs (.v (.int i)) = pur (.v (.int (if i < 0 then -i else i))) := id rfl
@[simp] theorem int_i (i : Int) : oU gInt (.v (.int i)) = pur (.v (.int i)) := id rfl
@[simp] theorem lt_ii (i j : Int) : oC gLt (.v (.int i)) (.v (.int j)) = pur (decide (i < j)) := id rfl
@[simp] theorem le_ii (i j : Int) : oC gLe (.v (.int i)) (.v (.int j)) = pur (decide (i ≤ j)) := id rfl
@[simp] theorem gt_ii (i j : Int) : oC gGt (.v (.int i)) (.v (.int j)) = pur (decide (j < i)) := id rfl
@[simp] theorem ge_ii (i j : Int) : oC gGe (.v (.int i)) (.v (.int j)) = pur (decide (j ≤ i)) := id rfl
@[simp] theorem lt_ss (i j : Str) : oC gLt (.v (.str i)) (.v (.str j)) = pur (decide (i.cps.toList < j.cps.toList)) := id rfl
@[simp] theorem le_ss (i j : Str) : oC gLe (.v (.str i)) (.v (.str j)) = pur (!decide (j.cps.toList < i.cps.toList)) := id rfl
/-! texts -/
theorem add_ss {i j : Str} (h : i.length + j.length ≤ 16000000) : oB gAdd (.v (.str i)) (.v (.str j)) = pur (.v (.str (i ++ j))) := by
  funext s; show lift (gAdd _ _) s = _; unfold lift gAdd; dsimp only; rw [if_pos h]; rfl
/-! tuples, lists -/
theorem add_tt {i j : List FV} (h : i.length + j.length ≤ 16000000) : oB gAdd (.v (.tup i)) (.v (.tup j)) = pur (.v (.tup (i ++ j))) := by
  funext s; show lift (gAdd _ _) s = _; unfold lift gAdd; dsimp only; rw [if_pos h]; rfl
theorem add_ll {x y : RV} {i j : List FV} (hx : ∀ h, x.lst h = some i) (hy : ∀ h, y.lst h = some j) (nx : ∀ z, x ≠ .v (.str z)) (ni : ∀ z, x ≠ .v (.int z)) (nt : ∀ z, x ≠ .v (.tup z)) (h : i.length + j.length ≤ 16000000) : oB gAdd x y = pur (.l (i ++ j)) := by
  funext s
  show lift (gAdd _ _) s = _
  unfold lift gAdd
  split
  · rename_i a q
    split at q
    · exact absurd rfl (ni _)
    · exact absurd rfl (ni _)
    · exact absurd rfl (nx _)
    · exact absurd rfl (nt _)
    · rw [hx, hy] at q
      dsimp only at q
      rw [if_pos h] at q
      cases q; rfl
  · rename_i q
    split at q
    · exact absurd rfl (ni _)
    · exact absurd rfl (ni _)
    · exact absurd rfl (nx _)
    · exact absurd rfl (nt _)
    · rw [hx, hy] at q
      dsimp only at q
      rw [if_pos h] at q
      cases q
theorem add_lfl {i j : List FV} (h : i.length + j.length ≤ 16000000) : oB gAdd (.v (.fl i)) (.v (.fl j)) = pur (.l (i ++ j)) := add_ll (fun _ => rfl) (fun _ => rfl) (fun _ z => nomatch z) (fun _ z => nomatch z) (fun _ z => nomatch z) h
theorem add_l_l {i j : List FV} (h : i.length + j.length ≤ 16000000) : oB gAdd (.l i) (.l j) = pur (.l (i ++ j)) := add_ll (fun _ => rfl) (fun _ => rfl) (fun _ z => nomatch z) (fun _ z => nomatch z) (fun _ z => nomatch z) h
theorem add_f_l {i j : List FV} (h : i.length + j.length ≤ 16000000) : oB gAdd (.v (.fl i)) (.l j) = pur (.l (i ++ j)) := add_ll (fun _ => rfl) (fun _ => rfl) (fun _ z => nomatch z) (fun _ z => nomatch z) (fun _ z => nomatch z) h
theorem add_l_f {i j : List FV} (h : i.length + j.length ≤ 16000000) : oB gAdd (.l i) (.v (.fl j)) = pur (.l (i ++ j)) := add_ll (fun _ => rfl) (fun _ => rfl) (fun _ z => nomatch z) (fun _ z => nomatch z) (fun _ z => nomatch z) h
theorem tup_le {vs : List FV} (h : vs.length ≤ 16000000) : oTup vs = pur (.v (.tup vs)) := if_pos h
theorem lst_le {vs : List FV} (h : vs.length ≤ 16000000) : oLst vs = pur (.l vs) := if_pos h
theorem app_lt {ds : List FV} {d : FV} (h : ds.length < 16000000) : oApp ds d = pur (ds ++ [d]) := if_pos h
theorem ext_le {ds es : List FV} (h : ds.length + es.length ≤ 16000000) : oExt ds es = pur (ds ++ es) := if_pos h
@[simp] theorem tup_nil : oTup [] = pur (.v (.tup [])) := id rfl
@[simp] theorem tup_1 (a : FV) : oTup [a] = pur (.v (.tup [a])) := id rfl
@[simp] theorem tup_2 (a b : FV) : oTup [a, b] = pur (.v (.tup [a, b])) := id rfl
@[simp] theorem tup_3 (a b c : FV) : oTup [a, b, c] = pur (.v (.tup [a, b, c])) := id rfl
@[simp] theorem tup_4 (a b c d : FV) : oTup [a, b, c, d] = pur (.v (.tup [a, b, c, d])) := id rfl
@[simp] theorem tup_5 (a b c d e : FV) : oTup [a, b, c, d, e] = pur (.v (.tup [a, b, c, d, e])) := id rfl
@[simp] theorem lst_nil : oLst [] = pur (.l []) := id rfl
@[simp] theorem lst_1 (a : FV) : oLst [a] = pur (.l [a]) := id rfl
@[simp] theorem lst_2 (a b : FV) : oLst [a, b] = pur (.l [a, b]) := id rfl
@[simp] theorem lst_3 (a b c : FV) : oLst [a, b, c] = pur (.l [a, b, c]) := id rfl
@[simp] theorem lst_4 (a b c d : FV) : oLst [a, b, c, d] = pur (.l [a, b, c, d]) := id rfl
@[simp] theorem lst_5 (a b c d e : FV) : oLst [a, b, c, d, e] = pur (.l [a, b, c, d, e]) := id rfl
@[simp] theorem lst_6 (a b c d e f : FV) : oLst [a, b, c, d, e, f] = pur (.l [a, b, c, d, e, f]) := id rfl
@[simp] theorem oW_tup (ds : List FV) : oW (.tup ds) = pur ds := id rfl
@[simp] theorem oW_fl (ds : List FV) : oW (.fl ds) = pur ds := id rfl
@[simp] theorem oW_sl (ds : List FV) : oW (.sl ds) = pur ds := id rfl
@[simp] theorem oW_str (x : Str) : oW (.str x) = pur (chars x) := id rfl
@[simp] theorem oW_fd (ks : List Key) (vs : List FV) : oW (.fd ks vs) = pur (keysF keyF (ks.zip vs)) := id rfl
@[simp] theorem oL_fl (ds : List FV) : oL (.fl ds) = pur ds := id rfl
@[simp] theorem oSq_tup (ds : List FV) : oSq (.tup ds) = pur ds := id rfl
@[simp] theorem oSq_fl (ds : List FV) : oSq (.fl ds) = pur ds := id rfl
@[simp] theorem oLs_fl (ds : List FV) : oLs (.fl ds) = pur ds := id rfl
@[simp] theorem oZip_tt (a b : List FV) : oZip (.tup a) (.tup b) = pur (zipF a b) := id rfl
@[simp] theorem oZip_ff (a b : List FV) : oZip (.fl a) (.fl b) = pur (zipF a b) := id rfl
@[simp] theorem zipF_cons (a b : FV) (x y : List FV) : zipF (a :: x) (b :: y) = .tup [a, b] :: zipF x y := id rfl
@[simp] theorem zipF_nil (y : List FV) : zipF [] y = [] := id rfl
/-! subscripts -/
theorem atI_nat {α : Type} {xs : List α} {i : Nat} {d : α} (h : xs[i]? = some d) : atI xs (i : Int) = some d := by
  have l : i < xs.length := (List.getElem?_eq_some_iff.mp h).1
  unfold atI ixN
  rw [if_pos (Int.natCast_nonneg _), if_pos (by omega)]
  simpa using h
@[simp] theorem atI_0 {α : Type} (x : α) (xs : List α) : atI (x :: xs) 0 = some x := atI_nat (i := 0) rfl
@[simp] theorem atI_1 {α : Type} (x y : α) (xs : List α) : atI (x :: y :: xs) 1 = some y := atI_nat (i := 1) rfl
@[simp] theorem atI_2 {α : Type} (x y z : α) (xs : List α) : atI (x :: y :: z :: xs) 2 = some z := atI_nat (i := 2) rfl
@[simp] theorem atI_3 {α : Type} (x y z u : α) (xs : List α) : atI (x :: y :: z :: u :: xs) 3 = some u := atI_nat (i := 3) rfl
theorem atI_neg1 {α : Type} {xs : List α} (x : α) : atI (xs ++ [x]) (-1) = some x := by
  unfold atI ixN
  rw [if_neg (by decide), if_pos (by rw [List.length_append]; simp; omega)]
  simp only [Option.bind_some, List.length_append, List.length_singleton]
  rw [show ((-1 : Int) + ((xs.length + 1 : Nat) : Int)).toNat = xs.length by omega]
  simp
theorem ix_t {ds : List FV} {i : Int} {d : FV} (h : atI ds i = some d) : oB gIx (.v (.tup ds)) (.v (.int i)) = pur (.v d) := lift_ok fun s => by show (atI ds i).map RV.v = _; rw [h]; rfl
theorem ix_f {ds : List FV} {i : Int} {d : FV} (h : atI ds i = some d) : oB gIx (.v (.fl ds)) (.v (.int i)) = pur (.v d) := lift_ok fun s => by show (atI ds i).map RV.v = _; rw [h]; rfl
theorem ix_s {ds : List FV} {i : Int} {d : FV} (h : atI ds i = some d) : oB gIx (.v (.sl ds)) (.v (.int i)) = pur (.v d) := lift_ok fun s => by show (atI ds i).map RV.v = _; rw [h]; rfl
theorem ix_l {ds : List FV} {i : Int} {d : FV} (h : atI ds i = some d) : oB gIx (.l ds) (.v (.int i)) = pur (.v d) := lift_ok fun s => by show (atI ds i).map RV.v = _; rw [h]; rfl
theorem ix_bl {ds : List FV} {i : Int} {d : FV} (h : atI ds i = some d) : oB gIx (.bl ds) (.v (.int i)) = pur (.v d) := lift_ok fun s => by show (atI ds i).map RV.v = _; rw [h]; rfl
@[simp] theorem ix_t0 (x : FV) (xs : List FV) : oB gIx (.v (.tup (x :: xs))) (.v (.int 0)) = pur (.v x) := ix_t (atI_0 _ _)
@[simp] theorem ix_t1 (x y : FV) (xs : List FV) : oB gIx (.v (.tup (x :: y :: xs))) (.v (.int 1)) = pur (.v y) := ix_t (atI_1 _ _ _)
@[simp] theorem ix_t2 (x y z : FV) (xs : List FV) : oB gIx (.v (.tup (x :: y :: z :: xs))) (.v (.int 2)) = pur (.v z) := ix_t (atI_2 _ _ _ _)
@[simp] theorem ix_t3 (x y z u : FV) (xs : List FV) : oB gIx (.v (.tup (x :: y :: z :: u :: xs))) (.v (.int 3)) = pur (.v u) := ix_t (atI_3 _ _ _ _ _)
@[simp] theorem ix_f0 (x : FV) (xs : List FV) : oB gIx (.v (.fl (x :: xs))) (.v (.int 0)) = pur (.v x) := ix_f (atI_0 _ _)
@[simp] theorem ix_f1 (x y : FV) (xs : List FV) : oB gIx (.v (.fl (x :: y :: xs))) (.v (.int 1)) = pur (.v y) := ix_f (atI_1 _ _ _)
@[simp] theorem ix_f2 (x y z : FV) (xs : List FV) : oB gIx (.v (.fl (x :: y :: z :: xs))) (.v (.int 2)) = pur (.v z) := ix_f (atI_2 _ _ _ _)
theorem ix_fd {ks : List Key} {vs : List FV} {k d : FV} {kk : Key} (hk : k.key = some kk) (h : lookK (ks.zip vs) kk = some d) : oB gIx (.v (.fd ks vs)) (.v k) = pur (.v d) := by
  funext s
  show lift (gIx _ _) s = _
  unfold lift gIx
  cases k with
  | int i => dsimp only [RV.seq, RV.dict]; rw [hk]; dsimp only; rw [h]; rfl
  | str x => dsimp only [RV.seq, RV.dict]; rw [hk]; dsimp only; rw [h]; rfl
  | _ => cases hk
/-! slices -/
@[simp] theorem sl_t1 (x : FV) (xs : List FV) : oSl (.v (.tup (x :: xs))) (some 1) none = pur (.v (.tup xs)) := by
  have : cutF (x :: xs) (some 1) none = xs := by
    unfold cutF
    rw [show (some (1 : Int)) = some ((1 : Nat) : Int) from rfl, HT.sIx_nat, HT.sIx_none]
    have : min 1 (x :: xs).length = 1 := by rw [List.length_cons]; omega
    rw [this]
    simp
  funext s
  show Rs.ok (RV.v (.tup (cutF (x :: xs) (some 1) none))) s = _
  rw [this]; rfl
theorem sl_t {ds : List FV} {l u : Option Int} : oSl (.v (.tup ds)) l u = pur (.v (.tup (cutF ds l u))) := id rfl
theorem sl_f {ds : List FV} {l u : Option Int} : oSl (.v (.fl ds)) l u = pur (.l (cutF ds l u)) := id rfl
theorem sl_s {z : Str} {l u : Option Int} (h : z.length ≤ 16000000) : oSl (.v (.str z)) l u = pur (.v (.str (cutS z l u))) := by
  funext s; show lift (gSl _ _ _) s = _; unfold lift gSl; dsimp only; rw [if_pos h]; rfl
/-! built-ins -/
@[simp] theorem len_t (ds : List FV) : oU gLen (.v (.tup ds)) = pur (.v (.int ds.length)) := id rfl
@[simp] theorem len_f (ds : List FV) : oU gLen (.v (.fl ds)) = pur (.v (.int ds.length)) := id rfl
@[simp] theorem len_sl (ds : List FV) : oU gLen (.v (.sl ds)) = pur (.v (.int ds.length)) := id rfl
@[simp] theorem len_l (ds : List FV) : oU gLen (.l ds) = pur (.v (.int ds.length)) := id rfl
@[simp] theorem len_bl (ds : List FV) : oU gLen (.bl ds) = pur (.v (.int ds.length)) := id rfl
theorem len_s {z : Str} (h : z.length ≤ 16000000) : oU gLen (.v (.str z)) = pur (.v (.int z.length)) := by
  funext s; show lift (gLen _) s = _; unfold lift gLen; dsimp only; rw [if_pos h]; rfl
@[simp] theorem list_t (ds : List FV) : oU gList (.v (.tup ds)) = pur (.l ds) := id rfl
@[simp] theorem list_f (ds : List FV) : oU gList (.v (.fl ds)) = pur (.l ds) := id rfl
@[simp] theorem list_l (ds : List FV) : oU gList (.l ds) = pur (.l ds) := id rfl
@[simp] theorem tup_l (ds : List FV) : oU gTup (.l ds) = pur (.v (.tup ds)) := id rfl
@[simp] theorem tup_bl (ds : List FV) : oU gTup (.bl ds) = pur (.v (.tup ds)) := id rfl
@[simp] theorem tup_f (ds : List FV) : oU gTup (.v (.fl ds)) = pur (.v (.tup ds)) := id rfl
@[simp] theorem tup_t (ds : List FV) : oU gTup (.v (.tup ds)) = pur (.v (.tup ds)) := id rfl
@[simp] theorem dict_fd (ks : List Key) (vs : List FV) : oU gDict (.v (.fd ks vs)) = pur (.d (ks.zip vs)) := id rfl
@[simp] theorem dict_d (kvs : List (Key × FV)) : oU gDict (.d kvs) = pur (.d kvs) := id rfl
@[simp] theorem oDk_fd (ks : List Key) (vs : List FV) : oDk (.v (.fd ks vs)) = pur () := id rfl
@[simp] theorem oStr_s (z : Str) : oStr (.v (.str z)) = pur () := id rfl
@[simp] theorem keyOf_s {β : Type} (z : Str) (k : Key → M β) : keyOf (.str z) k = k (.inr z) := id rfl
@[simp] theorem keyOf_i {β : Type} (z : Int) (k : Key → M β) : keyOf (.int z) k = k (.inl z) := id rfl
theorem get_fd {ks : List Key} {vs : List FV} {k d : FV} {kk : Key} (hk : k.key = some kk) : oGet (.v (.fd ks vs)) k d = pur (.v ((lookK (ks.zip vs) kk).getD d)) := by
  refine lift_ok fun s => ?_
  show (gGet _ _ _ s).map RV.v = _
  unfold gGet
  rw [show (RV.v (.fd ks vs)).dict s = some (ks.zip vs) from rfl, hk]; rfl
@[simp] theorem get_s (ks : List Key) (vs : List FV) (z : Str) (d : FV) : oGet (.v (.fd ks vs)) (.str z) d = pur (.v ((lookK (ks.zip vs) (.inr z)).getD d)) := get_fd rfl
@[simp] theorem get_i (ks : List Key) (vs : List FV) (z : Int) (d : FV) : oGet (.v (.fd ks vs)) (.int z) d = pur (.v ((lookK (ks.zip vs) (.inl z)).getD d)) := get_fd rfl
theorem dis_le {kvs : List (Key × FV)} (h : kvs.length ≤ 15) : oDis kvs = pur (.d (mergeF [] kvs)) := if_pos h
@[simp] theorem dis_1 (k : Key) (a : FV) : oDis [(k, a)] = pur (.d [(k, a)]) := id rfl
theorem join_s {a : Str} {x : RV} {ds : List FV} {ys : List Str} {b : Bool} (h : ∀ s, x.seq s = some (b, ds)) (e : txts ds = some ys) (l : (ys.map (·.length)).sum + ys.length * a.length ≤ 16000000) : oB gJoin (.v (.str a)) x = pur (.v (.str (Txt.join a ys))) := by
  funext s
  show lift (gJoin _ _) s = _
  unfold lift gJoin
  rw [h s]
  dsimp only
  rw [e]
  dsimp only
  rw [if_pos l]; rfl
/-! isinstance -/
theorem is_mk {T : String} {x : RV} {t : String} {k : Bool} (h : ∀ s, tyR x s = some t) (e : kitB t T = some k) : oU (gIs T) x = pur (.v (.bl k)) := by
  funext s
  show lift (gIs T x) s = _
  unfold lift gIs
  rw [h s]; dsimp only; rw [e]; rfl
@[simp] theorem is_ss (x : Str) : oU (gIs "str") (.v (.str x)) = pur (.v (.bl true)) := is_mk (fun _ => rfl) (by decide +kernel)
@[simp] theorem is_st (x : List FV) : oU (gIs "str") (.v (.tup x)) = pur (.v (.bl false)) := is_mk (fun _ => rfl) (by decide +kernel)
@[simp] theorem is_sn : oU (gIs "str") (.v .non) = pur (.v (.bl false)) := is_mk (fun _ => rfl) (by decide +kernel)
@[simp] theorem is_si (x : Int) : oU (gIs "str") (.v (.int x)) = pur (.v (.bl false)) := is_mk (fun _ => rfl) (by decide +kernel)
@[simp] theorem is_sb (x : Bool) : oU (gIs "str") (.v (.bl x)) = pur (.v (.bl false)) := is_mk (fun _ => rfl) (by decide +kernel)
@[simp] theorem is_ts (x : Str) : oU (gIs "tuple") (.v (.str x)) = pur (.v (.bl false)) := is_mk (fun _ => rfl) (by decide +kernel)
@[simp] theorem is_tt (x : List FV) : oU (gIs "tuple") (.v (.tup x)) = pur (.v (.bl true)) := is_mk (fun _ => rfl) (by decide +kernel)
@[simp] theorem is_tf (x : List FV) : oU (gIs "tuple") (.v (.fl x)) = pur (.v (.bl false)) := is_mk (fun _ => rfl) (by decide +kernel)
@[simp] theorem is_ti (x : Int) : oU (gIs "tuple") (.v (.int x)) = pur (.v (.bl false)) := is_mk (fun _ => rfl) (by decide +kernel)
@[simp] theorem is_lf (x : List FV) : oU (gIs "list") (.v (.fl x)) = pur (.v (.bl true)) := is_mk (fun _ => rfl) (by decide +kernel)
@[simp] theorem is_ll (x : List FV) : oU (gIs "list") (.l x) = pur (.v (.bl true)) := is_mk (fun _ => rfl) (by decide +kernel)
@[simp] theorem is_df (x : List Key) (y : List FV) : oU (gIs "dict") (.v (.fd x y)) = pur (.v (.bl true)) := is_mk (fun _ => rfl) (by decide +kernel)
@[simp] theorem is_dd (x : List (Key × FV)) : oU (gIs "dict") (.d x) = pur (.v (.bl true)) := is_mk (fun _ => rfl) (by decide +kernel)
@[simp] theorem is_dn : oU (gIs "dict") (.v .non) = pur (.v (.bl false)) := is_mk (fun _ => rfl) (by decide +kernel)
@[simp] theorem is_ln : oU (gIs "list") (.v .non) = pur (.v (.bl false)) := is_mk (fun _ => rfl) (by decide +kernel)
@[simp] theorem is_ii (x : Int) : oU (gIs "int") (.v (.int x)) = pur (.v (.bl true)) := is_mk (fun _ => rfl) (by decide +kernel)
@[simp] theorem is_ib (x : Bool) : oU (gIs "int") (.v (.bl x)) = pur (.v (.bl true)) := is_mk (fun _ => rfl) (by decide +kernel)
@[simp] theorem is_bi (x : Int) : oU (gIs "bool") (.v (.int x)) = pur (.v (.bl false)) := is_mk (fun _ => rfl) (by decide +kernel)
@[simp] theorem is_bb (x : Bool) : oU (gIs "bool") (.v (.bl x)) = pur (.v (.bl true)) := is_mk (fun _ => rfl) (by decide +kernel)
/-! None -/
@[simp] theorem isN_non (b : Bool) : oC (gIsN b) (.v .non) (.v .non) = pur (!b) := id rfl
@[simp] theorem isN_str (b : Bool) (x : Str) : oC (gIsN b) (.v (.str x)) (.v .non) = pur b := id rfl
@[simp] theorem isN_int (b : Bool) (x : Int) : oC (gIsN b) (.v (.int x)) (.v .non) = pur b := id rfl
@[simp] theorem isN_bl (b : Bool) (x : Bool) : oC (gIsN b) (.v (.bl x)) (.v .non) = pur b := id rfl
@[simp] theorem isN_tup (b : Bool) (x : List FV) : oC (gIsN b) (.v (.tup x)) (.v .non) = pur b := id rfl
@[simp] theorem isN_fl (b : Bool) (x : List FV) : oC (gIsN b) (.v (.fl x)) (.v .non) = pur b := id rfl
@[simp] theorem isN_fd (b : Bool) (x : List Key) (y : List FV) : oC (gIsN b) (.v (.fd x y)) (.v .non) = pur b := id rfl
@[simp] theorem isN_fo (b : Bool) (c : Str) (x : List Str) (y : List FV) : oC (gIsN b) (.v (.fo c x y)) (.v .non) = pur b := id rfl
@[simp] theorem isN_ref (b : Bool) (x : Nat) : oC (gIsN b) (.v (.ref x)) (.v .non) = pur b := id rfl
@[simp] theorem isN_l (b : Bool) (x : List FV) : oC (gIsN b) (.l x) (.v .non) = pur b := id rfl
@[simp] theorem isN_d (b : Bool) (x : List (Key × FV)) : oC (gIsN b) (.d x) (.v .non) = pur b := id rfl
/-! == -/
theorem q_vv {neg : Bool} {x y : FV} (hx : x.pure = true) (hy : y.pure = true) (h : min x.py.depth y.py.depth ≤ 64) : oC (gQ neg) (.v x) (.v y) = pur (if neg = true then !PyData.eqv x.py y.py else PyData.eqv x.py y.py) := by
  have e : ∀ (s : FH) (z : FV), z.pure = true → (RV.v z).dv s = some (.p z.py) := fun s z hz => by
    show z.dv s 3 = _; unfold FV.dv; rw [if_pos hz]
  funext s
  show lift (gQ neg _ _) s = _
  unfold lift gQ
  rw [e s x hx, e s y hy]
  dsimp only
  rw [eqX, if_pos h]; rfl
@[simp] theorem q_ii (neg : Bool) (i j : Int) : oC (gQ neg) (.v (.int i)) (.v (.int j)) = pur (if neg = true then !decide (i = j) else decide (i = j)) := by
  rw [q_vv (by simp [FV.pure]) (by simp [FV.pure]) (by simp [FV.py, PyData.depth])]
  simp only [FV.py, PyData.eqv]
  rfl
@[simp] theorem q_ss (neg : Bool) (i j : Str) : oC (gQ neg) (.v (.str i)) (.v (.str j)) = pur (if neg = true then !decide (i = j) else decide (i = j)) := by
  rw [q_vv (by simp [FV.pure]) (by simp [FV.pure]) (by simp [FV.py, PyData.depth])]
  simp only [FV.py, PyData.eqv]
  congr 2
@[simp] theorem q_bb (neg : Bool) (i j : Bool) : oC (gQ neg) (.v (.bl i)) (.v (.bl j)) = pur (if neg = true then !decide (i = j) else decide (i = j)) := by
  rw [q_vv (by simp [FV.pure]) (by simp [FV.pure]) (by simp [FV.py, PyData.depth])]
  cases i <;> cases j <;> cases neg <;> rfl
/-! in: texts -/
def inT (w z : Str) : Bool := match w.cps.toList with | [c] => decide (c ∈ z.cps.toList) | _ => inS w z
@[simp] theorem mx_ss (neg : Bool) (w z : Str) : oC (gMx neg) (.v (.str w)) (.v (.str z)) = pur (if neg = true then !inT w z else inT w z) := by
  refine lift_ok fun s => ?_
  show gMx neg _ _ s = _
  unfold gMx gIn inT
  rw [show (RV.v (.str z)).seq s = none from rfl, show (RV.v (.str z)).dict s = none from rfl]
  dsimp only
  generalize w.cps.toList = l
  cases l with
  | nil => rfl
  | cons c r =>
    cases r with
    | nil => rfl
    | cons d r => rfl
/-! ranges -/
theorem r1_i {n : Int} (h0 : -4611686018427387904 ≤ n) (h1 : n < 4611686018427387904) : oR1 (.v (.int n)) = pur (rngL 0 n.toNat) := by
  unfold oR1; dsimp only; rw [if_pos ⟨h0, h1⟩]
theorem r2_i {m n : Int} (h0 : -4611686018427387904 ≤ m) (h1 : m < 4611686018427387904) (h2 : -4611686018427387904 ≤ n) (h3 : n < 4611686018427387904) : oR2 (.v (.int m)) (.v (.int n)) = pur (rngL m (n - m).toNat) := by
  unfold oR2; dsimp only; rw [if_pos ⟨h0, h1, h2, h3⟩]
/-! loops -/
theorem forN_nil {A β : Type} (F : A → FV → M (Fl A A)) (a : A) : (forN F [] a : M (Fl A β)) = pur (.nx a) := id rfl
theorem forN_cons {A β : Type} (F : A → FV → M (Fl A A)) (d : FV) (ds : List FV) (a : A) : (forN F (d :: ds) a : M (Fl A β)) = bnd (F a d) fun r => match r with
    | .nx a' => forN F ds a'
    | .ct a' => forN F ds a'
    | .bk a' => pur (.nx a')
    | .rt r => pur (.rt r) := rfl
theorem noEx_pur {α : Type} (a : α) : noEx (pur a) = pur a := id rfl
/-- a comprehension of values -/
theorem filN_map {β : Type} {g : FV → M (Option FV)} {e : β → FV} {f : β → Option FV} : ∀ {xs : List β}, (∀ x, x ∈ xs → g (e x) = pur (f x)) → filN g (xs.map e) = pur (xs.filterMap f)
  | [], _ => rfl
  | x :: xs, h => by
    rw [List.map_cons, filN, h x List.mem_cons_self, noEx_pur, bnd_pur, filN_map fun y hy => h y (List.mem_cons_of_mem _ hy), bnd_pur, List.filterMap_cons]
    cases f x <;> rfl
theorem filL_map {β : Type} {g : FV → M (Option FV)} {e : β → FV} {f : β → Option FV} {xs : List β} (h : ∀ x, x ∈ xs → g (e x) = pur (f x)) (l : xs.length ≤ 16000000) : filL g (xs.map e) = pur (.l (xs.filterMap f)) := by
  unfold filL
  rw [if_pos (by rw [List.length_map]; exact l), filN_map h, bnd_pur]
theorem filL_all {β : Type} {g : FV → M (Option FV)} {e : β → FV} {f : β → FV} {xs : List β} (h : ∀ x, x ∈ xs → g (e x) = pur (some (f x))) (l : xs.length ≤ 16000000) : filL g (xs.map e) = pur (.l (xs.map f)) := by
  rw [filL_map (f := fun x => some (f x)) h l]
  congr 2
  induction xs with
  | nil => rfl
  | cons x xs ih => rw [List.filterMap_cons, List.map_cons]; simp
theorem item_some {δ : Type} {b : FV → Option δ} {t : δ → M Bool} {fe : δ → M RV} {d : FV} {x : δ} (h : b d = some x) : item b t fe d = bnd (t x) fun c => if c = true then bnd (mV (fe x)) fun v => pur (some v) else pur none := by
  unfold item bindT; rw [h]
end P

/-! R3: the script and what is drawn from it. -/
namespace P
open PySem PySem.Spec PyProof.Rows L2 G
def startN (v_law_script : FV) : M (Fl Unit Empty) :=
  (bnd (mL (oLst [])) fun law_row_1 => (bnd (pur (.int 17)) fun law_seed_2 => (bnd (bnd (oU gLen (.v v_law_script)) fun t_3 => (oR1 t_3)) fun xs_44 => seqN (forN (fun | (law_row_5, law_seed_6), law_k_4 => (bnd (mV (bnd (oB gIx (.v v_law_script) (.v law_k_4)) fun t_7 => (oU gAbs t_7))) fun law_cell_8 => (bnd (mV (bnd (bnd (bnd (bnd (oB gMul (.v law_seed_6) (.v (.int 31))) fun t_9 => (oB gAdd t_9 (.v law_cell_8))) fun t_10 => (oB gAdd t_10 (.v law_k_4))) fun t_11 => (oU gInt t_11)) fun t_12 => (oB gMod t_12 (.v (.int 2147483647))))) fun law_seed_13 => (bnd (bnd (oB gPow (.v (.int 10)) (.v (.int 18))) fun t_14 => (oC gGe (.v law_cell_8) t_14)) fun c_15 => if c_15 = true then (bnd (mV (bnd (oB gPow (.v (.int 10)) (.v (.int 18))) fun t_16 => (oB gMns (.v law_cell_8) t_16))) fun law_cell_17 => (bnd (oR1 (.v (.int 60))) fun xs_28 => seqN (forN (fun | (law_row_19, law_cell_20), law_j_18 => (bnd (oC gGt (.v law_cell_20) (.v (.int 0))) fun c_21 => if c_21 = true then (bnd (mV (bnd (oU gInt (.v law_cell_20)) fun t_23 => (oB gMod t_23 (.v (.int 840))))) fun v_25 => (bnd (oApp law_row_19 v_25) fun law_row_22 => (bnd (mV (oB gDiv (.v law_cell_20) (.v (.int 840)))) fun law_cell_24 => (pur (.nx (law_row_22, law_cell_24)))))) else (pur (.nx (law_row_19, law_cell_20))))) xs_28 (law_row_5, law_cell_17)) (fun | (law_row_26, law_cell_27) => (pur (.nx (law_row_26, law_seed_13)))))) else (bnd (mV (bnd (bnd (bnd (bnd (oB gAdd (.v law_cell_8) (.v (.int 1))) fun t_29 => (oB gMul t_29 (.v (.int 48271)))) fun t_30 => (bnd (oB gMul (.v law_k_4) (.v (.int 69621))) fun t_31 => (oB gAdd t_30 t_31))) fun t_32 => (oU gInt t_32)) fun t_33 => (oB gMod t_33 (.v (.int 2147483647))))) fun law_mixed_34 => (bnd (mV (bnd (bnd (bnd (oB gMul (.v law_mixed_34) (.v (.int 40692))) fun t_35 => (oB gAdd t_35 (.v (.int 5)))) fun t_36 => (oU gInt t_36)) fun t_37 => (oB gMod t_37 (.v (.int 2147483399))))) fun law_mixed_38 => (bnd (mV (bnd (oB gDiv (.v law_mixed_38) (.v (.int 13))) fun t_40 => (oB gMod t_40 (.v (.int 840))))) fun v_41 => (bnd (oApp law_row_5 v_41) fun law_row_39 => (pur (.nx (law_row_39, law_seed_13))))))))))) xs_44 (law_row_1, law_seed_2)) (fun | (law_row_42, law_seed_43) => (ret (oLst [(.fl law_row_42), (.int 0), law_seed_43]))))))
def takeN (v_law_state v_law_many : FV) : M (Fl Unit Empty) :=
  (bnd (mV (oB gIx (.v v_law_state) (.v (.int 1)))) fun law_at_1 => (bnd (mV (oB gAdd (.v law_at_1) (.v (.int 1)))) fun v_20 => (bnd (oSet v_20 (.v v_law_state) (.v (.int 1))) fun _ => (bnd (bnd (bnd (oB gIx (.v v_law_state) (.v (.int 0))) fun t_2 => (oU gLen t_2)) fun t_3 => (oC gLt (.v law_at_1) t_3)) fun c_4 => if c_4 = true then ret (bnd (bnd (bnd (oB gIx (.v v_law_state) (.v (.int 0))) fun t_5 => (oB gIx t_5 (.v law_at_1))) fun t_6 => (oU gInt t_6)) fun t_7 => (oB gMod t_7 (.v v_law_many))) else (bnd (mV (bnd (bnd (bnd (bnd (oB gIx (.v v_law_state) (.v (.int 2))) fun t_8 => (bnd (oB gMul (.v law_at_1) (.v (.int 40503))) fun t_9 => (oB gAdd t_8 t_9))) fun t_10 => (oB gMul t_10 (.v (.int 48271)))) fun t_11 => (oU gInt t_11)) fun t_12 => (oB gMod t_12 (.v (.int 2147483647))))) fun law_mixed_13 => (bnd (mV (bnd (bnd (bnd (oB gMul (.v law_mixed_13) (.v (.int 69621))) fun t_14 => (bnd (oB gMul (.v law_at_1) (.v law_at_1)) fun t_15 => (oB gAdd t_14 t_15))) fun t_16 => (oU gInt t_16)) fun t_17 => (oB gMod t_17 (.v (.int 2147483629))))) fun law_mixed_18 => (ret (bnd (oB gDiv (.v law_mixed_18) (.v (.int 11))) fun t_19 => (oB gMod t_19 (.v v_law_many))))))))))
theorem mul_l {i j : Int} (h : -(2 ^ 64) < j ∧ j < 2 ^ 64) : CMul i j := .inr h
theorem mulL (i : Int) {j : Int} (h : -(2 ^ 64) < j ∧ j < 2 ^ 64) : oB gMul (.v (.int i)) (.v (.int j)) = pur (.v (.int (i * j))) := mul_ii (mul_l h)
theorem divL (i : Int) {j : Int} (h : 0 < j ∧ j < 2 ^ 30) : oB gDiv (.v (.int i)) (.v (.int j)) = pur (.v (.int (i / j))) := div_ii (by exact ⟨h.1, by omega⟩)
theorem p18 : oB gPow (.v (.int 10)) (.v (.int 18)) = pur (.v (.int 1000000000000000000)) := by
  refine lift_ok fun s => ?_
  show gPow _ _ s = _
  unfold gPow gI cPow
  dsimp only
  rw [if_pos (by exact ⟨by decide, by decide, by decide⟩)]; rfl
theorem in_loop {β : Type} : ∀ (m : Nat) (lo : Int) (row : List Int) (c : Int), row.length + m < 16000000 → ∃ (row' : List Int) (c' : Int), row'.length ≤ row.length + m ∧
    (forN (fun | (law_row_19, law_cell_20), law_j_18 => (bnd (oC gGt (.v law_cell_20) (.v (.int 0))) fun c_21 => if c_21 = true then (bnd (mV (bnd (oU gInt (.v law_cell_20)) fun t_23 => (oB gMod t_23 (.v (.int 840))))) fun v_25 => (bnd (oApp law_row_19 v_25) fun law_row_22 => (bnd (mV (oB gDiv (.v law_cell_20) (.v (.int 840)))) fun law_cell_24 => (pur (.nx (law_row_22, law_cell_24)))))) else (pur (.nx (law_row_19, law_cell_20))))) (rngL lo m) (row.map .int, .int c) : M (Fl (List FV × FV) β)) = pur (.nx (row'.map .int, .int c'))
  | 0, lo, row, c, _ => ⟨row, c, Nat.le_refl _, rfl⟩
  | m + 1, lo, row, c, hl => by
    rw [rngL, forN_cons]
    by_cases hc : 0 < c
    · obtain ⟨row', c', h1, h2⟩ := in_loop (β := β) m (lo + 1) (row ++ [c % 840]) (c / 840) (by rw [List.length_append]; show row.length + 1 + m < _; omega)
      refine ⟨row', c', by rw [List.length_append] at h1; have : [c % 840].length = 1 := rfl; omega, ?_⟩
      have l : (row.map FV.int).length < 16000000 := by rw [List.length_map]; omega
      simp only [gt_ii, bnd_pur, decide_eq_true hc, if_true, int_i, mod_ii (show (0 : Int) < 840 by decide), mV_v, app_lt l, divL c (show 0 < (840 : Int) ∧ (840 : Int) < 2 ^ 30 by decide)]
      rw [List.map_append] at h2
      exact h2
    · obtain ⟨row', c', h1, h2⟩ := in_loop (β := β) m (lo + 1) row c (by omega)
      refine ⟨row', c', by omega, ?_⟩
      simp only [gt_ii, bnd_pur, decide_eq_false hc, Bool.false_eq_true, if_false]
      exact h2
/-- a turn of the outer loop -/
theorem out_loop {β : Type} (ns : List Int) (F : (List FV × FV) → FV → M (Fl (List FV × FV) (List FV × FV)))
    (hF : ∀ (lo : Nat) (row : List Int) (sd : Int), lo < ns.length → row.length ≤ 60 * 63 → ∃ (row' : List Int) (sd' : Int), row'.length ≤ row.length + 60 ∧ F (row.map .int, .int sd) (.int lo) = pur (.nx (row'.map .int, .int sd'))) (hns : ns.length ≤ 63) :
    ∀ (m lo : Nat) (row : List Int) (sd : Int), lo + m = ns.length → row.length ≤ 60 * lo → ∃ (row' : List Int) (sd' : Int), (forN F (rngL lo m) (row.map .int, .int sd) : M (Fl (List FV × FV) β)) = pur (.nx (row'.map .int, .int sd'))
  | 0, lo, row, sd, _, _ => ⟨row, sd, rfl⟩
  | m + 1, lo, row, sd, hl, hr => by
    obtain ⟨row', s1, h1, h2⟩ := hF lo row sd (by omega) (by omega)
    obtain ⟨row2, sd2, h3⟩ := out_loop (β := β) ns F hF hns m (lo + 1) row' s1 (by omega) (by omega)
    refine ⟨row2, sd2, ?_⟩
    rw [rngL, forN_cons, h2, bnd_pur, show ((lo : Nat) : Int) + 1 = ((lo + 1 : Nat) : Int) by omega]
    exact h3
theorem start_ok (ns : List Int) (hns : ns.length ≤ 63) : ∃ (row : List Int) (sd : Int), gcM (toF (startN (.sl (ns.map .int)))) = pur (.l [.fl (row.map .int), .int 0, .int sd]) := by
  have q1 : ∀ i : Int, oB gMod (.v (.int i)) (.v (.int 2147483647)) = pur (.v (.int (i % 2147483647))) := fun i => mod_ii (by decide)
  have q2 : ∀ i : Int, oB gMod (.v (.int i)) (.v (.int 2147483399)) = pur (.v (.int (i % 2147483399))) := fun i => mod_ii (by decide)
  have q3 : ∀ i : Int, oB gMod (.v (.int i)) (.v (.int 840)) = pur (.v (.int (i % 840))) := fun i => mod_ii (by decide)
  have m1 := fun i => mulL i (j := 31) (by decide)
  have m2 := fun i => mulL i (j := 48271) (by decide)
  have m3 := fun i => mulL i (j := 69621) (by decide)
  have m4 := fun i => mulL i (j := 40692) (by decide)
  have d13 := fun i => divL i (j := 13) (by decide)
  have r60 : oR1 (.v (.int 60)) = pur (rngL 0 60) := r1_i (by decide) (by decide)
  unfold startN
  rw [lst_nil, mL_l, bnd_pur, bnd_pur, len_sl, bnd_pur, List.length_map, r1_i (by omega) (by omega), bnd_pur, Int.toNat_natCast]
  have key := out_loop (β := Empty) ns (fun | (law_row_5, law_seed_6), law_k_4 => (bnd (mV (bnd (oB gIx (.v (.sl (ns.map .int))) (.v law_k_4)) fun t_7 => (oU gAbs t_7))) fun law_cell_8 => (bnd (mV (bnd (bnd (bnd (bnd (oB gMul (.v law_seed_6) (.v (.int 31))) fun t_9 => (oB gAdd t_9 (.v law_cell_8))) fun t_10 => (oB gAdd t_10 (.v law_k_4))) fun t_11 => (oU gInt t_11)) fun t_12 => (oB gMod t_12 (.v (.int 2147483647))))) fun law_seed_13 => (bnd (bnd (oB gPow (.v (.int 10)) (.v (.int 18))) fun t_14 => (oC gGe (.v law_cell_8) t_14)) fun c_15 => if c_15 = true then (bnd (mV (bnd (oB gPow (.v (.int 10)) (.v (.int 18))) fun t_16 => (oB gMns (.v law_cell_8) t_16))) fun law_cell_17 => (bnd (oR1 (.v (.int 60))) fun xs_28 => seqN (forN (fun | (law_row_19, law_cell_20), law_j_18 => (bnd (oC gGt (.v law_cell_20) (.v (.int 0))) fun c_21 => if c_21 = true then (bnd (mV (bnd (oU gInt (.v law_cell_20)) fun t_23 => (oB gMod t_23 (.v (.int 840))))) fun v_25 => (bnd (oApp law_row_19 v_25) fun law_row_22 => (bnd (mV (oB gDiv (.v law_cell_20) (.v (.int 840)))) fun law_cell_24 => (pur (.nx (law_row_22, law_cell_24)))))) else (pur (.nx (law_row_19, law_cell_20))))) xs_28 (law_row_5, law_cell_17)) (fun | (law_row_26, law_cell_27) => (pur (.nx (law_row_26, law_seed_13)))))) else (bnd (mV (bnd (bnd (bnd (bnd (oB gAdd (.v law_cell_8) (.v (.int 1))) fun t_29 => (oB gMul t_29 (.v (.int 48271)))) fun t_30 => (bnd (oB gMul (.v law_k_4) (.v (.int 69621))) fun t_31 => (oB gAdd t_30 t_31))) fun t_32 => (oU gInt t_32)) fun t_33 => (oB gMod t_33 (.v (.int 2147483647))))) fun law_mixed_34 => (bnd (mV (bnd (bnd (bnd (oB gMul (.v law_mixed_34) (.v (.int 40692))) fun t_35 => (oB gAdd t_35 (.v (.int 5)))) fun t_36 => (oU gInt t_36)) fun t_37 => (oB gMod t_37 (.v (.int 2147483399))))) fun law_mixed_38 => (bnd (mV (bnd (oB gDiv (.v law_mixed_38) (.v (.int 13))) fun t_40 => (oB gMod t_40 (.v (.int 840))))) fun v_41 => (bnd (oApp law_row_5 v_41) fun law_row_39 => (pur (.nx (law_row_39, law_seed_13))))))))))) (fun lo row sd hlo hr => by
    have hat : atI (ns.map FV.int) (lo : Nat) = some (.int ns[lo]) := atI_nat (by rw [List.getElem?_map, List.getElem?_eq_getElem hlo]; rfl)
    simp only [ix_s hat, bnd_pur, abs_i, mV_v, m1, add_ii, int_i, q1, p18, ge_ii]
    generalize (if ns[lo] < 0 then -ns[lo] else ns[lo]) = cell
    generalize (sd * 31 + cell + lo) % 2147483647 = s1
    by_cases hc : (1000000000000000000 : Int) ≤ cell
    · obtain ⟨row', c', h1, h2⟩ := in_loop (β := List FV × FV) 60 0 row (cell - 1000000000000000000) (by omega)
      refine ⟨row', s1, h1, ?_⟩
      simp only [decide_eq_true hc, if_true, sub_ii, mV_v, bnd_pur, r60]
      rw [h2]; rfl
    · refine ⟨row ++ [(((cell + 1) * 48271 + lo * 69621) % 2147483647 * 40692 + 5) % 2147483399 / 13 % 840], s1, by rw [List.length_append]; exact Nat.add_le_add_left (show 1 ≤ 60 by decide) _, ?_⟩
      have l : (row.map FV.int).length < 16000000 := by rw [List.length_map]; omega
      simp only [decide_eq_false hc, Bool.false_eq_true, if_false, add_ii, m2, m3, m4, q1, q2, q3, d13, int_i, mV_v, bnd_pur, app_lt l, List.map_append]
      rfl) hns ns.length 0 [] 17 (by omega) (by simp)
  obtain ⟨row, sd, h⟩ := key
  refine ⟨row, sd, ?_⟩
  have h' : (forN (fun | (law_row_5, law_seed_6), law_k_4 => (bnd (mV (bnd (oB gIx (.v (.sl (ns.map .int))) (.v law_k_4)) fun t_7 => (oU gAbs t_7))) fun law_cell_8 => (bnd (mV (bnd (bnd (bnd (bnd (oB gMul (.v law_seed_6) (.v (.int 31))) fun t_9 => (oB gAdd t_9 (.v law_cell_8))) fun t_10 => (oB gAdd t_10 (.v law_k_4))) fun t_11 => (oU gInt t_11)) fun t_12 => (oB gMod t_12 (.v (.int 2147483647))))) fun law_seed_13 => (bnd (bnd (oB gPow (.v (.int 10)) (.v (.int 18))) fun t_14 => (oC gGe (.v law_cell_8) t_14)) fun c_15 => if c_15 = true then (bnd (mV (bnd (oB gPow (.v (.int 10)) (.v (.int 18))) fun t_16 => (oB gMns (.v law_cell_8) t_16))) fun law_cell_17 => (bnd (oR1 (.v (.int 60))) fun xs_28 => seqN (forN (fun | (law_row_19, law_cell_20), law_j_18 => (bnd (oC gGt (.v law_cell_20) (.v (.int 0))) fun c_21 => if c_21 = true then (bnd (mV (bnd (oU gInt (.v law_cell_20)) fun t_23 => (oB gMod t_23 (.v (.int 840))))) fun v_25 => (bnd (oApp law_row_19 v_25) fun law_row_22 => (bnd (mV (oB gDiv (.v law_cell_20) (.v (.int 840)))) fun law_cell_24 => (pur (.nx (law_row_22, law_cell_24)))))) else (pur (.nx (law_row_19, law_cell_20))))) xs_28 (law_row_5, law_cell_17)) (fun | (law_row_26, law_cell_27) => (pur (.nx (law_row_26, law_seed_13)))))) else (bnd (mV (bnd (bnd (bnd (bnd (oB gAdd (.v law_cell_8) (.v (.int 1))) fun t_29 => (oB gMul t_29 (.v (.int 48271)))) fun t_30 => (bnd (oB gMul (.v law_k_4) (.v (.int 69621))) fun t_31 => (oB gAdd t_30 t_31))) fun t_32 => (oU gInt t_32)) fun t_33 => (oB gMod t_33 (.v (.int 2147483647))))) fun law_mixed_34 => (bnd (mV (bnd (bnd (bnd (oB gMul (.v law_mixed_34) (.v (.int 40692))) fun t_35 => (oB gAdd t_35 (.v (.int 5)))) fun t_36 => (oU gInt t_36)) fun t_37 => (oB gMod t_37 (.v (.int 2147483399))))) fun law_mixed_38 => (bnd (mV (bnd (oB gDiv (.v law_mixed_38) (.v (.int 13))) fun t_40 => (oB gMod t_40 (.v (.int 840))))) fun v_41 => (bnd (oApp law_row_5 v_41) fun law_row_39 => (pur (.nx (law_row_39, law_seed_13))))))))))) (rngL 0 ns.length) ([], .int 17) : M (Fl (List FV × FV) Empty)) = pur (.nx (row.map .int, .int sd)) := h
  rw [h', seqN_nx]
  simp only [lst_3, ret_pur, toF_rt]
  exact gcM_pur _
/-! ### a number drawn -/
/-- the drawing state: the numbers, the place, the seed -/
structure DS where
  row : List Int
  at' : Nat
  sd : Int
def DS.next (s : DS) : DS := ⟨s.row, s.at' + 1, s.sd⟩
def DS.ob (s : DS) : FO := .lst [.fl (s.row.map .int), .int s.at', .int s.sd]
theorem bnd_h {α β : Type} (m : M α) (k : α → M β) (h : FH) : bnd m k h = (m h).bind k := rfl
theorem pur_h {α : Type} (a : α) (h : FH) : pur a h = .ok a h := rfl
theorem ok_bind {α β : Type} (a : α) (h : FH) (k : α → M β) : (Rs.ok a h).bind k = k a h := rfl
theorem ix_r0 {ds : List FV} {i : Int} {d : FV} {r : FH} (e : atI ds i = some d) : oB gIx (.v (.ref 0)) (.v (.int i)) (.lst ds :: r) = .ok (.v d) (.lst ds :: r) := by
  show lift (gIx _ _) _ = _
  unfold lift
  have : gIx (.v (.ref 0)) (.v (.int i)) (.lst ds :: r) = some (.v d) := by
    show (atI ds i).map RV.v = _
    rw [e]; rfl
  rw [this]
theorem take_ok (s : DS) (r : FH) (k : Nat) (hk : 0 < k) (ha : s.at' < 2 ^ 60) : ∃ i : Nat, i < k ∧ gcM (toF (takeN (.ref 0) (.int k))) (s.ob :: r) = .ok (.v (.int i)) (s.next.ob :: r) := by
  have key : ∀ x : Int, ∃ i : Nat, i < k ∧ x % (k : Int) = i := fun x => by
    have h1 : 0 ≤ x % (k : Int) := Int.emod_nonneg _ (by omega)
    have h2 : x % (k : Int) < k := Int.emod_lt_of_pos _ (by omega)
    exact ⟨(x % k).toNat, by omega, by omega⟩
  have g0 : oB gIx (.v (.ref 0)) (.v (.int 1)) (s.ob :: r) = .ok (.v (.int s.at')) (s.ob :: r) := ix_r0 (atI_1 _ _ _)
  have g1 : oB gIx (.v (.ref 0)) (.v (.int 0)) (s.next.ob :: r) = .ok (.v (.fl (s.row.map .int))) (s.next.ob :: r) := ix_r0 (atI_0 _ _)
  have g2 : oB gIx (.v (.ref 0)) (.v (.int 2)) (s.next.ob :: r) = .ok (.v (.int s.sd)) (s.next.ob :: r) := ix_r0 (atI_2 _ _ _ _)
  have gs : oSet (.int ((s.at' : Int) + 1)) (.v (.ref 0)) (.v (.int 1)) (s.ob :: r) = .ok () (s.next.ob :: r) := rfl
  have hlen : (s.row.map FV.int).length = s.row.length := List.length_map _
  have go : ∀ i : Nat, toF (takeN (.ref 0) (.int k)) (s.ob :: r) = .ok (.v (.int i)) (s.next.ob :: r) → gcM (toF (takeN (.ref 0) (.int k))) (s.ob :: r) = .ok (.v (.int i)) (s.next.ob :: r) := fun i e => gcM_same e (Nat.le_refl _)
  have qk : ∀ i : Int, oB gMod (.v (.int i)) (.v (.int k)) = pur (.v (.int (i % k))) := fun i => mod_ii (by omega)
  by_cases hl : s.at' < s.row.length
  · have hat : atI (s.row.map FV.int) (s.at' : Nat) = some (.int s.row[s.at']) := atI_nat (by rw [List.getElem?_map, List.getElem?_eq_getElem hl]; rfl)
    obtain ⟨i, h1, h2⟩ := key s.row[s.at']
    refine ⟨i, h1, go i ?_⟩
    have hl' : decide (((s.at' : Nat) : Int) < (s.row.length : Nat)) = true := decide_eq_true (by omega)
    unfold takeN
    simp only [mV, bnd_h, g0, g1, ok_bind, vF, RV.frz, add_ii, pur_h, gs, len_f, hlen, lt_ii, hl', if_true, ix_f hat, int_i, qk, h2, ret, toF]
  · have hl' : decide (((s.at' : Nat) : Int) < (s.row.length : Nat)) = false := decide_eq_false (by omega)
    have m1 := fun i => mulL i (j := 40503) (by decide)
    have m2 := fun i => mulL i (j := 48271) (by decide)
    have m3 := fun i => mulL i (j := 69621) (by decide)
    have m4 : oB gMul (.v (.int s.at')) (.v (.int s.at')) = pur (.v (.int ((s.at' : Int) * s.at'))) := mul_ii (.inl ⟨by omega, by omega⟩)
    have d11 := fun i => divL i (j := 11) (by decide)
    have q1 : ∀ i : Int, oB gMod (.v (.int i)) (.v (.int 2147483647)) = pur (.v (.int (i % 2147483647))) := fun i => mod_ii (by decide)
    have q2 : ∀ i : Int, oB gMod (.v (.int i)) (.v (.int 2147483629)) = pur (.v (.int (i % 2147483629))) := fun i => mod_ii (by decide)
    obtain ⟨i, h1, h2⟩ := key (((((s.sd + s.at' * 40503) * 48271) % 2147483647) * 69621 + s.at' * s.at') % 2147483629 / 11)
    refine ⟨i, h1, go i ?_⟩
    unfold takeN
    simp only [mV, bnd_h, g0, g1, g2, ok_bind, vF, RV.frz, add_ii, pur_h, gs, len_f, hlen, lt_ii, hl', Bool.false_eq_true, if_false, int_i, qk, q1, q2, m1, m2, m3, m4, d11, h2, ret, toF]
end P

/-! R4: what is drawn. -/
namespace P
open PySem PySem.Spec PyProof.Rows L2 G
/-- objects that name no others -/
def Dt (r : FH) : Prop := r.all (·.lowB 0) = true
/-- m draws at most c numbers, changes nothing else, and gives what Q says -/
def Dr {α : Type} (m : M α) (Q : α → Prop) (c : Nat) : Prop := ∀ (s : DS) (r : FH), Dt r → s.at' + c ≤ 2 ^ 60 → ∃ (a : α) (s' : DS), m (s.ob :: r) = .ok a (s'.ob :: r) ∧ s'.at' ≤ s.at' + c ∧ Q a
section
variable {α β γ : Type} {m : M α} {k : α → M β} {Z Q : α → Prop} {R : β → Prop} {c d e : Nat}
theorem Dr.pur {a : α} (h : Q a) : Dr (P.pur a) Q 0 := fun s r _ _ => ⟨a, s, rfl, Nat.le_refl _, h⟩
theorem Dr.of {a : α} (e : m = P.pur a) (h : Q a) : Dr m Q 0 := e ▸ Dr.pur h
theorem Dr.mono (h : Dr m Z c) (l : c ≤ d) (k : ∀ a, Z a → Q a) : Dr m Q d := fun s r dr hs => by
  obtain ⟨a, s', e, h1, h2⟩ := h s r dr (by omega)
  exact ⟨a, s', e, by omega, k a h2⟩
theorem Dr.up (h : Dr m Q c) (l : c ≤ d) : Dr m Q d := h.mono l fun _ q => q
theorem Dr.bnd (h : Dr m Z c) (k' : ∀ a, Z a → Dr (k a) R d) (l : c + d ≤ e) : Dr (P.bnd m k) R e := fun s r dr hs => by
  obtain ⟨a, s1, e1, h1, h2⟩ := h s r dr (by omega)
  obtain ⟨b, s2, e2, h3, h4⟩ := k' a h2 s1 r dr (by omega)
  exact ⟨b, s2, by rw [bnd_ok e1]; exact e2, by omega, h4⟩
theorem Dr.ite {p : Prop} [Decidable p] {n : M α} (h1 : p → Dr m Q c) (h2 : ¬ p → Dr n Q c) : Dr (if p then m else n) Q c := by
  split
  · exact h1 ‹_›
  · exact h2 ‹_›
end
theorem Dr.mV {m : M RV} {Q : RV → Prop} {Z : FV → Prop} {c : Nat} (h : Dr m Q c) (k : ∀ r, Q r → ∃ d, r.frz = some d ∧ Z d) : Dr (mV m) Z c := fun s r dr hs => by
  obtain ⟨a, s', e, h1, h2⟩ := h s r dr hs
  obtain ⟨d, e2, h3⟩ := k a h2
  refine ⟨d, s', ?_, h1, h3⟩
  show vF (m _) = _
  rw [e]; unfold vF; dsimp only; rw [e2]
theorem Dr.mL {m : M RV} {Q : RV → Prop} {Z : List FV → Prop} {c : Nat} (h : Dr m Q c) (k : ∀ r, Q r → ∃ d, r = .l d ∧ Z d) : Dr (mL m) Z c := by
  refine Dr.bnd h (d := 0) (fun a q => ?_) (Nat.le_refl _)
  obtain ⟨d, rfl, h3⟩ := k a q
  exact Dr.pur h3
theorem Dr.gc {m : M RV} {Q : RV → Prop} {c : Nat} (h : Dr m Q c) : Dr (gcM m) Q c := fun s r dr hs => by
  obtain ⟨a, s', e, h1, h2⟩ := h s r dr hs
  exact ⟨a, s', gcM_same e (Nat.le_refl _), h1, h2⟩
theorem Dr.ret {m : M RV} {Q : RV → Prop} {Z : Fl Unit Empty → Prop} {c : Nat} (h : Dr m Q c) (k : ∀ r, Q r → Z (.rt r)) : Dr (ret m) Z c := Dr.bnd h (d := 0) (fun a q => Dr.pur (k a q)) (Nat.le_refl _)
/-- a block, then what follows -/
theorem Dr.seq {α γ : Type} {m : M (Fl α Empty)} {k : α → M (Fl γ Empty)} {Z : α → Prop} {R : Fl γ Empty → Prop} {c d e : Nat} (h : Dr m (fun f => ∃ a, f = .nx a ∧ Z a) c) (k' : ∀ a, Z a → Dr (k a) R d) (l : c + d ≤ e) : Dr (seqN m k) R e :=
  Dr.bnd h (fun f ⟨a, e, z⟩ => by subst e; exact k' a z) l
theorem Dr.nx {α β : Type} {m : M (Fl α β)} {a : α} {Z : α → Prop} (e : m = P.pur (.nx a)) (h : Z a) : Dr m (fun f => ∃ a, f = .nx a ∧ Z a) 0 := Dr.of e ⟨a, rfl, h⟩
/-- the result of a def's body -/
def RtQ (Q : RV → Prop) : Fl Unit Empty → Prop
  | .rt r => Q r
  | .nx _ => Q (.v .non)
  | .bk b => nomatch b
  | .ct b => nomatch b
theorem Dr.toF {m : M (Fl Unit Empty)} {Q : RV → Prop} {c : Nat} (h : Dr m (RtQ Q) c) : Dr (toF m) Q c := by
  refine Dr.bnd h (d := 0) (fun a q => ?_) (Nat.le_refl _)
  cases a with
  | nx u => exact Dr.pur q
  | rt r => exact Dr.pur q
  | bk b => cases b
  | ct b => cases b
/-- a def that draws -/
theorem Dr.fn {m : M (Fl Unit Empty)} {Q : RV → Prop} {c : Nat} (h : Dr m (RtQ Q) c) : Dr (gcM (P.toF m)) Q c := h.toF.gc
theorem Dr.take {m : M RV} {k : Nat} (e : m = gcM (P.toF (takeN (.ref 0) (.int k)))) (hk : 0 < k) : Dr m (fun r => ∃ i : Nat, i < k ∧ r = .v (.int i)) 1 := fun s r dr hs => by
  obtain ⟨i, h1, h2⟩ := take_ok s r k hk (by omega)
  exact ⟨_, _, by rw [e]; exact h2, Nat.le_refl _, i, h1, rfl⟩
/-- a loop that draws: every turn goes on -/
theorem Dr.forN {A β : Type} {F : A → FV → M (Fl A A)} {I : A → Prop} {c : Nat} {Z : FV → Prop} (hF : ∀ a d, I a → Z d → Dr (F a d) (fun r => ∃ a', (r = .nx a' ∨ r = .ct a') ∧ I a') c) : ∀ (ds : List FV) (a : A), (∀ d, d ∈ ds → Z d) → I a → Dr (P.forN F ds a : M (Fl A β)) (fun r => ∃ a', r = .nx a' ∧ I a') (ds.length * c)
  | [], a, _, h => (Dr.pur ⟨a, rfl, h⟩).up (Nat.zero_le _)
  | d :: ds, a, hp, h => by
    refine Dr.bnd (d := ds.length * c) (hF a d h (hp d List.mem_cons_self)) (fun r q => ?_) (by rw [List.length_cons, Nat.succ_mul]; omega)
    obtain ⟨a', q | q, h'⟩ := q
    · subst q; exact Dr.forN hF ds a' (fun d hd => hp d (List.mem_cons_of_mem _ hd)) h'
    · subst q; exact Dr.forN hF ds a' (fun d hd => hp d (List.mem_cons_of_mem _ hd)) h'
/-- .. a comprehension -/
theorem Dr.filN {g : FV → M (Option FV)} {Z : FV → Prop} {Q : FV → Prop} {c : Nat} (hg : ∀ d, Z d → Dr (g d) (fun o => ∃ v, o = some v ∧ Q v) c) : ∀ ds : List FV, (∀ d, d ∈ ds → Z d) → Dr (P.filN g ds) (fun vs => vs.length = ds.length ∧ ∀ v, v ∈ vs → Q v) (ds.length * c)
  | [], _ => (Dr.pur ⟨rfl, fun v h => by cases h⟩).up (Nat.zero_le _)
  | d :: ds, hp => by
    have ex : Dr (noEx (g d)) (fun o => ∃ v, o = some v ∧ Q v) c := fun s r dr hs => by
      obtain ⟨a, s', e, h1, h2⟩ := hg d (hp d List.mem_cons_self) s r dr hs
      exact ⟨a, s', by unfold noEx; rw [e], h1, h2⟩
    refine Dr.bnd (d := ds.length * c) ex (fun o q => ?_) (by rw [List.length_cons, Nat.succ_mul]; omega)
    obtain ⟨v, rfl, hv⟩ := q
    refine Dr.bnd (d := 0) (Dr.filN hg ds fun d hd => hp d (List.mem_cons_of_mem _ hd)) (fun vs q => Dr.pur ⟨?_, fun w hw => ?_⟩) (Nat.le_refl _)
    · exact congrArg (· + 1) q.1
    · rcases List.mem_cons.mp hw with rfl | hw
      · exact hv
      · exact q.2 w hw
end P

/-! RT: terms. -/
namespace P
open PySem PySem.Spec PyProof.Rows L2 G
inductive Tm where
  | var (x : Str) | app (f : Str) (ts : List Tm)
mutual
def Tm.beq : Tm → Tm → Bool
  | .var x, .var y => decide (x = y)
  | .app f ts, .app g us => decide (f = g) && Tm.beqs ts us
  | _, _ => false
def Tm.beqs : List Tm → List Tm → Bool
  | [], [] => true
  | t :: ts, u :: us => t.beq u && Tm.beqs ts us
  | _, _ => false
end
mutual
theorem Tm.beq_iff : ∀ {t u : Tm}, t.beq u = true ↔ t = u
  | .var x, .var y => by simp [Tm.beq]
  | .app f ts, .app g us => by simp [Tm.beq, Tm.beqs_iff (ts := ts) (us := us)]
  | .var x, .app g us => by simp [Tm.beq]
  | .app f ts, .var y => by simp [Tm.beq]
theorem Tm.beqs_iff : ∀ {ts us : List Tm}, Tm.beqs ts us = true ↔ ts = us
  | [], [] => by simp [Tm.beqs]
  | t :: ts, u :: us => by simp [Tm.beqs, Tm.beq_iff (t := t) (u := u), Tm.beqs_iff (ts := ts) (us := us)]
  | [], u :: us => by simp [Tm.beqs]
  | t :: ts, [] => by simp [Tm.beqs]
end
instance : DecidableEq Tm := fun t u => if h : t.beq u = true then isTrue (Tm.beq_iff.mp h) else isFalse fun e => h (Tm.beq_iff.mpr e)
theorem Tm.beq_dec (t u : Tm) : t.beq u = decide (t = u) := by
  by_cases h : t = u
  · rw [decide_eq_true h, Tm.beq_iff.mpr h]
  · rw [decide_eq_false h]
    cases q : t.beq u with
    | false => rfl
    | true => exact absurd (Tm.beq_iff.mp q) h
mutual
def Tm.fv : Tm → FV
  | .var x => .str x
  | .app f ts => .tup (.str f :: Tm.fvs ts)
def Tm.fvs : List Tm → List FV
  | [] => []
  | t :: ts => t.fv :: Tm.fvs ts
end
@[simp] theorem fv_var (x : Str) : (Tm.var x).fv = .str x := by simp [Tm.fv]
@[simp] theorem fv_app (f : Str) (ts : List Tm) : (Tm.app f ts).fv = .tup (.str f :: Tm.fvs ts) := by simp [Tm.fv]
@[simp] theorem fvs_nil : Tm.fvs [] = [] := by simp [Tm.fvs]
@[simp] theorem fvs_cons (t : Tm) (ts : List Tm) : Tm.fvs (t :: ts) = t.fv :: Tm.fvs ts := by simp [Tm.fvs]
theorem fvs_map : ∀ ts : List Tm, Tm.fvs ts = ts.map Tm.fv
  | [] => by simp
  | t :: ts => by simp [fvs_map ts]
@[simp] theorem fvs_len (ts : List Tm) : (Tm.fvs ts).length = ts.length := by rw [fvs_map, List.length_map]
mutual
def Tm.dep : Tm → Nat
  | .var _ => 0
  | .app _ ts => Tm.deps ts + 1
def Tm.deps : List Tm → Nat
  | [] => 0
  | t :: ts => max t.dep (Tm.deps ts)
end
@[simp] theorem dep_var (x : Str) : (Tm.var x).dep = 0 := by simp [Tm.dep]
@[simp] theorem dep_app (f : Str) (ts : List Tm) : (Tm.app f ts).dep = Tm.deps ts + 1 := by simp [Tm.dep]
@[simp] theorem deps_nil : Tm.deps [] = 0 := by simp [Tm.deps]
@[simp] theorem deps_cons (t : Tm) (ts : List Tm) : Tm.deps (t :: ts) = max t.dep (Tm.deps ts) := by simp [Tm.deps]
theorem deps_mem : ∀ {ts : List Tm} {t : Tm}, t ∈ ts → t.dep ≤ Tm.deps ts
  | u :: ts, t, h => by
    rw [deps_cons]
    rcases List.mem_cons.mp h with rfl | h
    · omega
    · have := deps_mem h; omega
mutual
theorem fv_pure : ∀ t : Tm, t.fv.pure = true
  | .var x => by simp [FV.pure]
  | .app f ts => by simp [FV.pure, FV.pures, fvs_pure ts]
theorem fvs_pure : ∀ ts : List Tm, FV.pures (Tm.fvs ts) = true
  | [] => by simp [FV.pures]
  | t :: ts => by simp [FV.pures, fv_pure t, fvs_pure ts]
end
mutual
theorem fv_depth : ∀ t : Tm, t.fv.py.depth = t.dep
  | .var x => by simp [FV.py, PyData.depth]
  | .app f ts => by simp [FV.py, PyData.depth, FV.pys, PyData.depthAll, fvs_depth ts]
theorem fvs_depth : ∀ ts : List Tm, PyData.depthAll (FV.pys (Tm.fvs ts)) = Tm.deps ts
  | [] => by simp [FV.pys, PyData.depthAll]
  | t :: ts => by simp [FV.pys, PyData.depthAll, fv_depth t, fvs_depth ts]
end
theorem str_eqv (x y : Str) : PyData.eqv (.str x) (.str y) = decide (x = y) := by
  simp only [PyData.eqv]
  rfl
mutual
theorem fv_eqv : ∀ t u : Tm, PyData.eqv t.fv.py u.fv.py = t.beq u
  | .var x, .var y => by simp only [fv_var, FV.py, Tm.beq]; exact str_eqv x y
  | .app f ts, .app g us => by
    simp only [fv_app, FV.py, FV.pys, Tm.beq, PyData.eqv, PyData.eqvAll]
    rw [fvs_eqv ts us]
    congr 1
  | .var x, .app g us => by simp [FV.py, Tm.beq, PyData.eqv]
  | .app f ts, .var y => by simp [FV.py, Tm.beq, PyData.eqv]
theorem fvs_eqv : ∀ ts us : List Tm, PyData.eqvAll (FV.pys (Tm.fvs ts)) (FV.pys (Tm.fvs us)) = Tm.beqs ts us
  | [], [] => by simp [FV.pys, Tm.beqs, PyData.eqvAll]
  | t :: ts, u :: us => by simp only [fvs_cons, FV.pys, Tm.beqs, PyData.eqvAll, fv_eqv t u, fvs_eqv ts us]
  | [], u :: us => by simp [FV.pys, Tm.beqs, PyData.eqvAll]
  | t :: ts, [] => by simp [FV.pys, Tm.beqs, PyData.eqvAll]
end
/-- terms compared -/
theorem q_tt {neg : Bool} {t u : Tm} (h : min t.dep u.dep ≤ 64) : oC (gQ neg) (.v t.fv) (.v u.fv) = pur (if neg = true then !decide (t = u) else decide (t = u)) := by
  rw [q_vv (fv_pure t) (fv_pure u) (by rw [fv_depth, fv_depth]; exact h), fv_eqv, Tm.beq_dec]
theorem fv_inj {t u : Tm} (h : t.fv = u.fv) : t = u := by
  have := fv_eqv t u
  rw [h, SeqAt.eqv_refl_plain _ FV.py_plain] at this
  exact Tm.beq_iff.mp this.symm
/-! names -/
def capB (f : Str) : Bool := !decide ((cutS f none (some 1)).cps.toList < ("A" : Str).cps.toList) && !decide (("Z" : Str).cps.toList < (cutS f none (some 1)).cps.toList)
mutual
/-- a plain term: small heads -/
def Tm.plain : Tm → Bool
  | .var _ => true
  | .app f ts => decide (0 < f.length) && !capB f && Tm.plains ts
def Tm.plains : List Tm → Bool
  | [] => true
  | t :: ts => t.plain && Tm.plains ts
end
mutual
/-- short names -/
def Tm.short : Tm → Prop
  | .var x => x.length ≤ 1000
  | .app f ts => f.length ≤ 1000 ∧ Tm.shorts ts
def Tm.shorts : List Tm → Prop
  | [] => True
  | t :: ts => t.short ∧ Tm.shorts ts
end
@[simp] theorem plain_var (x : Str) : (Tm.var x).plain = true := by simp [Tm.plain]
@[simp] theorem plain_app (f : Str) (ts : List Tm) : (Tm.app f ts).plain = (decide (0 < f.length) && !capB f && Tm.plains ts) := by simp [Tm.plain]
@[simp] theorem plains_nil : Tm.plains [] = true := by simp [Tm.plains]
@[simp] theorem plains_cons (t : Tm) (ts : List Tm) : Tm.plains (t :: ts) = (t.plain && Tm.plains ts) := by simp [Tm.plains]
@[simp] theorem short_var (x : Str) : (Tm.var x).short ↔ x.length ≤ 1000 := by simp [Tm.short]
@[simp] theorem short_app (f : Str) (ts : List Tm) : (Tm.app f ts).short ↔ f.length ≤ 1000 ∧ Tm.shorts ts := by simp [Tm.short]
@[simp] theorem shorts_nil : Tm.shorts [] ↔ True := by simp [Tm.shorts]
@[simp] theorem shorts_cons (t : Tm) (ts : List Tm) : Tm.shorts (t :: ts) ↔ t.short ∧ Tm.shorts ts := by simp [Tm.shorts]
theorem plains_mem : ∀ {ts : List Tm}, Tm.plains ts = true ↔ ∀ t, t ∈ ts → t.plain = true
  | [] => by simp
  | t :: ts => by simp [plains_mem (ts := ts)]
theorem shorts_mem : ∀ {ts : List Tm}, Tm.shorts ts ↔ ∀ t, t ∈ ts → t.short
  | [] => by simp
  | t :: ts => by simp [shorts_mem (ts := ts)]
theorem pos_len {f : Str} (h : f.length ≤ 1000) : f.length ≤ 16000000 := by omega
end P

/-! R5: objects with numbers; dicts from texts to terms. -/
namespace P
open PySem PySem.Spec PyProof.Rows L2 G
theorem lift_at {α : Type} {o : FH → Option α} {a : α} {h : FH} (e : o h = some a) : lift o h = .ok a h := by unfold lift; rw [e]
section
variable {h : FH} {m : Nat} {kvs : List (Key × FV)} {ds : List FV}
theorem seq_rd (e : h[m]? = some (.dK kvs)) : (RV.v (.ref m)).seq h = none := by simp only [RV.seq, e]
theorem dct_rd (e : h[m]? = some (.dK kvs)) : (RV.v (.ref m)).dict h = some kvs := by simp only [RV.dict, e]
theorem seq_rl (e : h[m]? = some (.lst ds)) : (RV.v (.ref m)).seq h = some (false, ds) := by simp only [RV.seq, e]
theorem ix_rd {k d : FV} {kk : Key} (e : h[m]? = some (.dK kvs)) (hk : k.key = some kk) (hl : lookK kvs kk = some d) : oB gIx (.v (.ref m)) (.v k) h = .ok (.v d) h := by
  refine lift_at ?_
  unfold gIx
  have e1 : (RV.v (.ref m)).seq h = none := seq_rd e
  have e2 : (RV.v (.ref m)).dict h = some kvs := dct_rd e
  cases k with
  | int i => dsimp only; rw [e1, e2]; dsimp only; rw [hk]; dsimp only; rw [hl]; rfl
  | str x => dsimp only; rw [e1, e2]; dsimp only; rw [hk]; dsimp only; rw [hl]; rfl
  | _ => cases hk
theorem ix_rl {i : Int} {d : FV} (e : h[m]? = some (.lst ds)) (hl : atI ds i = some d) : oB gIx (.v (.ref m)) (.v (.int i)) h = .ok (.v d) h := by
  refine lift_at ?_
  unfold gIx
  have e1 : (RV.v (.ref m)).seq h = some (false, ds) := seq_rl e
  dsimp only; rw [e1]; dsimp only; rw [hl]; rfl
theorem in_rd {neg : Bool} {k : FV} {kk : Key} (e : h[m]? = some (.dK kvs)) (hk : k.key = some kk) : oC (gMx neg) (.v k) (.v (.ref m)) h = .ok (if neg = true then !(lookK kvs kk).isSome else (lookK kvs kk).isSome) h := by
  refine lift_at ?_
  have e1 : (RV.v (.ref m)).seq h = none := seq_rd e
  have e2 : (RV.v (.ref m)).dict h = some kvs := dct_rd e
  have e3 : gIn neg (.v k) (.v (.ref m)) h = some (if neg = true then !(lookK kvs kk).isSome else (lookK kvs kk).isSome) := by
    unfold gIn; rw [e1, e2]; dsimp only; rw [hk]
  unfold gMx; rw [e3]
theorem set_rd {k d : FV} {kk : Key} (e : h[m]? = some (.dK kvs)) (hk : k.key = some kk) (hl : kvs.length < 16000000) : oSet d (.v (.ref m)) (.v k) h = .ok () (h.set m (.dK (putF kvs kk d))) := by
  unfold oSet
  have : gSet d (.v (.ref m)) (.v k) h = some (h.set m (.dK (putF kvs kk d))) := by
    unfold gSet
    dsimp only
    rw [e]
    dsimp only
    rw [hk]
    dsimp only
    rw [if_pos hl]
  rw [this]
theorem dict_rd (e : h[m]? = some (.dK kvs)) : oU gDict (.v (.ref m)) h = .ok (.d kvs) h := by
  refine lift_at ?_
  have e2 : (RV.v (.ref m)).dict h = some kvs := dct_rd e
  unfold gDict; rw [e2]
end
/-! ### dicts from texts to terms -/
abbrev Sb := List (Str × Tm)
def lookA {α : Type} (σ : List (Str × α)) (x : Str) : Option α := (σ.find? fun p => decide (p.1 = x)).map (·.2)
def putA {α : Type} (σ : List (Str × α)) (x : Str) (t : α) : List (Str × α) := if (σ.any fun p => decide (p.1 = x)) = true then σ.map (fun p => if p.1 = x then (p.1, t) else p) else σ ++ [(x, t)]
def keyS (x : Str) : Key := .inr x
def embA {α : Type} (e : α → FV) (σ : List (Str × α)) : List (Key × FV) := σ.map fun p => (keyS p.1, e p.2)
section
variable {α : Type} {e : α → FV}
theorem inr_iff (x y : Str) : ((keyS x : Key) = keyS y) ↔ x = y := ⟨fun h => Sum.inr.inj h, fun h => h ▸ rfl⟩
theorem look_emb (x : Str) : ∀ σ : List (Str × α), lookK (embA e σ) (keyS x) = (lookA σ x).map e
  | [] => rfl
  | p :: σ => by
    have ih := look_emb x σ
    unfold lookK lookA embA at *
    rw [List.map_cons, List.find?_cons, List.find?_cons]
    by_cases h : p.1 = x
    · rw [show decide (keyS p.1 = keyS x) = true from decide_eq_true ((inr_iff _ _).mpr h), show decide (p.1 = x) = true from decide_eq_true h]; rfl
    · rw [show decide (keyS p.1 = keyS x) = false from decide_eq_false (fun z => h ((inr_iff _ _).mp z)), show decide (p.1 = x) = false from decide_eq_false h]; exact ih
theorem any_emb (x : Str) : ∀ σ : List (Str × α), ((embA e σ).any fun kv => decide (kv.1 = keyS x)) = σ.any fun p => decide (p.1 = x)
  | [] => rfl
  | p :: σ => by
    show ((_ :: embA e σ).any _) = _
    rw [List.any_cons, List.any_cons, any_emb x σ]
    congr 1
    exact decide_eq_decide.mpr (inr_iff _ _)
theorem put_emb (x : Str) (t : α) (σ : List (Str × α)) : putF (embA e σ) (keyS x) (e t) = embA e (putA σ x t) := by
  unfold putF putA
  rw [any_emb]
  by_cases h : (σ.any fun p => decide (p.1 = x)) = true
  · rw [if_pos h, if_pos h]
    clear h
    induction σ with
    | nil => rfl
    | cons p σ ih =>
      show ((_ :: embA e σ).map _) = _ :: embA e _
      rw [List.map_cons, ih]
      congr 1
      dsimp only
      by_cases h : p.1 = x
      · rw [if_pos h, if_pos (by rw [h])]
      · rw [if_neg h, if_neg (fun z => h ((inr_iff _ _).mp z))]
  · rw [if_neg h, if_neg h]
    unfold embA
    rw [List.map_append]; rfl
theorem putA_len (x : Str) (t : α) (σ : List (Str × α)) : (putA σ x t).length ≤ σ.length + 1 := by
  unfold putA
  split
  · rw [List.length_map]; omega
  · rw [List.length_append]; exact Nat.le_refl _
theorem look_any {σ : List (Str × α)} {x : Str} : (σ.any fun p => decide (p.1 = x)) = (lookA σ x).isSome := by
  induction σ with
  | nil => rfl
  | cons p σ ih =>
    unfold lookA at *
    rw [List.any_cons, List.find?_cons]
    by_cases h : p.1 = x
    · rw [decide_eq_true h]; rfl
    · rw [decide_eq_false h, Bool.false_or, ih]
theorem look_put {σ : List (Str × α)} {x y : Str} {t : α} : lookA (putA σ x t) y = if x = y then some t else lookA σ y := by
  unfold putA
  by_cases h : (σ.any fun p => decide (p.1 = x)) = true
  · rw [if_pos h]
    induction σ with
    | nil => cases h
    | cons p σ ih =>
      unfold lookA at *
      rw [List.map_cons, List.find?_cons, List.find?_cons]
      by_cases hp : p.1 = x
      · rw [if_pos hp]
        by_cases hy : x = y
        · rw [if_pos hy, show decide (p.1 = y) = true from decide_eq_true (hp.trans hy)]; rfl
        · have e1 : decide (p.1 = y) = false := decide_eq_false (fun z => hy (hp.symm.trans z))
          rw [if_neg hy]
          dsimp only
          rw [e1]
          dsimp only
          by_cases h2 : (σ.any fun p => decide (p.1 = x)) = true
          · rw [ih h2, if_neg hy]
          · have : (σ.map fun p => if p.1 = x then (p.1, t) else p) = σ := by
              clear ih h hp e1
              induction σ with
              | nil => rfl
              | cons q σ ih2 =>
                rw [List.any_cons] at h2
                have hq : ¬ q.1 = x := fun z => h2 (by rw [decide_eq_true z]; rfl)
                rw [List.map_cons, if_neg hq, ih2 fun z => h2 (by rw [z, Bool.or_true])]
            rw [this]
      · rw [if_neg hp]
        rw [List.any_cons, decide_eq_false hp, Bool.false_or] at h
        by_cases hy : p.1 = y
        · rw [show decide (p.1 = y) = true from decide_eq_true hy]
          have : ¬ x = y := fun z => hp (hy.trans z.symm)
          rw [if_neg this]
        · rw [show decide (p.1 = y) = false from decide_eq_false hy]
          exact ih h
  · rw [if_neg h]
    unfold lookA
    rw [List.find?_append]
    by_cases hy : x = y
    · subst hy
      have : lookA σ x = none := by
        rw [look_any] at h
        cases q : lookA σ x with
        | none => rfl
        | some d => rw [q] at h; exact absurd rfl h
      unfold lookA at this
      have n : (σ.find? fun p => decide (p.1 = x)) = none := by
        cases q : (σ.find? fun p => decide (p.1 = x)) with
        | none => rfl
        | some d => rw [q] at this; cases this
      rw [n, if_pos rfl]
      simp
    · rw [if_neg hy]
      have : List.find? (fun p : Str × α => decide (p.1 = y)) [(x, t)] = none := by simp [hy]
      rw [this]
      simp
/-- a value put again -/
theorem put_same {σ : List (Str × α)} {x : Str} {t : α} (nd : (σ.map (·.1)).Nodup) (h : lookA σ x = some t) : putA σ x t = σ := by
  unfold putA
  rw [look_any, h, if_pos (show (some t).isSome = true from rfl)]
  induction σ with
  | nil => rfl
  | cons p σ ih =>
    rw [List.map_cons, List.nodup_cons] at nd
    unfold lookA at h
    rw [List.find?_cons] at h
    rw [List.map_cons]
    by_cases hp : p.1 = x
    · rw [show decide (p.1 = x) = true from decide_eq_true hp] at h
      have ht : p.2 = t := Option.some.inj h
      rw [if_pos hp, ← ht]
      congr 1
      have : ∀ q, q ∈ σ → ¬ q.1 = x := fun q hq z => nd.1 (by rw [hp, ← z]; exact List.mem_map.mpr ⟨q, hq, rfl⟩)
      clear ih h nd
      induction σ with
      | nil => rfl
      | cons q σ ih2 => rw [List.map_cons, if_neg (this q List.mem_cons_self), ih2 fun r hr => this r (List.mem_cons_of_mem _ hr)]
    · rw [show decide (p.1 = x) = false from decide_eq_false hp] at h
      rw [if_neg hp, ih nd.2 h]
theorem put_keys {σ : List (Str × α)} {x : Str} {t : α} (nd : (σ.map (·.1)).Nodup) : ((putA σ x t).map (·.1)).Nodup := by
  unfold putA
  by_cases h : (σ.any fun p => decide (p.1 = x)) = true
  · rw [if_pos h, List.map_map]
    have : ((fun p : Str × α => p.1) ∘ fun p => if p.1 = x then (p.1, t) else p) = fun p => p.1 := by
      funext p; simp only [Function.comp_apply]; split <;> rfl
    rw [this]; exact nd
  · rw [if_neg h, List.map_append, List.nodup_append]
    refine ⟨nd, by simp, fun a ha b hb => ?_⟩
    simp at hb
    subst hb
    rintro rfl
    obtain ⟨q, hq, e⟩ := List.mem_map.mp ha
    exact h (List.any_eq_true.mpr ⟨q, hq, decide_eq_true e⟩)
theorem put_new {σ : List (Str × α)} {x : Str} {t : α} (h : lookA σ x = none) : putA σ x t = σ ++ [(x, t)] := by
  unfold putA
  rw [look_any, h, if_neg (show ¬ (none : Option α).isSome = true from fun z => nomatch z)]
end
/-! ### behind calls -/
def LowH (h : FH) : Prop := h.all (·.lowB h.length) = true
theorem take_app {h x : FH} : (h ++ x).take h.length = h := by simp
theorem gc_val {m : M RV} {h x : FH} {d : FV} (e : m h = .ok (.v d) (h ++ x)) (lo : LowH h) (hd : d.lowB h.length = true) (nr : ∀ i, d ≠ .ref i) : gcM m h = .ok (.v d) h := by
  cases x with
  | nil => rw [List.append_nil] at e; exact gcM_same e (Nat.le_refl _)
  | cons o x =>
    have := gcM_cut (r' := .v d) e (by simp) (by rw [take_app]; exact lo) (by
      unfold RV.cut
      cases d with
      | ref i => exact absurd rfl (nr i)
      | _ => exact if_pos hd)
    rw [take_app] at this; exact this
theorem gc_dict {m : M RV} {h x : FH} {kvs : List (Key × FV)} (e : m h = .ok (.v (.ref h.length)) (h ++ .dK kvs :: x)) (lo : LowH h) (hd : lowKvB h.length kvs = true) : gcM m h = .ok (.d kvs) h := by
  have := gcM_cut (r' := .d kvs) e (by simp) (by rw [take_app]; exact lo) (by
    unfold RV.cut
    simp only [Nat.lt_irrefl, if_false]
    rw [List.getElem?_append_right (Nat.le_refl _), Nat.sub_self]
    exact if_pos hd)
  rw [take_app] at this; exact this
mutual
theorem fv_low (n : Nat) : ∀ t : Tm, t.fv.lowB n = true
  | .var x => by simp [FV.lowB]
  | .app f ts => by simp [FV.lowB, FV.lowsB, fvs_low n ts]
theorem fvs_low (n : Nat) : ∀ ts : List Tm, FV.lowsB n (Tm.fvs ts) = true
  | [] => by simp [FV.lowsB]
  | t :: ts => by simp [FV.lowsB, fv_low n t, fvs_low n ts]
end
theorem emb_low (n : Nat) : ∀ σ : Sb, lowKvB n (embA Tm.fv σ) = true
  | [] => by simp [lowKvB, embA, FV.lowsB]
  | p :: σ => by
    have := emb_low n σ
    unfold lowKvB embA at *
    simp only [List.map_cons, FV.lowsB, fv_low, Bool.true_and]
    exact this
mutual
theorem low_mono {n m : Nat} (l : n ≤ m) : ∀ d : FV, d.lowB n = true → d.lowB m = true
  | .ref i, h => by simp only [FV.lowB, decide_eq_true_eq] at h ⊢; omega
  | .tup xs, h => by simp only [FV.lowB] at h ⊢; exact lows_mono l xs h
  | .fl xs, h => by simp only [FV.lowB] at h ⊢; exact lows_mono l xs h
  | .sl xs, h => by simp only [FV.lowB] at h ⊢; exact lows_mono l xs h
  | .fd _ xs, h => by simp only [FV.lowB] at h ⊢; exact lows_mono l xs h
  | .ft _ xs, h => by simp only [FV.lowB] at h ⊢; exact lows_mono l xs h
  | .fo _ _ xs, h => by simp only [FV.lowB] at h ⊢; exact lows_mono l xs h
  | .non, _ => by simp [FV.lowB]
  | .bl _, _ => by simp [FV.lowB]
  | .int _, _ => by simp [FV.lowB]
  | .str _, _ => by simp [FV.lowB]
theorem lows_mono {n m : Nat} (l : n ≤ m) : ∀ ds : List FV, FV.lowsB n ds = true → FV.lowsB m ds = true
  | [], _ => by simp [FV.lowsB]
  | d :: ds, h => by
    simp only [FV.lowsB, Bool.and_eq_true] at h ⊢
    exact ⟨low_mono l d h.1, lows_mono l ds h.2⟩
end
theorem lowO_mono {n m : Nat} (l : n ≤ m) (o : FO) (h : o.lowB n = true) : o.lowB m = true := by
  cases o <;> exact lows_mono l _ h
theorem LowH.app {h x : FH} (a : LowH h) (b : x.all (·.lowB (h.length + x.length)) = true) : LowH (h ++ x) := by
  unfold LowH at *
  rw [List.all_append, List.length_append, b, Bool.and_true, List.all_eq_true]
  intro o ho
  exact lowO_mono (Nat.le_add_right _ _) o (List.all_eq_true.mp a o ho)
theorem ints_low (n : Nat) : ∀ l : List Int, FV.lowsB n (l.map FV.int) = true
  | [] => by simp [FV.lowsB]
  | i :: l => by simp [FV.lowsB, FV.lowB, ints_low n l]
theorem ob_low (s : DS) (n : Nat) : s.ob.lowB n = true := by
  unfold DS.ob FO.lowB
  simp [FV.lowsB, FV.lowB, ints_low]
theorem LowH.ob (s : DS) : LowH [s.ob] := by
  unfold LowH
  simp [ob_low]
/-- a dict copied, key by key -/
theorem copy_loop {g : FV → M (Option (Key × FV))} : ∀ (σ pre : Sb), (∀ p, p ∈ σ → g (.str p.1) = pur (some (keyS p.1, p.2.fv))) → ((pre ++ σ).map (·.1)).Nodup → compD g (keysF keyF (embA Tm.fv σ)) (embA Tm.fv pre) = pur (embA Tm.fv (pre ++ σ))
  | [], pre, _, _ => by rw [List.append_nil]; rfl
  | p :: σ, pre, hg, nd => by
    have e : compD g (keysF keyF (embA Tm.fv (p :: σ))) (embA Tm.fv pre) = bnd (noEx (g (.str p.1))) fun o => compD g (keysF keyF (embA Tm.fv σ)) (match o with | some kv => putF (embA Tm.fv pre) kv.1 kv.2 | none => embA Tm.fv pre) := rfl
    rw [e, hg p List.mem_cons_self, noEx_pur, bnd_pur]
    dsimp only
    have ln : lookA pre p.1 = none := by
      cases q : lookA pre p.1 with
      | none => rfl
      | some u =>
        exfalso
        have h1 : (pre.any fun r => decide (r.1 = p.1)) = true := by rw [look_any, q]; rfl
        obtain ⟨r, hr, hr2⟩ := List.any_eq_true.mp h1
        rw [List.map_append, List.nodup_append] at nd
        exact nd.2.2 r.1 (List.mem_map.mpr ⟨r, hr, rfl⟩) p.1 (by simp) (of_decide_eq_true hr2)
    rw [put_emb, put_new ln]
    have ih := copy_loop (g := g) σ (pre ++ [(p.1, p.2)]) (fun q hq => hg q (List.mem_cons_of_mem _ hq)) (by simpa using nd)
    rw [ih]
    simp
theorem copy_ok {g : FV → M (Option (Key × FV))} {σ : Sb} (hg : ∀ p, p ∈ σ → g (.str p.1) = pur (some (keyS p.1, p.2.fv))) (nd : (σ.map (·.1)).Nodup) (hl : σ.length ≤ 16000000) : dcL g (keysF keyF (embA Tm.fv σ)) = pur (.d (embA Tm.fv σ)) := by
  unfold dcL
  rw [if_pos (by unfold keysF embA; rw [List.length_map, List.length_map]; exact hl)]
  have := copy_loop (g := g) σ [] hg (by simpa using nd)
  rw [List.nil_append] at this
  rw [show ([] : List (Key × FV)) = embA Tm.fv [] from rfl, this]; rfl
theorem look_mem {α : Type} {σ : List (Str × α)} {p : Str × α} (nd : (σ.map (·.1)).Nodup) (h : p ∈ σ) : lookA σ p.1 = some p.2 := by
  induction σ with
  | nil => cases h
  | cons q σ ih =>
    rw [List.map_cons, List.nodup_cons] at nd
    unfold lookA at *
    rw [List.find?_cons]
    rcases List.mem_cons.mp h with rfl | h
    · rw [show decide (p.1 = p.1) = true from decide_eq_true rfl]; rfl
    · have : ¬ q.1 = p.1 := fun z => nd.1 (by rw [z]; exact List.mem_map.mpr ⟨p, h, rfl⟩)
      rw [show decide (q.1 = p.1) = false from decide_eq_false this]
      exact ih nd.2 h
theorem merge_loop {α : Type} {e : α → FV} : ∀ (σ pre : List (Str × α)), ((pre ++ σ).map (·.1)).Nodup → mergeF (embA e pre) (embA e σ) = embA e (pre ++ σ)
  | [], pre, _ => by rw [List.append_nil]; rfl
  | p :: σ, pre, nd => by
    have ln : lookA pre p.1 = none := by
      cases q : lookA pre p.1 with
      | none => rfl
      | some u =>
        exfalso
        have h1 : (pre.any fun r => decide (r.1 = p.1)) = true := by rw [look_any, q]; rfl
        obtain ⟨r, hr, hr2⟩ := List.any_eq_true.mp h1
        rw [List.map_append, List.nodup_append] at nd
        exact nd.2.2 r.1 (List.mem_map.mpr ⟨r, hr, rfl⟩) p.1 (by simp) (of_decide_eq_true hr2)
    show mergeF (putF (embA e pre) (keyS p.1) (e p.2)) (embA e σ) = _
    rw [put_emb, put_new ln]
    have ih := merge_loop (e := e) σ (pre ++ [(p.1, p.2)]) (by simpa using nd)
    rw [ih]
    simp
theorem merge_emb {α : Type} {e : α → FV} (σ : List (Str × α)) (nd : (σ.map (·.1)).Nodup) : mergeF [] (embA e σ) = embA e σ := merge_loop σ [] (by simpa using nd)
theorem Dt.low {s : DS} {r : FH} (h : Dt r) : LowH (s.ob :: r) := by
  unfold LowH
  rw [List.all_cons, ob_low, Bool.true_and, List.all_eq_true]
  intro o ho
  exact lowO_mono (Nat.zero_le _) o (List.all_eq_true.mp h o ho)
/-- what draws nothing -/
theorem Dr.low {α : Type} {m : M α} {Q : α → Prop} {a : α} (e : ∀ h, LowH h → m h = .ok a h) (q : Q a) : Dr m Q 0 := fun s r dr _ => ⟨a, s, e _ dr.low, Nat.le_refl _, q⟩
/-- .. and then -/
theorem Dr.lowb {α β : Type} {m : M α} {k : α → M β} {Q : β → Prop} {a : α} {c : Nat} (e : ∀ h, LowH h → m h = .ok a h) (k' : Dr (k a) Q c) : Dr (P.bnd m k) Q c := fun s r dr hs => by
  obtain ⟨b, s', e2, h1, h2⟩ := k' s r dr hs
  exact ⟨b, s', by rw [bnd_ok (e _ dr.low)]; exact e2, h1, h2⟩
end P

/-! R6: dicts compared. -/
namespace P
open PySem PySem.Spec PyProof.Rows L2 G
/-- a dict that stays -/
def fdS (σ : Sb) : FV := .fd ((embA Tm.fv σ).map (·.1)) ((embA Tm.fv σ).map (·.2))
def dvs (σ : Sb) : DV := .d (σ.map fun p => (keyS p.1, .p p.2.fv.py))
theorem mapO_some {α β : Type} {f : α → Option β} {g : α → β} : ∀ {xs : List α}, (∀ x, x ∈ xs → f x = some (g x)) → mapO f xs = some (xs.map g)
  | [], _ => rfl
  | x :: xs, h => by rw [mapO, h x List.mem_cons_self, mapO_some fun y hy => h y (List.mem_cons_of_mem _ hy)]; rfl
theorem dv_fv (h : FH) (k : Nat) (t : Tm) : t.fv.dv h k = some (.p t.fv.py) := by
  cases k <;> (unfold FV.dv; rw [if_pos (fv_pure t)])
theorem mapO_map {α β γ : Type} {f : β → Option γ} {e : α → β} {g : α → γ} : ∀ {xs : List α}, (∀ x, x ∈ xs → f (e x) = some (g x)) → mapO f (xs.map e) = some (xs.map g)
  | [], _ => rfl
  | x :: xs, h => by rw [List.map_cons, mapO, h x List.mem_cons_self, mapO_map fun y hy => h y (List.mem_cons_of_mem _ hy)]; rfl
theorem zip_maps {α β γ : Type} (f : α → β) (g : α → γ) : ∀ l : List α, (l.map f).zip (l.map g) = l.map fun x => (f x, g x)
  | [] => rfl
  | x :: l => congrArg (_ :: ·) (zip_maps f g l)
theorem dv_emb (h : FH) (k : Nat) (σ : Sb) : dcX (FV.dv h k) (embA Tm.fv σ) = some (dvs σ) := by
  unfold dcX dvs embA
  rw [show (σ.map fun p => (keyS p.1, p.2.fv)).map (·.2) = σ.map fun p => p.2.fv by rw [List.map_map]; rfl, show (σ.map fun p => (keyS p.1, p.2.fv)).map (·.1) = σ.map fun p => keyS p.1 by rw [List.map_map]; rfl]
  rw [mapO_map (g := fun p => .p p.2.fv.py) fun p _ => dv_fv h k p.2, Option.map_some, zip_maps]
theorem dv_d (h : FH) (σ : Sb) : (RV.d (embA Tm.fv σ)).dv h = some (dvs σ) := dv_emb h 3 σ
theorem dv_fdk (h : FH) (k : Nat) (σ : Sb) : (fdS σ).dv h (k + 1) = some (dvs σ) := by
  unfold FV.dv fdS
  rw [if_neg (by simp [FV.pure])]
  have := dv_emb h k σ
  unfold dcX at this
  exact this
theorem dv_fd (h : FH) (σ : Sb) : (RV.v (fdS σ)).dv h = some (dvs σ) := dv_fdk h 2 σ
theorem dv_refk {h : FH} {m : Nat} {σ : Sb} (k : Nat) (e : h[m]? = some (.dK (embA Tm.fv σ))) : (FV.ref m).dv h (k + 1) = some (dvs σ) := by
  unfold FV.dv
  rw [if_neg (by simp [FV.pure])]
  dsimp only
  rw [e]
  exact dv_emb h k σ
theorem dv_ref {h : FH} {m : Nat} {σ : Sb} (e : h[m]? = some (.dK (embA Tm.fv σ))) : (RV.v (.ref m)).dv h = some (dvs σ) := dv_refk 2 e
/-- keys once each, terms not too deep -/
structure Gd (σ : Sb) : Prop where
  nd : (σ.map (·.1)).Nodup
  dp : ∀ p, p ∈ σ → p.2.dep ≤ 64
theorem keysOf_dvs (σ : Sb) : (σ.map fun p => ((keyS p.1, DV.p p.2.fv.py) : Key × DV)).map (·.1) = (σ.map (·.1)).map keyS := by
  rw [List.map_map, List.map_map]; rfl
theorem nodup_keyS : ∀ {l : List Str}, l.Nodup → (l.map keyS).Nodup
  | [], _ => List.nodup_nil
  | x :: l, h => by
    rw [List.nodup_cons] at h
    rw [List.map_cons, List.nodup_cons]
    refine ⟨fun z => ?_, nodup_keyS h.2⟩
    obtain ⟨y, hy, e⟩ := List.mem_map.mp z
    exact h.1 ((inr_iff _ _).mp e ▸ hy)
theorem lookX_dvs (x : Str) : ∀ σ : Sb, lookX (σ.map fun p => ((keyS p.1, DV.p p.2.fv.py) : Key × DV)) (keyS x) = (lookA σ x).map fun t => DV.p t.fv.py
  | [] => rfl
  | p :: σ => by
    have ih := lookX_dvs x σ
    unfold lookX lookA at *
    rw [List.map_cons, List.find?_cons, List.find?_cons]
    by_cases h : p.1 = x
    · rw [show decide (keyS p.1 = keyS x) = true from decide_eq_true ((inr_iff _ _).mpr h), show decide (p.1 = x) = true from decide_eq_true h]; rfl
    · rw [show decide (keyS p.1 = keyS x) = false from decide_eq_false (fun z => h ((inr_iff _ _).mp z)), show decide (p.1 = x) = false from decide_eq_false h]; exact ih
/-- are two such dicts equal -/
def eqS (σ τ : Sb) : Bool := decide (σ.length = τ.length) && σ.all fun p => decide (lookA τ p.1 = some p.2)
theorem eqX_pp (k : Nat) {t u : Tm} (h : min t.dep u.dep ≤ 64) : eqX k (.p t.fv.py) (.p u.fv.py) = some (decide (t = u)) := by
  cases k <;> (rw [eqX, if_pos (by rw [fv_depth, fv_depth]; exact h), fv_eqv, Tm.beq_dec])
theorem eqX_dd (k : Nat) {σ τ : Sb} (hs : ∀ p, p ∈ σ → p.2.dep ≤ 64) (ht : Gd τ) : eqX (k + 1) (dvs σ) (dvs τ) = some (eqS σ τ) := by
  unfold dvs eqS
  rw [eqX, if_pos (by rw [keysOf_dvs]; exact nodup_keyS ht.nd), List.length_map, List.length_map]
  by_cases hl : σ.length = τ.length
  · rw [if_pos hl, decide_eq_true hl, Bool.true_and]
    have key : ∀ ρ : Sb, (∀ p, p ∈ ρ → p.2.dep ≤ 64) → eqXd (eqX k) (τ.map fun p => ((keyS p.1, DV.p p.2.fv.py) : Key × DV)) (ρ.map fun p => ((keyS p.1, DV.p p.2.fv.py) : Key × DV)) = some (ρ.all fun p => decide (lookA τ p.1 = some p.2)) ∨
        eqXd (eqX k) (τ.map fun p => ((keyS p.1, DV.p p.2.fv.py) : Key × DV)) (ρ.map fun p => ((keyS p.1, DV.p p.2.fv.py) : Key × DV)) = some (ρ.all fun p => decide (lookA τ p.1 = some p.2)) := fun ρ hρ => by
      refine .inl ?_
      induction ρ with
      | nil => rfl
      | cons p ρ ih =>
        have ih' := ih fun q hq => hρ q (List.mem_cons_of_mem _ hq)
        have h1 := hρ p List.mem_cons_self
        rw [List.map_cons, eqXd, lookX_dvs, List.all_cons]
        cases q : lookA τ p.1 with
        | none =>
          simp
        | some u =>
          simp only [Option.map_some]
          rw [eqX_pp k (by omega), ih']
          simp only [Option.some.injEq]
          congr 1
          exact decide_eq_decide.mpr ⟨fun z => z.symm, fun z => z.symm⟩
    exact (key σ hs).elim id id
  · rw [if_neg hl, decide_eq_false hl, Bool.false_and]
theorem eqS_refl {σ : Sb} (h : (σ.map (·.1)).Nodup) : eqS σ σ = true := by
  unfold eqS
  rw [decide_eq_true rfl, Bool.true_and, List.all_eq_true]
  intro p hp
  rw [look_mem h hp]
  exact decide_eq_true rfl
theorem q_dv {neg : Bool} {x y : RV} {a b : DV} {c : Bool} {h : FH} (hx : x.dv h = some a) (hy : y.dv h = some b) (e : eqX 4 a b = some c) : oC (gQ neg) x y h = .ok (if neg = true then !c else c) h := by
  refine lift_at ?_
  unfold gQ
  rw [hx, hy]
  dsimp only
  rw [e]; rfl
/-- a dict is what it is -/
theorem q_self {neg : Bool} {x y : RV} {σ : Sb} (hx : ∀ h, x.dv h = some (dvs σ)) (hy : ∀ h, y.dv h = some (dvs σ)) (g : Gd σ) : oC (gQ neg) x y = pur (if neg = true then false else true) := by
  funext h
  rw [q_dv (hx h) (hy h) (eqX_dd 3 g.dp g), eqS_refl g.nd]
  cases neg <;> rfl
/-! lists of dicts -/
def lsv (ls : List Sb) : DV := if ls = [] then .p (.list []) else .l (ls.map dvs)
theorem dv_ls {f : FV → Option DV} {e : Sb → FV} {ls : List Sb} (hp : ∀ s, s ∈ ls → (e s).pure = false) (hf : ∀ s, s ∈ ls → f (e s) = some (dvs s)) : lsX f (ls.map e) = some (lsv ls) := by
  unfold lsX lsv
  cases ls with
  | nil => simp [FV.pures, FV.pys]
  | cons s ls =>
    rw [if_neg (by rw [List.map_cons, FV.pures, hp s List.mem_cons_self]; simp), if_neg (by simp)]
    rw [List.map_cons, mapO, hf s List.mem_cons_self]
    have : mapO f (ls.map e) = some (ls.map dvs) := by
      have : ∀ (l : List Sb), (∀ s, s ∈ l → f (e s) = some (dvs s)) → mapO f (l.map e) = some (l.map dvs) := by
        intro l
        induction l with
        | nil => intro _; rfl
        | cons a l ih => intro h; rw [List.map_cons, mapO, h a List.mem_cons_self, ih fun s hs => h s (List.mem_cons_of_mem _ hs)]; rfl
      exact this ls fun s hs => hf s (List.mem_cons_of_mem _ hs)
    rw [this]; rfl
theorem eqX_ls {ls : List Sb} (g : ∀ s, s ∈ ls → Gd s) : eqX 4 (lsv ls) (lsv ls) = some true := by
  unfold lsv
  cases ls with
  | nil => rw [if_pos rfl, eqX, if_pos (by simp [PyData.depth, PyData.depthAll])]; rfl
  | cons s ls =>
    rw [if_neg (by simp), eqX, if_pos rfl]
    have : ∀ l : List Sb, (∀ s, s ∈ l → Gd s) → eqXs (eqX 3) (l.map dvs) (l.map dvs) = some true := by
      intro l
      induction l with
      | nil => intro _; rfl
      | cons a l ih =>
        intro h
        rw [List.map_cons, eqXs, eqX_dd 2 (h a List.mem_cons_self).dp (h a List.mem_cons_self), eqS_refl (h a List.mem_cons_self).nd, ih fun s hs => h s (List.mem_cons_of_mem _ hs)]; rfl
    exact this _ g
/-- is a dict among others -/
theorem in_dvs {neg : Bool} {x y : RV} {τ : Sb} {ls : List Sb} {ds : List FV} {h : FH} (hx : x.dv h = some (dvs τ)) (xn : ∀ z, x ≠ .v (.str z)) (xd : x.dat h = none) (hy : y.seq h = some (false, ds)) (hm : mapO (FV.dv h 3) ds = some (ls.map dvs)) (gl : ∀ s, s ∈ ls → Gd s) (gt : Gd τ) :
    oC (gMx neg) x y h = .ok (if neg = true then !ls.any (eqS · τ) else ls.any (eqS · τ)) h := by
  refine lift_at ?_
  have e1 : gIn neg x y h = none := by
    unfold gIn
    rw [hy]
    dsimp only
    rw [xd]
  have e2 : anyX (fun z => eqX 4 z (dvs τ)) (ls.map dvs) = some (ls.map fun s => eqS s τ) := by
    clear hm
    induction ls with
    | nil => rfl
    | cons s ls ih => rw [List.map_cons, anyX, eqX_dd 3 (gl s List.mem_cons_self).dp gt, ih fun s hs => gl s (List.mem_cons_of_mem _ hs)]; rfl
  unfold gMx
  rw [e1]
  dsimp only
  split
  · rename_i w z
    exact absurd rfl (xn w)
  · rw [hx, hy]
    dsimp only
    rw [hm]
    dsimp only
    rw [e2]
    simp only [Option.map_some, List.any_map]
    rfl
/-! a list of dicts with numbers, behind its call -/
theorem dz_ref {n : Nat} {h : FH} {m k : Nat} {σ : Sb} (hm : n ≤ m) (e : h[m]? = some (.dK (embA Tm.fv σ))) : (FV.ref m).dz n h (k + 1 + 1) = some (fdS σ) := by
  unfold FV.dz
  rw [if_neg (by simp only [FV.lowB, decide_eq_true_eq]; omega)]
  dsimp only
  rw [e]
  dsimp only
  have : mapO (FV.dz n h (k + 1)) ((embA Tm.fv σ).map (·.2)) = some ((embA Tm.fv σ).map (·.2)) := by
    have id2 : ∀ l : List FV, (∀ x, x ∈ l → x.lowB n = true) → mapO (FV.dz n h (k + 1)) l = some l := by
      intro l
      induction l with
      | nil => intro _; rfl
      | cons x l ih =>
        intro hx
        rw [mapO, ih fun y hy => hx y (List.mem_cons_of_mem _ hy)]
        unfold FV.dz
        rw [if_pos (hx x List.mem_cons_self)]
    refine id2 _ fun x hx => ?_
    unfold embA at hx
    rw [List.map_map] at hx
    obtain ⟨p, _, rfl⟩ := List.mem_map.mp hx
    exact fv_low n p.2
  rw [this]; rfl
theorem out_refs {m : M RV} {h E : FH} {R : List (Nat × Sb)} (e : m h = .ok (.l (R.map fun r => .ref r.1)) (h ++ E)) (lo : LowH h) (hE : R ≠ [] → E ≠ []) (hR : ∀ r, r ∈ R → h.length ≤ r.1 ∧ (h ++ E)[r.1]? = some (.dK (embA Tm.fv r.2))) :
    dF (gcM m) h = .ok (.l (R.map fun r => fdS r.2)) h := by
  by_cases hr : R = []
  · subst hr
    have : gcM m h = .ok (.l []) h := by
      cases E with
      | nil => rw [List.append_nil] at e; exact gcM_same e (Nat.le_refl _)
      | cons o E =>
        have := gcM_cut (r' := .l []) e (by simp) (by rw [take_app]; exact lo) rfl
        rw [take_app] at this; exact this
    exact dF_same this (Nat.le_refl _)
  · have hE' := hE hr
    have l : h.length < (h ++ E).length := by
      rw [List.length_append]
      cases E with
      | nil => exact absurd rfl hE'
      | cons o E => rw [List.length_cons]; omega
    have g : gcM m h = .ok (.l (R.map fun r => .ref r.1)) (h ++ E) := by
      unfold gcM
      rw [e]
      show cutR h.length _ _ = _
      unfold cutR
      split
      · rw [show (RV.l (R.map fun r => FV.ref r.1)).cut h.length (h ++ E) = none by
          unfold RV.cut
          cases R with
          | nil => exact absurd rfl hr
          | cons r R =>
            have := (hR r List.mem_cons_self).1
            have z : FV.lowsB h.length ((r :: R).map fun r => FV.ref r.1) = false := by
              simp only [List.map_cons, FV.lowsB, FV.lowB, Bool.and_eq_false_imp, decide_eq_true_eq]
              omega
            dsimp only
            rw [z, if_neg Bool.false_ne_true]]
      · rfl
    have d := dF_cut (r' := .l (R.map fun r => fdS r.2)) g l (by rw [take_app]; exact lo) (by
      unfold RV.dz
      dsimp only
      rw [mapO_map (g := fun r => fdS r.2) fun r hr => dz_ref (k := 2) (hR r hr).1 (hR r hr).2]; rfl)
    rw [take_app] at d; exact d
end P

/-! R7: sorted by text; lists without repeats; data compared. -/
namespace P
open PySem PySem.Spec PyProof.Rows L2 G
section
variable {α : Type} (k : α → Str)
/-- in the order of texts -/
def leS (a b : α) : Bool := PySem.W.dataLe false (fun x => .str (k x)) a b
theorem leS_tot : PySem.W.TotalLe (leS k) :=
  ⟨fun a b c h1 h2 => (PySem.W.sortLe_total (PyProof.Rows.listOrd PyProof.Rows.itemOrd) false fun x => PySem.W.keyToks (.str (k x))).trans a b c h1 h2, fun a b => (PySem.W.sortLe_total (PyProof.Rows.listOrd PyProof.Rows.itemOrd) false fun x => PySem.W.keyToks (.str (k x))).total a b⟩
theorem str_ext {x y : Str} (h : x.cps.toList = y.cps.toList) : x = y := by
  cases x; cases y
  have := Array.toList_inj.mp h
  cases this; rfl
theorem leS_anti {a b : α} (h1 : leS k a b = true) (h2 : leS k b a = true) : k a = k b := by
  have e : PySem.W.keyToks (.str (k a)) = PySem.W.keyToks (.str (k b)) := (PyProof.Rows.listOrd PyProof.Rows.itemOrd).total _ _ (by
    have : (!(PyProof.Rows.listOrd PyProof.Rows.itemOrd).blt (PySem.W.keyToks (.str (k a))) (PySem.W.keyToks (.str (k b)))) = true := h2
    simpa using this) (by
    have : (!(PyProof.Rows.listOrd PyProof.Rows.itemOrd).blt (PySem.W.keyToks (.str (k b))) (PySem.W.keyToks (.str (k a)))) = true := h1
    simpa using this)
  simp only [PySem.W.keyToks, List.cons.injEq, Sum.inr.injEq, and_true] at e
  exact str_ext e
def srt (xs : List α) : List α := xs.mergeSort (leS k)
theorem mem_srt {xs : List α} {a : α} : a ∈ srt k xs ↔ a ∈ xs := (List.mergeSort_perm xs _).mem_iff
theorem len_srt (xs : List α) : (srt k xs).length = xs.length := List.length_mergeSort _
theorem srt_pw (xs : List α) : (srt k xs).Pairwise (fun a b => leS k a b = true) := PySem.W.sort_pairwise (leS_tot k) xs
theorem srt_nodup {xs : List α} (h : xs.Nodup) : (srt k xs).Nodup := (List.mergeSort_perm xs _).nodup_iff.mpr h
variable [DecidableEq α]
def addD (acc : List α) (x : α) : List α := if x ∈ acc then acc else acc ++ [x]
/-- each once, where it stood first -/
def dd (xs : List α) : List α := xs.foldl addD []
theorem dd_loop : ∀ (xs acc : List α), ∃ ys, xs.foldl addD acc = acc ++ ys ∧ ys.Sublist xs
  | [], acc => ⟨[], by simp, .slnil⟩
  | x :: xs, acc => by
    rw [List.foldl_cons]
    by_cases h : x ∈ acc
    · rw [show addD acc x = acc from if_pos h]
      obtain ⟨ys, h1, h2⟩ := dd_loop xs acc
      exact ⟨ys, h1, .cons x h2⟩
    · rw [show addD acc x = acc ++ [x] from if_neg h]
      obtain ⟨ys, h1, h2⟩ := dd_loop xs (acc ++ [x])
      exact ⟨x :: ys, by rw [h1]; simp, .cons₂ x h2⟩
theorem dd_sub (xs : List α) : (dd xs).Sublist xs := by
  obtain ⟨ys, h1, h2⟩ := dd_loop xs []
  unfold dd; rw [h1]; simpa using h2
theorem mem_fold : ∀ (xs acc : List α) (a : α), a ∈ xs.foldl addD acc ↔ a ∈ acc ∨ a ∈ xs
  | [], acc, a => by simp
  | x :: xs, acc, a => by
    rw [List.foldl_cons, mem_fold xs]
    unfold addD
    split
    · constructor
      · rintro (h | h)
        · exact .inl h
        · exact .inr (List.mem_cons_of_mem _ h)
      · rintro (h | h)
        · exact .inl h
        · rcases List.mem_cons.mp h with rfl | h
          · exact .inl ‹_›
          · exact .inr h
    · simp [or_assoc]
theorem mem_dd {xs : List α} {a : α} : a ∈ dd xs ↔ a ∈ xs := by unfold dd; rw [mem_fold]; simp
theorem fold_nodup : ∀ (xs acc : List α), acc.Nodup → (xs.foldl addD acc).Nodup
  | [], acc, h => h
  | x :: xs, acc, h => by
    rw [List.foldl_cons]
    refine fold_nodup xs _ ?_
    unfold addD
    split
    · exact h
    · rw [List.nodup_append]
      exact ⟨h, by simp, fun a ha b hb e => by simp at hb; subst hb; subst e; exact absurd ha ‹_›⟩
theorem dd_nodup (xs : List α) : (dd xs).Nodup := fold_nodup xs [] List.nodup_nil
theorem fold_snoc (xs acc : List α) (x : α) : (xs ++ [x]).foldl addD acc = addD (xs.foldl addD acc) x := by rw [List.foldl_append]; rfl
/-- sorted without repeats: one list, if the texts tell apart -/
theorem srt_dd {xs ys : List α} (hm : ∀ a, a ∈ xs ↔ a ∈ ys) (inj : ∀ a b, a ∈ xs → b ∈ xs → k a = k b → a = b) : dd (srt k xs) = srt k (dd ys) := by
  refine List.Perm.eq_of_pairwise (le := fun a b => leS k a b = true) (fun a b ha hb h1 h2 => ?_) ((srt_pw k xs).sublist (dd_sub _)) (srt_pw k _) ?_
  · exact inj a b ((mem_srt k).mp (mem_dd.mp ha)) ((hm b).mpr (mem_dd.mp ((mem_srt k).mp hb))) (leS_anti k h1 h2)
  · refine (List.perm_ext_iff_of_nodup (dd_nodup _) (srt_nodup k (dd_nodup ys))).mpr fun a => ?_
    rw [mem_dd, mem_srt, mem_srt, mem_dd]; exact hm a
end
theorem al_strs {α : Type} (xs : List α) (f : α → PyData) (k : α → Str) (h : ∀ a, a ∈ xs → f a = .str (k a)) : PySem.W.AllAlike (xs.map f) := fun d hd d' hd' => by
  obtain ⟨a, ha, rfl⟩ := List.mem_map.mp hd
  obtain ⟨b, hb, rfl⟩ := List.mem_map.mp hd'
  rw [h a ha, h b hb]; simp [PySem.W.alike]
theorem sortK_ok {α : Type} {g : FV → M RV} {e : α → FV} {k : α → Str} {xs : List α} {x : RV} {b : Bool} (hx : ∀ h, x.seq h = some (b, xs.map e)) (hk : ∀ a, a ∈ xs → g (e a) = pur (.v (.str (k a)))) : oSortK g x = pur (.l ((srt k xs).map e)) := by
  funext h
  have ka : ∀ a, a ∈ xs → keyAt g h (e a) = .str (k a) := fun a ha => by
    unfold keyAt
    rw [hk a ha]; rfl
  unfold oSortK
  rw [hx h]
  dsimp only
  have c1 : ∀ d, d ∈ xs.map e → ∃ kx, g d h = .ok (.v kx) h ∧ scal kx = true := fun d hd => by
    obtain ⟨a, ha, rfl⟩ := List.mem_map.mp hd
    exact ⟨.str (k a), by rw [hk a ha]; rfl, rfl⟩
  have c2 : PySem.W.AllAlike ((xs.map e).map (keyAt g h)) := by
    rw [List.map_map]
    exact al_strs xs _ k fun a ha => ka a ha
  rw [if_pos ⟨c1, c2⟩]
  show Rs.ok _ h = Rs.ok _ h
  unfold srt
  rw [List.map_mergeSort (s := PySem.W.dataLe false (keyAt g h)) fun a ha b hb => ?_]
  unfold leS PySem.W.dataLe PySem.W.sortLe
  simp only [ka a ha, ka b hb]
/-! data -/
def memD {α : Type} [DecidableEq α] (a : α) (xs : List α) : Bool := decide (a ∈ xs)
/-- things as data -/
structure Enc {α : Type} [DecidableEq α] (e : α → FV) (A : α → Prop) : Prop where
  pu : ∀ a, (e a).pure = true
  dp : ∀ a, A a → (e a).py.depth ≤ 60
  eq : ∀ a b, PyData.eqv (e a).py (e b).py = decide (a = b)
section
variable {α : Type} [DecidableEq α] {e : α → FV} {A : α → Prop}
theorem Enc.pus (E : Enc e A) : ∀ xs : List α, FV.pures (xs.map e) = true
  | [] => rfl
  | x :: xs => by rw [List.map_cons, FV.pures, E.pu x, E.pus xs]; rfl
theorem Enc.dps (E : Enc e A) : ∀ xs : List α, (∀ a, a ∈ xs → A a) → PyData.depthAll (FV.pys (xs.map e)) ≤ 60
  | [], _ => by simp [FV.pys, PyData.depthAll]
  | x :: xs, h => by
    have h1 := E.dp x (h x List.mem_cons_self)
    have h2 := E.dps xs fun a ha => h a (List.mem_cons_of_mem _ ha)
    rw [List.map_cons, FV.pys, PyData.depthAll]; omega
theorem Enc.q (E : Enc e A) {neg : Bool} {a b : α} (ha : A a) : oC (gQ neg) (.v (e a)) (.v (e b)) = pur (if neg = true then !decide (a = b) else decide (a = b)) := by
  have := E.dp a ha
  rw [q_vv (E.pu a) (E.pu b) (by omega), E.eq]
theorem Enc.any (E : Enc e A) (a : α) : ∀ xs : List α, ((FV.pys (xs.map e)).any fun z => PyData.eqv z (e a).py) = decide (a ∈ xs)
  | [] => by simp [FV.pys]
  | x :: xs => by
    rw [List.map_cons, FV.pys, List.any_cons, E.any a xs, E.eq]
    by_cases h : x = a
    · subst h; simp
    · have : ¬ a = x := fun z => h z.symm
      simp [h, this]
theorem Enc.mx (E : Enc e A) {neg : Bool} {a : α} {xs : List α} {y : RV} {b : Bool} (ha : A a) (nr : ∀ z, e a ≠ .ref z) (hy : ∀ h, y.seq h = some (b, xs.map e)) : oC (gMx neg) (.v (e a)) y = pur (if neg = true then !memD a xs else memD a xs) := by
  unfold memD
  refine lift_ok fun h => ?_
  have dt : (RV.v (e a)).dat h = some (e a).py := by
    have p := E.pu a
    unfold RV.dat
    cases q : e a <;> rw [q] at p
    case ref z => exact absurd q (nr z)
    all_goals simp [p]
  have d := E.dp a ha
  have : gIn neg (.v (e a)) y h = some (if neg = true then !decide (a ∈ xs) else decide (a ∈ xs)) := by
    unfold gIn
    rw [hy h, dt]
    dsimp only
    rw [if_pos ⟨E.pus xs, by omega⟩, E.any a xs]
  show gMx neg _ _ h = _
  unfold gMx
  rw [this]
end
/-- the same data on both sides -/
theorem q_data {neg : Bool} {x y : RV} {d : PyData} (hx : ∀ h, x.dv h = some (.p d)) (hy : ∀ h, y.dv h = some (.p d)) (hd : d.depth ≤ 64) (hp : d.plain = true) : oC (gQ neg) x y = pur (!neg) := by
  refine lift_ok fun h => ?_
  show gQ neg x y h = _
  unfold gQ
  rw [hx h, hy h]
  dsimp only
  rw [eqX, if_pos (by omega)]
  show (some (PyData.eqv d d)).map _ = _
  rw [PySem.SeqAt.eqv_refl_plain d hp]
  cases neg <;> rfl
end P

/-! the program as plain functions -/
namespace Q87
open PySem P
noncomputable section

def c_TOP : FV := (.tup [(.str "")])
structure Tab where
  d_unknowns_of : FV → M RV
  d_fill_term : FV → FV → M RV
  d_term_text : FV → M RV
  d_arguments : FV → M RV
  d_all_parts : FV → M RV
  d_make_literal : FV → FV → FV → M RV
  d_literal_text : FV → M RV
  d_opposite : FV → M RV
  d_make_clause : FV → M RV
  d_fill_clause : FV → FV → M RV
  d_clause_text : FV → M RV
  d_clause_unknowns : FV → M RV
  d_is_ground : FV → M RV
  d_always_true : FV → M RV
  d_fill_literal : FV → FV → M RV
  d_law_start : FV → M RV
  d_law_take : FV → FV → M RV
  d_law_term : FV → FV → M RV
  d_law_literal : FV → M RV
  d_law_text : FV → M RV
  d_law_formed : FV → M RV
  d_law_said : FV → M RV
  d_law_clause : FV → M RV
  d_law_filled : FV → FV → M RV
  d_law_names : FV → M RV
  d_law : FV → M RV
def n_unknowns_of (t : Tab) (v_term : FV) : M (Fl Unit Empty) :=
  (bnd (mD (pur (.d []))) fun found_1 => (bnd (bnd (mV (t.d_all_parts v_term)) fun v_2 => (oW v_2)) fun xs_9 => seqN (forN (fun found_4 part_3 => (bnd (bnd (oU (gIs "str") (.v part_3)) fun t_5 => (oT t_5)) fun c_6 => if c_6 = true then (bnd (oPut found_4 (.v part_3) (.bl true)) fun found_7 => (pur (.nx found_7))) else (pur (.nx found_4)))) xs_9 found_1) (fun found_8 => (ret (oU gList (.bd found_8))))))
def n_fill_term (t : Tab) (v_term v_filling : FV) : M (Fl Unit Empty) :=
  (bnd (bnd (oU (gIs "str") (.v v_term)) fun t_1 => (oT t_1)) fun c_2 => if c_2 = true then ret (bnd (oDk (.v v_filling)) fun _ => (oGet (.v v_filling) v_term v_term)) else (ret (bnd (oSl (.v v_term) none (some 1)) fun t_7 => (bnd (bnd (bnd (bnd (mV (oSl (.v v_term) (some 1) none)) fun v_3 => (oW v_3)) (filL (item some (fun argument_4 => (pur true)) (fun argument_4 => (t.d_fill_term argument_4 v_filling))))) fun t_6 => (oU gTup t_6)) fun t_8 => (oB gAdd t_7 t_8)))))
def n_term_text (t : Tab) (v_term : FV) : M (Fl Unit Empty) :=
  (bnd (bnd (oU (gIs "str") (.v v_term)) fun t_1 => (oT t_1)) fun c_2 => if c_2 = true then ret (pur (.v v_term)) else (bnd (oC (gQ false) (.v v_term) (.v c_TOP)) fun c_3 => if c_3 = true then ret (pur (.v (.str "true"))) else (bnd (bnd (oU gLen (.v v_term)) fun t_4 => (oC (gQ false) t_4 (.v (.int 1)))) fun c_5 => if c_5 = true then ret (oB gIx (.v v_term) (.v (.int 0))) else (bnd (mL (oLst [])) fun texts_6 => (bnd (bnd (mV (oSl (.v v_term) (some 1) none)) fun v_7 => (oW v_7)) fun xs_17 => seqN (forN (fun texts_9 argument_8 => (bnd (mV (t.d_term_text argument_8)) fun v_11 => (bnd (oApp texts_9 v_11) fun texts_10 => (pur (.nx texts_10))))) xs_17 texts_6) (fun texts_12 => (ret (bnd (bnd (bnd (oB gIx (.v v_term) (.v (.int 0))) fun t_13 => (oB gAdd t_13 (.v (.str "(")))) fun t_14 => (bnd (oB gJoin (.v (.str ", ")) (.bl texts_12)) fun t_15 => (oB gAdd t_14 t_15))) fun t_16 => (oB gAdd t_16 (.v (.str ")")))))))))))
def n_arguments (t : Tab) (v_term : FV) : M (Fl Unit Empty) :=
  (bnd (bnd (oU (gIs "str") (.v v_term)) fun t_1 => (oT t_1)) fun c_2 => if c_2 = true then ret (oTup []) else (ret (oSl (.v v_term) (some 1) none)))
def n_all_parts (t : Tab) (v_term : FV) : M (Fl Unit Empty) :=
  (bnd (mL (oLst [v_term])) fun parts_1 => (bnd (bnd (mV (t.d_arguments v_term)) fun v_2 => (oW v_2)) fun xs_9 => seqN (forN (fun parts_4 argument_3 => (bnd (mV (t.d_all_parts argument_3)) fun v_7 => (bnd (oL v_7) fun es_6 => bnd (oExt parts_4 es_6) fun parts_5 => (pur (.nx parts_5))))) xs_9 parts_1) (fun parts_8 => (pur (.rt (.l parts_8))))))
def n_make_literal (t : Tab) (v_sign v_left v_right : FV) : M (Fl Unit Empty) :=
  (bnd (oC (gQ false) (.v v_right) (.v c_TOP)) fun c_1 => if c_1 = true then ret (oTup [v_sign, v_left, v_right]) else (bnd (mOr (oC (gQ false) (.v v_left) (.v c_TOP)) (bnd (t.d_term_text v_right) fun t_2 => (bnd (t.d_term_text v_left) fun t_3 => (oC gLt t_2 t_3)))) fun c_4 => if c_4 = true then ret (oTup [v_sign, v_right, v_left]) else (ret (oTup [v_sign, v_left, v_right]))))
def n_literal_text (t : Tab) (v_literal : FV) : M (Fl Unit Empty) :=
  (bnd (pur v_literal) fun d => bindT (bTup (bCons some (bCons some (bCons some bNil)))) d fun | (sign_3, (left_2, (right_1, ()))) => (bnd (mAnd (oC (gQ false) (.v right_1) (.v c_TOP)) (oC (gQ true) (.v left_2) (.v c_TOP))) fun c_4 => if c_4 = true then ret (bnd (oT (.v sign_3)) fun c_6 => if c_6 = true then (t.d_term_text left_2) else (bnd (t.d_term_text left_2) fun t_5 => (oB gAdd (.v (.str "not ")) t_5))) else (bnd (mV (bnd (oT (.v sign_3)) fun c_7 => if c_7 = true then (pur (.v (.str " = "))) else (pur (.v (.str " != "))))) fun mark_8 => (ret (bnd (bnd (t.d_term_text left_2) fun t_9 => (oB gAdd t_9 (.v mark_8))) fun t_10 => (bnd (t.d_term_text right_1) fun t_11 => (oB gAdd t_10 t_11)))))))
def n_opposite (t : Tab) (v_literal : FV) : M (Fl Unit Empty) :=
  (bnd (pur v_literal) fun d => bindT (bTup (bCons some (bCons some (bCons some bNil)))) d fun | (sign_3, (left_2, (right_1, ()))) => (ret (bnd (mV (oNotV (.v sign_3))) fun v_4 => (oTup [v_4, left_2, right_1]))))
def n_make_clause (t : Tab) (v_literals : FV) : M (Fl Unit Empty) :=
  (bnd (mL (oLst [])) fun clause_1 => (bnd (bnd (mV (oSortK t.d_literal_text (.v v_literals))) fun v_2 => (oW v_2)) fun xs_8 => seqN (forN (fun clause_4 literal_3 => (bnd (oC (gMx true) (.v literal_3) (.bl clause_4)) fun c_5 => if c_5 = true then (bnd (oApp clause_4 literal_3) fun clause_6 => (pur (.nx clause_6))) else (pur (.nx clause_4)))) xs_8 clause_1) (fun clause_7 => (ret (oU gTup (.bl clause_7))))))
def n_fill_clause (t : Tab) (v_clause v_filling : FV) : M (Fl Unit Empty) :=
  (ret (bnd (mV (bnd (oW v_clause) (filL (item some (fun literal_1 => (pur true)) (fun literal_1 => (t.d_fill_literal literal_1 v_filling)))))) fun v_3 => (t.d_make_clause v_3)))
def n_clause_text (t : Tab) (v_clause : FV) : M (Fl Unit Empty) :=
  (bnd (bnd (oU gLen (.v v_clause)) fun t_1 => (oC (gQ false) t_1 (.v (.int 0)))) fun c_2 => if c_2 = true then ret (pur (.v (.str "false"))) else (ret (bnd (bnd (oW v_clause) (filL (item some (fun literal_3 => (pur true)) (fun literal_3 => (t.d_literal_text literal_3))))) fun t_5 => (oB gJoin (.v (.str " or ")) t_5))))
def n_clause_unknowns (t : Tab) (v_clause : FV) : M (Fl Unit Empty) :=
  (bnd (mD (pur (.d []))) fun found_1 => (bnd (oW v_clause) fun xs_15 => seqN (forN (fun found_5 d => bindT (bTup (bCons some (bCons some (bCons some bNil)))) d (fun | (_4, (left_3, (right_2, ()))) => (bnd (bnd (mV (bnd (t.d_unknowns_of left_3) fun t_6 => (bnd (t.d_unknowns_of right_2) fun t_7 => (oB gAdd t_6 t_7)))) fun v_8 => (oW v_8)) fun xs_13 => seqN (forN (fun found_10 name_9 => (bnd (oPut found_10 (.v name_9) (.bl true)) fun found_11 => (pur (.nx found_11)))) xs_13 found_5) (fun found_12 => (pur (.nx found_12)))))) xs_15 found_1) (fun found_14 => (ret (oU gList (.bd found_14))))))
def n_is_ground (t : Tab) (v_clause : FV) : M (Fl Unit Empty) :=
  (ret (mB (bnd (bnd (t.d_clause_unknowns v_clause) fun t_1 => (oU gLen t_1)) fun t_2 => (oC (gQ false) t_2 (.v (.int 0))))))
def n_always_true (t : Tab) (v_clause : FV) : M (Fl Unit Empty) :=
  (bnd (oW v_clause) fun xs_8 => seqN (forN (fun _ literal_1 => (bnd (pur literal_1) fun d => bindT (bTup (bCons some (bCons some (bCons some bNil)))) d fun | (sign_4, (left_3, (right_2, ()))) => (bnd (mAnd (oT (.v sign_4)) (oC (gQ false) (.v left_3) (.v right_2))) fun c_5 => if c_5 = true then ret (pur (.v (.bl true))) else (bnd (bnd (t.d_opposite literal_1) fun t_6 => (oC (gMx false) t_6 (.v v_clause))) fun c_7 => if c_7 = true then (ret (pur (.v (.bl true)))) else (pur (.nx ())))))) xs_8 ()) (fun _ => (ret (pur (.v (.bl false))))))
def n_fill_literal (t : Tab) (v_literal v_filling : FV) : M (Fl Unit Empty) :=
  (bnd (pur v_literal) fun d => bindT (bTup (bCons some (bCons some (bCons some bNil)))) d fun | (sign_3, (left_2, (right_1, ()))) => (ret (bnd (mV (t.d_fill_term left_2 v_filling)) fun v_4 => (bnd (mV (t.d_fill_term right_1 v_filling)) fun v_5 => (t.d_make_literal sign_3 v_4 v_5)))))
def n_law_start (t : Tab) (v_law_script : FV) : M (Fl Unit Empty) :=
  (bnd (mL (oLst [])) fun law_row_1 => (bnd (pur (.int 17)) fun law_seed_2 => (bnd (bnd (oU gLen (.v v_law_script)) fun t_3 => (oR1 t_3)) fun xs_44 => seqN (forN (fun | (law_row_5, law_seed_6), law_k_4 => (bnd (mV (bnd (oB gIx (.v v_law_script) (.v law_k_4)) fun t_7 => (oU gAbs t_7))) fun law_cell_8 => (bnd (mV (bnd (bnd (bnd (bnd (oB gMul (.v law_seed_6) (.v (.int 31))) fun t_9 => (oB gAdd t_9 (.v law_cell_8))) fun t_10 => (oB gAdd t_10 (.v law_k_4))) fun t_11 => (oU gInt t_11)) fun t_12 => (oB gMod t_12 (.v (.int 2147483647))))) fun law_seed_13 => (bnd (bnd (oB gPow (.v (.int 10)) (.v (.int 18))) fun t_14 => (oC gGe (.v law_cell_8) t_14)) fun c_15 => if c_15 = true then (bnd (mV (bnd (oB gPow (.v (.int 10)) (.v (.int 18))) fun t_16 => (oB gMns (.v law_cell_8) t_16))) fun law_cell_17 => (bnd (oR1 (.v (.int 60))) fun xs_28 => seqN (forN (fun | (law_row_19, law_cell_20), law_j_18 => (bnd (oC gGt (.v law_cell_20) (.v (.int 0))) fun c_21 => if c_21 = true then (bnd (mV (bnd (oU gInt (.v law_cell_20)) fun t_23 => (oB gMod t_23 (.v (.int 840))))) fun v_25 => (bnd (oApp law_row_19 v_25) fun law_row_22 => (bnd (mV (oB gDiv (.v law_cell_20) (.v (.int 840)))) fun law_cell_24 => (pur (.nx (law_row_22, law_cell_24)))))) else (pur (.nx (law_row_19, law_cell_20))))) xs_28 (law_row_5, law_cell_17)) (fun | (law_row_26, law_cell_27) => (pur (.nx (law_row_26, law_seed_13)))))) else (bnd (mV (bnd (bnd (bnd (bnd (oB gAdd (.v law_cell_8) (.v (.int 1))) fun t_29 => (oB gMul t_29 (.v (.int 48271)))) fun t_30 => (bnd (oB gMul (.v law_k_4) (.v (.int 69621))) fun t_31 => (oB gAdd t_30 t_31))) fun t_32 => (oU gInt t_32)) fun t_33 => (oB gMod t_33 (.v (.int 2147483647))))) fun law_mixed_34 => (bnd (mV (bnd (bnd (bnd (oB gMul (.v law_mixed_34) (.v (.int 40692))) fun t_35 => (oB gAdd t_35 (.v (.int 5)))) fun t_36 => (oU gInt t_36)) fun t_37 => (oB gMod t_37 (.v (.int 2147483399))))) fun law_mixed_38 => (bnd (mV (bnd (oB gDiv (.v law_mixed_38) (.v (.int 13))) fun t_40 => (oB gMod t_40 (.v (.int 840))))) fun v_41 => (bnd (oApp law_row_5 v_41) fun law_row_39 => (pur (.nx (law_row_39, law_seed_13))))))))))) xs_44 (law_row_1, law_seed_2)) (fun | (law_row_42, law_seed_43) => (ret (oLst [(.fl law_row_42), (.int 0), law_seed_43]))))))
def n_law_take (t : Tab) (v_law_state v_law_many : FV) : M (Fl Unit Empty) :=
  (bnd (mV (oB gIx (.v v_law_state) (.v (.int 1)))) fun law_at_1 => (bnd (mV (oB gAdd (.v law_at_1) (.v (.int 1)))) fun v_20 => (bnd (oSet v_20 (.v v_law_state) (.v (.int 1))) fun _ => (bnd (bnd (bnd (oB gIx (.v v_law_state) (.v (.int 0))) fun t_2 => (oU gLen t_2)) fun t_3 => (oC gLt (.v law_at_1) t_3)) fun c_4 => if c_4 = true then ret (bnd (bnd (bnd (oB gIx (.v v_law_state) (.v (.int 0))) fun t_5 => (oB gIx t_5 (.v law_at_1))) fun t_6 => (oU gInt t_6)) fun t_7 => (oB gMod t_7 (.v v_law_many))) else (bnd (mV (bnd (bnd (bnd (bnd (oB gIx (.v v_law_state) (.v (.int 2))) fun t_8 => (bnd (oB gMul (.v law_at_1) (.v (.int 40503))) fun t_9 => (oB gAdd t_8 t_9))) fun t_10 => (oB gMul t_10 (.v (.int 48271)))) fun t_11 => (oU gInt t_11)) fun t_12 => (oB gMod t_12 (.v (.int 2147483647))))) fun law_mixed_13 => (bnd (mV (bnd (bnd (bnd (oB gMul (.v law_mixed_13) (.v (.int 69621))) fun t_14 => (bnd (oB gMul (.v law_at_1) (.v law_at_1)) fun t_15 => (oB gAdd t_14 t_15))) fun t_16 => (oU gInt t_16)) fun t_17 => (oB gMod t_17 (.v (.int 2147483629))))) fun law_mixed_18 => (ret (bnd (oB gDiv (.v law_mixed_18) (.v (.int 11))) fun t_19 => (oB gMod t_19 (.v v_law_many))))))))))
def n_law_term (t : Tab) (v_law_state v_law_depth : FV) : M (Fl Unit Empty) :=
  (bnd (mV (t.d_law_take v_law_state (.int 5))) fun law_kind_1 => (bnd (mOr (oC (gQ false) (.v v_law_depth) (.v (.int 0))) (oC gLt (.v law_kind_1) (.v (.int 4)))) fun c_2 => if c_2 = true then up (bnd (mV (bnd (mV (oTup [(.str "a")])) fun v_3 => (bnd (mV (oTup [(.str "b")])) fun v_4 => (oLst [(.str "x"), (.str "y"), v_3, v_4])))) fun law_leaves_5 => (ret (bnd (t.d_law_take v_law_state (.int 4)) fun t_6 => (oB gIx (.v law_leaves_5) t_6)))) else (ret (bnd (mV (bnd (mV (oB gMns (.v v_law_depth) (.v (.int 1)))) fun v_7 => (t.d_law_term v_law_state v_7))) fun v_8 => (oTup [(.str "f"), v_8])))))
def n_law_literal (t : Tab) (v_law_state : FV) : M (Fl Unit Empty) :=
  (bnd (mV (t.d_law_take v_law_state (.int 6))) fun law_kind_1 => (bnd (mV (mB (bnd (t.d_law_take v_law_state (.int 2)) fun t_2 => (oC (gQ false) t_2 (.v (.int 1)))))) fun law_sign_3 => (bnd (oC (gQ false) (.v law_kind_1) (.v (.int 0))) fun c_4 => if c_4 = true then ret (bnd (mV (oTup [(.str "Q")])) fun v_5 => (oTup [law_sign_3, v_5, c_TOP])) else (bnd (oC (gQ false) (.v law_kind_1) (.v (.int 1))) fun c_6 => if c_6 = true then ret (bnd (mV (bnd (mV (t.d_law_term v_law_state (.int 2))) fun v_7 => (oTup [(.str "P"), v_7]))) fun v_8 => (oTup [law_sign_3, v_8, c_TOP])) else (bnd (oC (gQ false) (.v law_kind_1) (.v (.int 2))) fun c_9 => if c_9 = true then ret (bnd (mV (bnd (mV (t.d_law_term v_law_state (.int 1))) fun v_10 => (bnd (mV (t.d_law_term v_law_state (.int 1))) fun v_11 => (oTup [(.str "R"), v_10, v_11])))) fun v_12 => (oTup [law_sign_3, v_12, c_TOP])) else (ret (bnd (mV (t.d_law_term v_law_state (.int 2))) fun v_13 => (bnd (mV (t.d_law_term v_law_state (.int 2))) fun v_14 => (oTup [law_sign_3, v_13, v_14])))))))))
def n_law_text (t : Tab) (v_law_term_here : FV) : M (Fl Unit Empty) :=
  (bnd (bnd (oU (gIs "str") (.v v_law_term_here)) fun t_1 => (oT t_1)) fun c_2 => if c_2 = true then ret (pur (.v v_law_term_here)) else (bnd (bnd (oU gLen (.v v_law_term_here)) fun t_3 => (oC (gQ false) t_3 (.v (.int 1)))) fun c_4 => if c_4 = true then ret (oB gIx (.v v_law_term_here) (.v (.int 0))) else (ret (bnd (bnd (bnd (oB gIx (.v v_law_term_here) (.v (.int 0))) fun t_5 => (oB gAdd t_5 (.v (.str "(")))) fun t_10 => (bnd (bnd (bnd (bnd (mV (oSl (.v v_law_term_here) (some 1) none)) fun v_6 => (oW v_6)) (filL (item some (fun law_part_7 => (pur true)) (fun law_part_7 => (t.d_law_text law_part_7))))) fun t_9 => (oB gJoin (.v (.str ", ")) t_9)) fun t_11 => (oB gAdd t_10 t_11))) fun t_12 => (oB gAdd t_12 (.v (.str ")")))))))
def n_law_formed (t : Tab) (v_law_literal_here : FV) : M (Fl Unit Empty) :=
  (bnd (pur v_law_literal_here) fun d => bindT (bTup (bCons some (bCons some (bCons some bNil)))) d fun | (law_sign_3, (law_left_2, (law_right_1, ()))) => (bnd (mAnd (oC (gQ true) (.v law_right_1) (.v c_TOP)) (bnd (t.d_law_text law_right_1) fun t_4 => (bnd (t.d_law_text law_left_2) fun t_5 => (oC gLt t_4 t_5)))) fun c_6 => if c_6 = true then ret (oTup [law_sign_3, law_right_1, law_left_2]) else (ret (oTup [law_sign_3, law_left_2, law_right_1]))))
def n_law_said (t : Tab) (v_law_literal_here : FV) : M (Fl Unit Empty) :=
  (bnd (pur v_law_literal_here) fun d => bindT (bTup (bCons some (bCons some (bCons some bNil)))) d fun | (law_sign_3, (law_left_2, (law_right_1, ()))) => (bnd (oC (gQ false) (.v law_right_1) (.v c_TOP)) fun c_4 => if c_4 = true then up (bnd (oT (.v law_sign_3)) fun c_5 => if c_5 = true then ret (t.d_law_text law_left_2) else (ret (bnd (t.d_law_text law_left_2) fun t_6 => (oB gAdd (.v (.str "not ")) t_6)))) else (bnd (oT (.v law_sign_3)) fun c_7 => if c_7 = true then ret (bnd (bnd (t.d_law_text law_left_2) fun t_8 => (oB gAdd t_8 (.v (.str " = ")))) fun t_9 => (bnd (t.d_law_text law_right_1) fun t_10 => (oB gAdd t_9 t_10))) else (ret (bnd (bnd (t.d_law_text law_left_2) fun t_11 => (oB gAdd t_11 (.v (.str " != ")))) fun t_12 => (bnd (t.d_law_text law_right_1) fun t_13 => (oB gAdd t_12 t_13)))))))
def n_law_clause (t : Tab) (v_law_literals : FV) : M (Fl Unit Empty) :=
  (bnd (mL (oLst [])) fun law_row_1 => (bnd (oW v_law_literals) fun xs_9 => seqN (forN (fun law_row_3 law_literal_here_2 => (bnd (mV (t.d_law_formed law_literal_here_2)) fun law_formed_here_4 => (bnd (oC (gMx true) (.v law_formed_here_4) (.bl law_row_3)) fun c_5 => if c_5 = true then (bnd (oApp law_row_3 law_formed_here_4) fun law_row_6 => (pur (.nx law_row_6))) else (pur (.nx law_row_3))))) xs_9 law_row_1) (fun law_row_7 => (ret (bnd (oSortK t.d_law_said (.bl law_row_7)) fun t_8 => (oU gTup t_8))))))
def n_law_filled (t : Tab) (v_law_term_here v_law_filling : FV) : M (Fl Unit Empty) :=
  (bnd (bnd (oU (gIs "str") (.v v_law_term_here)) fun t_1 => (oT t_1)) fun c_2 => if c_2 = true then ret (bnd (oDk (.v v_law_filling)) fun _ => (oGet (.v v_law_filling) v_law_term_here v_law_term_here)) else (ret (bnd (bnd (bnd (mV (oB gIx (.v v_law_term_here) (.v (.int 0)))) fun v_3 => (oLst [v_3])) fun t_7 => (bnd (bnd (bnd (mV (oSl (.v v_law_term_here) (some 1) none)) fun v_4 => (oW v_4)) (filL (item some (fun law_part_5 => (pur true)) (fun law_part_5 => (t.d_law_filled law_part_5 v_law_filling))))) fun t_8 => (oB gAdd t_7 t_8))) fun t_9 => (oU gTup t_9))))
def n_law_names (t : Tab) (v_law_term_here : FV) : M (Fl Unit Empty) :=
  (bnd (bnd (oU (gIs "str") (.v v_law_term_here)) fun t_1 => (oT t_1)) fun c_2 => if c_2 = true then ret (oLst [v_law_term_here]) else (bnd (mV (oLst [])) fun law_names_here_3 => (bnd (bnd (mV (oSl (.v v_law_term_here) (some 1) none)) fun v_4 => (oW v_4)) fun xs_10 => seqN (forN (fun law_names_here_6 law_part_5 => (bnd (mV (bnd (t.d_law_names law_part_5) fun t_7 => (oB gAdd (.v law_names_here_6) t_7))) fun law_names_here_8 => (pur (.nx law_names_here_8)))) xs_10 law_names_here_3) (fun law_names_here_9 => (ret (pur (.v law_names_here_9)))))))
def n_law (t : Tab) (v_law_script : FV) : M (Fl Unit Empty) :=
  (bnd (mT (t.d_law_start v_law_script)) fun law_state_1 => (bnd (mV (bnd (bnd (t.d_law_take law_state_1 (.int 7)) fun t_2 => (oR1 t_2)) (filL (item some (fun law_k_3 => (pur true)) (fun law_k_3 => (t.d_law_literal law_state_1)))))) fun law_literals_5 => (bnd (mL (oLst [])) fun law_other_6 => (bnd (bnd (oU gLen (.v law_literals_5)) fun t_7 => (oR1 t_7)) fun xs_130 => seqN (forN (fun law_other_9 law_k_8 => (bnd (mV (oB gIx (.v law_literals_5) (.v law_k_8))) fun law_literal_here_10 => (bnd (mAnd (bnd (oB gIx (.v law_literal_here_10) (.v (.int 2))) fun t_11 => (oC (gQ true) t_11 (.v c_TOP))) (bnd (t.d_law_take law_state_1 (.int 2)) fun t_12 => (oC (gQ false) t_12 (.v (.int 1))))) fun c_13 => seqN (if c_13 = true then (bnd (mV (bnd (mV (oB gIx (.v law_literal_here_10) (.v (.int 0)))) fun v_25 => (bnd (mV (oB gIx (.v law_literal_here_10) (.v (.int 2)))) fun v_26 => (bnd (mV (oB gIx (.v law_literal_here_10) (.v (.int 1)))) fun v_27 => (oTup [v_25, v_26, v_27]))))) fun law_literal_here_28 => (pur (.nx law_literal_here_28))) else (pur (.nx law_literal_here_10))) (fun law_literal_here_14 => (bnd (mV (bnd (mV (bnd (oU gLen (.bl law_other_9)) fun t_16 => (oB gAdd t_16 (.v (.int 1))))) fun v_17 => (t.d_law_take law_state_1 v_17))) fun v_24 => (bnd (oIns law_other_9 v_24 law_literal_here_14) fun law_other_15 => (bnd (bnd (t.d_law_take law_state_1 (.int 3)) fun t_18 => (oC (gQ false) t_18 (.v (.int 0)))) fun c_19 => if c_19 = true then (bnd (mV (bnd (bnd (mV (oU gLen (.v law_literals_5))) fun v_21 => (t.d_law_take law_state_1 v_21)) fun t_22 => (oB gIx (.v law_literals_5) t_22))) fun v_23 => (bnd (oApp law_other_15 v_23) fun law_other_20 => (pur (.nx law_other_20)))) else (pur (.nx law_other_15))))))))) xs_130 law_other_6) (fun law_other_29 => (bnd (mV (t.d_law_clause law_literals_5)) fun law_due_30 => (bnd (bnd (bnd (mV (bnd (oW law_literals_5) (filL (item some (fun law_one_31 => (pur true)) (fun law_one_31 => (bnd (mV (oB gIx (.v law_one_31) (.v (.int 0)))) fun v_32 => (bnd (mV (oB gIx (.v law_one_31) (.v (.int 1)))) fun v_33 => (bnd (mV (oB gIx (.v law_one_31) (.v (.int 2)))) fun v_34 => (t.d_make_literal v_32 v_33 v_34))))))))) fun v_36 => (t.d_make_clause v_36)) fun t_37 => (oC (gQ true) t_37 (.v law_due_30))) fun c_38 => if c_38 = true then ret (pur (.v (.bl false))) else (bnd (bnd (bnd (mV (bnd (bnd (oW (.fl law_other_29)) (filL (item some (fun law_one_39 => (pur true)) (fun law_one_39 => (bnd (mV (oB gIx (.v law_one_39) (.v (.int 0)))) fun v_40 => (bnd (mV (oB gIx (.v law_one_39) (.v (.int 1)))) fun v_41 => (bnd (mV (oB gIx (.v law_one_39) (.v (.int 2)))) fun v_42 => (t.d_make_literal v_40 v_41 v_42)))))))) fun t_44 => (oU gTup t_44))) fun v_45 => (t.d_make_clause v_45)) fun t_46 => (oC (gQ true) t_46 (.v law_due_30))) fun c_47 => if c_47 = true then ret (pur (.v (.bl false))) else (bnd (mV (bnd (oW law_due_30) (filL (item some (fun law_literal_here_48 => (pur true)) (fun law_literal_here_48 => (t.d_law_said law_literal_here_48)))))) fun law_said_here_50 => (bnd (bnd (bnd (oW law_due_30) (filL (item some (fun law_literal_here_51 => (pur true)) (fun law_literal_here_51 => (t.d_literal_text law_literal_here_51))))) fun t_53 => (oC (gQ true) t_53 (.v law_said_here_50))) fun c_54 => if c_54 = true then ret (pur (.v (.bl false))) else (bnd (pur (.str "false")) fun law_text_here_55 => (bnd (bnd (oU gLen (.v law_said_here_50)) fun t_56 => (oC gGt t_56 (.v (.int 0)))) fun c_57 => seqN (if c_57 = true then (bnd (mV (oB gJoin (.v (.str " or ")) (.v law_said_here_50))) fun law_text_here_129 => (pur (.nx law_text_here_129))) else (pur (.nx law_text_here_55))) (fun law_text_here_58 => (bnd (bnd (t.d_clause_text law_due_30) fun t_59 => (oC (gQ true) t_59 (.v law_text_here_58))) fun c_60 => if c_60 = true then ret (pur (.v (.bl false))) else (bnd (mL (oLst [])) fun law_names_here_61 => (bnd (oW law_due_30) fun xs_128 => seqN (forN (fun law_names_here_63 law_literal_here_62 => (bnd (bnd (mV (bnd (bnd (mV (oB gIx (.v law_literal_here_62) (.v (.int 1)))) fun v_64 => (t.d_law_names v_64)) fun t_66 => (bnd (bnd (mV (oB gIx (.v law_literal_here_62) (.v (.int 2)))) fun v_65 => (t.d_law_names v_65)) fun t_67 => (oB gAdd t_66 t_67)))) fun v_68 => (oW v_68)) fun xs_74 => seqN (forN (fun law_names_here_70 law_name_69 => (bnd (oC (gMx true) (.v law_name_69) (.bl law_names_here_70)) fun c_71 => if c_71 = true then (bnd (oApp law_names_here_70 law_name_69) fun law_names_here_72 => (pur (.nx law_names_here_72))) else (pur (.nx law_names_here_70)))) xs_74 law_names_here_63) (fun law_names_here_73 => (pur (.nx law_names_here_73))))) xs_128 law_names_here_61) (fun law_names_here_75 => (bnd (mV (t.d_is_ground law_due_30)) fun law_ground_76 => (bnd (mOr (bnd (t.d_clause_unknowns law_due_30) fun t_77 => (oC (gQ true) t_77 (.bl law_names_here_75))) (mOr (mNot (bnd (oU (gIs "bool") (.v law_ground_76)) fun t_78 => (oT t_78))) (bnd (mB (bnd (oU gLen (.bl law_names_here_75)) fun t_79 => (oC (gQ false) t_79 (.v (.int 0))))) fun t_80 => (oC (gQ true) (.v law_ground_76) t_80)))) fun c_81 => if c_81 = true then ret (pur (.v (.bl false))) else (bnd (mD (bnd (mV (t.d_law_term law_state_1 (.int 2))) fun v_82 => (oDis [(.inr "x", v_82)]))) fun law_filling_84 => (bnd (bnd (t.d_law_take law_state_1 (.int 2)) fun t_85 => (oC (gQ false) t_85 (.v (.int 1)))) fun c_86 => seqN (if c_86 = true then (bnd (mV (t.d_law_term law_state_1 (.int 1))) fun v_127 => (bnd (oPut law_filling_84 (.v (.str "y")) v_127) fun law_filling_126 => (pur (.nx law_filling_126)))) else (pur (.nx law_filling_84))) (fun law_filling_87 => (bnd (mV (bnd (oW law_due_30) (filL (item some (fun law_one_88 => (pur true)) (fun law_one_88 => (bnd (mV (oB gIx (.v law_one_88) (.v (.int 0)))) fun v_91 => (bnd (mV (bnd (mV (oB gIx (.v law_one_88) (.v (.int 1)))) fun v_89 => (t.d_law_filled v_89 (frzD law_filling_87)))) fun v_92 => (bnd (mV (bnd (mV (oB gIx (.v law_one_88) (.v (.int 2)))) fun v_90 => (t.d_law_filled v_90 (frzD law_filling_87)))) fun v_93 => (oTup [v_91, v_92, v_93]))))))))) fun law_filled_here_95 => (bnd (bnd (bnd (oW law_due_30) (filL (item some (fun law_one_96 => (pur true)) (fun law_one_96 => (bnd (mV (oB gIx (.v law_one_96) (.v (.int 1)))) fun v_97 => (t.d_fill_term v_97 (frzD law_filling_87))))))) fun t_101 => (bnd (bnd (oW law_filled_here_95) (filL (item some (fun law_one_99 => (pur true)) (fun law_one_99 => (oB gIx (.v law_one_99) (.v (.int 1))))))) fun t_102 => (oC (gQ true) t_101 t_102))) fun c_103 => if c_103 = true then ret (pur (.v (.bl false))) else (bnd (bnd (t.d_fill_clause law_due_30 (frzD law_filling_87)) fun t_104 => (bnd (t.d_law_clause law_filled_here_95) fun t_105 => (oC (gQ true) t_104 t_105))) fun c_106 => if c_106 = true then ret (pur (.v (.bl false))) else (bnd (pur (.bl false)) fun law_either_107 => (bnd (oW law_due_30) fun xs_125 => seqN (forN (fun law_either_109 law_literal_here_108 => (bnd (mV (bnd (mV (bnd (oB gIx (.v law_literal_here_108) (.v (.int 0))) fun t_110 => (oNotV t_110))) fun v_111 => (bnd (mV (oB gIx (.v law_literal_here_108) (.v (.int 1)))) fun v_112 => (bnd (mV (oB gIx (.v law_literal_here_108) (.v (.int 2)))) fun v_113 => (oTup [v_111, v_112, v_113]))))) fun law_turned_114 => (bnd (bnd (t.d_opposite law_literal_here_108) fun t_115 => (oC (gQ true) t_115 (.v law_turned_114))) fun c_116 => if c_116 = true then ret (pur (.v (.bl false))) else (bnd (mOr (oC (gMx false) (.v law_turned_114) (.v law_due_30)) (mAnd (bnd (oB gIx (.v law_literal_here_108) (.v (.int 0))) fun t_117 => (oT t_117)) (bnd (oB gIx (.v law_literal_here_108) (.v (.int 1))) fun t_118 => (bnd (oB gIx (.v law_literal_here_108) (.v (.int 2))) fun t_119 => (oC (gQ false) t_118 t_119))))) fun c_120 => if c_120 = true then (bnd (pur (.bl true)) fun law_either_121 => (pur (.nx law_either_121))) else (pur (.nx law_either_109)))))) xs_125 law_either_107) (fun law_either_122 => (bnd (mV (t.d_always_true law_due_30)) fun law_always_123 => (ret (bnd (oU (gIs "bool") (.v law_always_123)) fun t_124 => (oAndV t_124 (mB (oC (gQ false) (.v law_always_123) (.v law_either_122)))))))))))))))))))))))))))))))))))
def T : Nat → Tab
  | 0 => ⟨fun _ => fail, fun _ _ => fail, fun _ => fail, fun _ => fail, fun _ => fail, fun _ _ _ => fail, fun _ => fail, fun _ => fail, fun _ => fail, fun _ _ => fail, fun _ => fail, fun _ => fail, fun _ => fail, fun _ => fail, fun _ _ => fail, fun _ => fail, fun _ _ => fail, fun _ _ => fail, fun _ => fail, fun _ => fail, fun _ => fail, fun _ => fail, fun _ => fail, fun _ _ => fail, fun _ => fail, fun _ => fail⟩
  | n + 1 => {
      d_unknowns_of := fun a0 => gcM (toF (n_unknowns_of (T n) a0))
      d_fill_term := fun a0 a1 => gcM (toF (n_fill_term (T n) a0 a1))
      d_term_text := fun a0 => gcM (toF (n_term_text (T n) a0))
      d_arguments := fun a0 => gcM (toF (n_arguments (T n) a0))
      d_all_parts := fun a0 => gcM (toF (n_all_parts (T n) a0))
      d_make_literal := fun a0 a1 a2 => gcM (toF (n_make_literal (T n) a0 a1 a2))
      d_literal_text := fun a0 => gcM (toF (n_literal_text (T n) a0))
      d_opposite := fun a0 => gcM (toF (n_opposite (T n) a0))
      d_make_clause := fun a0 => gcM (toF (n_make_clause (T n) a0))
      d_fill_clause := fun a0 a1 => gcM (toF (n_fill_clause (T n) a0 a1))
      d_clause_text := fun a0 => gcM (toF (n_clause_text (T n) a0))
      d_clause_unknowns := fun a0 => gcM (toF (n_clause_unknowns (T n) a0))
      d_is_ground := fun a0 => gcM (toF (n_is_ground (T n) a0))
      d_always_true := fun a0 => gcM (toF (n_always_true (T n) a0))
      d_fill_literal := fun a0 a1 => gcM (toF (n_fill_literal (T n) a0 a1))
      d_law_start := fun a0 => gcM (toF (n_law_start (T n) a0))
      d_law_take := fun a0 a1 => gcM (toF (n_law_take (T n) a0 a1))
      d_law_term := fun a0 a1 => gcM (toF (n_law_term (T n) a0 a1))
      d_law_literal := fun a0 => gcM (toF (n_law_literal (T n) a0))
      d_law_text := fun a0 => gcM (toF (n_law_text (T n) a0))
      d_law_formed := fun a0 => gcM (toF (n_law_formed (T n) a0))
      d_law_said := fun a0 => gcM (toF (n_law_said (T n) a0))
      d_law_clause := fun a0 => gcM (toF (n_law_clause (T n) a0))
      d_law_filled := fun a0 a1 => gcM (toF (n_law_filled (T n) a0 a1))
      d_law_names := fun a0 => gcM (toF (n_law_names (T n) a0))
      d_law := fun a0 => gcM (toF (n_law (T n) a0)) }
theorem T_unknowns_of (n : Nat) (a0 : FV) : (T (n + 1)).d_unknowns_of a0 = gcM (toF (n_unknowns_of (T n) a0)) := rfl
theorem T_fill_term (n : Nat) (a0 a1 : FV) : (T (n + 1)).d_fill_term a0 a1 = gcM (toF (n_fill_term (T n) a0 a1)) := rfl
theorem T_term_text (n : Nat) (a0 : FV) : (T (n + 1)).d_term_text a0 = gcM (toF (n_term_text (T n) a0)) := rfl
theorem T__arguments (n : Nat) (a0 : FV) : (T (n + 1)).d_arguments a0 = gcM (toF (n_arguments (T n) a0)) := rfl
theorem T__all_parts (n : Nat) (a0 : FV) : (T (n + 1)).d_all_parts a0 = gcM (toF (n_all_parts (T n) a0)) := rfl
theorem T_make_literal (n : Nat) (a0 a1 a2 : FV) : (T (n + 1)).d_make_literal a0 a1 a2 = gcM (toF (n_make_literal (T n) a0 a1 a2)) := rfl
theorem T_literal_text (n : Nat) (a0 : FV) : (T (n + 1)).d_literal_text a0 = gcM (toF (n_literal_text (T n) a0)) := rfl
theorem T_opposite (n : Nat) (a0 : FV) : (T (n + 1)).d_opposite a0 = gcM (toF (n_opposite (T n) a0)) := rfl
theorem T_make_clause (n : Nat) (a0 : FV) : (T (n + 1)).d_make_clause a0 = gcM (toF (n_make_clause (T n) a0)) := rfl
theorem T_fill_clause (n : Nat) (a0 a1 : FV) : (T (n + 1)).d_fill_clause a0 a1 = gcM (toF (n_fill_clause (T n) a0 a1)) := rfl
theorem T_clause_text (n : Nat) (a0 : FV) : (T (n + 1)).d_clause_text a0 = gcM (toF (n_clause_text (T n) a0)) := rfl
theorem T_clause_unknowns (n : Nat) (a0 : FV) : (T (n + 1)).d_clause_unknowns a0 = gcM (toF (n_clause_unknowns (T n) a0)) := rfl
theorem T_is_ground (n : Nat) (a0 : FV) : (T (n + 1)).d_is_ground a0 = gcM (toF (n_is_ground (T n) a0)) := rfl
theorem T_always_true (n : Nat) (a0 : FV) : (T (n + 1)).d_always_true a0 = gcM (toF (n_always_true (T n) a0)) := rfl
theorem T__fill_literal (n : Nat) (a0 a1 : FV) : (T (n + 1)).d_fill_literal a0 a1 = gcM (toF (n_fill_literal (T n) a0 a1)) := rfl
theorem T__law_start (n : Nat) (a0 : FV) : (T (n + 1)).d_law_start a0 = gcM (toF (n_law_start (T n) a0)) := rfl
theorem T__law_take (n : Nat) (a0 a1 : FV) : (T (n + 1)).d_law_take a0 a1 = gcM (toF (n_law_take (T n) a0 a1)) := rfl
theorem T__law_term (n : Nat) (a0 a1 : FV) : (T (n + 1)).d_law_term a0 a1 = gcM (toF (n_law_term (T n) a0 a1)) := rfl
theorem T__law_literal (n : Nat) (a0 : FV) : (T (n + 1)).d_law_literal a0 = gcM (toF (n_law_literal (T n) a0)) := rfl
theorem T__law_text (n : Nat) (a0 : FV) : (T (n + 1)).d_law_text a0 = gcM (toF (n_law_text (T n) a0)) := rfl
theorem T__law_formed (n : Nat) (a0 : FV) : (T (n + 1)).d_law_formed a0 = gcM (toF (n_law_formed (T n) a0)) := rfl
theorem T__law_said (n : Nat) (a0 : FV) : (T (n + 1)).d_law_said a0 = gcM (toF (n_law_said (T n) a0)) := rfl
theorem T__law_clause (n : Nat) (a0 : FV) : (T (n + 1)).d_law_clause a0 = gcM (toF (n_law_clause (T n) a0)) := rfl
theorem T__law_filled (n : Nat) (a0 a1 : FV) : (T (n + 1)).d_law_filled a0 a1 = gcM (toF (n_law_filled (T n) a0 a1)) := rfl
theorem T__law_names (n : Nat) (a0 : FV) : (T (n + 1)).d_law_names a0 = gcM (toF (n_law_names (T n) a0)) := rfl
theorem T_law (n : Nat) (a0 : FV) : (T (n + 1)).d_law a0 = gcM (toF (n_law (T n) a0)) := rfl
end
end Q87

namespace Q87
open PySem PySem.Spec PyProof.Rows L2 G P

def top (i : Nat) : Stmt := PySem.Challenge.pw_worldorpaper_k87_one_form_of_a_clause.main.body.getD i (.Pass ⟨0, 0, 0, 0⟩)
section
variable {P : Program} {w : World} {K : PySem.W.Frag} {mg : Str → Option Value} {base : Heap}
/-! ### unknowns_of -/
abbrev s_unknowns_of : Stmt := top 2
abbrev N_unknowns_of : List Str := ["term", "found", "part"]
theorem sc_unknowns_of : FnScope N_unknowns_of ["term"] (defScope s_unknowns_of) := ⟨rfl, rfl, rfl, by decide +kernel, rfl, by decide +kernel, by decide +kernel⟩
theorem ok_unknowns_of {a : Addr} {fd : FuncData} {n : Nat} {t : Tab} (F : Fun K "unknowns_of" "unknowns_of" s_unknowns_of a fd) (h__all_parts : HasF P w K mg base n "_all_parts" ["term"] (f1 t.d_all_parts))  (m_isinstance : mg "isinstance" = none) (m_str : mg "str" = none) (m_list : mg "list" = none)  :
    FnOk P w K mg base (L2.CX P w) (n + 1) a fd ["term"] (spP ⟨K, mg⟩ (f1 fun v_term => toF (n_unknowns_of t v_term))) :=
  mk_fnP (nL := 2) (b := b1 (n_unknowns_of t)) F sc_unknowns_of rfl rfl (arg1 fun _ => trivial) fun cdv A outer s H E hr => by
    have tk : Tk (CxP P w K mg base N_unknowns_of "unknowns_of" (defScope s_unknowns_of) a cdv A outer s H E) (fun cls d _ H => E cls d H) := .inl (takes_of rfl rfl rfl rfl)
    have te : TkE (CxP P w K mg base N_unknowns_of "unknowns_of" (defScope s_unknowns_of) a cdv A outer s H E) (fun cls d _ H => E cls d H) := te_own (takes_of rfl rfl rfl rfl)
    have hp : PassesOwn (model P w) (CxP P w K mg base N_unknowns_of "unknowns_of" (defScope s_unknowns_of) a cdv A outer s H E).A (CxP P w K mg base N_unknowns_of "unknowns_of" (defScope s_unknowns_of) a cdv A outer s H E).env (CxP P w K mg base N_unknowns_of "unknowns_of" (defScope s_unknowns_of) a cdv A outer s H E).xe := passes_of rfl
    have hN : (CxP P w K mg base N_unknowns_of "unknowns_of" (defScope s_unknowns_of) a cdv A outer s H E).N.Nodup := sc_unknowns_of.nd
    have w0 : ∀ {Γ : Sl}, SubX none Γ := trivial
    exact arg1 fun v_term E' => (show JB _ _ _ _ _ _ _ _ (n_unknowns_of t v_term) from (jb_setD 1 w0 hN (JE.to je_d0 fun _ => rfl) (Γ' := fun found_1 => [some (.v v_term), some (.d found_1), none]) (fun found_1 => (jb_forS (A := List (Key × FV)) ((fun found_8 => [some (.v v_term), some (.d found_8), none] : (List (Key × FV)) → Sl)) found_1 (Γb := fun found_4 part_3 => [some (.v v_term), some (.d found_4), some (.v part_3)]) (hΓ := fun found_4 part_3 => rfl) w0 hp rfl (JI.to (ji_seq (je_call tk h__all_parts hr (Nat.le_refl _) (ja_cons (je_var (r := .v v_term) 0 rfl) ja_nil))) fun _ => rfl) (jg_name 2 hN) (fun found_4 part_3 => (jb_ifE w0 (JT.to (jt_val (je_isi m_isinstance m_str (je_var (r := .v part_3) 2 rfl))) fun _ => rfl) (jb_dput 1 hr w0 (JE.to (je_bl (i := true)) fun _ => rfl) (JE.to (je_var (r := .v part_3) 2 rfl) fun _ => rfl) (Γ' := fun found_7 => [some (.v v_term), some (.d found_7), some (.v part_3)]) (fun found_7 => (jb_nil (a := found_7) (.keep (.keep (.drop .nil)))))) (jb_nil (a := found_4) (.keep (.keep (.drop .nil)))))) (.keep (.keep (.keep .nil))) (fun found_8 => (jb_ret w0 (JE.to (je_list rfl m_list (je_var (r := .d found_8) 1 rfl)) fun _ => rfl)))))))
/-! ### fill_term -/
abbrev s_fill_term : Stmt := top 3
abbrev N_fill_term : List Str := ["term", "filling", "argument"]
theorem sc_fill_term : FnScope N_fill_term ["term", "filling"] (defScope s_fill_term) := ⟨rfl, rfl, rfl, by decide +kernel, rfl, by decide +kernel, by decide +kernel⟩
theorem ok_fill_term {a : Addr} {fd : FuncData} {n : Nat} {t : Tab} (F : Fun K "fill_term" "fill_term" s_fill_term a fd) (h_fill_term : HasF P w K mg base n "fill_term" ["term", "filling"] (f2 t.d_fill_term))  (m_isinstance : mg "isinstance" = none) (m_str : mg "str" = none) (m_tuple : mg "tuple" = none)  :
    FnOk P w K mg base (L2.CX P w) (n + 1) a fd ["term", "filling"] (spP ⟨K, mg⟩ (f2 fun v_term v_filling => toF (n_fill_term t v_term v_filling))) :=
  mk_fnP (nL := 1) (b := b2 (n_fill_term t)) F sc_fill_term rfl rfl (arg2 fun _ _ => trivial) fun cdv A outer s H E hr => by
    have tk : Tk (CxP P w K mg base N_fill_term "fill_term" (defScope s_fill_term) a cdv A outer s H E) (fun cls d _ H => E cls d H) := .inl (takes_of rfl rfl rfl rfl)
    have te : TkE (CxP P w K mg base N_fill_term "fill_term" (defScope s_fill_term) a cdv A outer s H E) (fun cls d _ H => E cls d H) := te_own (takes_of rfl rfl rfl rfl)
    have hp : PassesOwn (model P w) (CxP P w K mg base N_fill_term "fill_term" (defScope s_fill_term) a cdv A outer s H E).A (CxP P w K mg base N_fill_term "fill_term" (defScope s_fill_term) a cdv A outer s H E).env (CxP P w K mg base N_fill_term "fill_term" (defScope s_fill_term) a cdv A outer s H E).xe := passes_of rfl
    have hN : (CxP P w K mg base N_fill_term "fill_term" (defScope s_fill_term) a cdv A outer s H E).N.Nodup := sc_fill_term.nd
    have w0 : ∀ {Γ : Sl}, SubX none Γ := trivial
    exact arg2 fun v_term v_filling E' => (show JB _ _ _ _ _ _ _ _ (n_fill_term t v_term v_filling) from (jb_ifR w0 (JT.to (jt_val (je_isi m_isinstance m_str (je_var (r := .v v_term) 0 rfl))) fun _ => rfl) (JE.to (je_get hr (je_var (r := .v v_filling) 1 rfl) (je_var (r := .v v_term) 0 rfl) (je_var (r := .v v_term) 0 rfl)) fun _ => rfl) (jb_ret w0 (JE.to (je_add (je_sl (je_var (r := .v v_term) 0 rfl) jp_none (jp_some je_int)) (je_tuple m_tuple (je_lc [("argument", 2)] rfl hN (JI.to (ji_seq (je_sl (je_var (r := .v v_term) 0 rfl) (jp_some je_int) jp_none)) fun _ => rfl) (blkOk_by (N := N_fill_term) (sc := defScope s_fill_term) (by decide +kernel)) (jgb_name 2 (fun _ _ _ _ _ => hN)) (by decide) (fun argument_4 => fun _ _ _ _ _ => (JTs.to jts_nil fun _ => rfl)) (fun argument_4 => fun _ _ _ _ _ => (JE.to (je_call (.inr rfl) h_fill_term hr (Nat.le_refl _) (ja_cons (je_var (r := .v argument_4) 2 rfl) (ja_cons (je_var (r := .v v_filling) 1 rfl) ja_nil))) fun _ => rfl)) (hΓ := fun argument_4 => rfl) (Γc := fun argument_4 => [some (.v v_term), some (.v v_filling), some (.v argument_4)]) (t := fun argument_4 => (pur true)) (fe := fun argument_4 => (t.d_fill_term argument_4 v_filling))))) fun _ => rfl))))
/-! ### term_text -/
abbrev s_term_text : Stmt := top 4
abbrev N_term_text : List Str := ["term", "texts", "argument"]
theorem sc_term_text : FnScope N_term_text ["term"] (defScope s_term_text) := ⟨rfl, rfl, rfl, by decide +kernel, rfl, by decide +kernel, by decide +kernel⟩
theorem ok_term_text {a : Addr} {fd : FuncData} {n : Nat} {t : Tab} (F : Fun K "term_text" "term_text" s_term_text a fd) (h_term_text : HasF P w K mg base n "term_text" ["term"] (f1 t.d_term_text))  (m_isinstance : mg "isinstance" = none) (m_str : mg "str" = none) (m_len : mg "len" = none) (g_TOP : GC K mg "TOP" c_TOP) :
    FnOk P w K mg base (L2.CX P w) (n + 1) a fd ["term"] (spP ⟨K, mg⟩ (f1 fun v_term => toF (n_term_text t v_term))) :=
  mk_fnP (nL := 2) (b := b1 (n_term_text t)) F sc_term_text rfl rfl (arg1 fun _ => trivial) fun cdv A outer s H E hr => by
    have tk : Tk (CxP P w K mg base N_term_text "term_text" (defScope s_term_text) a cdv A outer s H E) (fun cls d _ H => E cls d H) := .inl (takes_of rfl rfl rfl rfl)
    have te : TkE (CxP P w K mg base N_term_text "term_text" (defScope s_term_text) a cdv A outer s H E) (fun cls d _ H => E cls d H) := te_own (takes_of rfl rfl rfl rfl)
    have hp : PassesOwn (model P w) (CxP P w K mg base N_term_text "term_text" (defScope s_term_text) a cdv A outer s H E).A (CxP P w K mg base N_term_text "term_text" (defScope s_term_text) a cdv A outer s H E).env (CxP P w K mg base N_term_text "term_text" (defScope s_term_text) a cdv A outer s H E).xe := passes_of rfl
    have hN : (CxP P w K mg base N_term_text "term_text" (defScope s_term_text) a cdv A outer s H E).N.Nodup := sc_term_text.nd
    have w0 : ∀ {Γ : Sl}, SubX none Γ := trivial
    exact arg1 fun v_term E' => (show JB _ _ _ _ _ _ _ _ (n_term_text t v_term) from (jb_ifR w0 (JT.to (jt_val (je_isi m_isinstance m_str (je_var (r := .v v_term) 0 rfl))) fun _ => rfl) (JE.to (je_var (r := .v v_term) 0 rfl) fun _ => rfl) (jb_ifR w0 (JT.to (jt_q hr (je_var (r := .v v_term) 0 rfl) (je_glob g_TOP)) fun _ => rfl) (JE.to je_str fun _ => rfl) (jb_ifR w0 (JT.to (jt_q hr (je_len m_len (je_var (r := .v v_term) 0 rfl)) je_int) fun _ => rfl) (JE.to (je_ix hr (je_var (r := .v v_term) 0 rfl) je_int) fun _ => rfl) (jb_setL 1 w0 hN (JE.to (je_lst ja_nil) fun _ => rfl) (Γ' := fun texts_6 => [some (.v v_term), some (.l texts_6), none]) (fun texts_6 => (jb_forS (A := List FV) ((fun texts_12 => [some (.v v_term), some (.l texts_12), none] : (List FV) → Sl)) texts_6 (Γb := fun texts_9 argument_8 => [some (.v v_term), some (.l texts_9), some (.v argument_8)]) (hΓ := fun texts_9 argument_8 => rfl) w0 hp rfl (JI.to (ji_seq (je_sl (je_var (r := .v v_term) 0 rfl) (jp_some je_int) jp_none)) fun _ => rfl) (jg_name 2 hN) (fun texts_9 argument_8 => (jb_append 1 w0 (JE.to (je_call tk h_term_text hr (Nat.le_refl _) (ja_cons (je_var (r := .v argument_8) 2 rfl) ja_nil)) fun _ => rfl) (Γ' := fun texts_10 => [some (.v v_term), some (.l texts_10), some (.v argument_8)]) (fun texts_10 => (jb_nil (a := texts_10) (.keep (.keep (.drop .nil))))))) (.keep (.keep (.keep .nil))) (fun texts_12 => (jb_ret w0 (JE.to (je_add (je_add (je_add (je_ix hr (je_var (r := .v v_term) 0 rfl) je_int) je_str) (je_join je_str (je_var (r := .l texts_12) 1 rfl))) je_str) fun _ => rfl))))))))))
/-! ### _arguments -/
abbrev s__arguments : Stmt := top 5
abbrev N__arguments : List Str := ["term"]
theorem sc__arguments : FnScope N__arguments ["term"] (defScope s__arguments) := ⟨rfl, rfl, rfl, by decide +kernel, rfl, by decide +kernel, by decide +kernel⟩
theorem ok__arguments {a : Addr} {fd : FuncData} {n : Nat} {t : Tab} (F : Fun K "_arguments" "_arguments" s__arguments a fd)   (m_isinstance : mg "isinstance" = none) (m_str : mg "str" = none)  :
    FnOk P w K mg base (L2.CX P w) (n + 1) a fd ["term"] (spP ⟨K, mg⟩ (f1 fun v_term => toF (n_arguments t v_term))) :=
  mk_fnP (nL := 0) (b := b1 (n_arguments t)) F sc__arguments rfl rfl (arg1 fun _ => trivial) fun cdv A outer s H E hr => by
    have tk : Tk (CxP P w K mg base N__arguments "_arguments" (defScope s__arguments) a cdv A outer s H E) (fun cls d _ H => E cls d H) := .inl (takes_of rfl rfl rfl rfl)
    have te : TkE (CxP P w K mg base N__arguments "_arguments" (defScope s__arguments) a cdv A outer s H E) (fun cls d _ H => E cls d H) := te_own (takes_of rfl rfl rfl rfl)
    have hp : PassesOwn (model P w) (CxP P w K mg base N__arguments "_arguments" (defScope s__arguments) a cdv A outer s H E).A (CxP P w K mg base N__arguments "_arguments" (defScope s__arguments) a cdv A outer s H E).env (CxP P w K mg base N__arguments "_arguments" (defScope s__arguments) a cdv A outer s H E).xe := passes_of rfl
    have hN : (CxP P w K mg base N__arguments "_arguments" (defScope s__arguments) a cdv A outer s H E).N.Nodup := sc__arguments.nd
    have w0 : ∀ {Γ : Sl}, SubX none Γ := trivial
    exact arg1 fun v_term E' => (show JB _ _ _ _ _ _ _ _ (n_arguments t v_term) from (jb_ifR w0 (JT.to (jt_val (je_isi m_isinstance m_str (je_var (r := .v v_term) 0 rfl))) fun _ => rfl) (JE.to (je_tup ja_nil) fun _ => rfl) (jb_ret w0 (JE.to (je_sl (je_var (r := .v v_term) 0 rfl) (jp_some je_int) jp_none) fun _ => rfl))))
/-! ### _all_parts -/
abbrev s__all_parts : Stmt := top 6
abbrev N__all_parts : List Str := ["term", "parts", "argument"]
theorem sc__all_parts : FnScope N__all_parts ["term"] (defScope s__all_parts) := ⟨rfl, rfl, rfl, by decide +kernel, rfl, by decide +kernel, by decide +kernel⟩
theorem ok__all_parts {a : Addr} {fd : FuncData} {n : Nat} {t : Tab} (F : Fun K "_all_parts" "_all_parts" s__all_parts a fd) (h__arguments : HasF P w K mg base n "_arguments" ["term"] (f1 t.d_arguments)) (h__all_parts : HasF P w K mg base n "_all_parts" ["term"] (f1 t.d_all_parts))    :
    FnOk P w K mg base (L2.CX P w) (n + 1) a fd ["term"] (spP ⟨K, mg⟩ (f1 fun v_term => toF (n_all_parts t v_term))) :=
  mk_fnP (nL := 2) (b := b1 (n_all_parts t)) F sc__all_parts rfl rfl (arg1 fun _ => trivial) fun cdv A outer s H E hr => by
    have tk : Tk (CxP P w K mg base N__all_parts "_all_parts" (defScope s__all_parts) a cdv A outer s H E) (fun cls d _ H => E cls d H) := .inl (takes_of rfl rfl rfl rfl)
    have te : TkE (CxP P w K mg base N__all_parts "_all_parts" (defScope s__all_parts) a cdv A outer s H E) (fun cls d _ H => E cls d H) := te_own (takes_of rfl rfl rfl rfl)
    have hp : PassesOwn (model P w) (CxP P w K mg base N__all_parts "_all_parts" (defScope s__all_parts) a cdv A outer s H E).A (CxP P w K mg base N__all_parts "_all_parts" (defScope s__all_parts) a cdv A outer s H E).env (CxP P w K mg base N__all_parts "_all_parts" (defScope s__all_parts) a cdv A outer s H E).xe := passes_of rfl
    have hN : (CxP P w K mg base N__all_parts "_all_parts" (defScope s__all_parts) a cdv A outer s H E).N.Nodup := sc__all_parts.nd
    have w0 : ∀ {Γ : Sl}, SubX none Γ := trivial
    exact arg1 fun v_term E' => (show JB _ _ _ _ _ _ _ _ (n_all_parts t v_term) from (jb_setL 1 w0 hN (JE.to (je_lst (ja_cons (je_var (r := .v v_term) 0 rfl) ja_nil)) fun _ => rfl) (Γ' := fun parts_1 => [some (.v v_term), some (.l parts_1), none]) (fun parts_1 => (jb_forS (A := List FV) ((fun parts_8 => [some (.v v_term), some (.l parts_8), none] : (List FV) → Sl)) parts_1 (Γb := fun parts_4 argument_3 => [some (.v v_term), some (.l parts_4), some (.v argument_3)]) (hΓ := fun parts_4 argument_3 => rfl) w0 hp rfl (JI.to (ji_seq (je_call tk h__arguments hr (Nat.le_refl _) (ja_cons (je_var (r := .v v_term) 0 rfl) ja_nil))) fun _ => rfl) (jg_name 2 hN) (fun parts_4 argument_3 => (jb_extend 1 w0 (JE.to (je_call tk h__all_parts hr (Nat.le_refl _) (ja_cons (je_var (r := .v argument_3) 2 rfl) ja_nil)) fun _ => rfl) (Γ' := fun parts_5 => [some (.v v_term), some (.l parts_5), some (.v argument_3)]) (fun parts_5 => (jb_nil (a := parts_5) (.keep (.keep (.drop .nil))))))) (.keep (.keep (.keep .nil))) (fun parts_8 => (jb_retS 1))))))
/-! ### make_literal -/
abbrev s_make_literal : Stmt := top 8
abbrev N_make_literal : List Str := ["sign", "left", "right"]
theorem sc_make_literal : FnScope N_make_literal ["sign", "left", "right"] (defScope s_make_literal) := ⟨rfl, rfl, rfl, by decide +kernel, rfl, by decide +kernel, by decide +kernel⟩
theorem ok_make_literal {a : Addr} {fd : FuncData} {n : Nat} {t : Tab} (F : Fun K "make_literal" "make_literal" s_make_literal a fd) (h_term_text : HasF P w K mg base n "term_text" ["term"] (f1 t.d_term_text))   (g_TOP : GC K mg "TOP" c_TOP) :
    FnOk P w K mg base (L2.CX P w) (n + 1) a fd ["sign", "left", "right"] (spP ⟨K, mg⟩ (f3 fun v_sign v_left v_right => toF (n_make_literal t v_sign v_left v_right))) :=
  mk_fnP (nL := 0) (b := b3 (n_make_literal t)) F sc_make_literal rfl rfl (arg3 fun _ _ _ => trivial) fun cdv A outer s H E hr => by
    have tk : Tk (CxP P w K mg base N_make_literal "make_literal" (defScope s_make_literal) a cdv A outer s H E) (fun cls d _ H => E cls d H) := .inl (takes_of rfl rfl rfl rfl)
    have te : TkE (CxP P w K mg base N_make_literal "make_literal" (defScope s_make_literal) a cdv A outer s H E) (fun cls d _ H => E cls d H) := te_own (takes_of rfl rfl rfl rfl)
    have hp : PassesOwn (model P w) (CxP P w K mg base N_make_literal "make_literal" (defScope s_make_literal) a cdv A outer s H E).A (CxP P w K mg base N_make_literal "make_literal" (defScope s_make_literal) a cdv A outer s H E).env (CxP P w K mg base N_make_literal "make_literal" (defScope s_make_literal) a cdv A outer s H E).xe := passes_of rfl
    have hN : (CxP P w K mg base N_make_literal "make_literal" (defScope s_make_literal) a cdv A outer s H E).N.Nodup := sc_make_literal.nd
    have w0 : ∀ {Γ : Sl}, SubX none Γ := trivial
    exact arg3 fun v_sign v_left v_right E' => (show JB _ _ _ _ _ _ _ _ (n_make_literal t v_sign v_left v_right) from (jb_ifR w0 (JT.to (jt_q hr (je_var (r := .v v_right) 2 rfl) (je_glob g_TOP)) fun _ => rfl) (JE.to (je_tup (ja_cons (je_var (r := .v v_sign) 0 rfl) (ja_cons (je_var (r := .v v_left) 1 rfl) (ja_cons (je_var (r := .v v_right) 2 rfl) ja_nil)))) fun _ => rfl) (jb_ifR w0 (JT.to (jt_bool (jw_or (jt_q hr (je_var (r := .v v_left) 1 rfl) (je_glob g_TOP)) (jw_or1 (jt_lt (je_call tk h_term_text hr (Nat.le_refl _) (ja_cons (je_var (r := .v v_right) 2 rfl) ja_nil)) (je_call tk h_term_text hr (Nat.le_refl _) (ja_cons (je_var (r := .v v_left) 1 rfl) ja_nil)))))) fun _ => rfl) (JE.to (je_tup (ja_cons (je_var (r := .v v_sign) 0 rfl) (ja_cons (je_var (r := .v v_right) 2 rfl) (ja_cons (je_var (r := .v v_left) 1 rfl) ja_nil)))) fun _ => rfl) (jb_ret w0 (JE.to (je_tup (ja_cons (je_var (r := .v v_sign) 0 rfl) (ja_cons (je_var (r := .v v_left) 1 rfl) (ja_cons (je_var (r := .v v_right) 2 rfl) ja_nil)))) fun _ => rfl)))))
/-! ### literal_text -/
abbrev s_literal_text : Stmt := top 9
abbrev N_literal_text : List Str := ["literal", "sign", "left", "right", "mark"]
theorem sc_literal_text : FnScope N_literal_text ["literal"] (defScope s_literal_text) := ⟨rfl, rfl, rfl, by decide +kernel, rfl, by decide +kernel, by decide +kernel⟩
theorem ok_literal_text {a : Addr} {fd : FuncData} {n : Nat} {t : Tab} (F : Fun K "literal_text" "literal_text" s_literal_text a fd) (h_term_text : HasF P w K mg base n "term_text" ["term"] (f1 t.d_term_text))   (g_TOP : GC K mg "TOP" c_TOP) :
    FnOk P w K mg base (L2.CX P w) (n + 1) a fd ["literal"] (spP ⟨K, mg⟩ (f1 fun v_literal => toF (n_literal_text t v_literal))) :=
  mk_fnP (nL := 4) (b := b1 (n_literal_text t)) F sc_literal_text rfl rfl (arg1 fun _ => trivial) fun cdv A outer s H E hr => by
    have tk : Tk (CxP P w K mg base N_literal_text "literal_text" (defScope s_literal_text) a cdv A outer s H E) (fun cls d _ H => E cls d H) := .inl (takes_of rfl rfl rfl rfl)
    have te : TkE (CxP P w K mg base N_literal_text "literal_text" (defScope s_literal_text) a cdv A outer s H E) (fun cls d _ H => E cls d H) := te_own (takes_of rfl rfl rfl rfl)
    have hp : PassesOwn (model P w) (CxP P w K mg base N_literal_text "literal_text" (defScope s_literal_text) a cdv A outer s H E).A (CxP P w K mg base N_literal_text "literal_text" (defScope s_literal_text) a cdv A outer s H E).env (CxP P w K mg base N_literal_text "literal_text" (defScope s_literal_text) a cdv A outer s H E).xe := passes_of rfl
    have hN : (CxP P w K mg base N_literal_text "literal_text" (defScope s_literal_text) a cdv A outer s H E).N.Nodup := sc_literal_text.nd
    have w0 : ∀ {Γ : Sl}, SubX none Γ := trivial
    exact arg1 fun v_literal E' => (show JB _ _ _ _ _ _ _ _ (n_literal_text t v_literal) from (jb_asgT w0 (jg_tup rfl (jg_cons (jg_name 1 hN) (jg_cons (jg_name 2 hN) (jg_cons (jg_name 3 hN) jg_nil)))) (JE.to (je_var (r := .v v_literal) 0 rfl) fun _ => rfl) (Γ' := fun | (sign_3, (left_2, (right_1, ()))) => [some (.v v_literal), some (.v sign_3), some (.v left_2), some (.v right_1), none]) (hΓ := fun | (sign_3, (left_2, (right_1, ()))) => rfl) (fun | (sign_3, (left_2, (right_1, ()))) => (jb_ifR w0 (JT.to (jt_bool (jw_and (jt_q hr (je_var (r := .v right_1) 3 rfl) (je_glob g_TOP)) (jw_and1 (jt_nq hr (je_var (r := .v left_2) 2 rfl) (je_glob g_TOP))))) fun _ => rfl) (JE.to (je_ifE (jt_val (je_var (r := .v sign_3) 1 rfl)) (je_call tk h_term_text hr (Nat.le_refl _) (ja_cons (je_var (r := .v left_2) 2 rfl) ja_nil)) (je_add je_str (je_call tk h_term_text hr (Nat.le_refl _) (ja_cons (je_var (r := .v left_2) 2 rfl) ja_nil)))) fun _ => rfl) (jb_set 4 w0 hN (JE.to (je_ifE (jt_val (je_var (r := .v sign_3) 1 rfl)) je_str je_str) fun _ => rfl) (Γ' := fun mark_8 => [some (.v v_literal), some (.v sign_3), some (.v left_2), some (.v right_1), some (.v mark_8)]) (fun mark_8 => (jb_ret w0 (JE.to (je_add (je_add (je_call tk h_term_text hr (Nat.le_refl _) (ja_cons (je_var (r := .v left_2) 2 rfl) ja_nil)) (je_var (r := .v mark_8) 4 rfl)) (je_call tk h_term_text hr (Nat.le_refl _) (ja_cons (je_var (r := .v right_1) 3 rfl) ja_nil))) fun _ => rfl))))))))
/-! ### opposite -/
abbrev s_opposite : Stmt := top 10
abbrev N_opposite : List Str := ["literal", "sign", "left", "right"]
theorem sc_opposite : FnScope N_opposite ["literal"] (defScope s_opposite) := ⟨rfl, rfl, rfl, by decide +kernel, rfl, by decide +kernel, by decide +kernel⟩
theorem ok_opposite {a : Addr} {fd : FuncData} {n : Nat} {t : Tab} (F : Fun K "opposite" "opposite" s_opposite a fd)     :
    FnOk P w K mg base (L2.CX P w) (n + 1) a fd ["literal"] (spP ⟨K, mg⟩ (f1 fun v_literal => toF (n_opposite t v_literal))) :=
  mk_fnP (nL := 3) (b := b1 (n_opposite t)) F sc_opposite rfl rfl (arg1 fun _ => trivial) fun cdv A outer s H E hr => by
    have tk : Tk (CxP P w K mg base N_opposite "opposite" (defScope s_opposite) a cdv A outer s H E) (fun cls d _ H => E cls d H) := .inl (takes_of rfl rfl rfl rfl)
    have te : TkE (CxP P w K mg base N_opposite "opposite" (defScope s_opposite) a cdv A outer s H E) (fun cls d _ H => E cls d H) := te_own (takes_of rfl rfl rfl rfl)
    have hp : PassesOwn (model P w) (CxP P w K mg base N_opposite "opposite" (defScope s_opposite) a cdv A outer s H E).A (CxP P w K mg base N_opposite "opposite" (defScope s_opposite) a cdv A outer s H E).env (CxP P w K mg base N_opposite "opposite" (defScope s_opposite) a cdv A outer s H E).xe := passes_of rfl
    have hN : (CxP P w K mg base N_opposite "opposite" (defScope s_opposite) a cdv A outer s H E).N.Nodup := sc_opposite.nd
    have w0 : ∀ {Γ : Sl}, SubX none Γ := trivial
    exact arg1 fun v_literal E' => (show JB _ _ _ _ _ _ _ _ (n_opposite t v_literal) from (jb_asgT w0 (jg_tup rfl (jg_cons (jg_name 1 hN) (jg_cons (jg_name 2 hN) (jg_cons (jg_name 3 hN) jg_nil)))) (JE.to (je_var (r := .v v_literal) 0 rfl) fun _ => rfl) (Γ' := fun | (sign_3, (left_2, (right_1, ()))) => [some (.v v_literal), some (.v sign_3), some (.v left_2), some (.v right_1)]) (hΓ := fun | (sign_3, (left_2, (right_1, ()))) => rfl) (fun | (sign_3, (left_2, (right_1, ()))) => (jb_ret w0 (JE.to (je_tup (ja_cons (je_not (je_var (r := .v sign_3) 1 rfl)) (ja_cons (je_var (r := .v left_2) 2 rfl) (ja_cons (je_var (r := .v right_1) 3 rfl) ja_nil)))) fun _ => rfl)))))
/-! ### make_clause -/
abbrev s_make_clause : Stmt := top 11
abbrev N_make_clause : List Str := ["literals", "clause", "literal"]
theorem sc_make_clause : FnScope N_make_clause ["literals"] (defScope s_make_clause) := ⟨rfl, rfl, rfl, by decide +kernel, rfl, by decide +kernel, by decide +kernel⟩
theorem ok_make_clause {a : Addr} {fd : FuncData} {n : Nat} {t : Tab} (F : Fun K "make_clause" "make_clause" s_make_clause a fd) (h_literal_text : HasF P w K mg base n "literal_text" ["literal"] (f1 t.d_literal_text))  (m_sorted : mg "sorted" = none) (m_tuple : mg "tuple" = none)  :
    FnOk P w K mg base (L2.CX P w) (n + 1 + 1) a fd ["literals"] (spP ⟨K, mg⟩ (f1 fun v_literals => toF (n_make_clause t v_literals))) :=
  mk_fnP (nL := 2) (b := b1 (n_make_clause t)) F sc_make_clause rfl rfl (arg1 fun _ => trivial) fun cdv A outer s H E hr => by
    have tk : Tk (CxP P w K mg base N_make_clause "make_clause" (defScope s_make_clause) a cdv A outer s H E) (fun cls d _ H => E cls d H) := .inl (takes_of rfl rfl rfl rfl)
    have te : TkE (CxP P w K mg base N_make_clause "make_clause" (defScope s_make_clause) a cdv A outer s H E) (fun cls d _ H => E cls d H) := te_own (takes_of rfl rfl rfl rfl)
    have hp : PassesOwn (model P w) (CxP P w K mg base N_make_clause "make_clause" (defScope s_make_clause) a cdv A outer s H E).A (CxP P w K mg base N_make_clause "make_clause" (defScope s_make_clause) a cdv A outer s H E).env (CxP P w K mg base N_make_clause "make_clause" (defScope s_make_clause) a cdv A outer s H E).xe := passes_of rfl
    have hN : (CxP P w K mg base N_make_clause "make_clause" (defScope s_make_clause) a cdv A outer s H E).N.Nodup := sc_make_clause.nd
    have w0 : ∀ {Γ : Sl}, SubX none Γ := trivial
    exact arg1 fun v_literals E' => (show JB _ _ _ _ _ _ _ _ (n_make_clause t v_literals) from (jb_setL 1 w0 hN (JE.to (je_lst ja_nil) fun _ => rfl) (Γ' := fun clause_1 => [some (.v v_literals), some (.l clause_1), none]) (fun clause_1 => (jb_forS (A := List FV) ((fun clause_7 => [some (.v v_literals), some (.l clause_7), none] : (List FV) → Sl)) clause_1 (Γb := fun clause_4 literal_3 => [some (.v v_literals), some (.l clause_4), some (.v literal_3)]) (hΓ := fun clause_4 literal_3 => rfl) w0 hp rfl (JI.to (ji_seq (je_sortK h_literal_text hr m_sorted (je_var (r := .v v_literals) 0 rfl))) fun _ => rfl) (jg_name 2 hN) (fun clause_4 literal_3 => (jb_ifE w0 (JT.to (jt_nmx hr (je_var (r := .v literal_3) 2 rfl) (je_var (r := .l clause_4) 1 rfl)) fun _ => rfl) (jb_append 1 w0 (JE.to (je_var (r := .v literal_3) 2 rfl) fun _ => rfl) (Γ' := fun clause_6 => [some (.v v_literals), some (.l clause_6), some (.v literal_3)]) (fun clause_6 => (jb_nil (a := clause_6) (.keep (.keep (.drop .nil)))))) (jb_nil (a := clause_4) (.keep (.keep (.drop .nil)))))) (.keep (.keep (.keep .nil))) (fun clause_7 => (jb_ret w0 (JE.to (je_tuple m_tuple (je_var (r := .l clause_7) 1 rfl)) fun _ => rfl)))))))
/-! ### fill_clause -/
abbrev s_fill_clause : Stmt := top 12
abbrev N_fill_clause : List Str := ["clause", "filling", "literal"]
theorem sc_fill_clause : FnScope N_fill_clause ["clause", "filling"] (defScope s_fill_clause) := ⟨rfl, rfl, rfl, by decide +kernel, rfl, by decide +kernel, by decide +kernel⟩
theorem ok_fill_clause {a : Addr} {fd : FuncData} {n : Nat} {t : Tab} (F : Fun K "fill_clause" "fill_clause" s_fill_clause a fd) (h_make_clause : HasF P w K mg base n "make_clause" ["literals"] (f1 t.d_make_clause)) (h__fill_literal : HasF P w K mg base n "_fill_literal" ["literal", "filling"] (f2 t.d_fill_literal))    :
    FnOk P w K mg base (L2.CX P w) (n + 1) a fd ["clause", "filling"] (spP ⟨K, mg⟩ (f2 fun v_clause v_filling => toF (n_fill_clause t v_clause v_filling))) :=
  mk_fnP (nL := 1) (b := b2 (n_fill_clause t)) F sc_fill_clause rfl rfl (arg2 fun _ _ => trivial) fun cdv A outer s H E hr => by
    have tk : Tk (CxP P w K mg base N_fill_clause "fill_clause" (defScope s_fill_clause) a cdv A outer s H E) (fun cls d _ H => E cls d H) := .inl (takes_of rfl rfl rfl rfl)
    have te : TkE (CxP P w K mg base N_fill_clause "fill_clause" (defScope s_fill_clause) a cdv A outer s H E) (fun cls d _ H => E cls d H) := te_own (takes_of rfl rfl rfl rfl)
    have hp : PassesOwn (model P w) (CxP P w K mg base N_fill_clause "fill_clause" (defScope s_fill_clause) a cdv A outer s H E).A (CxP P w K mg base N_fill_clause "fill_clause" (defScope s_fill_clause) a cdv A outer s H E).env (CxP P w K mg base N_fill_clause "fill_clause" (defScope s_fill_clause) a cdv A outer s H E).xe := passes_of rfl
    have hN : (CxP P w K mg base N_fill_clause "fill_clause" (defScope s_fill_clause) a cdv A outer s H E).N.Nodup := sc_fill_clause.nd
    have w0 : ∀ {Γ : Sl}, SubX none Γ := trivial
    exact arg2 fun v_clause v_filling E' => (show JB _ _ _ _ _ _ _ _ (n_fill_clause t v_clause v_filling) from (jb_ret w0 (JE.to (je_call tk h_make_clause hr (Nat.le_refl _) (ja_cons (je_lc [("literal", 2)] rfl hN (JI.to (ji_seq (je_var (r := .v v_clause) 0 rfl)) fun _ => rfl) (blkOk_by (N := N_fill_clause) (sc := defScope s_fill_clause) (by decide +kernel)) (jgb_name 2 (fun _ _ _ _ _ => hN)) (by decide) (fun literal_1 => fun _ _ _ _ _ => (JTs.to jts_nil fun _ => rfl)) (fun literal_1 => fun _ _ _ _ _ => (JE.to (je_call (.inr rfl) h__fill_literal hr (Nat.le_refl _) (ja_cons (je_var (r := .v literal_1) 2 rfl) (ja_cons (je_var (r := .v v_filling) 1 rfl) ja_nil))) fun _ => rfl)) (hΓ := fun literal_1 => rfl) (Γc := fun literal_1 => [some (.v v_clause), some (.v v_filling), some (.v literal_1)]) (t := fun literal_1 => (pur true)) (fe := fun literal_1 => (t.d_fill_literal literal_1 v_filling))) ja_nil)) fun _ => rfl)))
/-! ### clause_text -/
abbrev s_clause_text : Stmt := top 13
abbrev N_clause_text : List Str := ["clause", "literal"]
theorem sc_clause_text : FnScope N_clause_text ["clause"] (defScope s_clause_text) := ⟨rfl, rfl, rfl, by decide +kernel, rfl, by decide +kernel, by decide +kernel⟩
theorem ok_clause_text {a : Addr} {fd : FuncData} {n : Nat} {t : Tab} (F : Fun K "clause_text" "clause_text" s_clause_text a fd) (h_literal_text : HasF P w K mg base n "literal_text" ["literal"] (f1 t.d_literal_text))  (m_len : mg "len" = none)  :
    FnOk P w K mg base (L2.CX P w) (n + 1) a fd ["clause"] (spP ⟨K, mg⟩ (f1 fun v_clause => toF (n_clause_text t v_clause))) :=
  mk_fnP (nL := 1) (b := b1 (n_clause_text t)) F sc_clause_text rfl rfl (arg1 fun _ => trivial) fun cdv A outer s H E hr => by
    have tk : Tk (CxP P w K mg base N_clause_text "clause_text" (defScope s_clause_text) a cdv A outer s H E) (fun cls d _ H => E cls d H) := .inl (takes_of rfl rfl rfl rfl)
    have te : TkE (CxP P w K mg base N_clause_text "clause_text" (defScope s_clause_text) a cdv A outer s H E) (fun cls d _ H => E cls d H) := te_own (takes_of rfl rfl rfl rfl)
    have hp : PassesOwn (model P w) (CxP P w K mg base N_clause_text "clause_text" (defScope s_clause_text) a cdv A outer s H E).A (CxP P w K mg base N_clause_text "clause_text" (defScope s_clause_text) a cdv A outer s H E).env (CxP P w K mg base N_clause_text "clause_text" (defScope s_clause_text) a cdv A outer s H E).xe := passes_of rfl
    have hN : (CxP P w K mg base N_clause_text "clause_text" (defScope s_clause_text) a cdv A outer s H E).N.Nodup := sc_clause_text.nd
    have w0 : ∀ {Γ : Sl}, SubX none Γ := trivial
    exact arg1 fun v_clause E' => (show JB _ _ _ _ _ _ _ _ (n_clause_text t v_clause) from (jb_ifR w0 (JT.to (jt_q hr (je_len m_len (je_var (r := .v v_clause) 0 rfl)) je_int) fun _ => rfl) (JE.to je_str fun _ => rfl) (jb_ret w0 (JE.to (je_join je_str (je_lc [("literal", 1)] rfl hN (JI.to (ji_seq (je_var (r := .v v_clause) 0 rfl)) fun _ => rfl) (blkOk_by (N := N_clause_text) (sc := defScope s_clause_text) (by decide +kernel)) (jgb_name 1 (fun _ _ _ _ _ => hN)) (by decide) (fun literal_3 => fun _ _ _ _ _ => (JTs.to jts_nil fun _ => rfl)) (fun literal_3 => fun _ _ _ _ _ => (JE.to (je_call (.inr rfl) h_literal_text hr (Nat.le_refl _) (ja_cons (je_var (r := .v literal_3) 1 rfl) ja_nil)) fun _ => rfl)) (hΓ := fun literal_3 => rfl) (Γc := fun literal_3 => [some (.v v_clause), some (.v literal_3)]) (t := fun literal_3 => (pur true)) (fe := fun literal_3 => (t.d_literal_text literal_3)))) fun _ => rfl))))
/-! ### clause_unknowns -/
abbrev s_clause_unknowns : Stmt := top 14
abbrev N_clause_unknowns : List Str := ["clause", "found", "_", "left", "right", "name"]
theorem sc_clause_unknowns : FnScope N_clause_unknowns ["clause"] (defScope s_clause_unknowns) := ⟨rfl, rfl, rfl, by decide +kernel, rfl, by decide +kernel, by decide +kernel⟩
theorem ok_clause_unknowns {a : Addr} {fd : FuncData} {n : Nat} {t : Tab} (F : Fun K "clause_unknowns" "clause_unknowns" s_clause_unknowns a fd) (h_unknowns_of : HasF P w K mg base n "unknowns_of" ["term"] (f1 t.d_unknowns_of))  (m_list : mg "list" = none)  :
    FnOk P w K mg base (L2.CX P w) (n + 1) a fd ["clause"] (spP ⟨K, mg⟩ (f1 fun v_clause => toF (n_clause_unknowns t v_clause))) :=
  mk_fnP (nL := 5) (b := b1 (n_clause_unknowns t)) F sc_clause_unknowns rfl rfl (arg1 fun _ => trivial) fun cdv A outer s H E hr => by
    have tk : Tk (CxP P w K mg base N_clause_unknowns "clause_unknowns" (defScope s_clause_unknowns) a cdv A outer s H E) (fun cls d _ H => E cls d H) := .inl (takes_of rfl rfl rfl rfl)
    have te : TkE (CxP P w K mg base N_clause_unknowns "clause_unknowns" (defScope s_clause_unknowns) a cdv A outer s H E) (fun cls d _ H => E cls d H) := te_own (takes_of rfl rfl rfl rfl)
    have hp : PassesOwn (model P w) (CxP P w K mg base N_clause_unknowns "clause_unknowns" (defScope s_clause_unknowns) a cdv A outer s H E).A (CxP P w K mg base N_clause_unknowns "clause_unknowns" (defScope s_clause_unknowns) a cdv A outer s H E).env (CxP P w K mg base N_clause_unknowns "clause_unknowns" (defScope s_clause_unknowns) a cdv A outer s H E).xe := passes_of rfl
    have hN : (CxP P w K mg base N_clause_unknowns "clause_unknowns" (defScope s_clause_unknowns) a cdv A outer s H E).N.Nodup := sc_clause_unknowns.nd
    have w0 : ∀ {Γ : Sl}, SubX none Γ := trivial
    exact arg1 fun v_clause E' => (show JB _ _ _ _ _ _ _ _ (n_clause_unknowns t v_clause) from (jb_setD 1 w0 hN (JE.to je_d0 fun _ => rfl) (Γ' := fun found_1 => [some (.v v_clause), some (.d found_1), none, none, none, none]) (fun found_1 => (jb_for (A := List (Key × FV)) ((fun found_14 => [some (.v v_clause), some (.d found_14), none, none, none, none] : (List (Key × FV)) → Sl)) found_1 (Γb := fun | found_5, (_4, (left_3, (right_2, ()))) => [some (.v v_clause), some (.d found_5), some (.v _4), some (.v left_3), some (.v right_2), none]) (hΓ := fun | found_5, (_4, (left_3, (right_2, ()))) => rfl) w0 hp rfl (JI.to (ji_seq (je_var (r := .v v_clause) 0 rfl)) fun _ => rfl) (jg_tup rfl (jg_cons (jg_name 2 hN) (jg_cons (jg_name 3 hN) (jg_cons (jg_name 4 hN) jg_nil)))) (fun | found_5, (_4, (left_3, (right_2, ()))) => (jb_forS (A := List (Key × FV)) ((fun found_12 => [some (.v v_clause), some (.d found_12), some (.v _4), some (.v left_3), some (.v right_2), none] : (List (Key × FV)) → Sl)) found_5 (Γb := fun found_10 name_9 => [some (.v v_clause), some (.d found_10), some (.v _4), some (.v left_3), some (.v right_2), some (.v name_9)]) (hΓ := fun found_10 name_9 => rfl) w0 hp rfl (JI.to (ji_seq (je_add (je_call tk h_unknowns_of hr (Nat.le_refl _) (ja_cons (je_var (r := .v left_3) 3 rfl) ja_nil)) (je_call tk h_unknowns_of hr (Nat.le_refl _) (ja_cons (je_var (r := .v right_2) 4 rfl) ja_nil)))) fun _ => rfl) (jg_name 5 hN) (fun found_10 name_9 => (jb_dput 1 hr w0 (JE.to (je_bl (i := true)) fun _ => rfl) (JE.to (je_var (r := .v name_9) 5 rfl) fun _ => rfl) (Γ' := fun found_11 => [some (.v v_clause), some (.d found_11), some (.v _4), some (.v left_3), some (.v right_2), some (.v name_9)]) (fun found_11 => (jb_nil (a := found_11) (.keep (.keep (.keep (.keep (.keep (.drop .nil)))))))))) (.keep (.keep (.keep (.keep (.keep (.keep .nil)))))) (fun found_12 => (jb_nil (a := found_12) (.keep (.keep (.drop (.drop (.drop (.keep .nil)))))))))) (.keep (.keep (.keep (.keep (.keep (.keep .nil)))))) (fun found_14 => (jb_ret w0 (JE.to (je_list rfl m_list (je_var (r := .d found_14) 1 rfl)) fun _ => rfl)))))))
/-! ### is_ground -/
abbrev s_is_ground : Stmt := top 15
abbrev N_is_ground : List Str := ["clause"]
theorem sc_is_ground : FnScope N_is_ground ["clause"] (defScope s_is_ground) := ⟨rfl, rfl, rfl, by decide +kernel, rfl, by decide +kernel, by decide +kernel⟩
theorem ok_is_ground {a : Addr} {fd : FuncData} {n : Nat} {t : Tab} (F : Fun K "is_ground" "is_ground" s_is_ground a fd) (h_clause_unknowns : HasF P w K mg base n "clause_unknowns" ["clause"] (f1 t.d_clause_unknowns))  (m_len : mg "len" = none)  :
    FnOk P w K mg base (L2.CX P w) (n + 1) a fd ["clause"] (spP ⟨K, mg⟩ (f1 fun v_clause => toF (n_is_ground t v_clause))) :=
  mk_fnP (nL := 0) (b := b1 (n_is_ground t)) F sc_is_ground rfl rfl (arg1 fun _ => trivial) fun cdv A outer s H E hr => by
    have tk : Tk (CxP P w K mg base N_is_ground "is_ground" (defScope s_is_ground) a cdv A outer s H E) (fun cls d _ H => E cls d H) := .inl (takes_of rfl rfl rfl rfl)
    have te : TkE (CxP P w K mg base N_is_ground "is_ground" (defScope s_is_ground) a cdv A outer s H E) (fun cls d _ H => E cls d H) := te_own (takes_of rfl rfl rfl rfl)
    have hp : PassesOwn (model P w) (CxP P w K mg base N_is_ground "is_ground" (defScope s_is_ground) a cdv A outer s H E).A (CxP P w K mg base N_is_ground "is_ground" (defScope s_is_ground) a cdv A outer s H E).env (CxP P w K mg base N_is_ground "is_ground" (defScope s_is_ground) a cdv A outer s H E).xe := passes_of rfl
    have hN : (CxP P w K mg base N_is_ground "is_ground" (defScope s_is_ground) a cdv A outer s H E).N.Nodup := sc_is_ground.nd
    have w0 : ∀ {Γ : Sl}, SubX none Γ := trivial
    exact arg1 fun v_clause E' => (show JB _ _ _ _ _ _ _ _ (n_is_ground t v_clause) from (jb_ret w0 (JE.to (je_q hr (je_len m_len (je_call tk h_clause_unknowns hr (Nat.le_refl _) (ja_cons (je_var (r := .v v_clause) 0 rfl) ja_nil))) je_int) fun _ => rfl)))
/-! ### always_true -/
abbrev s_always_true : Stmt := top 16
abbrev N_always_true : List Str := ["clause", "literal", "sign", "left", "right"]
theorem sc_always_true : FnScope N_always_true ["clause"] (defScope s_always_true) := ⟨rfl, rfl, rfl, by decide +kernel, rfl, by decide +kernel, by decide +kernel⟩
theorem ok_always_true {a : Addr} {fd : FuncData} {n : Nat} {t : Tab} (F : Fun K "always_true" "always_true" s_always_true a fd) (h_opposite : HasF P w K mg base n "opposite" ["literal"] (f1 t.d_opposite))    :
    FnOk P w K mg base (L2.CX P w) (n + 1) a fd ["clause"] (spP ⟨K, mg⟩ (f1 fun v_clause => toF (n_always_true t v_clause))) :=
  mk_fnP (nL := 4) (b := b1 (n_always_true t)) F sc_always_true rfl rfl (arg1 fun _ => trivial) fun cdv A outer s H E hr => by
    have tk : Tk (CxP P w K mg base N_always_true "always_true" (defScope s_always_true) a cdv A outer s H E) (fun cls d _ H => E cls d H) := .inl (takes_of rfl rfl rfl rfl)
    have te : TkE (CxP P w K mg base N_always_true "always_true" (defScope s_always_true) a cdv A outer s H E) (fun cls d _ H => E cls d H) := te_own (takes_of rfl rfl rfl rfl)
    have hp : PassesOwn (model P w) (CxP P w K mg base N_always_true "always_true" (defScope s_always_true) a cdv A outer s H E).A (CxP P w K mg base N_always_true "always_true" (defScope s_always_true) a cdv A outer s H E).env (CxP P w K mg base N_always_true "always_true" (defScope s_always_true) a cdv A outer s H E).xe := passes_of rfl
    have hN : (CxP P w K mg base N_always_true "always_true" (defScope s_always_true) a cdv A outer s H E).N.Nodup := sc_always_true.nd
    have w0 : ∀ {Γ : Sl}, SubX none Γ := trivial
    exact arg1 fun v_clause E' => (show JB _ _ _ _ _ _ _ _ (n_always_true t v_clause) from (jb_forS (A := Unit) ((fun _ => [some (.v v_clause), none, none, none, none] : (Unit) → Sl)) () (Γb := fun _ literal_1 => [some (.v v_clause), some (.v literal_1), none, none, none]) (hΓ := fun _ literal_1 => rfl) w0 hp rfl (JI.to (ji_seq (je_var (r := .v v_clause) 0 rfl)) fun _ => rfl) (jg_name 1 hN) (fun _ literal_1 => (jb_asgT w0 (jg_tup rfl (jg_cons (jg_name 2 hN) (jg_cons (jg_name 3 hN) (jg_cons (jg_name 4 hN) jg_nil)))) (JE.to (je_var (r := .v literal_1) 1 rfl) fun _ => rfl) (Γ' := fun | (sign_4, (left_3, (right_2, ()))) => [some (.v v_clause), some (.v literal_1), some (.v sign_4), some (.v left_3), some (.v right_2)]) (hΓ := fun | (sign_4, (left_3, (right_2, ()))) => rfl) (fun | (sign_4, (left_3, (right_2, ()))) => (jb_ifR w0 (JT.to (jt_bool (jw_and (jt_val (je_var (r := .v sign_4) 2 rfl)) (jw_and1 (jt_q hr (je_var (r := .v left_3) 3 rfl) (je_var (r := .v right_2) 4 rfl))))) fun _ => rfl) (JE.to (je_bl (i := true)) fun _ => rfl) (jb_ifE w0 (JT.to (jt_mx hr (je_call tk h_opposite hr (Nat.le_refl _) (ja_cons (je_var (r := .v literal_1) 1 rfl) ja_nil)) (je_var (r := .v v_clause) 0 rfl)) fun _ => rfl) (jb_ret w0 (JE.to (je_bl (i := true)) fun _ => rfl)) (jb_nil (a := ()) (.keep (.drop (.drop (.drop (.drop .nil))))))))))) (.keep (.keep (.keep (.keep (.keep .nil))))) (fun _ => (jb_ret w0 (JE.to (je_bl (i := false)) fun _ => rfl)))))
/-! ### _fill_literal -/
abbrev s__fill_literal : Stmt := top 17
abbrev N__fill_literal : List Str := ["literal", "filling", "sign", "left", "right"]
theorem sc__fill_literal : FnScope N__fill_literal ["literal", "filling"] (defScope s__fill_literal) := ⟨rfl, rfl, rfl, by decide +kernel, rfl, by decide +kernel, by decide +kernel⟩
theorem ok__fill_literal {a : Addr} {fd : FuncData} {n : Nat} {t : Tab} (F : Fun K "_fill_literal" "_fill_literal" s__fill_literal a fd) (h_make_literal : HasF P w K mg base n "make_literal" ["sign", "left", "right"] (f3 t.d_make_literal)) (h_fill_term : HasF P w K mg base n "fill_term" ["term", "filling"] (f2 t.d_fill_term))    :
    FnOk P w K mg base (L2.CX P w) (n + 1) a fd ["literal", "filling"] (spP ⟨K, mg⟩ (f2 fun v_literal v_filling => toF (n_fill_literal t v_literal v_filling))) :=
  mk_fnP (nL := 3) (b := b2 (n_fill_literal t)) F sc__fill_literal rfl rfl (arg2 fun _ _ => trivial) fun cdv A outer s H E hr => by
    have tk : Tk (CxP P w K mg base N__fill_literal "_fill_literal" (defScope s__fill_literal) a cdv A outer s H E) (fun cls d _ H => E cls d H) := .inl (takes_of rfl rfl rfl rfl)
    have te : TkE (CxP P w K mg base N__fill_literal "_fill_literal" (defScope s__fill_literal) a cdv A outer s H E) (fun cls d _ H => E cls d H) := te_own (takes_of rfl rfl rfl rfl)
    have hp : PassesOwn (model P w) (CxP P w K mg base N__fill_literal "_fill_literal" (defScope s__fill_literal) a cdv A outer s H E).A (CxP P w K mg base N__fill_literal "_fill_literal" (defScope s__fill_literal) a cdv A outer s H E).env (CxP P w K mg base N__fill_literal "_fill_literal" (defScope s__fill_literal) a cdv A outer s H E).xe := passes_of rfl
    have hN : (CxP P w K mg base N__fill_literal "_fill_literal" (defScope s__fill_literal) a cdv A outer s H E).N.Nodup := sc__fill_literal.nd
    have w0 : ∀ {Γ : Sl}, SubX none Γ := trivial
    exact arg2 fun v_literal v_filling E' => (show JB _ _ _ _ _ _ _ _ (n_fill_literal t v_literal v_filling) from (jb_asgT w0 (jg_tup rfl (jg_cons (jg_name 2 hN) (jg_cons (jg_name 3 hN) (jg_cons (jg_name 4 hN) jg_nil)))) (JE.to (je_var (r := .v v_literal) 0 rfl) fun _ => rfl) (Γ' := fun | (sign_3, (left_2, (right_1, ()))) => [some (.v v_literal), some (.v v_filling), some (.v sign_3), some (.v left_2), some (.v right_1)]) (hΓ := fun | (sign_3, (left_2, (right_1, ()))) => rfl) (fun | (sign_3, (left_2, (right_1, ()))) => (jb_ret w0 (JE.to (je_call tk h_make_literal hr (Nat.le_refl _) (ja_cons (je_var (r := .v sign_3) 2 rfl) (ja_cons (je_call tk h_fill_term hr (Nat.le_refl _) (ja_cons (je_var (r := .v left_2) 3 rfl) (ja_cons (je_var (r := .v v_filling) 1 rfl) ja_nil))) (ja_cons (je_call tk h_fill_term hr (Nat.le_refl _) (ja_cons (je_var (r := .v right_1) 4 rfl) (ja_cons (je_var (r := .v v_filling) 1 rfl) ja_nil))) ja_nil)))) fun _ => rfl)))))
/-! ### _law_start -/
abbrev s__law_start : Stmt := top 19
abbrev N__law_start : List Str := ["_law_script", "_law_row", "_law_seed", "_law_k", "_law_cell", "_law_j", "_law_mixed"]
theorem sc__law_start : FnScope N__law_start ["_law_script"] (defScope s__law_start) := ⟨rfl, rfl, rfl, by decide +kernel, rfl, by decide +kernel, by decide +kernel⟩
theorem ok__law_start {a : Addr} {fd : FuncData} {n : Nat} {t : Tab} (F : Fun K "_law_start" "_law_start" s__law_start a fd)   (m_range : mg "range" = none) (m_len : mg "len" = none) (m_abs : mg "abs" = none) (m_int : mg "int" = none)  :
    FnOk P w K mg base (L2.CX P w) (n + 1) a fd ["_law_script"] (spP ⟨K, mg⟩ (f1 fun v_law_script => toF (n_law_start t v_law_script))) :=
  mk_fnP (nL := 6) (b := b1 (n_law_start t)) F sc__law_start rfl rfl (arg1 fun _ => trivial) fun cdv A outer s H E hr => by
    have tk : Tk (CxP P w K mg base N__law_start "_law_start" (defScope s__law_start) a cdv A outer s H E) (fun cls d _ H => E cls d H) := .inl (takes_of rfl rfl rfl rfl)
    have te : TkE (CxP P w K mg base N__law_start "_law_start" (defScope s__law_start) a cdv A outer s H E) (fun cls d _ H => E cls d H) := te_own (takes_of rfl rfl rfl rfl)
    have hp : PassesOwn (model P w) (CxP P w K mg base N__law_start "_law_start" (defScope s__law_start) a cdv A outer s H E).A (CxP P w K mg base N__law_start "_law_start" (defScope s__law_start) a cdv A outer s H E).env (CxP P w K mg base N__law_start "_law_start" (defScope s__law_start) a cdv A outer s H E).xe := passes_of rfl
    have hN : (CxP P w K mg base N__law_start "_law_start" (defScope s__law_start) a cdv A outer s H E).N.Nodup := sc__law_start.nd
    have w0 : ∀ {Γ : Sl}, SubX none Γ := trivial
    exact arg1 fun v_law_script E' => (show JB _ _ _ _ _ _ _ _ (n_law_start t v_law_script) from (jb_setL 1 w0 hN (JE.to (je_lst ja_nil) fun _ => rfl) (Γ' := fun law_row_1 => [some (.v v_law_script), some (.l law_row_1), none, none, none, none, none]) (fun law_row_1 => (jb_set 2 w0 hN (JE.to je_int fun _ => rfl) (Γ' := fun law_seed_2 => [some (.v v_law_script), some (.l law_row_1), some (.v law_seed_2), none, none, none, none]) (fun law_seed_2 => (jb_forS (A := List FV × FV) ((fun | (law_row_42, law_seed_43) => [some (.v v_law_script), some (.l law_row_42), some (.v law_seed_43), none, none, none, none] : (List FV × FV) → Sl)) (law_row_1, law_seed_2) (Γb := fun | (law_row_5, law_seed_6), law_k_4 => [some (.v v_law_script), some (.l law_row_5), some (.v law_seed_6), some (.v law_k_4), none, none, none]) (hΓ := fun | (law_row_5, law_seed_6), law_k_4 => rfl) w0 hp rfl (JI.to (ji_range1 m_range (je_len m_len (je_var (r := .v v_law_script) 0 rfl))) fun _ => rfl) (jg_name 3 hN) (fun | (law_row_5, law_seed_6), law_k_4 => (jb_set 4 w0 hN (JE.to (je_abs m_abs (je_ix hr (je_var (r := .v v_law_script) 0 rfl) (je_var (r := .v law_k_4) 3 rfl))) fun _ => rfl) (Γ' := fun law_cell_8 => [some (.v v_law_script), some (.l law_row_5), some (.v law_seed_6), some (.v law_k_4), some (.v law_cell_8), none, none]) (fun law_cell_8 => (jb_set 2 w0 hN (JE.to (je_mod (je_int1 m_int (je_add (je_add (je_mul (je_var (r := .v law_seed_6) 2 rfl) je_int) (je_var (r := .v law_cell_8) 4 rfl)) (je_var (r := .v law_k_4) 3 rfl))) je_int) fun _ => rfl) (Γ' := fun law_seed_13 => [some (.v v_law_script), some (.l law_row_5), some (.v law_seed_13), some (.v law_k_4), some (.v law_cell_8), none, none]) (fun law_seed_13 => (jb_ifE w0 (JT.to (jt_ge (je_var (r := .v law_cell_8) 4 rfl) (je_pow je_int je_int)) fun _ => rfl) (jb_set 4 w0 hN (JE.to (je_sub (je_var (r := .v law_cell_8) 4 rfl) (je_pow je_int je_int)) fun _ => rfl) (Γ' := fun law_cell_17 => [some (.v v_law_script), some (.l law_row_5), some (.v law_seed_13), some (.v law_k_4), some (.v law_cell_17), none, none]) (fun law_cell_17 => (jb_forS (A := List FV × FV) ((fun | (law_row_26, law_cell_27) => [some (.v v_law_script), some (.l law_row_26), some (.v law_seed_13), some (.v law_k_4), some (.v law_cell_27), none, none] : (List FV × FV) → Sl)) (law_row_5, law_cell_17) (Γb := fun | (law_row_19, law_cell_20), law_j_18 => [some (.v v_law_script), some (.l law_row_19), some (.v law_seed_13), some (.v law_k_4), some (.v law_cell_20), some (.v law_j_18), none]) (hΓ := fun | (law_row_19, law_cell_20), law_j_18 => rfl) w0 hp rfl (JI.to (ji_range1 m_range je_int) fun _ => rfl) (jg_name 5 hN) (fun | (law_row_19, law_cell_20), law_j_18 => (jb_ifE w0 (JT.to (jt_gt (je_var (r := .v law_cell_20) 4 rfl) je_int) fun _ => rfl) (jb_append 1 w0 (JE.to (je_mod (je_int1 m_int (je_var (r := .v law_cell_20) 4 rfl)) je_int) fun _ => rfl) (Γ' := fun law_row_22 => [some (.v v_law_script), some (.l law_row_22), some (.v law_seed_13), some (.v law_k_4), some (.v law_cell_20), some (.v law_j_18), none]) (fun law_row_22 => (jb_set 4 w0 hN (JE.to (je_div (je_var (r := .v law_cell_20) 4 rfl) je_int) fun _ => rfl) (Γ' := fun law_cell_24 => [some (.v v_law_script), some (.l law_row_22), some (.v law_seed_13), some (.v law_k_4), some (.v law_cell_24), some (.v law_j_18), none]) (fun law_cell_24 => (jb_nil (a := (law_row_22, law_cell_24)) (.keep (.keep (.keep (.keep (.keep (.drop (.keep .nil)))))))))))) (jb_nil (a := (law_row_19, law_cell_20)) (.keep (.keep (.keep (.keep (.keep (.drop (.keep .nil)))))))))) (.keep (.keep (.keep (.keep (.keep (.keep (.keep .nil))))))) (fun | (law_row_26, law_cell_27) => (jb_nil (a := (law_row_26, law_seed_13)) (.keep (.keep (.keep (.drop (.drop (.keep (.keep .nil)))))))))))) (jb_set 6 w0 hN (JE.to (je_mod (je_int1 m_int (je_add (je_mul (je_add (je_var (r := .v law_cell_8) 4 rfl) je_int) je_int) (je_mul (je_var (r := .v law_k_4) 3 rfl) je_int))) je_int) fun _ => rfl) (Γ' := fun law_mixed_34 => [some (.v v_law_script), some (.l law_row_5), some (.v law_seed_13), some (.v law_k_4), some (.v law_cell_8), none, some (.v law_mixed_34)]) (fun law_mixed_34 => (jb_set 6 w0 hN (JE.to (je_mod (je_int1 m_int (je_add (je_mul (je_var (r := .v law_mixed_34) 6 rfl) je_int) je_int)) je_int) fun _ => rfl) (Γ' := fun law_mixed_38 => [some (.v v_law_script), some (.l law_row_5), some (.v law_seed_13), some (.v law_k_4), some (.v law_cell_8), none, some (.v law_mixed_38)]) (fun law_mixed_38 => (jb_append 1 w0 (JE.to (je_mod (je_div (je_var (r := .v law_mixed_38) 6 rfl) je_int) je_int) fun _ => rfl) (Γ' := fun law_row_39 => [some (.v v_law_script), some (.l law_row_39), some (.v law_seed_13), some (.v law_k_4), some (.v law_cell_8), none, some (.v law_mixed_38)]) (fun law_row_39 => (jb_nil (a := (law_row_39, law_seed_13)) (.keep (.keep (.keep (.drop (.drop (.keep (.drop .nil)))))))))))))))))))) (.keep (.keep (.keep (.keep (.keep (.keep (.keep .nil))))))) (fun | (law_row_42, law_seed_43) => (jb_frz 1 (r := (.l law_row_42)) (d := (.fl law_row_42)) rfl rfl (Γ' := [some (.v v_law_script), some (.v (.fl law_row_42)), some (.v law_seed_43), none, none, none, none]) (jb_ret w0 (JE.to (je_lst (ja_cons (je_var (r := .v (.fl law_row_42)) 1 rfl) (ja_cons je_int (ja_cons (je_var (r := .v law_seed_43) 2 rfl) ja_nil)))) fun _ => rfl))))))))))
/-! ### _law_take -/
abbrev s__law_take : Stmt := top 20
abbrev N__law_take : List Str := ["_law_state", "_law_many", "_law_at", "_law_mixed"]
theorem sc__law_take : FnScope N__law_take ["_law_state", "_law_many"] (defScope s__law_take) := ⟨rfl, rfl, rfl, by decide +kernel, rfl, by decide +kernel, by decide +kernel⟩
theorem ok__law_take {a : Addr} {fd : FuncData} {n : Nat} {t : Tab} (F : Fun K "_law_take" "_law_take" s__law_take a fd)   (m_len : mg "len" = none) (m_int : mg "int" = none)  :
    FnOk P w K mg base (L2.CX P w) (n + 1) a fd ["_law_state", "_law_many"] (spP ⟨K, mg⟩ (f2 fun v_law_state v_law_many => toF (n_law_take t v_law_state v_law_many))) :=
  mk_fnP (nL := 2) (b := b2 (n_law_take t)) F sc__law_take rfl rfl (arg2 fun _ _ => trivial) fun cdv A outer s H E hr => by
    have tk : Tk (CxP P w K mg base N__law_take "_law_take" (defScope s__law_take) a cdv A outer s H E) (fun cls d _ H => E cls d H) := .inl (takes_of rfl rfl rfl rfl)
    have te : TkE (CxP P w K mg base N__law_take "_law_take" (defScope s__law_take) a cdv A outer s H E) (fun cls d _ H => E cls d H) := te_own (takes_of rfl rfl rfl rfl)
    have hp : PassesOwn (model P w) (CxP P w K mg base N__law_take "_law_take" (defScope s__law_take) a cdv A outer s H E).A (CxP P w K mg base N__law_take "_law_take" (defScope s__law_take) a cdv A outer s H E).env (CxP P w K mg base N__law_take "_law_take" (defScope s__law_take) a cdv A outer s H E).xe := passes_of rfl
    have hN : (CxP P w K mg base N__law_take "_law_take" (defScope s__law_take) a cdv A outer s H E).N.Nodup := sc__law_take.nd
    have w0 : ∀ {Γ : Sl}, SubX none Γ := trivial
    exact arg2 fun v_law_state v_law_many E' => (show JB _ _ _ _ _ _ _ _ (n_law_take t v_law_state v_law_many) from (jb_set 2 w0 hN (JE.to (je_ix hr (je_var (r := .v v_law_state) 0 rfl) je_int) fun _ => rfl) (Γ' := fun law_at_1 => [some (.v v_law_state), some (.v v_law_many), some (.v law_at_1), none]) (fun law_at_1 => (jb_put hr w0 (JE.to (je_add (je_var (r := .v law_at_1) 2 rfl) je_int) fun _ => rfl) (JE.to (je_var (r := .v v_law_state) 0 rfl) fun _ => rfl) (JE.to je_int fun _ => rfl) (jb_ifR w0 (JT.to (jt_lt (je_var (r := .v law_at_1) 2 rfl) (je_len m_len (je_ix hr (je_var (r := .v v_law_state) 0 rfl) je_int))) fun _ => rfl) (JE.to (je_mod (je_int1 m_int (je_ix hr (je_ix hr (je_var (r := .v v_law_state) 0 rfl) je_int) (je_var (r := .v law_at_1) 2 rfl))) (je_var (r := .v v_law_many) 1 rfl)) fun _ => rfl) (jb_set 3 w0 hN (JE.to (je_mod (je_int1 m_int (je_mul (je_add (je_ix hr (je_var (r := .v v_law_state) 0 rfl) je_int) (je_mul (je_var (r := .v law_at_1) 2 rfl) je_int)) je_int)) je_int) fun _ => rfl) (Γ' := fun law_mixed_13 => [some (.v v_law_state), some (.v v_law_many), some (.v law_at_1), some (.v law_mixed_13)]) (fun law_mixed_13 => (jb_set 3 w0 hN (JE.to (je_mod (je_int1 m_int (je_add (je_mul (je_var (r := .v law_mixed_13) 3 rfl) je_int) (je_mul (je_var (r := .v law_at_1) 2 rfl) (je_var (r := .v law_at_1) 2 rfl)))) je_int) fun _ => rfl) (Γ' := fun law_mixed_18 => [some (.v v_law_state), some (.v v_law_many), some (.v law_at_1), some (.v law_mixed_18)]) (fun law_mixed_18 => (jb_ret w0 (JE.to (je_mod (je_div (je_var (r := .v law_mixed_18) 3 rfl) je_int) (je_var (r := .v v_law_many) 1 rfl)) fun _ => rfl)))))))))))
/-! ### _law_term -/
abbrev s__law_term : Stmt := top 21
abbrev N__law_term : List Str := ["_law_state", "_law_depth", "_law_kind", "_law_leaves"]
theorem sc__law_term : FnScope N__law_term ["_law_state", "_law_depth"] (defScope s__law_term) := ⟨rfl, rfl, rfl, by decide +kernel, rfl, by decide +kernel, by decide +kernel⟩
theorem ok__law_term {a : Addr} {fd : FuncData} {n : Nat} {t : Tab} (F : Fun K "_law_term" "_law_term" s__law_term a fd) (h__law_take : HasF P w K mg base n "_law_take" ["_law_state", "_law_many"] (f2 t.d_law_take)) (h__law_term : HasF P w K mg base n "_law_term" ["_law_state", "_law_depth"] (f2 t.d_law_term))    :
    FnOk P w K mg base (L2.CX P w) (n + 1) a fd ["_law_state", "_law_depth"] (spP ⟨K, mg⟩ (f2 fun v_law_state v_law_depth => toF (n_law_term t v_law_state v_law_depth))) :=
  mk_fnP (nL := 2) (b := b2 (n_law_term t)) F sc__law_term rfl rfl (arg2 fun _ _ => trivial) fun cdv A outer s H E hr => by
    have tk : Tk (CxP P w K mg base N__law_term "_law_term" (defScope s__law_term) a cdv A outer s H E) (fun cls d _ H => E cls d H) := .inl (takes_of rfl rfl rfl rfl)
    have te : TkE (CxP P w K mg base N__law_term "_law_term" (defScope s__law_term) a cdv A outer s H E) (fun cls d _ H => E cls d H) := te_own (takes_of rfl rfl rfl rfl)
    have hp : PassesOwn (model P w) (CxP P w K mg base N__law_term "_law_term" (defScope s__law_term) a cdv A outer s H E).A (CxP P w K mg base N__law_term "_law_term" (defScope s__law_term) a cdv A outer s H E).env (CxP P w K mg base N__law_term "_law_term" (defScope s__law_term) a cdv A outer s H E).xe := passes_of rfl
    have hN : (CxP P w K mg base N__law_term "_law_term" (defScope s__law_term) a cdv A outer s H E).N.Nodup := sc__law_term.nd
    have w0 : ∀ {Γ : Sl}, SubX none Γ := trivial
    exact arg2 fun v_law_state v_law_depth E' => (show JB _ _ _ _ _ _ _ _ (n_law_term t v_law_state v_law_depth) from (jb_set 2 w0 hN (JE.to (je_call tk h__law_take hr (Nat.le_refl _) (ja_cons (je_var (r := .v v_law_state) 0 rfl) (ja_cons je_int ja_nil))) fun _ => rfl) (Γ' := fun law_kind_1 => [some (.v v_law_state), some (.v v_law_depth), some (.v law_kind_1), none]) (fun law_kind_1 => (jb_ifL (eE := eN) w0 (JT.to (jt_bool (jw_or (jt_q hr (je_var (r := .v v_law_depth) 1 rfl) je_int) (jw_or1 (jt_lt (je_var (r := .v law_kind_1) 2 rfl) je_int)))) fun _ => rfl) (jb_set 3 w0 hN (JE.to (je_lst (ja_cons je_str (ja_cons je_str (ja_cons (je_tup (ja_cons je_str ja_nil)) (ja_cons (je_tup (ja_cons je_str ja_nil)) ja_nil))))) fun _ => rfl) (Γ' := fun law_leaves_5 => [some (.v v_law_state), some (.v v_law_depth), some (.v law_kind_1), some (.v law_leaves_5)]) (fun law_leaves_5 => (jb_ret w0 (JE.to (je_ix hr (je_var (r := .v law_leaves_5) 3 rfl) (je_call tk h__law_take hr (Nat.le_refl _) (ja_cons (je_var (r := .v v_law_state) 0 rfl) (ja_cons je_int ja_nil)))) fun _ => rfl)))) (jb_ret w0 (JE.to (je_tup (ja_cons je_str (ja_cons (je_call tk h__law_term hr (Nat.le_refl _) (ja_cons (je_var (r := .v v_law_state) 0 rfl) (ja_cons (je_sub (je_var (r := .v v_law_depth) 1 rfl) je_int) ja_nil))) ja_nil))) fun _ => rfl))))))
/-! ### _law_literal -/
abbrev s__law_literal : Stmt := top 22
abbrev N__law_literal : List Str := ["_law_state", "_law_kind", "_law_sign"]
theorem sc__law_literal : FnScope N__law_literal ["_law_state"] (defScope s__law_literal) := ⟨rfl, rfl, rfl, by decide +kernel, rfl, by decide +kernel, by decide +kernel⟩
theorem ok__law_literal {a : Addr} {fd : FuncData} {n : Nat} {t : Tab} (F : Fun K "_law_literal" "_law_literal" s__law_literal a fd) (h__law_take : HasF P w K mg base n "_law_take" ["_law_state", "_law_many"] (f2 t.d_law_take)) (h__law_term : HasF P w K mg base n "_law_term" ["_law_state", "_law_depth"] (f2 t.d_law_term))   (g_TOP : GC K mg "TOP" c_TOP) :
    FnOk P w K mg base (L2.CX P w) (n + 1) a fd ["_law_state"] (spP ⟨K, mg⟩ (f1 fun v_law_state => toF (n_law_literal t v_law_state))) :=
  mk_fnP (nL := 2) (b := b1 (n_law_literal t)) F sc__law_literal rfl rfl (arg1 fun _ => trivial) fun cdv A outer s H E hr => by
    have tk : Tk (CxP P w K mg base N__law_literal "_law_literal" (defScope s__law_literal) a cdv A outer s H E) (fun cls d _ H => E cls d H) := .inl (takes_of rfl rfl rfl rfl)
    have te : TkE (CxP P w K mg base N__law_literal "_law_literal" (defScope s__law_literal) a cdv A outer s H E) (fun cls d _ H => E cls d H) := te_own (takes_of rfl rfl rfl rfl)
    have hp : PassesOwn (model P w) (CxP P w K mg base N__law_literal "_law_literal" (defScope s__law_literal) a cdv A outer s H E).A (CxP P w K mg base N__law_literal "_law_literal" (defScope s__law_literal) a cdv A outer s H E).env (CxP P w K mg base N__law_literal "_law_literal" (defScope s__law_literal) a cdv A outer s H E).xe := passes_of rfl
    have hN : (CxP P w K mg base N__law_literal "_law_literal" (defScope s__law_literal) a cdv A outer s H E).N.Nodup := sc__law_literal.nd
    have w0 : ∀ {Γ : Sl}, SubX none Γ := trivial
    exact arg1 fun v_law_state E' => (show JB _ _ _ _ _ _ _ _ (n_law_literal t v_law_state) from (jb_set 1 w0 hN (JE.to (je_call tk h__law_take hr (Nat.le_refl _) (ja_cons (je_var (r := .v v_law_state) 0 rfl) (ja_cons je_int ja_nil))) fun _ => rfl) (Γ' := fun law_kind_1 => [some (.v v_law_state), some (.v law_kind_1), none]) (fun law_kind_1 => (jb_set 2 w0 hN (JE.to (je_q hr (je_call tk h__law_take hr (Nat.le_refl _) (ja_cons (je_var (r := .v v_law_state) 0 rfl) (ja_cons je_int ja_nil))) je_int) fun _ => rfl) (Γ' := fun law_sign_3 => [some (.v v_law_state), some (.v law_kind_1), some (.v law_sign_3)]) (fun law_sign_3 => (jb_ifR w0 (JT.to (jt_q hr (je_var (r := .v law_kind_1) 1 rfl) je_int) fun _ => rfl) (JE.to (je_tup (ja_cons (je_var (r := .v law_sign_3) 2 rfl) (ja_cons (je_tup (ja_cons je_str ja_nil)) (ja_cons (je_glob g_TOP) ja_nil)))) fun _ => rfl) (jb_ifR w0 (JT.to (jt_q hr (je_var (r := .v law_kind_1) 1 rfl) je_int) fun _ => rfl) (JE.to (je_tup (ja_cons (je_var (r := .v law_sign_3) 2 rfl) (ja_cons (je_tup (ja_cons je_str (ja_cons (je_call tk h__law_term hr (Nat.le_refl _) (ja_cons (je_var (r := .v v_law_state) 0 rfl) (ja_cons je_int ja_nil))) ja_nil))) (ja_cons (je_glob g_TOP) ja_nil)))) fun _ => rfl) (jb_ifR w0 (JT.to (jt_q hr (je_var (r := .v law_kind_1) 1 rfl) je_int) fun _ => rfl) (JE.to (je_tup (ja_cons (je_var (r := .v law_sign_3) 2 rfl) (ja_cons (je_tup (ja_cons je_str (ja_cons (je_call tk h__law_term hr (Nat.le_refl _) (ja_cons (je_var (r := .v v_law_state) 0 rfl) (ja_cons je_int ja_nil))) (ja_cons (je_call tk h__law_term hr (Nat.le_refl _) (ja_cons (je_var (r := .v v_law_state) 0 rfl) (ja_cons je_int ja_nil))) ja_nil)))) (ja_cons (je_glob g_TOP) ja_nil)))) fun _ => rfl) (jb_ret w0 (JE.to (je_tup (ja_cons (je_var (r := .v law_sign_3) 2 rfl) (ja_cons (je_call tk h__law_term hr (Nat.le_refl _) (ja_cons (je_var (r := .v v_law_state) 0 rfl) (ja_cons je_int ja_nil))) (ja_cons (je_call tk h__law_term hr (Nat.le_refl _) (ja_cons (je_var (r := .v v_law_state) 0 rfl) (ja_cons je_int ja_nil))) ja_nil)))) fun _ => rfl))))))))))
/-! ### _law_text -/
abbrev s__law_text : Stmt := top 23
abbrev N__law_text : List Str := ["_law_term_here", "_law_part"]
theorem sc__law_text : FnScope N__law_text ["_law_term_here"] (defScope s__law_text) := ⟨rfl, rfl, rfl, by decide +kernel, rfl, by decide +kernel, by decide +kernel⟩
theorem ok__law_text {a : Addr} {fd : FuncData} {n : Nat} {t : Tab} (F : Fun K "_law_text" "_law_text" s__law_text a fd) (h__law_text : HasF P w K mg base n "_law_text" ["_law_term_here"] (f1 t.d_law_text))  (m_isinstance : mg "isinstance" = none) (m_str : mg "str" = none) (m_len : mg "len" = none)  :
    FnOk P w K mg base (L2.CX P w) (n + 1) a fd ["_law_term_here"] (spP ⟨K, mg⟩ (f1 fun v_law_term_here => toF (n_law_text t v_law_term_here))) :=
  mk_fnP (nL := 1) (b := b1 (n_law_text t)) F sc__law_text rfl rfl (arg1 fun _ => trivial) fun cdv A outer s H E hr => by
    have tk : Tk (CxP P w K mg base N__law_text "_law_text" (defScope s__law_text) a cdv A outer s H E) (fun cls d _ H => E cls d H) := .inl (takes_of rfl rfl rfl rfl)
    have te : TkE (CxP P w K mg base N__law_text "_law_text" (defScope s__law_text) a cdv A outer s H E) (fun cls d _ H => E cls d H) := te_own (takes_of rfl rfl rfl rfl)
    have hp : PassesOwn (model P w) (CxP P w K mg base N__law_text "_law_text" (defScope s__law_text) a cdv A outer s H E).A (CxP P w K mg base N__law_text "_law_text" (defScope s__law_text) a cdv A outer s H E).env (CxP P w K mg base N__law_text "_law_text" (defScope s__law_text) a cdv A outer s H E).xe := passes_of rfl
    have hN : (CxP P w K mg base N__law_text "_law_text" (defScope s__law_text) a cdv A outer s H E).N.Nodup := sc__law_text.nd
    have w0 : ∀ {Γ : Sl}, SubX none Γ := trivial
    exact arg1 fun v_law_term_here E' => (show JB _ _ _ _ _ _ _ _ (n_law_text t v_law_term_here) from (jb_ifR w0 (JT.to (jt_val (je_isi m_isinstance m_str (je_var (r := .v v_law_term_here) 0 rfl))) fun _ => rfl) (JE.to (je_var (r := .v v_law_term_here) 0 rfl) fun _ => rfl) (jb_ifR w0 (JT.to (jt_q hr (je_len m_len (je_var (r := .v v_law_term_here) 0 rfl)) je_int) fun _ => rfl) (JE.to (je_ix hr (je_var (r := .v v_law_term_here) 0 rfl) je_int) fun _ => rfl) (jb_ret w0 (JE.to (je_add (je_add (je_add (je_ix hr (je_var (r := .v v_law_term_here) 0 rfl) je_int) je_str) (je_join je_str (je_lc [("_law_part", 1)] rfl hN (JI.to (ji_seq (je_sl (je_var (r := .v v_law_term_here) 0 rfl) (jp_some je_int) jp_none)) fun _ => rfl) (blkOk_by (N := N__law_text) (sc := defScope s__law_text) (by decide +kernel)) (jgb_name 1 (fun _ _ _ _ _ => hN)) (by decide) (fun law_part_7 => fun _ _ _ _ _ => (JTs.to jts_nil fun _ => rfl)) (fun law_part_7 => fun _ _ _ _ _ => (JE.to (je_call (.inr rfl) h__law_text hr (Nat.le_refl _) (ja_cons (je_var (r := .v law_part_7) 1 rfl) ja_nil)) fun _ => rfl)) (hΓ := fun law_part_7 => rfl) (Γc := fun law_part_7 => [some (.v v_law_term_here), some (.v law_part_7)]) (t := fun law_part_7 => (pur true)) (fe := fun law_part_7 => (t.d_law_text law_part_7))))) je_str) fun _ => rfl)))))
/-! ### _law_formed -/
abbrev s__law_formed : Stmt := top 24
abbrev N__law_formed : List Str := ["_law_literal_here", "_law_sign", "_law_left", "_law_right"]
theorem sc__law_formed : FnScope N__law_formed ["_law_literal_here"] (defScope s__law_formed) := ⟨rfl, rfl, rfl, by decide +kernel, rfl, by decide +kernel, by decide +kernel⟩
theorem ok__law_formed {a : Addr} {fd : FuncData} {n : Nat} {t : Tab} (F : Fun K "_law_formed" "_law_formed" s__law_formed a fd) (h__law_text : HasF P w K mg base n "_law_text" ["_law_term_here"] (f1 t.d_law_text))   (g_TOP : GC K mg "TOP" c_TOP) :
    FnOk P w K mg base (L2.CX P w) (n + 1) a fd ["_law_literal_here"] (spP ⟨K, mg⟩ (f1 fun v_law_literal_here => toF (n_law_formed t v_law_literal_here))) :=
  mk_fnP (nL := 3) (b := b1 (n_law_formed t)) F sc__law_formed rfl rfl (arg1 fun _ => trivial) fun cdv A outer s H E hr => by
    have tk : Tk (CxP P w K mg base N__law_formed "_law_formed" (defScope s__law_formed) a cdv A outer s H E) (fun cls d _ H => E cls d H) := .inl (takes_of rfl rfl rfl rfl)
    have te : TkE (CxP P w K mg base N__law_formed "_law_formed" (defScope s__law_formed) a cdv A outer s H E) (fun cls d _ H => E cls d H) := te_own (takes_of rfl rfl rfl rfl)
    have hp : PassesOwn (model P w) (CxP P w K mg base N__law_formed "_law_formed" (defScope s__law_formed) a cdv A outer s H E).A (CxP P w K mg base N__law_formed "_law_formed" (defScope s__law_formed) a cdv A outer s H E).env (CxP P w K mg base N__law_formed "_law_formed" (defScope s__law_formed) a cdv A outer s H E).xe := passes_of rfl
    have hN : (CxP P w K mg base N__law_formed "_law_formed" (defScope s__law_formed) a cdv A outer s H E).N.Nodup := sc__law_formed.nd
    have w0 : ∀ {Γ : Sl}, SubX none Γ := trivial
    exact arg1 fun v_law_literal_here E' => (show JB _ _ _ _ _ _ _ _ (n_law_formed t v_law_literal_here) from (jb_asgT w0 (jg_tup rfl (jg_cons (jg_name 1 hN) (jg_cons (jg_name 2 hN) (jg_cons (jg_name 3 hN) jg_nil)))) (JE.to (je_var (r := .v v_law_literal_here) 0 rfl) fun _ => rfl) (Γ' := fun | (law_sign_3, (law_left_2, (law_right_1, ()))) => [some (.v v_law_literal_here), some (.v law_sign_3), some (.v law_left_2), some (.v law_right_1)]) (hΓ := fun | (law_sign_3, (law_left_2, (law_right_1, ()))) => rfl) (fun | (law_sign_3, (law_left_2, (law_right_1, ()))) => (jb_ifR w0 (JT.to (jt_bool (jw_and (jt_nq hr (je_var (r := .v law_right_1) 3 rfl) (je_glob g_TOP)) (jw_and1 (jt_lt (je_call tk h__law_text hr (Nat.le_refl _) (ja_cons (je_var (r := .v law_right_1) 3 rfl) ja_nil)) (je_call tk h__law_text hr (Nat.le_refl _) (ja_cons (je_var (r := .v law_left_2) 2 rfl) ja_nil)))))) fun _ => rfl) (JE.to (je_tup (ja_cons (je_var (r := .v law_sign_3) 1 rfl) (ja_cons (je_var (r := .v law_right_1) 3 rfl) (ja_cons (je_var (r := .v law_left_2) 2 rfl) ja_nil)))) fun _ => rfl) (jb_ret w0 (JE.to (je_tup (ja_cons (je_var (r := .v law_sign_3) 1 rfl) (ja_cons (je_var (r := .v law_left_2) 2 rfl) (ja_cons (je_var (r := .v law_right_1) 3 rfl) ja_nil)))) fun _ => rfl))))))
/-! ### _law_said -/
abbrev s__law_said : Stmt := top 25
abbrev N__law_said : List Str := ["_law_literal_here", "_law_sign", "_law_left", "_law_right"]
theorem sc__law_said : FnScope N__law_said ["_law_literal_here"] (defScope s__law_said) := ⟨rfl, rfl, rfl, by decide +kernel, rfl, by decide +kernel, by decide +kernel⟩
theorem ok__law_said {a : Addr} {fd : FuncData} {n : Nat} {t : Tab} (F : Fun K "_law_said" "_law_said" s__law_said a fd) (h__law_text : HasF P w K mg base n "_law_text" ["_law_term_here"] (f1 t.d_law_text))   (g_TOP : GC K mg "TOP" c_TOP) :
    FnOk P w K mg base (L2.CX P w) (n + 1) a fd ["_law_literal_here"] (spP ⟨K, mg⟩ (f1 fun v_law_literal_here => toF (n_law_said t v_law_literal_here))) :=
  mk_fnP (nL := 3) (b := b1 (n_law_said t)) F sc__law_said rfl rfl (arg1 fun _ => trivial) fun cdv A outer s H E hr => by
    have tk : Tk (CxP P w K mg base N__law_said "_law_said" (defScope s__law_said) a cdv A outer s H E) (fun cls d _ H => E cls d H) := .inl (takes_of rfl rfl rfl rfl)
    have te : TkE (CxP P w K mg base N__law_said "_law_said" (defScope s__law_said) a cdv A outer s H E) (fun cls d _ H => E cls d H) := te_own (takes_of rfl rfl rfl rfl)
    have hp : PassesOwn (model P w) (CxP P w K mg base N__law_said "_law_said" (defScope s__law_said) a cdv A outer s H E).A (CxP P w K mg base N__law_said "_law_said" (defScope s__law_said) a cdv A outer s H E).env (CxP P w K mg base N__law_said "_law_said" (defScope s__law_said) a cdv A outer s H E).xe := passes_of rfl
    have hN : (CxP P w K mg base N__law_said "_law_said" (defScope s__law_said) a cdv A outer s H E).N.Nodup := sc__law_said.nd
    have w0 : ∀ {Γ : Sl}, SubX none Γ := trivial
    exact arg1 fun v_law_literal_here E' => (show JB _ _ _ _ _ _ _ _ (n_law_said t v_law_literal_here) from (jb_asgT w0 (jg_tup rfl (jg_cons (jg_name 1 hN) (jg_cons (jg_name 2 hN) (jg_cons (jg_name 3 hN) jg_nil)))) (JE.to (je_var (r := .v v_law_literal_here) 0 rfl) fun _ => rfl) (Γ' := fun | (law_sign_3, (law_left_2, (law_right_1, ()))) => [some (.v v_law_literal_here), some (.v law_sign_3), some (.v law_left_2), some (.v law_right_1)]) (hΓ := fun | (law_sign_3, (law_left_2, (law_right_1, ()))) => rfl) (fun | (law_sign_3, (law_left_2, (law_right_1, ()))) => (jb_ifL (eE := eN) w0 (JT.to (jt_q hr (je_var (r := .v law_right_1) 3 rfl) (je_glob g_TOP)) fun _ => rfl) (jb_ifR w0 (JT.to (jt_val (je_var (r := .v law_sign_3) 1 rfl)) fun _ => rfl) (JE.to (je_call tk h__law_text hr (Nat.le_refl _) (ja_cons (je_var (r := .v law_left_2) 2 rfl) ja_nil)) fun _ => rfl) (jb_ret w0 (JE.to (je_add je_str (je_call tk h__law_text hr (Nat.le_refl _) (ja_cons (je_var (r := .v law_left_2) 2 rfl) ja_nil))) fun _ => rfl))) (jb_ifR w0 (JT.to (jt_val (je_var (r := .v law_sign_3) 1 rfl)) fun _ => rfl) (JE.to (je_add (je_add (je_call tk h__law_text hr (Nat.le_refl _) (ja_cons (je_var (r := .v law_left_2) 2 rfl) ja_nil)) je_str) (je_call tk h__law_text hr (Nat.le_refl _) (ja_cons (je_var (r := .v law_right_1) 3 rfl) ja_nil))) fun _ => rfl) (jb_ret w0 (JE.to (je_add (je_add (je_call tk h__law_text hr (Nat.le_refl _) (ja_cons (je_var (r := .v law_left_2) 2 rfl) ja_nil)) je_str) (je_call tk h__law_text hr (Nat.le_refl _) (ja_cons (je_var (r := .v law_right_1) 3 rfl) ja_nil))) fun _ => rfl)))))))
/-! ### _law_clause -/
abbrev s__law_clause : Stmt := top 26
abbrev N__law_clause : List Str := ["_law_literals", "_law_row", "_law_literal_here", "_law_formed_here"]
theorem sc__law_clause : FnScope N__law_clause ["_law_literals"] (defScope s__law_clause) := ⟨rfl, rfl, rfl, by decide +kernel, rfl, by decide +kernel, by decide +kernel⟩
theorem ok__law_clause {a : Addr} {fd : FuncData} {n : Nat} {t : Tab} (F : Fun K "_law_clause" "_law_clause" s__law_clause a fd) (h__law_formed : HasF P w K mg base n "_law_formed" ["_law_literal_here"] (f1 t.d_law_formed)) (h__law_said : HasF P w K mg base n "_law_said" ["_law_literal_here"] (f1 t.d_law_said))  (m_tuple : mg "tuple" = none) (m_sorted : mg "sorted" = none)  :
    FnOk P w K mg base (L2.CX P w) (n + 1 + 1) a fd ["_law_literals"] (spP ⟨K, mg⟩ (f1 fun v_law_literals => toF (n_law_clause t v_law_literals))) :=
  mk_fnP (nL := 3) (b := b1 (n_law_clause t)) F sc__law_clause rfl rfl (arg1 fun _ => trivial) fun cdv A outer s H E hr => by
    have tk : Tk (CxP P w K mg base N__law_clause "_law_clause" (defScope s__law_clause) a cdv A outer s H E) (fun cls d _ H => E cls d H) := .inl (takes_of rfl rfl rfl rfl)
    have te : TkE (CxP P w K mg base N__law_clause "_law_clause" (defScope s__law_clause) a cdv A outer s H E) (fun cls d _ H => E cls d H) := te_own (takes_of rfl rfl rfl rfl)
    have hp : PassesOwn (model P w) (CxP P w K mg base N__law_clause "_law_clause" (defScope s__law_clause) a cdv A outer s H E).A (CxP P w K mg base N__law_clause "_law_clause" (defScope s__law_clause) a cdv A outer s H E).env (CxP P w K mg base N__law_clause "_law_clause" (defScope s__law_clause) a cdv A outer s H E).xe := passes_of rfl
    have hN : (CxP P w K mg base N__law_clause "_law_clause" (defScope s__law_clause) a cdv A outer s H E).N.Nodup := sc__law_clause.nd
    have w0 : ∀ {Γ : Sl}, SubX none Γ := trivial
    exact arg1 fun v_law_literals E' => (show JB _ _ _ _ _ _ _ _ (n_law_clause t v_law_literals) from (jb_setL 1 w0 hN (JE.to (je_lst ja_nil) fun _ => rfl) (Γ' := fun law_row_1 => [some (.v v_law_literals), some (.l law_row_1), none, none]) (fun law_row_1 => (jb_forS (A := List FV) ((fun law_row_7 => [some (.v v_law_literals), some (.l law_row_7), none, none] : (List FV) → Sl)) law_row_1 (Γb := fun law_row_3 law_literal_here_2 => [some (.v v_law_literals), some (.l law_row_3), some (.v law_literal_here_2), none]) (hΓ := fun law_row_3 law_literal_here_2 => rfl) w0 hp rfl (JI.to (ji_seq (je_var (r := .v v_law_literals) 0 rfl)) fun _ => rfl) (jg_name 2 hN) (fun law_row_3 law_literal_here_2 => (jb_set 3 w0 hN (JE.to (je_call tk h__law_formed hr (Nat.le_succ _) (ja_cons (je_var (r := .v law_literal_here_2) 2 rfl) ja_nil)) fun _ => rfl) (Γ' := fun law_formed_here_4 => [some (.v v_law_literals), some (.l law_row_3), some (.v law_literal_here_2), some (.v law_formed_here_4)]) (fun law_formed_here_4 => (jb_ifE w0 (JT.to (jt_nmx hr (je_var (r := .v law_formed_here_4) 3 rfl) (je_var (r := .l law_row_3) 1 rfl)) fun _ => rfl) (jb_append 1 w0 (JE.to (je_var (r := .v law_formed_here_4) 3 rfl) fun _ => rfl) (Γ' := fun law_row_6 => [some (.v v_law_literals), some (.l law_row_6), some (.v law_literal_here_2), some (.v law_formed_here_4)]) (fun law_row_6 => (jb_nil (a := law_row_6) (.keep (.keep (.drop (.drop .nil))))))) (jb_nil (a := law_row_3) (.keep (.keep (.drop (.drop .nil))))))))) (.keep (.keep (.keep (.keep .nil)))) (fun law_row_7 => (jb_ret w0 (JE.to (je_tuple m_tuple (je_sortK h__law_said hr m_sorted (je_var (r := .l law_row_7) 1 rfl))) fun _ => rfl)))))))
/-! ### _law_filled -/
abbrev s__law_filled : Stmt := top 27
abbrev N__law_filled : List Str := ["_law_term_here", "_law_filling", "_law_part"]
theorem sc__law_filled : FnScope N__law_filled ["_law_term_here", "_law_filling"] (defScope s__law_filled) := ⟨rfl, rfl, rfl, by decide +kernel, rfl, by decide +kernel, by decide +kernel⟩
theorem ok__law_filled {a : Addr} {fd : FuncData} {n : Nat} {t : Tab} (F : Fun K "_law_filled" "_law_filled" s__law_filled a fd) (h__law_filled : HasF P w K mg base n "_law_filled" ["_law_term_here", "_law_filling"] (f2 t.d_law_filled))  (m_isinstance : mg "isinstance" = none) (m_str : mg "str" = none) (m_tuple : mg "tuple" = none)  :
    FnOk P w K mg base (L2.CX P w) (n + 1) a fd ["_law_term_here", "_law_filling"] (spP ⟨K, mg⟩ (f2 fun v_law_term_here v_law_filling => toF (n_law_filled t v_law_term_here v_law_filling))) :=
  mk_fnP (nL := 1) (b := b2 (n_law_filled t)) F sc__law_filled rfl rfl (arg2 fun _ _ => trivial) fun cdv A outer s H E hr => by
    have tk : Tk (CxP P w K mg base N__law_filled "_law_filled" (defScope s__law_filled) a cdv A outer s H E) (fun cls d _ H => E cls d H) := .inl (takes_of rfl rfl rfl rfl)
    have te : TkE (CxP P w K mg base N__law_filled "_law_filled" (defScope s__law_filled) a cdv A outer s H E) (fun cls d _ H => E cls d H) := te_own (takes_of rfl rfl rfl rfl)
    have hp : PassesOwn (model P w) (CxP P w K mg base N__law_filled "_law_filled" (defScope s__law_filled) a cdv A outer s H E).A (CxP P w K mg base N__law_filled "_law_filled" (defScope s__law_filled) a cdv A outer s H E).env (CxP P w K mg base N__law_filled "_law_filled" (defScope s__law_filled) a cdv A outer s H E).xe := passes_of rfl
    have hN : (CxP P w K mg base N__law_filled "_law_filled" (defScope s__law_filled) a cdv A outer s H E).N.Nodup := sc__law_filled.nd
    have w0 : ∀ {Γ : Sl}, SubX none Γ := trivial
    exact arg2 fun v_law_term_here v_law_filling E' => (show JB _ _ _ _ _ _ _ _ (n_law_filled t v_law_term_here v_law_filling) from (jb_ifR w0 (JT.to (jt_val (je_isi m_isinstance m_str (je_var (r := .v v_law_term_here) 0 rfl))) fun _ => rfl) (JE.to (je_get hr (je_var (r := .v v_law_filling) 1 rfl) (je_var (r := .v v_law_term_here) 0 rfl) (je_var (r := .v v_law_term_here) 0 rfl)) fun _ => rfl) (jb_ret w0 (JE.to (je_tuple m_tuple (je_add (je_lst (ja_cons (je_ix hr (je_var (r := .v v_law_term_here) 0 rfl) je_int) ja_nil)) (je_lc [("_law_part", 2)] rfl hN (JI.to (ji_seq (je_sl (je_var (r := .v v_law_term_here) 0 rfl) (jp_some je_int) jp_none)) fun _ => rfl) (blkOk_by (N := N__law_filled) (sc := defScope s__law_filled) (by decide +kernel)) (jgb_name 2 (fun _ _ _ _ _ => hN)) (by decide) (fun law_part_5 => fun _ _ _ _ _ => (JTs.to jts_nil fun _ => rfl)) (fun law_part_5 => fun _ _ _ _ _ => (JE.to (je_call (.inr rfl) h__law_filled hr (Nat.le_refl _) (ja_cons (je_var (r := .v law_part_5) 2 rfl) (ja_cons (je_var (r := .v v_law_filling) 1 rfl) ja_nil))) fun _ => rfl)) (hΓ := fun law_part_5 => rfl) (Γc := fun law_part_5 => [some (.v v_law_term_here), some (.v v_law_filling), some (.v law_part_5)]) (t := fun law_part_5 => (pur true)) (fe := fun law_part_5 => (t.d_law_filled law_part_5 v_law_filling))))) fun _ => rfl))))
/-! ### _law_names -/
abbrev s__law_names : Stmt := top 28
abbrev N__law_names : List Str := ["_law_term_here", "_law_names_here", "_law_part"]
theorem sc__law_names : FnScope N__law_names ["_law_term_here"] (defScope s__law_names) := ⟨rfl, rfl, rfl, by decide +kernel, rfl, by decide +kernel, by decide +kernel⟩
theorem ok__law_names {a : Addr} {fd : FuncData} {n : Nat} {t : Tab} (F : Fun K "_law_names" "_law_names" s__law_names a fd) (h__law_names : HasF P w K mg base n "_law_names" ["_law_term_here"] (f1 t.d_law_names))  (m_isinstance : mg "isinstance" = none) (m_str : mg "str" = none)  :
    FnOk P w K mg base (L2.CX P w) (n + 1) a fd ["_law_term_here"] (spP ⟨K, mg⟩ (f1 fun v_law_term_here => toF (n_law_names t v_law_term_here))) :=
  mk_fnP (nL := 2) (b := b1 (n_law_names t)) F sc__law_names rfl rfl (arg1 fun _ => trivial) fun cdv A outer s H E hr => by
    have tk : Tk (CxP P w K mg base N__law_names "_law_names" (defScope s__law_names) a cdv A outer s H E) (fun cls d _ H => E cls d H) := .inl (takes_of rfl rfl rfl rfl)
    have te : TkE (CxP P w K mg base N__law_names "_law_names" (defScope s__law_names) a cdv A outer s H E) (fun cls d _ H => E cls d H) := te_own (takes_of rfl rfl rfl rfl)
    have hp : PassesOwn (model P w) (CxP P w K mg base N__law_names "_law_names" (defScope s__law_names) a cdv A outer s H E).A (CxP P w K mg base N__law_names "_law_names" (defScope s__law_names) a cdv A outer s H E).env (CxP P w K mg base N__law_names "_law_names" (defScope s__law_names) a cdv A outer s H E).xe := passes_of rfl
    have hN : (CxP P w K mg base N__law_names "_law_names" (defScope s__law_names) a cdv A outer s H E).N.Nodup := sc__law_names.nd
    have w0 : ∀ {Γ : Sl}, SubX none Γ := trivial
    exact arg1 fun v_law_term_here E' => (show JB _ _ _ _ _ _ _ _ (n_law_names t v_law_term_here) from (jb_ifR w0 (JT.to (jt_val (je_isi m_isinstance m_str (je_var (r := .v v_law_term_here) 0 rfl))) fun _ => rfl) (JE.to (je_lst (ja_cons (je_var (r := .v v_law_term_here) 0 rfl) ja_nil)) fun _ => rfl) (jb_set 1 w0 hN (JE.to (je_lst ja_nil) fun _ => rfl) (Γ' := fun law_names_here_3 => [some (.v v_law_term_here), some (.v law_names_here_3), none]) (fun law_names_here_3 => (jb_forS (A := FV) ((fun law_names_here_9 => [some (.v v_law_term_here), some (.v law_names_here_9), none] : (FV) → Sl)) law_names_here_3 (Γb := fun law_names_here_6 law_part_5 => [some (.v v_law_term_here), some (.v law_names_here_6), some (.v law_part_5)]) (hΓ := fun law_names_here_6 law_part_5 => rfl) w0 hp rfl (JI.to (ji_seq (je_sl (je_var (r := .v v_law_term_here) 0 rfl) (jp_some je_int) jp_none)) fun _ => rfl) (jg_name 2 hN) (fun law_names_here_6 law_part_5 => (jb_set 1 w0 hN (JE.to (je_add (je_var (r := .v law_names_here_6) 1 rfl) (je_call tk h__law_names hr (Nat.le_refl _) (ja_cons (je_var (r := .v law_part_5) 2 rfl) ja_nil))) fun _ => rfl) (Γ' := fun law_names_here_8 => [some (.v v_law_term_here), some (.v law_names_here_8), some (.v law_part_5)]) (fun law_names_here_8 => (jb_nil (a := law_names_here_8) (.keep (.keep (.drop .nil))))))) (.keep (.keep (.keep .nil))) (fun law_names_here_9 => (jb_ret w0 (JE.to (je_var (r := .v law_names_here_9) 1 rfl) fun _ => rfl))))))))
/-! ### law -/
abbrev s_law : Stmt := top 29
abbrev N_law : List Str := ["_law_script", "_law_state", "_law_literals", "_law_other", "_law_k", "_law_literal_here", "_law_due", "_law_said_here", "_law_text_here", "_law_names_here", "_law_name", "_law_ground", "_law_filling", "_law_filled_here", "_law_either", "_law_turned", "_law_always", "_law_one"]
theorem sc_law : FnScope N_law ["_law_script"] (defScope s_law) := ⟨rfl, rfl, rfl, by decide +kernel, rfl, by decide +kernel, by decide +kernel⟩
theorem ok_law {a : Addr} {fd : FuncData} {n : Nat} {t : Tab} (F : Fun K "law" "law" s_law a fd) (h__law_start : HasF P w K mg base n "_law_start" ["_law_script"] (f1 t.d_law_start)) (h__law_take : HasF P w K mg base n "_law_take" ["_law_state", "_law_many"] (f2 t.d_law_take)) (h__law_literal : HasF P w K mg base n "_law_literal" ["_law_state"] (f1 t.d_law_literal)) (h__law_clause : HasF P w K mg base n "_law_clause" ["_law_literals"] (f1 t.d_law_clause)) (h_make_clause : HasF P w K mg base n "make_clause" ["literals"] (f1 t.d_make_clause)) (h_make_literal : HasF P w K mg base n "make_literal" ["sign", "left", "right"] (f3 t.d_make_literal)) (h__law_said : HasF P w K mg base n "_law_said" ["_law_literal_here"] (f1 t.d_law_said)) (h_literal_text : HasF P w K mg base n "literal_text" ["literal"] (f1 t.d_literal_text)) (h_clause_text : HasF P w K mg base n "clause_text" ["clause"] (f1 t.d_clause_text)) (h__law_names : HasF P w K mg base n "_law_names" ["_law_term_here"] (f1 t.d_law_names)) (h_is_ground : HasF P w K mg base n "is_ground" ["clause"] (f1 t.d_is_ground)) (h_clause_unknowns : HasF P w K mg base n "clause_unknowns" ["clause"] (f1 t.d_clause_unknowns)) (h__law_term : HasF P w K mg base n "_law_term" ["_law_state", "_law_depth"] (f2 t.d_law_term)) (h__law_filled : HasF P w K mg base n "_law_filled" ["_law_term_here", "_law_filling"] (f2 t.d_law_filled)) (h_fill_term : HasF P w K mg base n "fill_term" ["term", "filling"] (f2 t.d_fill_term)) (h_fill_clause : HasF P w K mg base n "fill_clause" ["clause", "filling"] (f2 t.d_fill_clause)) (h_opposite : HasF P w K mg base n "opposite" ["literal"] (f1 t.d_opposite)) (h_always_true : HasF P w K mg base n "always_true" ["clause"] (f1 t.d_always_true))  (m_range : mg "range" = none) (m_len : mg "len" = none) (m_tuple : mg "tuple" = none) (m_isinstance : mg "isinstance" = none) (m_bool : mg "bool" = none) (g_TOP : GC K mg "TOP" c_TOP) :
    FnOk P w K mg base (L2.CX P w) (n + 1) a fd ["_law_script"] (spP ⟨K, mg⟩ (f1 fun v_law_script => toF (n_law t v_law_script))) :=
  mk_fnP (nL := 17) (b := b1 (n_law t)) F sc_law rfl rfl (arg1 fun _ => trivial) fun cdv A outer s H E hr => by
    have tk : Tk (CxP P w K mg base N_law "law" (defScope s_law) a cdv A outer s H E) (fun cls d _ H => E cls d H) := .inl (takes_of rfl rfl rfl rfl)
    have te : TkE (CxP P w K mg base N_law "law" (defScope s_law) a cdv A outer s H E) (fun cls d _ H => E cls d H) := te_own (takes_of rfl rfl rfl rfl)
    have hp : PassesOwn (model P w) (CxP P w K mg base N_law "law" (defScope s_law) a cdv A outer s H E).A (CxP P w K mg base N_law "law" (defScope s_law) a cdv A outer s H E).env (CxP P w K mg base N_law "law" (defScope s_law) a cdv A outer s H E).xe := passes_of rfl
    have hN : (CxP P w K mg base N_law "law" (defScope s_law) a cdv A outer s H E).N.Nodup := sc_law.nd
    have w0 : ∀ {Γ : Sl}, SubX none Γ := trivial
    exact arg1 fun v_law_script E' => (show JB _ _ _ _ _ _ _ _ (n_law t v_law_script) from (jb_setT 1 w0 hN (JE.to (je_call tk h__law_start hr (Nat.le_refl _) (ja_cons (je_var (r := .v v_law_script) 0 rfl) ja_nil)) fun _ => rfl) (Γ' := fun law_state_1 => [some (.v v_law_script), some (.v law_state_1), none, none, none, none, none, none, none, none, none, none, none, none, none, none, none, none]) (fun law_state_1 => (jb_setLC 2 (Γ' := fun law_literals_5 => [some (.v v_law_script), some (.v law_state_1), some (.v law_literals_5), none, none, none, none, none, none, none, none, none, none, none, none, none, none, none]) [("_law_k", 4)] w0 rfl hN (JI.to (ji_range1 m_range (je_call tk h__law_take hr (Nat.le_refl _) (ja_cons (je_var (r := .v law_state_1) 1 rfl) (ja_cons je_int ja_nil)))) fun _ => rfl) (blkOk_by (N := N_law) (sc := defScope s_law) (by decide +kernel)) (jgb_name 4 (fun _ _ _ _ _ => hN)) (by decide) (fun law_k_3 => fun _ _ _ _ _ => (JTs.to jts_nil fun _ => rfl)) (fun law_k_3 => fun _ _ _ _ _ => (JE.to (je_call (.inr rfl) h__law_literal hr (Nat.le_refl _) (ja_cons (je_var (r := .v law_state_1) 1 rfl) ja_nil)) fun _ => rfl)) (fun law_literals_5 => (jb_setL 3 w0 hN (JE.to (je_lst ja_nil) fun _ => rfl) (Γ' := fun law_other_6 => [some (.v v_law_script), some (.v law_state_1), some (.v law_literals_5), some (.l law_other_6), none, none, none, none, none, none, none, none, none, none, none, none, none, none]) (fun law_other_6 => (jb_forS (A := List FV) ((fun law_other_29 => [some (.v v_law_script), some (.v law_state_1), some (.v law_literals_5), some (.l law_other_29), none, none, none, none, none, none, none, none, none, none, none, none, none, none] : (List FV) → Sl)) law_other_6 (Γb := fun law_other_9 law_k_8 => [some (.v v_law_script), some (.v law_state_1), some (.v law_literals_5), some (.l law_other_9), some (.v law_k_8), none, none, none, none, none, none, none, none, none, none, none, none, none]) (hΓ := fun law_other_9 law_k_8 => rfl) w0 hp rfl (JI.to (ji_range1 m_range (je_len m_len (je_var (r := .v law_literals_5) 2 rfl))) fun _ => rfl) (jg_name 4 hN) (fun law_other_9 law_k_8 => (jb_set 5 w0 hN (JE.to (je_ix hr (je_var (r := .v law_literals_5) 2 rfl) (je_var (r := .v law_k_8) 4 rfl)) fun _ => rfl) (Γ' := fun law_literal_here_10 => [some (.v v_law_script), some (.v law_state_1), some (.v law_literals_5), some (.l law_other_9), some (.v law_k_8), some (.v law_literal_here_10), none, none, none, none, none, none, none, none, none, none, none, none]) (fun law_literal_here_10 => (jb_if (eα := ((fun law_literal_here_14 => [some (.v v_law_script), some (.v law_state_1), some (.v law_literals_5), some (.l law_other_9), some (.v law_k_8), some (.v law_literal_here_14), none, none, none, none, none, none, none, none, none, none, none, none] : (FV) → Sl))) w0 (JT.to (jt_bool (jw_and (jt_nq hr (je_ix hr (je_var (r := .v law_literal_here_10) 5 rfl) je_int) (je_glob g_TOP)) (jw_and1 (jt_q hr (je_call tk h__law_take hr (Nat.le_refl _) (ja_cons (je_var (r := .v law_state_1) 1 rfl) (ja_cons je_int ja_nil))) je_int)))) fun _ => rfl) (jb_set 5 w0 hN (JE.to (je_tup (ja_cons (je_ix hr (je_var (r := .v law_literal_here_10) 5 rfl) je_int) (ja_cons (je_ix hr (je_var (r := .v law_literal_here_10) 5 rfl) je_int) (ja_cons (je_ix hr (je_var (r := .v law_literal_here_10) 5 rfl) je_int) ja_nil)))) fun _ => rfl) (Γ' := fun law_literal_here_28 => [some (.v v_law_script), some (.v law_state_1), some (.v law_literals_5), some (.l law_other_9), some (.v law_k_8), some (.v law_literal_here_28), none, none, none, none, none, none, none, none, none, none, none, none]) (fun law_literal_here_28 => (jb_nil (a := law_literal_here_28) (.keep (.keep (.keep (.keep (.keep (.keep (.keep (.keep (.keep (.keep (.keep (.keep (.keep (.keep (.keep (.keep (.keep (.keep .nil))))))))))))))))))))) (jb_nil (a := law_literal_here_10) (.keep (.keep (.keep (.keep (.keep (.keep (.keep (.keep (.keep (.keep (.keep (.keep (.keep (.keep (.keep (.keep (.keep (.keep .nil))))))))))))))))))) (fun law_literal_here_14 => (jb_insert 3 w0 (JE.to (je_call tk h__law_take hr (Nat.le_refl _) (ja_cons (je_var (r := .v law_state_1) 1 rfl) (ja_cons (je_add (je_len m_len (je_var (r := .l law_other_9) 3 rfl)) je_int) ja_nil))) fun _ => rfl) (JE.to (je_var (r := .v law_literal_here_14) 5 rfl) fun _ => rfl) (Γ' := fun law_other_15 => [some (.v v_law_script), some (.v law_state_1), some (.v law_literals_5), some (.l law_other_15), some (.v law_k_8), some (.v law_literal_here_14), none, none, none, none, none, none, none, none, none, none, none, none]) (fun law_other_15 => (jb_ifE w0 (JT.to (jt_q hr (je_call tk h__law_take hr (Nat.le_refl _) (ja_cons (je_var (r := .v law_state_1) 1 rfl) (ja_cons je_int ja_nil))) je_int) fun _ => rfl) (jb_append 3 w0 (JE.to (je_ix hr (je_var (r := .v law_literals_5) 2 rfl) (je_call tk h__law_take hr (Nat.le_refl _) (ja_cons (je_var (r := .v law_state_1) 1 rfl) (ja_cons (je_len m_len (je_var (r := .v law_literals_5) 2 rfl)) ja_nil)))) fun _ => rfl) (Γ' := fun law_other_20 => [some (.v v_law_script), some (.v law_state_1), some (.v law_literals_5), some (.l law_other_20), some (.v law_k_8), some (.v law_literal_here_14), none, none, none, none, none, none, none, none, none, none, none, none]) (fun law_other_20 => (jb_nil (a := law_other_20) (.keep (.keep (.keep (.keep (.drop (.drop (.keep (.keep (.keep (.keep (.keep (.keep (.keep (.keep (.keep (.keep (.keep (.keep .nil))))))))))))))))))))) (jb_nil (a := law_other_15) (.keep (.keep (.keep (.keep (.drop (.drop (.keep (.keep (.keep (.keep (.keep (.keep (.keep (.keep (.keep (.keep (.keep (.keep .nil))))))))))))))))))))))))))) (.keep (.keep (.keep (.keep (.keep (.keep (.keep (.keep (.keep (.keep (.keep (.keep (.keep (.keep (.keep (.keep (.keep (.keep .nil)))))))))))))))))) (fun law_other_29 => (jb_set 6 w0 hN (JE.to (je_call tk h__law_clause hr (Nat.le_refl _) (ja_cons (je_var (r := .v law_literals_5) 2 rfl) ja_nil)) fun _ => rfl) (Γ' := fun law_due_30 => [some (.v v_law_script), some (.v law_state_1), some (.v law_literals_5), some (.l law_other_29), none, none, some (.v law_due_30), none, none, none, none, none, none, none, none, none, none, none]) (fun law_due_30 => (jb_ifR w0 (JT.to (jt_nq hr (je_call tk h_make_clause hr (Nat.le_refl _) (ja_cons (je_lc [("_law_one", 17)] rfl hN (JI.to (ji_seq (je_var (r := .v law_literals_5) 2 rfl)) fun _ => rfl) (blkOk_by (N := N_law) (sc := defScope s_law) (by decide +kernel)) (jgb_name 17 (fun _ _ _ _ _ => hN)) (by decide) (fun law_one_31 => fun _ _ _ _ _ => (JTs.to jts_nil fun _ => rfl)) (fun law_one_31 => fun _ _ _ _ _ => (JE.to (je_call (.inr rfl) h_make_literal hr (Nat.le_refl _) (ja_cons (je_ix hr (je_var (r := .v law_one_31) 17 rfl) je_int) (ja_cons (je_ix hr (je_var (r := .v law_one_31) 17 rfl) je_int) (ja_cons (je_ix hr (je_var (r := .v law_one_31) 17 rfl) je_int) ja_nil)))) fun _ => rfl)) (hΓ := fun law_one_31 => rfl) (Γc := fun law_one_31 => [some (.v v_law_script), some (.v law_state_1), some (.v law_literals_5), some (.l law_other_29), none, none, some (.v law_due_30), none, none, none, none, none, none, none, none, none, none, some (.v law_one_31)]) (t := fun law_one_31 => (pur true)) (fe := fun law_one_31 => (bnd (mV (oB gIx (.v law_one_31) (.v (.int 0)))) fun v_32 => (bnd (mV (oB gIx (.v law_one_31) (.v (.int 1)))) fun v_33 => (bnd (mV (oB gIx (.v law_one_31) (.v (.int 2)))) fun v_34 => (t.d_make_literal v_32 v_33 v_34)))))) ja_nil)) (je_var (r := .v law_due_30) 6 rfl)) fun _ => rfl) (JE.to (je_bl (i := false)) fun _ => rfl) (jb_frz 3 (r := (.l law_other_29)) (d := (.fl law_other_29)) rfl rfl (Γ' := [some (.v v_law_script), some (.v law_state_1), some (.v law_literals_5), some (.v (.fl law_other_29)), none, none, some (.v law_due_30), none, none, none, none, none, none, none, none, none, none, none]) (jb_ifR w0 (JT.to (jt_nq hr (je_call tk h_make_clause hr (Nat.le_refl _) (ja_cons (je_tuple m_tuple (je_lc [("_law_one", 17)] rfl hN (JI.to (ji_seq (je_var (r := .v (.fl law_other_29)) 3 rfl)) fun _ => rfl) (blkOk_by (N := N_law) (sc := defScope s_law) (by decide +kernel)) (jgb_name 17 (fun _ _ _ _ _ => hN)) (by decide) (fun law_one_39 => fun _ _ _ _ _ => (JTs.to jts_nil fun _ => rfl)) (fun law_one_39 => fun _ _ _ _ _ => (JE.to (je_call (.inr rfl) h_make_literal hr (Nat.le_refl _) (ja_cons (je_ix hr (je_var (r := .v law_one_39) 17 rfl) je_int) (ja_cons (je_ix hr (je_var (r := .v law_one_39) 17 rfl) je_int) (ja_cons (je_ix hr (je_var (r := .v law_one_39) 17 rfl) je_int) ja_nil)))) fun _ => rfl)) (hΓ := fun law_one_39 => rfl) (Γc := fun law_one_39 => [some (.v v_law_script), some (.v law_state_1), some (.v law_literals_5), some (.v (.fl law_other_29)), none, none, some (.v law_due_30), none, none, none, none, none, none, none, none, none, none, some (.v law_one_39)]) (t := fun law_one_39 => (pur true)) (fe := fun law_one_39 => (bnd (mV (oB gIx (.v law_one_39) (.v (.int 0)))) fun v_40 => (bnd (mV (oB gIx (.v law_one_39) (.v (.int 1)))) fun v_41 => (bnd (mV (oB gIx (.v law_one_39) (.v (.int 2)))) fun v_42 => (t.d_make_literal v_40 v_41 v_42))))))) ja_nil)) (je_var (r := .v law_due_30) 6 rfl)) fun _ => rfl) (JE.to (je_bl (i := false)) fun _ => rfl) (jb_setLC 7 (Γ' := fun law_said_here_50 => [some (.v v_law_script), some (.v law_state_1), some (.v law_literals_5), some (.v (.fl law_other_29)), none, none, some (.v law_due_30), some (.v law_said_here_50), none, none, none, none, none, none, none, none, none, none]) [("_law_literal_here", 5)] w0 rfl hN (JI.to (ji_seq (je_var (r := .v law_due_30) 6 rfl)) fun _ => rfl) (blkOk_by (N := N_law) (sc := defScope s_law) (by decide +kernel)) (jgb_name 5 (fun _ _ _ _ _ => hN)) (by decide) (fun law_literal_here_48 => fun _ _ _ _ _ => (JTs.to jts_nil fun _ => rfl)) (fun law_literal_here_48 => fun _ _ _ _ _ => (JE.to (je_call (.inr rfl) h__law_said hr (Nat.le_refl _) (ja_cons (je_var (r := .v law_literal_here_48) 5 rfl) ja_nil)) fun _ => rfl)) (fun law_said_here_50 => (jb_ifR w0 (JT.to (jt_nq hr (je_lc [("_law_literal_here", 5)] rfl hN (JI.to (ji_seq (je_var (r := .v law_due_30) 6 rfl)) fun _ => rfl) (blkOk_by (N := N_law) (sc := defScope s_law) (by decide +kernel)) (jgb_name 5 (fun _ _ _ _ _ => hN)) (by decide) (fun law_literal_here_51 => fun _ _ _ _ _ => (JTs.to jts_nil fun _ => rfl)) (fun law_literal_here_51 => fun _ _ _ _ _ => (JE.to (je_call (.inr rfl) h_literal_text hr (Nat.le_refl _) (ja_cons (je_var (r := .v law_literal_here_51) 5 rfl) ja_nil)) fun _ => rfl)) (hΓ := fun law_literal_here_51 => rfl) (Γc := fun law_literal_here_51 => [some (.v v_law_script), some (.v law_state_1), some (.v law_literals_5), some (.v (.fl law_other_29)), none, some (.v law_literal_here_51), some (.v law_due_30), some (.v law_said_here_50), none, none, none, none, none, none, none, none, none, none]) (t := fun law_literal_here_51 => (pur true)) (fe := fun law_literal_here_51 => (t.d_literal_text law_literal_here_51))) (je_var (r := .v law_said_here_50) 7 rfl)) fun _ => rfl) (JE.to (je_bl (i := false)) fun _ => rfl) (jb_set 8 w0 hN (JE.to je_str fun _ => rfl) (Γ' := fun law_text_here_55 => [some (.v v_law_script), some (.v law_state_1), some (.v law_literals_5), some (.v (.fl law_other_29)), none, none, some (.v law_due_30), some (.v law_said_here_50), some (.v law_text_here_55), none, none, none, none, none, none, none, none, none]) (fun law_text_here_55 => (jb_if (eα := ((fun law_text_here_58 => [some (.v v_law_script), some (.v law_state_1), some (.v law_literals_5), some (.v (.fl law_other_29)), none, none, some (.v law_due_30), some (.v law_said_here_50), some (.v law_text_here_58), none, none, none, none, none, none, none, none, none] : (FV) → Sl))) w0 (JT.to (jt_gt (je_len m_len (je_var (r := .v law_said_here_50) 7 rfl)) je_int) fun _ => rfl) (jb_set 8 w0 hN (JE.to (je_join je_str (je_var (r := .v law_said_here_50) 7 rfl)) fun _ => rfl) (Γ' := fun law_text_here_129 => [some (.v v_law_script), some (.v law_state_1), some (.v law_literals_5), some (.v (.fl law_other_29)), none, none, some (.v law_due_30), some (.v law_said_here_50), some (.v law_text_here_129), none, none, none, none, none, none, none, none, none]) (fun law_text_here_129 => (jb_nil (a := law_text_here_129) (.keep (.keep (.keep (.keep (.keep (.keep (.keep (.keep (.keep (.keep (.keep (.keep (.keep (.keep (.keep (.keep (.keep (.keep .nil))))))))))))))))))))) (jb_nil (a := law_text_here_55) (.keep (.keep (.keep (.keep (.keep (.keep (.keep (.keep (.keep (.keep (.keep (.keep (.keep (.keep (.keep (.keep (.keep (.keep .nil))))))))))))))))))) (fun law_text_here_58 => (jb_ifR w0 (JT.to (jt_nq hr (je_call tk h_clause_text hr (Nat.le_refl _) (ja_cons (je_var (r := .v law_due_30) 6 rfl) ja_nil)) (je_var (r := .v law_text_here_58) 8 rfl)) fun _ => rfl) (JE.to (je_bl (i := false)) fun _ => rfl) (jb_setL 9 w0 hN (JE.to (je_lst ja_nil) fun _ => rfl) (Γ' := fun law_names_here_61 => [some (.v v_law_script), some (.v law_state_1), some (.v law_literals_5), some (.v (.fl law_other_29)), none, none, some (.v law_due_30), some (.v law_said_here_50), some (.v law_text_here_58), some (.l law_names_here_61), none, none, none, none, none, none, none, none]) (fun law_names_here_61 => (jb_forS (A := List FV) ((fun law_names_here_75 => [some (.v v_law_script), some (.v law_state_1), some (.v law_literals_5), some (.v (.fl law_other_29)), none, none, some (.v law_due_30), some (.v law_said_here_50), some (.v law_text_here_58), some (.l law_names_here_75), none, none, none, none, none, none, none, none] : (List FV) → Sl)) law_names_here_61 (Γb := fun law_names_here_63 law_literal_here_62 => [some (.v v_law_script), some (.v law_state_1), some (.v law_literals_5), some (.v (.fl law_other_29)), none, some (.v law_literal_here_62), some (.v law_due_30), some (.v law_said_here_50), some (.v law_text_here_58), some (.l law_names_here_63), none, none, none, none, none, none, none, none]) (hΓ := fun law_names_here_63 law_literal_here_62 => rfl) w0 hp rfl (JI.to (ji_seq (je_var (r := .v law_due_30) 6 rfl)) fun _ => rfl) (jg_name 5 hN) (fun law_names_here_63 law_literal_here_62 => (jb_forS (A := List FV) ((fun law_names_here_73 => [some (.v v_law_script), some (.v law_state_1), some (.v law_literals_5), some (.v (.fl law_other_29)), none, some (.v law_literal_here_62), some (.v law_due_30), some (.v law_said_here_50), some (.v law_text_here_58), some (.l law_names_here_73), none, none, none, none, none, none, none, none] : (List FV) → Sl)) law_names_here_63 (Γb := fun law_names_here_70 law_name_69 => [some (.v v_law_script), some (.v law_state_1), some (.v law_literals_5), some (.v (.fl law_other_29)), none, some (.v law_literal_here_62), some (.v law_due_30), some (.v law_said_here_50), some (.v law_text_here_58), some (.l law_names_here_70), some (.v law_name_69), none, none, none, none, none, none, none]) (hΓ := fun law_names_here_70 law_name_69 => rfl) w0 hp rfl (JI.to (ji_seq (je_add (je_call tk h__law_names hr (Nat.le_refl _) (ja_cons (je_ix hr (je_var (r := .v law_literal_here_62) 5 rfl) je_int) ja_nil)) (je_call tk h__law_names hr (Nat.le_refl _) (ja_cons (je_ix hr (je_var (r := .v law_literal_here_62) 5 rfl) je_int) ja_nil)))) fun _ => rfl) (jg_name 10 hN) (fun law_names_here_70 law_name_69 => (jb_ifE w0 (JT.to (jt_nmx hr (je_var (r := .v law_name_69) 10 rfl) (je_var (r := .l law_names_here_70) 9 rfl)) fun _ => rfl) (jb_append 9 w0 (JE.to (je_var (r := .v law_name_69) 10 rfl) fun _ => rfl) (Γ' := fun law_names_here_72 => [some (.v v_law_script), some (.v law_state_1), some (.v law_literals_5), some (.v (.fl law_other_29)), none, some (.v law_literal_here_62), some (.v law_due_30), some (.v law_said_here_50), some (.v law_text_here_58), some (.l law_names_here_72), some (.v law_name_69), none, none, none, none, none, none, none]) (fun law_names_here_72 => (jb_nil (a := law_names_here_72) (.keep (.keep (.keep (.keep (.keep (.keep (.keep (.keep (.keep (.keep (.drop (.keep (.keep (.keep (.keep (.keep (.keep (.keep .nil))))))))))))))))))))) (jb_nil (a := law_names_here_70) (.keep (.keep (.keep (.keep (.keep (.keep (.keep (.keep (.keep (.keep (.drop (.keep (.keep (.keep (.keep (.keep (.keep (.keep .nil))))))))))))))))))))) (.keep (.keep (.keep (.keep (.keep (.keep (.keep (.keep (.keep (.keep (.keep (.keep (.keep (.keep (.keep (.keep (.keep (.keep .nil)))))))))))))))))) (fun law_names_here_73 => (jb_nil (a := law_names_here_73) (.keep (.keep (.keep (.keep (.keep (.drop (.keep (.keep (.keep (.keep (.keep (.keep (.keep (.keep (.keep (.keep (.keep (.keep .nil)))))))))))))))))))))) (.keep (.keep (.keep (.keep (.keep (.keep (.keep (.keep (.keep (.keep (.keep (.keep (.keep (.keep (.keep (.keep (.keep (.keep .nil)))))))))))))))))) (fun law_names_here_75 => (jb_set 11 w0 hN (JE.to (je_call tk h_is_ground hr (Nat.le_refl _) (ja_cons (je_var (r := .v law_due_30) 6 rfl) ja_nil)) fun _ => rfl) (Γ' := fun law_ground_76 => [some (.v v_law_script), some (.v law_state_1), some (.v law_literals_5), some (.v (.fl law_other_29)), none, none, some (.v law_due_30), some (.v law_said_here_50), some (.v law_text_here_58), some (.l law_names_here_75), none, some (.v law_ground_76), none, none, none, none, none, none]) (fun law_ground_76 => (jb_ifR w0 (JT.to (jt_bool (jw_or (jt_nq hr (je_call tk h_clause_unknowns hr (Nat.le_refl _) (ja_cons (je_var (r := .v law_due_30) 6 rfl) ja_nil)) (je_var (r := .l law_names_here_75) 9 rfl)) (jw_or (jt_not (jt_val (je_isi m_isinstance m_bool (je_var (r := .v law_ground_76) 11 rfl)))) (jw_or1 (jt_nq hr (je_var (r := .v law_ground_76) 11 rfl) (je_q hr (je_len m_len (je_var (r := .l law_names_here_75) 9 rfl)) je_int)))))) fun _ => rfl) (JE.to (je_bl (i := false)) fun _ => rfl) (jb_setD 12 w0 hN (JE.to (je_dis (jps_cons je_str (je_call tk h__law_term hr (Nat.le_refl _) (ja_cons (je_var (r := .v law_state_1) 1 rfl) (ja_cons je_int ja_nil))) jps_nil)) fun _ => rfl) (Γ' := fun law_filling_84 => [some (.v v_law_script), some (.v law_state_1), some (.v law_literals_5), some (.v (.fl law_other_29)), none, none, some (.v law_due_30), some (.v law_said_here_50), some (.v law_text_here_58), some (.l law_names_here_75), none, some (.v law_ground_76), some (.d law_filling_84), none, none, none, none, none]) (fun law_filling_84 => (jb_if (eα := ((fun law_filling_87 => [some (.v v_law_script), some (.v law_state_1), some (.v law_literals_5), some (.v (.fl law_other_29)), none, none, some (.v law_due_30), some (.v law_said_here_50), some (.v law_text_here_58), some (.l law_names_here_75), none, some (.v law_ground_76), some (.d law_filling_87), none, none, none, none, none] : (List (Key × FV)) → Sl))) w0 (JT.to (jt_q hr (je_call tk h__law_take hr (Nat.le_refl _) (ja_cons (je_var (r := .v law_state_1) 1 rfl) (ja_cons je_int ja_nil))) je_int) fun _ => rfl) (jb_dput 12 hr w0 (JE.to (je_call tk h__law_term hr (Nat.le_refl _) (ja_cons (je_var (r := .v law_state_1) 1 rfl) (ja_cons je_int ja_nil))) fun _ => rfl) (JE.to je_str fun _ => rfl) (Γ' := fun law_filling_126 => [some (.v v_law_script), some (.v law_state_1), some (.v law_literals_5), some (.v (.fl law_other_29)), none, none, some (.v law_due_30), some (.v law_said_here_50), some (.v law_text_here_58), some (.l law_names_here_75), none, some (.v law_ground_76), some (.d law_filling_126), none, none, none, none, none]) (fun law_filling_126 => (jb_nil (a := law_filling_126) (.keep (.keep (.keep (.keep (.keep (.keep (.keep (.keep (.keep (.keep (.keep (.keep (.keep (.keep (.keep (.keep (.keep (.keep .nil))))))))))))))))))))) (jb_nil (a := law_filling_84) (.keep (.keep (.keep (.keep (.keep (.keep (.keep (.keep (.keep (.keep (.keep (.keep (.keep (.keep (.keep (.keep (.keep (.keep .nil))))))))))))))))))) (fun law_filling_87 => (jb_frz 12 (r := (.d law_filling_87)) (d := (frzD law_filling_87)) rfl rfl (Γ' := [some (.v v_law_script), some (.v law_state_1), some (.v law_literals_5), some (.v (.fl law_other_29)), none, none, some (.v law_due_30), some (.v law_said_here_50), some (.v law_text_here_58), some (.l law_names_here_75), none, some (.v law_ground_76), some (.v (frzD law_filling_87)), none, none, none, none, none]) (jb_setLC 13 (Γ' := fun law_filled_here_95 => [some (.v v_law_script), some (.v law_state_1), some (.v law_literals_5), some (.v (.fl law_other_29)), none, none, some (.v law_due_30), some (.v law_said_here_50), some (.v law_text_here_58), some (.l law_names_here_75), none, some (.v law_ground_76), some (.v (frzD law_filling_87)), some (.v law_filled_here_95), none, none, none, none]) [("_law_one", 17)] w0 rfl hN (JI.to (ji_seq (je_var (r := .v law_due_30) 6 rfl)) fun _ => rfl) (blkOk_by (N := N_law) (sc := defScope s_law) (by decide +kernel)) (jgb_name 17 (fun _ _ _ _ _ => hN)) (by decide) (fun law_one_88 => fun _ _ _ _ _ => (JTs.to jts_nil fun _ => rfl)) (fun law_one_88 => fun _ _ _ _ _ => (JE.to (je_tup (ja_cons (je_ix hr (je_var (r := .v law_one_88) 17 rfl) je_int) (ja_cons (je_call (.inr rfl) h__law_filled hr (Nat.le_refl _) (ja_cons (je_ix hr (je_var (r := .v law_one_88) 17 rfl) je_int) (ja_cons (je_var (r := .v (frzD law_filling_87)) 12 rfl) ja_nil))) (ja_cons (je_call (.inr rfl) h__law_filled hr (Nat.le_refl _) (ja_cons (je_ix hr (je_var (r := .v law_one_88) 17 rfl) je_int) (ja_cons (je_var (r := .v (frzD law_filling_87)) 12 rfl) ja_nil))) ja_nil)))) fun _ => rfl)) (fun law_filled_here_95 => (jb_ifR w0 (JT.to (jt_nq hr (je_lc [("_law_one", 17)] rfl hN (JI.to (ji_seq (je_var (r := .v law_due_30) 6 rfl)) fun _ => rfl) (blkOk_by (N := N_law) (sc := defScope s_law) (by decide +kernel)) (jgb_name 17 (fun _ _ _ _ _ => hN)) (by decide) (fun law_one_96 => fun _ _ _ _ _ => (JTs.to jts_nil fun _ => rfl)) (fun law_one_96 => fun _ _ _ _ _ => (JE.to (je_call (.inr rfl) h_fill_term hr (Nat.le_refl _) (ja_cons (je_ix hr (je_var (r := .v law_one_96) 17 rfl) je_int) (ja_cons (je_var (r := .v (frzD law_filling_87)) 12 rfl) ja_nil))) fun _ => rfl)) (hΓ := fun law_one_96 => rfl) (Γc := fun law_one_96 => [some (.v v_law_script), some (.v law_state_1), some (.v law_literals_5), some (.v (.fl law_other_29)), none, none, some (.v law_due_30), some (.v law_said_here_50), some (.v law_text_here_58), some (.l law_names_here_75), none, some (.v law_ground_76), some (.v (frzD law_filling_87)), some (.v law_filled_here_95), none, none, none, some (.v law_one_96)]) (t := fun law_one_96 => (pur true)) (fe := fun law_one_96 => (bnd (mV (oB gIx (.v law_one_96) (.v (.int 1)))) fun v_97 => (t.d_fill_term v_97 (frzD law_filling_87))))) (je_lc [("_law_one", 17)] rfl hN (JI.to (ji_seq (je_var (r := .v law_filled_here_95) 13 rfl)) fun _ => rfl) (blkOk_by (N := N_law) (sc := defScope s_law) (by decide +kernel)) (jgb_name 17 (fun _ _ _ _ _ => hN)) (by decide) (fun law_one_99 => fun _ _ _ _ _ => (JTs.to jts_nil fun _ => rfl)) (fun law_one_99 => fun _ _ _ _ _ => (JE.to (je_ix hr (je_var (r := .v law_one_99) 17 rfl) je_int) fun _ => rfl)) (hΓ := fun law_one_99 => rfl) (Γc := fun law_one_99 => [some (.v v_law_script), some (.v law_state_1), some (.v law_literals_5), some (.v (.fl law_other_29)), none, none, some (.v law_due_30), some (.v law_said_here_50), some (.v law_text_here_58), some (.l law_names_here_75), none, some (.v law_ground_76), some (.v (frzD law_filling_87)), some (.v law_filled_here_95), none, none, none, some (.v law_one_99)]) (t := fun law_one_99 => (pur true)) (fe := fun law_one_99 => (oB gIx (.v law_one_99) (.v (.int 1)))))) fun _ => rfl) (JE.to (je_bl (i := false)) fun _ => rfl) (jb_ifR w0 (JT.to (jt_nq hr (je_call tk h_fill_clause hr (Nat.le_refl _) (ja_cons (je_var (r := .v law_due_30) 6 rfl) (ja_cons (je_var (r := .v (frzD law_filling_87)) 12 rfl) ja_nil))) (je_call tk h__law_clause hr (Nat.le_refl _) (ja_cons (je_var (r := .v law_filled_here_95) 13 rfl) ja_nil))) fun _ => rfl) (JE.to (je_bl (i := false)) fun _ => rfl) (jb_set 14 w0 hN (JE.to (je_bl (i := false)) fun _ => rfl) (Γ' := fun law_either_107 => [some (.v v_law_script), some (.v law_state_1), some (.v law_literals_5), some (.v (.fl law_other_29)), none, none, some (.v law_due_30), some (.v law_said_here_50), some (.v law_text_here_58), some (.l law_names_here_75), none, some (.v law_ground_76), some (.v (frzD law_filling_87)), some (.v law_filled_here_95), some (.v law_either_107), none, none, none]) (fun law_either_107 => (jb_forS (A := FV) ((fun law_either_122 => [some (.v v_law_script), some (.v law_state_1), some (.v law_literals_5), some (.v (.fl law_other_29)), none, none, some (.v law_due_30), some (.v law_said_here_50), some (.v law_text_here_58), some (.l law_names_here_75), none, some (.v law_ground_76), some (.v (frzD law_filling_87)), some (.v law_filled_here_95), some (.v law_either_122), none, none, none] : (FV) → Sl)) law_either_107 (Γb := fun law_either_109 law_literal_here_108 => [some (.v v_law_script), some (.v law_state_1), some (.v law_literals_5), some (.v (.fl law_other_29)), none, some (.v law_literal_here_108), some (.v law_due_30), some (.v law_said_here_50), some (.v law_text_here_58), some (.l law_names_here_75), none, some (.v law_ground_76), some (.v (frzD law_filling_87)), some (.v law_filled_here_95), some (.v law_either_109), none, none, none]) (hΓ := fun law_either_109 law_literal_here_108 => rfl) w0 hp rfl (JI.to (ji_seq (je_var (r := .v law_due_30) 6 rfl)) fun _ => rfl) (jg_name 5 hN) (fun law_either_109 law_literal_here_108 => (jb_set 15 w0 hN (JE.to (je_tup (ja_cons (je_not (je_ix hr (je_var (r := .v law_literal_here_108) 5 rfl) je_int)) (ja_cons (je_ix hr (je_var (r := .v law_literal_here_108) 5 rfl) je_int) (ja_cons (je_ix hr (je_var (r := .v law_literal_here_108) 5 rfl) je_int) ja_nil)))) fun _ => rfl) (Γ' := fun law_turned_114 => [some (.v v_law_script), some (.v law_state_1), some (.v law_literals_5), some (.v (.fl law_other_29)), none, some (.v law_literal_here_108), some (.v law_due_30), some (.v law_said_here_50), some (.v law_text_here_58), some (.l law_names_here_75), none, some (.v law_ground_76), some (.v (frzD law_filling_87)), some (.v law_filled_here_95), some (.v law_either_109), some (.v law_turned_114), none, none]) (fun law_turned_114 => (jb_ifR w0 (JT.to (jt_nq hr (je_call tk h_opposite hr (Nat.le_refl _) (ja_cons (je_var (r := .v law_literal_here_108) 5 rfl) ja_nil)) (je_var (r := .v law_turned_114) 15 rfl)) fun _ => rfl) (JE.to (je_bl (i := false)) fun _ => rfl) (jb_ifE w0 (JT.to (jt_bool (jw_or (jt_mx hr (je_var (r := .v law_turned_114) 15 rfl) (je_var (r := .v law_due_30) 6 rfl)) (jw_or1 (jt_bool (jw_and (jt_val (je_ix hr (je_var (r := .v law_literal_here_108) 5 rfl) je_int)) (jw_and1 (jt_q hr (je_ix hr (je_var (r := .v law_literal_here_108) 5 rfl) je_int) (je_ix hr (je_var (r := .v law_literal_here_108) 5 rfl) je_int)))))))) fun _ => rfl) (jb_set 14 w0 hN (JE.to (je_bl (i := true)) fun _ => rfl) (Γ' := fun law_either_121 => [some (.v v_law_script), some (.v law_state_1), some (.v law_literals_5), some (.v (.fl law_other_29)), none, some (.v law_literal_here_108), some (.v law_due_30), some (.v law_said_here_50), some (.v law_text_here_58), some (.l law_names_here_75), none, some (.v law_ground_76), some (.v (frzD law_filling_87)), some (.v law_filled_here_95), some (.v law_either_121), some (.v law_turned_114), none, none]) (fun law_either_121 => (jb_nil (a := law_either_121) (.keep (.keep (.keep (.keep (.keep (.drop (.keep (.keep (.keep (.keep (.keep (.keep (.keep (.keep (.keep (.drop (.keep (.keep .nil))))))))))))))))))))) (jb_nil (a := law_either_109) (.keep (.keep (.keep (.keep (.keep (.drop (.keep (.keep (.keep (.keep (.keep (.keep (.keep (.keep (.keep (.drop (.keep (.keep .nil)))))))))))))))))))))))) (.keep (.keep (.keep (.keep (.keep (.keep (.keep (.keep (.keep (.keep (.keep (.keep (.keep (.keep (.keep (.keep (.keep (.keep .nil)))))))))))))))))) (fun law_either_122 => (jb_set 16 w0 hN (JE.to (je_call tk h_always_true hr (Nat.le_refl _) (ja_cons (je_var (r := .v law_due_30) 6 rfl) ja_nil)) fun _ => rfl) (Γ' := fun law_always_123 => [some (.v v_law_script), some (.v law_state_1), some (.v law_literals_5), some (.v (.fl law_other_29)), none, none, some (.v law_due_30), some (.v law_said_here_50), some (.v law_text_here_58), some (.l law_names_here_75), none, some (.v law_ground_76), some (.v (frzD law_filling_87)), some (.v law_filled_here_95), some (.v law_either_122), none, some (.v law_always_123), none]) (fun law_always_123 => (jb_ret w0 (JE.to (je_and (je_isi m_isinstance m_bool (je_var (r := .v law_always_123) 16 rfl)) (je_one (je_q hr (je_var (r := .v law_always_123) 16 rfl) (je_var (r := .v law_either_122) 14 rfl)))) fun _ => rfl))))))))))) (hΓ := fun law_one_88 => rfl) (Γc := fun law_one_88 => [some (.v v_law_script), some (.v law_state_1), some (.v law_literals_5), some (.v (.fl law_other_29)), none, none, some (.v law_due_30), some (.v law_said_here_50), some (.v law_text_here_58), some (.l law_names_here_75), none, some (.v law_ground_76), some (.v (frzD law_filling_87)), none, none, none, none, some (.v law_one_88)]) (t := fun law_one_88 => (pur true)))))))))))))))))))))) (hΓ := fun law_literal_here_48 => rfl) (Γc := fun law_literal_here_48 => [some (.v v_law_script), some (.v law_state_1), some (.v law_literals_5), some (.v (.fl law_other_29)), none, some (.v law_literal_here_48), some (.v law_due_30), none, none, none, none, none, none, none, none, none, none, none]) (t := fun law_literal_here_48 => (pur true))))))))))))) (hΓ := fun law_k_3 => rfl) (Γc := fun law_k_3 => [some (.v v_law_script), some (.v law_state_1), none, none, some (.v law_k_3), none, none, none, none, none, none, none, none, none, none, none, none, none]) (t := fun law_k_3 => (pur true))))))
end
end Q87

namespace Q87
open PySem P
/-! terms, atoms, literals -/
inductive U
  | v (b : Bool) | c (b : Bool) | f (t : U)
  deriving DecidableEq
inductive Qs
  | q | p (t : U) | r (t u : U) | e (t u : U)
  deriving DecidableEq
abbrev Lt := Bool × Qs
def vn (b : Bool) : Str := if b = true then "y" else "x"
def cn (b : Bool) : Str := if b = true then "b" else "a"
def U.tm : U → Tm
  | .v b => .var (vn b)
  | .c b => .app (cn b) []
  | .f t => .app "f" [t.tm]
def U.d : U → Nat
  | .v _ => 0
  | .c _ => 1
  | .f t => t.d + 1
theorem U.dep : ∀ u : U, u.tm.dep = u.d
  | .v b => by simp [U.tm, U.d]
  | .c b => by simp [U.tm, U.d]
  | .f t => by simp [U.tm, U.d, U.dep t]
def topT : Tm := .app "" []
theorem top_fv : c_TOP = topT.fv := by simp [c_TOP, topT]
theorem depTop : topT.dep = 1 := by simp [topT]
def Qs.l : Qs → Tm
  | .q => .app "Q" []
  | .p t => .app "P" [t.tm]
  | .r t u => .app "R" [t.tm, u.tm]
  | .e t u => t.tm
def Qs.rr : Qs → Tm
  | .e t u => u.tm
  | _ => topT
def Qs.d : Qs → Nat
  | .q => 1
  | .p t => t.d + 1
  | .r t u => max t.d u.d + 1
  | .e t u => max t.d u.d
def tri (s : Bool) (l r : Tm) : FV := .tup [.bl s, l.fv, r.fv]
def litF (l : Lt) : FV := tri l.1 l.2.l l.2.rr
theorem ne_top {f : Str} (hf : ¬ f = "") (ts : List Tm) : ¬ Tm.app f ts = topT := fun z => by
  unfold topT at z
  injection z with z1 z2
  exact hf z1
theorem cn_ne (b : Bool) : ¬ cn b = "" := by cases b <;> decide +kernel
theorem fne : ¬ ("f" : Str) = "" := by decide +kernel
theorem Qne : ¬ ("Q" : Str) = "" := by decide +kernel
theorem Pne : ¬ ("P" : Str) = "" := by decide +kernel
theorem Rne : ¬ ("R" : Str) = "" := by decide +kernel
theorem U.ne : ∀ u : U, ¬ u.tm = topT
  | .v b => fun z => by simp [U.tm, topT] at z
  | .c b => ne_top (cn_ne b) _
  | .f t => ne_top fne _
theorem q_top {neg : Bool} (t : Tm) : oC (gQ neg) (.v t.fv) (.v c_TOP) = pur (if neg = true then !decide (t = topT) else decide (t = topT)) := by
  rw [top_fv]
  exact q_tt (by rw [depTop]; omega)
theorem slen (a b : Str) : (a ++ b).length = a.length + b.length := Str.length_append a b
theorem str3 : (("(" : Str).length = 1) ∧ ((")" : Str).length = 1) ∧ ((", " : Str).length = 2) := by decide +kernel
def a1 (f x : Str) : Str := f ++ "(" ++ x ++ ")"
def a2 (f x y : Str) : Str := f ++ "(" ++ (x ++ ", " ++ y) ++ ")"
theorem join1 (x : Str) (h : x.length ≤ 1000) {r : RV} {b : Bool} (hr : ∀ s, r.seq s = some (b, [.str x])) : oB gJoin (.v (.str ", ")) r = pur (.v (.str x)) := by
  have := join_s (a := ", ") (x := r) (ds := [.str x]) (ys := [x]) hr rfl (by rw [str3.2.2]; simp; omega)
  rw [this, TL.join_eq]; rfl
theorem join2 (x y : Str) (h : x.length ≤ 1000) (h2 : y.length ≤ 1000) {r : RV} {b : Bool} (hr : ∀ s, r.seq s = some (b, [.str x, .str y])) : oB gJoin (.v (.str ", ")) r = pur (.v (.str (x ++ ", " ++ y))) := by
  have := join_s (a := ", ") (x := r) (ds := [.str x, .str y]) (ys := [x, y]) hr rfl (by rw [str3.2.2]; simp; omega)
  rw [this, TL.join_eq]; rfl
theorem addP (f x : Str) (hf : f.length ≤ 10) (hx : x.length ≤ 3000) : oB gAdd (.v (.str f)) (.v (.str "(")) = pur (.v (.str (f ++ "("))) ∧ oB gAdd (.v (.str (f ++ "("))) (.v (.str x)) = pur (.v (.str (f ++ "(" ++ x))) ∧ oB gAdd (.v (.str (f ++ "(" ++ x))) (.v (.str ")")) = pur (.v (.str (f ++ "(" ++ x ++ ")"))) :=
  ⟨add_ss (by rw [str3.1]; omega), add_ss (by rw [slen, str3.1]; omega), add_ss (by rw [slen, slen, str3.1, str3.2.1]; omega)⟩
section
variable (n : Nat) (f : Str) (t u : Tm) (x y : Str)
theorem tt0 (hf : ¬ f = "") : (T (n + 1)).d_term_text (Tm.app f []).fv = pur (.v (.str f)) := by
  have hq := q_top (neg := false) (.app f [])
  rw [decide_eq_false (ne_top hf [])] at hq
  have hl : decide ((([FV.str f] : List FV).length : Int) = 1) = true := rfl
  rw [T_term_text, n_term_text]
  rw [fv_app, fvs_nil] at hq ⊢
  simp only [is_st, bnd_pur, oT_bl, Bool.false_eq_true, if_false, if_true, hq, len_t, q_ii, hl, ix_t0, ret_pur, toF_rt, gcM_pur']
theorem tt1 (hf : ¬ f = "") (lf : f.length ≤ 10) (hx : x.length ≤ 1000) (h : (T n).d_term_text t.fv = pur (.v (.str x))) : (T (n + 1)).d_term_text (Tm.app f [t]).fv = pur (.v (.str (a1 f x))) := by
  have hq := q_top (neg := false) (.app f [t])
  rw [decide_eq_false (ne_top hf _)] at hq
  have hl : decide ((([FV.str f, t.fv] : List FV).length : Int) = 1) = false := rfl
  obtain ⟨p1, p2, p3⟩ := addP f x lf (by omega)
  have hj := join1 x hx (r := .bl [.str x]) (b := false) fun _ => rfl
  rw [T_term_text, n_term_text]
  rw [fv_app, fvs_cons, fvs_nil] at hq ⊢
  simp only [is_st, bnd_pur, oT_bl, Bool.false_eq_true, if_false, hq, len_t, q_ii, hl, lst_nil, mL_l, sl_t1, mV_v, oW_tup]
  rw [forN_cons, h, mV_v, bnd_pur, app_lt (by decide), bnd_pur, bnd_pur]
  show gcM (toF (seqN (pur (.nx [FV.str x])) _)) = _
  simp only [seqN_nx, ix_t0, bnd_pur, p1, hj, p2, p3, ret_pur, toF_rt, gcM_pur']; rfl
theorem tt2 (hf : ¬ f = "") (lf : f.length ≤ 10) (hx : x.length ≤ 1000) (hy : y.length ≤ 1000) (h : (T n).d_term_text t.fv = pur (.v (.str x))) (h2 : (T n).d_term_text u.fv = pur (.v (.str y))) : (T (n + 1)).d_term_text (Tm.app f [t, u]).fv = pur (.v (.str (a2 f x y))) := by
  have hq := q_top (neg := false) (.app f [t, u])
  rw [decide_eq_false (ne_top hf _)] at hq
  have hl : decide ((([FV.str f, t.fv, u.fv] : List FV).length : Int) = 1) = false := rfl
  obtain ⟨p1, p2, p3⟩ := addP f (x ++ ", " ++ y) lf (by rw [slen, slen, str3.2.2]; omega)
  have hj := join2 x y hx hy (r := .bl [.str x, .str y]) (b := false) fun _ => rfl
  rw [T_term_text, n_term_text]
  rw [fv_app, fvs_cons, fvs_cons, fvs_nil] at hq ⊢
  simp only [is_st, bnd_pur, oT_bl, Bool.false_eq_true, if_false, hq, len_t, q_ii, hl, lst_nil, mL_l, sl_t1, mV_v, oW_tup]
  rw [forN_cons, h, mV_v, bnd_pur, app_lt (by decide), bnd_pur, bnd_pur]
  dsimp only
  rw [forN_cons, h2, mV_v, bnd_pur, app_lt (by show 1 < _; decide), bnd_pur, bnd_pur]
  show gcM (toF (seqN (pur (.nx [FV.str x, FV.str y])) _)) = _
  simp only [seqN_nx, ix_t0, bnd_pur, p1, hj, p2, p3, ret_pur, toF_rt, gcM_pur']; rfl
theorem lt0 : (T (n + 1)).d_law_text (Tm.app f []).fv = pur (.v (.str f)) := by
  have hl : decide ((([FV.str f] : List FV).length : Int) = 1) = true := rfl
  rw [T__law_text, n_law_text, fv_app, fvs_nil]
  simp only [is_st, bnd_pur, oT_bl, Bool.false_eq_true, if_false, if_true, len_t, q_ii, hl, ix_t0, ret_pur, toF_rt, gcM_pur']
theorem lt1 (lf : f.length ≤ 10) (hx : x.length ≤ 1000) (h : (T n).d_law_text t.fv = pur (.v (.str x))) : (T (n + 1)).d_law_text (Tm.app f [t]).fv = pur (.v (.str (a1 f x))) := by
  have hl : decide ((([FV.str f, t.fv] : List FV).length : Int) = 1) = false := rfl
  obtain ⟨p1, p2, p3⟩ := addP f x lf (by omega)
  have hj := join1 x hx (r := .l [.str x]) (b := false) fun _ => rfl
  have fl : filL (item some (fun _ => pur true) fun a => (T n).d_law_text a) [t.fv] = pur (.l [.str x]) := filL_all (e := Tm.fv) (f := fun _ => .str x) (xs := [t]) (fun z hz => by
    simp at hz; subst hz
    rw [item_some (x := z.fv) rfl, bnd_pur, if_pos rfl, h, mV_v, bnd_pur]) (by show 1 ≤ _; omega)
  rw [T__law_text, n_law_text, fv_app, fvs_cons, fvs_nil]
  simp only [is_st, bnd_pur, oT_bl, Bool.false_eq_true, if_false, len_t, q_ii, hl, sl_t1, mV_v, oW_tup, ix_t0, p1, fl, hj, p2, p3, ret_pur, toF_rt, gcM_pur', bnd_bnd]; rfl
theorem lt2 (lf : f.length ≤ 10) (hx : x.length ≤ 1000) (hy : y.length ≤ 1000) (h : (T n).d_law_text t.fv = pur (.v (.str x))) (h2 : (T n).d_law_text u.fv = pur (.v (.str y))) : (T (n + 1)).d_law_text (Tm.app f [t, u]).fv = pur (.v (.str (a2 f x y))) := by
  have hl : decide ((([FV.str f, t.fv, u.fv] : List FV).length : Int) = 1) = false := rfl
  obtain ⟨p1, p2, p3⟩ := addP f (x ++ ", " ++ y) lf (by rw [slen, slen, str3.2.2]; omega)
  have hj := join2 x y hx hy (r := .l [.str x, .str y]) (b := false) fun _ => rfl
  have fl : filL (item some (fun _ => pur true) fun a => (T n).d_law_text a) [t.fv, u.fv] = pur (.l [.str x, .str y]) := filL_all (e := fun p : Tm × Str => p.1.fv) (f := fun p => .str p.2) (xs := [(t, x), (u, y)]) (fun z hz => by
    rw [item_some (x := z.1.fv) rfl, bnd_pur, if_pos rfl]
    simp at hz
    rcases hz with rfl | rfl
    · rw [h, mV_v, bnd_pur]
    · rw [h2, mV_v, bnd_pur]) (by show 2 ≤ _; omega)
  rw [T__law_text, n_law_text, fv_app, fvs_cons, fvs_cons, fvs_nil]
  simp only [is_st, bnd_pur, oT_bl, Bool.false_eq_true, if_false, len_t, q_ii, hl, sl_t1, mV_v, oW_tup, ix_t0, p1, fl, hj, p2, p3, ret_pur, toF_rt, gcM_pur', bnd_bnd]; rfl
theorem tv (x : Str) : (T (n + 1)).d_term_text (.str x) = pur (.v (.str x)) := by
  rw [T_term_text, n_term_text]
  simp only [is_ss, bnd_pur, oT_bl, if_true, ret_pur, toF_rt, gcM_pur']
theorem lv (x : Str) : (T (n + 1)).d_law_text (.str x) = pur (.v (.str x)) := by
  rw [T__law_text, n_law_text]
  simp only [is_ss, bnd_pur, oT_bl, if_true, ret_pur, toF_rt, gcM_pur']
end
def tx : U → Str
  | .v b => vn b
  | .c b => cn b
  | .f t => a1 "f" (tx t)
theorem len1 (x : Str) : (a1 "f" x).length = x.length + 3 := by
  unfold a1
  rw [slen, slen, slen, str3.1, str3.2.1, show ("f" : Str).length = 1 by decide +kernel]; omega
theorem vnl (b : Bool) : (vn b).length = 1 := by cases b <;> decide +kernel
theorem cnl (b : Bool) : (cn b).length = 1 := by cases b <;> decide +kernel
theorem tx_len : ∀ u : U, (tx u).length ≤ 3 * u.d + 1
  | .v b => by rw [tx, vnl]; omega
  | .c b => by rw [tx, cnl]; omega
  | .f t => by have := tx_len t; rw [tx, len1, U.d]; omega
theorem u_text : ∀ (u : U) (n : Nat), u.d + 1 ≤ n → u.d ≤ 20 → (T n).d_term_text u.tm.fv = pur (.v (.str (tx u))) ∧ (T n).d_law_text u.tm.fv = pur (.v (.str (tx u)))
  | .v b, n, h, _ => by
    obtain ⟨n, rfl⟩ : ∃ k, n = k + 1 := ⟨n - 1, by omega⟩
    rw [U.tm, fv_var]; exact ⟨tv n _, lv n _⟩
  | .c b, n, h, _ => by
    obtain ⟨n, rfl⟩ : ∃ k, n = k + 1 := ⟨n - 1, by omega⟩
    exact ⟨tt0 n _ (cn_ne b), lt0 n _⟩
  | .f t, n, h, hd => by
    obtain ⟨n, rfl⟩ : ∃ k, n = k + 1 := ⟨n - 1, by omega⟩
    rw [U.d] at h hd
    obtain ⟨h1, h2⟩ := u_text t n (by omega) (by omega)
    have := tx_len t
    exact ⟨tt1 n _ _ _ fne (by decide +kernel) (by omega) h1, lt1 n _ _ _ (by decide +kernel) (by omega) h2⟩
/-- the left side's text -/
def lx : Qs → Str
  | .q => "Q"
  | .p t => a1 "P" (tx t)
  | .r t u => a2 "R" (tx t) (tx u)
  | .e t u => tx t
theorem l_text (q : Qs) (n : Nat) (h : q.d + 1 ≤ n) (hd : q.d ≤ 20) : (T n).d_term_text q.l.fv = pur (.v (.str (lx q))) ∧ (T n).d_law_text q.l.fv = pur (.v (.str (lx q))) := by
  obtain ⟨n, rfl⟩ : ∃ k, n = k + 1 := ⟨n - 1, by omega⟩
  cases q with
  | q => exact ⟨tt0 n _ Qne, lt0 n _⟩
  | p t =>
    rw [Qs.d] at h hd
    obtain ⟨h1, h2⟩ := u_text t n (by omega) (by omega)
    have := tx_len t
    exact ⟨tt1 n _ _ _ Pne (by decide +kernel) (by omega) h1, lt1 n _ _ _ (by decide +kernel) (by omega) h2⟩
  | r t u =>
    rw [Qs.d] at h hd
    obtain ⟨h1, h2⟩ := u_text t n (by omega) (by omega)
    obtain ⟨h3, h4⟩ := u_text u n (by omega) (by omega)
    have := tx_len t
    have := tx_len u
    exact ⟨tt2 n _ _ _ _ _ Rne (by decide +kernel) (by omega) (by omega) h1 h3, lt2 n _ _ _ _ _ (by decide +kernel) (by omega) (by omega) h2 h4⟩
  | e t u => rw [Qs.d] at h hd; exact u_text t (n + 1) (by omega) (by omega)
end Q87

namespace Q87
open PySem P
theorem Qs.lne (q : Qs) : ¬ q.l = topT := by
  cases q with
  | q => exact ne_top Qne _
  | p t => exact ne_top Pne _
  | r t u => exact ne_top Rne _
  | e t u => exact t.ne
def ltx : Lt → Str
  | (s, .e t u) => if s = true then tx t ++ " = " ++ tx u else tx t ++ " != " ++ tx u
  | (s, q) => if s = true then lx q else "not " ++ lx q
def isE : Qs → Bool
  | .e _ _ => true
  | _ => false
theorem rr_top {q : Qs} (h : isE q = false) : q.rr = topT := by cases q <;> first | rfl | cases h
theorem ltx_at {s : Bool} {q : Qs} (h : isE q = false) : ltx (s, q) = if s = true then lx q else "not " ++ lx q := by cases q <;> first | rfl | cases h
theorem lx_len (q : Qs) (h : q.d ≤ 20) : (lx q).length ≤ 300 := by
  cases q with
  | q => show ("Q" : Str).length ≤ 300; decide +kernel
  | p t => rw [Qs.d] at h; have := tx_len t; show (a1 "P" (tx t)).length ≤ 300; unfold a1; rw [slen, slen, slen, str3.1, str3.2.1, show ("P" : Str).length = 1 by decide +kernel]; omega
  | r t u => rw [Qs.d] at h; have := tx_len t; have := tx_len u; show (a2 "R" (tx t) (tx u)).length ≤ 300; unfold a2; rw [slen, slen, slen, slen, slen, str3.1, str3.2.1, str3.2.2, show ("R" : Str).length = 1 by decide +kernel]; omega
  | e t u => rw [Qs.d] at h; have := tx_len t; show (tx t).length ≤ 300; omega
theorem seps : (" = " : Str).length = 3 ∧ (" != " : Str).length = 4 ∧ ("not " : Str).length = 4 := by decide +kernel
theorem ltx_len (l : Lt) (h : l.2.d ≤ 20) : (ltx l).length ≤ 1000 := by
  obtain ⟨s, q⟩ := l
  have h1 := lx_len q h
  cases hq : isE q with
  | false =>
    rw [ltx_at hq]
    split
    · omega
    · rw [slen, seps.2.2]; omega
  | true =>
    cases q with
    | e t u =>
      have : max t.d u.d ≤ 20 := h
      have := tx_len t
      have := tx_len u
      rw [ltx]
      split
      · rw [slen, slen, seps.1]; omega
      · rw [slen, slen, seps.2.1]; omega
    | _ => cases hq
theorem lit_text (l : Lt) (n : Nat) (h : l.2.d + 2 ≤ n) (hd : l.2.d ≤ 20) : (T n).d_literal_text (litF l) = pur (.v (.str (ltx l))) ∧ (T n).d_law_said (litF l) = pur (.v (.str (ltx l))) := by
  obtain ⟨n, rfl⟩ : ∃ k, n = k + 1 := ⟨n - 1, by omega⟩
  obtain ⟨s, q⟩ := l
  have h0 : q.d + 2 ≤ n + 1 := h
  obtain ⟨t1, t2⟩ := l_text q n (by omega) hd
  have ll := lx_len q hd
  have q2 := q_top (neg := true) q.l
  rw [decide_eq_false q.lne, if_pos rfl] at q2
  have an : oB gAdd (.v (.str "not ")) (.v (.str (lx q))) = pur (.v (.str ("not " ++ lx q))) := add_ss (by rw [seps.2.2]; omega)
  rw [T_literal_text, n_literal_text, T__law_said, n_law_said]
  unfold litF tri
  dsimp only
  cases hq : isE q with
  | false =>
    have q1 := q_top (neg := false) q.rr
    rw [decide_eq_true (rr_top hq), if_neg Bool.false_ne_true] at q1
    rw [ltx_at hq]
    simp only [bnd_pur, bindT_tup, bCons_cons, bNil_nil, q1, q2, Bool.not_false, mAnd_t, if_true, oT_bl]
    cases s with
    | true => exact ⟨by simp only [if_true, t1, ret_pur, toF_rt, gcM_pur'], by simp only [if_true, t2, ret_pur, up_rt, toF_rt, gcM_pur', up_bnd, bnd_pur]⟩
    | false => exact ⟨by simp only [if_false, Bool.false_eq_true, t1, bnd_pur, an, ret_pur, toF_rt, gcM_pur'], by simp only [if_false, Bool.false_eq_true, t2, bnd_pur, an, ret_pur, up_rt, toF_rt, gcM_pur', up_bnd]⟩
  | true =>
    cases q with
    | e t u =>
      have hm : max t.d u.d ≤ 20 := hd
      have hm2 : max t.d u.d + 2 ≤ n + 1 := h0
      obtain ⟨u1, u2⟩ := u_text u n (by omega) (by omega)
      have q1 := q_top (neg := false) u.tm
      rw [decide_eq_false u.ne, if_neg Bool.false_ne_true] at q1
      have b1 := tx_len t
      have b2 := tx_len u
      have e1 : oB gAdd (.v (.str (tx t))) (.v (.str " = ")) = pur (.v (.str (tx t ++ " = "))) := add_ss (by rw [seps.1]; omega)
      have e2 : oB gAdd (.v (.str (tx t))) (.v (.str " != ")) = pur (.v (.str (tx t ++ " != "))) := add_ss (by rw [seps.2.1]; omega)
      have e3 : oB gAdd (.v (.str (tx t ++ " = "))) (.v (.str (tx u))) = pur (.v (.str (tx t ++ " = " ++ tx u))) := add_ss (by rw [slen, seps.1]; omega)
      have e4 : oB gAdd (.v (.str (tx t ++ " != "))) (.v (.str (tx u))) = pur (.v (.str (tx t ++ " != " ++ tx u))) := add_ss (by rw [slen, seps.2.1]; omega)
      rw [show Qs.rr (.e t u) = u.tm from rfl, show Qs.l (.e t u) = t.tm from rfl] at *
      rw [show lx (.e t u) = tx t from rfl] at t1 t2
      rw [ltx]
      simp only [bnd_pur, bindT_tup, bCons_cons, bNil_nil, q1, mAnd_f, Bool.false_eq_true, if_false, oT_bl]
      cases s with
      | true => exact ⟨by simp only [if_true, mV_v, bnd_pur, t1, u1, e1, e3, ret_pur, toF_rt, gcM_pur'], by simp only [if_true, t2, u2, bnd_pur, e1, e3, ret_pur, toF_rt, gcM_pur']⟩
      | false => exact ⟨by simp only [if_false, Bool.false_eq_true, mV_v, bnd_pur, t1, u1, e2, e4, ret_pur, toF_rt, gcM_pur'], by simp only [if_false, Bool.false_eq_true, t2, u2, bnd_pur, e2, e4, ret_pur, toF_rt, gcM_pur']⟩
    | _ => cases hq
/-- the one form -/
def fm : Lt → Lt
  | (s, .e t u) => if (tx u).cps.toList < (tx t).cps.toList then (s, .e u t) else (s, .e t u)
  | l => l
theorem fm_at {s : Bool} {q : Qs} (h : isE q = false) : fm (s, q) = (s, q) := by cases q <;> first | rfl | cases h
theorem fm_d (l : Lt) : (fm l).2.d = l.2.d := by
  obtain ⟨s, q⟩ := l
  cases q with
  | e t u =>
    rw [fm]
    split
    · exact Nat.max_comm _ _
    · rfl
  | _ => rfl
theorem make_ok (s : Bool) (q : Qs) (n : Nat) (h : q.d + 2 ≤ n) (hd : q.d ≤ 20) : (T n).d_make_literal (.bl s) q.l.fv q.rr.fv = pur (.v (litF (fm (s, q)))) ∧ (T n).d_law_formed (litF (s, q)) = pur (.v (litF (fm (s, q)))) := by
  obtain ⟨n, rfl⟩ : ∃ k, n = k + 1 := ⟨n - 1, by omega⟩
  have q2 := q_top (neg := false) q.l
  rw [decide_eq_false q.lne, if_neg Bool.false_ne_true] at q2
  rw [T_make_literal, n_make_literal, T__law_formed, n_law_formed]
  unfold litF tri
  dsimp only
  cases hq : isE q with
  | false =>
    have q1 := q_top (neg := false) q.rr
    rw [decide_eq_true (rr_top hq), if_neg Bool.false_ne_true] at q1
    have q3 := q_top (neg := true) q.rr
    rw [decide_eq_true (rr_top hq), if_pos rfl] at q3
    rw [fm_at hq]
    exact ⟨by simp only [q1, bnd_pur, if_true, tup_3, ret_pur, toF_rt, gcM_pur'], by simp only [bnd_pur, bindT_tup, bCons_cons, bNil_nil, q3, Bool.not_true, mAnd_f, Bool.false_eq_true, if_false, tup_3, ret_pur, toF_rt, gcM_pur']⟩
  | true =>
    cases q with
    | e t u =>
      have hm : max t.d u.d ≤ 20 := hd
      have hm2 : max t.d u.d + 2 ≤ n + 1 := h
      obtain ⟨u1, u2⟩ := u_text u n (by omega) (by omega)
      obtain ⟨t1, t2⟩ := u_text t n (by omega) (by omega)
      have q1 := q_top (neg := false) u.tm
      rw [decide_eq_false u.ne, if_neg Bool.false_ne_true] at q1
      have q3 := q_top (neg := true) u.tm
      rw [decide_eq_false u.ne, if_pos rfl] at q3
      rw [show Qs.rr (.e t u) = u.tm from rfl, show Qs.l (.e t u) = t.tm from rfl] at *
      rw [fm]
      simp only [q1, q2, q3, bnd_pur, Bool.false_eq_true, if_false, u1, t1, u2, t2, lt_ss, mOr_pp, Bool.false_or, bindT_tup, bCons_cons, bNil_nil, Bool.not_false, mAnd_t]
      by_cases hl : (tx u).cps.toList < (tx t).cps.toList
      · simp only [decide_eq_true hl, if_true, if_pos hl, tup_3, ret_pur, toF_rt, gcM_pur']
        exact ⟨rfl, rfl⟩
      · simp only [decide_eq_false hl, Bool.false_eq_true, if_false, if_neg hl, tup_3, ret_pur, toF_rt, gcM_pur']
        exact ⟨rfl, rfl⟩
    | _ => cases hq
def op (l : Lt) : Lt := (!l.1, l.2)
theorem opp_ok (l : Lt) (n : Nat) (h : 1 ≤ n) : (T n).d_opposite (litF l) = pur (.v (litF (op l))) := by
  obtain ⟨n, rfl⟩ : ∃ k, n = k + 1 := ⟨n - 1, by omega⟩
  rw [T_opposite, n_opposite]
  unfold litF tri op
  simp only [bnd_pur, bindT_tup, bCons_cons, bNil_nil, oNotV_bl, mV_v, tup_3, ret_pur, toF_rt, gcM_pur']
/-! as data -/
theorem U.inj : ∀ t u : U, t.tm = u.tm → t = u
  | .v a, .v b, h => by
    simp only [U.tm, Tm.var.injEq] at h
    cases a <;> cases b <;> first | rfl | (exact absurd h (by decide +kernel))
  | .c a, .c b, h => by
    simp only [U.tm, Tm.app.injEq] at h
    cases a <;> cases b <;> first | rfl | (exact absurd h.1 (by decide +kernel))
  | .f t, .f u, h => by
    simp only [U.tm, Tm.app.injEq, List.cons.injEq] at h
    rw [U.inj t u h.2.1]
  | .v _, .c _, h => by simp [U.tm] at h
  | .v _, .f _, h => by simp [U.tm] at h
  | .c _, .v _, h => by simp [U.tm] at h
  | .c _, .f _, h => by simp [U.tm] at h
  | .f _, .v _, h => by simp [U.tm] at h
  | .f _, .c _, h => by simp [U.tm] at h
theorem PQR : (¬ ("P" : Str) = "Q") ∧ (¬ ("P" : Str) = "R") ∧ (¬ ("Q" : Str) = "R") := by decide +kernel
theorem Qs.inj : ∀ p q : Qs, p.l = q.l → p.rr = q.rr → p = q
  | .e t u, .e t' u', h, h2 => by rw [U.inj t t' h, U.inj u u' h2]
  | .e t u, .q, h, h2 => absurd h2 u.ne
  | .e t u, .p _, h, h2 => absurd h2 u.ne
  | .e t u, .r _ _, h, h2 => absurd h2 u.ne
  | .q, .e t u, h, h2 => absurd h2.symm u.ne
  | .p _, .e t u, h, h2 => absurd h2.symm u.ne
  | .r _ _, .e t u, h, h2 => absurd h2.symm u.ne
  | .q, .q, h, h2 => rfl
  | .p t, .p u, h, h2 => by
    simp only [Qs.l, Tm.app.injEq, List.cons.injEq] at h
    rw [U.inj t u h.2.1]
  | .r t u, .r t' u', h, h2 => by
    simp only [Qs.l, Tm.app.injEq, List.cons.injEq] at h
    rw [U.inj t t' h.2.1, U.inj u u' h.2.2.1]
  | .p _, .q, h, h2 => by simp [Qs.l] at h
  | .q, .p _, h, h2 => by simp [Qs.l] at h
  | .q, .r _ _, h, h2 => by simp [Qs.l] at h
  | .r _ _, .q, h, h2 => by simp [Qs.l] at h
  | .p _, .r _ _, h, h2 => by simp [Qs.l] at h
  | .r _ _, .p _, h, h2 => by simp [Qs.l] at h
theorem Qs.dl (q : Qs) : q.l.dep ≤ q.d ∧ q.rr.dep ≤ q.d + 1 := by
  cases q with
  | q => simp [Qs.l, Qs.rr, Qs.d, depTop]
  | p t => simp [Qs.l, Qs.rr, Qs.d, depTop, U.dep]
  | r t u => simp [Qs.l, Qs.rr, Qs.d, depTop, U.dep]
  | e t u => simp only [Qs.l, Qs.rr, Qs.d, U.dep]; omega
theorem encL : Enc litF (fun l : Lt => l.2.d ≤ 50) where
  pu l := by unfold litF tri; simp [FV.pure, FV.pures, fv_pure]
  dp l h := by
    have := l.2.dl
    unfold litF tri
    simp only [FV.py, FV.pys, PyData.depth, PyData.depthAll, fv_depth]; omega
  eq a b := by
    unfold litF tri
    simp only [FV.py, FV.pys, PyData.eqv, PyData.eqvAll, fv_eqv, Tm.beq_dec, Bool.and_true]
    have : decide (a = b) = (decide (a.1 = b.1) && (decide (a.2.l = b.2.l) && decide (a.2.rr = b.2.rr))) := by
      rw [← Bool.decide_and, ← Bool.decide_and]
      exact decide_eq_decide.mpr ⟨fun h => by subst h; exact ⟨rfl, rfl, rfl⟩, fun ⟨h1, h2, h3⟩ => Prod.ext h1 (Qs.inj _ _ h2 h3)⟩
    rw [this]
    rfl
end Q87

namespace Q87
open PySem P
/-! texts tell literals apart -/
theorem cat (a b : Str) : (a ++ b).cps.toList = a.cps.toList ++ b.cps.toList := by
  show (a.cps ++ b.cps).toList = _
  rw [Array.toList_append]
def tl : U → List Nat
  | .v b => if b = true then [121] else [120]
  | .c b => if b = true then [98] else [97]
  | .f t => 102 :: 40 :: (tl t ++ [41])
theorem cs1 : ("x" : Str).cps.toList = [120] ∧ ("y" : Str).cps.toList = [121] ∧ ("a" : Str).cps.toList = [97] ∧ ("b" : Str).cps.toList = [98] ∧ ("f" : Str).cps.toList = [102] ∧ ("(" : Str).cps.toList = [40] ∧ (")" : Str).cps.toList = [41] := by decide +kernel
theorem cs2 : ("P" : Str).cps.toList = [80] ∧ ("Q" : Str).cps.toList = [81] ∧ ("R" : Str).cps.toList = [82] ∧ (", " : Str).cps.toList = [44, 32] ∧ (" = " : Str).cps.toList = [32, 61, 32] ∧ (" != " : Str).cps.toList = [32, 33, 61, 32] ∧ ("not " : Str).cps.toList = [110, 111, 116, 32] := by decide +kernel
theorem tx_cs : ∀ u : U, (tx u).cps.toList = tl u
  | .v b => by cases b <;> simp only [tx, vn, tl, Bool.false_eq_true, if_true, if_false, cs1.1, cs1.2.1]
  | .c b => by cases b <;> simp only [tx, cn, tl, Bool.false_eq_true, if_true, if_false, cs1.2.2.1, cs1.2.2.2.1]
  | .f t => by
    rw [tx, a1, cat, cat, cat, tx_cs t, cs1.2.2.2.2.1, cs1.2.2.2.2.2.1, cs1.2.2.2.2.2.2, tl]; rfl
/-- how a term's text begins -/
theorem tl_head : ∀ u : U, ∃ a r, tl u = a :: r ∧ (a = 120 ∨ a = 121 ∨ a = 97 ∨ a = 98 ∨ a = 102)
  | .v b => by cases b <;> exact ⟨_, _, rfl, by simp⟩
  | .c b => by cases b <;> exact ⟨_, _, rfl, by simp⟩
  | .f t => ⟨_, _, rfl, by simp⟩
theorem tl_no : ∀ u : U, 32 ∉ tl u ∧ 44 ∉ tl u
  | .v b => by cases b <;> decide
  | .c b => by cases b <;> decide
  | .f t => by
    obtain ⟨h1, h2⟩ := tl_no t
    rw [tl]
    simp [h1, h2]
theorem tl_inj : ∀ t u : U, tl t = tl u → t = u
  | .v a, .v b, h => by cases a <;> cases b <;> first | rfl | (exact absurd h (by decide))
  | .v a, .c b, h => by cases a <;> cases b <;> exact absurd h (by decide)
  | .c a, .v b, h => by cases a <;> cases b <;> exact absurd h (by decide)
  | .c a, .c b, h => by cases a <;> cases b <;> first | rfl | (exact absurd h (by decide))
  | .v a, .f t, h => by cases a <;> simp [tl] at h
  | .c a, .f t, h => by cases a <;> simp [tl] at h
  | .f t, .v a, h => by cases a <;> simp [tl] at h
  | .f t, .c a, h => by cases a <;> simp [tl] at h
  | .f t, .f u, h => by
    rw [tl, tl] at h
    simp only [List.cons.injEq, true_and] at h
    rw [tl_inj t u (List.append_cancel_right h)]
/-- parted at a sign that neither has -/
theorem part {c : Nat} : ∀ {a b a' b' : List Nat}, c ∉ a → c ∉ b → a ++ c :: a' = b ++ c :: b' → a = b ∧ a' = b'
  | [], [], a', b', _, _, h => by simp at h; exact ⟨rfl, h⟩
  | [], y :: b, a', b', _, hb, h => by
    simp at h
    exact absurd (by rw [h.1]; exact List.mem_cons_self) hb
  | x :: a, [], a', b', ha, _, h => by
    simp at h
    exact absurd (by rw [← h.1]; exact List.mem_cons_self) ha
  | x :: a, y :: b, a', b', ha, hb, h => by
    simp only [List.cons_append, List.cons.injEq] at h
    obtain ⟨h1, h2⟩ := part (fun z => ha (List.mem_cons_of_mem _ z)) (fun z => hb (List.mem_cons_of_mem _ z)) h.2
    exact ⟨by rw [h.1, h1], h2⟩
/-- the left side's codes -/
def ll : Qs → List Nat
  | .q => [81]
  | .p t => 80 :: 40 :: (tl t ++ [41])
  | .r t u => 82 :: 40 :: (tl t ++ 44 :: 32 :: (tl u ++ [41]))
  | .e t u => tl t
theorem lx_cs (q : Qs) : (lx q).cps.toList = ll q := by
  cases q with
  | q => exact cs2.2.1
  | p t => rw [lx, a1, cat, cat, cat, tx_cs, cs2.1, cs1.2.2.2.2.2.1, cs1.2.2.2.2.2.2]; rfl
  | r t u => rw [lx, a2, cat, cat, cat, cat, cat, tx_cs, tx_cs, cs2.2.2.1, cs2.2.2.2.1, cs1.2.2.2.2.2.1, cs1.2.2.2.2.2.2, ll]; simp
  | e t u => exact tx_cs t
/-- a literal's codes -/
def lc : Lt → List Nat
  | (true, .e t u) => tl t ++ 32 :: 61 :: 32 :: tl u
  | (false, .e t u) => tl t ++ 32 :: 33 :: 61 :: 32 :: tl u
  | (true, q) => ll q
  | (false, q) => 110 :: 111 :: 116 :: 32 :: ll q
theorem ltx_cs (l : Lt) : (ltx l).cps.toList = lc l := by
  obtain ⟨s, q⟩ := l
  cases q with
  | e t u =>
    rw [ltx]
    cases s with
    | true => rw [if_pos rfl, cat, cat, tx_cs, tx_cs, cs2.2.2.2.2.1, lc]; simp
    | false => rw [if_neg Bool.false_ne_true, cat, cat, tx_cs, tx_cs, cs2.2.2.2.2.2.1, lc]; simp
  | _ =>
    rw [ltx_at rfl]
    cases s with
    | true => rw [if_pos rfl, lx_cs]; rfl
    | false => rw [if_neg Bool.false_ne_true, cat, lx_cs, cs2.2.2.2.2.2.2]; rfl
theorem ll_inj : ∀ p q : Qs, isE p = false → isE q = false → ll p = ll q → p = q
  | .q, .q, _, _, _ => rfl
  | .p t, .p u, _, _, h => by
    simp only [ll, List.cons.injEq, true_and] at h
    rw [tl_inj t u (List.append_cancel_right h)]
  | .r t u, .r t' u', _, _, h => by
    simp only [ll, List.cons.injEq, true_and] at h
    obtain ⟨h1, h2⟩ := part (tl_no t).2 (tl_no t').2 h
    simp only [List.cons.injEq, true_and] at h2
    rw [tl_inj t t' h1, tl_inj u u' (List.append_cancel_right h2)]
  | .q, .p _, _, _, h => by simp [ll] at h
  | .q, .r _ _, _, _, h => by simp [ll] at h
  | .p _, .q, _, _, h => by simp [ll] at h
  | .p _, .r _ _, _, _, h => by simp [ll] at h
  | .r _ _, .q, _, _, h => by simp [ll] at h
  | .r _ _, .p _, _, _, h => by simp [ll] at h
theorem ll_head (q : Qs) (h : isE q = false) : ∃ a r, ll q = a :: r ∧ (a = 80 ∨ a = 81 ∨ a = 82) := by
  cases q with
  | e t u => cases h
  | _ => exact ⟨_, _, rfl, by simp⟩
theorem lc_at (s : Bool) {q : Qs} (h : isE q = false) : lc (s, q) = if s = true then ll q else 110 :: 111 :: 116 :: 32 :: ll q := by
  cases q with
  | e t u => cases h
  | _ => cases s <;> rfl
theorem lc_inj (a b : Lt) (h : lc a = lc b) : a = b := by
  obtain ⟨s, p⟩ := a
  obtain ⟨s', q⟩ := b
  have mix : ∀ (s s' : Bool) (t u : U) (q : Qs), isE q = false → lc (s, .e t u) = lc (s', q) → False := fun s s' t u q hq h => by
    obtain ⟨x, r, e, hx⟩ := tl_head t
    obtain ⟨y, r', e', hy⟩ := ll_head q hq
    rw [lc_at s' hq] at h
    have h1 : ∃ r2, lc (s, .e t u) = x :: r2 := by cases s <;> exact ⟨_, by rw [lc, e]; rfl⟩
    obtain ⟨r2, h1⟩ := h1
    rw [h1, e'] at h
    cases s' with
    | true => rw [if_pos rfl] at h; have := (List.cons.injEq ..).mp h; omega
    | false => rw [if_neg Bool.false_ne_true] at h; have := (List.cons.injEq ..).mp h; omega
  cases hp : isE p with
  | false =>
    cases hq : isE q with
    | false =>
      rw [lc_at s hp, lc_at s' hq] at h
      obtain ⟨x, r, e, hx⟩ := ll_head p hp
      obtain ⟨y, r', e', hy⟩ := ll_head q hq
      cases s <;> cases s'
      · simp only [Bool.false_eq_true, if_false, List.cons.injEq, true_and] at h
        rw [ll_inj p q hp hq h]
      · simp only [Bool.false_eq_true, if_false, if_true, e', List.cons.injEq] at h; omega
      · simp only [Bool.false_eq_true, if_false, if_true, e, List.cons.injEq] at h; omega
      · simp only [if_true] at h
        rw [ll_inj p q hp hq h]
    | true =>
      cases q with
      | e t u => exact (mix s' s t u p hp h.symm).elim
      | _ => cases hq
  | true =>
    cases p with
    | e t u =>
      cases hq : isE q with
      | false => exact (mix s s' t u q hq h).elim
      | true =>
        cases q with
        | e t' u' =>
          cases s <;> cases s' <;> (rw [lc, lc] at h; obtain ⟨h1, h2⟩ := part (tl_no t).1 (tl_no t').1 h)
          · simp only [List.cons.injEq, true_and] at h2
            rw [tl_inj t t' h1, tl_inj u u' h2]
          · simp at h2
          · simp at h2
          · simp only [List.cons.injEq, true_and] at h2
            rw [tl_inj t t' h1, tl_inj u u' h2]
        | _ => cases hq
    | _ => cases hp
theorem ltx_inj (a b : Lt) (h : ltx a = ltx b) : a = b := lc_inj a b (by rw [← ltx_cs, ← ltx_cs, h])
end Q87

namespace Q87
open PySem P
/-- the loop that keeps each once -/
theorem dd_walk {α : Type} [DecidableEq α] {e : α → FV} {A : α → Prop} (E : Enc e A) (na : ∀ a z, e a ≠ .str z ∨ True) {β : Type} {F : List FV → FV → M (Fl (List FV) (List FV))}
    (hF : ∀ (acc : List α) a, A a → acc.length < 16000000 → F (acc.map e) (e a) = pur (.nx ((addD acc a).map e))) :
    ∀ (xs acc : List α), (∀ a, a ∈ xs → A a) → acc.length + xs.length < 16000000 → (forN F (xs.map e) (acc.map e) : M (Fl (List FV) β)) = pur (.nx ((xs.foldl addD acc).map e))
  | [], acc, _, _ => rfl
  | x :: xs, acc, h, hl => by
    rw [List.length_cons] at hl
    have l2 : (addD acc x).length ≤ acc.length + 1 := by
      unfold addD
      split
      · omega
      · rw [List.length_append]; exact Nat.le_refl _
    rw [List.map_cons, forN_cons, hF acc x (h x List.mem_cons_self) (by omega), bnd_pur]
    exact dd_walk E na hF xs (addD acc x) (fun a ha => h a (List.mem_cons_of_mem _ ha)) (by omega)
theorem add_turn {α : Type} [DecidableEq α] {e : α → FV} (acc : List α) (a : α) (hl : acc.length < 16000000) :
    (bnd (pur (!memD a acc)) fun c => if c = true then (bnd (oApp (acc.map e) (e a)) fun r => (pur (.nx r) : M (Fl (List FV) (List FV)))) else pur (.nx (acc.map e))) = pur (.nx ((addD acc a).map e)) := by
  have l : (acc.map e).length < 16000000 := by rw [List.length_map]; exact hl
  rw [bnd_pur]
  unfold addD memD
  by_cases h : a ∈ acc
  · rw [decide_eq_true h, if_pos h]; rfl
  · rw [decide_eq_false h, if_neg h, Bool.not_false, if_pos rfl, app_lt l, bnd_pur, List.map_append]; rfl
theorem litN (l : Lt) (z : Str) : litF l ≠ .str z := fun h => by unfold litF tri at h; cases h
theorem litR (l : Lt) (z : Nat) : litF l ≠ .ref z := fun h => by unfold litF tri at h; cases h
def Small (m : Nat) (xs : List Lt) : Prop := ∀ l, l ∈ xs → l.2.d ≤ m
def MC (xs : List Lt) : List Lt := dd (srt ltx xs)
def LC (xs : List Lt) : List Lt := srt ltx (dd (xs.map fm))
theorem mc_lc {xs ys : List Lt} (h : ∀ a, a ∈ xs ↔ a ∈ ys.map fm) : MC xs = LC ys := srt_dd ltx h fun a b _ _ e => ltx_inj a b e
theorem mem_MC {xs : List Lt} {a : Lt} : a ∈ MC xs ↔ a ∈ xs := by unfold MC; rw [mem_dd, mem_srt]
theorem mem_LC {xs : List Lt} {a : Lt} : a ∈ LC xs ↔ a ∈ xs.map fm := by unfold LC; rw [mem_srt, mem_dd]
theorem make_clause (n : Nat) (xs : List Lt) (v : FV) {b : Bool} (hv : ∀ h, (RV.v v).seq h = some (b, xs.map litF)) (hn : 30 ≤ n) (hs : Small 20 xs) (hl : xs.length ≤ 1000) : (T n).d_make_clause v = pur (.v (.tup ((MC xs).map litF))) := by
  obtain ⟨n, rfl⟩ : ∃ k, n = k + 1 := ⟨n - 1, by omega⟩
  have so := sortK_ok (g := (T n).d_literal_text) (e := litF) (k := ltx) (xs := xs) hv fun a ha => (lit_text a n (by have := hs a ha; omega) (hs a ha)).1
  rw [T_make_clause, n_make_clause]
  have lp := dd_walk encL (fun _ _ => .inr trivial) (β := Empty) (F := fun clause_4 literal_3 => (bnd (oC (gMx true) (.v literal_3) (.bl clause_4)) fun c_5 => if c_5 = true then (bnd (oApp clause_4 literal_3) fun clause_6 => (pur (.nx clause_6))) else (pur (.nx clause_4)))) (fun acc a ha hl => by
    have := encL.mx (neg := true) (a := a) (xs := acc) (y := .bl (acc.map litF)) (b := false) ha (litR a) fun _ => rfl
    rw [if_pos rfl] at this
    rw [this]
    exact add_turn acc a hl) (srt ltx xs) [] (fun a ha => by have := hs a ((mem_srt ltx).mp ha); omega) (by rw [len_srt]; show 0 + _ < _; omega)
  rw [lst_nil, mL_l, bnd_pur, so, mV_l, bnd_pur, oW_fl, bnd_pur]
  rw [List.map_nil] at lp
  rw [lp]
  simp only [seqN_nx, tup_bl, ret_pur, toF_rt, gcM_pur']
  rfl
theorem law_clause (n : Nat) (xs : List Lt) (hn : 30 ≤ n) (hs : Small 20 xs) (hl : xs.length ≤ 1000) : (T n).d_law_clause (.fl (xs.map litF)) = pur (.v (.tup ((LC xs).map litF))) := by
  obtain ⟨n, rfl⟩ : ∃ k, n = k + 1 := ⟨n - 1, by omega⟩
  have dsm : ∀ a, a ∈ dd (xs.map fm) → a.2.d ≤ 20 := fun a ha => by
    obtain ⟨l, hl, rfl⟩ := List.mem_map.mp (mem_dd.mp ha)
    rw [fm_d]; exact hs l hl
  have so := sortK_ok (g := (T n).d_law_said) (e := litF) (k := ltx) (xs := dd (xs.map fm)) (x := .bl ((dd (xs.map fm)).map litF)) (b := false) (fun _ => rfl) fun a ha => (lit_text a n (by have := dsm a ha; omega) (dsm a ha)).2
  rw [T__law_clause, n_law_clause]
  -- the loop takes the literals' forms
  have lp : ∀ (ys acc : List Lt), Small 20 ys → acc.length + ys.length < 16000000 → (forN (fun law_row_3 law_literal_here_2 => (bnd (mV ((T n).d_law_formed law_literal_here_2)) fun law_formed_here_4 => (bnd (oC (gMx true) (.v law_formed_here_4) (.bl law_row_3)) fun c_5 => if c_5 = true then (bnd (oApp law_row_3 law_formed_here_4) fun law_row_6 => (pur (.nx law_row_6))) else (pur (.nx law_row_3))))) (ys.map litF) (acc.map litF) : M (Fl (List FV) Empty)) = pur (.nx (((ys.map fm).foldl addD acc).map litF)) := fun ys => by
    induction ys with
    | nil => intro acc _ _; rfl
    | cons y ys ih =>
      intro acc h hl
      have hy : y.2.d ≤ 20 := h y List.mem_cons_self
      rw [List.length_cons] at hl
      have l2 : (addD acc (fm y)).length ≤ acc.length + 1 := by
        unfold addD
        split
        · omega
        · rw [List.length_append]; exact Nat.le_refl _
      have mk := (make_ok y.1 y.2 n (by omega) hy).2
      have := encL.mx (neg := true) (a := fm y) (xs := acc) (y := .bl (acc.map litF)) (b := false) (show (fm y).2.d ≤ 50 by rw [fm_d]; omega) (litR _) fun _ => rfl
      rw [if_pos rfl] at this
      rw [List.map_cons, forN_cons, show litF y = litF (y.1, y.2) from rfl, mk, mV_v, bnd_pur, this, add_turn acc (fm y) (by omega), bnd_pur]
      exact ih (addD acc (fm y)) (fun a ha => h a (List.mem_cons_of_mem _ ha)) (by omega)
  have lp2 := lp xs [] hs (by show 0 + _ < _; omega)
  rw [List.map_nil] at lp2
  rw [lst_nil, mL_l, bnd_pur, oW_fl, bnd_pur, lp2]
  rw [show (xs.map fm).foldl addD [] = dd (xs.map fm) from rfl]
  simp only [seqN_nx, so, bnd_pur, tup_l, ret_pur, toF_rt, gcM_pur']
  rfl
theorem sl_t01 (x : FV) (xs : List FV) : oSl (.v (.tup (x :: xs))) none (some 1) = pur (.v (.tup [x])) := by
  have : cutF (x :: xs) none (some 1) = [x] := by
    unfold cutF
    rw [show (some (1 : Int)) = some ((1 : Nat) : Int) from rfl, HT.sIx_nat, HT.sIx_none]
    have : min 1 (x :: xs).length = 1 := by rw [List.length_cons]; omega
    rw [this]
    simp
  rw [sl_t, this]
/-! filling -/
def fl (σ : Bool → Option U) : U → U
  | .v b => (σ b).getD (.v b)
  | .c b => .c b
  | .f t => .f (fl σ t)
def flQ (σ : Bool → Option U) : Qs → Qs
  | .q => .q
  | .p t => .p (fl σ t)
  | .r t u => .r (fl σ t) (fl σ u)
  | .e t u => .e (fl σ t) (fl σ u)
/-- a dict for a filling -/
def IsD (D : FV) (σ : Bool → Option U) : Prop := ∃ ks vs, D = .fd ks vs ∧ ∀ b, lookK (ks.zip vs) (keyS (vn b)) = (σ b).map fun u => u.tm.fv
section
variable {D : FV} {σ : Bool → Option U}
theorem fill_app (n : Nat) (f : Str) (ps : List (Tm × Tm)) (hl : ps.length ≤ 10) (h1 : ∀ p, p ∈ ps → (T n).d_fill_term p.1.fv D = pur (.v p.2.fv)) (h2 : ∀ p, p ∈ ps → (T n).d_law_filled p.1.fv D = pur (.v p.2.fv)) :
    (T (n + 1)).d_fill_term (Tm.app f (ps.map (·.1))).fv D = pur (.v (Tm.app f (ps.map (·.2))).fv) ∧ (T (n + 1)).d_law_filled (Tm.app f (ps.map (·.1))).fv D = pur (.v (Tm.app f (ps.map (·.2))).fv) := by
  have f1 : filL (item some (fun _ => pur true) fun a => (T n).d_fill_term a D) (Tm.fvs (ps.map (·.1))) = pur (.l (Tm.fvs (ps.map (·.2)))) := by
    rw [fvs_map, fvs_map, List.map_map, List.map_map]
    exact filL_all (e := fun p : Tm × Tm => p.1.fv) (f := fun p => p.2.fv) (xs := ps) (fun p hp => by
      rw [item_some (x := p.1.fv) rfl, bnd_pur, if_pos rfl]
      rw [h1 p hp, mV_v, bnd_pur]) (by omega)
  have f2 : filL (item some (fun _ => pur true) fun a => (T n).d_law_filled a D) (Tm.fvs (ps.map (·.1))) = pur (.l (Tm.fvs (ps.map (·.2)))) := by
    rw [fvs_map, fvs_map, List.map_map, List.map_map]
    exact filL_all (e := fun p : Tm × Tm => p.1.fv) (f := fun p => p.2.fv) (xs := ps) (fun p hp => by
      rw [item_some (x := p.1.fv) rfl, bnd_pur, if_pos rfl]
      rw [h2 p hp, mV_v, bnd_pur]) (by omega)
  have a2 : oB gAdd (.l [.str f]) (.l (Tm.fvs (ps.map (·.2)))) = pur (.l ([.str f] ++ Tm.fvs (ps.map (·.2)))) := add_l_l (by rw [fvs_len, List.length_map]; show 1 + _ ≤ _; omega)
  have a1 : oB gAdd (.v (.tup [.str f])) (.v (.tup (Tm.fvs (ps.map (·.2))))) = pur (.v (.tup ([.str f] ++ Tm.fvs (ps.map (·.2))))) := add_tt (by rw [fvs_len, List.length_map]; show 1 + _ ≤ _; omega)
  rw [T_fill_term, n_fill_term, T__law_filled, n_law_filled, fv_app, fv_app]
  constructor
  · simp only [is_st, bnd_pur, oT_bl, Bool.false_eq_true, if_false, sl_t01, sl_t1, mV_v, oW_tup, bnd_bnd, f1, tup_l, a1, ret_pur, toF_rt, gcM_pur']; rfl
  · simp only [is_st, bnd_pur, oT_bl, Bool.false_eq_true, if_false, ix_t0, sl_t1, mV_v, oW_tup, bnd_bnd, lst_1, f2, a2, tup_l, ret_pur, toF_rt, gcM_pur']; rfl
theorem u_fill (hD : IsD D σ) : ∀ (u : U) (n : Nat), u.d + 1 ≤ n → (T n).d_fill_term u.tm.fv D = pur (.v (fl σ u).tm.fv) ∧ (T n).d_law_filled u.tm.fv D = pur (.v (fl σ u).tm.fv)
  | .v b, n, h => by
    obtain ⟨n, rfl⟩ : ∃ k, n = k + 1 := ⟨n - 1, by omega⟩
    obtain ⟨ks, vs, rfl, hk⟩ := hD
    have e := get_fd (ks := ks) (vs := vs) (k := .str (vn b)) (d := .str (vn b)) (kk := keyS (vn b)) rfl
    rw [hk b] at e
    rw [T_fill_term, n_fill_term, T__law_filled, n_law_filled, U.tm, fv_var, fl]
    simp only [is_ss, bnd_pur, oT_bl, if_true, oDk_fd, e, ret_pur, toF_rt, gcM_pur']
    cases σ b with
    | none => exact ⟨by simp [U.tm], by simp [U.tm]⟩
    | some u => exact ⟨by simp, by simp⟩
  | .c b, n, h => by
    obtain ⟨n, rfl⟩ : ∃ k, n = k + 1 := ⟨n - 1, by omega⟩
    exact fill_app n (cn b) [] (Nat.zero_le _) (fun p hp => nomatch hp) fun p hp => nomatch hp
  | .f t, n, h => by
    obtain ⟨n, rfl⟩ : ∃ k, n = k + 1 := ⟨n - 1, by omega⟩
    rw [U.d] at h
    obtain ⟨h1, h2⟩ := u_fill hD t n (by omega)
    exact fill_app n "f" [(t.tm, (fl σ t).tm)] (by show 1 ≤ 10; omega) (fun p hp => by simp at hp; subst hp; exact h1) fun p hp => by simp at hp; subst hp; exact h2
theorem q_fill (hD : IsD D σ) (q : Qs) (n : Nat) (h : q.d + 2 ≤ n) : ((T n).d_fill_term q.l.fv D = pur (.v (flQ σ q).l.fv) ∧ (T n).d_law_filled q.l.fv D = pur (.v (flQ σ q).l.fv)) ∧ (T n).d_fill_term q.rr.fv D = pur (.v (flQ σ q).rr.fv) ∧ (T n).d_law_filled q.rr.fv D = pur (.v (flQ σ q).rr.fv) := by
  obtain ⟨n, rfl⟩ : ∃ k, n = k + 1 := ⟨n - 1, by omega⟩
  have top := fill_app (D := D) n "" [] (Nat.zero_le _) (fun p hp => nomatch hp) fun p hp => nomatch hp
  cases q with
  | q => exact ⟨fill_app n "Q" [] (Nat.zero_le _) (fun p hp => nomatch hp) fun p hp => (nomatch hp), top⟩
  | p t =>
    rw [Qs.d] at h
    obtain ⟨h1, h2⟩ := u_fill hD t n (by omega)
    exact ⟨fill_app n "P" [(t.tm, (fl σ t).tm)] (by show 1 ≤ 10; omega) (fun p hp => by simp at hp; subst hp; exact h1) fun p hp => by simp at hp; subst hp; exact h2, top⟩
  | r t u =>
    rw [Qs.d] at h
    obtain ⟨h1, h2⟩ := u_fill hD t n (by omega)
    obtain ⟨h3, h4⟩ := u_fill hD u n (by omega)
    exact ⟨fill_app n "R" [(t.tm, (fl σ t).tm), (u.tm, (fl σ u).tm)] (by show 2 ≤ 10; omega) (fun p hp => by
      simp at hp
      rcases hp with rfl | rfl
      · exact h1
      · exact h3) fun p hp => by
      simp at hp
      rcases hp with rfl | rfl
      · exact h2
      · exact h4, top⟩
  | e t u =>
    rw [Qs.d] at h
    exact ⟨u_fill hD t (n + 1) (by omega), u_fill hD u (n + 1) (by omega)⟩
end
theorem fl_d {σ : Bool → Option U} {m : Nat} (h : ∀ b u, σ b = some u → u.d ≤ m) : ∀ u : U, (fl σ u).d ≤ u.d + m
  | .v b => by
    rw [fl]
    cases q : σ b with
    | none => simp [U.d]
    | some u => have := h b u q; simp; omega
  | .c b => by rw [fl]; omega
  | .f t => by have := fl_d h t; rw [fl, U.d, U.d]; omega
theorem flQ_d {σ : Bool → Option U} {m : Nat} (h : ∀ b u, σ b = some u → u.d ≤ m) (q : Qs) : (flQ σ q).d ≤ q.d + m := by
  cases q with
  | q => rw [flQ]; omega
  | p t => have := fl_d h t; rw [flQ, Qs.d, Qs.d]; omega
  | r t u => have := fl_d h t; have := fl_d h u; rw [flQ, Qs.d, Qs.d]; omega
  | e t u => have := fl_d h t; have := fl_d h u; rw [flQ, Qs.d, Qs.d]; omega
end Q87

namespace Q87
open PySem P
/-! names -/
def isL (r : RV) (xs : List FV) : Prop := r = .l xs ∨ r = .v (.fl xs)
abbrev txF (x : Str) : FV := .str x
theorem encS : Enc txF (fun _ : Str => True) where
  pu a := rfl
  dp a _ := by simp [FV.py, PyData.depth]
  eq a b := str_eqv a b
theorem add_isL {r s : RV} {i j : List FV} (h1 : isL r i) (h2 : isL s j) (h : i.length + j.length ≤ 16000000) : oB gAdd r s = pur (.l (i ++ j)) := by
  rcases h1 with rfl | rfl <;> rcases h2 with rfl | rfl
  · exact add_l_l h
  · exact add_l_f h
  · exact add_f_l h
  · exact add_lfl h
def nmU : U → List Str
  | .v b => [vn b]
  | .c _ => []
  | .f t => nmU t
def lnm : Qs → List Str
  | .q => []
  | .p t => nmU t
  | .r t u => nmU t ++ nmU u
  | .e t u => nmU t
def rnm : Qs → List Str
  | .e t u => nmU u
  | _ => []
theorem nm_len : ∀ u : U, (nmU u).length ≤ 1
  | .v _ => Nat.le_refl _
  | .c _ => Nat.zero_le _
  | .f t => nm_len t
theorem lnm_len (q : Qs) : (lnm q).length ≤ 2 ∧ (rnm q).length ≤ 1 := by
  cases q with
  | q => exact ⟨Nat.zero_le _, Nat.zero_le _⟩
  | p t => have := nm_len t; exact ⟨by show (nmU t).length ≤ 2; omega, Nat.zero_le _⟩
  | r t u => have := nm_len t; have := nm_len u; exact ⟨by show (nmU t ++ nmU u).length ≤ 2; rw [List.length_append]; omega, Nat.zero_le _⟩
  | e t u => have := nm_len t; have := nm_len u; exact ⟨by show (nmU t).length ≤ 2; omega, by show (nmU u).length ≤ 1; omega⟩
/-- the law's own walk -/
def LnOk (n : Nat) (t : Tm) (xs : List Str) : Prop := ∃ r, (T n).d_law_names t.fv = pur r ∧ isL r (xs.map txF)
theorem ln_app (n : Nat) (f : Str) (ps : List (Tm × List Str)) (h : ∀ p, p ∈ ps → LnOk n p.1 p.2 ∧ p.2.length ≤ 10) (hl : ps.length ≤ 10) : LnOk (n + 1) (.app f (ps.map (·.1))) (ps.flatMap (·.2)) := by
  have lp : ∀ (ps : List (Tm × List Str)) (acc : List Str), (∀ p, p ∈ ps → LnOk n p.1 p.2 ∧ p.2.length ≤ 10) → acc.length + 10 * ps.length ≤ 1000 → (forN (fun law_names_here_6 law_part_5 => (bnd (mV (bnd ((T n).d_law_names law_part_5) fun t_7 => (oB gAdd (.v law_names_here_6) t_7))) fun law_names_here_8 => (pur (.nx law_names_here_8)))) (Tm.fvs (ps.map (·.1))) (.fl (acc.map txF)) : M (Fl FV Empty)) = pur (.nx (.fl ((acc ++ ps.flatMap (·.2)).map txF))) := fun ps => by
    induction ps with
    | nil => intro acc _ _; rw [List.flatMap_nil, List.append_nil]; rfl
    | cons p ps ih =>
      intro acc h hl
      obtain ⟨⟨r, h1, h2⟩, h3⟩ := h p List.mem_cons_self
      rw [List.length_cons] at hl
      have ad := add_isL (r := .v (.fl (acc.map txF))) (.inr rfl) h2 (by rw [List.length_map, List.length_map]; omega)
      rw [List.map_cons, fvs_cons, forN_cons, h1, bnd_pur, ad, mV_l, bnd_pur, bnd_pur, List.flatMap_cons, ← List.append_assoc, ← List.map_append]
      exact ih (acc ++ p.2) (fun q hq => h q (List.mem_cons_of_mem _ hq)) (by rw [List.length_append]; omega)
  have lp2 := lp ps [] h (by show 0 + _ ≤ _; omega)
  rw [List.map_nil, List.nil_append] at lp2
  refine ⟨.v (.fl ((ps.flatMap (·.2)).map txF)), ?_, .inr rfl⟩
  rw [T__law_names, n_law_names, fv_app]
  simp only [is_st, bnd_pur, oT_bl, Bool.false_eq_true, if_false, lst_nil, mV_l, sl_t1, mV_v, oW_tup]
  rw [lp2]
  simp only [seqN_nx, ret_pur, toF_rt, gcM_pur']
theorem ln_var (n : Nat) (x : Str) : LnOk (n + 1) (.var x) [x] := by
  refine ⟨.l [.str x], ?_, .inl rfl⟩
  rw [T__law_names, n_law_names, fv_var]
  simp only [is_ss, bnd_pur, oT_bl, if_true, lst_1, ret_pur, toF_rt, gcM_pur']
/-- the program's: all parts, those that are texts -/
def isV : Tm → Option Str
  | .var x => some x
  | _ => none
def ApOk (n : Nat) (t : Tm) (xs : List Str) : Prop := ∃ ps : List Tm, (T n).d_all_parts t.fv = pur (.l (ps.map Tm.fv)) ∧ ps.filterMap isV = xs ∧ ps.length ≤ 100
theorem args_app (n : Nat) (f : Str) (ts : List Tm) : (T (n + 1)).d_arguments (Tm.app f ts).fv = pur (.v (.tup (Tm.fvs ts))) := by
  rw [T__arguments, n_arguments, fv_app]
  simp only [is_st, bnd_pur, oT_bl, Bool.false_eq_true, if_false, sl_t1, ret_pur, toF_rt, gcM_pur']
theorem args_var (n : Nat) (x : Str) : (T (n + 1)).d_arguments (.str x) = pur (.v (.tup [])) := by
  rw [T__arguments, n_arguments]
  simp only [is_ss, bnd_pur, oT_bl, if_true, tup_nil, ret_pur, toF_rt, gcM_pur']
theorem ap_var (n : Nat) (x : Str) : ApOk (n + 1 + 1) (.var x) [x] := by
  refine ⟨[.var x], ?_, rfl, by show 1 ≤ 100; omega⟩
  rw [T__all_parts, n_all_parts, fv_var, args_var]
  simp only [lst_1, mL_l, bnd_pur, mV_v, oW_tup, forN_nil, seqN_nx, toF_rt, gcM_pur']
  simp
theorem ap_app (n : Nat) (f : Str) (ps : List (Tm × List Str)) (h : ∀ p, p ∈ ps → ∃ qs : List Tm, (T (n + 1)).d_all_parts p.1.fv = pur (.l (qs.map Tm.fv)) ∧ qs.filterMap isV = p.2 ∧ qs.length ≤ 30) (hl : ps.length ≤ 2) : ApOk (n + 1 + 1) (.app f (ps.map (·.1))) (ps.flatMap (·.2)) := by
  have lp : ∀ (ps : List (Tm × List Str)) (acc : List Tm), (∀ p, p ∈ ps → ∃ qs : List Tm, (T (n + 1)).d_all_parts p.1.fv = pur (.l (qs.map Tm.fv)) ∧ qs.filterMap isV = p.2 ∧ qs.length ≤ 30) → acc.length + 30 * ps.length ≤ 1000 →
      ∃ rs : List Tm, (forN (fun parts_4 argument_3 => (bnd (mV ((T (n + 1)).d_all_parts argument_3)) fun v_7 => (bnd (oL v_7) fun es_6 => bnd (oExt parts_4 es_6) fun parts_5 => (pur (.nx parts_5))))) (Tm.fvs (ps.map (·.1))) (acc.map Tm.fv) : M (Fl (List FV) Empty)) = pur (.nx ((acc ++ rs).map Tm.fv)) ∧ rs.filterMap isV = ps.flatMap (·.2) ∧ rs.length ≤ 30 * ps.length := fun ps => by
    induction ps with
    | nil => intro acc _ _; exact ⟨[], by rw [List.append_nil]; rfl, rfl, Nat.zero_le _⟩
    | cons p ps ih =>
      intro acc h hl
      obtain ⟨qs, h1, h2, h3⟩ := h p List.mem_cons_self
      rw [List.length_cons] at hl
      obtain ⟨rs, r1, r2, r3⟩ := ih (acc ++ qs) (fun q hq => h q (List.mem_cons_of_mem _ hq)) (by rw [List.length_append]; omega)
      refine ⟨qs ++ rs, ?_, by rw [List.filterMap_append, h2, r2, List.flatMap_cons], by rw [List.length_append, List.length_cons]; omega⟩
      have ex : oExt (acc.map Tm.fv) (qs.map Tm.fv) = pur (acc.map Tm.fv ++ qs.map Tm.fv) := if_pos (by rw [List.length_map, List.length_map]; show _ ≤ 16000000; omega)
      rw [List.map_cons, fvs_cons, forN_cons, h1, mV_l, bnd_pur, show oL (.fl (qs.map Tm.fv)) = pur (qs.map Tm.fv) from rfl, bnd_pur, ex, bnd_pur, bnd_pur, ← List.map_append, ← List.append_assoc]
      exact r1
  obtain ⟨rs, r1, r2, r3⟩ := lp ps [.app f (ps.map (·.1))] h (by show 1 + _ ≤ _; omega)
  refine ⟨.app f (ps.map (·.1)) :: rs, ?_, by rw [List.filterMap_cons]; exact r2, by rw [List.length_cons]; omega⟩
  rw [T__all_parts, n_all_parts, args_app]
  simp only [lst_1, mL_l, bnd_pur, mV_v, oW_tup]
  rw [show ([(Tm.app f (ps.map (·.1))).fv] : List FV) = [Tm.app f (ps.map (·.1))].map Tm.fv from rfl, r1]
  simp only [seqN_nx, toF_rt, gcM_pur']
  rfl
/-- names in a dict -/
def nD (xs : List Str) : List (L2.Key × FV) := embA FV.bl (xs.map (·, true))
theorem put_name (xs : List Str) (x : Str) (hl : xs.length < 1000000) : oPut (nD xs) (.v (.str x)) (.bl true) = pur (nD (addD xs x)) := by
  refine lift_ok fun _ => ?_
  show gPutK (nD xs) (.v (.str x)) (.bl true) = _
  unfold gPutK
  dsimp only
  rw [show (FV.str x).key = some (keyS x) from rfl]
  dsimp only
  rw [if_pos (by unfold nD embA; rw [List.length_map, List.length_map]; show _ < 16000000; omega)]
  unfold nD
  rw [put_emb]
  congr 2
  unfold putA addD
  rw [List.any_map]
  by_cases h : x ∈ xs
  · rw [if_pos h, if_pos (List.any_eq_true.mpr ⟨x, h, by simp⟩), List.map_map]
    refine List.map_congr_left fun y _ => ?_
    simp only [Function.comp_apply]
    split <;> rfl
  · rw [if_neg h, if_neg (fun z => by
      obtain ⟨y, hy, hy2⟩ := List.any_eq_true.mp z
      simp at hy2
      subst hy2
      exact h hy), List.map_append]; rfl
theorem list_names (xs : List Str) : oU gList (.bd (nD xs)) = pur (.l (xs.map txF)) := by
  have : oU gList (.bd (nD xs)) = pur (.l ((nD xs).map fun kv => keyF kv.1)) := lift_ok fun _ => rfl
  rw [this]
  unfold nD embA
  rw [List.map_map, List.map_map]; rfl
theorem len_fold {α : Type} [DecidableEq α] : ∀ (xs acc : List α), (xs.foldl addD acc).length ≤ acc.length + xs.length
  | [], acc => Nat.le_refl _
  | x :: xs, acc => by
    have := len_fold xs (addD acc x)
    have l2 : (addD acc x).length ≤ acc.length + 1 := by
      unfold addD
      split
      · omega
      · rw [List.length_append]; exact Nat.le_refl _
    rw [List.foldl_cons, List.length_cons]; omega
theorem unk_ok (n : Nat) (t : Tm) (xs : List Str) (h : ApOk n t xs) : (T (n + 1)).d_unknowns_of t.fv = pur (.l ((dd xs).map txF)) := by
  obtain ⟨ps, h1, h2, h3⟩ := h
  have lp : ∀ (ps : List Tm) (acc : List Str), acc.length + ps.length ≤ 1000 → (forN (fun found_4 part_3 => (bnd (bnd (oU (gIs "str") (.v part_3)) fun t_5 => (oT t_5)) fun c_6 => if c_6 = true then (bnd (oPut found_4 (.v part_3) (.bl true)) fun found_7 => (pur (.nx found_7))) else (pur (.nx found_4)))) (ps.map Tm.fv) (nD acc) : M (Fl (List (L2.Key × FV)) Empty)) = pur (.nx (nD ((ps.filterMap isV).foldl addD acc))) := fun ps => by
    induction ps with
    | nil => intro acc _; rfl
    | cons p ps ih =>
      intro acc hl
      rw [List.length_cons] at hl
      cases p with
      | var x =>
        have l2 := len_fold [x] acc
        rw [List.map_cons, fv_var, forN_cons, is_ss]
        simp only [bnd_pur, oT_bl, if_true, put_name acc x (by omega)]
        rw [ih (addD acc x) (by have : (addD acc x).length ≤ acc.length + 1 := l2; omega)]; rfl
      | app f ts =>
        rw [List.map_cons, fv_app, forN_cons, is_st]
        simp only [bnd_pur, oT_bl, Bool.false_eq_true, if_false]
        rw [ih acc (by omega)]; rfl
  have lp2 := lp ps [] (by show 0 + _ ≤ _; omega)
  rw [T_unknowns_of, n_unknowns_of]
  rw [show mD (pur (.d [])) = pur (nD []) from rfl, bnd_pur, h1, mV_l, bnd_pur, oW_fl, bnd_pur, lp2, h2]
  simp only [seqN_nx, list_names, ret_pur, toF_rt, gcM_pur']
  rfl
theorem u_names : ∀ (u : U) (n : Nat), u.d + 3 ≤ n → u.d ≤ 20 → LnOk n u.tm (nmU u) ∧ ∃ ps : List Tm, (T n).d_all_parts u.tm.fv = pur (.l (ps.map Tm.fv)) ∧ ps.filterMap isV = nmU u ∧ ps.length ≤ u.d + 1
  | .v b, n, h, _ => by
    obtain ⟨n, rfl⟩ : ∃ k, n = k + 2 := ⟨n - 2, by omega⟩
    refine ⟨ln_var (n + 1) _, [.var (vn b)], ?_, rfl, Nat.le_refl _⟩
    rw [U.tm, T__all_parts, n_all_parts, fv_var, args_var]
    simp only [lst_1, mL_l, bnd_pur, mV_v, oW_tup, forN_nil, seqN_nx, toF_rt, gcM_pur']
    simp
  | .c b, n, h, _ => by
    obtain ⟨n, rfl⟩ : ∃ k, n = k + 2 := ⟨n - 2, by omega⟩
    refine ⟨ln_app (n + 1) (cn b) [] (fun p hp => nomatch hp) (Nat.zero_le _), [.app (cn b) []], ?_, rfl, by show 1 ≤ _; omega⟩
    rw [U.tm, T__all_parts, n_all_parts, args_app]
    simp only [lst_1, mL_l, bnd_pur, mV_v, oW_tup, fvs_nil, forN_nil, seqN_nx, toF_rt, gcM_pur']
    simp
  | .f t, n, h, hd => by
    obtain ⟨n, rfl⟩ : ∃ k, n = k + 2 := ⟨n - 2, by omega⟩
    rw [U.d] at h hd
    obtain ⟨h1, qs, h2, h3, h4⟩ := u_names t (n + 1) (by omega) (by omega)
    have := nm_len t
    have l := ln_app (n + 1) "f" [(t.tm, nmU t)] (fun p hp => by simp at hp; subst hp; exact ⟨h1, by show (nmU t).length ≤ 10; omega⟩) (by show 1 ≤ 10; omega)
    have l' : LnOk (n + 2) (.app "f" [t.tm]) (nmU t) := by simpa using l
    refine ⟨l', .app "f" [t.tm] :: qs, ?_, by rw [List.filterMap_cons]; exact h3, by rw [List.length_cons, U.d]; omega⟩
    have ex : oExt [(Tm.app "f" [t.tm]).fv] (qs.map Tm.fv) = pur ([(Tm.app "f" [t.tm]).fv] ++ qs.map Tm.fv) := if_pos (by rw [List.length_map]; show 1 + _ ≤ 16000000; omega)
    rw [U.tm, T__all_parts, n_all_parts, args_app]
    simp only [lst_1, mL_l, bnd_pur, mV_v, oW_tup, fvs_cons, fvs_nil]
    rw [forN_cons, h2, mV_l, bnd_pur, show oL (.fl (qs.map Tm.fv)) = pur (qs.map Tm.fv) from rfl, bnd_pur, ex, bnd_pur, bnd_pur]
    dsimp only
    rw [forN_nil]
    simp only [seqN_nx, toF_rt, gcM_pur']
    rfl
/-- a literal's sides -/
theorem q_names (q : Qs) (n : Nat) (h : q.d + 4 ≤ n) (hd : q.d ≤ 20) : (LnOk n q.l (lnm q) ∧ ApOk n q.l (lnm q)) ∧ LnOk n q.rr (rnm q) ∧ ApOk n q.rr (rnm q) := by
  obtain ⟨n, rfl⟩ : ∃ k, n = k + 2 := ⟨n - 2, by omega⟩
  have top : LnOk (n + 2) topT [] ∧ ApOk (n + 2) topT [] := ⟨ln_app (n + 1) "" [] (fun p hp => nomatch hp) (Nat.zero_le _), ap_app n "" [] (fun p hp => nomatch hp) (Nat.zero_le _)⟩
  have one : ∀ t : U, t.d + 3 ≤ n + 1 → t.d ≤ 20 → (LnOk (n + 1) t.tm (nmU t) ∧ (nmU t).length ≤ 10) ∧ ∃ qs : List Tm, (T (n + 1)).d_all_parts t.tm.fv = pur (.l (qs.map Tm.fv)) ∧ qs.filterMap isV = nmU t ∧ qs.length ≤ 30 := fun t h hd => by
    obtain ⟨h1, ps, h2, h3, h4⟩ := u_names t (n + 1) h hd
    have := nm_len t
    exact ⟨⟨h1, by omega⟩, ps, h2, h3, by omega⟩
  cases q with
  | q => exact ⟨⟨ln_app (n + 1) "Q" [] (fun p hp => nomatch hp) (Nat.zero_le _), ap_app n "Q" [] (fun p hp => nomatch hp) (Nat.zero_le _)⟩, top⟩
  | p t =>
    rw [Qs.d] at h hd
    obtain ⟨h1, h2⟩ := one t (by omega) (by omega)
    have l1 := ln_app (n + 1) "P" [(t.tm, nmU t)] (fun p hp => by simp at hp; subst hp; exact h1) (by show 1 ≤ 10; omega)
    have l2 := ap_app n "P" [(t.tm, nmU t)] (fun p hp => by simp at hp; subst hp; exact h2) (by show 1 ≤ 2; omega)
    exact ⟨⟨by simpa [Qs.l, lnm] using l1, by simpa [Qs.l, lnm] using l2⟩, top⟩
  | r t u =>
    rw [Qs.d] at h hd
    obtain ⟨h1, h2⟩ := one t (by omega) (by omega)
    obtain ⟨h3, h4⟩ := one u (by omega) (by omega)
    have l1 := ln_app (n + 1) "R" [(t.tm, nmU t), (u.tm, nmU u)] (fun p hp => by
      simp at hp
      rcases hp with rfl | rfl
      · exact h1
      · exact h3) (by show 2 ≤ 10; omega)
    have l2 := ap_app n "R" [(t.tm, nmU t), (u.tm, nmU u)] (fun p hp => by
      simp at hp
      rcases hp with rfl | rfl
      · exact h2
      · exact h4) (by show 2 ≤ 2; omega)
    exact ⟨⟨by simpa [Qs.l, lnm] using l1, by simpa [Qs.l, lnm] using l2⟩, top⟩
  | e t u =>
    rw [Qs.d] at h hd
    obtain ⟨h1, ps, h2, h3, h4⟩ := u_names t (n + 2) (by omega) (by omega)
    obtain ⟨g1, qs, g2, g3, g4⟩ := u_names u (n + 2) (by omega) (by omega)
    exact ⟨⟨h1, ps, h2, h3, by omega⟩, g1, qs, g2, g3, by omega⟩
theorem fold_dd : ∀ (xs acc : List Str), (dd xs).foldl addD acc = xs.foldl addD acc := fun xs => by
  suffices h : ∀ (ys : List Str) (acc : List Str), (dd ys.reverse).foldl addD acc = ys.reverse.foldl addD acc by
    intro acc
    have := h xs.reverse acc
    rwa [List.reverse_reverse] at this
  intro ys
  induction ys with
  | nil => intro acc; rfl
  | cons y ys ih =>
    intro acc
    rw [List.reverse_cons, fold_snoc, ← ih acc]
    have e : dd (ys.reverse ++ [y]) = addD (dd ys.reverse) y := fold_snoc ys.reverse [] y
    rw [e]
    by_cases h : y ∈ dd ys.reverse
    · have e1 : addD (dd ys.reverse) y = dd ys.reverse := if_pos h
      have e2 : addD ((dd ys.reverse).foldl addD acc) y = (dd ys.reverse).foldl addD acc := if_pos ((mem_fold _ _ _).mpr (.inr h))
      rw [e1, e2]
    · have e1 : addD (dd ys.reverse) y = dd ys.reverse ++ [y] := if_neg h
      rw [e1, List.foldl_append]; rfl
def qn (q : Qs) : List Str := lnm q ++ rnm q
/-- the names in a clause, in order, each once -/
def UN (C : List Lt) : List Str := (C.flatMap fun l => qn l.2).foldl addD []
theorem un_len (C : List Lt) : (C.flatMap fun l => qn l.2).length ≤ 3 * C.length := by
  induction C with
  | nil => exact Nat.zero_le _
  | cons l C ih =>
    obtain ⟨h1, h2⟩ := lnm_len l.2
    rw [List.flatMap_cons, List.length_append, List.length_cons]
    unfold qn
    rw [List.length_append]
    unfold qn at ih
    omega
theorem clause_unk (n : Nat) (C : List Lt) (hn : 40 ≤ n) (hs : Small 20 C) (hl : C.length ≤ 1000) : (T n).d_clause_unknowns (.tup (C.map litF)) = pur (.l ((UN C).map txF)) := by
  obtain ⟨n, rfl⟩ : ∃ k, n = k + 2 := ⟨n - 2, by omega⟩
  have inner : ∀ (ys acc : List Str), acc.length + ys.length ≤ 100000 → (forN (fun found_10 name_9 => (bnd (oPut found_10 (.v name_9) (.bl true)) fun found_11 => (pur (.nx found_11)))) (ys.map txF) (nD acc) : M (Fl (List (L2.Key × FV)) (List (L2.Key × FV)))) = pur (.nx (nD (ys.foldl addD acc))) := fun ys => by
    induction ys with
    | nil => intro acc _; rfl
    | cons y ys ih =>
      intro acc hl
      rw [List.length_cons] at hl
      have l2 : (addD acc y).length ≤ acc.length + 1 := len_fold [y] acc
      rw [List.map_cons, forN_cons, put_name acc y (by omega), bnd_pur, bnd_pur]
      exact ih (addD acc y) (by omega)
  have lp : ∀ (F : List (L2.Key × FV) → FV → M (Fl (List (L2.Key × FV)) (List (L2.Key × FV)))) (hF : ∀ (acc : List Str) (l : Lt), l.2.d ≤ 20 → acc.length ≤ 50000 → F (nD acc) (litF l) = pur (.nx (nD ((qn l.2).foldl addD acc)))) (C : List Lt) (acc : List Str), Small 20 C → acc.length + 10 * C.length ≤ 50000 →
      (forN F (C.map litF) (nD acc) : M (Fl (List (L2.Key × FV)) Empty)) = pur (.nx (nD ((C.flatMap fun l => qn l.2).foldl addD acc))) := fun F hF C => by
    induction C with
    | nil => intro acc _ _; rfl
    | cons l C ih =>
      intro acc hs hl
      rw [List.length_cons] at hl
      obtain ⟨b1, b2⟩ := lnm_len l.2
      have l3 := len_fold (qn l.2) acc
      have lq : (qn l.2).length ≤ 3 := by unfold qn; rw [List.length_append]; omega
      rw [List.map_cons, forN_cons, hF acc l (hs l List.mem_cons_self) (by omega), bnd_pur, List.flatMap_cons, List.foldl_append]
      exact ih _ (fun a ha => hs a (List.mem_cons_of_mem _ ha)) (by omega)
  rw [T_clause_unknowns, n_clause_unknowns]
  rw [show mD (pur (.d [])) = pur (nD []) from rfl, bnd_pur, oW_tup, bnd_pur]
  have fin : gcM (toF (seqN (pur (.nx (nD ((C.flatMap fun l => qn l.2).foldl addD [])))) fun found_14 => (ret (oU gList (.bd found_14))) : M (Fl Unit Empty))) = pur (.l ((UN C).map txF)) := by
    simp only [seqN_nx, list_names, ret_pur, toF_rt, gcM_pur']
    rfl
  rw [lp _ ?_ C [] hs (by show 0 + _ ≤ _; omega)]
  · exact fin
  · intro acc l hd hacc
    obtain ⟨⟨_, a1⟩, _, a2⟩ := q_names l.2 n (by omega) hd
    obtain ⟨b1, b2⟩ := lnm_len l.2
    have u1 := unk_ok n l.2.l (lnm l.2) a1
    have u2 := unk_ok n l.2.rr (rnm l.2) a2
    have d1 : (dd (lnm l.2)).length ≤ 2 := Nat.le_trans (dd_sub _).length_le b1
    have d2 : (dd (rnm l.2)).length ≤ 1 := Nat.le_trans (dd_sub _).length_le b2
    have ad : oB gAdd (.l ((dd (lnm l.2)).map txF)) (.l ((dd (rnm l.2)).map txF)) = pur (.l ((dd (lnm l.2)).map txF ++ (dd (rnm l.2)).map txF)) := add_l_l (by rw [List.length_map, List.length_map]; omega)
    have inn := inner (dd (lnm l.2) ++ dd (rnm l.2)) acc (by rw [List.length_append]; omega)
    rw [List.foldl_append, fold_dd, fold_dd, ← List.foldl_append, List.map_append] at inn
    rw [show litF l = .tup [.bl l.1, l.2.l.fv, l.2.rr.fv] from rfl]
    simp only [bindT_tup, bCons_cons, bNil_nil, u1, u2, bnd_pur, ad, mV_l, oW_fl, inn, seqN_nx]
    rfl
theorem is_ground (n : Nat) (C : List Lt) (hn : 41 ≤ n) (hs : Small 20 C) (hl : C.length ≤ 1000) : (T n).d_is_ground (.tup (C.map litF)) = pur (.v (.bl (decide ((UN C).length = 0)))) := by
  obtain ⟨n, rfl⟩ : ∃ k, n = k + 1 := ⟨n - 1, by omega⟩
  have e : decide (((UN C).length : Int) = 0) = decide ((UN C).length = 0) := decide_eq_decide.mpr (by omega)
  rw [T_is_ground, n_is_ground, clause_unk n C (by omega) hs hl]
  simp only [bnd_pur, len_l, List.length_map, q_ii, Bool.false_eq_true, if_false, e, mB_pur, ret_pur, toF_rt, gcM_pur']
end Q87

namespace Q87
open PySem P
theorem txts_map : ∀ ys : List Str, txts (ys.map txF) = some ys
  | [] => rfl
  | y :: ys => by rw [List.map_cons, txts, txts_map ys]; rfl
theorem sum_le {ys : List Str} {m : Nat} (h : ∀ y, y ∈ ys → y.length ≤ m) : (ys.map (·.length)).sum ≤ ys.length * m := by
  induction ys with
  | nil => simp
  | cons y ys ih =>
    have := ih fun z hz => h z (List.mem_cons_of_mem _ hz)
    have := h y List.mem_cons_self
    rw [List.map_cons, List.sum_cons, List.length_cons, Nat.succ_mul]; omega
/-- texts joined -/
theorem join_or (ys : List Str) (h : ∀ y, y ∈ ys → y.length ≤ 1000) (hl : ys.length ≤ 1000) {r : RV} {b : Bool} (hr : ∀ s, r.seq s = some (b, ys.map txF)) : oB gJoin (.v (.str " or ")) r = pur (.v (.str (Txt.join " or " ys))) := by
  refine join_s (a := " or ") (x := r) (ds := ys.map txF) (ys := ys) hr (txts_map ys) ?_
  have := sum_le h
  rw [show (" or " : Str).length = 4 by decide +kernel]
  have : ys.length * 1000 ≤ 1000 * 1000 := Nat.mul_le_mul_right _ hl
  omega
def CT (C : List Lt) : Str := if C.length = 0 then "false" else Txt.join " or " (C.map ltx)
theorem texts_ok (n : Nat) (C : List Lt) (hn : 30 ≤ n) (hs : Small 20 C) (hl : C.length ≤ 1000) :
    filL (item some (fun _ => pur true) fun l => (T n).d_literal_text l) (C.map litF) = pur (.l ((C.map ltx).map txF)) ∧ filL (item some (fun _ => pur true) fun l => (T n).d_law_said l) (C.map litF) = pur (.l ((C.map ltx).map txF)) := by
  rw [List.map_map]
  constructor
  · exact filL_all (e := litF) (f := txF ∘ ltx) (xs := C) (fun l hl => by
      rw [item_some (x := litF l) rfl, bnd_pur, if_pos rfl, (lit_text l n (by have := hs l hl; omega) (hs l hl)).1, mV_v, bnd_pur]; rfl) (by omega)
  · exact filL_all (e := litF) (f := txF ∘ ltx) (xs := C) (fun l hl => by
      rw [item_some (x := litF l) rfl, bnd_pur, if_pos rfl, (lit_text l n (by have := hs l hl; omega) (hs l hl)).2, mV_v, bnd_pur]; rfl) (by omega)
theorem ltx_small {C : List Lt} (hs : Small 20 C) : ∀ y, y ∈ C.map ltx → y.length ≤ 1000 := fun y hy => by
  obtain ⟨l, hl, rfl⟩ := List.mem_map.mp hy
  exact ltx_len l (hs l hl)
theorem clause_text (n : Nat) (C : List Lt) (hn : 31 ≤ n) (hs : Small 20 C) (hl : C.length ≤ 1000) : (T n).d_clause_text (.tup (C.map litF)) = pur (.v (.str (CT C))) := by
  obtain ⟨n, rfl⟩ : ∃ k, n = k + 1 := ⟨n - 1, by omega⟩
  have e : decide (((C.map litF).length : Int) = 0) = decide (C.length = 0) := by rw [List.length_map]; exact decide_eq_decide.mpr (by omega)
  have jo := join_or (C.map ltx) (ltx_small hs) (by rw [List.length_map]; exact hl) (r := .l ((C.map ltx).map txF)) (b := false) fun _ => rfl
  rw [T_clause_text, n_clause_text]
  simp only [len_t, bnd_pur, q_ii, Bool.false_eq_true, if_false, e, oW_tup, (texts_ok n C (by omega) hs hl).1, jo]
  unfold CT
  by_cases h : C.length = 0
  · simp only [decide_eq_true h, if_true, if_pos h, ret_pur, toF_rt, gcM_pur']
  · simp only [decide_eq_false h, Bool.false_eq_true, if_false, if_neg h, ret_pur, toF_rt, gcM_pur']
/-! always true -/
def pA (C : List Lt) (l : Lt) : Bool := (l.1 && decide (l.2.l = l.2.rr)) || memD (op l) C
theorem always (n : Nat) (C : List Lt) (hn : 30 ≤ n) (hs : Small 20 C) : (T n).d_always_true (.tup (C.map litF)) = pur (.v (.bl (C.any (pA C)))) := by
  obtain ⟨n, rfl⟩ : ∃ k, n = k + 1 := ⟨n - 1, by omega⟩
  have lp : ∀ (F : Unit → FV → M (Fl Unit Unit)) (hF : ∀ l, l ∈ C → F () (litF l) = if pA C l = true then pur (.rt (.v (.bl true))) else pur (.nx ())) (xs : List Lt), (∀ l, l ∈ xs → l ∈ C) →
      (forN F (xs.map litF) () : M (Fl Unit Empty)) = if xs.any (pA C) = true then pur (.rt (.v (.bl true))) else pur (.nx ()) := fun F hF xs => by
    induction xs with
    | nil => intro _; rfl
    | cons x xs ih =>
      intro h
      rw [List.map_cons, forN_cons, hF x (h x List.mem_cons_self), List.any_cons]
      cases pA C x with
      | true => rfl
      | false =>
        rw [if_neg Bool.false_ne_true, bnd_pur, Bool.false_or]
        exact ih fun l hl => h l (List.mem_cons_of_mem _ hl)
  rw [T_always_true, n_always_true, oW_tup, bnd_pur, lp _ ?_ C fun l hl => hl]
  · cases C.any (pA C) with
    | true => simp only [if_true, seqN_rt, toF_rt, gcM_pur']
    | false => simp only [Bool.false_eq_true, if_false, seqN_nx, ret_pur, toF_rt, gcM_pur']
  · intro l hl
    have hd := hs l hl
    have q1 := q_tt (neg := false) (t := l.2.l) (u := l.2.rr) (by have := l.2.dl; omega)
    rw [if_neg Bool.false_ne_true] at q1
    have mx := encL.mx (neg := false) (a := op l) (xs := C) (y := .v (.tup (C.map litF))) (b := true) (show (op l).2.d ≤ 50 from (by show l.2.d ≤ 50; omega)) (litR _) fun _ => rfl
    rw [if_neg Bool.false_ne_true] at mx
    have oo := opp_ok l n (by omega)
    rw [bnd_pur, show litF l = .tup [.bl l.1, l.2.l.fv, l.2.rr.fv] from rfl] at *
    simp only [bindT_tup, bCons_cons, bNil_nil, oT_bl, q1, mAnd_pp, bnd_pur, oo, mx]
    unfold pA
    cases (l.1 && decide (l.2.l = l.2.rr)) with
    | true => rfl
    | false =>
      simp only [Bool.false_eq_true, if_false, Bool.false_or, ret_pur]
/-! filled clauses -/
def gl (σ : Bool → Option U) (l : Lt) : Lt := (l.1, flQ σ l.2)
theorem fill_clause (n : Nat) (C : List Lt) {D : FV} {σ : Bool → Option U} (hD : IsD D σ) (hσ : ∀ b u, σ b = some u → u.d ≤ 5) (hn : 40 ≤ n) (hs : Small 10 C) (hl : C.length ≤ 1000) : (T n).d_fill_clause (.tup (C.map litF)) D = pur (.v (.tup ((MC (C.map fun l => fm (gl σ l))).map litF))) := by
  obtain ⟨n, rfl⟩ : ∃ k, n = k + 2 := ⟨n - 2, by omega⟩
  have one : ∀ l, l ∈ C → (T (n + 1)).d_fill_literal (litF l) D = pur (.v (litF (fm (gl σ l)))) := fun l hl => by
    have hd := hs l hl
    have hd2 := flQ_d hσ l.2
    obtain ⟨⟨f1, _⟩, f2, _⟩ := q_fill hD l.2 n (by omega)
    have mk := (make_ok l.1 (flQ σ l.2) n (by omega) (by omega)).1
    rw [T__fill_literal, n_fill_literal]
    rw [show litF l = .tup [.bl l.1, l.2.l.fv, l.2.rr.fv] from rfl]
    simp only [bnd_pur, bindT_tup, bCons_cons, bNil_nil, f1, f2, mV_v, mk, ret_pur, toF_rt, gcM_pur']
    rfl
  have fl : filL (item some (fun _ => pur true) fun l => (T (n + 1)).d_fill_literal l D) (C.map litF) = pur (.l ((C.map fun l => fm (gl σ l)).map litF)) := by
    rw [List.map_map]
    exact filL_all (e := litF) (f := fun l => litF (fm (gl σ l))) (xs := C) (fun l hl => by
      rw [item_some (x := litF l) rfl, bnd_pur, if_pos rfl, one l hl, mV_v, bnd_pur]) (by omega)
  have mc := make_clause (n + 1) (C.map fun l => fm (gl σ l)) (.fl ((C.map fun l => fm (gl σ l)).map litF)) (b := false) (fun _ => rfl) (by omega) (fun a ha => by
    obtain ⟨l, hl, rfl⟩ := List.mem_map.mp ha
    have := hs l hl
    have := flQ_d hσ l.2
    rw [fm_d]
    show (flQ σ l.2).d ≤ 20
    omega) (by rw [List.length_map]; exact hl)
  rw [T_fill_clause, n_fill_clause]
  simp only [oW_tup, bnd_pur, fl, mV_l, mc, ret_pur, toF_rt, gcM_pur']
end Q87

namespace Q87
open PySem P
/-! what is drawn -/
theorem pick {α : Type} {e : α → FV} {base : List α} {i : Nat} (hi : i < base.length) : ∃ t, t ∈ base ∧ oB gIx (.v (.fl (base.map e))) (.v (.int (i : Int))) = pur (.v (e t)) ∧ base[i]? = some t :=
  ⟨base[i], List.getElem_mem hi, ix_f (atI_nat (by rw [List.getElem?_map, List.getElem?_eq_getElem hi]; rfl)), List.getElem?_eq_getElem hi⟩
theorem take_dr (n k : Nat) (hk : 0 < k) : Dr ((T (n + 1)).d_law_take (.ref 0) (.int (k : Int))) (fun r => ∃ i : Nat, i < k ∧ r = .v (.int i)) 1 := Dr.take (by rw [T__law_take]; rfl) hk
theorem take_mV (n k : Nat) (hk : 0 < k) : Dr (mV ((T (n + 1)).d_law_take (.ref 0) (.int (k : Int)))) (fun v => ∃ i : Nat, i < k ∧ v = .int i) 1 := (take_dr n k hk).mV fun r ⟨i, hi, e⟩ => ⟨.int i, by rw [e]; rfl, i, hi, rfl⟩
def leaves : List U := [.v false, .v true, .c false, .c true]
theorem leaf_d {u : U} (h : u ∈ leaves) : u.d ≤ 1 := by
  simp only [leaves, List.mem_cons, List.not_mem_nil, or_false] at h
  rcases h with rfl | rfl | rfl | rfl <;> simp [U.d]
abbrev uF (u : U) : FV := u.tm.fv
abbrev UQ (d : Nat) (r : RV) : Prop := ∃ u : U, r = .v (uF u) ∧ u.d ≤ d + 1
abbrev UV (d : Nat) (r : FV) : Prop := ∃ u : U, r = uF u ∧ u.d ≤ d + 1
theorem UQ.mV {m : M RV} {d c : Nat} (h : Dr m (UQ d) c) : Dr (mV m) (UV d) c := h.mV fun r ⟨u, e, hu⟩ => ⟨uF u, by rw [e]; rfl, u, rfl, hu⟩
theorem term_dr : ∀ (d n : Nat), d + 2 ≤ n → Dr ((T n).d_law_term (.ref 0) (.int (d : Int))) (UQ d) (2 * (d + 1))
  | d, n, hn => by
    obtain ⟨n, rfl⟩ : ∃ k, n = k + 2 := ⟨n - 2, by omega⟩
    rw [T__law_term]
    refine Dr.fn ?_
    unfold n_law_term
    refine Dr.bnd (take_mV n 5 (by decide)) (d := 2 * d + 1) (fun v ⟨i, hi, e⟩ => ?_) (by omega)
    subst e
    by_cases h0 : d = 0 ∨ i < 4
    · have hc : (mOr (oC (gQ false) (.v (.int (d : Int))) (.v (.int 0))) (oC gLt (.v (.int (i : Int))) (.v (.int 4)))) = pur true := by
        rw [q_ii, lt_ii, mOr_pp]
        rcases h0 with h | h
        · subst h; rfl
        · rw [decide_eq_true (show (i : Int) < 4 by omega), Bool.or_true]
      rw [hc, bnd_pur, if_pos rfl]
      simp only [tup_1, mV_v, bnd_pur, lst_4, mV_l]
      refine Dr.up (c := 1) ?_ (by omega)
      have leaf : Dr (bnd ((T (n + 1)).d_law_take (.ref 0) (.int 4)) fun t => oB gIx (.v (.fl (leaves.map uF))) t) (UQ d) 1 := by
        refine Dr.bnd (take_dr n 4 (by decide)) (d := 0) (fun r ⟨i, hi, e⟩ => ?_) (Nat.le_refl _)
        obtain ⟨t, ht, hx, _⟩ := pick (e := uF) (base := leaves) hi
        rw [e, hx]
        have := leaf_d ht
        exact Dr.pur ⟨t, rfl, by omega⟩
      have e : leaves.map uF = [.str "x", .str "y", .tup [.str "a"], .tup [.str "b"]] := by simp [leaves, uF, U.tm, vn, cn]
      rw [e] at leaf
      unfold P.ret
      simp only [up_bnd, up_rt]
      exact Dr.bnd leaf (d := 0) (fun r q => Dr.pur q) (Nat.le_refl _)
    · have h1 : d ≠ 0 := fun z => h0 (.inl z)
      have h2 : ¬ i < 4 := fun z => h0 (.inr z)
      obtain ⟨d, rfl⟩ : ∃ k, d = k + 1 := ⟨d - 1, by omega⟩
      have hc : (mOr (oC (gQ false) (.v (.int ((d + 1 : Nat) : Int))) (.v (.int 0))) (oC gLt (.v (.int (i : Int))) (.v (.int 4)))) = pur false := by
        rw [q_ii, lt_ii, mOr_pp, decide_eq_false (show ¬ (i : Int) < 4 by omega), decide_eq_false (show ¬ ((d + 1 : Nat) : Int) = 0 by omega)]; rfl
      have hs : oB gMns (.v (.int ((d + 1 : Nat) : Int))) (.v (.int 1)) = pur (.v (.int (d : Int))) := by rw [sub_ii]; congr 3; omega
      rw [hc, bnd_pur, if_neg Bool.false_ne_true]
      refine Dr.up (c := 2 * (d + 1)) ?_ (by omega)
      refine Dr.ret (Q := UQ (d + 1)) ?_ fun r q => q
      simp only [hs, mV_v, bnd_pur]
      refine Dr.bnd (UQ.mV (term_dr d (n + 1) (by omega))) (d := 0) (fun v ⟨u, e, hu⟩ => ?_) (Nat.le_refl _)
      rw [e, tup_2]
      exact Dr.pur ⟨.f u, by simp [uF, U.tm], by rw [U.d]; omega⟩
abbrev LQ (r : RV) : Prop := ∃ l : Lt, r = .v (litF l) ∧ l.2.d ≤ 4
theorem lit_dr (n : Nat) (hn : 10 ≤ n) : Dr ((T n).d_law_literal (.ref 0)) LQ 14 := by
  obtain ⟨n, rfl⟩ : ∃ k, n = k + 2 := ⟨n - 2, by omega⟩
  rw [T__law_literal]
  refine Dr.fn ?_
  unfold n_law_literal
  have t1 : Dr (mV ((T (n + 1)).d_law_term (.ref 0) (.int 1))) (UV 1) 4 := UQ.mV (term_dr 1 (n + 1) (by omega))
  have t2 : Dr (mV ((T (n + 1)).d_law_term (.ref 0) (.int 2))) (UV 2) 6 := UQ.mV (term_dr 2 (n + 1) (by omega))
  refine Dr.bnd (take_mV n 6 (by decide)) (d := 13) (fun v ⟨i, hi, e⟩ => ?_) (by omega)
  subst e
  have sg : Dr (mV (mB (bnd ((T (n + 1)).d_law_take (.ref 0) (.int 2)) fun t_2 => (oC (gQ false) t_2 (.v (.int 1)))))) (fun v => ∃ b, v = .bl b) 1 := by
    rw [mB_bnd, mV_bnd]
    refine Dr.bnd (take_dr n 2 (by decide)) (d := 0) (fun r ⟨i, hi, e⟩ => ?_) (Nat.le_refl _)
    subst e
    rw [q_ii, mB_pur, mV_v]
    exact Dr.pur ⟨_, rfl⟩
  refine Dr.bnd sg (d := 12) (fun v ⟨s, e⟩ => ?_) (by omega)
  subst e
  rw [q_ii, bnd_pur]
  refine Dr.ite (fun _ => ?_) fun _ => ?_
  · simp only [tup_1, mV_v, bnd_pur, tup_3, ret_pur]
    exact (Dr.pur (Q := RtQ LQ) (a := .rt _) ⟨(s, .q), by simp [litF, tri, Qs.l, Qs.rr, topT, c_TOP], by show 1 ≤ 4; omega⟩).up (Nat.zero_le _)
  rw [q_ii, bnd_pur]
  refine Dr.ite (fun _ => ?_) fun _ => ?_
  · refine (Dr.ret (Q := LQ) (c := 6) ?_ fun r q => q).up (by omega)
    simp only [mV_bnd, bnd_bnd]
    refine Dr.bnd t2 (d := 0) (fun v ⟨u, e, hu⟩ => ?_) (Nat.le_refl _)
    subst e
    simp only [tup_2, mV_v, bnd_pur, tup_3]
    exact Dr.pur ⟨(s, .p u), by simp [litF, tri, Qs.l, Qs.rr, topT, c_TOP], by show u.d + 1 ≤ 4; omega⟩
  rw [q_ii, bnd_pur]
  refine Dr.ite (fun _ => ?_) fun _ => ?_
  · refine (Dr.ret (Q := LQ) (c := 8) ?_ fun r q => q).up (by omega)
    simp only [mV_bnd, bnd_bnd]
    refine Dr.bnd t1 (d := 4) (fun v ⟨u, e, hu⟩ => Dr.bnd t1 (d := 0) (fun w ⟨u2, e2, hu2⟩ => ?_) (Nat.le_refl _)) (by omega)
    subst e e2
    simp only [mV_v, bnd_pur, tup_3]
    exact Dr.pur ⟨(s, .r u u2), by simp [litF, tri, Qs.l, Qs.rr, topT, c_TOP], by show max u.d u2.d + 1 ≤ 4; omega⟩
  · refine (Dr.ret (Q := LQ) (c := 12) ?_ fun r q => q)
    refine Dr.bnd t2 (d := 6) (fun v ⟨u, e, hu⟩ => Dr.bnd t2 (d := 0) (fun w ⟨u2, e2, hu2⟩ => ?_) (Nat.le_refl _)) (by omega)
    subst e e2
    simp only [tup_3]
    exact Dr.pur ⟨(s, .e u u2), rfl, by show max u.d u2.d ≤ 4; omega⟩
/-- a loop over numbers that draws -/
theorem Dr.forR {A β : Type} {F : A → FV → M (Fl A A)} {I : Nat → A → Prop} {c : Nat} {top : Nat} (hF : ∀ k a, k < top → I k a → Dr (F a (.int (k : Nat))) (fun r => ∃ a', r = .nx a' ∧ I (k + 1) a') c) :
    ∀ (m k : Nat) (a : A), k + m = top → I k a → Dr (forN F (rngL (k : Nat) m) a : M (Fl A β)) (fun r => ∃ a', r = .nx a' ∧ I top a') (m * c)
  | 0, k, a, hk, h => (Dr.pur ⟨a, rfl, by rw [← hk]; exact h⟩).up (Nat.zero_le _)
  | m + 1, k, a, hk, h => by
    rw [rngL, forN_cons]
    refine Dr.bnd (d := m * c) (hF k a (by omega) h) (fun r ⟨a', e, h'⟩ => ?_) (by rw [Nat.succ_mul]; omega)
    subst e
    rw [show ((k : Nat) : Int) + 1 = ((k + 1 : Nat) : Int) by omega]
    exact Dr.forR hF m (k + 1) a' (by omega) h'
theorem all_map {α : Type} {e : α → FV} {P : α → Prop} : ∀ vs : List FV, (∀ v, v ∈ vs → ∃ a, v = e a ∧ P a) → ∃ xs : List α, vs = xs.map e ∧ ∀ a, a ∈ xs → P a
  | [], _ => ⟨[], rfl, fun a h => nomatch h⟩
  | v :: vs, h => by
    obtain ⟨a, rfl, ha⟩ := h v List.mem_cons_self
    obtain ⟨xs, rfl, hx⟩ := all_map vs fun w hw => h w (List.mem_cons_of_mem _ hw)
    exact ⟨a :: xs, rfl, fun b hb => by
      rcases List.mem_cons.mp hb with rfl | hb
      · exact ha
      · exact hx b hb⟩
end Q87

namespace Q87
open PySem P
theorem fm_swap (s : Bool) (t u : U) : fm (s, .e u t) = fm (s, .e t u) := by
  rw [fm, fm]
  by_cases h1 : (tx u).cps.toList < (tx t).cps.toList
  · rw [if_pos h1, if_neg (List.lt_asymm h1)]
  · rw [if_neg h1]
    by_cases h2 : (tx t).cps.toList < (tx u).cps.toList
    · rw [if_pos h2]
    · rw [if_neg h2]
      have e : (tx t).cps.toList = (tx u).cps.toList := List.le_antisymm (List.not_lt.mp h1) (List.not_lt.mp h2)
      have := tl_inj t u (by rw [← tx_cs, ← tx_cs, e])
      rw [this]
theorem rng_len : ∀ (m : Nat) (lo : Int), (rngL lo m).length = m
  | 0, _ => rfl
  | m + 1, lo => by rw [rngL, List.length_cons, rng_len m]
/-- the literals drawn -/
theorem lits_dr (n : Nat) (hn : 20 ≤ n) : Dr (mV (bnd (bnd ((T n).d_law_take (.ref 0) (.int 7)) fun t_2 => (oR1 t_2)) (filL (item some (fun law_k_3 => (pur true)) (fun law_k_3 => ((T n).d_law_literal (.ref 0))))))) (fun v => ∃ X : List Lt, v = .fl (X.map litF) ∧ X.length ≤ 6 ∧ Small 4 X) 85 := by
  obtain ⟨n, rfl⟩ : ∃ k, n = k + 1 := ⟨n - 1, by omega⟩
  have dl : Dr (bnd (bnd ((T (n + 1)).d_law_take (.ref 0) (.int 7)) fun t_2 => (oR1 t_2)) (filL (item some (fun law_k_3 => (pur true)) (fun law_k_3 => ((T (n + 1)).d_law_literal (.ref 0)))))) (fun r => ∃ X : List Lt, r = .l (X.map litF) ∧ X.length ≤ 6 ∧ Small 4 X) 85 := by
    rw [bnd_bnd]
    refine Dr.bnd (take_dr n 7 (by decide)) (d := 84) (fun r ⟨i, hi, e⟩ => ?_) (Nat.le_refl _)
    subst e
    rw [r1_i (by omega) (by omega), bnd_pur, Int.toNat_natCast]
    unfold filL
    rw [if_pos (by rw [rng_len]; show _ ≤ 16000000; omega)]
    have ld := lit_dr (n + 1) (by omega)
    refine Dr.bnd (c := i * 14) (d := 0) (Z := fun vs : List FV => ∃ X : List Lt, vs = X.map litF ∧ X.length ≤ 6 ∧ Small 4 X) ?_ (fun vs ⟨X, e, h⟩ => Dr.pur ⟨X, by rw [e], h⟩) (by omega)
    have fn := Dr.filN (g := item some (fun law_k_3 => (pur true)) (fun law_k_3 => ((T (n + 1)).d_law_literal (.ref 0)))) (Z := fun _ => True) (Q := fun v => ∃ l : Lt, v = litF l ∧ l.2.d ≤ 4) (c := 14) (fun d _ => by
      rw [item_some (x := d) rfl, bnd_pur, if_pos rfl]
      refine Dr.bnd (ld.mV (Z := fun v => ∃ l : Lt, v = litF l ∧ l.2.d ≤ 4) fun r ⟨l, e, h⟩ => ⟨litF l, by rw [e]; rfl, l, rfl, h⟩) (d := 0) (fun v hv => Dr.pur ⟨v, rfl, hv⟩) (Nat.le_refl _)) (rngL 0 i) fun _ _ => trivial
    refine fn.mono (by rw [rng_len]; exact Nat.le_refl _) fun vs ⟨hl, hv⟩ => ?_
    obtain ⟨X, rfl, hX⟩ := all_map (e := litF) (P := fun l : Lt => l.2.d ≤ 4) vs hv
    exact ⟨X, rfl, by rw [List.length_map, rng_len] at hl; omega, hX⟩
  exact dl.mV fun r ⟨X, e, h⟩ => ⟨.fl (X.map litF), by rw [e]; rfl, X, rfl, h⟩
theorem lit_0 (l : Lt) : oB gIx (.v (litF l)) (.v (.int 0)) = pur (.v (.bl l.1)) := ix_t0 _ _
theorem lit_1 (l : Lt) : oB gIx (.v (litF l)) (.v (.int 1)) = pur (.v l.2.l.fv) := ix_t1 _ _ _
theorem lit_2 (l : Lt) : oB gIx (.v (litF l)) (.v (.int 2)) = pur (.v l.2.rr.fv) := ix_t2 _ _ _ _
/-- what the second list has -/
structure Oth (X : List Lt) (k : Nat) (O : List Lt) : Prop where
  ln : O.length ≤ 2 * k
  sm : Small 4 O
  fr : ∀ o, o ∈ O → fm o ∈ X.map fm
  al : ∀ j x, j < k → X[j]? = some x → fm x ∈ O.map fm
theorem Oth.ins {X O : List Lt} {k : Nat} {x y : Lt} (h : Oth X k O) (hx : X[k]? = some x) (e : fm y = fm x) (hd : y.2.d ≤ 4) (i : Nat) : Oth X (k + 1) (O.take i ++ [y] ++ O.drop i) ∧ (O.take i ++ [y] ++ O.drop i).length ≤ 2 * k + 1 := by
  have ll : (O.take i ++ [y] ++ O.drop i).length = O.length + 1 := by
    rw [List.length_append, List.length_append, List.length_take, List.length_drop, List.length_singleton]; omega
  have mem : ∀ o, o ∈ O.take i ++ [y] ++ O.drop i ↔ o ∈ O ∨ o = y := fun o => by
    have : o ∈ O ↔ o ∈ O.take i ∨ o ∈ O.drop i := by
      rw [← List.mem_append, List.take_append_drop]
    rw [this]
    simp only [List.mem_append, List.mem_singleton]
    constructor
    · rintro ((a | a) | a)
      · exact .inl (.inl a)
      · exact .inr a
      · exact .inl (.inr a)
    · rintro ((a | a) | a)
      · exact .inl (.inl a)
      · exact .inr a
      · exact .inl (.inr a)
  have hln := h.ln
  refine ⟨⟨by omega, fun o ho => ?_, fun o ho => ?_, fun j z hj hz => ?_⟩, by omega⟩
  · rcases (mem o).mp ho with ho | rfl
    · exact h.sm o ho
    · exact hd
  · rcases (mem o).mp ho with ho | rfl
    · exact h.fr o ho
    · rw [e]; exact List.mem_map.mpr ⟨x, List.mem_of_getElem? hx, rfl⟩
  · by_cases hk : j < k
    · obtain ⟨o, ho, e2⟩ := List.mem_map.mp (h.al j z hk hz)
      exact List.mem_map.mpr ⟨o, (mem o).mpr (.inl ho), e2⟩
    · have : j = k := by omega
      subst this
      rw [hx] at hz; cases hz
      exact List.mem_map.mpr ⟨y, (mem y).mpr (.inr rfl), e⟩
theorem Oth.app {X O : List Lt} {k : Nat} {z : Lt} (h : Oth X (k + 1) O) (hl : O.length ≤ 2 * k + 1) (hz : z ∈ X) (hd : z.2.d ≤ 4) : Oth X (k + 1) (O ++ [z]) := by
  refine ⟨by rw [List.length_append, List.length_singleton]; omega, fun o ho => ?_, fun o ho => ?_, fun j x hj hx => ?_⟩
  · rcases List.mem_append.mp ho with ho | ho
    · exact h.sm o ho
    · simp at ho; subst ho; exact hd
  · rcases List.mem_append.mp ho with ho | ho
    · exact h.fr o ho
    · simp at ho; subst ho; exact List.mem_map.mpr ⟨o, hz, rfl⟩
  · rw [List.map_append]; exact List.mem_append_left _ (h.al j x hj hx)
theorem Oth.same {X O : List Lt} (h : Oth X X.length O) (a : Lt) : a ∈ O.map fm ↔ a ∈ X.map fm := by
  constructor
  · intro ha
    obtain ⟨o, ho, rfl⟩ := List.mem_map.mp ha
    exact h.fr o ho
  · intro ha
    obtain ⟨x, hx, rfl⟩ := List.mem_map.mp ha
    obtain ⟨j, hj, e⟩ := List.mem_iff_getElem.mp hx
    exact h.al j x hj (by rw [List.getElem?_eq_getElem hj, e])
theorem other_turn (n : Nat) (hn : 10 ≤ n) (X O : List Lt) (k : Nat) (hk : k < X.length) (hX : X.length ≤ 6) (sX : Small 4 X) (h : Oth X k O) :
    Dr (bnd (mV (oB gIx (.v (.fl (X.map litF))) (.v (.int (k : Nat))))) fun law_literal_here_10 => (bnd (mAnd (bnd (oB gIx (.v law_literal_here_10) (.v (.int 2))) fun t_11 => (oC (gQ true) t_11 (.v c_TOP))) (bnd ((T n).d_law_take (.ref 0) (.int 2)) fun t_12 => (oC (gQ false) t_12 (.v (.int 1))))) fun c_13 => seqN (if c_13 = true then (bnd (mV (bnd (mV (oB gIx (.v law_literal_here_10) (.v (.int 0)))) fun v_25 => (bnd (mV (oB gIx (.v law_literal_here_10) (.v (.int 2)))) fun v_26 => (bnd (mV (oB gIx (.v law_literal_here_10) (.v (.int 1)))) fun v_27 => (oTup [v_25, v_26, v_27]))))) fun law_literal_here_28 => (pur (.nx law_literal_here_28))) else (pur (.nx law_literal_here_10))) (fun law_literal_here_14 => (bnd (mV (bnd (mV (bnd (oU gLen (.bl (O.map litF))) fun t_16 => (oB gAdd t_16 (.v (.int 1))))) fun v_17 => ((T n).d_law_take (.ref 0) v_17))) fun v_24 => (bnd (oIns (O.map litF) v_24 law_literal_here_14) fun law_other_15 => (bnd (bnd ((T n).d_law_take (.ref 0) (.int 3)) fun t_18 => (oC (gQ false) t_18 (.v (.int 0)))) fun c_19 => if c_19 = true then (bnd (mV (bnd (bnd (mV (oU gLen (.v (.fl (X.map litF))))) fun v_21 => ((T n).d_law_take (.ref 0) v_21)) fun t_22 => (oB gIx (.v (.fl (X.map litF))) t_22))) fun v_23 => (bnd (oApp law_other_15 v_23) fun law_other_20 => (pur (.nx law_other_20)))) else (pur (.nx law_other_15))))))) : M (Fl (List FV) (List FV)))
      (fun r => ∃ a', r = .nx a' ∧ ∃ O', a' = O'.map litF ∧ Oth X (k + 1) O') 4 := by
  obtain ⟨n, rfl⟩ : ∃ k, n = k + 1 := ⟨n - 1, by omega⟩
  obtain ⟨x, hx, e1, e2⟩ := pick (e := litF) (base := X) hk
  have xd := sX x hx
  have hln := h.ln
  rw [e1, mV_v, bnd_pur]
  refine Dr.bnd (Z := fun c => c = true → isE x.2 = true) (c := 1) (d := 3) ?_ (fun c hc => ?_) (Nat.le_refl _)
  · have q1 := q_top (neg := true) x.2.rr
    rw [lit_2, bnd_pur, q1, if_pos rfl]
    cases hq : isE x.2 with
    | false =>
      rw [decide_eq_true (rr_top hq), Bool.not_true, mAnd_f]
      exact (Dr.pur fun z => nomatch z).up (Nat.zero_le _)
    | true =>
      have ne : ¬ x.2.rr = topT := by
        obtain ⟨s, q⟩ := x
        cases q with
        | e t u => exact u.ne
        | _ => cases hq
      rw [decide_eq_false ne, Bool.not_false, mAnd_t]
      refine Dr.bnd (take_dr n 2 (by decide)) (d := 0) (fun r ⟨i, hi, e⟩ => ?_) (Nat.le_refl _)
      subst e
      rw [q_ii]
      exact Dr.pur fun _ => rfl
  have ixs : (mV (bnd (mV (oB gIx (.v (litF x)) (.v (.int 0)))) fun v_25 => (bnd (mV (oB gIx (.v (litF x)) (.v (.int 2)))) fun v_26 => (bnd (mV (oB gIx (.v (litF x)) (.v (.int 1)))) fun v_27 => (oTup [v_25, v_26, v_27]))))) = pur (.tup [.bl x.1, x.2.rr.fv, x.2.l.fv]) := by
    simp only [lit_0, lit_1, lit_2, mV_v, bnd_pur, tup_3]
  rw [ixs, bnd_pur]
  have sq : ∀ {v : FV} {K : FV → M (Fl (List FV) (List FV))}, (seqN (pur (.nx v) : M (Fl FV (List FV))) K) = K v := fun {v K} => rfl
  have rest : ∀ y : Lt, fm y = fm x → y.2.d ≤ 4 → Dr (bnd (mV (bnd (mV (bnd (oU gLen (.bl (O.map litF))) fun t_16 => (oB gAdd t_16 (.v (.int 1))))) fun v_17 => ((T (n + 1)).d_law_take (.ref 0) v_17))) fun v_24 => (bnd (oIns (O.map litF) v_24 (litF y)) fun law_other_15 => (bnd (bnd ((T (n + 1)).d_law_take (.ref 0) (.int 3)) fun t_18 => (oC (gQ false) t_18 (.v (.int 0)))) fun c_19 => if c_19 = true then (bnd (mV (bnd (bnd (mV (oU gLen (.v (.fl (X.map litF))))) fun v_21 => ((T (n + 1)).d_law_take (.ref 0) v_21)) fun t_22 => (oB gIx (.v (.fl (X.map litF))) t_22))) fun v_23 => (bnd (oApp law_other_15 v_23) fun law_other_20 => (pur (.nx law_other_20)))) else (pur (.nx law_other_15)))) : M (Fl (List FV) (List FV)))
      (fun r => ∃ a', r = .nx a' ∧ ∃ O', a' = O'.map litF ∧ Oth X (k + 1) O') 3 := fun y ey yd => by
    have l1 : (((O.map litF).length : Int) + 1) = ((O.length + 1 : Nat) : Int) := by rw [List.length_map]; omega
    simp only [len_bl, bnd_pur, add_ii, mV_v, l1]
    refine Dr.bnd (take_mV n (O.length + 1) (Nat.succ_pos _)) (d := 2) (fun v ⟨i, hi, e⟩ => ?_) (Nat.le_refl _)
    subst e
    have ins : oIns (O.map litF) (.int (i : Nat)) (litF y) = pur ((O.take i ++ [y] ++ O.drop i).map litF) := by
      unfold oIns
      dsimp only
      rw [if_pos (by exact ⟨by omega, by omega, by rw [List.length_map]; show _ < 16000000; omega⟩), Int.toNat_natCast, List.map_append, List.map_append, List.map_take, List.map_drop]; rfl
    obtain ⟨h1, h2⟩ := h.ins e2 ey yd i
    rw [ins, bnd_pur, bnd_bnd]
    refine Dr.bnd (take_dr n 3 (by decide)) (d := 1) (fun r ⟨j, hj, e⟩ => ?_) (Nat.le_refl _)
    subst e
    rw [q_ii, bnd_pur]
    refine Dr.ite (fun _ => ?_) fun _ => (Dr.pur ⟨_, rfl, _, rfl, h1⟩).up (Nat.zero_le _)
    rw [len_f, mV_v, bnd_pur, List.length_map, mV_bnd, bnd_bnd]
    refine Dr.bnd (take_dr n X.length (by omega)) (d := 0) (fun r ⟨j, hj, e⟩ => ?_) (Nat.le_refl _)
    subst e
    obtain ⟨z, hz, ez, _⟩ := pick (e := litF) (base := X) hj
    have ap : oApp ((O.take i ++ [y] ++ O.drop i).map litF) (litF z) = pur (((O.take i ++ [y] ++ O.drop i) ++ [z]).map litF) := by
      rw [app_lt (by rw [List.length_map]; omega), List.map_append (l₂ := [z])]; rfl
    rw [ez, mV_v, bnd_pur, ap, bnd_pur]
    exact Dr.pur ⟨_, rfl, _, rfl, h1.app h2 hz (sX z hz)⟩
  cases c with
  | false =>
    rw [if_neg Bool.false_ne_true, sq]
    exact rest x rfl xd
  | true =>
    rw [if_pos rfl, sq]
    obtain ⟨s, q⟩ := x
    have hq := hc rfl
    cases q with
    | e t u =>
      have hd : max t.d u.d ≤ 4 := xd
      exact rest (s, .e u t) (fm_swap s t u) (by show max u.d t.d ≤ 4; omega)
    | _ => cases hq
end Q87

namespace Q87
open PySem P
/-! the law's own lists -/
theorem mk_list (n : Nat) (Y : List Lt) (hn : 30 ≤ n) (hs : Small 20 Y) (hl : Y.length ≤ 1000) : filL (item some (fun _ => pur true) fun one => (bnd (mV (oB gIx (.v one) (.v (.int 0)))) fun v_32 => (bnd (mV (oB gIx (.v one) (.v (.int 1)))) fun v_33 => (bnd (mV (oB gIx (.v one) (.v (.int 2)))) fun v_34 => ((T n).d_make_literal v_32 v_33 v_34))))) (Y.map litF) = pur (.l ((Y.map fm).map litF)) := by
  rw [List.map_map]
  exact filL_all (e := litF) (f := litF ∘ fm) (xs := Y) (fun l hl => by
    rw [item_some (x := litF l) rfl, bnd_pur, if_pos rfl]
    simp only [lit_0, lit_1, lit_2, mV_v, bnd_pur]
    have := hs l hl
    rw [(make_ok l.1 l.2 n (by omega) this).1, mV_v, bnd_pur]; rfl) (by omega)
theorem q_tups (C : List Lt) (h : Small 50 C) : oC (gQ true) (.v (.tup (C.map litF))) (.v (.tup (C.map litF))) = pur false := by
  have pu := encL.pus C
  have dp := encL.dps C h
  have : (FV.tup (C.map litF)).pure = true := by rw [FV.pure]; exact pu
  rw [q_vv this this (by rw [FV.py, PyData.depth]; omega), if_pos rfl, PySem.SeqAt.eqv_refl_plain _ FV.py_plain]; rfl
theorem dv_pure {x : FV} (h : x.pure = true) (s : FH) : (RV.v x).dv s = some (.p x.py) := by
  show x.dv s 3 = _; unfold FV.dv; rw [if_pos h]
theorem dv_lp {ds : List FV} (h : FV.pures ds = true) (s : FH) : (RV.l ds).dv s = some (.p (.list (FV.pys ds))) ∧ (RV.bl ds).dv s = some (.p (.list (FV.pys ds))) ∧ (RV.v (.fl ds)).dv s = some (.p (.list (FV.pys ds))) := by
  refine ⟨if_pos h, if_pos h, ?_⟩
  rw [dv_pure (by rw [FV.pure]; exact h), FV.py]
theorem q_lists {neg : Bool} {x y : RV} {ds : List FV} (h : FV.pures ds = true) (hd : PyData.depthAll (FV.pys ds) ≤ 60) (hx : ∀ s, x.dv s = some (.p (.list (FV.pys ds)))) (hy : ∀ s, y.dv s = some (.p (.list (FV.pys ds)))) : oC (gQ neg) x y = pur (!neg) :=
  q_data hx hy (by rw [PyData.depth]; omega) (by rw [PyData.plain]; exact FV.pys_plain)
theorem txt_dep (ys : List Str) : FV.pures (ys.map txF) = true ∧ PyData.depthAll (FV.pys (ys.map txF)) ≤ 60 := ⟨encS.pus ys, encS.dps ys fun _ _ => trivial⟩
theorem tm_dep : ∀ ts : List Tm, (∀ t, t ∈ ts → t.dep ≤ 50) → FV.pures (ts.map Tm.fv) = true ∧ PyData.depthAll (FV.pys (ts.map Tm.fv)) ≤ 60
  | [], _ => ⟨rfl, by simp [FV.pys, PyData.depthAll]⟩
  | t :: ts, h => by
    obtain ⟨h1, h2⟩ := tm_dep ts fun u hu => h u (List.mem_cons_of_mem _ hu)
    have h3 := h t List.mem_cons_self
    refine ⟨by rw [List.map_cons, FV.pures, fv_pure, h1]; rfl, ?_⟩
    rw [List.map_cons, FV.pys, PyData.depthAll, fv_depth]; omega
/-- the names, as the law lists them -/
theorem names_loop (n : Nat) (C : List Lt) (hn : 40 ≤ n) (hs : Small 20 C) (hl : C.length ≤ 1000) : (forN (fun law_names_here_63 law_literal_here_62 => (bnd (bnd (mV (bnd (bnd (mV (oB gIx (.v law_literal_here_62) (.v (.int 1)))) fun v_64 => ((T n).d_law_names v_64)) fun t_66 => (bnd (bnd (mV (oB gIx (.v law_literal_here_62) (.v (.int 2)))) fun v_65 => ((T n).d_law_names v_65)) fun t_67 => (oB gAdd t_66 t_67)))) fun v_68 => (oW v_68)) fun xs_74 => seqN (forN (fun law_names_here_70 law_name_69 => (bnd (oC (gMx true) (.v law_name_69) (.bl law_names_here_70)) fun c_71 => if c_71 = true then (bnd (oApp law_names_here_70 law_name_69) fun law_names_here_72 => (pur (.nx law_names_here_72))) else (pur (.nx law_names_here_70)))) xs_74 law_names_here_63) (fun law_names_here_73 => (pur (.nx law_names_here_73))))) (C.map litF) [] : M (Fl (List FV) Empty)) = pur (.nx ((UN C).map txF)) := by
  have lp : ∀ (F : List FV → FV → M (Fl (List FV) (List FV))) (hF : ∀ (acc : List Str) (l : Lt), l.2.d ≤ 20 → acc.length ≤ 50000 → F (acc.map txF) (litF l) = pur (.nx (((qn l.2).foldl addD acc).map txF))) (C : List Lt) (acc : List Str), Small 20 C → acc.length + 10 * C.length ≤ 50000 →
      (forN F (C.map litF) (acc.map txF) : M (Fl (List FV) Empty)) = pur (.nx (((C.flatMap fun l => qn l.2).foldl addD acc).map txF)) := fun F hF C => by
    induction C with
    | nil => intro acc _ _; rfl
    | cons l C ih =>
      intro acc hs hl
      rw [List.length_cons] at hl
      obtain ⟨b1, b2⟩ := lnm_len l.2
      have l3 := len_fold (qn l.2) acc
      have lq : (qn l.2).length ≤ 3 := by unfold qn; rw [List.length_append]; omega
      rw [List.map_cons, forN_cons, hF acc l (hs l List.mem_cons_self) (by omega), bnd_pur, List.flatMap_cons, List.foldl_append]
      exact ih _ (fun a ha => hs a (List.mem_cons_of_mem _ ha)) (by omega)
  refine (lp _ (fun acc l hd hacc => ?_) C [] hs (by show 0 + _ ≤ _; omega)).trans rfl
  obtain ⟨⟨⟨r1, a1, i1⟩, _⟩, ⟨r2, a2, i2⟩, _⟩ := q_names l.2 n (by omega) hd
  obtain ⟨b1, b2⟩ := lnm_len l.2
  have ad := add_isL i1 i2 (by rw [List.length_map, List.length_map]; omega)
  have inn := dd_walk encS (fun _ _ => .inr trivial) (β := List FV) (F := fun law_names_here_70 law_name_69 => (bnd (oC (gMx true) (.v law_name_69) (.bl law_names_here_70)) fun c_71 => if c_71 = true then (bnd (oApp law_names_here_70 law_name_69) fun law_names_here_72 => (pur (.nx law_names_here_72))) else (pur (.nx law_names_here_70)))) (fun acc a ha hl => by
    have := encS.mx (neg := true) (a := a) (xs := acc) (y := .bl (acc.map txF)) (b := false) ha (fun z h => nomatch h) fun _ => rfl
    rw [if_pos rfl] at this
    rw [this]
    exact add_turn acc a hl) (qn l.2) acc (fun _ _ => trivial) (by unfold qn; rw [List.length_append]; omega)
  simp only [lit_1, lit_2, mV_v, bnd_pur, a1, a2, ad, mV_l, oW_fl]
  rw [← List.map_append, show lnm l.2 ++ rnm l.2 = qn l.2 from rfl, inn]
  rfl
section
variable {D : FV} {σ : Bool → Option U}
theorem filled_list (n : Nat) (C : List Lt) (hD : IsD D σ) (hn : 30 ≤ n) (hs : Small 20 C) (hl : C.length ≤ 1000) : filL (item some (fun _ => pur true) fun one => (bnd (mV (oB gIx (.v one) (.v (.int 0)))) fun v_91 => (bnd (mV (bnd (mV (oB gIx (.v one) (.v (.int 1)))) fun v_89 => ((T n).d_law_filled v_89 D))) fun v_92 => (bnd (mV (bnd (mV (oB gIx (.v one) (.v (.int 2)))) fun v_90 => ((T n).d_law_filled v_90 D))) fun v_93 => (oTup [v_91, v_92, v_93]))))) (C.map litF) = pur (.l ((C.map (gl σ)).map litF)) := by
  rw [List.map_map]
  exact filL_all (e := litF) (f := litF ∘ gl σ) (xs := C) (fun l hl => by
    have := hs l hl
    obtain ⟨⟨_, f1⟩, _, f2⟩ := q_fill hD l.2 n (by omega)
    rw [item_some (x := litF l) rfl, bnd_pur, if_pos rfl]
    simp only [lit_0, lit_1, lit_2, mV_v, bnd_pur, f1, f2, tup_3]
    rfl) (by omega)
theorem left_list (n : Nat) (C : List Lt) (hD : IsD D σ) (hn : 30 ≤ n) (hs : Small 20 C) (hl : C.length ≤ 1000) : filL (item some (fun _ => pur true) fun one => (bnd (mV (oB gIx (.v one) (.v (.int 1)))) fun v_97 => ((T n).d_fill_term v_97 D))) (C.map litF) = pur (.l ((C.map fun l => (flQ σ l.2).l).map Tm.fv)) := by
  rw [List.map_map]
  exact filL_all (e := litF) (f := fun l => (flQ σ l.2).l.fv) (xs := C) (fun l hl => by
    have := hs l hl
    obtain ⟨⟨f1, _⟩, _⟩ := q_fill hD l.2 n (by omega)
    rw [item_some (x := litF l) rfl, bnd_pur, if_pos rfl]
    simp only [lit_1, mV_v, bnd_pur, f1]) (by omega)
end
theorem left_ix (σ : Bool → Option U) (C : List Lt) (hl : C.length ≤ 1000) : filL (item some (fun _ => pur true) fun one => (oB gIx (.v one) (.v (.int 1)))) ((C.map (gl σ)).map litF) = pur (.l ((C.map fun l => (flQ σ l.2).l).map Tm.fv)) := by
  rw [List.map_map, List.map_map]
  exact filL_all (e := litF ∘ gl σ) (f := fun l => (flQ σ l.2).l.fv) (xs := C) (fun l hl => by
    rw [item_some (x := (litF ∘ gl σ) l) rfl, bnd_pur, if_pos rfl]
    show bnd (mV (oB gIx (.v (litF (gl σ l))) _)) _ = _
    rw [lit_1, mV_v, bnd_pur]; rfl) (by omega)
/-- the last loop -/
theorem either_loop (n : Nat) (C : List Lt) (hn : 10 ≤ n) (hs : Small 20 C) : (forN (fun law_either_109 law_literal_here_108 => (bnd (mV (bnd (mV (bnd (oB gIx (.v law_literal_here_108) (.v (.int 0))) fun t_110 => (oNotV t_110))) fun v_111 => (bnd (mV (oB gIx (.v law_literal_here_108) (.v (.int 1)))) fun v_112 => (bnd (mV (oB gIx (.v law_literal_here_108) (.v (.int 2)))) fun v_113 => (oTup [v_111, v_112, v_113]))))) fun law_turned_114 => (bnd (bnd ((T n).d_opposite law_literal_here_108) fun t_115 => (oC (gQ true) t_115 (.v law_turned_114))) fun c_116 => if c_116 = true then ret (pur (.v (.bl false))) else (bnd (mOr (oC (gMx false) (.v law_turned_114) (.v (.tup (C.map litF)))) (mAnd (bnd (oB gIx (.v law_literal_here_108) (.v (.int 0))) fun t_117 => (oT t_117)) (bnd (oB gIx (.v law_literal_here_108) (.v (.int 1))) fun t_118 => (bnd (oB gIx (.v law_literal_here_108) (.v (.int 2))) fun t_119 => (oC (gQ false) t_118 t_119))))) fun c_120 => if c_120 = true then (bnd (pur (.bl true)) fun law_either_121 => (pur (.nx law_either_121))) else (pur (.nx law_either_109)))))) (C.map litF) (.bl false) : M (Fl FV Empty)) = pur (.nx (.bl (C.any (pA C)))) := by
  have lp : ∀ (F : FV → FV → M (Fl FV FV)) (hF : ∀ (b : Bool) (l : Lt), l ∈ C → F (.bl b) (litF l) = pur (.nx (.bl (b || pA C l)))) (xs : List Lt) (b : Bool), (∀ l, l ∈ xs → l ∈ C) →
      (forN F (xs.map litF) (.bl b) : M (Fl FV Empty)) = pur (.nx (.bl (b || xs.any (pA C)))) := fun F hF xs => by
    induction xs with
    | nil => intro b _; rw [List.any_nil, Bool.or_false]; rfl
    | cons x xs ih =>
      intro b h
      rw [List.map_cons, forN_cons, hF b x (h x List.mem_cons_self), bnd_pur, List.any_cons, ← Bool.or_assoc]
      exact ih _ fun l hl => h l (List.mem_cons_of_mem _ hl)
  refine (lp _ (fun b l hl => ?_) C false fun l hl => hl).trans (by rw [Bool.false_or])
  have hd := hs l hl
  have q1 := q_tt (neg := false) (t := l.2.l) (u := l.2.rr) (by have := l.2.dl; omega)
  rw [if_neg Bool.false_ne_true] at q1
  have mx := encL.mx (neg := false) (a := op l) (xs := C) (y := .v (.tup (C.map litF))) (b := true) (show (op l).2.d ≤ 50 from (by show l.2.d ≤ 50; omega)) (litR _) fun _ => rfl
  rw [if_neg Bool.false_ne_true] at mx
  have oo := opp_ok l n (by omega)
  have qo := encL.q (neg := true) (a := op l) (b := op l) (show (op l).2.d ≤ 50 from (by show l.2.d ≤ 50; omega))
  rw [if_pos rfl, decide_eq_true rfl] at qo
  have eo : FV.tup [.bl (!l.1), l.2.l.fv, l.2.rr.fv] = litF (op l) := rfl
  simp only [lit_0, lit_1, lit_2, oNotV_bl, mV_v, bnd_pur, tup_3, eo, oo, qo, Bool.not_true, Bool.false_eq_true, if_false, mx, oT_bl, q1, mAnd_pp, mOr_pp]
  unfold pA
  rw [Bool.or_comm (memD (op l) C)]
  cases ((l.1 && decide (l.2.l = l.2.rr)) || memD (op l) C) with
  | true => rw [if_pos rfl, Bool.or_true]
  | false => rw [if_neg Bool.false_ne_true, Bool.or_false]
end Q87

namespace Q87
open PySem P
theorem Small.mono {a b : Nat} {xs : List Lt} (h : Small a xs) (l : a ≤ b) : Small b xs := fun x hx => Nat.le_trans (h x hx) l
theorem LC_small {X : List Lt} {m : Nat} (h : Small m X) : Small m (LC X) := fun l hl => by
  obtain ⟨x, hx, rfl⟩ := List.mem_map.mp (mem_LC.mp hl)
  rw [fm_d]; exact h x hx
theorem LC_len (X : List Lt) : (LC X).length ≤ X.length := by
  unfold LC
  rw [len_srt]
  have := (dd_sub (X.map fm)).length_le
  rwa [List.length_map] at this
/-- a dict as the law makes it -/
def IsK (kvs : List (L2.Key × FV)) (σ : Bool → Option U) : Prop := ∀ b, lookK kvs (keyS (vn b)) = (σ b).map uF
theorem isD_of {kvs : List (L2.Key × FV)} {σ : Bool → Option U} (h : IsK kvs σ) : IsD (frzD kvs) σ := ⟨kvs.map (·.1), kvs.map (·.2), rfl, fun b => by rw [zip_parts]; exact h b⟩
theorem xy : ¬ ("x" : Str) = "y" := by decide +kernel
theorem k_one (a : U) : IsK [(keyS "x", uF a)] (fun b => if b = true then none else some a) := fun b => by
  have e : lookK (embA uF [("x", a)]) (keyS (vn b)) = (lookA [("x", a)] (vn b)).map uF := look_emb (e := uF) (vn b) [("x", a)]
  refine (show lookK [(keyS "x", uF a)] (keyS (vn b)) = _ from e).trans ?_
  congr 1
  cases b with
  | false => simp [lookA, vn]
  | true => simp [lookA, vn, xy]
theorem k_two (a c : U) : putF [(keyS "x", uF a)] (keyS "y") (uF c) = embA uF [("x", a), ("y", c)] ∧ IsK (embA uF [("x", a), ("y", c)]) (fun b => if b = true then some c else some a) := by
  refine ⟨?_, fun b => ?_⟩
  · have e : putF (embA uF [("x", a)]) (keyS "y") (uF c) = embA uF (putA [("x", a)] "y" c) := put_emb (e := uF) "y" c [("x", a)]
    refine (show putF [(keyS "x", uF a)] (keyS "y") (uF c) = _ from e).trans ?_
    rw [put_new (by simp [lookA, xy])]; rfl
  · rw [look_emb]
    congr 1
    cases b with
    | false => simp [lookA, vn]
    | true => simp [lookA, vn, xy]
theorem sig_d {σ : Bool → Option U} {a c : U} (ha : a.d ≤ 3) (hc : c.d ≤ 3) (h : ∀ b u, σ b = some u → u = a ∨ u = c) : ∀ b u, σ b = some u → u.d ≤ 5 := fun b u e => by
  rcases h b u e with rfl | rfl <;> omega
/-- the filling drawn -/
theorem filling_dr (n : Nat) (hn : 20 ≤ n) {R : Type} {K : List (L2.Key × FV) → M (Fl Unit Empty)} {Q : Fl Unit Empty → Prop} (hK : ∀ kvs σ, IsK kvs σ → (∀ b u, σ b = some u → u.d ≤ 5) → Dr (K kvs) Q 0) :
    Dr (bnd (mD (bnd (mV ((T n).d_law_term (.ref 0) (.int 2))) fun v_82 => (oDis [(.inr "x", v_82)]))) fun law_filling_84 => (bnd (bnd ((T n).d_law_take (.ref 0) (.int 2)) fun t_85 => (oC (gQ false) t_85 (.v (.int 1)))) fun c_86 => seqN (if c_86 = true then (bnd (mV ((T n).d_law_term (.ref 0) (.int 1))) fun v_127 => (bnd (oPut law_filling_84 (.v (.str "y")) v_127) fun law_filling_126 => (pur (.nx law_filling_126)))) else (pur (.nx law_filling_84))) K)) Q 11 := by
  obtain ⟨n, rfl⟩ : ∃ k, n = k + 1 := ⟨n - 1, by omega⟩
  have t1 : Dr (mV ((T (n + 1)).d_law_term (.ref 0) (.int 1))) (UV 1) 4 := UQ.mV (term_dr 1 (n + 1) (by omega))
  have t2 : Dr (mV ((T (n + 1)).d_law_term (.ref 0) (.int 2))) (UV 2) 6 := UQ.mV (term_dr 2 (n + 1) (by omega))
  rw [show ∀ (m : M FV) (k : FV → M RV), mD (bnd m k) = bnd m fun a => mD (k a) from fun m k => bnd_bnd _ _ _, bnd_bnd]
  refine Dr.bnd t2 (d := 5) (fun v ⟨a, e, ha⟩ => ?_) (Nat.le_refl _)
  subst e
  have d1 : oDis [(.inr "x", uF a)] = pur (.d [(keyS "x", uF a)]) := dis_1 _ _
  rw [d1, show mD (pur (.d [(keyS "x", uF a)])) = pur [(keyS "x", uF a)] from rfl, bnd_pur, bnd_bnd]
  refine Dr.bnd (take_dr n 2 (by decide)) (d := 4) (fun r ⟨i, hi, e⟩ => ?_) (Nat.le_refl _)
  subst e
  rw [q_ii, bnd_pur]
  refine Dr.seq (Z := fun kvs => ∃ σ, IsK kvs σ ∧ ∀ b u, σ b = some u → u.d ≤ 5) (c := 4) (d := 0) ?_ (fun kvs ⟨σ, h1, h2⟩ => hK kvs σ h1 h2) (Nat.le_refl _)
  have base : ∃ σ, IsK [(keyS "x", uF a)] σ ∧ ∀ b u, σ b = some u → u.d ≤ 5 := ⟨_, k_one a, fun b u e => by
    cases b with
    | true => cases e
    | false => cases e; omega⟩
  refine Dr.ite (fun _ => ?_) fun _ => (Dr.nx (Z := fun kvs => ∃ σ, IsK kvs σ ∧ ∀ b u, σ b = some u → u.d ≤ 5) rfl base).up (Nat.zero_le _)
  refine Dr.bnd t1 (d := 0) (fun w ⟨c, e, hc⟩ => ?_) (Nat.le_refl _)
  subst e
  obtain ⟨p1, p2⟩ := k_two a c
  have pt : oPut [(keyS "x", uF a)] (.v (.str "y")) (uF c) = pur (embA uF [("x", a), ("y", c)]) := by
    rw [← p1]; rfl
  rw [pt, bnd_pur]
  exact Dr.nx (Z := fun kvs => ∃ σ, IsK kvs σ ∧ ∀ b u, σ b = some u → u.d ≤ 5) rfl ⟨_, p2, fun b u e => by
    cases b with
    | true => cases e; omega
    | false => cases e; omega⟩
theorem Dr.eqb {α β : Type} {m : M α} {a : α} {k : α → M β} {Q : β → Prop} {c : Nat} (e : m = pur a) (h : Dr (k a) Q c) : Dr (bnd m k) Q c := by
  rw [e, bnd_pur]; exact h
theorem Dr.eqs {α γ : Type} {m : M (Fl α Empty)} {a : α} {k : α → M (Fl γ Empty)} {Q : Fl γ Empty → Prop} {c : Nat} (e : m = pur (.nx a)) (h : Dr (k a) Q c) : Dr (seqN m k) Q c := by
  rw [e, seqN_nx]; exact h
theorem Dr.no {α : Type} {m n : M α} {Q : α → Prop} {c : Nat} (h : Dr n Q c) : Dr (if false = true then m else n) Q c := by
  rw [if_neg Bool.false_ne_true]; exact h
/-- the law behind the start -/
theorem law_body (n : Nat) (hn : 60 ≤ n) (v : FV) : ∃ R : FV → M (Fl Unit Empty), n_law (T n) v = bnd (mT ((T n).d_law_start v)) R ∧ Dr (R (.ref 0)) (RtQ fun r => r = .v (.bl true)) 200 := by
  refine ⟨_, rfl, ?_⟩
  refine Dr.bnd (lits_dr n (by omega)) (d := 115) (fun w ⟨X, e, hX, sX⟩ => ?_) (Nat.le_refl _)
  subst e
  rw [lst_nil, mL_l, bnd_pur]
  refine Dr.eqb (a := rngL 0 X.length) (by rw [len_f, bnd_pur, List.length_map, r1_i (by omega) (by omega), Int.toNat_natCast]) ?_
  refine Dr.seq (Z := fun a => ∃ O, a = O.map litF ∧ Oth X X.length O) (c := 24) (d := 91) ?_ (fun a ⟨O, e, hO⟩ => ?_) (Nat.le_refl _)
  · refine (Dr.forR (top := X.length) (I := fun k a => ∃ O, a = O.map litF ∧ Oth X k O) (c := 4) (fun k a hk ⟨O, e, hO⟩ => ?_) X.length 0 [] (Nat.zero_add _) ⟨[], rfl, Nat.zero_le _, fun l hl => (nomatch hl), fun o ho => (nomatch ho), fun j x hj _ => absurd hj (Nat.not_lt_zero _)⟩).up (by omega)
    subst e
    exact other_turn n (by omega) X O k hk hX sX hO
  subst e
  have s20 := sX.mono (show 4 ≤ 20 by omega)
  have oln := hO.ln
  have osm := hO.sm.mono (show 4 ≤ 20 by omega)
  have C4 := LC_small sX
  have cln := LC_len X
  have F1 := law_clause n X (by omega) s20 (by omega)
  have F2 := mk_list n X (by omega) s20 (by omega)
  have F2' := mk_list n O (by omega) osm (by omega)
  have fms : ∀ {Y : List Lt}, Small 20 Y → Small 20 (Y.map fm) := fun h l hl => by
    obtain ⟨x, hx, rfl⟩ := List.mem_map.mp hl
    rw [fm_d]; exact h x hx
  have F3 := make_clause n (X.map fm) (.fl ((X.map fm).map litF)) (b := false) (fun _ => rfl) (by omega) (fms s20) (by rw [List.length_map]; omega)
  have F4 := make_clause n (O.map fm) (.tup ((O.map fm).map litF)) (b := true) (fun _ => rfl) (by omega) (fms osm) (by rw [List.length_map]; omega)
  rw [mc_lc (ys := X) fun a => Iff.rfl] at F3
  rw [mc_lc (ys := X) fun a => hO.same a] at F4
  generalize LC X = C at *
  have C10 := C4.mono (show 4 ≤ 10 by omega)
  have C20 := C4.mono (show 4 ≤ 20 by omega)
  have cl : C.length ≤ 1000 := by omega
  have Q1 := q_tups C (C4.mono (by omega))
  obtain ⟨F5, F6⟩ := texts_ok n C (by omega) C20 cl
  have Q2 := q_lists (neg := true) (x := .l ((C.map ltx).map txF)) (y := .v (.fl ((C.map ltx).map txF))) (txt_dep _).1 (txt_dep _).2 (fun s => (dv_lp (txt_dep _).1 s).1) (fun s => (dv_lp (txt_dep _).1 s).2.2)
  have F7 := clause_text n C (by omega) C20 cl
  have jo := join_or (C.map ltx) (ltx_small C20) (by rw [List.length_map]; exact cl) (r := .v (.fl ((C.map ltx).map txF))) (b := false) fun _ => rfl
  have F8 := names_loop n C (by omega) C20 cl
  have F9 := is_ground n C (by omega) C20 cl
  have F10 := clause_unk n C (by omega) C20 cl
  have Q3 := q_lists (neg := true) (x := .l ((UN C).map txF)) (y := .bl ((UN C).map txF)) (txt_dep _).1 (txt_dep _).2 (fun s => (dv_lp (txt_dep _).1 s).1) (fun s => (dv_lp (txt_dep _).1 s).2.1)
  have F11 := either_loop n C (by omega) C20
  have F12 := always n C (by omega) C20
  have el : decide (((UN C).length : Int) = 0) = decide ((UN C).length = 0) := decide_eq_decide.mpr (by omega)

  refine Dr.eqb (a := .tup (C.map litF)) (by rw [F1, mV_v]) ?_
  refine Dr.eqb (a := false) (by simp only [oW_fl, bnd_pur, F2, mV_l, F3, Q1]) (Dr.no ?_)
  refine Dr.eqb (a := false) (by simp only [oW_fl, bnd_pur, F2', tup_l, mV_v, F4, Q1]) (Dr.no ?_)
  refine Dr.eqb (a := .fl ((C.map ltx).map txF)) (by simp only [oW_tup, bnd_pur, F6, mV_l]) ?_
  refine Dr.eqb (a := false) (by simp only [oW_tup, bnd_pur, F5, Q2, Bool.not_true]) (Dr.no ?_)
  rw [bnd_pur]
  refine Dr.eqb (a := decide ((0 : Int) < (((C.map ltx).map txF).length : Int))) (by simp only [len_f, bnd_pur, gt_ii]) ?_
  refine Dr.eqs (a := .str (CT C)) ?_ ?_
  · rw [List.length_map, List.length_map]
    unfold CT
    by_cases h0 : C.length = 0
    · rw [if_pos h0, decide_eq_false (by omega), if_neg Bool.false_ne_true]
    · rw [if_neg h0, decide_eq_true (by omega), if_pos rfl, jo, mV_v, bnd_pur]
  refine Dr.eqb (a := false) (by simp only [F7, bnd_pur, q_ss, if_true, decide_true, Bool.not_true]) (Dr.no ?_)
  rw [bnd_pur, oW_tup, bnd_pur]
  refine Dr.eqs F8 ?_
  refine Dr.eqb (a := .bl (decide ((UN C).length = 0))) (by rw [F9, mV_v]) ?_
  refine Dr.eqb (a := false) (by simp only [F10, bnd_pur, Q3, Bool.not_true, mOr_f, is_bb, oT_bl, mNot_pur, len_bl, List.length_map, q_ii, Bool.false_eq_true, if_false, el, mB_pur, q_bb, if_true, decide_true]) (Dr.no ?_)
  refine (filling_dr n (by omega) (R := Unit) fun kvs σ hk hσ => ?_).up (by omega)
  have hD := isD_of hk
  have G1 := filled_list n C hD (by omega) C20 cl
  have G2 := left_list n C hD (by omega) C20 cl
  have G3 := left_ix σ C cl
  have G4 := fill_clause n C hD hσ (by omega) C10 cl
  have g20 : Small 20 (C.map (gl σ)) := fun l hl => by
    obtain ⟨x, hx, rfl⟩ := List.mem_map.mp hl
    have := flQ_d hσ x.2
    have := C4 x hx
    show (flQ σ x.2).d ≤ 20
    omega
  have G5 := law_clause n (C.map (gl σ)) (by omega) g20 (by rw [List.length_map]; exact cl)
  rw [mc_lc (ys := C.map (gl σ)) fun a => by rw [List.map_map]; exact Iff.rfl] at G4
  have Q5 := q_tups (LC (C.map (gl σ))) ((LC_small g20).mono (by omega))
  have td := tm_dep (C.map fun l => (flQ σ l.2).l) fun x hx => by
    obtain ⟨l, hl, rfl⟩ := List.mem_map.mp hx
    have := flQ_d hσ l.2
    have := C4 l hl
    have := (flQ σ l.2).dl
    omega
  have Q4 := q_lists (neg := true) (x := .l ((C.map fun l => (flQ σ l.2).l).map Tm.fv)) (y := .l ((C.map fun l => (flQ σ l.2).l).map Tm.fv)) td.1 td.2 (fun s => (dv_lp td.1 s).1) (fun s => (dv_lp td.1 s).1)
  refine Dr.eqb (a := .fl ((C.map (gl σ)).map litF)) (by simp only [oW_tup, bnd_pur, G1, mV_l]) ?_
  refine Dr.eqb (a := false) (by simp only [oW_tup, oW_fl, bnd_pur, G2, G3, Q4, Bool.not_true]) (Dr.no ?_)
  refine Dr.eqb (a := false) (by simp only [G4, G5, bnd_pur, Q5]) (Dr.no ?_)
  rw [bnd_pur, bnd_pur]
  refine Dr.eqs F11 ?_
  refine Dr.eqb (a := .bl (C.any (pA C))) (by rw [F12, mV_v]) ?_
  exact Dr.of (a := .rt (.v (.bl true))) (by simp only [is_bb, bnd_pur, oAndV_t, q_bb, Bool.false_eq_true, if_false, decide_true, mB_pur, ret_pur]) rfl
end Q87

namespace Q87
open PySem P
theorem start_eq (n : Nat) (v : FV) : (T (n + 1)).d_law_start v = gcM (toF (startN v)) := by rw [T__law_start]; rfl
theorem law_gen (n : Nat) (hn : 60 ≤ n) (ns : List Int) (hns : ns.length ≤ 63) : (T (n + 1 + 1)).d_law (.sl (ns.map .int)) [] = .ok (.v (.bl true)) [] := by
  obtain ⟨row, sd, hs⟩ := start_ok ns hns
  have e0 : (T (n + 1)).d_law_start (.sl (ns.map .int)) = pur (.l [.fl (row.map .int), .int 0, .int sd]) := by rw [start_eq, hs]
  have e1 : mT ((T (n + 1)).d_law_start (.sl (ns.map .int))) [] = .ok (.ref 0) [(DS.mk row 0 sd).ob] := by rw [e0]; rfl
  obtain ⟨R, h1, h2⟩ := law_body (n + 1) (by omega) (.sl (ns.map .int))
  obtain ⟨r1, s1, a1, a2, a3⟩ := h2.toF ⟨row, 0, sd⟩ [] rfl (by show 0 + 200 ≤ 2 ^ 60; decide)
  subst a3
  rw [T_law, h1]
  have e2 : toF (bnd (mT ((T (n + 1)).d_law_start (.sl (ns.map .int)))) R) [] = .ok (.v (.bl true)) [s1.ob] := by
    rw [toF_bnd, bnd_ok e1]
    exact a1
  exact gc_val e2 rfl rfl fun i z => nomatch z
theorem f1_at (f : FV → M RV) (x : FV) (h : FH) : P.f1 f [x] h = f x h := rfl
theorem law_at (m : Nat) (hm : m = 98 + 1 + 1) (ns : List Int) (hns : ns.length ≤ 63) : ∃ h', P.f1 (T m).d_law [.sl (ns.map .int)] [] = .ok (.v (.bl true)) h' := by
  subst hm
  refine ⟨[], ?_⟩
  rw [f1_at]
  exact law_gen 98 (by decide) ns hns
theorem law_true (ns : List Int) (hns : ns.length ≤ 63) : ∃ h', P.f1 (T 100).d_law [.sl (ns.map .int)] [] = .ok (.v (.bl true)) h' := law_at 100 (by decide) ns hns
end Q87

namespace Q87
open PySem PySem.Spec PyProof.Rows L2 G P
theorem all_mk {l : PySem.W.OpenLaw} {w : World} {K : PySem.W.Frag} {h : Heap} {mg : Str → Option Value} {fa : Addr} (X : K.In h) (GN : h.Ns mainGlobals mg) (hfa : mg "law" = some (.ref fa))
    {f1 f2 f3 f4 f5 f6 f7 f8 f9 f10 f11 f12 f13 f14 f15 f16 f17 f18 f19 f20 f21 f22 f23 f24 f25 f26 : Addr} {od1 an1 od2 an2 od3 an3 od4 an4 od5 an5 od6 an6 od7 an7 od8 an8 od9 an9 od10 an10 od11 an11 od12 an12 od13 an13 od14 an14 od15 an15 od16 an16 od17 an17 od18 an18 od19 an19 od20 an20 od21 an21 od22 an22 od23 an23 od24 an24 od25 an25 od26 an26 : Option Addr} {sl1 sl2 sl3 sl4 sl5 sl6 sl7 sl8 sl9 sl10 sl11 sl12 sl13 sl14 sl15 sl16 sl17 sl18 sl19 sl20 sl21 sl22 sl23 sl24 sl25 sl26 : Array (Option Value)} {oc1 kV1 dc1 pm1 cd1 ct1 oc2 kV2 dc2 pm2 cd2 ct2 oc3 kV3 dc3 pm3 cd3 ct3 oc4 kV4 dc4 pm4 cd4 ct4 oc5 kV5 dc5 pm5 cd5 ct5 oc6 kV6 dc6 pm6 cd6 ct6 oc7 kV7 dc7 pm7 cd7 ct7 oc8 kV8 dc8 pm8 cd8 ct8 oc9 kV9 dc9 pm9 cd9 ct9 oc10 kV10 dc10 pm10 cd10 ct10 oc11 kV11 dc11 pm11 cd11 ct11 oc12 kV12 dc12 pm12 cd12 ct12 oc13 kV13 dc13 pm13 cd13 ct13 oc14 kV14 dc14 pm14 cd14 ct14 oc15 kV15 dc15 pm15 cd15 ct15 oc16 kV16 dc16 pm16 cd16 ct16 oc17 kV17 dc17 pm17 cd17 ct17 oc18 kV18 dc18 pm18 cd18 ct18 oc19 kV19 dc19 pm19 cd19 ct19 oc20 kV20 dc20 pm20 cd20 ct20 oc21 kV21 dc21 pm21 cd21 ct21 oc22 kV22 dc22 pm22 cd22 ct22 oc23 kV23 dc23 pm23 cd23 ct23 oc24 kV24 dc24 pm24 cd24 ct24 oc25 kV25 dc25 pm25 cd25 ct25 oc26 kV26 dc26 pm26 cd26 ct26 : Value}
    (a1 : PySem.W.nsIn K mainGlobals "unknowns_of" = some (some (.ref f1))) (l1 : K.lookup f1 = some ⟨oc1, od1, .func (PySem.W.fnOf "unknowns_of" "unknowns_of" (defArgs s_unknowns_of) (defBody s_unknowns_of) (defScope s_unknowns_of) .none kV1 dc1 pm1 an1 cd1 ct1), sl1⟩) (c1 : PySem.W.codeIn K cd1 "unknowns_of" = true) (k1 : PySem.W.keepIn K (.ref f1) = true)
    (a2 : PySem.W.nsIn K mainGlobals "fill_term" = some (some (.ref f2))) (l2 : K.lookup f2 = some ⟨oc2, od2, .func (PySem.W.fnOf "fill_term" "fill_term" (defArgs s_fill_term) (defBody s_fill_term) (defScope s_fill_term) .none kV2 dc2 pm2 an2 cd2 ct2), sl2⟩) (c2 : PySem.W.codeIn K cd2 "fill_term" = true) (k2 : PySem.W.keepIn K (.ref f2) = true)
    (a3 : PySem.W.nsIn K mainGlobals "term_text" = some (some (.ref f3))) (l3 : K.lookup f3 = some ⟨oc3, od3, .func (PySem.W.fnOf "term_text" "term_text" (defArgs s_term_text) (defBody s_term_text) (defScope s_term_text) .none kV3 dc3 pm3 an3 cd3 ct3), sl3⟩) (c3 : PySem.W.codeIn K cd3 "term_text" = true) (k3 : PySem.W.keepIn K (.ref f3) = true)
    (a4 : PySem.W.nsIn K mainGlobals "_arguments" = some (some (.ref f4))) (l4 : K.lookup f4 = some ⟨oc4, od4, .func (PySem.W.fnOf "_arguments" "_arguments" (defArgs s__arguments) (defBody s__arguments) (defScope s__arguments) .none kV4 dc4 pm4 an4 cd4 ct4), sl4⟩) (c4 : PySem.W.codeIn K cd4 "_arguments" = true) (k4 : PySem.W.keepIn K (.ref f4) = true)
    (a5 : PySem.W.nsIn K mainGlobals "_all_parts" = some (some (.ref f5))) (l5 : K.lookup f5 = some ⟨oc5, od5, .func (PySem.W.fnOf "_all_parts" "_all_parts" (defArgs s__all_parts) (defBody s__all_parts) (defScope s__all_parts) .none kV5 dc5 pm5 an5 cd5 ct5), sl5⟩) (c5 : PySem.W.codeIn K cd5 "_all_parts" = true) (k5 : PySem.W.keepIn K (.ref f5) = true)
    (a6 : PySem.W.nsIn K mainGlobals "make_literal" = some (some (.ref f6))) (l6 : K.lookup f6 = some ⟨oc6, od6, .func (PySem.W.fnOf "make_literal" "make_literal" (defArgs s_make_literal) (defBody s_make_literal) (defScope s_make_literal) .none kV6 dc6 pm6 an6 cd6 ct6), sl6⟩) (c6 : PySem.W.codeIn K cd6 "make_literal" = true) (k6 : PySem.W.keepIn K (.ref f6) = true)
    (a7 : PySem.W.nsIn K mainGlobals "literal_text" = some (some (.ref f7))) (l7 : K.lookup f7 = some ⟨oc7, od7, .func (PySem.W.fnOf "literal_text" "literal_text" (defArgs s_literal_text) (defBody s_literal_text) (defScope s_literal_text) .none kV7 dc7 pm7 an7 cd7 ct7), sl7⟩) (c7 : PySem.W.codeIn K cd7 "literal_text" = true) (k7 : PySem.W.keepIn K (.ref f7) = true)
    (a8 : PySem.W.nsIn K mainGlobals "opposite" = some (some (.ref f8))) (l8 : K.lookup f8 = some ⟨oc8, od8, .func (PySem.W.fnOf "opposite" "opposite" (defArgs s_opposite) (defBody s_opposite) (defScope s_opposite) .none kV8 dc8 pm8 an8 cd8 ct8), sl8⟩) (c8 : PySem.W.codeIn K cd8 "opposite" = true) (k8 : PySem.W.keepIn K (.ref f8) = true)
    (a9 : PySem.W.nsIn K mainGlobals "make_clause" = some (some (.ref f9))) (l9 : K.lookup f9 = some ⟨oc9, od9, .func (PySem.W.fnOf "make_clause" "make_clause" (defArgs s_make_clause) (defBody s_make_clause) (defScope s_make_clause) .none kV9 dc9 pm9 an9 cd9 ct9), sl9⟩) (c9 : PySem.W.codeIn K cd9 "make_clause" = true) (k9 : PySem.W.keepIn K (.ref f9) = true)
    (a10 : PySem.W.nsIn K mainGlobals "fill_clause" = some (some (.ref f10))) (l10 : K.lookup f10 = some ⟨oc10, od10, .func (PySem.W.fnOf "fill_clause" "fill_clause" (defArgs s_fill_clause) (defBody s_fill_clause) (defScope s_fill_clause) .none kV10 dc10 pm10 an10 cd10 ct10), sl10⟩) (c10 : PySem.W.codeIn K cd10 "fill_clause" = true) (k10 : PySem.W.keepIn K (.ref f10) = true)
    (a11 : PySem.W.nsIn K mainGlobals "clause_text" = some (some (.ref f11))) (l11 : K.lookup f11 = some ⟨oc11, od11, .func (PySem.W.fnOf "clause_text" "clause_text" (defArgs s_clause_text) (defBody s_clause_text) (defScope s_clause_text) .none kV11 dc11 pm11 an11 cd11 ct11), sl11⟩) (c11 : PySem.W.codeIn K cd11 "clause_text" = true) (k11 : PySem.W.keepIn K (.ref f11) = true)
    (a12 : PySem.W.nsIn K mainGlobals "clause_unknowns" = some (some (.ref f12))) (l12 : K.lookup f12 = some ⟨oc12, od12, .func (PySem.W.fnOf "clause_unknowns" "clause_unknowns" (defArgs s_clause_unknowns) (defBody s_clause_unknowns) (defScope s_clause_unknowns) .none kV12 dc12 pm12 an12 cd12 ct12), sl12⟩) (c12 : PySem.W.codeIn K cd12 "clause_unknowns" = true) (k12 : PySem.W.keepIn K (.ref f12) = true)
    (a13 : PySem.W.nsIn K mainGlobals "is_ground" = some (some (.ref f13))) (l13 : K.lookup f13 = some ⟨oc13, od13, .func (PySem.W.fnOf "is_ground" "is_ground" (defArgs s_is_ground) (defBody s_is_ground) (defScope s_is_ground) .none kV13 dc13 pm13 an13 cd13 ct13), sl13⟩) (c13 : PySem.W.codeIn K cd13 "is_ground" = true) (k13 : PySem.W.keepIn K (.ref f13) = true)
    (a14 : PySem.W.nsIn K mainGlobals "always_true" = some (some (.ref f14))) (l14 : K.lookup f14 = some ⟨oc14, od14, .func (PySem.W.fnOf "always_true" "always_true" (defArgs s_always_true) (defBody s_always_true) (defScope s_always_true) .none kV14 dc14 pm14 an14 cd14 ct14), sl14⟩) (c14 : PySem.W.codeIn K cd14 "always_true" = true) (k14 : PySem.W.keepIn K (.ref f14) = true)
    (a15 : PySem.W.nsIn K mainGlobals "_fill_literal" = some (some (.ref f15))) (l15 : K.lookup f15 = some ⟨oc15, od15, .func (PySem.W.fnOf "_fill_literal" "_fill_literal" (defArgs s__fill_literal) (defBody s__fill_literal) (defScope s__fill_literal) .none kV15 dc15 pm15 an15 cd15 ct15), sl15⟩) (c15 : PySem.W.codeIn K cd15 "_fill_literal" = true) (k15 : PySem.W.keepIn K (.ref f15) = true)
    (a16 : PySem.W.nsIn K mainGlobals "_law_start" = some (some (.ref f16))) (l16 : K.lookup f16 = some ⟨oc16, od16, .func (PySem.W.fnOf "_law_start" "_law_start" (defArgs s__law_start) (defBody s__law_start) (defScope s__law_start) .none kV16 dc16 pm16 an16 cd16 ct16), sl16⟩) (c16 : PySem.W.codeIn K cd16 "_law_start" = true) (k16 : PySem.W.keepIn K (.ref f16) = true)
    (a17 : PySem.W.nsIn K mainGlobals "_law_take" = some (some (.ref f17))) (l17 : K.lookup f17 = some ⟨oc17, od17, .func (PySem.W.fnOf "_law_take" "_law_take" (defArgs s__law_take) (defBody s__law_take) (defScope s__law_take) .none kV17 dc17 pm17 an17 cd17 ct17), sl17⟩) (c17 : PySem.W.codeIn K cd17 "_law_take" = true) (k17 : PySem.W.keepIn K (.ref f17) = true)
    (a18 : PySem.W.nsIn K mainGlobals "_law_term" = some (some (.ref f18))) (l18 : K.lookup f18 = some ⟨oc18, od18, .func (PySem.W.fnOf "_law_term" "_law_term" (defArgs s__law_term) (defBody s__law_term) (defScope s__law_term) .none kV18 dc18 pm18 an18 cd18 ct18), sl18⟩) (c18 : PySem.W.codeIn K cd18 "_law_term" = true) (k18 : PySem.W.keepIn K (.ref f18) = true)
    (a19 : PySem.W.nsIn K mainGlobals "_law_literal" = some (some (.ref f19))) (l19 : K.lookup f19 = some ⟨oc19, od19, .func (PySem.W.fnOf "_law_literal" "_law_literal" (defArgs s__law_literal) (defBody s__law_literal) (defScope s__law_literal) .none kV19 dc19 pm19 an19 cd19 ct19), sl19⟩) (c19 : PySem.W.codeIn K cd19 "_law_literal" = true) (k19 : PySem.W.keepIn K (.ref f19) = true)
    (a20 : PySem.W.nsIn K mainGlobals "_law_text" = some (some (.ref f20))) (l20 : K.lookup f20 = some ⟨oc20, od20, .func (PySem.W.fnOf "_law_text" "_law_text" (defArgs s__law_text) (defBody s__law_text) (defScope s__law_text) .none kV20 dc20 pm20 an20 cd20 ct20), sl20⟩) (c20 : PySem.W.codeIn K cd20 "_law_text" = true) (k20 : PySem.W.keepIn K (.ref f20) = true)
    (a21 : PySem.W.nsIn K mainGlobals "_law_formed" = some (some (.ref f21))) (l21 : K.lookup f21 = some ⟨oc21, od21, .func (PySem.W.fnOf "_law_formed" "_law_formed" (defArgs s__law_formed) (defBody s__law_formed) (defScope s__law_formed) .none kV21 dc21 pm21 an21 cd21 ct21), sl21⟩) (c21 : PySem.W.codeIn K cd21 "_law_formed" = true) (k21 : PySem.W.keepIn K (.ref f21) = true)
    (a22 : PySem.W.nsIn K mainGlobals "_law_said" = some (some (.ref f22))) (l22 : K.lookup f22 = some ⟨oc22, od22, .func (PySem.W.fnOf "_law_said" "_law_said" (defArgs s__law_said) (defBody s__law_said) (defScope s__law_said) .none kV22 dc22 pm22 an22 cd22 ct22), sl22⟩) (c22 : PySem.W.codeIn K cd22 "_law_said" = true) (k22 : PySem.W.keepIn K (.ref f22) = true)
    (a23 : PySem.W.nsIn K mainGlobals "_law_clause" = some (some (.ref f23))) (l23 : K.lookup f23 = some ⟨oc23, od23, .func (PySem.W.fnOf "_law_clause" "_law_clause" (defArgs s__law_clause) (defBody s__law_clause) (defScope s__law_clause) .none kV23 dc23 pm23 an23 cd23 ct23), sl23⟩) (c23 : PySem.W.codeIn K cd23 "_law_clause" = true) (k23 : PySem.W.keepIn K (.ref f23) = true)
    (a24 : PySem.W.nsIn K mainGlobals "_law_filled" = some (some (.ref f24))) (l24 : K.lookup f24 = some ⟨oc24, od24, .func (PySem.W.fnOf "_law_filled" "_law_filled" (defArgs s__law_filled) (defBody s__law_filled) (defScope s__law_filled) .none kV24 dc24 pm24 an24 cd24 ct24), sl24⟩) (c24 : PySem.W.codeIn K cd24 "_law_filled" = true) (k24 : PySem.W.keepIn K (.ref f24) = true)
    (a25 : PySem.W.nsIn K mainGlobals "_law_names" = some (some (.ref f25))) (l25 : K.lookup f25 = some ⟨oc25, od25, .func (PySem.W.fnOf "_law_names" "_law_names" (defArgs s__law_names) (defBody s__law_names) (defScope s__law_names) .none kV25 dc25 pm25 an25 cd25 ct25), sl25⟩) (c25 : PySem.W.codeIn K cd25 "_law_names" = true) (k25 : PySem.W.keepIn K (.ref f25) = true)
    (a26 : PySem.W.nsIn K mainGlobals "law" = some (some (.ref f26))) (l26 : K.lookup f26 = some ⟨oc26, od26, .func (PySem.W.fnOf "law" "law" (defArgs s_law) (defBody s_law) (defScope s_law) .none kV26 dc26 pm26 an26 cd26 ct26), sl26⟩) (c26 : PySem.W.codeIn K cd26 "law" = true) (k26 : PySem.W.keepIn K (.ref f26) = true)
    (z1 : PySem.W.nsIn K mainGlobals "isinstance" = some none)
    (z2 : PySem.W.nsIn K mainGlobals "str" = some none)
    (z3 : PySem.W.nsIn K mainGlobals "list" = some none)
    (z4 : PySem.W.nsIn K mainGlobals "tuple" = some none)
    (z5 : PySem.W.nsIn K mainGlobals "len" = some none)
    (z6 : PySem.W.nsIn K mainGlobals "sorted" = some none)
    (z7 : PySem.W.nsIn K mainGlobals "range" = some none)
    (z8 : PySem.W.nsIn K mainGlobals "abs" = some none)
    (z9 : PySem.W.nsIn K mainGlobals "int" = some none)
    (z10 : PySem.W.nsIn K mainGlobals "bool" = some none)
    {ga1 : Addr} {go1 : Obj} (y1 : PySem.W.nsIn K mainGlobals "TOP" = some (some (.ref ga1))) (yl1 : K.lookup ga1 = some go1) (yt1 : tupOf go1 [""] = true)
    : ∃ fd : FuncData, (∀ (s : Shared) (v : Value), BindsTo s fd ⟨[v], []⟩ [("_law_script", v)]) ∧ ∀ base : Heap, K.In base → base.Ns mainGlobals mg → FnOk l.prog w K mg base (L2.CX l.prog w) 200 fa fd ["_law_script"] (spP ⟨K, mg⟩ (_root_.P.f1 (T 100).d_law)) := by
  have e := hfa.symm.trans (PySem.W.mg_of X GN a26)
  cases e
  have F1 := fun_mk (st := s_unknowns_of) l1 c1 k1
  have b1 := F1.binds (ps := ["term"]) fun _ _ _ _ _ _ us hl => match us, hl with | [_], _ => rfl
  have m1 := PySem.W.mg_of X GN a1
  have F2 := fun_mk (st := s_fill_term) l2 c2 k2
  have b2 := F2.binds (ps := ["term", "filling"]) fun _ _ _ _ _ _ us hl => match us, hl with | [_, _], _ => rfl
  have m2 := PySem.W.mg_of X GN a2
  have F3 := fun_mk (st := s_term_text) l3 c3 k3
  have b3 := F3.binds (ps := ["term"]) fun _ _ _ _ _ _ us hl => match us, hl with | [_], _ => rfl
  have m3 := PySem.W.mg_of X GN a3
  have F4 := fun_mk (st := s__arguments) l4 c4 k4
  have b4 := F4.binds (ps := ["term"]) fun _ _ _ _ _ _ us hl => match us, hl with | [_], _ => rfl
  have m4 := PySem.W.mg_of X GN a4
  have F5 := fun_mk (st := s__all_parts) l5 c5 k5
  have b5 := F5.binds (ps := ["term"]) fun _ _ _ _ _ _ us hl => match us, hl with | [_], _ => rfl
  have m5 := PySem.W.mg_of X GN a5
  have F6 := fun_mk (st := s_make_literal) l6 c6 k6
  have b6 := F6.binds (ps := ["sign", "left", "right"]) fun _ _ _ _ _ _ us hl => match us, hl with | [_, _, _], _ => rfl
  have m6 := PySem.W.mg_of X GN a6
  have F7 := fun_mk (st := s_literal_text) l7 c7 k7
  have b7 := F7.binds (ps := ["literal"]) fun _ _ _ _ _ _ us hl => match us, hl with | [_], _ => rfl
  have m7 := PySem.W.mg_of X GN a7
  have F8 := fun_mk (st := s_opposite) l8 c8 k8
  have b8 := F8.binds (ps := ["literal"]) fun _ _ _ _ _ _ us hl => match us, hl with | [_], _ => rfl
  have m8 := PySem.W.mg_of X GN a8
  have F9 := fun_mk (st := s_make_clause) l9 c9 k9
  have b9 := F9.binds (ps := ["literals"]) fun _ _ _ _ _ _ us hl => match us, hl with | [_], _ => rfl
  have m9 := PySem.W.mg_of X GN a9
  have F10 := fun_mk (st := s_fill_clause) l10 c10 k10
  have b10 := F10.binds (ps := ["clause", "filling"]) fun _ _ _ _ _ _ us hl => match us, hl with | [_, _], _ => rfl
  have m10 := PySem.W.mg_of X GN a10
  have F11 := fun_mk (st := s_clause_text) l11 c11 k11
  have b11 := F11.binds (ps := ["clause"]) fun _ _ _ _ _ _ us hl => match us, hl with | [_], _ => rfl
  have m11 := PySem.W.mg_of X GN a11
  have F12 := fun_mk (st := s_clause_unknowns) l12 c12 k12
  have b12 := F12.binds (ps := ["clause"]) fun _ _ _ _ _ _ us hl => match us, hl with | [_], _ => rfl
  have m12 := PySem.W.mg_of X GN a12
  have F13 := fun_mk (st := s_is_ground) l13 c13 k13
  have b13 := F13.binds (ps := ["clause"]) fun _ _ _ _ _ _ us hl => match us, hl with | [_], _ => rfl
  have m13 := PySem.W.mg_of X GN a13
  have F14 := fun_mk (st := s_always_true) l14 c14 k14
  have b14 := F14.binds (ps := ["clause"]) fun _ _ _ _ _ _ us hl => match us, hl with | [_], _ => rfl
  have m14 := PySem.W.mg_of X GN a14
  have F15 := fun_mk (st := s__fill_literal) l15 c15 k15
  have b15 := F15.binds (ps := ["literal", "filling"]) fun _ _ _ _ _ _ us hl => match us, hl with | [_, _], _ => rfl
  have m15 := PySem.W.mg_of X GN a15
  have F16 := fun_mk (st := s__law_start) l16 c16 k16
  have b16 := F16.binds (ps := ["_law_script"]) fun _ _ _ _ _ _ us hl => match us, hl with | [_], _ => rfl
  have m16 := PySem.W.mg_of X GN a16
  have F17 := fun_mk (st := s__law_take) l17 c17 k17
  have b17 := F17.binds (ps := ["_law_state", "_law_many"]) fun _ _ _ _ _ _ us hl => match us, hl with | [_, _], _ => rfl
  have m17 := PySem.W.mg_of X GN a17
  have F18 := fun_mk (st := s__law_term) l18 c18 k18
  have b18 := F18.binds (ps := ["_law_state", "_law_depth"]) fun _ _ _ _ _ _ us hl => match us, hl with | [_, _], _ => rfl
  have m18 := PySem.W.mg_of X GN a18
  have F19 := fun_mk (st := s__law_literal) l19 c19 k19
  have b19 := F19.binds (ps := ["_law_state"]) fun _ _ _ _ _ _ us hl => match us, hl with | [_], _ => rfl
  have m19 := PySem.W.mg_of X GN a19
  have F20 := fun_mk (st := s__law_text) l20 c20 k20
  have b20 := F20.binds (ps := ["_law_term_here"]) fun _ _ _ _ _ _ us hl => match us, hl with | [_], _ => rfl
  have m20 := PySem.W.mg_of X GN a20
  have F21 := fun_mk (st := s__law_formed) l21 c21 k21
  have b21 := F21.binds (ps := ["_law_literal_here"]) fun _ _ _ _ _ _ us hl => match us, hl with | [_], _ => rfl
  have m21 := PySem.W.mg_of X GN a21
  have F22 := fun_mk (st := s__law_said) l22 c22 k22
  have b22 := F22.binds (ps := ["_law_literal_here"]) fun _ _ _ _ _ _ us hl => match us, hl with | [_], _ => rfl
  have m22 := PySem.W.mg_of X GN a22
  have F23 := fun_mk (st := s__law_clause) l23 c23 k23
  have b23 := F23.binds (ps := ["_law_literals"]) fun _ _ _ _ _ _ us hl => match us, hl with | [_], _ => rfl
  have m23 := PySem.W.mg_of X GN a23
  have F24 := fun_mk (st := s__law_filled) l24 c24 k24
  have b24 := F24.binds (ps := ["_law_term_here", "_law_filling"]) fun _ _ _ _ _ _ us hl => match us, hl with | [_, _], _ => rfl
  have m24 := PySem.W.mg_of X GN a24
  have F25 := fun_mk (st := s__law_names) l25 c25 k25
  have b25 := F25.binds (ps := ["_law_term_here"]) fun _ _ _ _ _ _ us hl => match us, hl with | [_], _ => rfl
  have m25 := PySem.W.mg_of X GN a25
  have F26 := fun_mk (st := s_law) l26 c26 k26
  have b26 := F26.binds (ps := ["_law_script"]) fun _ _ _ _ _ _ us hl => match us, hl with | [_], _ => rfl
  have m26 := PySem.W.mg_of X GN a26
  have n1 := PySem.W.mg_none_of X GN z1
  have n2 := PySem.W.mg_none_of X GN z2
  have n3 := PySem.W.mg_none_of X GN z3
  have n4 := PySem.W.mg_none_of X GN z4
  have n5 := PySem.W.mg_none_of X GN z5
  have n6 := PySem.W.mg_none_of X GN z6
  have n7 := PySem.W.mg_none_of X GN z7
  have n8 := PySem.W.mg_none_of X GN z8
  have n9 := PySem.W.mg_none_of X GN z9
  have n10 := PySem.W.mg_none_of X GN z10
  have q1 : GC K mg "TOP" c_TOP := gc_tup (PySem.W.mg_of X GN y1) yl1 yt1
  refine ⟨PySem.W.fnOf "law" "law" (defArgs s_law) (defBody s_law) (defScope s_law) .none kV26 dc26 pm26 an26 cd26 ct26, fun s v => .of_eq rfl, fun base _ _ => ?_⟩
  have all : ∀ n, HasF l.prog w K mg base (2 * n) "unknowns_of" ["term"] (_root_.P.f1 (T n).d_unknowns_of) ∧ HasF l.prog w K mg base (2 * n) "fill_term" ["term", "filling"] (_root_.P.f2 (T n).d_fill_term) ∧ HasF l.prog w K mg base (2 * n) "term_text" ["term"] (_root_.P.f1 (T n).d_term_text) ∧ HasF l.prog w K mg base (2 * n) "_arguments" ["term"] (_root_.P.f1 (T n).d_arguments) ∧ HasF l.prog w K mg base (2 * n) "_all_parts" ["term"] (_root_.P.f1 (T n).d_all_parts) ∧ HasF l.prog w K mg base (2 * n) "make_literal" ["sign", "left", "right"] (_root_.P.f3 (T n).d_make_literal) ∧ HasF l.prog w K mg base (2 * n) "literal_text" ["literal"] (_root_.P.f1 (T n).d_literal_text) ∧ HasF l.prog w K mg base (2 * n) "opposite" ["literal"] (_root_.P.f1 (T n).d_opposite) ∧ HasF l.prog w K mg base (2 * n) "make_clause" ["literals"] (_root_.P.f1 (T n).d_make_clause) ∧ HasF l.prog w K mg base (2 * n) "fill_clause" ["clause", "filling"] (_root_.P.f2 (T n).d_fill_clause) ∧ HasF l.prog w K mg base (2 * n) "clause_text" ["clause"] (_root_.P.f1 (T n).d_clause_text) ∧ HasF l.prog w K mg base (2 * n) "clause_unknowns" ["clause"] (_root_.P.f1 (T n).d_clause_unknowns) ∧ HasF l.prog w K mg base (2 * n) "is_ground" ["clause"] (_root_.P.f1 (T n).d_is_ground) ∧ HasF l.prog w K mg base (2 * n) "always_true" ["clause"] (_root_.P.f1 (T n).d_always_true) ∧ HasF l.prog w K mg base (2 * n) "_fill_literal" ["literal", "filling"] (_root_.P.f2 (T n).d_fill_literal) ∧ HasF l.prog w K mg base (2 * n) "_law_start" ["_law_script"] (_root_.P.f1 (T n).d_law_start) ∧ HasF l.prog w K mg base (2 * n) "_law_take" ["_law_state", "_law_many"] (_root_.P.f2 (T n).d_law_take) ∧ HasF l.prog w K mg base (2 * n) "_law_term" ["_law_state", "_law_depth"] (_root_.P.f2 (T n).d_law_term) ∧ HasF l.prog w K mg base (2 * n) "_law_literal" ["_law_state"] (_root_.P.f1 (T n).d_law_literal) ∧ HasF l.prog w K mg base (2 * n) "_law_text" ["_law_term_here"] (_root_.P.f1 (T n).d_law_text) ∧ HasF l.prog w K mg base (2 * n) "_law_formed" ["_law_literal_here"] (_root_.P.f1 (T n).d_law_formed) ∧ HasF l.prog w K mg base (2 * n) "_law_said" ["_law_literal_here"] (_root_.P.f1 (T n).d_law_said) ∧ HasF l.prog w K mg base (2 * n) "_law_clause" ["_law_literals"] (_root_.P.f1 (T n).d_law_clause) ∧ HasF l.prog w K mg base (2 * n) "_law_filled" ["_law_term_here", "_law_filling"] (_root_.P.f2 (T n).d_law_filled) ∧ HasF l.prog w K mg base (2 * n) "_law_names" ["_law_term_here"] (_root_.P.f1 (T n).d_law_names) ∧ HasF l.prog w K mg base (2 * n) "law" ["_law_script"] (_root_.P.f1 (T n).d_law) := fun n => by
    induction n with
    | zero => exact ⟨hasNo_of fNo_f1 m1 F1.kp b1, hasNo_of fNo_f2 m2 F2.kp b2, hasNo_of fNo_f1 m3 F3.kp b3, hasNo_of fNo_f1 m4 F4.kp b4, hasNo_of fNo_f1 m5 F5.kp b5, hasNo_of fNo_f3 m6 F6.kp b6, hasNo_of fNo_f1 m7 F7.kp b7, hasNo_of fNo_f1 m8 F8.kp b8, hasNo_of fNo_f1 m9 F9.kp b9, hasNo_of fNo_f2 m10 F10.kp b10, hasNo_of fNo_f1 m11 F11.kp b11, hasNo_of fNo_f1 m12 F12.kp b12, hasNo_of fNo_f1 m13 F13.kp b13, hasNo_of fNo_f1 m14 F14.kp b14, hasNo_of fNo_f2 m15 F15.kp b15, hasNo_of fNo_f1 m16 F16.kp b16, hasNo_of fNo_f2 m17 F17.kp b17, hasNo_of fNo_f2 m18 F18.kp b18, hasNo_of fNo_f1 m19 F19.kp b19, hasNo_of fNo_f1 m20 F20.kp b20, hasNo_of fNo_f1 m21 F21.kp b21, hasNo_of fNo_f1 m22 F22.kp b22, hasNo_of fNo_f1 m23 F23.kp b23, hasNo_of fNo_f2 m24 F24.kp b24, hasNo_of fNo_f1 m25 F25.kp b25, hasNo_of fNo_f1 m26 F26.kp b26⟩
    | succ n ih =>
      obtain ⟨h1, h2, h3, h4, h5, h6, h7, h8, h9, h10, h11, h12, h13, h14, h15, h16, h17, h18, h19, h20, h21, h22, h23, h24, h25, h26⟩ := ih
      exact ⟨mk_hasF F1 (((ok_unknowns_of F1 h5 n1 n2 n3).imp fun _ _ _ _ => gc_f1).mono (show 2 * n + 1 ≤ 2 * (n + 1) by omega)) m1 b1,
        mk_hasF F2 (((ok_fill_term F2 h2 n1 n2 n4).imp fun _ _ _ _ => gc_f2).mono (show 2 * n + 1 ≤ 2 * (n + 1) by omega)) m2 b2,
        mk_hasF F3 (((ok_term_text F3 h3 n1 n2 n5 q1).imp fun _ _ _ _ => gc_f1).mono (show 2 * n + 1 ≤ 2 * (n + 1) by omega)) m3 b3,
        mk_hasF F4 (((ok__arguments F4 n1 n2).imp fun _ _ _ _ => gc_f1).mono (show 2 * n + 1 ≤ 2 * (n + 1) by omega)) m4 b4,
        mk_hasF F5 (((ok__all_parts F5 h4 h5).imp fun _ _ _ _ => gc_f1).mono (show 2 * n + 1 ≤ 2 * (n + 1) by omega)) m5 b5,
        mk_hasF F6 (((ok_make_literal F6 h3 q1).imp fun _ _ _ _ => gc_f3).mono (show 2 * n + 1 ≤ 2 * (n + 1) by omega)) m6 b6,
        mk_hasF F7 (((ok_literal_text F7 h3 q1).imp fun _ _ _ _ => gc_f1).mono (show 2 * n + 1 ≤ 2 * (n + 1) by omega)) m7 b7,
        mk_hasF F8 (((ok_opposite F8 ).imp fun _ _ _ _ => gc_f1).mono (show 2 * n + 1 ≤ 2 * (n + 1) by omega)) m8 b8,
        mk_hasF F9 (((ok_make_clause F9 h7 n6 n4).imp fun _ _ _ _ => gc_f1).mono (show 2 * n + 1 + 1 ≤ 2 * (n + 1) by omega)) m9 b9,
        mk_hasF F10 (((ok_fill_clause F10 h9 h15).imp fun _ _ _ _ => gc_f2).mono (show 2 * n + 1 ≤ 2 * (n + 1) by omega)) m10 b10,
        mk_hasF F11 (((ok_clause_text F11 h7 n5).imp fun _ _ _ _ => gc_f1).mono (show 2 * n + 1 ≤ 2 * (n + 1) by omega)) m11 b11,
        mk_hasF F12 (((ok_clause_unknowns F12 h1 n3).imp fun _ _ _ _ => gc_f1).mono (show 2 * n + 1 ≤ 2 * (n + 1) by omega)) m12 b12,
        mk_hasF F13 (((ok_is_ground F13 h12 n5).imp fun _ _ _ _ => gc_f1).mono (show 2 * n + 1 ≤ 2 * (n + 1) by omega)) m13 b13,
        mk_hasF F14 (((ok_always_true F14 h8).imp fun _ _ _ _ => gc_f1).mono (show 2 * n + 1 ≤ 2 * (n + 1) by omega)) m14 b14,
        mk_hasF F15 (((ok__fill_literal F15 h6 h2).imp fun _ _ _ _ => gc_f2).mono (show 2 * n + 1 ≤ 2 * (n + 1) by omega)) m15 b15,
        mk_hasF F16 (((ok__law_start F16 n7 n5 n8 n9).imp fun _ _ _ _ => gc_f1).mono (show 2 * n + 1 ≤ 2 * (n + 1) by omega)) m16 b16,
        mk_hasF F17 (((ok__law_take F17 n5 n9).imp fun _ _ _ _ => gc_f2).mono (show 2 * n + 1 ≤ 2 * (n + 1) by omega)) m17 b17,
        mk_hasF F18 (((ok__law_term F18 h17 h18).imp fun _ _ _ _ => gc_f2).mono (show 2 * n + 1 ≤ 2 * (n + 1) by omega)) m18 b18,
        mk_hasF F19 (((ok__law_literal F19 h17 h18 q1).imp fun _ _ _ _ => gc_f1).mono (show 2 * n + 1 ≤ 2 * (n + 1) by omega)) m19 b19,
        mk_hasF F20 (((ok__law_text F20 h20 n1 n2 n5).imp fun _ _ _ _ => gc_f1).mono (show 2 * n + 1 ≤ 2 * (n + 1) by omega)) m20 b20,
        mk_hasF F21 (((ok__law_formed F21 h20 q1).imp fun _ _ _ _ => gc_f1).mono (show 2 * n + 1 ≤ 2 * (n + 1) by omega)) m21 b21,
        mk_hasF F22 (((ok__law_said F22 h20 q1).imp fun _ _ _ _ => gc_f1).mono (show 2 * n + 1 ≤ 2 * (n + 1) by omega)) m22 b22,
        mk_hasF F23 (((ok__law_clause F23 h21 h22 n4 n6).imp fun _ _ _ _ => gc_f1).mono (show 2 * n + 1 + 1 ≤ 2 * (n + 1) by omega)) m23 b23,
        mk_hasF F24 (((ok__law_filled F24 h24 n1 n2 n4).imp fun _ _ _ _ => gc_f2).mono (show 2 * n + 1 ≤ 2 * (n + 1) by omega)) m24 b24,
        mk_hasF F25 (((ok__law_names F25 h25 n1 n2).imp fun _ _ _ _ => gc_f1).mono (show 2 * n + 1 ≤ 2 * (n + 1) by omega)) m25 b25,
        mk_hasF F26 (((ok_law F26 h16 h17 h19 h23 h9 h6 h22 h7 h11 h25 h13 h12 h18 h24 h2 h10 h8 h14 n7 n5 n4 n1 n10 q1).imp fun _ _ _ _ => gc_f1).mono (show 2 * n + 1 ≤ 2 * (n + 1) by omega)) m26 b26⟩
  obtain ⟨h1, h2, h3, h4, h5, h6, h7, h8, h9, h10, h11, h12, h13, h14, h15, h16, h17, h18, h19, h20, h21, h22, h23, h24, h25, h26⟩ := all 99
  exact ((ok_law F26 h16 h17 h19 h23 h9 h6 h22 h7 h11 h25 h13 h12 h18 h24 h2 h10 h8 h14 n7 n5 n4 n1 n10 q1).imp fun _ _ _ _ => gc_f1).mono (by decide)
end Q87
open PySem PySem.W PyProof.Rows
set_option maxRecDepth 100000 in
set_option maxHeartbeats 0 in
theorem PySem.Challenge.cw_worldorpaper_k87_one_form_of_a_clause_holds : PySem.Challenge.rw_worldorpaper_k87_one_form_of_a_clause.Holds := by
  w_on; o_law; k_head; (case hw => w_witness2)
  k_fill
  refine P.walkP (l := PySem.Challenge.rw_worldorpaper_k87_one_form_of_a_clause) (k := 200) (f := P.f1 (Q87.T 100).d_law) rfl rfl (fun w h Y => PySem.W.kIn_of Y) ⟨rfl, by decide, by decide⟩ ?F Q87.law_true
  case F =>
    intro w mg fa h KX G hmg
    refine' Q87.all_mk KX G hmg ?a1 ?l1 ?c1 ?k1 ?a2 ?l2 ?c2 ?k2 ?a3 ?l3 ?c3 ?k3 ?a4 ?l4 ?c4 ?k4 ?a5 ?l5 ?c5 ?k5 ?a6 ?l6 ?c6 ?k6 ?a7 ?l7 ?c7 ?k7 ?a8 ?l8 ?c8 ?k8 ?a9 ?l9 ?c9 ?k9 ?a10 ?l10 ?c10 ?k10 ?a11 ?l11 ?c11 ?k11 ?a12 ?l12 ?c12 ?k12 ?a13 ?l13 ?c13 ?k13 ?a14 ?l14 ?c14 ?k14 ?a15 ?l15 ?c15 ?k15 ?a16 ?l16 ?c16 ?k16 ?a17 ?l17 ?c17 ?k17 ?a18 ?l18 ?c18 ?k18 ?a19 ?l19 ?c19 ?k19 ?a20 ?l20 ?c20 ?k20 ?a21 ?l21 ?c21 ?k21 ?a22 ?l22 ?c22 ?k22 ?a23 ?l23 ?c23 ?k23 ?a24 ?l24 ?c24 ?k24 ?a25 ?l25 ?c25 ?k25 ?a26 ?l26 ?c26 ?k26 ?z1 ?z2 ?z3 ?z4 ?z5 ?z6 ?z7 ?z8 ?z9 ?z10 ?y1 ?yl1 ?yt1
    (case a1 => first | k_is | rfl)
    (case l1 => first | k_is | rfl)
    (case c1 => first | k_is | rfl)
    (case k1 => first | k_is | rfl)
    (case a2 => first | k_is | rfl)
    (case l2 => first | k_is | rfl)
    (case c2 => first | k_is | rfl)
    (case k2 => first | k_is | rfl)
    (case a3 => first | k_is | rfl)
    (case l3 => first | k_is | rfl)
    (case c3 => first | k_is | rfl)
    (case k3 => first | k_is | rfl)
    (case a4 => first | k_is | rfl)
    (case l4 => first | k_is | rfl)
    (case c4 => first | k_is | rfl)
    (case k4 => first | k_is | rfl)
    (case a5 => first | k_is | rfl)
    (case l5 => first | k_is | rfl)
    (case c5 => first | k_is | rfl)
    (case k5 => first | k_is | rfl)
    (case a6 => first | k_is | rfl)
    (case l6 => first | k_is | rfl)
    (case c6 => first | k_is | rfl)
    (case k6 => first | k_is | rfl)
    (case a7 => first | k_is | rfl)
    (case l7 => first | k_is | rfl)
    (case c7 => first | k_is | rfl)
    (case k7 => first | k_is | rfl)
    (case a8 => first | k_is | rfl)
    (case l8 => first | k_is | rfl)
    (case c8 => first | k_is | rfl)
    (case k8 => first | k_is | rfl)
    (case a9 => first | k_is | rfl)
    (case l9 => first | k_is | rfl)
    (case c9 => first | k_is | rfl)
    (case k9 => first | k_is | rfl)
    (case a10 => first | k_is | rfl)
    (case l10 => first | k_is | rfl)
    (case c10 => first | k_is | rfl)
    (case k10 => first | k_is | rfl)
    (case a11 => first | k_is | rfl)
    (case l11 => first | k_is | rfl)
    (case c11 => first | k_is | rfl)
    (case k11 => first | k_is | rfl)
    (case a12 => first | k_is | rfl)
    (case l12 => first | k_is | rfl)
    (case c12 => first | k_is | rfl)
    (case k12 => first | k_is | rfl)
    (case a13 => first | k_is | rfl)
    (case l13 => first | k_is | rfl)
    (case c13 => first | k_is | rfl)
    (case k13 => first | k_is | rfl)
    (case a14 => first | k_is | rfl)
    (case l14 => first | k_is | rfl)
    (case c14 => first | k_is | rfl)
    (case k14 => first | k_is | rfl)
    (case a15 => first | k_is | rfl)
    (case l15 => first | k_is | rfl)
    (case c15 => first | k_is | rfl)
    (case k15 => first | k_is | rfl)
    (case a16 => first | k_is | rfl)
    (case l16 => first | k_is | rfl)
    (case c16 => first | k_is | rfl)
    (case k16 => first | k_is | rfl)
    (case a17 => first | k_is | rfl)
    (case l17 => first | k_is | rfl)
    (case c17 => first | k_is | rfl)
    (case k17 => first | k_is | rfl)
    (case a18 => first | k_is | rfl)
    (case l18 => first | k_is | rfl)
    (case c18 => first | k_is | rfl)
    (case k18 => first | k_is | rfl)
    (case a19 => first | k_is | rfl)
    (case l19 => first | k_is | rfl)
    (case c19 => first | k_is | rfl)
    (case k19 => first | k_is | rfl)
    (case a20 => first | k_is | rfl)
    (case l20 => first | k_is | rfl)
    (case c20 => first | k_is | rfl)
    (case k20 => first | k_is | rfl)
    (case a21 => first | k_is | rfl)
    (case l21 => first | k_is | rfl)
    (case c21 => first | k_is | rfl)
    (case k21 => first | k_is | rfl)
    (case a22 => first | k_is | rfl)
    (case l22 => first | k_is | rfl)
    (case c22 => first | k_is | rfl)
    (case k22 => first | k_is | rfl)
    (case a23 => first | k_is | rfl)
    (case l23 => first | k_is | rfl)
    (case c23 => first | k_is | rfl)
    (case k23 => first | k_is | rfl)
    (case a24 => first | k_is | rfl)
    (case l24 => first | k_is | rfl)
    (case c24 => first | k_is | rfl)
    (case k24 => first | k_is | rfl)
    (case a25 => first | k_is | rfl)
    (case l25 => first | k_is | rfl)
    (case c25 => first | k_is | rfl)
    (case k25 => first | k_is | rfl)
    (case a26 => first | k_is | rfl)
    (case l26 => first | k_is | rfl)
    (case c26 => first | k_is | rfl)
    (case k26 => first | k_is | rfl)
    (case z1 => first | k_is | rfl)
    (case z2 => first | k_is | rfl)
    (case z3 => first | k_is | rfl)
    (case z4 => first | k_is | rfl)
    (case z5 => first | k_is | rfl)
    (case z6 => first | k_is | rfl)
    (case z7 => first | k_is | rfl)
    (case z8 => first | k_is | rfl)
    (case z9 => first | k_is | rfl)
    (case z10 => first | k_is | rfl)
    (case y1 => first | k_is | rfl)
    (case yl1 => first | k_is | rfl)
    (case yt1 => decide +kernel)

